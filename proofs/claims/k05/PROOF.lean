import PyProof.Rows.All
import Wide.All
import OpenK.AllK
import Wide.FinOn
import HandS.ForMost
import HandS.OwnEq
import HandS.IsInst
import PyProof.InstEq
import HandS.Defaults
import PyProof.AutoSeq1
import PyProof.ListOps
import PyProof.EqKinds
import PyProof.EqAt
import HandS.Exc
import HandS.Flow
import HandS.Wide
import HandS.WideMore
import HandS.Gcd
import HandS.Codes
import HandS.Style
import HandS.Conv
import HandS.NoneIn
import PySem.Challenge.RW_farlamps_k05_whole_three_lamps
set_option Elab.async false
set_option linter.all false
set_option maxRecDepth 100000
namespace Own
open PySem L2
/-! ### == by an own __eq__ that hands back a truth: both answers -/
/-- what isinstance asks of an own class -/
structure Kls (K : PySem.W.Frag) (C : Addr) : Prop where
  cl : Cls K C
  ha : PySem.W.findIn K (.ref C) "__class__" = some (some (.builtin "object.__class__"))
  hn : PySem.W.specialIn K (.builtin "object.__class__") "__get__" = some (some (.builtin "getset_descriptor.__get__"))
  htk : PySem.W.takesIn K (.builtin "object.__class__") = some true
  hm : PySem.W.mroIn K C (.type "object") = some true
theorem Kls.ty {K : PySem.W.Frag} {H : Hp} {a C dx : Addr} {fs : List (Str × V)} (k : Kls K C) (e : H a = some (.ins C dx fs)) : TyX K H (.ref a) (.ref C) := .base (.ins e k.cl k.ha k.hn k.htk k.hm)
section
variable {X : Cx} {n : Nat}
theorem looks_ty {x : V} {u t : Value} {pins : List (Addr × Obj)} {σ : St} {H : Hp} {s : Shared} (I : Inv X pins σ H s) (rx : RelV x u) (ty : TyX X.K H x t) : PySem.W.Looks (model X.prog X.w) s.heap (typeOf u) t := by
  obtain ⟨P, Z, p, _⟩ := kit_of I rx ty
  exact Z.ty (model X.prog X.w) s.heap I.kIn p
def rEqOwn (K : PySem.W.Frag) (C : Addr) (sp : Sp) (E : XK) : R2 := fun x y H Q => ∃ a dx fs t, x = .ref a ∧ H a = some (.ins C dx fs) ∧ TyX K H y t ∧ PySem.W.notFirst K C t = true ∧
  sp [x, y] H (fun v H' => ∃ b, v = .bl b ∧ Q (.bl b) H') E
theorem op_eqOwn {CX : CXT} {C f : Addr} {fd : FuncData} {ps : List Str} {sp : Sp} {E : XK} (hm : Meth X.K C "__eq__" f) (F : FnOk X.prog X.w X.K X.mg X.base CX n f fd ps sp) (hb : Binds X.K fd ps []) (hr : Room n X.A) (hx : Passes CX X E) :
    OpR X (compareOp .Eq) (rEqOwn X.K C sp E) := by
  intro pins s σ H x y v u Q I rx ry hq
  obtain ⟨a, dx, fs, t, rfl, ha, ty, nf, hsp⟩ := hq
  cases rx
  have lt := looks_ty I ry ty
  obtain ⟨mA, J, _⟩ := ins_get I.hok ha
  obtain ⟨od, J, _⟩ := J.look
  obtain ⟨m, hF⟩ := I.fr
  show wpAny (model X.prog X.w) X.A (richCompare .Eq (.ref a) u) (EP X pins σ Q) X.xe s
  refine PySem.W.cmp_K (op := .Eq) hr.units0 hF I.ok.mod.kin J lt nf hm.at_ hm.fn ?_
  have hl := F.len _ _ _ _ hsp
  have r2 : Vals [V.ref a, y] [Value.ref a, u] := .cons rfl (.cons ry .nil)
  refine wpAny_call (codeAny_mono (F.run X.A X.stack s H ⟨[.ref a, u], []⟩ [.ref a, u] [.ref a, y] _ E hr I.env0 (by
    have := hb s [.ref a, u] I.kIn (by simpa using hl)
    simpa using this) r2 hsp) fun r s' hq => ?_)
  cases r with
  | error e => exact hx pins σ H s e s' I hq
  | ok fl =>
    cases fl with
    | ret w =>
      obtain ⟨z, H', I', rz, b, ez, q⟩ := I.after hq
      subst ez
      cases rz
      exact ⟨.bl b, H', I', rfl, q⟩
    | next => exact False.elim hq
    | brk => exact False.elim hq
    | cont => exact False.elim hq
end
theorem kit_no {K : PySem.W.Frag} {C : Addr} {T : String} (h2 : PySem.W.isClsIn K C = true) (h3 : PySem.W.typeIn K (.ref C) = some (.type "type")) (h4 : PySem.W.subIn K (.type T) (.ref C) = some false) : PySem.W.kitOne K (.type T) (.ref C) = some false := by
  have e2 : ((PySem.W.clsIn K C).isSome && PySem.W.typeIn K (.ref C) == some (.type "type")) = true := by
    have h2' : (PySem.W.clsIn K C).isSome = true := h2
    rw [h2', h3] <;> rfl
  have e0 : ¬ (Value.type T == Value.ref C) = true := by simp
  unfold PySem.W.kitOne
  rw [if_neg e0]
  show (if ((PySem.W.clsIn K C).isSome && PySem.W.typeIn K (.ref C) == some (.type "type")) = true then PySem.W.subIn K (.type T) (.ref C) else none) = some false
  rw [if_pos e2]
  exact h4

/-! ### != of instances whose class has an own __eq__ and no __ne__ -/
section
open PySem.W
variable {prog : Program} {w : World} {A : Around} {E : Value → Shared → Prop} {s : Shared} {K : PySem.W.Frag} {x C L f : Addr} {h₀ : Heap} {m : Str → Option Value} {ox : Obj} {od : Option Obj} {b tb : Value}
theorem ne_entry {P : Fin → Shared → Prop} (hu : A.units < cLine) (X : K.In s.heap) (I : InstAt s.heap x ox C od) (hs : findIn K (.ref C) "__eq__" = some (some (.ref f))) (hf : isFn K (.ref f) = true)
    (h : wpAny (model prog w) A (call (.ref f) [.ref x, b]) (fun v s' => ∃ r, v = .bool r ∧ P (.done (.ret (.bool (!r)))) s') E s) :
    wpAny (model prog w) A (Builtin.«object.__ne__» ⟨[.ref x, b], []⟩) P E s := by
  unfold Builtin.«object.__ne__»
  iterate 6 (first
    | with_reducible refine wpAny_cRoomFor hu ?_
    | wp_step)
  refine wpAny_cRoomFor hu ?_
  refine wpAny_bind (ifBound_K X I hs hf (wpAny_mono h (fun v s' hv => ?_) fun _ _ e => e))
  obtain ⟨r, rfl, hp⟩ := hv
  dsimp only
  refine wpAny_bind ?_
  iterate 3 (try wp_step)
  exact wpAny_pure hp
theorem ne_check {Q : Unit → Shared → Prop} (X : K.In s.heap) (I : InstAt s.heap x ox C od) (ho : subIn K (.ref C) (.type "object") = some true) (hq : Q () s) :
    wpAny (model prog w) A (checkBuiltinCall "object.__ne__" ⟨[.ref x, b], []⟩) Q E s := by
  have LI : Looks (model prog w) s.heap (isInstance (.ref x) (.type "object")) true := I.type.andThen (looks_subIn X ho)
  simp only [checkBuiltinCall, PySem.F.cmpKind_ne, PySem.F.cmpSplit_ne]
  refine wpAny_bind (LI.here ?_)
  cases hsig : Manifest.signature? "object.__ne__" with
  | none => repeat wp_step
            all_goals exact hq
  | some sig =>
    have ha := PySem.F.cmpArgs_ne (.ref x) b
    simp only [argsOk, hsig] at ha
    have h2 : Bind.checkArgs "object.__ne__" sig ⟨.ref x :: [b], []⟩ = pure () := ha
    show wpAny _ A (Bind.checkArgs "object.__ne__" sig ⟨.ref x :: [b], []⟩) Q E _
    rw [h2]
    exact wpAny_pure hq
end
section
open PySem.W
variable {prog : Program} {w : World} {A : Around} {E : Value → Shared → Prop} {s : Shared} {K : PySem.W.Frag} {x C L f : Addr} {h₀ : Heap} {m : Str → Option Value} {ox : Obj} {od : Option Obj} {b tb : Value}
theorem ne_bound {Q : Option Value → Shared → Prop} (hu : A.units + 1 < cLine) (X : K.In s.heap) (I : InstAt s.heap x ox C od) (hs : findIn K (.ref C) "__eq__" = some (some (.ref f))) (hf : isFn K (.ref f) = true)
    (hn : findIn K (.ref C) "__ne__" = some (some (.builtin "object.__ne__"))) (ho : subIn K (.ref C) (.type "object") = some true)
    (h : wpAny (model prog w) A.in1 (call (.ref f) [.ref x, b]) (fun v s' => ∃ r, v = .bool r ∧ Q (some (.bool (!r))) s') E s) :
    wpAny (model prog w) A (callSpecialIfBound? (.ref x) "__ne__" [b]) Q E s := by
  simp only [callSpecialIfBound?, bindSpecialIfBound?]
  refine wpAny_holding (wpAny_bind (wpAny_bind (wpAny_bind (I.type.here ((looks_findIn X hn).here ?_)))))
  simp only [PySem.F.cmp_object.ne.bind]
  refine wpAny_bind (wpAny_askSetting (wpAny_ite ?_))
  have fin : wpAny (model prog w) A (call (.builtin "object.__ne__") ([.ref x] ++ [b]) >>= fun v => pure (some v)) Q E s :=
    wpAny_bind (wpAny_call (codeAny_call_builtin PySem.F.cmp_object.ne.plain PySem.F.cmpEntry_ne (ne_check X I ho (ne_entry (A := A.in1) hu X I hs hf
      (wpAny_mono h (fun v s' hv => by obtain ⟨r, rfl, hp⟩ := hv; exact ⟨r, rfl, wpAny_pure hp⟩) fun _ _ e => e)))))
  split
  · exact wpAny_bind (wpAny_pure (wpAny_pure fin))
  · exact wpAny_tryCatch (wpAny_bind (wpAny_pure (wpAny_pure fin)))
theorem ne_K {Q : Value → Shared → Prop} (hu : A.units + 1 < cLine) (F : PyProof.Rows.Fr h₀ L s.heap m) (X₀ : K.In h₀) (I : InstAt s.heap x ox C od) (hb : Looks (model prog w) s.heap (typeOf b) tb) (hnf : notFirst K C tb = true)
    (hs : findIn K (.ref C) "__eq__" = some (some (.ref f))) (hf : isFn K (.ref f) = true)
    (hn : findIn K (.ref C) "__ne__" = some (some (.builtin "object.__ne__"))) (ho : subIn K (.ref C) (.type "object") = some true)
    (h : wpAny (model prog w) A.in1 (call (.ref f) [.ref x, b]) (fun v s' => ∃ r, v = .bool r ∧ Q (.bool (!r)) s') E s) : wpAny (model prog w) A (richCompare .NotEq (.ref x) b) Q E s := by
  have X := X₀.keeps F.keep
  have one : wpAny (model prog w) A (tryCompare (.ref x) "__ne__" b) (fun r s' => ∃ v, r = some v ∧ Q v s') E s := by
    unfold tryCompare
    refine wpAny_bind (ne_bound hu X I hs hf hn ho (wpAny_mono h (fun v s' hv => ?_) fun _ _ e => e))
    obtain ⟨r, rfl, hp⟩ := hv
    exact ⟨r, rfl, wpAny_pure ⟨_, rfl, hp⟩⟩
  unfold richCompare
  simp only [oneThing_ref]
  refine wpAny_holding (wpAny_bind (wpAny_cRoomFor (by omega) ?_))
  refine wpAny_bind (I.type.here (wpAny_bind (hb.here ?_)))
  split
  · rename_i q
    have e : subIn K tb (.ref C) = some false := by
      rcases Bool.or_eq_true_iff.mp hnf with e | e
      · rw [beq_iff_eq.mp e] at q; simp at q
      · exact beq_iff_eq.mp e
    refine wpAny_bind ((looks_subIn X e).here ?_)
    simp only [Bool.false_eq_true, if_false]
    refine wpAny_bind (wpAny_mono one (fun r s' z => ?_) fun _ _ e => e)
    obtain ⟨v, rfl, hq⟩ := z
    exact wpAny_pure hq
  · refine wpAny_bind (wpAny_pure ?_)
    simp only [Bool.false_eq_true, if_false]
    refine wpAny_bind (wpAny_mono one (fun r s' z => ?_) fun _ _ e => e)
    obtain ⟨v, rfl, hq⟩ := z
    exact wpAny_pure hq
end
/-- what != by an own __eq__ asks of the class -/
structure NeK (K : PySem.W.Frag) (C : Addr) : Prop where
  ne : PySem.W.findIn K (.ref C) "__ne__" = some (some (.builtin "object.__ne__"))
  ob : PySem.W.subIn K (.ref C) (.type "object") = some true
section
variable {X : Cx} {n : Nat}
def rNeOwn (K : PySem.W.Frag) (C : Addr) (sp : Sp) (E : XK) : R2 := fun x y H Q => ∃ a dx fs t, x = .ref a ∧ H a = some (.ins C dx fs) ∧ TyX K H y t ∧ PySem.W.notFirst K C t = true ∧
  sp [x, y] H (fun v H' => ∃ b, v = .bl b ∧ Q (.bl (!b)) H') E
theorem op_neOwn {CX : CXT} {C f : Addr} {fd : FuncData} {ps : List Str} {sp : Sp} {E : XK} (hm : Meth X.K C "__eq__" f) (F : FnOk X.prog X.w X.K X.mg X.base CX n f fd ps sp) (hb : Binds X.K fd ps []) (hr : Room (n + 1) X.A) (hx : Passes CX X E) (hk : NeK X.K C) :
    OpR X (compareOp .NotEq) (rNeOwn X.K C sp E) := by
  intro pins s σ H x y v u Q I rx ry hq
  obtain ⟨a, dx, fs, t, rfl, ha, ty, nf, hsp⟩ := hq
  cases rx
  have lt := looks_ty I ry ty
  obtain ⟨mA, J, _⟩ := ins_get I.hok ha
  obtain ⟨od, J, _⟩ := J.look
  obtain ⟨m, hF⟩ := I.fr
  show wpAny (model X.prog X.w) X.A (richCompare .NotEq (.ref a) u) (EP X pins σ Q) X.xe s
  refine ne_K (by have := hr.un; omega) hF I.ok.mod.kin J lt nf hm.at_ hm.fn hk.ne hk.ob ?_
  have hl := F.len _ _ _ _ hsp
  have r2 : Vals [V.ref a, y] [Value.ref a, u] := .cons rfl (.cons ry .nil)
  refine wpAny_call (codeAny_mono (F.run X.A.in1 X.stack s H ⟨[.ref a, u], []⟩ [.ref a, u] [.ref a, y] _ E hr.in1 I.env0.in1 (by
    have := hb s [.ref a, u] I.kIn (by simpa using hl)
    simpa using this) r2 hsp) fun r s' hq => ?_)
  cases r with
  | error e => exact hx pins σ H s e s' I hq
  | ok fl =>
    cases fl with
    | ret w =>
      obtain ⟨z, H', I', rz, b, ez, q⟩ := I.after hq
      subst ez
      cases rz
      exact ⟨b, rfl, .bl (!b), H', I', rfl, q⟩
    | next => exact False.elim hq
    | brk => exact False.elim hq
    | cont => exact False.elim hq
end

/-! ### calls by keywords, no defaults -/
def permL {α : Type} (p : List Nat) (ws : List α) : List α := p.filterMap fun i => ws[i]?
theorem vals_perm {zs : List V} {ws : List Value} (r : Vals zs ws) : ∀ p : List Nat, Vals (permL p zs) (permL p ws)
  | [] => .nil
  | i :: p => by
    unfold permL
    rw [List.filterMap_cons, List.filterMap_cons]
    cases e : zs[i]? with
    | none =>
      rw [r.none_of e]
      exact vals_perm r p
    | some x =>
      obtain ⟨u, e2, ru⟩ := r.get e
      rw [e2]
      exact .cons ru (vals_perm r p)
theorem Fun.kbn {K : PySem.W.Frag} {x qual : Str} {st : Stmt} {f : Addr} {fd : FuncData} {ps : List Str} (F : L2.Fun K x qual st f fd) (n : Nat) (ks : List Str) (p : List Nat)
    (h : ∀ (kV doc pm : Value) (an : Option Addr) (cdv ct : Value) (us ws : List Value), us.length = n → ws.length = ks.length →
      bindArgs (PySem.W.fnOf x qual (defArgs st) (defBody st) (defScope st) .none kV doc pm an cdv ct) ⟨us, ks.zip ws⟩ = pure (ps.zip (us ++ permL p ws))) :
    KBn K fd ps n ks (fun us ws => us ++ permL p ws) (fun vs zs => vs ++ permL p zs) := by
  obtain ⟨oc, od, kV, doc, pm, an, cdv, ct, osl, rfl, lk, hcd⟩ := F.ex
  exact ⟨fun s us ws _ l1 l2 => BindsTo.of_eq (h kV doc pm an cdv ct us ws l1 l2), fun r rz => r.append (vals_perm rz p)⟩
section
variable {X : Cx} {CX : CXT} {k n : Nat} {f C : Addr} {fd : FuncData} {ps ks : List Str} {sp : Sp} {E : XK} {x m : Str} {p pos apos kpos : Pos} {e o : Expr} {es : List Expr} {kws : List Keyword} {te ta : TE} {t tk : TA} {nm : Option Str}
variable {g : List Value → List Value → List Value} {gV : List V → List V → List V}
/-- f(k = v, ..) -/
theorem pe_callN0 (F : FnOk X.prog X.w X.K X.mg X.base CX k f fd ps sp) (hr : Room k X.A) (hg : Gl X x) (hm : X.mg x = some (.ref f)) (hk : PySem.W.keepIn X.K (.ref f) = true) (hb : KBn X.K fd ps 0 ks g gV) (hx : Passes CX X E)
    (hkw : PK X kws tk) (hall : (backToKw pos (keywordEach kws X.env)).all (·.1.isSome) = true := by rfl) (hks : (backToKw pos (keywordEach kws X.env)).filterMap (·.1) = ks := by rfl)
    (hdb : (x == ("__debug__" : Str)) = false := by decide) 
    (hpl : ((backTo pos (starEach [] X.env)).any (·.1) || (backToKw pos (keywordEach kws X.env)).any (·.1.isNone)) = false := by rfl) :
    PE X (.Call (.Name x p) [] kws pos) (tCallN 0 ks.length sp gV E tNil tk) := by
  refine ⟨fun pins s σ H Q I h => ?_⟩
  refine wpAny_Call_Name_kw (ld_glob I hg hm ?_ hdb)
  refine PySem.W.callWith_KW0 (h₀ := X.base) I.ok.mod.kin hk hall ?_ hpl
  refine thn (hkw.run pos pins s σ H _ I h) fun ws s2 ⟨zs, H2, I2, rz, l1, l2, q2⟩ => ⟨I2.kIn, ?_⟩
  rw [hks]
  exact run_fnN (us := []) (vs := []) F hr hb hx I2 .nil rz l1 l2 q2
end
section
variable {X : Cx} {CX : CXT} {k : Nat} {f C : Addr} {fd : FuncData} {ps ks : List Str} {sp : Sp} {E : XK} {m : Str} {pos apos : Pos} {o : Expr} {kws : List Keyword} {ta : TE} {tk : TA} {g : List Value → List Value → List Value} {gV : List V → List V → List V}
/-- o.m(k = v, ..) -/
def tMethN (C : Addr) (m : Str) (n : Nat) (sp : Sp) (gV : List V → List V → List V) (E : XK) (ta : TE) (tk : TA) : TE := fun σ H Q => ta σ H fun x H1 => ∃ a dx fs, x = .ref a ∧ H1 a = some (.ins C dx fs) ∧ fs.lookup m = none ∧
  tk σ H1 fun zs H2 => zs.length = n ∧ sp (gV [x] zs) H2 Q E
theorem pe_methN0 {pl : Sem Bool} (he : PE X o ta) (c : Cls X.K C) (hm : Meth X.K C m f) (F : FnOk X.prog X.w X.K X.mg X.base CX k f fd ps sp) (hr : Room k X.A) (hb : KBn X.K fd ps 1 ks g gV) (hx : Passes CX X E) (hkw : PK X kws tk)
    (hall : (backToKw pos (keywordEach kws X.env)).all (·.1.isSome) = true := by rfl) (hks : (backToKw pos (keywordEach kws X.env)).filterMap (·.1) = ks := by rfl)
    (hpl : ((backTo pos (starEach [] X.env)).any (·.1) || (backToKw pos (keywordEach kws X.env)).any (·.1.isNone)) = false := by rfl)
    (ht : eval (.Call (.Attribute o m apos) [] kws pos) X.env = (do
      let ov ← eval o X.env
      standAt apos.atName
      let (f, first) ← holding [ov] (getMethod ov m pl)
      callWith pos f first (backTo pos (starEach [] X.env)) (backToKw pos (keywordEach kws X.env))) := by rfl) :
    PE X (.Call (.Attribute o m apos) [] kws pos) (tMethN C m ks.length sp gV E ta tk) := by
  refine ⟨fun pins s σ H Q I h => ?_⟩
  refine PySem.W.methodCall_KW (pl := pl) (thn (he.run pins s σ H _ I h) fun u s1 ⟨x, H1, I1, rx, a, dx, fs, ex, ea, l, q⟩ => ?_) ht
  subst ex
  obtain rfl : u = Value.ref a := rx
  refine getmeth_ok I1 ea c hm l ?_
  refine PySem.W.callWith_KW0 (first := [.ref a]) (h₀ := X.base) I1.ok.mod.kin hm.kp hall ?_ hpl
  refine thn (hkw.run pos pins s1 σ H1 _ I1 q) fun ws s2 ⟨zs, H2, I2, rz, l2, q2⟩ => ⟨I2.kIn, ?_⟩
  rw [hks]
  exact run_fnN (us := [.ref a] ++ []) (vs := [.ref a]) F hr hb hx I2 (show Vals [V.ref a] [Value.ref a] from .cons rfl .nil) rz rfl l2 q2
end

/-! ### within a comprehension: what hangs on the written part alone -/
section
variable {X : Cx} {K : PySem.W.Frag} {e : Expr} {f : Str} {pos : Pos} {ta : TE}
theorem pe_fldB (hK : X.K = K) (he : PE X e ta) (hb : attributeBase e f X.env (eval e X.env) = eval e X.env) : PE X (.Attribute e f pos) (tFld K ta f) := by
  subst hK
  exact pe_fld he hb
theorem ix_listB (hK : X.K = K) : L2.IxR X (rIxL K) := by
  subst hK
  exact ix_list
end
section
variable {X : Cx} {K : PySem.W.Frag}
theorem pg_tupB {es : List Expr} {pos : Pos} {k : Nat} {t : TGs} {n : Nat} (hK : X.K = K) (hc : X.calm = true) (h : PGs X es t)
    (hn : (assignEach es X.env).length = n := by rfl) (hst : (assignEach es X.env).findIdx? (·.1) = none := by rfl) : PG X (.Tuple es k pos) (gTup K n t) := by
  subst hK
  exact pg_tup hc h hn hst
theorem pt_truthB {a : Expr} {ta : TE} (hK : X.K = K) (ha : PE X a ta) (he : ∀ whole, isTrue a X.env whole = (do let v ← whole; standAt a.pos; holding [v] (truthy v))) :
    PT X a (fun σ H Q => ta σ H fun x H' => ∃ k, TruV K x H' k ∧ Q k H') := by
  subst hK
  exact pt_truth ha he
theorem ix_tupB (hK : X.K = K) : L2.IxR X (rIxT K) := by
  subst hK
  exact ix_tup
theorem call_isiB (hK : X.K = K) : CallR X (.builtin "isinstance") (rIsi K) := by
  subst hK
  exact call_isi
end

/-! ### list + list, where the lists are read only (the script) -/
section
open PySem.AutoSeq1 in
theorem list_add_sl (l : Addr) (items : Array Value) (n : Nat) (sl : Array (Option Value)) (b : Addr) (items2 : Array Value) (n2 : Nat) (sl2 : Array (Option Value)) (hc0 : items.size + items2.size ≤ sizeLine) :
    Meets (Builtin.«list.__add__» ⟨[.ref l, .ref b], []⟩) (fun _ R s => s.heap.get? l = some { cls := .type "list", dict := none, data := .seq items n, slots := sl } ∧ s.heap.get? b = some { cls := .type "list", dict := none, data := .seq items2 n2, slots := sl2 } ∧
      R (.ok (.ret (Value.ref s.heap.objs.size))) { s with heap := s.heap.push { cls := Value.type "list", data := Data.seq (items ++ items2) } }) :=
  .of_wp fun prog w A R s h => by
    obtain ⟨hp, g, d, tk, os⟩ := s
    obtain ⟨hl, hb, h⟩ := h
    have f1 := idx_int
    have f2 := sub_tuple_tuple
    have f3 := sub_list_list
    have f4 := sub_tuple_list
    have f5 := sub_list_tuple
    wp_walk using wpAny_loadPart' hl, wpAny_loadPart' hb
    exact ⟨_, rfl, h⟩
variable {X : Cx}
def rCatS (K : PySem.W.Frag) : R2 := fun x y H Q => ∃ l b xs zs, x = .ref l ∧ y = .ref b ∧ SqL K H l xs ∧ SqL K H b zs ∧ xs.length + zs.length ≤ sizeLine ∧ ∀ p, H p = none → Q (.ref p) (upd H p (.lst (xs ++ zs)))
theorem op_catS : OpR X (binaryOp .Add) (rCatS X.K) := by
  intro pins s σ H x y v u Q I rx ry h
  obtain ⟨l, b, xs, zs, rfl, rfl, hH, hB, hz, q⟩ := h
  cases rx
  cases ry
  obtain ⟨its, r, ⟨o, n, e, hc, hd, hs⟩, z⟩ := I.list hH
  obtain ⟨its2, r2, ⟨o2, n2, e2, hc2, hd2, hs2⟩, z2⟩ := I.list hB
  obtain ⟨oc, od, dt, sl⟩ := o
  obtain ⟨oc2, od2, dt2, sl2⟩ := o2
  simp only at hc hd hs hc2 hd2 hs2
  subst hc hd hs hc2 hd2 hs2
  have l1 := r.length
  have l2 := r2.length
  refine concat_meets ⟨_, e, rfl⟩ ⟨_, e2, rfl⟩ noFill_list_add seq_list_add PySem.F.slot_list_add PySem.F.entry_list_add (PySem.F.args_list_add_2 _ _) (list_add_sl l its.toArray n sl b its2.toArray n2 sl2 (by rw [List.size_toArray, List.size_toArray]; omega)) ⟨e, e2, ?_⟩
  have ea : its.toArray ++ its2.toArray = (its ++ its2).toArray := by simp
  rw [ea]
  exact ⟨.ref _, _, I.lnew (t' := s.toks) (r.append r2) (by rw [List.length_append]; omega), rfl, q _ I.fresh⟩
end
section
variable {X : Cx} {K : PySem.W.Frag}
theorem op_catSB (hK : X.K = K) : OpR X (binaryOp .Add) (rCatS K) := by
  subst hK
  exact op_catS
end

/-! ### None == an instance of a class with an own __eq__; two rules of one operation -/
section
open PySem.W
variable {prog : Program} {w : World} {A : Around} {E : Value → Shared → Prop} {s : Shared} {K : PySem.W.Frag} {x C L f : Addr} {h₀ : Heap} {m : Str → Option Value} {ox : Obj} {od : Option Obj}
theorem eq_none_K {Q : Value → Shared → Prop} (hu : A.units < cLine) (F : PyProof.Rows.Fr h₀ L s.heap m) (X₀ : K.In h₀) (I : InstAt s.heap x ox C od)
    (hno : subIn K (.ref C) (.type "NoneType") = some false) (hs : findIn K (.ref C) "__eq__" = some (some (.ref f))) (hf : isFn K (.ref f) = true)
    (h : wpAny (model prog w) A (call (.ref f) [.ref x, .none]) (CmpBack Q) E s) : wpAny (model prog w) A (richCompare .Eq .none (.ref x)) Q E s := by
  have X := X₀.keeps F.keep
  have two : wpAny (model prog w) A (tryCompare (.ref x) "__eq__" .none) (fun r s' => ∃ v, r = some v ∧ Q v s') E s := by
    unfold tryCompare
    refine wpAny_bind (ifBound_K X I hs hf (wpAny_mono h (fun v s' hv => ?_) fun _ _ e => e))
    cases v <;> first | exact hv.elim | exact wpAny_pure ⟨_, rfl, hv⟩
  have hN : s.TypeIs .none "NoneType" := rfl
  unfold richCompare
  simp only [hN.oneThing_none]
  refine wpAny_holding (wpAny_bind (wpAny_cRoomFor hu ?_))
  refine wpAny_bind (wpAny_typeOf hN (wpAny_bind (I.type.here ?_)))
  rw [if_pos (show (Value.type "NoneType" != Value.ref C) = true from rfl)]
  refine wpAny_bind ((looks_subIn X hno).here ?_)
  simp only [Bool.false_eq_true, if_false]
  simp only [Bool.not_false, if_true]
  refine wpAny_bind (m := tryCompare .none _ (.ref x)) (wpAny_tryCompare_declines hN PySem.F.slot_NoneType_eq (call_gives PySem.F.slot_NoneType_eq hN PySem.F.entry_NoneType_eq (PySem.F.args_NoneType_eq_2 _ _) (PySem.SeqAt.NoneType___eq___none_ref_0 x) ⟨rfl, ?_⟩))
  refine wpAny_bind (m := tryCompare (.ref x) _ .none) (wpAny_mono two (fun r s' z => ?_) fun _ _ e => e)
  obtain ⟨v, rfl, hq⟩ := z
  exact wpAny_pure hq
end
section
variable {X : Cx} {n : Nat}
/-- either rule -/
def rOr (r r' : R2) : R2 := fun x y H Q => r x y H Q ∨ r' x y H Q
theorem op_or {f : Value → Value → Sem Value} {r r' : R2} (h : OpR X f r) (h' : OpR X f r') : OpR X f (rOr r r') := fun pins s σ H x y v u Q I rx ry q => q.elim (h pins s σ H x y v u Q I rx ry) (h' pins s σ H x y v u Q I rx ry)
/-- None == an instance: its own __eq__ is asked -/
def rNoneEq (C : Addr) (sp : Sp) (E : XK) : R2 := fun x y H Q => ∃ a dx fs, x = .non ∧ y = .ref a ∧ H a = some (.ins C dx fs) ∧ sp [y, .non] H (fun v H' => ∃ b, v = .bl b ∧ Q (.bl b) H') E
theorem op_noneEq {CX : CXT} {C f : Addr} {fd : FuncData} {ps : List Str} {sp : Sp} {E : XK} (hm : Meth X.K C "__eq__" f) (F : FnOk X.prog X.w X.K X.mg X.base CX n f fd ps sp) (hb : Binds X.K fd ps []) (hr : Room n X.A) (hx : Passes CX X E)
    (hno : PySem.W.subIn X.K (.ref C) (.type "NoneType") = some false) : OpR X (compareOp .Eq) (rNoneEq C sp E) := by
  intro pins s σ H x y v u Q I rx ry hq
  obtain ⟨a, dx, fs, rfl, rfl, ha, hsp⟩ := hq
  cases rx
  cases ry
  obtain ⟨mA, J, _⟩ := ins_get I.hok ha
  obtain ⟨od, J, _⟩ := J.look
  obtain ⟨m, hF⟩ := I.fr
  show wpAny (model X.prog X.w) X.A (richCompare .Eq .none (.ref a)) (EP X pins σ Q) X.xe s
  refine eq_none_K hr.units0 hF I.ok.mod.kin J hno hm.at_ hm.fn ?_
  have hl := F.len _ _ _ _ hsp
  have r2 : Vals [V.ref a, V.non] [Value.ref a, Value.none] := .cons rfl (.cons rfl .nil)
  refine wpAny_call (codeAny_mono (F.run X.A X.stack s H ⟨[.ref a, .none], []⟩ [.ref a, .none] [.ref a, .non] _ E hr I.env0 (by
    have := hb s [.ref a, .none] I.kIn (by simpa using hl)
    simpa using this) r2 hsp) fun r s' hq => ?_)
  cases r with
  | error e => exact hx pins σ H s e s' I hq
  | ok fl =>
    cases fl with
    | ret w =>
      obtain ⟨z, H', I', rz, b, ez, q⟩ := I.after hq
      subst ez
      cases rz
      exact ⟨.bl b, H', I', rfl, q⟩
    | next => exact False.elim hq
    | brk => exact False.elim hq
    | cont => exact False.elim hq
end

/-! ### x in xs, not in, where == of the items may run an own __eq__ -/
section
open PySem.AutoSeq1 in
open PySem.MeetsSeq in
theorem in_loopG {prog : Program} {w : World} {A : Around} {R : Result → Shared → Prop} (l : Addr) (x : Value) (N : Nat) (B : Nat → Bool) (I : Nat → Shared → Prop)
    (hl : ∀ i s, I i s → ∃ (items : Array Value) (n : Nat) (dd : Option Addr) (sl : Array (Option Value)), s.heap.get? l = some { cls := .type "list", dict := dd, data := .seq items n, slots := sl } ∧ items.size = N ∧
      ∀ h1 : i < items.size, wpAny (model prog w) A.in1 (eqBool items[i] x) (fun r s' => r = B i ∧ I (i + 1) s') (fun e s' => R (.error e) s') s)
    (hT : ∀ i s, i < N → B i = true → I (i + 1) s → R (.ok (.ret (.bool true))) s) (hF : (∀ j, j < N → B j = false) → ∀ s, I N s → R (.ok (.ret (.bool false))) s) (k : Nat) :
    ∀ i : Nat, N - i = k → i ≤ N → (∀ j, j < i → B j = false) → ∀ s, I i s →
      wpAny (model prog w) A.in1 (Builtin.«list.__contains__.loop» ⟨[.ref l, x, rawInt i], []⟩) (GQ.FinOf prog w A R) (fun e s' => R (.error e) s') s := by
  induction k with
  | zero =>
    intro i hk hi hno s h
    obtain ⟨items, n, dd, sl, hl1, hs1, _⟩ := hl _ _ h
    have hi' : i = N := by omega
    have hR : R (.ok (.ret (.bool false))) s := hF (fun j hj => hno j (by omega)) s (hi' ▸ h)
    obtain ⟨hp, g, d, tk, os⟩ := s
    wp_walk using wpAny_loadPart' hl1
    have hi1 : items[((i : Nat) : Int).toNat]? = none := by simp; omega
    rw [hi1]
    wp_walk
    exact hR
  | succ k ih =>
    intro i hk hi hno s h
    obtain ⟨items, n, dd, sl, hl1, hs1, turn⟩ := hl _ _ h
    have hlt : i < items.size := by omega
    have ht := turn hlt
    obtain ⟨hp, g, d, tk, os⟩ := s
    wp_walk using wpAny_loadPart' hl1
    have hi1 : items[((i : Nat) : Int).toNat]? = some items[i] := by simp [hlt]
    have hc : ((i : Int) + 1) = ((i + 1 : Nat) : Int) := by omega
    rw [hi1]
    refine wpAny_bind (wpAny_mono ht (fun r s2 h2 => ?_) fun _ _ x => x)
    obtain ⟨hr, h2⟩ := h2
    subst hr
    obtain ⟨hp2, g2, d2, tk2, os2⟩ := s2
    cases hb : B i with
    | true =>
      have hR := hT i _ (by omega) hb h2
      wp_walk
      exact hR
    | false =>
      have hrec := ih (i + 1) (by omega) (by omega) (fun j hj => by
        by_cases e : j = i
        · rw [e]; exact hb
        · exact hno j (by omega)) _ h2
      wp_walk
      rw [hc]
      exact ⟨plainId_quiet plain_contains_loop _, codeAny_builtin entry_contains_loop (by
        rw [Around.under_plainId plain_contains_loop _]
        exact hrec)⟩
end
section
variable {X : Cx} {n : Nat} {CX : CXT} {C f : Addr} {fd : FuncData} {ps : List Str} {sp : Sp} {E : XK} {A : Around} {pins : List (Addr × Obj)} {σ : L2.St} {H : Hp} {s : Shared}
theorem rcOwn (hm : Meth X.K C "__eq__" f) (F : FnOk X.prog X.w X.K X.mg X.base CX n f fd ps sp) (hb : Binds X.K fd ps []) (hx : Passes CX X E) (sb : Sub X n A) (I : Inv X pins σ H s) {a dx : Addr} {fs : List (Str × V)} {y : V} {u t : Value} {R : Bool → Hp → Prop}
    (ry : RelV y u) (ha : H a = some (.ins C dx fs)) (ty : TyX X.K H y t) (nf : PySem.W.notFirst X.K C t = true) (hsp : sp [.ref a, y] H (fun v H' => ∃ b, v = .bl b ∧ R b H') E) :
    wpAny (model X.prog X.w) A (richCompare .Eq (.ref a) u) (fun v s' => ∃ b H', v = .bool b ∧ Inv X pins σ H' s' ∧ R b H') X.xe s := by
  have lt := looks_ty I ry ty
  obtain ⟨mA, J, _⟩ := ins_get I.hok ha
  obtain ⟨od, J, _⟩ := J.look
  obtain ⟨m, hF⟩ := I.fr
  refine PySem.W.cmp_K (op := .Eq) sb.room.units0 hF I.ok.mod.kin J lt nf hm.at_ hm.fn ?_
  have hl := F.len _ _ _ _ hsp
  have e0 : Env0 X.prog X.w X.K X.mg X.base A X.stack s H := by
    have e := I.env0
    exact ⟨by rw [sb.fr]; exact e.frames, e.mod, e.bs, e.bsz, e.funs, e.frf, e.hok, e.bare⟩
  have r2 : Vals [V.ref a, y] [Value.ref a, u] := .cons rfl (.cons ry .nil)
  refine wpAny_call (codeAny_mono (F.run A X.stack s H ⟨[.ref a, u], []⟩ [.ref a, u] [.ref a, y] _ E sb.room e0 (by
    have := hb s [.ref a, u] I.kIn (by simpa using hl)
    simpa using this) r2 hsp) fun r s' hq => ?_)
  cases r with
  | error e => exact hx pins σ H s e s' I hq
  | ok fl =>
    cases fl with
    | ret w =>
      obtain ⟨z, H', I', rz, b, ez, q⟩ := I.after hq
      subst ez
      cases rz
      exact ⟨b, H', rfl, I', q⟩
    | next => exact False.elim hq
    | brk => exact False.elim hq
    | cont => exact False.elim hq
/-- None in a list of instances and None -/
def rNoneInO (K : PySem.W.Frag) (C : Addr) (sp : Sp) (E : XK) (neg : Bool) : R2 := fun x y H Q => ∃ l xs, x = .non ∧ y = .ref l ∧ SqL K H l xs ∧
  (∀ v ∈ xs, v = .non ∨ ∃ a dx fs, v = .ref a ∧ H a = some (.ins C dx fs) ∧ sp [v, .non] H (fun w H' => ∃ b, w = .bl b ∧ b = false ∧ H' = H) E) ∧ Q (.bl (if neg then !xs.any (fun v => decide (v = .non)) else xs.any (fun v => decide (v = .non)))) H
theorem inNone (hm : Meth X.K C "__eq__" f) (F : FnOk X.prog X.w X.K X.mg X.base CX n f fd ps sp) (hb : Binds X.K fd ps []) (hr : Room (n + 1) X.A) (hx : Passes CX X E) (hnf : PySem.W.notFirst X.K C (.type "NoneType") = true)
    (I : Inv X pins σ H s) {l : Addr} {xs : List V} {R : Result → Shared → Prop} (hl : SqL X.K H l xs)
    (hv : ∀ v ∈ xs, v = .non ∨ ∃ a dx fs, v = .ref a ∧ H a = some (.ins C dx fs) ∧ sp [v, .non] H (fun w H' => ∃ b, w = .bl b ∧ b = false ∧ H' = H) E)
    (hE : ∀ e s', X.xe e s' → R (.error e) s') (h : ∀ s', Inv X pins σ H s' → R (.ok (.ret (.bool (xs.any (fun v => decide (v = .non)))))) s') :
    wpAny (model X.prog X.w) X.A.in1 (Builtin.«list.__contains__» ⟨[.ref l, .none], []⟩) (GQ.FinOf X.prog X.w X.A R) (fun e s' => R (.error e) s') s := by
  have turn : ∀ i s, Inv X pins σ H s → ∃ (items : Array Value) (m : Nat) (dd : Option Addr) (sl : Array (Option Value)), s.heap.get? l = some { cls := .type "list", dict := dd, data := .seq items m, slots := sl } ∧ items.size = xs.length ∧
      ∀ h1 : i < items.size, wpAny (model X.prog X.w) X.A.in1 (eqBool items[i] .none) (fun r s' => r = decide (xs[i]? = some .non) ∧ Inv X pins σ H s') (fun e s' => R (.error e) s') s := by
    intro i s J
    obtain ⟨its, r, ⟨⟨oc, od, dt, sl⟩, m, e, hc, hd, hs⟩, z⟩ := J.list hl
    simp only at hc hd hs
    subst hc hd hs
    have hlen := r.length
    refine ⟨its.toArray, m, none, sl, e, by rw [List.size_toArray]; omega, fun h1 => ?_⟩
    have h1' : i < its.length := by simpa using h1
    have h2' : i < xs.length := by omega
    have hx' : xs[i]? = some xs[i] := List.getElem?_eq_getElem h2'
    obtain ⟨u, hu, ru⟩ := r.get hx'
    have eu : its.toArray[i] = u := by
      have : its[i]? = some its[i] := List.getElem?_eq_getElem h1'
      rw [this] at hu
      simpa using Option.some.inj hu
    rw [eu, hx']
    rcases hv _ (List.getElem_mem h2') with hn | ⟨a, dx, fs, hn, ha, hsp⟩
    · rw [hn] at ru ⊢
      cases ru
      exact SeqAt.EqAt.same (A := X.A.in1) (s := s) .none X.prog X.w _ _ ⟨(decide_eq_true rfl).symm, J⟩
    · rw [hn] at ru hsp ⊢
      cases ru
      unfold eqBool
      refine wpAny_holding ?_
      refine wpAny_ite_split (fun hab => by cases eq_of_beq hab) (fun _ => ?_)
      refine wpAny_bind (wpAny_mono (rcOwn (R := fun b H' => b = false ∧ H' = H) hm F hb hx ⟨hr.in1, rfl⟩ J (y := .non) (u := .none) rfl ha (.base .non) hnf hsp) (fun v s' hv => ?_) hE)
      obtain ⟨b, H', rfl, J', eb, eH⟩ := hv
      subst eb eH
      exact wpAny_truthy_bool ⟨(decide_eq_false (by intro z; cases z)).symm, J'⟩
  have hfin := in_loopG (prog := X.prog) (w := X.w) (A := X.A) (R := R) l .none xs.length (fun i => decide (xs[i]? = some .non)) (fun _ s => Inv X pins σ H s) turn ?_ ?_ _ 0 rfl (Nat.zero_le _) (fun j hj => by omega) s I
  · obtain ⟨items, m, dd, sl, hl1, _, _⟩ := turn 0 s I
    obtain ⟨hp, g, d, tk, os⟩ := s
    wp_walk using PySem.AutoSeq1.wpAny_loadPart' hl1
    exact ⟨plainId_quiet MeetsSeq.plain_contains_loop _, codeAny_builtin MeetsSeq.entry_contains_loop (by
      rw [Around.under_plainId MeetsSeq.plain_contains_loop _]
      exact hfin)⟩
  · intro i s' hi hB J
    have e : xs.any (fun v => decide (v = .non)) = true := by
      rw [List.any_eq_true]
      exact ⟨.non, List.mem_of_getElem? (of_decide_eq_true hB), decide_eq_true rfl⟩
    have := h s' J
    rwa [e] at this
  · intro hno s' J
    have e : xs.any (fun v => decide (v = .non)) = false := by
      rw [List.any_eq_false]
      intro v hv' hd
      obtain ⟨j, hj, ej⟩ := List.getElem_of_mem hv'
      have hB := of_decide_eq_false (hno j hj)
      exact hB (by rw [List.getElem?_eq_getElem hj, ej, of_decide_eq_true hd])
    have := h s' J
    rwa [e] at this
theorem op_noneInO (hm : Meth X.K C "__eq__" f) (F : FnOk X.prog X.w X.K X.mg X.base CX n f fd ps sp) (hb : Binds X.K fd ps []) (hr : Room (n + 1) X.A) (hx : Passes CX X E) (hnf : PySem.W.notFirst X.K C (.type "NoneType") = true) : OpR X (compareOp .In) (rNoneInO X.K C sp E false) := by
  intro pins s σ H x y v u Q I rx ry hq
  obtain ⟨l, xs, rfl, rfl, hl, hv, q⟩ := hq
  cases rx
  cases ry
  obtain ⟨its, r, ⟨o, m, e, hc, hd, hs⟩, z⟩ := I.list hl
  show wpAny _ X.A ((do return Value.bool (← contains (.ref l) .none)) : Sem Value) _ _ s
  refine wpAny_bind (wpAny_contains_slot ⟨o, e, hc⟩ PySem.F.slot_list_contains (wpAny_mono (GQ.call_here (Q := fun v s' => ∃ b, v = .bool b ∧ EP X pins σ Q (.bool b) s') PySem.F.slot_list_contains ⟨o, e, hc⟩ PySem.F.entry_list_contains (PySem.F.args_list_contains_2 _ _) ?_) (fun v s' hv => ?_) fun _ _ e => e))
  · exact inNone hm F hb hr hx hnf I hl hv (fun e s' z => z) fun s' J => ⟨_, rfl, .bl _, H, J, rfl, q⟩
  · obtain ⟨b, rfl, hq⟩ := hv
    exact wpAny_truthy_bool (wpAny_pure hq)
theorem op_noneNotInO (hm : Meth X.K C "__eq__" f) (F : FnOk X.prog X.w X.K X.mg X.base CX n f fd ps sp) (hb : Binds X.K fd ps []) (hr : Room (n + 1) X.A) (hx : Passes CX X E) (hnf : PySem.W.notFirst X.K C (.type "NoneType") = true) : OpR X (compareOp .NotIn) (rNoneInO X.K C sp E true) := by
  intro pins s σ H x y v u Q I rx ry hq
  obtain ⟨l, xs, rfl, rfl, hl, hv, q⟩ := hq
  cases rx
  cases ry
  obtain ⟨its, r, ⟨o, m, e, hc, hd, hs⟩, z⟩ := I.list hl
  show wpAny _ X.A ((do return Value.bool (!(← contains (.ref l) .none))) : Sem Value) _ _ s
  refine wpAny_bind (wpAny_contains_slot ⟨o, e, hc⟩ PySem.F.slot_list_contains (wpAny_mono (GQ.call_here (Q := fun v s' => ∃ b, v = .bool b ∧ EP X pins σ Q (.bool (!b)) s') PySem.F.slot_list_contains ⟨o, e, hc⟩ PySem.F.entry_list_contains (PySem.F.args_list_contains_2 _ _) ?_) (fun v s' hv => ?_) fun _ _ e => e))
  · exact inNone hm F hb hr hx hnf I hl hv (fun e s' z => z) fun s' J => ⟨_, rfl, .bl _, H, J, rfl, q⟩
  · obtain ⟨b, rfl, hq⟩ := hv
    exact wpAny_truthy_bool (wpAny_pure hq)
end

/-- bits of a number that a period may have -/
def E8 : Nat := 8000
/-! ### numbers: the inverse by Euclid's steps -/
structure InvI (a m o n ot nt : Int) : Prop where
  n0 : 0 ≤ n
  o0 : 0 < o
  g : Int.gcd o n = 1
  d1 : m ∣ a * ot - o
  d2 : m ∣ a * nt - n
  sz : o * nt.natAbs + n * ot.natAbs ≤ m
theorem natAbs_sub_mul (x y q : Int) (hq : 0 ≤ q) : ((x - q * y).natAbs : Int) ≤ x.natAbs + q * y.natAbs := by
  have h1 : (x - q * y).natAbs ≤ x.natAbs + (q * y).natAbs := by omega
  have h2 : ((q * y).natAbs : Int) = q * y.natAbs := by
    rw [Int.natAbs_mul]
    have : (q.natAbs : Int) = q := by omega
    rw [Int.natCast_mul, this]
  omega
theorem InvI.step {a m o n ot nt : Int} (h : InvI a m o n ot nt) (hn : 0 < n) : InvI a m n (o - o / n * n) nt (ot - o / n * nt) := by
  have hq : 0 ≤ o / n := Int.ediv_nonneg (by have := h.o0; omega) (by omega)
  have e : o - o / n * n = o % n := by
    have := Int.emod_add_mul_ediv o n
    rw [Int.mul_comm] at this
    omega
  refine ⟨?_, hn, ?_, h.d2, ?_, ?_⟩
  · rw [e]; exact Int.emod_nonneg _ (by omega)
  · have g := h.g
    rw [show o - o / n * n = o - (o / n) * n from rfl, Int.gcd_sub_mul_right_right, Int.gcd_comm]
    exact g
  · have h1 := h.d1
    have h2 := h.d2
    have : a * (ot - o / n * nt) - (o - o / n * n) = (a * ot - o) - (o / n) * (a * nt - n) := by grind
    rw [this]
    exact Int.dvd_sub h1 (Int.dvd_mul_of_dvd_right h2)
  · have b := natAbs_sub_mul ot nt (o / n) hq
    have h3 : n * ((ot - o / n * nt).natAbs : Int) ≤ n * (ot.natAbs + o / n * nt.natAbs) := Int.mul_le_mul_of_nonneg_left b (by omega)
    have := h.sz
    have e2 : n * (ot.natAbs + o / n * nt.natAbs) + (o - o / n * n) * nt.natAbs = n * (ot.natAbs : Int) + o * nt.natAbs := by grind
    omega
theorem InvI.start {a m : Int} (hm : 0 < m) (g : Int.gcd m a = 1) : InvI a m m (a % m) 0 1 := by
  refine ⟨Int.emod_nonneg _ (by omega), hm, ?_, ?_, ?_, ?_⟩
  · rw [show a % m = a - m * (a / m) by have := Int.emod_add_mul_ediv a m; omega, Int.gcd_sub_mul_left_right]; exact g
  · exact ⟨-1, by grind⟩
  · exact ⟨a / m, by have := Int.emod_add_mul_ediv a m; grind⟩
  · simp
theorem InvI.nt_le {a m o n ot nt : Int} (h : InvI a m o n ot nt) : (nt.natAbs : Int) ≤ m := by
  have h1 := h.sz
  have h2 : (1 : Int) * nt.natAbs ≤ o * nt.natAbs := Int.mul_le_mul_of_nonneg_right (by have := h.o0; omega) (by omega)
  have h3 : 0 ≤ n * (ot.natAbs : Int) := Int.mul_nonneg h.n0 (by omega)
  omega
theorem InvI.fin {a m o ot nt : Int} (h : InvI a m o 0 ot nt) (hm : 0 < m) : 0 ≤ ot % m ∧ ot % m < m ∧ m ∣ a * (ot % m) - 1 := by
  have g := h.g
  rw [Int.gcd_zero_right] at g
  have o1 : o = 1 := by have := h.o0; omega
  refine ⟨Int.emod_nonneg _ (by omega), Int.emod_lt_of_pos _ hm, ?_⟩
  have h1 := h.d1
  rw [o1] at h1
  have : a * (ot % m) - 1 = (a * ot - 1) - m * (a * (ot / m)) := by
    have := Int.emod_add_mul_ediv ot m
    grind
  rw [this]
  exact Int.dvd_sub h1 (Int.dvd_mul_right _ _)
/-- the one number from 0 below m that inverts a by m -/
theorem inv_uniq {a m r s : Int} (hm : 0 < m) (hr : 0 ≤ r ∧ r < m ∧ m ∣ a * r - 1) (hs : 0 ≤ s ∧ s < m ∧ m ∣ a * s - 1) : r = s := by
  obtain ⟨r0, r1, x, hx⟩ := hr
  obtain ⟨s0, s1, y, hy⟩ := hs
  have h : m ∣ r - s := by
    refine ⟨s * x - r * y + 0, ?_⟩
    grind
  obtain ⟨k, hk⟩ := h
  have : k = 0 := by
    by_cases h0 : k = 0
    · exact h0
    · exfalso
      by_cases h1 : 0 < k
      · have : m * 1 ≤ m * k := Int.mul_le_mul_of_nonneg_left (by omega) (by omega)
        omega
      · have : m * k ≤ m * (-1) := Int.mul_le_mul_of_nonneg_left (by omega) (by omega)
        omega
  rw [this] at hk
  omega

/-! ### numbers: lamps seen and met -/
/-- what is seen of (p2, b2) at the own beats of (p1, b1): (q, r) -/
structure SeenIs (p1 b1 p2 b2 q r : Int) : Prop where
  q0 : 0 < q
  r0 : 0 ≤ r
  rq : r < q
  qe : q = p2 / (Int.gcd p1 p2 : Int)
  iff : ∀ t : Int, q ∣ t - r ↔ p2 ∣ b1 + t * p1 - b2
/-- the meeting of (p1, b1) and (p2, b2): (m, c) -/
structure MeetIs (p1 b1 p2 b2 m c : Int) : Prop where
  m0 : 0 < m
  c0 : 0 ≤ c
  cm : c < m
  me : m = p1 * (p2 / (Int.gcd p1 p2 : Int))
  iff : ∀ x : Int, m ∣ x - c ↔ p1 ∣ x - b1 ∧ p2 ∣ x - b2
theorem dvd_iff_emod {a b : Int} : b % a = 0 ↔ a ∣ b := ⟨Int.dvd_of_emod_eq_zero, Int.emod_eq_zero_of_dvd⟩
theorem dvd_emod_sub {q x t : Int} : q ∣ t - x % q ↔ q ∣ t - x := by
  have h := Int.emod_add_mul_ediv x q
  constructor
  · rintro ⟨k, hk⟩
    exact ⟨k - x / q, by grind⟩
  · rintro ⟨k, hk⟩
    exact ⟨k + x / q, by grind⟩
theorem gcd_pos {a b : Int} (h : 0 < a) : (0 : Int) < (Int.gcd a b : Int) := by
  have := Int.gcd_pos_of_ne_zero_left b (a := a) (by omega)
  omega
theorem gcd_cop {a b : Int} (h : 0 < a) : Int.gcd (b / (Int.gcd a b : Int)) (a / (Int.gcd a b : Int)) = 1 := by
  have h0 : 0 < Int.gcd a b := Int.gcd_pos_of_ne_zero_left b (by omega)
  rw [Int.gcd_comm]
  exact Int.gcd_ediv_gcd_ediv_gcd h0
theorem seen_is {p1 b1 p2 b2 v : Int} (h1 : 0 < p1) (h2 : 0 < p2) (hg : (Int.gcd p1 p2 : Int) ∣ b2 - b1) (hv : p2 / (Int.gcd p1 p2 : Int) ∣ p1 / (Int.gcd p1 p2 : Int) * v - 1) :
    SeenIs p1 b1 p2 b2 (p2 / (Int.gcd p1 p2 : Int)) (((b2 - b1) / (Int.gcd p1 p2 : Int) * v) % (p2 / (Int.gcd p1 p2 : Int))) := by
  have g0 := gcd_pos (a := p1) (b := p2) h1
  have cop := gcd_cop (a := p1) (b := p2) h1
  obtain ⟨P, hP⟩ : (Int.gcd p1 p2 : Int) ∣ p1 := Int.gcd_dvd_left ..
  obtain ⟨q, hq⟩ : (Int.gcd p1 p2 : Int) ∣ p2 := Int.gcd_dvd_right ..
  obtain ⟨A, hA⟩ := hg
  generalize hgg : (Int.gcd p1 p2 : Int) = g at *
  have eP : p1 / g = P := by rw [hP]; exact Int.mul_ediv_cancel_left _ (by omega)
  have eq : p2 / g = q := by rw [hq]; exact Int.mul_ediv_cancel_left _ (by omega)
  have eA : (b2 - b1) / g = A := by rw [hA]; exact Int.mul_ediv_cancel_left _ (by omega)
  rw [eP, eq] at cop hv
  rw [eq, eA]
  have q0 : 0 < q := by
    by_cases hq0 : 0 < q
    · exact hq0
    · exfalso
      have : g * q ≤ g * 0 := Int.mul_le_mul_of_nonneg_left (by omega) (by omega)
      omega
  refine ⟨q0, Int.emod_nonneg _ (by omega), Int.emod_lt_of_pos _ q0, by rw [hgg, eq], fun t => ?_⟩
  rw [dvd_emod_sub]
  have e1 : b1 + t * p1 - b2 = g * (P * t - A) := by grind
  rw [e1, hq]
  have e2 : g * q ∣ g * (P * t - A) ↔ q ∣ P * t - A := Int.mul_dvd_mul_iff_left (by omega)
  rw [e2]
  obtain ⟨k, hk⟩ := hv
  constructor
  · rintro ⟨j, hj⟩
    exact ⟨P * j + A * k, by grind⟩
  · rintro ⟨j, hj⟩
    exact ⟨v * (j - A * k) - k * (t - A * v), by grind⟩
theorem seen_none {p1 b1 p2 b2 : Int} (hg : ¬ (Int.gcd p1 p2 : Int) ∣ b2 - b1) (x : Int) (h1 : p1 ∣ x - b1) (h2 : p2 ∣ x - b2) : False := by
  apply hg
  have d1 : (Int.gcd p1 p2 : Int) ∣ x - b1 := Int.dvd_trans (Int.gcd_dvd_left ..) h1
  have d2 : (Int.gcd p1 p2 : Int) ∣ x - b2 := Int.dvd_trans (Int.gcd_dvd_right ..) h2
  have : b2 - b1 = (x - b1) - (x - b2) := by omega
  rw [this]
  exact Int.dvd_sub d1 d2
theorem meet_is {p1 b1 p2 b2 q r : Int} (h1 : 0 < p1) (S : SeenIs p1 b1 p2 b2 q r) : MeetIs p1 b1 p2 b2 (p1 * q) ((b1 + p1 * r) % (p1 * q)) := by
  have q0 := S.q0
  have m0 : 0 < p1 * q := Int.mul_pos h1 q0
  refine ⟨m0, Int.emod_nonneg _ (by omega), Int.emod_lt_of_pos _ m0, by rw [S.qe], fun x => ?_⟩
  rw [dvd_emod_sub]
  constructor
  · rintro ⟨k, hk⟩
    have hx : x = b1 + (r + q * k) * p1 := by grind
    refine ⟨⟨r + q * k, by grind⟩, ?_⟩
    rw [hx]
    exact (S.iff (r + q * k)).mp ⟨k, by grind⟩
  · rintro ⟨⟨t, ht⟩, h⟩
    have hx : x = b1 + t * p1 := by grind
    rw [hx] at h
    obtain ⟨k, hk⟩ := (S.iff t).mpr h
    exact ⟨k, by grind⟩

theorem dvd_small {m x : Int} (h0 : -m < x) (h1 : x < m) (d : m ∣ x) : x = 0 := by
  obtain ⟨k, hk⟩ := d
  have m0 : 0 < m := by omega
  have : k = 0 := by
    by_cases h : k = 0
    · exact h
    · exfalso
      by_cases hp : 0 < k
      · have : m * 1 ≤ m * k := Int.mul_le_mul_of_nonneg_left (by omega) (by omega)
        omega
      · have : m * k ≤ m * (-1) := Int.mul_le_mul_of_nonneg_left (by omega) (by omega)
        omega
  rw [this] at hk
  omega
theorem MeetIs.at {p1 b1 p2 b2 m c : Int} (h : MeetIs p1 b1 p2 b2 m c) : p1 ∣ c - b1 ∧ p2 ∣ c - b2 := (h.iff c).mp ⟨0, by omega⟩
theorem MeetIs.lcm {p1 b1 p2 b2 m c : Int} (h : MeetIs p1 b1 p2 b2 m c) : m = p1 * p2 / (Int.gcd p1 p2 : Int) := by
  rw [h.me]
  exact (Int.mul_ediv_assoc p1 (Int.gcd_dvd_right ..)).symm
theorem MeetIs.swap {p1 b1 p2 b2 m c m' c' : Int} (h : MeetIs p1 b1 p2 b2 m c) (h' : MeetIs p2 b2 p1 b1 m' c') : m = m' ∧ c = c' := by
  have e : m = m' := by
    rw [h.lcm, h'.lcm, Int.gcd_comm, Int.mul_comm]
  refine ⟨e, ?_⟩
  have d := h'.at
  have d2 : m ∣ c' - c := (h.iff c').mpr ⟨d.2, d.1⟩
  have := dvd_small (by have := h.cm; have := h'.c0; have := h'.cm; omega) (by have := h.c0; have := h'.cm; omega) d2
  omega
/-- the beats from 0 below n that pass -/
def sieve (n : Nat) (f : Int → Bool) : List Int := ((List.range n).map fun (i : Nat) => (i : Int)).filter f
theorem sieve_succ (n : Nat) (f : Int → Bool) : sieve (n + 1) f = sieve n f ++ (if f n then [(n : Int)] else []) := by
  unfold sieve
  rw [List.range_succ, List.map_append, List.filter_append]
  congr 1
  simp [List.filter_cons]
theorem sieve_mem {n : Nat} {f : Int → Bool} {x : Int} : x ∈ sieve n f ↔ 0 ≤ x ∧ x < n ∧ f x = true := by
  unfold sieve
  rw [List.mem_filter, List.mem_map]
  constructor
  · rintro ⟨⟨i, hi, rfl⟩, h⟩
    have := List.mem_range.mp hi
    exact ⟨by omega, by omega, h⟩
  · rintro ⟨h0, h1, h⟩
    exact ⟨⟨x.toNat, List.mem_range.mpr (by omega), by omega⟩, h⟩
theorem sieve_len (n : Nat) (f : Int → Bool) : (sieve n f).length ≤ n := by
  unfold sieve
  exact Nat.le_trans (List.length_filter_le _ _) (by simp)
theorem sieve_none {n : Nat} {f : Int → Bool} (h : ∀ x : Int, 0 ≤ x → x < n → f x = false) : sieve n f = [] := by
  apply List.eq_nil_iff_forall_not_mem.mpr
  intro x hx
  obtain ⟨h0, h1, h2⟩ := sieve_mem.mp hx
  rw [h x h0 h1] at h2
  cases h2
theorem sieve_one {n : Nat} {f : Int → Bool} {c : Int} (c0 : 0 ≤ c) (cn : c < n) (h : ∀ x : Int, 0 ≤ x → x < n → (f x = true ↔ x = c)) : sieve n f = [c] := by
  induction n with
  | zero => omega
  | succ n ih =>
    rw [sieve_succ]
    by_cases e : c = n
    · rw [sieve_none, if_pos ((h n (by omega) (by omega)).mpr (by omega)), e]
      · rfl
      · intro x h0 h1
        have := h x h0 (by omega)
        cases hf : f x with
        | false => rfl
        | true => have := this.mp hf; omega
    · rw [ih (by omega) (fun x h0 h1 => h x h0 (by omega)), if_neg (fun hf => e ((h n (by omega) (by omega)).mp hf).symm)]
      rfl
theorem sieve_sieve (n : Nat) (f g : Int → Bool) : (sieve n f).filter g = sieve n (fun x => f x && g x) := by
  unfold sieve
  rw [List.filter_filter]
  congr 1
  funext x
  exact Bool.and_comm _ _
theorem MeetIs.self {p b m c : Int} (p0 : 0 < p) (b0 : 0 ≤ b) (bp : b < p) (h : MeetIs p b p b m c) : m = p ∧ c = b := by
  have e : m = p := by
    rw [h.lcm, Int.gcd_self]
    have : ((p.natAbs : Nat) : Int) = p := by omega
    rw [this]
    exact Int.mul_ediv_cancel_left _ (by omega)
  have d := h.at.1
  have := dvd_small (by have := h.c0; omega) (by have := h.cm; omega) d
  exact ⟨e, by omega⟩
theorem gcd_of_dvd {m p : Int} (p0 : 0 < p) (d : p ∣ m) : (Int.gcd m p : Int) = p := by
  rw [Int.gcd_eq_right_iff_dvd (by omega) |>.mpr d]
/-- the meeting of what one lamp hides and the hider -/
theorem MeetIs.within {m c p b m' c' : Int} (p0 : 0 < p) (c0 : 0 ≤ c) (cm : c < m) (d : p ∣ m) (h : MeetIs m c p b m' c') : m' = m ∧ c' = c := by
  have e : m' = m := by
    rw [h.me, gcd_of_dvd p0 d, Int.ediv_self (by omega), Int.mul_one]
  have d := h.at.1
  rw [e] at h
  have := dvd_small (by have := h.c0; omega) (by have := h.cm; omega) d
  exact ⟨e, by omega⟩
theorem dvd_sub_emod {g p x : Int} (d : g ∣ p) : g ∣ x - x % p := by
  have : x - x % p = p * (x / p) := by have := Int.emod_add_mul_ediv x p; omega
  rw [this]
  exact Int.dvd_mul_of_dvd_left d
theorem SeenIs.uniq {p1 b1 p2 b2 q r q' r' : Int} (h : SeenIs p1 b1 p2 b2 q r) (h' : SeenIs p1 b1 p2 b2 q' r') : q = q' ∧ r = r' := by
  have e : q = q' := by rw [h.qe, h'.qe]
  refine ⟨e, ?_⟩
  have d : q ∣ r' - r := (h.iff r').mpr ((h'.iff r').mp ⟨0, by omega⟩)
  have := dvd_small (by have := h.rq; have := h'.r0; omega) (by have := h.r0; have := h'.rq; omega) d
  omega
theorem SeenIs.always {p1 b1 p2 b2 q r : Int} (p10 : 0 < p1) (p20 : 0 < p2) (h : SeenIs p1 b1 p2 b2 q r) (hg : (Int.gcd p1 p2 : Int) ∣ b2 - b1) : decide (q = 1 ∧ r = 0 % 1) = (decide (p2 ∣ p1) && decide (p2 ∣ b1 - b2)) := by
  have g0 := gcd_pos (a := p1) (b := p2) p10
  have gd1 : (Int.gcd p1 p2 : Int) ∣ p1 := Int.gcd_dvd_left ..
  have gd2 : (Int.gcd p1 p2 : Int) ∣ p2 := Int.gcd_dvd_right ..
  have qe := h.qe
  have q1 : p2 = (Int.gcd p1 p2 : Int) * q := by rw [qe]; exact (Int.mul_ediv_cancel' gd2).symm
  by_cases e : q = 1
  · have r0 : r = 0 := by have := h.r0; have := h.rq; omega
    rw [e, Int.mul_one] at q1
    rw [← q1] at gd1 hg
    have d2 : p2 ∣ b1 - b2 := by
      rw [show b1 - b2 = -(b2 - b1) by omega]
      exact Int.dvd_neg.mpr hg
    simp [e, r0, gd1, d2]
  · have : ¬ p2 ∣ p1 := fun d => e (by
      have gg : (Int.gcd p1 p2 : Int) = p2 := gcd_of_dvd p20 d
      rw [qe, gg]
      exact Int.ediv_self (by omega))
    simp [e, this]
theorem seen_no_always {p1 b1 p2 b2 : Int} (p20 : 0 < p2) (hn : ¬ (Int.gcd p1 p2 : Int) ∣ b2 - b1) : (decide (p2 ∣ p1) && decide (p2 ∣ b1 - b2)) = false := by
  by_cases d : p2 ∣ p1
  · have gg : (Int.gcd p1 p2 : Int) = p2 := gcd_of_dvd p20 d
    have : ¬ p2 ∣ b1 - b2 := fun e => hn (by
      rw [gg, show b2 - b1 = -(b1 - b2) by omega]
      exact Int.dvd_neg.mpr e)
    simp [this]
  · simp [d]
theorem SeenIs.self {p b q r : Int} (p0 : 0 < p) (h : SeenIs p b p b q r) : q = 1 ∧ r = 0 := by
  have e : q = 1 := by
    rw [h.qe, Int.gcd_self]
    have : ((p.natAbs : Nat) : Int) = p := by omega
    rw [this]
    exact Int.ediv_self (by omega)
  exact ⟨e, by have := h.r0; have := h.rq; omega⟩

/-! ### numbers: three lamps -/
theorem inv_from : ∀ (k : Nat) {a m o n ot nt : Int}, n.toNat ≤ k → 0 < m → InvI a m o n ot nt → ∃ r : Int, m ∣ a * r - 1
  | 0, a, m, o, n, ot, nt, hk, hm, h => by
    have n0 : n = 0 := by have := h.n0; omega
    subst n0
    exact ⟨_, (h.fin hm).2.2⟩
  | k + 1, a, m, o, n, ot, nt, hk, hm, h => by
    by_cases hn : n = 0
    · subst hn
      exact ⟨_, (h.fin hm).2.2⟩
    · have n0 := h.n0
      have hp : 0 < n := by omega
      have J := h.step hp
      have e : o - o / n * n = o % n := by
        have := Int.emod_add_mul_ediv o n
        rw [Int.mul_comm] at this
        omega
      have := Int.emod_lt_of_pos o hp
      exact inv_from k (by omega) hm J
theorem inv_ex {a m : Int} (hm : 0 < m) (g : Int.gcd m a = 1) : ∃ r : Int, m ∣ a * r - 1 := inv_from _ (Nat.le_refl _) hm (InvI.start hm g)
theorem bezout {a b : Int} (ha : 0 < a) : ∃ x y : Int, (Int.gcd a b : Int) = a * x + b * y := by
  have g0 := gcd_pos (a := a) (b := b) ha
  have cop := gcd_cop (a := a) (b := b) ha
  obtain ⟨A, hA⟩ : (Int.gcd a b : Int) ∣ a := Int.gcd_dvd_left ..
  obtain ⟨B, hB⟩ : (Int.gcd a b : Int) ∣ b := Int.gcd_dvd_right ..
  generalize (Int.gcd a b : Int) = g at *
  have eA : a / g = A := by rw [hA]; exact Int.mul_ediv_cancel_left _ (by omega)
  have eB : b / g = B := by rw [hB]; exact Int.mul_ediv_cancel_left _ (by omega)
  rw [eA, eB, Int.gcd_comm] at cop
  have A0 : 0 < A := by
    by_cases h : 0 < A
    · exact h
    · exfalso
      have : g * A ≤ g * 0 := Int.mul_le_mul_of_nonneg_left (by omega) (by omega)
      omega
  obtain ⟨v, k, hk⟩ := inv_ex A0 cop
  exact ⟨-k, v, by grind⟩
/-- what the common parts of each with a third divide, the common part of their least multiple with it divides -/
theorem three_parts {p1 p2 p3 z : Int} (h1 : 0 < p1) (h2 : 0 < p2) (d1 : (Int.gcd p1 p3 : Int) ∣ z) (d2 : (Int.gcd p2 p3 : Int) ∣ z) : (Int.gcd (p1 * (p2 / (Int.gcd p1 p2 : Int))) p3 : Int) ∣ z := by
  have g0 := gcd_pos (a := p1) (b := p2) h1
  have gd2 : (Int.gcd p1 p2 : Int) ∣ p2 := Int.gcd_dvd_right ..
  obtain ⟨x, y, hxy⟩ := bezout (a := p1) (b := p2) h1
  obtain ⟨x1, y1, h13⟩ := bezout (a := p1) (b := p3) h1
  obtain ⟨x2, y2, h23⟩ := bezout (a := p2) (b := p3) h2
  obtain ⟨k1, e1⟩ := d1
  obtain ⟨k2, e2⟩ := d2
  obtain ⟨B, hB⟩ := gd2
  obtain ⟨A, hA⟩ : (Int.gcd p1 p2 : Int) ∣ p1 := Int.gcd_dvd_left ..
  obtain ⟨u, hu⟩ : (Int.gcd (p1 * (p2 / (Int.gcd p1 p2 : Int))) p3 : Int) ∣ p1 * (p2 / (Int.gcd p1 p2 : Int)) := Int.gcd_dvd_left ..
  obtain ⟨w, hw⟩ : (Int.gcd (p1 * (p2 / (Int.gcd p1 p2 : Int))) p3 : Int) ∣ p3 := Int.gcd_dvd_right ..
  generalize (Int.gcd (p1 * (p2 / (Int.gcd p1 p2 : Int))) p3 : Int) = g at *
  have eB : p2 / (Int.gcd p1 p2 : Int) = B := by
    conv => lhs; lhs; rw [hB]
    exact Int.mul_ediv_cancel_left _ (by omega)
  rw [eB] at hu
  generalize (Int.gcd p1 p2 : Int) = d at *
  rw [h13] at e1
  rw [h23] at e2
  -- 1 = A x + B y
  have one : A * x + B * y = 1 := by
    have : d * (A * x + B * y) = d * 1 := by grind
    exact Int.eq_of_mul_eq_mul_left (by omega) this
  -- z = z (A x + B y); A z by the second, B z by the first
  have ez : z = A * x * z + B * y * z := by grind
  have t1 : B * z = (p1 * B) * (x1 * k1) + p3 * (y1 * k1 * B) := by grind
  have t2 : A * z = (p1 * B) * (x2 * k2) + p3 * (y2 * k2 * A) := by grind
  exact ⟨u * (x1 * k1) * y + w * (y1 * k1 * B) * y + u * (x2 * k2) * x + w * (y2 * k2 * A) * x, by grind⟩
/-- where a lamp shines, or none -/
abbrev OLp := Option (Int × Int)
def Shn : OLp → Int → Prop
  | none, _ => False
  | some l, t => l.1 ∣ t - l.2
def OkL (o : OLp) : Prop := ∀ l, o = some l → 0 < l.1 ∧ 0 ≤ l.2 ∧ l.2 < l.1
theorem shn_inj {o o' : OLp} (h : OkL o) (h' : OkL o') (e : ∀ t, Shn o t ↔ Shn o' t) : o = o' := by
  cases o with
  | none =>
    cases o' with
    | none => rfl
    | some l' => exact ((e l'.2).mpr (by show l'.1 ∣ l'.2 - l'.2; rw [Int.sub_self]; exact Int.dvd_zero _)).elim
  | some l =>
    cases o' with
    | none => exact ((e l.2).mp (by show l.1 ∣ l.2 - l.2; rw [Int.sub_self]; exact Int.dvd_zero _)).elim
    | some l' =>
      obtain ⟨p, b⟩ := l
      obtain ⟨p', b'⟩ := l'
      obtain ⟨p0, b0, bp⟩ := h _ rfl
      obtain ⟨p0', b0', bp'⟩ := h' _ rfl
      dsimp only at *
      have e1 : p ∣ b' - b := (e b').mpr (by show p' ∣ b' - b'; rw [Int.sub_self]; exact Int.dvd_zero _)
      have e2 : p ∣ b' + p' - b := (e (b' + p')).mpr (by show p' ∣ b' + p' - b'; exact ⟨1, by omega⟩)
      have e3 : p' ∣ b + p - b' := (e (b + p)).mp (by show p ∣ b + p - b; exact ⟨1, by omega⟩)
      have e4 : p' ∣ b - b' := (e b).mp (by show p ∣ b - b; rw [Int.sub_self]; exact Int.dvd_zero _)
      have d1 : p ∣ p' := by
        have := Int.dvd_sub e2 e1
        rwa [show b' + p' - b - (b' - b) = p' by omega] at this
      have d2 : p' ∣ p := by
        have := Int.dvd_sub e3 e4
        rwa [show b + p - b' - (b - b') = p by omega] at this
      have pe : p = p' := Int.le_antisymm (Int.le_of_dvd p0' d1) (Int.le_of_dvd p0 d2)
      have := dvd_small (by omega) (by omega) e1
      have be : b = b' := by omega
      rw [pe, be]
/-- the lamp of both -/
def MeetO (x y o : OLp) : Prop := OkL o ∧ ∀ t, Shn o t ↔ Shn x t ∧ Shn y t
/-- what is seen of x at the own beats of l -/
def SeesO (l : Int × Int) (x o : OLp) : Prop := OkL o ∧ ∀ t, Shn o t ↔ Shn x (l.2 + t * l.1)
theorem MeetO.uniq {x y x' y' o o' : OLp} (h : MeetO x y o) (h' : MeetO x' y' o') (e : ∀ t, (Shn x t ∧ Shn y t) ↔ (Shn x' t ∧ Shn y' t)) : o = o' :=
  shn_inj h.1 h'.1 fun t => (h.2 t).trans ((e t).trans (h'.2 t).symm)
theorem MeetO.hit {x y o : OLp} (h : MeetO x y o) : o ≠ none ↔ ∃ t, Shn x t ∧ Shn y t := by
  constructor
  · intro hn
    cases e : o with
    | none => exact (hn e).elim
    | some l => exact ⟨l.2, (h.2 l.2).mp (by rw [e]; show l.1 ∣ l.2 - l.2; rw [Int.sub_self]; exact Int.dvd_zero _)⟩
  · rintro ⟨t, ht⟩ e
    have := (h.2 t).mpr ht
    rw [e] at this
    exact this

/-! ### three lamps: what the law asks of sets of beats -/
theorem three_meet {p1 p2 p3 b1 b2 b3 : Int} (h1 : 0 < p1) (h2 : 0 < p2) (h12 : ∃ t, p1 ∣ t - b1 ∧ p2 ∣ t - b2) (h23 : ∃ t, p2 ∣ t - b2 ∧ p3 ∣ t - b3) (h13 : ∃ t, p1 ∣ t - b1 ∧ p3 ∣ t - b3) :
    ∃ t, p1 ∣ t - b1 ∧ p2 ∣ t - b2 ∧ p3 ∣ t - b3 := by
  obtain ⟨t0, a1, a2⟩ := h12
  obtain ⟨t2, c1, c2⟩ := h23
  obtain ⟨t3, e1, e2⟩ := h13
  have g1 : (Int.gcd p1 p3 : Int) ∣ p1 := Int.gcd_dvd_left ..
  have g2 : (Int.gcd p1 p3 : Int) ∣ p3 := Int.gcd_dvd_right ..
  have g3 : (Int.gcd p2 p3 : Int) ∣ p2 := Int.gcd_dvd_left ..
  have g4 : (Int.gcd p2 p3 : Int) ∣ p3 := Int.gcd_dvd_right ..
  have d1 : (Int.gcd p1 p3 : Int) ∣ t0 - b3 := by
    have x1 := Int.dvd_trans g1 a1
    have x2 := Int.dvd_trans g1 e1
    have x3 := Int.dvd_trans g2 e2
    have := Int.dvd_add (Int.dvd_sub x1 x2) x3
    rwa [show t0 - b1 - (t3 - b1) + (t3 - b3) = t0 - b3 by omega] at this
  have d2 : (Int.gcd p2 p3 : Int) ∣ t0 - b3 := by
    have x1 := Int.dvd_trans g3 a2
    have x2 := Int.dvd_trans g3 c1
    have x3 := Int.dvd_trans g4 c2
    have := Int.dvd_add (Int.dvd_sub x1 x2) x3
    rwa [show t0 - b2 - (t2 - b2) + (t2 - b3) = t0 - b3 by omega] at this
  have d := three_parts h1 h2 d1 d2
  have q0 : 0 < p1 * (p2 / (Int.gcd p1 p2 : Int)) := Int.mul_pos h1 (Int.ediv_pos_of_pos_of_dvd h2 (by have := gcd_pos (a := p1) (b := p2) h1; omega) (Int.gcd_dvd_right ..))
  obtain ⟨x, y, hxy⟩ := bezout (a := p1 * (p2 / (Int.gcd p1 p2 : Int))) (b := p3) q0
  obtain ⟨B, hB⟩ : (Int.gcd p1 p2 : Int) ∣ p2 := Int.gcd_dvd_right ..
  obtain ⟨A, hA⟩ : (Int.gcd p1 p2 : Int) ∣ p1 := Int.gcd_dvd_left ..
  have g0 := gcd_pos (a := p1) (b := p2) h1
  rw [hxy] at d
  have eB : p2 / (Int.gcd p1 p2 : Int) = B := by
    conv => lhs; lhs; rw [hB]
    exact Int.mul_ediv_cancel_left _ (by omega)
  rw [eB] at d
  generalize (Int.gcd p1 p2 : Int) = g at *
  obtain ⟨k, hk⟩ := d
  obtain ⟨u1, hu1⟩ := a1
  obtain ⟨u2, hu2⟩ := a2
  exact ⟨t0 - k * (p1 * B) * x, ⟨u1 - k * B * x, by grind⟩, ⟨u2 - k * A * x, by grind⟩, ⟨k * y, by grind⟩⟩
theorem shn_self (l : Int × Int) : Shn (some l) l.2 := by show l.1 ∣ l.2 - l.2; rw [Int.sub_self]; exact Int.dvd_zero _
theorem shn_more (l : Int × Int) : Shn (some l) (l.2 + l.1) := by show l.1 ∣ l.2 + l.1 - l.2; exact ⟨1, by omega⟩
/-- hides -/
def hidB (l x : Int × Int) : Bool := decide (l.1 ∣ x.1) && decide (l.1 ∣ x.2 - l.2)
theorem hid_iff {l x : Int × Int} : hidB l x = true ↔ ∀ t, Shn (some x) t → Shn (some l) t := by
  unfold hidB
  rw [Bool.and_eq_true, decide_eq_true_eq, decide_eq_true_eq]
  constructor
  · rintro ⟨h1, h2⟩ t ht
    have h3 : x.1 ∣ t - x.2 := ht
    have := Int.dvd_add (Int.dvd_trans h1 h3) h2
    rwa [show t - x.2 + (x.2 - l.2) = t - l.2 by omega] at this
  · intro h
    have h1 : l.1 ∣ x.2 - l.2 := h _ (shn_self x)
    have h2 : l.1 ∣ x.2 + x.1 - l.2 := h _ (shn_more x)
    have := Int.dvd_sub h2 h1
    rw [show x.2 + x.1 - l.2 - (x.2 - l.2) = x.1 by omega] at this
    exact ⟨this, h1⟩
theorem hid_trans {a b c : Int × Int} (h1 : hidB a b = true) (h2 : hidB b c = true) : hidB a c = true :=
  hid_iff.mpr fun t ht => hid_iff.mp h1 t (hid_iff.mp h2 t ht)
theorem hid_both {a b : Int × Int} (ha : OkL (some a)) (hb : OkL (some b)) : (hidB a b && hidB b a) = decide (a.1 = b.1 ∧ a.2 = b.2) := by
  by_cases h : a.1 = b.1 ∧ a.2 = b.2
  · have e : a = b := Prod.ext h.1 h.2
    subst e
    have : hidB a a = true := hid_iff.mpr fun _ h => h
    rw [this, decide_eq_true h]; rfl
  · rw [decide_eq_false h]
    cases e1 : hidB a b with
    | false => rfl
    | true =>
      cases e2 : hidB b a with
      | false => rfl
      | true =>
        have := shn_inj ha hb fun t => ⟨hid_iff.mp e2 t, hid_iff.mp e1 t⟩
        injection this with this
        exact (h ⟨by rw [this], by rw [this]⟩).elim
theorem hid_meet {a b m : Int × Int} (h : MeetO (some a) (some b) (some m)) : hidB a m = true ∧ hidB b m = true ∧ hidB m a = hidB b a := by
  refine ⟨hid_iff.mpr fun t ht => ((h.2 t).mp ht).1, hid_iff.mpr fun t ht => ((h.2 t).mp ht).2, ?_⟩
  rw [Bool.eq_iff_iff, hid_iff, hid_iff]
  exact ⟨fun h' t ht => ((h.2 t).mp (h' t ht)).2, fun h' t ht => (h.2 t).mpr ⟨ht, h' t ht⟩⟩
/-- where each two meet, all three do -/
theorem whole_none {a b c : Int × Int} {o1 o2 o3 w : OLp} (ha : OkL (some a)) (hb : OkL (some b)) (h1 : MeetO (some a) (some b) o1) (h2 : MeetO (some b) (some c) o2) (h3 : MeetO (some a) (some c) o3) (hw : MeetO o1 (some c) w) :
    w = none ↔ (o1 = none ∨ o2 = none ∨ o3 = none) := by
  constructor
  · intro e
    by_cases e1 : o1 = none
    · exact .inl e1
    by_cases e2 : o2 = none
    · exact .inr (.inl e2)
    by_cases e3 : o3 = none
    · exact .inr (.inr e3)
    exfalso
    have a0 := (ha _ rfl).1
    have b0 := (hb _ rfl).1
    obtain ⟨t, t1, t2, t3⟩ := three_meet a0 b0 (h1.hit.mp e1) (h2.hit.mp e2) (h3.hit.mp e3)
    exact hw.hit.mpr ⟨t, (h1.2 t).mpr ⟨t1, t2⟩, t3⟩ e
  · intro h
    cases e : w with
    | none => rfl
    | some l =>
      exfalso
      have hs := (hw.2 l.2).mp (by rw [e]; exact shn_self l)
      have h12 := (h1.2 l.2).mp hs.1
      rcases h with h | h | h
      · have := hs.1; rw [h] at this; exact this
      · have := (h2.2 l.2).mpr ⟨h12.2, hs.2⟩; rw [h] at this; exact this
      · have := (h3.2 l.2).mpr ⟨h12.1, hs.2⟩; rw [h] at this; exact this
theorem whole_left {a b c o1 o2 w w' : OLp} (h1 : MeetO a b o1) (h2 : MeetO b c o2) (hw : MeetO o1 c w) (hw' : MeetO a o2 w') : w = w' :=
  hw.uniq hw' fun t => by rw [h1.2, h2.2]; exact and_assoc
theorem whole_right {a b c o1 o3 w w' : OLp} (h1 : MeetO a b o1) (h3 : MeetO a c o3) (hw : MeetO o1 c w) (hw' : MeetO o3 b w') : w = w' :=
  hw.uniq hw' fun t => by rw [h1.2, h3.2]; exact ⟨fun ⟨⟨x, y⟩, z⟩ => ⟨⟨x, z⟩, y⟩, fun ⟨⟨x, z⟩, y⟩ => ⟨⟨x, y⟩, z⟩⟩
theorem seen_both {a : Int × Int} {b c o2 s sb sc m : OLp} (h2 : MeetO b c o2) (hs : SeesO a o2 s) (hb : SeesO a b sb) (hc : SeesO a c sc) (hm : MeetO sb sc m) : s = m :=
  shn_inj hs.1 hm.1 fun t => by rw [hs.2, h2.2, hm.2, hb.2, hc.2]
/-- the meeting by what is seen -/
theorem meet_seen {a b m : Int × Int} {sb : OLp} (ha : OkL (some a)) (h : MeetO (some a) (some b) (some m)) (hs : SeesO a (some b) sb) : ∃ u, sb = some u ∧ m = (a.1 * u.1, a.2 + a.1 * u.2) := by
  have a0 := ha _ rfl
  have hm := (h.2 m.2).mp (shn_self m)
  obtain ⟨k, hk⟩ : a.1 ∣ m.2 - a.2 := hm.1
  have hk' : Shn sb k := (hs.2 k).mpr (by rw [show a.2 + k * a.1 = m.2 by rw [Int.mul_comm]; omega]; exact hm.2)
  cases e : sb with
  | none => rw [e] at hk'; exact hk'.elim
  | some u =>
    refine ⟨u, rfl, ?_⟩
    have u0 := hs.1 _ e
    have : (some m : OLp) = some (a.1 * u.1, a.2 + a.1 * u.2) := by
      refine shn_inj h.1 ?_ fun t => ?_
      · rintro l hl
        injection hl with hl
        subst hl
        have h1 : a.1 * u.2 ≤ a.1 * (u.1 - 1) := Int.mul_le_mul_of_nonneg_left (by omega) (by omega)
        have h2 : a.1 * (u.1 - 1) = a.1 * u.1 - a.1 := by rw [Int.mul_sub, Int.mul_one]
        have h3 : 0 ≤ a.1 * u.2 := Int.mul_nonneg (by omega) (by omega)
        refine ⟨Int.mul_pos a0.1 u0.1, ?_, ?_⟩
        · show 0 ≤ a.2 + a.1 * u.2; omega
        · show a.2 + a.1 * u.2 < a.1 * u.1; omega
      · rw [h.2]
        constructor
        · rintro ⟨h1, h2⟩
          obtain ⟨j, hj⟩ : a.1 ∣ t - a.2 := h1
          have hj' : Shn sb j := (hs.2 j).mpr (by rw [show a.2 + j * a.1 = t by rw [Int.mul_comm]; omega]; exact h2)
          rw [e] at hj'
          obtain ⟨i, hi⟩ : u.1 ∣ j - u.2 := hj'
          show a.1 * u.1 ∣ t - (a.2 + a.1 * u.2)
          exact ⟨i, by grind⟩
        · intro h1
          obtain ⟨i, hi⟩ : a.1 * u.1 ∣ t - (a.2 + a.1 * u.2) := h1
          refine ⟨show a.1 ∣ t - a.2 from ⟨u.1 * i + u.2, by grind⟩, ?_⟩
          have := (hs.2 (u.1 * i + u.2)).mp (by rw [e]; show u.1 ∣ u.1 * i + u.2 - u.2; exact ⟨i, by omega⟩)
          rwa [show a.2 + (u.1 * i + u.2) * a.1 = t by grind] at this
    injection this
theorem seen_seen {a c m u : Int × Int} {sc x y : OLp} (e : m = (a.1 * u.1, a.2 + a.1 * u.2)) (hc : SeesO a (some c) sc) (hx : SeesO m (some c) x) (hy : SeesO u sc y) : x = y :=
  shn_inj hx.1 hy.1 fun t => by
    rw [hx.2, hy.2, hc.2, e]
    rw [show a.2 + a.1 * u.2 + t * (a.1 * u.1) = a.2 + (u.2 + t * u.1) * a.1 by grind]
theorem hid_eqT {a b : Int × Int} (h : hidB a b = true) (ha : OkL (some a)) (hb : OkL (some b)) : hidB b a = decide (a.1 = b.1 ∧ a.2 = b.2) := by
  have := hid_both ha hb
  rw [h] at this
  exact this
theorem hid_eqF {a b : Int × Int} (h : ¬ hidB a b = true) (ha : OkL (some a)) (hb : OkL (some b)) : false = decide (a.1 = b.1 ∧ a.2 = b.2) := by
  have := hid_both ha hb
  rw [Bool.eq_false_iff.mpr h] at this
  exact this

/-! ### the text -/
def topS (i : Nat) : Stmt := PySem.Challenge.pw_farlamps_k05_whole_three_lamps.main.body.getD i (.Pass ⟨0, 0, 0, 0⟩)
abbrev s_is_whole : Stmt := topS 7
theorem sc_is_whole : FnScope ["thing"] ["thing"] (defScope s_is_whole) := ⟨rfl, rfl, rfl, by decide +kernel, rfl, by decide +kernel, by decide +kernel⟩
abbrev s_check_beat : Stmt := topS 8
theorem sc_check_beat : FnScope ["thing"] ["thing"] (defScope s_check_beat) := ⟨rfl, rfl, rfl, by decide +kernel, rfl, by decide +kernel, by decide +kernel⟩
abbrev s_inverse : Stmt := topS 9
theorem sc_inverse : FnScope ["number", "modulus", "older", "newer", "older_times", "newer_times", "quotient"] ["number", "modulus"] (defScope s_inverse) := ⟨rfl, rfl, rfl, by decide +kernel, rfl, by decide +kernel, by decide +kernel⟩
abbrev s_Lamp_init : Stmt := inClass (topS 11) 0
theorem sc_Lamp_init : FnScope ["self", "period", "beat"] ["self", "period", "beat"] (defScope s_Lamp_init) := ⟨rfl, rfl, rfl, by decide +kernel, rfl, by decide +kernel, by decide +kernel⟩
abbrev s_Lamp_eq : Stmt := inClass (topS 11) 1
theorem sc_Lamp_eq : FnScope ["self", "other"] ["self", "other"] (defScope s_Lamp_eq) := ⟨rfl, rfl, rfl, by decide +kernel, rfl, by decide +kernel, by decide +kernel⟩
abbrev s_Lamp_shines : Stmt := inClass (topS 11) 2
theorem sc_Lamp_shines : FnScope ["self", "beat"] ["self", "beat"] (defScope s_Lamp_shines) := ⟨rfl, rfl, rfl, by decide +kernel, rfl, by decide +kernel, by decide +kernel⟩
abbrev s_seen_from : Stmt := topS 13
theorem sc_seen_from : FnScope ["lamp", "other", "common", "ahead", "period"] ["lamp", "other"] (defScope s_seen_from) := ⟨rfl, rfl, rfl, by decide +kernel, rfl, by decide +kernel, by decide +kernel⟩
abbrev s_hides : Stmt := topS 14
theorem sc_hides : FnScope ["one", "other"] ["one", "other"] (defScope s_hides) := ⟨rfl, rfl, rfl, by decide +kernel, rfl, by decide +kernel, by decide +kernel⟩
abbrev s_meet : Stmt := topS 12
theorem sc_meet : FnScope ["one", "other", "seen"] ["one", "other"] (defScope s_meet) := ⟨rfl, rfl, rfl, by decide +kernel, rfl, by decide +kernel, by decide +kernel⟩
abbrev s_l_mixed : Stmt := topS 16
theorem sc_l_mixed : FnScope ["_law_cell", "_law_k", "_law_number"] ["_law_cell", "_law_k"] (defScope s_l_mixed) := ⟨rfl, rfl, rfl, by decide +kernel, rfl, by decide +kernel, by decide +kernel⟩
abbrev s_l_source : Stmt := topS 17
theorem sc_l_source : FnScope ["_law_cell"] ["_law_cell"] (defScope s_l_source) := ⟨rfl, rfl, rfl, by decide +kernel, rfl, by decide +kernel, by decide +kernel⟩
abbrev s_l_take : Stmt := topS 18
theorem sc_l_take : FnScope ["_law_source_here", "_law_many", "_law_found"] ["_law_source_here", "_law_many"] (defScope s_l_take) := ⟨rfl, rfl, rfl, by decide +kernel, rfl, by decide +kernel, by decide +kernel⟩
abbrev s_l_prime : Stmt := topS 19
theorem sc_l_prime : FnScope ["_law_source_here", "_law_some"] ["_law_source_here"] (defScope s_l_prime) := ⟨rfl, rfl, rfl, by decide +kernel, rfl, by decide +kernel, by decide +kernel⟩
abbrev s_l_whole : Stmt := topS 20
theorem sc_l_whole : FnScope ["_law_source_here", "_law_small", "_law_great"] ["_law_source_here"] (defScope s_l_whole) := ⟨rfl, rfl, rfl, by decide +kernel, rfl, by decide +kernel, by decide +kernel⟩
abbrev s_l_three : Stmt := topS 22
theorem sc_l_three : FnScope ["_law_source_here", "_law_great", "_law_at", "_law_found", "_law_k", "_law_span_here", "_law_off"] ["_law_source_here"] (defScope s_l_three) := ⟨rfl, rfl, rfl, by decide +kernel, rfl, by decide +kernel, by decide +kernel⟩
abbrev s_l_meeting : Stmt := topS 23
theorem sc_l_meeting : FnScope ["_law_first", "_law_second"] ["_law_first", "_law_second"] (defScope s_l_meeting) := ⟨rfl, rfl, rfl, by decide +kernel, rfl, by decide +kernel, by decide +kernel⟩
abbrev s_l_seen : Stmt := topS 24
theorem sc_l_seen : FnScope ["_law_lamp", "_law_second"] ["_law_lamp", "_law_second"] (defScope s_l_seen) := ⟨rfl, rfl, rfl, by decide +kernel, rfl, by decide +kernel, by decide +kernel⟩
abbrev s_l_right : Stmt := topS 25
theorem sc_l_right : FnScope ["_law_a", "_law_b", "_law_c", "_law_pairs", "_law_whole_here"] ["_law_a", "_law_b", "_law_c"] (defScope s_l_right) := ⟨rfl, rfl, rfl, by decide +kernel, rfl, by decide +kernel, by decide +kernel⟩
abbrev s_l_law : Stmt := topS 26
theorem sc_l_law : FnScope ["_law_script", "_law_cell", "_law_a", "_law_b", "_law_c", "_law_some"] ["_law_script"] (defScope s_l_law) := ⟨rfl, rfl, rfl, by decide +kernel, rfl, by decide +kernel, by decide +kernel⟩
/-- what the top leaves: where each def stands -/
structure Top (K : PySem.W.Frag) (mg : Str → Option Value) where
  C_Lamp : Addr
  cl_Lamp : Cls K C_Lamp
  gC_Lamp : mg "Lamp" = some (.ref C_Lamp)
  kl_Lamp : Kls K C_Lamp
  na_Lamp_period : NoAttr K C_Lamp "period"
  na_Lamp_beat : NoAttr K C_Lamp "beat"
  f_is_whole : Addr
  d_is_whole : FuncData
  F_is_whole : Fun K "is_whole" "is_whole" s_is_whole f_is_whole d_is_whole
  g_is_whole : mg "is_whole" = some (.ref f_is_whole)
  b_is_whole : Binds K d_is_whole ["thing"] []
  f_check_beat : Addr
  d_check_beat : FuncData
  F_check_beat : Fun K "check_beat" "check_beat" s_check_beat f_check_beat d_check_beat
  g_check_beat : mg "check_beat" = some (.ref f_check_beat)
  b_check_beat : Binds K d_check_beat ["thing"] []
  f_inverse : Addr
  d_inverse : FuncData
  F_inverse : Fun K "inverse" "inverse" s_inverse f_inverse d_inverse
  g_inverse : mg "inverse" = some (.ref f_inverse)
  b_inverse : Binds K d_inverse ["number", "modulus"] []
  f_Lamp_init : Addr
  d_Lamp_init : FuncData
  F_Lamp_init : Fun K "__init__" "Lamp.__init__" s_Lamp_init f_Lamp_init d_Lamp_init
  m_Lamp_init : Meth K C_Lamp "__init__" f_Lamp_init
  mk_Lamp : Mk K C_Lamp f_Lamp_init
  b_Lamp_init : Binds K d_Lamp_init ["self", "period", "beat"] []
  f_Lamp_eq : Addr
  d_Lamp_eq : FuncData
  F_Lamp_eq : Fun K "__eq__" "Lamp.__eq__" s_Lamp_eq f_Lamp_eq d_Lamp_eq
  m_Lamp_eq : Meth K C_Lamp "__eq__" f_Lamp_eq
  b_Lamp_eq : Binds K d_Lamp_eq ["self", "other"] []
  f_Lamp_shines : Addr
  d_Lamp_shines : FuncData
  F_Lamp_shines : Fun K "shines" "Lamp.shines" s_Lamp_shines f_Lamp_shines d_Lamp_shines
  m_Lamp_shines : Meth K C_Lamp "shines" f_Lamp_shines
  b_Lamp_shines : Binds K d_Lamp_shines ["self", "beat"] []
  f_seen_from : Addr
  d_seen_from : FuncData
  F_seen_from : Fun K "seen_from" "seen_from" s_seen_from f_seen_from d_seen_from
  g_seen_from : mg "seen_from" = some (.ref f_seen_from)
  b_seen_from : Binds K d_seen_from ["lamp", "other"] []
  f_hides : Addr
  d_hides : FuncData
  F_hides : Fun K "hides" "hides" s_hides f_hides d_hides
  g_hides : mg "hides" = some (.ref f_hides)
  b_hides : Binds K d_hides ["one", "other"] []
  f_meet : Addr
  d_meet : FuncData
  F_meet : Fun K "meet" "meet" s_meet f_meet d_meet
  g_meet : mg "meet" = some (.ref f_meet)
  b_meet : Binds K d_meet ["one", "other"] []
  f_l_mixed : Addr
  d_l_mixed : FuncData
  F_l_mixed : Fun K "_law_mixed" "_law_mixed" s_l_mixed f_l_mixed d_l_mixed
  g_l_mixed : mg "_law_mixed" = some (.ref f_l_mixed)
  b_l_mixed : Binds K d_l_mixed ["_law_cell", "_law_k"] []
  f_l_source : Addr
  d_l_source : FuncData
  F_l_source : Fun K "_law_source" "_law_source" s_l_source f_l_source d_l_source
  g_l_source : mg "_law_source" = some (.ref f_l_source)
  b_l_source : Binds K d_l_source ["_law_cell"] []
  f_l_take : Addr
  d_l_take : FuncData
  F_l_take : Fun K "_law_take" "_law_take" s_l_take f_l_take d_l_take
  g_l_take : mg "_law_take" = some (.ref f_l_take)
  b_l_take : Binds K d_l_take ["_law_source_here", "_law_many"] []
  f_l_prime : Addr
  d_l_prime : FuncData
  F_l_prime : Fun K "_law_prime" "_law_prime" s_l_prime f_l_prime d_l_prime
  g_l_prime : mg "_law_prime" = some (.ref f_l_prime)
  b_l_prime : Binds K d_l_prime ["_law_source_here"] []
  f_l_whole : Addr
  d_l_whole : FuncData
  F_l_whole : Fun K "_law_whole" "_law_whole" s_l_whole f_l_whole d_l_whole
  g_l_whole : mg "_law_whole" = some (.ref f_l_whole)
  b_l_whole : Binds K d_l_whole ["_law_source_here"] []
  f_l_three : Addr
  d_l_three : FuncData
  F_l_three : Fun K "_law_three" "_law_three" s_l_three f_l_three d_l_three
  g_l_three : mg "_law_three" = some (.ref f_l_three)
  b_l_three : Binds K d_l_three ["_law_source_here"] []
  f_l_meeting : Addr
  d_l_meeting : FuncData
  F_l_meeting : Fun K "_law_meeting" "_law_meeting" s_l_meeting f_l_meeting d_l_meeting
  g_l_meeting : mg "_law_meeting" = some (.ref f_l_meeting)
  b_l_meeting : Binds K d_l_meeting ["_law_first", "_law_second"] []
  f_l_seen : Addr
  d_l_seen : FuncData
  F_l_seen : Fun K "_law_seen" "_law_seen" s_l_seen f_l_seen d_l_seen
  g_l_seen : mg "_law_seen" = some (.ref f_l_seen)
  b_l_seen : Binds K d_l_seen ["_law_lamp", "_law_second"] []
  f_l_right : Addr
  d_l_right : FuncData
  F_l_right : Fun K "_law_right" "_law_right" s_l_right f_l_right d_l_right
  g_l_right : mg "_law_right" = some (.ref f_l_right)
  b_l_right : Binds K d_l_right ["_law_a", "_law_b", "_law_c"] []
  f_l_law : Addr
  d_l_law : FuncData
  F_l_law : Fun K "law" "law" s_l_law f_l_law d_l_law
  g_l_law : mg "law" = some (.ref f_l_law)
  b_l_law : Binds K d_l_law ["_law_script"] []
  ne_Lamp : NeK K C_Lamp
  n_isinstance : mg "isinstance" = none
  n_int : mg "int" = none
  n_bool : mg "bool" = none
  n_range : mg "range" = none
  nn_Lamp : PySem.W.subIn K (.ref C_Lamp) (.type "NoneType") = some false
  ic_Lamp : PySem.W.isClsIn K C_Lamp = true
  tc_Lamp : PySem.W.typeIn K (.ref C_Lamp) = some (.type "type")
  sn_Lamp : PySem.W.subIn K (.type "NoneType") (.ref C_Lamp) = some false
  i_gcd : mg "gcd" = some (.builtin "math.gcd")
section
variable {P : Program} {w : World} {K : PySem.W.Frag} {mg : Str → Option Value} {base : Heap}
/-! ### whole numbers -/
def spWhole : Sp := fun vs H Q _ => ∃ z : Int, vs = [.int z] ∧ Q (.bl true) H
theorem ok_is_whole (T : Top K mg) : FnOk P w K mg base CX0 1 T.f_is_whole T.d_is_whole ["thing"] spWhole := by
  refine T.F_is_whole.ok sc_is_whole (fun vs H Q E h => ?_) (fun cdv A outer s H vs Q E hr h => ?_)
  · obtain ⟨z, rfl, _⟩ := h; rfl
  · obtain ⟨z, rfl, q⟩ := h
    refine ⟨_, (pss_one (ps_ret (pe_and (pe_callB call_isi (by rfl) T.n_isinstance (by decide +kernel) (pa_cons (pv 0) (pa_cons (pe_bltn (v := .ty "int") (by rfl) T.n_int (by decide +kernel) rfl) pa_nil))) (pe_one (pe_not (pe_callB call_isi (by rfl) T.n_isinstance (by decide +kernel) (pa_cons (pv 0) (pa_cons (pe_bltn (v := .ty "bool") (by rfl) T.n_bool (by decide +kernel) rfl) pa_nil)))))))), ?_⟩
    exact ⟨_, rfl, _, _, _, _, true, rfl, .ty _, .base (.int z), kit_ty (by decide +kernel), true, rfl, iteT ⟨_, rfl, _, _, _, _, false, rfl, .ty _, .base (.int z), kit_ty (by decide +kernel), false, rfl, q⟩⟩
def spCheckBeat : Sp := fun vs H Q _ => ∃ z : Int, vs = [.int z] ∧ Q .non H
theorem ok_check_beat (T : Top K mg) : FnOk P w K mg base CX0 2 T.f_check_beat T.d_check_beat ["thing"] spCheckBeat := by
  have G_is_whole := ok_is_whole (P := P) (w := w) (base := base) T
  refine T.F_check_beat.ok sc_check_beat (fun vs H Q E h => ?_) (fun cdv A outer s H vs Q E hr h => ?_)
  · obtain ⟨z, rfl, _⟩ := h; rfl
  · obtain ⟨z, rfl, q⟩ := h
    refine ⟨_, (pss_one (ps_if (pt_not (pt_val (pe_call G_is_whole (hr.mono (by decide)) rfl T.g_is_whole T.F_is_whole.kp T.b_is_whole .nil pass0 (pa_cons (pv 0) pa_nil)))) (pss_one (ps_never)) pss_nil)), ?_⟩
    exact ⟨_, rfl, z, rfl, true, rfl, iteF q⟩
def spInverse : Sp := fun vs H Q _ => ∃ a m : Int, vs = [.int a, .int m] ∧ 0 < m ∧ m.natAbs < 2 ^ E8 ∧ Int.gcd m a = 1 ∧ ∀ r : Int, 0 ≤ r ∧ r < m ∧ m ∣ a * r - 1 → ∀ H', Same H H' → Q (.int r) H'
theorem fmod_pos {a b : Int} (h : 0 < b) : a.fmod b = a % b := Int.fmod_eq_emod_of_nonneg a (by omega)
theorem ok_inverse (T : Top K mg) : FnOk P w K mg base CX0 1 T.f_inverse T.d_inverse ["number", "modulus"] spInverse := by
  refine T.F_inverse.ok sc_inverse (fun vs H Q E h => ?_) (fun cdv A outer s H vs Q E hr h => ?_)
  · obtain ⟨a, m, rfl, _⟩ := h; rfl
  · obtain ⟨a, m, rfl, hm, hb, hg, q⟩ := h
    refine ⟨_, (pss_cons (ps_par (i := 2) (j := 3) (by rfl) sc_inverse.nd rfl rfl (by decide) rfl rfl (pa_cons (pv 1) (pa_cons (pe_op op_modN (pv 0) (pv 1)) pa_nil)) (by rfl))
      (pss_cons (ps_asg (pe_tup (pa_cons pe_int (pa_cons pe_int pa_nil))) (pg_tup (by rfl) (pgs_cons (pg_name (i := 4) sc_inverse.nd rfl (Or.inl rfl)) (pgs_cons (pg_name (i := 5) sc_inverse.nd rfl (Or.inl rfl)) pgs_nil))))
      (pss_cons (ps_while PassesOwn.never (pt_cmpR op_gt (pv 3) pe_int (nomark _)) (pss_cons (ps_set (i := 6) sc_inverse.nd rfl (Or.inl rfl) (pe_op op_fdivW (pv 2) (pv 3)))
      (pss_cons (ps_par (i := 2) (j := 3) (by rfl) sc_inverse.nd rfl rfl (by decide) rfl rfl (pa_cons (pv 3) (pa_cons (pe_op op_sub (pv 2) (pe_op op_mulW (pv 6) (pv 3))) pa_nil)) (by rfl))
      (pss_one (ps_par (i := 4) (j := 5) (by rfl) sc_inverse.nd rfl rfl (by decide) rfl rfl (pa_cons (pv 5) (pa_cons (pe_op op_sub (pv 4) (pe_op op_mulW (pv 6) (pv 5))) pa_nil)) (by rfl))))))
      (pss_one (ps_ret (pe_op op_modN (pv 4) (pv 1))))))), ?_⟩
    refine ⟨_, rfl, _, rfl, _, rfl, _, _, rfl, rfl, (by omega), _, _, rfl, ?_⟩
    refine ⟨(by show 2 ≤ sizeLine; decide), fun p hp => ?_⟩
    have s1 : Same H (upd H p (.tup [.int 0, .int 1])) := fun b o e => by rw [upd_ne (ne_of_none e hp)]; exact e
    refine ⟨p, _, rfl, SqT.of upd_same, rfl, _, _, rfl, _, _, rfl, rfl, ?_⟩
    have lt8 : ∀ z : Int, 0 ≤ z → z ≤ m → z.natAbs < 2 ^ E8 := fun z h0 h1 => Nat.lt_of_le_of_lt (by omega) hb
    refine while_by (fun σ H' => ∃ (o n ot nt : Int) (v : Option V), σ = [some (.int a), some (.int m), some (.int o), some (.int n), some (.int ot), some (.int nt), v] ∧ InvI a m o n ot nt ∧ (o ≤ m ∧ n ≤ m) ∧ Same H H')
      (fun σ _ => match σ with | [_, _, _, some (.int n), _, _, _] => n.toNat | _ => 0) ⟨m, a % m, 0, 1, none, by rw [← fmod_pos hm]; rfl, InvI.start hm hg, ⟨Int.le_refl _, Int.le_of_lt (Int.emod_lt_of_pos _ hm)⟩, s1⟩ ?_
      (fun σ H Q Q' hq ⟨v, hv, i, j, e1, e2, k, e3, h⟩ => ⟨v, hv, i, j, e1, e2, k, e3, hq _ _ h⟩)
    rintro σ H' ⟨o, n, ot, nt, v, rfl, I, ⟨hle, no⟩, s2⟩
    refine ⟨_, rfl, _, _, rfl, rfl, _, rfl, ite2 (fun c => ?_) (fun c => ?_)⟩
    · have hn : 0 < n := of_decide_eq_true c
      have o0 := I.o0
      have q0 : 0 ≤ o / n := Int.ediv_nonneg (by omega) (by omega)
      have q1 : o / n ≤ o := Int.ediv_le_self _ (by omega)
      have J := I.step hn
      have e0 : o - o / n * n = o % n := by
        have := Int.emod_add_mul_ediv o n
        rw [Int.mul_comm] at this
        omega
      have nlt : o % n < n := Int.emod_lt_of_pos _ hn
      have bn := lt8 n (by omega) no
      have bq := lt8 (o / n) q0 (by omega)
      have bt : nt.natAbs < 2 ^ E8 := Nat.lt_of_le_of_lt (by have := I.nt_le; omega) hb
      refine ⟨_, rfl, _, rfl, o, n, rfl, rfl, wide_div hn bn (by decide) (by decide), ?_⟩
      refine ⟨_, rfl, _, rfl, _, rfl, _, rfl, _, _, rfl, rfl, wide_mul bq bn (by decide) (by decide) (by decide), _, _, rfl, rfl, _, _, rfl, ?_⟩
      refine ⟨_, rfl, _, rfl, _, rfl, _, rfl, _, _, rfl, rfl, wide_mul bq bt (by decide) (by decide) (by decide), _, _, rfl, rfl, _, _, rfl, ?_⟩
      refine ⟨⟨n, o - o / n * n, nt, ot - o / n * nt, _, rfl, J, ⟨no, by omega⟩, s2⟩, ?_⟩
      show (o - o / n * n).toNat < n.toNat
      omega
    · have hn : n = 0 := by
        have := of_decide_eq_false (Bool.eq_false_iff.mpr c)
        have := I.n0
        omega
      subst hn
      refine ⟨_, rfl, _, rfl, _, _, rfl, rfl, (by omega), ?_⟩
      show Q (V.int (ot.fmod m)) H'
      rw [fmod_pos hm]
      exact q _ (I.fin hm) _ s2
end

section
variable {P : Program} {w : World} {K : PySem.W.Frag} {mg : Str → Option Value} {base : Heap}
/-! ### a lamp: its fields -/
theorem lpb : ¬ (("period" : Str) = "beat") := by decide +kernel
def lf (p b : Int) : List (Str × V) := putF "beat" (.int b) (putF "period" (.int p) [])
theorem lf_period (p b : Int) : (lf p b).lookup ("period" : Str) = some (.int p) := by
  unfold lf
  rw [lookup_putF, if_neg lpb, lookup_putF, if_pos rfl]
theorem lf_beat (p b : Int) : (lf p b).lookup ("beat" : Str) = some (.int b) := by
  unfold lf
  rw [lookup_putF, if_pos rfl]
theorem lf_no (p b : Int) {m : Str} (h1 : ¬ m = "beat") (h2 : ¬ m = "period") : (lf p b).lookup m = none := by
  unfold lf
  rw [lookup_putF, if_neg h1, lookup_putF, if_neg h2]
  all_goals rfl
/-- a Lamp of period p and beat b stands at a -/
def LampAt (C : Addr) (H : Hp) (a : Addr) (p b : Int) : Prop := ∃ dx, H a = some (.ins C dx (lf p b))
theorem LampAt.same {C : Addr} {H H' : Hp} {a : Addr} {p b : Int} (h : LampAt C H a p b) (s : Same H H') : LampAt C H' a p b := let ⟨dx, e⟩ := h; ⟨dx, s _ _ e⟩
theorem LampAt.eq {C : Addr} {H : Hp} {a : Addr} {p b p' b' : Int} (h : LampAt C H a p b) (h' : LampAt C H a p' b') : p = p' ∧ b = b' := by
  obtain ⟨dx, e⟩ := h
  obtain ⟨dx', e'⟩ := h'
  rw [e] at e'
  have e2 : lf p b = lf p' b' := by
    injection e' with e'
    injection e'
  have h1 := lf_period p b
  have h2 := lf_beat p b
  rw [e2, lf_period] at h1
  rw [e2, lf_beat] at h2
  injection h1 with h1
  injection h1 with h1
  injection h2 with h2
  injection h2 with h2
  exact ⟨h1.symm, h2.symm⟩
theorem dec_int {a b : Int} : decide (V.int a = V.int b) = decide (a = b) := by
  by_cases h : a = b
  · rw [decide_eq_true h, decide_eq_true (by rw [h])]
  · rw [decide_eq_false h, decide_eq_false (by intro e; injection e with e; exact h e)]
/-! ### made -/
def spLampInit (C : Addr) : Sp := fun vs H Q _ => ∃ (x dx : Addr) (p b : Int), vs = [.ref x, .int p, .int b] ∧ H x = some (.ins C dx []) ∧ 0 < p ∧ ∀ H', LampAt C H' x p (b % p) → (∀ c o, H c = some o → c ≠ x → H' c = some o) → Q .non H'
theorem ok_Lamp_init (T : Top K mg) : FnOk P w K mg base CX0 2 T.f_Lamp_init T.d_Lamp_init ["self", "period", "beat"] (spLampInit T.C_Lamp) := by
  have G_is_whole := ok_is_whole (P := P) (w := w) (base := base) T
  refine T.F_Lamp_init.ok sc_Lamp_init (fun vs H Q E h => ?_) (fun cdv A outer s H vs Q E hr h => ?_)
  · obtain ⟨x, dx, p, b, rfl, _⟩ := h; rfl
  · obtain ⟨x, dx, p, b, rfl, hx, hp, q⟩ := h
    refine ⟨_, (pss_cons (ps_if (PW.pt (pw_or (pt_not (pt_val (pe_call G_is_whole (hr.mono (by decide)) rfl T.g_is_whole T.F_is_whole.kp T.b_is_whole .nil pass0 (pa_cons (pv 1) pa_nil)))) (pw_or1 (pt_cmpR op_lt (pv 1) pe_int (nomark _))))) (pss_one (ps_never)) pss_nil)
      (pss_cons (ps_if (pt_not (pt_val (pe_call G_is_whole (hr.mono (by decide)) rfl T.g_is_whole T.F_is_whole.kp T.b_is_whole .nil pass0 (pa_cons (pv 2) pa_nil)))) (pss_one (ps_never)) pss_nil)
      (pss_cons (ps_fld (pv 0) (pv 1) rfl)
      (pss_one (ps_fld (pv 0) (pe_op op_modN (pv 2) (pv 1)) rfl))))), ?_⟩
    refine ⟨_, rfl, p, rfl, true, rfl, iteF ⟨_, rfl, _, _, rfl, rfl, _, rfl, ite2 (fun c => absurd (of_decide_eq_true c) (by omega)) (fun _ => ?_)⟩⟩
    refine ⟨_, rfl, b, rfl, true, rfl, iteF ?_⟩
    refine ⟨_, rfl, _, rfl, x, T.C_Lamp, dx, [], rfl, hx, T.cl_Lamp, T.na_Lamp_period, (by show 0 < 1000; decide), ?_⟩
    refine ⟨_, rfl, _, rfl, _, _, rfl, rfl, (by omega), _, rfl, x, T.C_Lamp, dx, _, rfl, upd_same, T.cl_Lamp, T.na_Lamp_beat, (by show 1 < 1000; decide), ?_⟩
    refine q _ ⟨dx, ?_⟩ fun c o e hc => by rw [upd_ne hc, upd_ne hc]; exact e
    rw [upd_same]
    show some (HO.ins T.C_Lamp dx (putF "beat" (V.int (b.fmod p)) (putF "period" (V.int p) []))) = _
    rw [fmod_pos hp]
    rfl
/-- Lamp(p, b): the arguments' reading ends in this -/
theorem make_lamp {C : Addr} {p b : Int} {vs : List V} {H : Hp} {Q : VK} {E : XK} (hv : vs = [.int p, .int b]) (hp : 0 < p) (q : ∀ a H', H a = none → Same H H' → LampAt C H' a p (b % p) → Q (.ref a) H') :
    ∀ x dx, H x = none → H dx = none → dx ≠ x → spLampInit C (.ref x :: (vs ++ [])) (upd (upd H dx (.own x)) x (.ins C dx [])) (fun v H2 => v = .non ∧ Q (.ref x) H2) E :=
  fun x dx nx nd _ => ⟨x, dx, p, b, by rw [hv]; rfl, upd_same, hp, fun H' h k => ⟨rfl, q x H' nx (Same.made nx nd k) h⟩⟩
/-! ### == -/
def spLampEq (K : PySem.W.Frag) (C : Addr) : Sp := fun vs H Q _ => ∃ (a : Addr) (p b : Int) (y : V), vs = [.ref a, y] ∧ LampAt C H a p b ∧
  ((∃ (c : Addr) (p' b' : Int), y = .ref c ∧ LampAt C H c p' b' ∧ Q (.bl (decide (p = p' ∧ b = b'))) H) ∨ (∃ t, TyX K H y t ∧ PySem.W.kitOne K t (.ref C) = some false ∧ Q (.bl false) H))
theorem ok_Lamp_eq (T : Top K mg) : FnOk P w K mg base CX0 1 T.f_Lamp_eq T.d_Lamp_eq ["self", "other"] (spLampEq K T.C_Lamp) := by
  refine T.F_Lamp_eq.ok sc_Lamp_eq (fun vs H Q E h => ?_) (fun cdv A outer s H vs Q E hr h => ?_)
  · obtain ⟨a, p, b, y, rfl, _⟩ := h; rfl
  · obtain ⟨a, p, b, y, rfl, ⟨dx, ha⟩, h⟩ := h
    refine ⟨_, (pss_one (ps_ret (pe_and (pe_callB call_isi (by rfl) T.n_isinstance (by decide +kernel) (pa_cons (pv 1) (pa_cons (pe_glob (v := .ref T.C_Lamp) rfl T.gC_Lamp rfl) pa_nil))) (pe_and (pe_cmpR op_eq (pe_fld (pv 0) rfl) (pe_fld (pv 1) rfl) (nomark _)) (pe_one (pe_cmpR op_eq (pe_fld (pv 0) rfl) (pe_fld (pv 1) rfl) (nomark _))))))), ?_⟩
    rcases h with ⟨c, p', b', rfl, ⟨dc, hc⟩, q⟩ | ⟨t, ty, kt, q⟩
    · refine ⟨_, rfl, _, _, _, _, true, rfl, .own _, T.kl_Lamp.ty hc, (by unfold PySem.W.kitOne; rw [if_pos (by simp)]), true, rfl, iteT ?_⟩
      refine ⟨_, rfl, a, T.C_Lamp, dx, _, _, rfl, ha, T.cl_Lamp, T.na_Lamp_period, lf_period _ _, _, rfl, c, T.C_Lamp, dc, _, _, rfl, hc, T.cl_Lamp, T.na_Lamp_period, lf_period _ _, rfl, _, rfl, ?_⟩
      rw [dec_int]
      refine ite2 (fun e => ?_) (fun e => ?_)
      · refine ⟨_, rfl, a, T.C_Lamp, dx, _, _, rfl, ha, T.cl_Lamp, T.na_Lamp_beat, lf_beat _ _, _, rfl, c, T.C_Lamp, dc, _, _, rfl, hc, T.cl_Lamp, T.na_Lamp_beat, lf_beat _ _, rfl, ?_⟩
        have e1 : p = p' := of_decide_eq_true e
        show Q (V.bl (decide (V.int b = V.int b'))) H
        rw [dec_int, show decide (b = b') = decide (p = p' ∧ b = b') by simp [e1]]
        exact q
      · have e1 : ¬ p = p' := fun z => e (decide_eq_true z)
        rw [show decide (p = p' ∧ b = b') = false by simp [e1]] at q
        exact q
    · exact ⟨_, rfl, _, _, _, _, false, rfl, .own _, ty, kt, false, rfl, iteF q⟩
/-! ### shines -/
def spShines (C : Addr) : Sp := fun vs H Q _ => ∃ (a : Addr) (p b t : Int), vs = [.ref a, .int t] ∧ LampAt C H a p b ∧ 0 < p ∧ Q (.bl (decide (p ∣ t - b))) H
end

section
variable {P : Program} {w : World} {K : PySem.W.Frag} {mg : Str → Option Value} {base : Heap}
theorem ok_Lamp_shines (T : Top K mg) : FnOk P w K mg base CX0 3 T.f_Lamp_shines T.d_Lamp_shines ["self", "beat"] (spShines T.C_Lamp) := by
  have G_Lamp_eq := ok_Lamp_eq (P := P) (w := w) (base := base) T
  have G_check_beat := ok_check_beat (P := P) (w := w) (base := base) T
  refine T.F_Lamp_shines.ok sc_Lamp_shines (fun vs H Q E h => ?_) (fun cdv A outer s H vs Q E hr h => ?_)
  · obtain ⟨a, p, b, t, rfl, _⟩ := h; rfl
  · obtain ⟨a, p, b, t, rfl, ⟨dx, ha⟩, hp, q⟩ := h
    refine ⟨_, (pss_cons (ps_expr (pe_call G_check_beat (hr.mono (by decide)) rfl T.g_check_beat T.F_check_beat.kp T.b_check_beat .nil pass0 (pa_cons (pv 1) pa_nil)))
      (pss_one (ps_ret (pe_cmpR op_eq (pe_op op_modN (pe_op op_sub (pv 1) (pe_fld (pv 0) rfl)) (pe_fld (pv 0) rfl)) pe_int (nomark _))))), ?_⟩
    refine ⟨_, rfl, t, rfl, ?_⟩
    refine ⟨_, rfl, _, rfl, a, T.C_Lamp, dx, _, _, rfl, ha, T.cl_Lamp, T.na_Lamp_beat, lf_beat _ _, _, _, rfl, rfl, _, rfl, a, T.C_Lamp, dx, _, _, rfl, ha, T.cl_Lamp, T.na_Lamp_period, lf_period _ _, _, _, rfl, rfl, (by omega), rfl, ?_⟩
    show Q (V.bl (decide (V.int ((t - b).fmod p) = V.int 0))) H
    rw [dec_int, fmod_pos hp, decide_eq_decide.mpr dvd_iff_emod]
    exact q
end

section
variable {P : Program} {w : World} {K : PySem.W.Frag} {mg : Str → Option Value} {base : Heap}
/-- a period as it may be handed in -/
structure Pd (p b : Int) : Prop where
  p0 : 0 < p
  pb : p.natAbs < 2 ^ E8
  b0 : 0 ≤ b
  bp : b < p
def spSeen (C : Addr) : Sp := fun vs H Q _ => ∃ (a c : Addr) (p1 b1 p2 b2 : Int), vs = [.ref a, .ref c] ∧ LampAt C H a p1 b1 ∧ LampAt C H c p2 b2 ∧ Pd p1 b1 ∧ Pd p2 b2 ∧
  (¬ (Int.gcd p1 p2 : Int) ∣ b2 - b1 → ∀ H', Same H H' → Q .non H') ∧
  (∀ q r, SeenIs p1 b1 p2 b2 q r → (Int.gcd p1 p2 : Int) ∣ b2 - b1 → ∀ x H', H x = none → Same H H' → LampAt C H' x q r → Q (.ref x) H')
theorem ok_seen_from (T : Top K mg) : FnOk P w K mg base CX0 4 T.f_seen_from T.d_seen_from ["lamp", "other"] (spSeen T.C_Lamp) := by
  have G_Lamp_init := ok_Lamp_init (P := P) (w := w) (base := base) T
  have G_Lamp_eq := ok_Lamp_eq (P := P) (w := w) (base := base) T
  have G_inverse := ok_inverse (P := P) (w := w) (base := base) T
  refine T.F_seen_from.ok sc_seen_from (fun vs H Q E h => ?_) (fun cdv A outer s H vs Q E hr h => ?_)
  · obtain ⟨a, c, p1, b1, p2, b2, rfl, _⟩ := h; rfl
  · obtain ⟨a, c, p1, b1, p2, b2, rfl, ⟨da, ha⟩, ⟨dc, hc⟩, D1, D2, q1, q2⟩ := h
    have p10 := D1.p0
    have p20 := D2.p0
    have g0 := gcd_pos (a := p1) (b := p2) p10
    refine ⟨_, (pss_cons (ps_set (i := 2) sc_seen_from.nd rfl (Or.inl rfl) (pe_callBfun cr_gcd rfl T.i_gcd (pa_cons (pe_fld (pv 0) rfl) (pa_cons (pe_fld (pv 1) rfl) pa_nil))))
      (pss_cons (ps_set (i := 3) sc_seen_from.nd rfl (Or.inl rfl) (pe_op op_sub (pe_fld (pv 1) rfl) (pe_fld (pv 0) rfl)))
      (pss_cons (ps_if (pt_cmpR op_ne (pe_op op_modN (pv 3) (pv 2)) pe_int (nomark _)) (pss_one (ps_ret pe_non)) pss_nil)
      (pss_cons (ps_set (i := 4) sc_seen_from.nd rfl (Or.inl rfl) (pe_op op_fdivW (pe_fld (pv 1) rfl) (pv 2)))
      (pss_one (ps_ret (pe_make T.mk_Lamp G_Lamp_init (hr.mono (by decide)) (by rfl) T.gC_Lamp T.b_Lamp_init .nil pass0 (pa_cons (pv 4) (pa_cons (pe_op op_mulW (pe_op op_fdivW (pv 3) (pv 2)) (pe_call G_inverse (hr.mono (by decide)) rfl T.g_inverse T.F_inverse.kp T.b_inverse .nil pass0 (pa_cons (pe_op op_fdivW (pe_fld (pv 0) rfl) (pv 2)) (pa_cons (pv 4) pa_nil)))) pa_nil))))))))), ?_⟩
    -- common = gcd(lamp.period, other.period)
    refine ⟨_, rfl, a, T.C_Lamp, da, _, _, rfl, ha, T.cl_Lamp, T.na_Lamp_period, lf_period _ _, _, rfl, c, T.C_Lamp, dc, _, _, rfl, hc, T.cl_Lamp, T.na_Lamp_period, lf_period _ _, _, _, rfl, ?_⟩
    -- ahead = other.beat - lamp.beat
    refine ⟨_, rfl, c, T.C_Lamp, dc, _, _, rfl, hc, T.cl_Lamp, T.na_Lamp_beat, lf_beat _ _, _, rfl, a, T.C_Lamp, da, _, _, rfl, ha, T.cl_Lamp, T.na_Lamp_beat, lf_beat _ _, _, _, rfl, rfl, ?_⟩
    refine ⟨_, rfl, _, rfl, _, _, rfl, rfl, (by show ((Int.gcd p1 p2 : Nat) : Int) ≠ 0; omega), rfl, _, rfl, ?_⟩
    show (if (!decide (V.int ((b2 - b1).fmod (Int.gcd p1 p2 : Int)) = V.int 0)) = true then _ else _)
    rw [dec_int, fmod_pos g0]
    by_cases hz : (b2 - b1) % (Int.gcd p1 p2 : Int) = 0
    · rw [decide_eq_true hz]
      refine iteF ?_
      have hg := dvd_iff_emod.mp hz
      have gp1 : (Int.gcd p1 p2 : Int) ∣ p1 := Int.gcd_dvd_left ..
      have gp2 : (Int.gcd p1 p2 : Int) ∣ p2 := Int.gcd_dvd_right ..
      have gle : (Int.gcd p1 p2 : Int) ≤ p1 := Int.le_of_dvd p10 gp1
      have q0 : 0 < p2 / (Int.gcd p1 p2 : Int) := Int.ediv_pos_of_pos_of_dvd p20 (by omega) gp2
      have cd : CDivW p2 (Int.gcd p1 p2 : Int) := wide_div g0 (wide_le (by omega) gle D1.pb) (by decide) (by decide)
      have qb : (p2 / (Int.gcd p1 p2 : Int)).natAbs < 2 ^ E8 := wide_le (by omega) (Int.ediv_le_self _ (by omega)) D2.pb
      -- period = other.period // common
      refine ⟨_, rfl, c, T.C_Lamp, dc, _, _, rfl, hc, T.cl_Lamp, T.na_Lamp_period, lf_period _ _, _, rfl, _, _, rfl, rfl, cd, ?_⟩
      -- Lamp(period, ahead // common * inverse(lamp.period // common, period))
      refine ⟨_, rfl, _, rfl, _, rfl, _, _, rfl, rfl, cd, _, rfl, a, T.C_Lamp, da, _, _, rfl, ha, T.cl_Lamp, T.na_Lamp_period, lf_period _ _, _, rfl, _, _, rfl, rfl, cd, _, rfl, _, _, rfl, q0, qb, gcd_cop p10, fun v hv H1 s1 => ?_⟩
      have vb : v.natAbs < 2 ^ E8 := wide_le hv.1 (Int.le_of_lt hv.2.1) qb
      have ab : ((b2 - b1) / (Int.gcd p1 p2 : Int)).natAbs < 2 ^ E8 := by
        have e1 : (b2 - b1) / (Int.gcd p1 p2 : Int) * (Int.gcd p1 p2 : Int) = b2 - b1 := Int.ediv_mul_cancel hg
        have e2 : ((b2 - b1) / (Int.gcd p1 p2 : Int)).natAbs * 1 ≤ ((b2 - b1) / (Int.gcd p1 p2 : Int)).natAbs * (Int.gcd p1 p2 : Int).natAbs := Nat.mul_le_mul_left _ (by omega)
        rw [← Int.natAbs_mul, e1] at e2
        have h1 := D1.pb
        have h2 := D2.pb
        have h3 := D1.b0
        have h4 := D1.bp
        have h5 := D2.b0
        have h6 := D2.bp
        generalize (2 : Nat) ^ 8000 = B at *
        omega
      refine ⟨_, _, rfl, rfl, wide_mul ab vb (by decide) (by decide) (by decide), ?_⟩
      refine make_lamp rfl q0 fun x H2 nx s2 hx => ?_
      exact q2 _ _ (seen_is p10 p20 hg hv.2.2) hg x H2 (s1.free nx) (s1.trans s2) hx
    · rw [decide_eq_false hz]
      refine iteT ?_
      exact q1 (fun z => hz (dvd_iff_emod.mpr z)) H (Same.refl H)
end

section
variable {P : Program} {w : World} {K : PySem.W.Frag} {mg : Str → Option Value} {base : Heap}
/-! ### readings of a lamp -/
theorem rdP (T : Top K mg) {H : Hp} {a : Addr} {p b : Int} {Q : VK} (h : LampAt T.C_Lamp H a p b) (q : Q (.int p) H) : ∃ a' C dx fs v, V.ref a = V.ref a' ∧ H a' = some (.ins C dx fs) ∧ Cls K C ∧ NoAttr K C "period" ∧ fs.lookup ("period" : Str) = some v ∧ Q v H :=
  let ⟨dx, e⟩ := h; ⟨a, T.C_Lamp, dx, _, _, rfl, e, T.cl_Lamp, T.na_Lamp_period, lf_period _ _, q⟩
theorem rdB (T : Top K mg) {H : Hp} {a : Addr} {p b : Int} {Q : VK} (h : LampAt T.C_Lamp H a p b) (q : Q (.int b) H) : ∃ a' C dx fs v, V.ref a = V.ref a' ∧ H a' = some (.ins C dx fs) ∧ Cls K C ∧ NoAttr K C "beat" ∧ fs.lookup ("beat" : Str) = some v ∧ Q v H :=
  let ⟨dx, e⟩ := h; ⟨a, T.C_Lamp, dx, _, _, rfl, e, T.cl_Lamp, T.na_Lamp_beat, lf_beat _ _, q⟩
theorem nf_self {K : PySem.W.Frag} {C : Addr} : PySem.W.notFirst K C (.ref C) = true := by unfold PySem.W.notFirst; simp
theorem rdEq (T : Top K mg) {H : Hp} {a c : Addr} {p b p' b' : Int} {Q : VK} {E : XK} (h : LampAt T.C_Lamp H a p b) (h' : LampAt T.C_Lamp H c p' b') (q : Q (.bl (decide (p = p' ∧ b = b'))) H) :
    rEqOwn K T.C_Lamp (spLampEq K T.C_Lamp) E (.ref a) (.ref c) H Q :=
  let ⟨dx, e⟩ := h; let ⟨_, e'⟩ := h'; ⟨a, dx, _, _, rfl, e, T.kl_Lamp.ty e', nf_self, a, p, b, _, rfl, h, .inl ⟨c, p', b', rfl, h', _, rfl, q⟩⟩
theorem rdNe (T : Top K mg) {H : Hp} {a c : Addr} {p b p' b' : Int} {Q : VK} {E : XK} (h : LampAt T.C_Lamp H a p b) (h' : LampAt T.C_Lamp H c p' b') (q : Q (.bl (!decide (p = p' ∧ b = b'))) H) :
    rNeOwn K T.C_Lamp (spLampEq K T.C_Lamp) E (.ref a) (.ref c) H Q :=
  let ⟨dx, e⟩ := h; let ⟨_, e'⟩ := h'; ⟨a, dx, _, _, rfl, e, T.kl_Lamp.ty e', nf_self, a, p, b, _, rfl, h, .inl ⟨c, p', b', rfl, h', _, rfl, q⟩⟩
theorem ifNeF {x y : Int} {A B : Prop} (h : x = y) (hb : B) : if (!decide (V.int x = V.int y)) = true then A else B := by
  rw [dec_int, decide_eq_true h]
  exact iteF hb
theorem ifNeT {x y : Int} {A B : Prop} (h : x ≠ y) (ha : A) : if (!decide (V.int x = V.int y)) = true then A else B := by
  rw [dec_int, decide_eq_false h]
  exact iteT ha
theorem ifEqF {x y : Int} {A B : Prop} (h : x ≠ y) (hb : B) : if decide (V.int x = V.int y) = true then A else B := by
  rw [dec_int, decide_eq_false h]
  exact iteF hb
theorem ifEqT {x y : Int} {A B : Prop} (h : x = y) (ha : A) : if decide (V.int x = V.int y) = true then A else B := by
  rw [dec_int, decide_eq_true h]
  exact iteT ha
theorem fmod0 {x p : Int} (p0 : 0 < p) (d : p ∣ x) : x.fmod p = 0 := by rw [fmod_pos p0]; exact Int.emod_eq_zero_of_dvd d
theorem fmodN {x p : Int} (p0 : 0 < p) (d : ¬ p ∣ x) : x.fmod p ≠ 0 := by rw [fmod_pos p0]; exact fun e => d (Int.dvd_of_emod_eq_zero e)
theorem pd_of {p b : Int} (p0 : 0 < p) (pb : p < 2 ^ 255) : Pd p (b % p) := by
  refine ⟨p0, ?_, Int.emod_nonneg _ (by omega), Int.emod_lt_of_pos _ p0⟩
  have h1 : p.natAbs < 2 ^ 255 := by omega
  exact Nat.lt_of_lt_of_le h1 (Nat.pow_le_pow_right (by decide) (by decide))
end

section
variable {P : Program} {w : World} {K : PySem.W.Frag} {mg : Str → Option Value} {base : Heap}
def spHides (C : Addr) : Sp := fun vs H Q _ => ∃ (a c : Addr) (p1 b1 p2 b2 : Int), vs = [.ref a, .ref c] ∧ LampAt C H a p1 b1 ∧ LampAt C H c p2 b2 ∧ 0 < p1 ∧ 0 < p2 ∧ Q (.bl (decide (p1 ∣ p2) && decide (p1 ∣ b2 - b1))) H
theorem ok_hides (T : Top K mg) : FnOk P w K mg base CX0 4 T.f_hides T.d_hides ["one", "other"] (spHides T.C_Lamp) := by
  have G_Lamp_eq := ok_Lamp_eq (P := P) (w := w) (base := base) T
  have G_Lamp_shines := ok_Lamp_shines (P := P) (w := w) (base := base) T
  refine T.F_hides.ok sc_hides (fun vs H Q E h => ?_) (fun cdv A outer s H vs Q E hr h => ?_)
  · obtain ⟨a, c, p1, b1, p2, b2, rfl, _⟩ := h; rfl
  · obtain ⟨a, c, p1, b1, p2, b2, rfl, ha, hc, p10, p20, q⟩ := h
    refine ⟨_, (pss_one (ps_ret (pe_and (pe_cmpR op_eq (pe_op op_modN (pe_fld (pv 1) rfl) (pe_fld (pv 0) rfl)) pe_int (nomark _)) (pe_one (pe_meth (pv 0) T.cl_Lamp T.m_Lamp_shines G_Lamp_shines (hr.mono (by decide)) T.b_Lamp_shines .nil pass0 (pa_cons (pe_fld (pv 1) rfl) pa_nil)))))), ?_⟩
    refine ⟨_, rfl, _, _, _, _, _, rfl, (hc).choose_spec, T.cl_Lamp, T.na_Lamp_period, lf_period _ _, _, rfl, _, _, _, _, _, rfl, (ha).choose_spec, T.cl_Lamp, T.na_Lamp_period, lf_period _ _, _, _, rfl, rfl, (by omega), rfl, _, rfl, ?_⟩
    by_cases d : p1 ∣ p2
    · refine ifEqT (fmod0 p10 d) ⟨_, rfl, _, _, _, rfl, ha.choose_spec, lf_no _ _ (by decide +kernel) (by decide +kernel), _, rfl, _, _, _, _, _, rfl, (hc).choose_spec, T.cl_Lamp, T.na_Lamp_beat, lf_beat _ _, a, p1, b1, b2, rfl, ha, p10, ?_⟩
      rw [show decide (p1 ∣ b2 - b1) = (decide (p1 ∣ p2) && decide (p1 ∣ b2 - b1)) by rw [decide_eq_true d]; rfl]
      exact q
    · refine ifEqF (fmodN p10 d) ?_
      rw [decide_eq_false d] at q
      exact q
end

section
variable {P : Program} {w : World} {K : PySem.W.Frag} {mg : Str → Option Value} {base : Heap}
def spMeet (C : Addr) : Sp := fun vs H Q _ => ∃ (a c : Addr) (p1 b1 p2 b2 : Int), vs = [.ref a, .ref c] ∧ LampAt C H a p1 b1 ∧ LampAt C H c p2 b2 ∧ Pd p1 b1 ∧ Pd p2 b2 ∧
  (¬ (Int.gcd p1 p2 : Int) ∣ b2 - b1 → ∀ H', Same H H' → Q .non H') ∧
  (∀ m z, MeetIs p1 b1 p2 b2 m z → (Int.gcd p1 p2 : Int) ∣ b2 - b1 → ∀ x H', H x = none → Same H H' → LampAt C H' x m z → Q (.ref x) H')
theorem ok_meet (T : Top K mg) : FnOk P w K mg base CX0 5 T.f_meet T.d_meet ["one", "other"] (spMeet T.C_Lamp) := by
  have G_Lamp_init := ok_Lamp_init (P := P) (w := w) (base := base) T
  have G_seen_from := ok_seen_from (P := P) (w := w) (base := base) T
  refine T.F_meet.ok sc_meet (fun vs H Q E h => ?_) (fun cdv A outer s H vs Q E hr h => ?_)
  · obtain ⟨a, c, p1, b1, p2, b2, rfl, _⟩ := h; rfl
  · obtain ⟨a, c, p1, b1, p2, b2, rfl, ⟨da, ha⟩, ⟨dc, hc⟩, D1, D2, q1, q2⟩ := h
    refine ⟨_, (pss_cons (ps_set (i := 2) sc_meet.nd rfl (Or.inl rfl) (pe_call G_seen_from (hr.mono (by decide)) rfl T.g_seen_from T.F_seen_from.kp T.b_seen_from .nil pass0 (pa_cons (pv 0) (pa_cons (pv 1) pa_nil))))
      (pss_cons (ps_if (pt_cmpR op_isN (pv 2) pe_non (nomark _)) (pss_one (ps_ret pe_non)) pss_nil)
      (pss_one (ps_ret (pe_make T.mk_Lamp G_Lamp_init (hr.mono (by decide)) (by rfl) T.gC_Lamp T.b_Lamp_init .nil pass0 (pa_cons (pe_op op_mulW (pe_fld (pv 0) rfl) (pe_fld (pv 2) rfl)) (pa_cons (pe_op op_add (pe_fld (pv 0) rfl) (pe_op op_mulW (pe_fld (pv 0) rfl) (pe_fld (pv 2) rfl))) pa_nil))))))), ?_⟩
    refine ⟨_, rfl, _, rfl, a, c, p1, b1, p2, b2, rfl, ⟨da, ha⟩, ⟨dc, hc⟩, D1, D2, fun hn H1 s1 => ?_, fun q r S hg x H1 nx s1 ⟨dx, hx⟩ => ?_⟩
    · refine ⟨_, rfl, rfl, _, rfl, iteT ?_⟩
      exact q1 hn H1 s1
    · refine ⟨_, rfl, rfl, _, rfl, iteF ?_⟩
      have ha1 := s1 _ _ ha
      have q0 := S.q0
      have qb : q.natAbs < 2 ^ E8 := by
        rw [S.qe]
        exact wide_le (by rw [← S.qe]; omega) (Int.ediv_le_self _ (by have := D2.p0; omega)) D2.pb
      have rb : r.natAbs < 2 ^ E8 := wide_le S.r0 (by have := S.rq; omega) qb
      refine ⟨_, rfl, a, T.C_Lamp, da, _, _, rfl, ha1, T.cl_Lamp, T.na_Lamp_period, lf_period _ _, _, rfl, x, T.C_Lamp, dx, _, _, rfl, hx, T.cl_Lamp, T.na_Lamp_period, lf_period _ _, _, _, rfl, rfl, wide_mul D1.pb qb (by decide) (by decide) (by decide), ?_⟩
      refine ⟨_, rfl, a, T.C_Lamp, da, _, _, rfl, ha1, T.cl_Lamp, T.na_Lamp_beat, lf_beat _ _, _, rfl, a, T.C_Lamp, da, _, _, rfl, ha1, T.cl_Lamp, T.na_Lamp_period, lf_period _ _, _, rfl, x, T.C_Lamp, dx, _, _, rfl, hx, T.cl_Lamp, T.na_Lamp_beat, lf_beat _ _, _, _, rfl, rfl, wide_mul D1.pb rb (by decide) (by decide) (by decide), _, _, rfl, rfl, ?_⟩
      refine make_lamp rfl (Int.mul_pos D1.p0 q0) fun y H2 ny s2 hy => ?_
      exact q2 _ _ (meet_is D1.p0 S) hg y H2 (s1.free ny) (s1.trans s2) hy
end

section
variable {P : Program} {w : World} {K : PySem.W.Frag} {mg : Str → Option Value} {base : Heap}
/-! ### draws -/
/-- small factors -/
theorem mw {i j : Int} (h1 : -(2 ^ 200) < i) (h2 : i < 2 ^ 200) (h3 : -(2 ^ 200) < j) (h4 : j < 2 ^ 200) : CMulW i j :=
  wide_mul (a := 200) (b := 200) (by omega) (by omega) (by decide) (by decide) (by decide)
theorem nz {j : Int} (h : j ≠ 0) : j ≠ 0 := h
theorem fm0 {a b : Int} (h : 0 < b) : 0 ≤ a.fmod b := by rw [fmod_pos h]; exact Int.emod_nonneg _ (by omega)
theorem fm1 {a b : Int} (h : 0 < b) : a.fmod b < b := by rw [fmod_pos h]; exact Int.emod_lt_of_pos _ h
theorem dvw {i j : Int} (h : 0 < j) (h2 : j < 2 ^ 200) : CDivW i j := wide_div (b := 200) h (by omega) (by decide) (by decide)
theorem same_new {H : Hp} {p : Addr} {o : HO} (h : H p = Option.none) : Same H (upd H p o) := fun b x e => by
  rw [upd_ne (ne_of_none e h)]
  exact e
/-- the heap may have more, and the object at s may be another -/
def Dr (s : Addr) (H H' : Hp) : Prop := ∀ b o, H b = some o → b ≠ s → H' b = some o
theorem Dr.of {s : Addr} {H H' : Hp} (h : Same H H') : Dr s H H' := fun b o e _ => h b o e
theorem Dr.refl (s : Addr) (H : Hp) : Dr s H H := fun _ _ e _ => e
theorem Dr.trans {s : Addr} {H H1 H2 : Hp} (a : Dr s H H1) (b : Dr s H1 H2) : Dr s H H2 := fun c o e hc => b c o (a c o e hc) hc
theorem Dr.then {s : Addr} {H H1 H2 : Hp} (a : Dr s H H1) (b : Same H1 H2) : Dr s H H2 := fun c o e hc => b c o (a c o e hc)
/-- a source of draws stands at s; n draws at most have been taken -/
def Src (H : Hp) (s : Addr) (n : Nat) : Prop := ∃ a b c : Int, H s = some (.lst [.int a, .int b, .int c]) ∧ 0 ≤ c ∧ c ≤ n
theorem Src.same {H H' : Hp} {s : Addr} {n : Nat} (h : Src H s n) (e : Same H H') : Src H' s n := let ⟨a, b, c, h1, h2⟩ := h; ⟨a, b, c, e _ _ h1, h2⟩
theorem Src.mono {H : Hp} {s : Addr} {n m : Nat} (h : Src H s n) (e : n ≤ m) : Src H s m := let ⟨a, b, c, h1, h2, h3⟩ := h; ⟨a, b, c, h1, h2, by omega⟩
theorem Src.free {H H' : Hp} {s l : Addr} {n : Nat} (h : Src H' s n) (d : Dr s H H') (hl : H' l = Option.none) : H l = Option.none := by
  obtain ⟨a, b, c, h1, _⟩ := h
  cases e : H l with
  | none => rfl
  | some o =>
    have hne : l ≠ s := fun z => by rw [z, h1] at hl; cases hl
    rw [d l o e hne] at hl
    cases hl
theorem LampAt.dr {C : Addr} {H H' : Hp} {a s : Addr} {p b : Int} {n : Nat} (h : LampAt C H a p b) (hs : Src H s n) (d : Dr s H H') : LampAt C H' a p b := by
  obtain ⟨dx, e⟩ := h
  obtain ⟨_, _, _, h1, _⟩ := hs
  exact ⟨dx, d a _ e (ne_of e h1 (by intro z; cases z))⟩
def spMixed : Sp := fun vs H Q _ => ∃ b k : Int, vs = [.int b, .int k] ∧ 0 ≤ k ∧ k < 2 ^ 41 ∧ ∀ v : Int, 0 ≤ v → v < 2147483563 → Q (.int v) H
theorem ok_l_mixed (T : Top K mg) : FnOk P w K mg base CX0 1 T.f_l_mixed T.d_l_mixed ["_law_cell", "_law_k"] spMixed := by
  refine T.F_l_mixed.ok sc_l_mixed (fun vs H Q E h => ?_) (fun cdv A outer s H vs Q E hr h => ?_)
  · obtain ⟨b, k, rfl, _⟩ := h; rfl
  · obtain ⟨b, k, rfl, k0, k1, q⟩ := h
    refine ⟨_, (pss_cons (ps_set (i := 2) sc_l_mixed.nd rfl (Or.inl rfl) (pe_op op_modN (pe_op op_mulW (pe_op op_add (pe_op op_modN (pv 0) pe_int) pe_int) (pe_op op_add (pe_op op_mulW (pv 1) pe_int) pe_int)) pe_int))
      (pss_cons (ps_set (i := 2) sc_l_mixed.nd rfl (Or.inl rfl) (pe_op op_modN (pe_op op_mulW (pe_op op_add (pv 2) (pe_op op_mulW (pe_op op_modN (pe_op op_fdivW (pv 0) pe_int) pe_int) (pe_op op_add (pv 1) pe_int))) pe_int) pe_int))
      (pss_cons (ps_set (i := 2) sc_l_mixed.nd rfl (Or.inl rfl) (pe_op op_modN (pe_op op_mulW (pv 2) (pe_op op_add (pe_op op_add (pe_op op_fdivW (pv 2) pe_int) pe_int) (pv 1))) pe_int))
      (pss_one (ps_ret (pe_op op_modN (pe_op op_mulW (pv 2) (pe_op op_add (pe_op op_fdivW (pv 2) pe_int) pe_int)) pe_int)))))), ?_⟩
    have a1 := fm0 (a := b) (b := 2147483646) (by decide)
    have a2 := fm1 (a := b) (b := 2147483646) (by decide)
    refine ⟨_, rfl, _, _, rfl, rfl, nz (by decide), _, _, rfl, rfl, _, rfl, _, _, rfl, rfl, mw (by omega) (by omega) (by decide) (by decide), _, _, rfl, rfl, _, _, rfl, rfl, mw (by omega) (by omega) (by omega) (by omega), _, _, rfl, rfl, nz (by decide), ?_⟩
    have b1 := fm0 (a := (b.fmod 2147483646 + 1) * (k * 7919 + 104729)) (b := 2147483647) (by decide)
    have b2 := fm1 (a := (b.fmod 2147483646 + 1) * (k * 7919 + 104729)) (b := 2147483647) (by decide)
    dsimp only
    generalize ((b.fmod 2147483646 + 1) * (k * 7919 + 104729)).fmod 2147483647 = n1 at *
    have c1 := fm0 (a := b / 2147483646) (b := 1000003) (by decide)
    have c2 := fm1 (a := b / 2147483646) (b := 1000003) (by decide)
    have d0 : 0 ≤ (b / 2147483646).fmod 1000003 * (k + 31) := Int.mul_nonneg c1 (by omega)
    have d1 : (b / 2147483646).fmod 1000003 * (k + 31) ≤ 1000003 * (2 ^ 42) := Int.mul_le_mul (by omega) (by omega) (by omega) (by decide)
    refine ⟨_, rfl, _, rfl, _, _, rfl, rfl, dvw (by decide) (by decide), _, _, rfl, rfl, nz (by decide), _, rfl, _, _, rfl, rfl, _, _, rfl, rfl, mw (by omega) (by omega) (by omega) (by omega), _, _, rfl, rfl, _, _, rfl, rfl, mw (by omega) (by omega) (by decide) (by decide), _, _, rfl, rfl, nz (by decide), ?_⟩
    have e1 := fm0 (a := (n1 + (b / 2147483646).fmod 1000003 * (k + 31)) * 48271) (b := 2147483629) (by decide)
    have e2 := fm1 (a := (n1 + (b / 2147483646).fmod 1000003 * (k + 31)) * 48271) (b := 2147483629) (by decide)
    dsimp only
    generalize ((n1 + (b / 2147483646).fmod 1000003 * (k + 31)) * 48271).fmod 2147483629 = n2 at *
    refine ⟨_, rfl, _, rfl, _, _, rfl, rfl, dvw (by decide) (by decide), _, _, rfl, rfl, _, rfl, _, _, rfl, rfl, _, _, rfl, rfl, mw (by omega) (by omega) (by omega) (by omega), _, _, rfl, rfl, nz (by decide), ?_⟩
    have g1 := fm0 (a := n2 * (n2 / 1013 + 69621 + k)) (b := 2147483587) (by decide)
    have g2 := fm1 (a := n2 * (n2 / 1013 + 69621 + k)) (b := 2147483587) (by decide)
    dsimp only
    generalize (n2 * (n2 / 1013 + 69621 + k)).fmod 2147483587 = n3 at *
    refine ⟨_, rfl, _, rfl, _, _, rfl, rfl, dvw (by decide) (by decide), _, _, rfl, rfl, _, _, rfl, rfl, mw (by omega) (by omega) (by omega) (by omega), _, _, rfl, rfl, nz (by decide), ?_⟩
    exact q _ (fm0 (by decide)) (fm1 (by decide))
def spSource : Sp := fun vs H Q _ => ∃ z : Int, vs = [.int z] ∧ ∀ l H', H l = none → Same H H' → Src H' l 0 → Q (.ref l) H'
theorem ok_l_source (T : Top K mg) : FnOk P w K mg base CX0 1 T.f_l_source T.d_l_source ["_law_cell"] spSource := by
  refine T.F_l_source.ok sc_l_source (fun vs H Q E h => ?_) (fun cdv A outer s H vs Q E hr h => ?_)
  · obtain ⟨z, rfl, _⟩ := h; rfl
  · obtain ⟨z, rfl, q⟩ := h
    refine ⟨_, (pss_one (ps_ret (pe_lst (pa_cons (pv 0) (pa_cons (pv 0) (pa_cons pe_int pa_nil)))))), ?_⟩
    refine ⟨_, rfl, _, rfl, (by show 3 ≤ sizeLine; decide), fun l hl => ?_⟩
    exact q l _ hl (fun b o e => by rw [upd_ne (ne_of_none e hl)]; exact e) ⟨z, z, 0, upd_same, by decide, by decide⟩
def spTake : Sp := fun vs H Q _ => ∃ (s : Addr) (n : Nat) (m : Int), vs = [.ref s, .int m] ∧ Src H s n ∧ n < 1000000 ∧ 0 < m ∧ m < 2 ^ 200 ∧ ∀ v H', 0 ≤ v → v < m → Src H' s (n + 1) → Dr s H H' → Q (.int v) H'
theorem ok_l_take (T : Top K mg) : FnOk P w K mg base CX0 2 T.f_l_take T.d_l_take ["_law_source_here", "_law_many"] spTake := by
  have G_l_mixed := ok_l_mixed (P := P) (w := w) (base := base) T
  refine T.F_l_take.ok sc_l_take (fun vs H Q E h => ?_) (fun cdv A outer s H vs Q E hr h => ?_)
  · obtain ⟨s, n, m, rfl, _⟩ := h; rfl
  · obtain ⟨s, n, m, rfl, ⟨a, b, c, hs, c0, cn⟩, hn, m0, m1, q⟩ := h
    refine ⟨_, (pss_cons (ps_if (pt_cmpR op_ge (pe_ix ix_list (pv 0) pe_int (fun _ _ => rfl)) (pe_op op_pow pe_int pe_int) (nomark _)) (pss_cons (ps_set (i := 2) sc_l_take.nd rfl (Or.inl rfl) (pe_op op_modN (pe_ix ix_list (pv 0) pe_int (fun _ _ => rfl)) (pv 1)))
      (pss_cons (ps_asg (pe_op op_fdivW (pe_ix ix_list (pv 0) pe_int (fun _ _ => rfl)) (pv 1)) (pg_sub (pv 0) pe_int set_list))
      (pss_one (ps_ret (pv 2))))) pss_nil)
      (pss_cons (ps_asg (pe_op op_add (pe_ix ix_list (pv 0) pe_int (fun _ _ => rfl)) pe_int) (pg_sub (pv 0) pe_int set_list))
      (pss_one (ps_ret (pe_op op_modN (pe_call G_l_mixed (hr.mono (by decide)) rfl T.g_l_mixed T.F_l_mixed.kp T.b_l_mixed .nil pass0 (pa_cons (pe_ix ix_list (pv 0) pe_int (fun _ _ => rfl)) (pa_cons (pe_ix ix_list (pv 0) pe_int (fun _ _ => rfl)) pa_nil))) (pv 1)))))), ?_⟩
    refine ⟨_, rfl, s, _, _, _, rfl, rfl, SqL.of hs, at_of (j := 0) rfl rfl, _, _, rfl, rfl, (by refine ⟨by decide, by decide, by decide⟩), _, _, rfl, rfl, _, rfl, ite2 (fun _ => ?_) (fun _ => ?_)⟩
    · refine ⟨_, rfl, s, _, _, _, rfl, rfl, SqL.of hs, at_of (j := 0) rfl rfl, _, rfl, _, _, rfl, rfl, (by omega), ?_⟩
      refine ⟨_, rfl, s, _, _, _, rfl, rfl, SqL.of hs, at_of (j := 0) rfl rfl, _, rfl, _, _, rfl, rfl, dvw m0 m1, _, rfl, s, _, _, _, rfl, rfl, hs, rfl, ?_⟩
      refine ⟨_, rfl, ?_⟩
      exact q _ _ (fm0 m0) (fm1 m0) ⟨a / m, b, c, upd_same, c0, by omega⟩ fun d o e hd => by rw [upd_ne hd]; exact e
    · refine ⟨_, rfl, s, _, _, _, rfl, rfl, SqL.of hs, at_of (j := 2) rfl rfl, _, _, rfl, rfl, _, rfl, s, _, _, _, rfl, rfl, hs, rfl, ?_⟩
      refine ⟨_, rfl, s, _, _, _, rfl, rfl, SqL.of upd_same, at_of (j := 1) rfl rfl, _, rfl, s, _, _, _, rfl, rfl, SqL.of upd_same, at_of (j := 2) rfl rfl, b, c + 1, rfl, by omega, by omega, fun v v0 v1 => ?_⟩
      refine ⟨_, rfl, _, _, rfl, rfl, (by omega), ?_⟩
      exact q _ _ (fm0 m0) (fm1 m0) ⟨a, b, c + 1, upd_same, by omega, by omega⟩ fun d o e hd => by rw [upd_ne hd]; exact e
/-- an item of a written list at a drawn place -/
theorem pick {items : List V} {R : V → Prop} (hR : ∀ x ∈ items, R x) {v : Int} (h0 : 0 ≤ v) (h1 : v < items.length) : ∃ x, atI items v = some x ∧ R x := by
  have hj : v.toNat < items.length := by omega
  exact ⟨items[v.toNat], at_of (j := v.toNat) (by omega) (List.getElem?_eq_getElem hj), hR _ (List.getElem_mem hj)⟩
/-- an int between -/
def Btw (lo hi : Int) (x : V) : Prop := ∃ z : Int, x = .int z ∧ lo ≤ z ∧ z ≤ hi
end

section
variable {P : Program} {w : World} {K : PySem.W.Frag} {mg : Str → Option Value} {base : Heap}
def spPrime : Sp := fun vs H Q _ => ∃ (s : Addr) (n : Nat), vs = [.ref s] ∧ Src H s n ∧ n < 1000000 ∧ ∀ z H', 998244353 ≤ z → z ≤ 1000000000000000009 → Src H' s (n + 1) → Dr s H H' → Q (.int z) H'
theorem ok_l_prime (T : Top K mg) : FnOk P w K mg base CX0 3 T.f_l_prime T.d_l_prime ["_law_source_here"] spPrime := by
  have G_l_take := ok_l_take (P := P) (w := w) (base := base) T
  refine T.F_l_prime.ok sc_l_prime (fun vs H Q E h => ?_) (fun cdv A outer s H vs Q E hr h => ?_)
  · obtain ⟨s, n, rfl, _⟩ := h; rfl
  · obtain ⟨s, n, rfl, hs, hn, q⟩ := h
    refine ⟨_, (pss_cons (ps_set (i := 1) sc_l_prime.nd rfl (Or.inl rfl) (pe_lst (pa_cons pe_int (pa_cons pe_int (pa_cons pe_int (pa_cons pe_int (pa_cons pe_int (pa_cons pe_int pa_nil))))))))
      (pss_one (ps_ret (pe_ix ix_list (pv 1) (pe_call G_l_take (hr.mono (by decide)) rfl T.g_l_take T.F_l_take.kp T.b_l_take .nil pass0 (pa_cons (pv 0) (pa_cons pe_int pa_nil))) (fun _ _ => rfl))))), ?_⟩
    refine ⟨(by show 6 ≤ sizeLine; decide), fun l hl => ?_⟩
    have s1 : Same H (upd H l (.lst [.int 1000000007, .int 998244353, .int 2147483647, .int 1000000000039, .int 1000000000000000003, .int 1000000000000000009])) := same_new hl
    refine ⟨_, rfl, _, rfl, s, n, 6, rfl, hs.same s1, hn, by decide, by decide, fun v H' v0 v1 hs' d => ?_⟩
    obtain ⟨x, hx, z, rfl, z0, z1⟩ := pick (items := [.int 1000000007, .int 998244353, .int 2147483647, .int 1000000000039, .int 1000000000000000003, .int 1000000000000000009]) (R := Btw 998244353 1000000000000000009)
      (by simp only [List.forall_mem_cons]; refine ⟨⟨_, rfl, by decide, by decide⟩, ⟨_, rfl, by decide, by decide⟩, ⟨_, rfl, by decide, by decide⟩, ⟨_, rfl, by decide, by decide⟩, ⟨_, rfl, by decide, by decide⟩, ⟨_, rfl, by decide, by decide⟩, fun _ h => nomatch h⟩) v0 v1
    have nls : l ≠ s := fun e => by obtain ⟨_, _, _, h1, _⟩ := hs; rw [e, h1] at hl; cases hl
    refine ⟨l, _, _, _, rfl, rfl, SqL.of (d l _ upd_same nls), hx, ?_⟩
    exact q z H' z0 z1 hs' (Dr.trans (Dr.of s1) d)
end

section
variable {P : Program} {w : World} {K : PySem.W.Frag} {mg : Str → Option Value} {base : Heap}
def spWholeD : Sp := fun vs H Q _ => ∃ (s : Addr) (n : Nat), vs = [.ref s] ∧ Src H s n ∧ n < 900000 ∧ ∀ z H', -(10 ^ 40) ≤ z → z ≤ 10 ^ 40 → Src H' s (n + 4) → Dr s H H' → Q (.int z) H'
theorem ok_l_whole (T : Top K mg) : FnOk P w K mg base CX0 3 T.f_l_whole T.d_l_whole ["_law_source_here"] spWholeD := by
  have G_l_take := ok_l_take (P := P) (w := w) (base := base) T
  refine T.F_l_whole.ok sc_l_whole (fun vs H Q E h => ?_) (fun cdv A outer s H vs Q E hr h => ?_)
  · obtain ⟨s, n, rfl, _⟩ := h; rfl
  · obtain ⟨s, n, rfl, hs, hn, q⟩ := h
    refine ⟨_, (pss_cons (ps_set (i := 1) sc_l_whole.nd rfl (Or.inl rfl) (pe_op op_sub (pe_call G_l_take (hr.mono (by decide)) rfl T.g_l_take T.F_l_take.kp T.b_l_take .nil pass0 (pa_cons (pv 0) (pa_cons pe_int pa_nil))) pe_int))
      (pss_cons (ps_set (i := 2) sc_l_whole.nd rfl (Or.inl rfl) (pe_op op_add (pe_op op_mulW (pe_call G_l_take (hr.mono (by decide)) rfl T.g_l_take T.F_l_take.kp T.b_l_take .nil pass0 (pa_cons (pv 0) (pa_cons (pe_op op_pow pe_int pe_int) pa_nil))) (pe_op op_pow pe_int pe_int)) (pe_call G_l_take (hr.mono (by decide)) rfl T.g_l_take T.F_l_take.kp T.b_l_take .nil pass0 (pa_cons (pv 0) (pa_cons (pe_op op_pow pe_int pe_int) pa_nil)))))
      (pss_one (ps_ret (pe_ix ix_list (pe_lst (pa_cons (pv 1) (pa_cons (pv 1) (pa_cons (pv 2) (pa_cons (pe_op op_sub pe_int (pv 2)) (pa_cons pe_int (pa_cons (pe_op op_add (pe_op op_pow pe_int pe_int) (pv 1)) pa_nil))))))) (pe_call G_l_take (hr.mono (by decide)) rfl T.g_l_take T.F_l_take.kp T.b_l_take .nil pass0 (pa_cons (pv 0) (pa_cons pe_int pa_nil))) (fun _ _ => rfl)))))), ?_⟩
    refine ⟨_, rfl, s, n, 60, rfl, hs, by omega, by decide, by decide, fun v1 H1 a0 a1 hs1 d1 => ?_⟩
    refine ⟨_, _, rfl, rfl, ?_⟩
    refine ⟨_, rfl, _, _, rfl, rfl, ⟨by decide, by decide, by decide⟩, s, n + 1, _, rfl, hs1, by omega, by decide, by decide, fun v2 H2 b0 b1 hs2 d2 => ?_⟩
    have b1 : v2 < 10 ^ 18 := b1
    refine ⟨_, _, rfl, rfl, ⟨by decide, by decide, by decide⟩, _, _, rfl, rfl, mw (by omega) (by omega) (by decide) (by decide), ?_⟩
    refine ⟨_, rfl, _, _, rfl, rfl, ⟨by decide, by decide, by decide⟩, s, n + 2, _, rfl, hs2, by omega, by decide, by decide, fun v3 H3 c0 c1 hs3 d3 => ?_⟩
    have c1 : v3 < 10 ^ 12 := c1
    refine ⟨_, _, rfl, rfl, ?_⟩
    dsimp only
    have g0 : 0 ≤ v2 * 10 ^ 12 := Int.mul_nonneg b0 (by decide)
    have g1 : v2 * 10 ^ 12 ≤ 10 ^ 18 * 10 ^ 12 := Int.mul_le_mul_of_nonneg_right (by omega) (by decide)
    have eg : ∃ g : Int, g = v2 * (10 : Int) ^ (12 : Int).toNat + v3 ∧ 0 ≤ g ∧ g ≤ 10 ^ 31 := ⟨_, rfl, by show 0 ≤ v2 * 10 ^ 12 + v3; omega, by show v2 * 10 ^ 12 + v3 ≤ 10 ^ 31; omega⟩
    obtain ⟨g, hg, g2, g3⟩ := eg
    rw [← hg]
    refine ⟨_, rfl, _, rfl, _, rfl, _, rfl, _, _, rfl, rfl, _, _, rfl, rfl, ⟨by decide, by decide, by decide⟩, _, rfl, _, _, rfl, rfl, (by show 6 ≤ sizeLine; decide), fun l hl => ?_⟩
    refine ⟨_, rfl, s, n + 3, 6, rfl, hs3.same (same_new hl), by omega, by decide, by decide, fun v4 H4 x0 x1 hs4 d4 => ?_⟩
    obtain ⟨x, hx, z, rfl, z0, z1⟩ := pick (items := [.int (v1 - 30), .int (v1 - 30), .int g, .int (0 - g), .int 0, .int (10 ^ (39 : Int).toNat + (v1 - 30))]) (R := Btw (-(10 ^ 40)) (10 ^ 40))
      (by
        simp only [List.forall_mem_cons]
        refine ⟨⟨_, rfl, ?_, ?_⟩, ⟨_, rfl, ?_, ?_⟩, ⟨_, rfl, ?_, ?_⟩, ⟨_, rfl, ?_, ?_⟩, ⟨_, rfl, ?_, ?_⟩, ⟨10 ^ 39 + (v1 - 30), rfl, ?_, ?_⟩, fun _ h => nomatch h⟩ <;> omega) x0 x1
    have nls : l ≠ s := fun e => by obtain ⟨_, _, _, h1, _⟩ := hs3; rw [e, h1] at hl; cases hl
    refine ⟨l, _, _, _, rfl, rfl, SqL.of (d4 l _ upd_same nls), hx, ?_⟩
    exact q z H4 z0 z1 hs4 (((d1.trans d2).trans d3).trans (Dr.trans (Dr.of (same_new hl)) d4))
end

/-! ### [x for x in .. if test] of ints -/
section
variable {sl n : Nat} {tt : TT} {σ : L2.St} {H1 : Hp} {D a : Addr} {Qd : Hp → Prop}
theorem lc_sieve (f : Int → Bool) (hD : H1 D = Option.none) (hn : n < 100000) (hw : ∀ v, wipe ((wipe σ [sl]).set sl (some v)) [sl] = wipe σ [sl]) (hg : ∀ v : V, ((wipe σ [sl]).set sl (some v))[sl]? = some (some v))
    (ht : ∀ (i : Nat) (H' : Hp) (Q : Bool → Hp → Prop), i < n → Same H1 H' → Q (f i) H' → tt ((wipe σ [sl]).set sl (some (.int i))) H' Q)
    (hd : ∀ H', Same H1 H' → H' D = some (.lst ((sieve n f).map V.int)) → Qd H') :
    ∃ W : Nat → Nat → Hp → Prop, (∃ m, W 0 m (upd H1 D (.lst []))) ∧ ∀ i m H, W i m H →
      ((Itr 0 n).stop i H ∧ Qd H) ∨ ((Itr 0 n).go i H ∧ ∃ Nx : Hp → Prop, (∀ H', Nx H' → ∃ m', m' < m ∧ W (i + 1) m' H') ∧ ∀ x H', (Itr 0 n).yld i H x H' → gName sl x (wipe σ [sl]) H' fun σ2 H2 => wipe σ2 [sl] = wipe σ [sl] ∧ tt σ2 H2 fun b H3 =>
        if b = true then tVar sl σ2 H3 fun y H4 => ∃ acc, H4 D = some (.lst acc) ∧ acc.length < sizeLine ∧ Nx (upd H4 D (.lst (acc ++ [y]))) else Nx H3) := by
  have sm : ∀ {H' : Hp} {o : HO}, Same H1 H' → Same H1 (upd H' D o) := fun s b x e => by rw [upd_ne (ne_of_none e hD)]; exact s b x e
  refine lc_range (fun i H' => Same H1 H' ∧ H' D = some (.lst ((sieve i f).map V.int))) ⟨sm (Same.refl H1), upd_same⟩ (fun i H' hi ⟨s1, hl⟩ => ?_) fun H' ⟨s1, hl⟩ => hd H' s1 hl
  rw [Int.zero_add]
  refine ⟨hw _, ht i H' _ hi s1 ?_⟩
  cases e : f i with
  | true =>
    refine iteT ⟨_, hg _, _, hl, ?_, sm s1, ?_⟩
    · rw [List.length_map]
      have := sieve_len i f
      exact Nat.lt_of_lt_of_le (show (sieve i f).length < 100000 by omega) (by decide)
    · rw [upd_same, sieve_succ, e, List.map_append]
      rfl
  | false =>
    refine iteF ⟨s1, ?_⟩
    rw [hl, sieve_succ, e]
    simp
theorem lc_filter {K : PySem.W.Frag} {ns : List Int} (f : Int → Bool) (hD : H1 D = Option.none) (ha : SqL K H1 a (ns.map V.int)) (hn : ns.length < 100000) (hw : ∀ v, wipe ((wipe σ [sl]).set sl (some v)) [sl] = wipe σ [sl]) (hg : ∀ v : V, ((wipe σ [sl]).set sl (some v))[sl]? = some (some v))
    (ht : ∀ (z : Int) (H' : Hp) (Q : Bool → Hp → Prop), z ∈ ns → Same H1 H' → Q (f z) H' → tt ((wipe σ [sl]).set sl (some (.int z))) H' Q)
    (hd : ∀ H', Same H1 H' → H' D = some (.lst ((ns.filter f).map V.int)) → Qd H') :
    ∃ W : Nat → Nat → Hp → Prop, (∃ m, W 0 m (upd H1 D (.lst []))) ∧ ∀ i m H, W i m H →
      ((Itl K a).stop i H ∧ Qd H) ∨ ((Itl K a).go i H ∧ ∃ Nx : Hp → Prop, (∀ H', Nx H' → ∃ m', m' < m ∧ W (i + 1) m' H') ∧ ∀ x H', (Itl K a).yld i H x H' → gName sl x (wipe σ [sl]) H' fun σ2 H2 => wipe σ2 [sl] = wipe σ [sl] ∧ tt σ2 H2 fun b H3 =>
        if b = true then tVar sl σ2 H3 fun y H4 => ∃ acc, H4 D = some (.lst acc) ∧ acc.length < sizeLine ∧ Nx (upd H4 D (.lst (acc ++ [y]))) else Nx H3) := by
  have sm : ∀ {H' : Hp} {o : HO}, Same H1 H' → Same H1 (upd H' D o) := fun s b x e => by rw [upd_ne (ne_of_none e hD)]; exact s b x e
  refine lc_list (K := K) (a := a) (xs := ns.map V.int) (fun i H' => Same H1 H' ∧ H' D = some (.lst (((ns.take i).filter f).map V.int))) ⟨sm (Same.refl H1), upd_same⟩ (fun i H' _ ⟨s1, _⟩ => s1.seq ha) (fun i x H' hi ⟨s1, hl⟩ => ?_) fun H' ⟨s1, hl⟩ => hd H' s1 (by rw [hl, List.length_map, List.take_length])
  obtain ⟨z, hz, rfl⟩ : ∃ z, ns[i]? = some z ∧ x = V.int z := by
    rw [List.getElem?_map] at hi
    cases e : ns[i]? with
    | none => rw [e] at hi; cases hi
    | some z => rw [e] at hi; exact ⟨z, rfl, (Option.some.inj hi).symm⟩
  have et : ns.take (i + 1) = ns.take i ++ [z] := by
    rw [List.take_succ, hz]
    rfl
  refine ⟨hw _, ht z H' _ (List.mem_of_getElem? hz) s1 ?_⟩
  cases e : f z with
  | true =>
    refine iteT ⟨_, hg _, _, hl, ?_, sm s1, ?_⟩
    · rw [List.length_map]
      have h1 := List.length_filter_le f (ns.take i)
      have h2 := List.length_take_le i ns
      exact Nat.lt_of_lt_of_le (show ((ns.take i).filter f).length < 100000 by have := List.length_take_le' i ns; omega) (by decide)
    · rw [upd_same, et, List.filter_append, List.map_append]
      simp [List.filter_cons, e]
  | false =>
    refine iteF ⟨s1, ?_⟩
    rw [hl, et, List.filter_append]
    simp [List.filter_cons, e]
end

section
variable {P : Program} {w : World} {K : PySem.W.Frag} {mg : Str → Option Value} {base : Heap}
/-- what a part of a law promises: True, from a source of n draws at most, having taken k more at most -/
def spPart (k : Nat) : Sp := fun vs H Q _ => ∃ (s : Addr) (n : Nat), vs = [.ref s] ∧ Src H s n ∧ n < 100000 ∧ ∀ H', Src H' s (n + k) → Dr s H H' → Q (.bl true) H'
theorem Dr.mut {s l : Addr} {H H' : Hp} {o : HO} (d : Dr s H H') (h : H l = Option.none) : Dr s H (upd H' l o) := fun b x e hb => by
  rw [upd_ne (ne_of_none e h)]
  exact d b x e hb
theorem ne_src {H : Hp} {s l : Addr} {n : Nat} (h : Src H s n) (hl : H l = Option.none) : l ≠ s := fun e => by
  obtain ⟨_, _, _, h1, _⟩ := h
  rw [e, h1] at hl
  cases hl
theorem Src.mut {H : Hp} {s l : Addr} {n : Nat} {o : HO} (h : Src H s n) (hl : l ≠ s) : Src (upd H l o) s n := by
  obtain ⟨a, b, c, h1, h2⟩ := h
  exact ⟨a, b, c, by rw [upd_ne hl.symm]; exact h1, h2⟩
def spLaw (K : PySem.W.Frag) : Sp := fun vs H Q _ => ∃ (a : Addr) (ns : List Int), vs = [.ref a] ∧ SqL K H a (ns.map V.int) ∧ ns.length ≤ 63 ∧ ∀ H', Q (.bl true) H'
theorem Dr.back {l : Addr} {H H1 H2 : Hp} (hl : H l = Option.none) (s : Same H H1) (d : Dr l H1 H2) : Same H H2 := fun b o e => d b o (s b o e) (ne_of_none e hl)
theorem cutV_mem {xs : List V} {lo hi : Option Int} {x : V} (h : x ∈ cutV xs lo hi) : x ∈ xs := by
  unfold cutV at h
  exact List.mem_of_mem_drop (List.mem_of_mem_take h)
theorem cut_ints {ns : List Int} {z : Int} {lo hi : Option Int} : ∀ x ∈ cutV (ns.map V.int ++ [.int z]) lo hi, ∃ z : Int, x = .int z := by
  intro x hx
  have := cutV_mem hx
  simp only [List.mem_append, List.mem_map, List.mem_singleton] at this
  rcases this with ⟨z, _, rfl⟩ | rfl
  · exact ⟨z, rfl⟩
  · exact ⟨_, rfl⟩
theorem Pd.big {p b : Int} (D : Pd p b) (h : p < 2 ^ 250) : p < 2 ^ 250 := h
end

section
variable {P : Program} {w : World} {K : PySem.W.Frag} {mg : Str → Option Value} {base : Heap}
/-! ### lamps that may be None -/
def OAt (C : Addr) (H : Hp) (v : V) (k : Nat) : OLp → Prop
  | none => v = .non
  | some l => ∃ a, v = .ref a ∧ LampAt C H a l.1 l.2 ∧ 0 < l.1 ∧ 0 ≤ l.2 ∧ l.2 < l.1 ∧ l.1.natAbs < 2 ^ k
theorem OAt.same {C : Addr} {H H' : Hp} {v : V} {k : Nat} {o : OLp} (h : OAt C H v k o) (s : Same H H') : OAt C H' v k o := by
  cases o with
  | none => exact h
  | some l =>
    obtain ⟨a, e, hl, r⟩ := h
    exact ⟨a, e, hl.same s, r⟩
theorem OAt.ok {C : Addr} {H : Hp} {v : V} {k : Nat} {o : OLp} (h : OAt C H v k o) : OkL o := by
  rintro l rfl
  obtain ⟨_, _, _, h0, h1, h2, _⟩ := h
  exact ⟨h0, h1, h2⟩
theorem OAt.pd {C : Addr} {H : Hp} {v : V} {k : Nat} {l : Int × Int} (h : OAt C H v k (some l)) (hk : k ≤ 8000) : Pd l.1 l.2 := by
  obtain ⟨_, _, _, h0, h1, h2, h3⟩ := h
  exact ⟨h0, Nat.lt_of_lt_of_le h3 (Nat.pow_le_pow_right (by decide) hk), h1, h2⟩
theorem meetO {C : Addr} {H : Hp} {a c : Addr} {l1 l2 : Int × Int} {k1 k2 : Nat} {Q : VK} {E : XK} (hA : OAt C H (.ref a) k1 (some l1)) (hC : OAt C H (.ref c) k2 (some l2)) (n1 : k1 ≤ 8000) (n2 : k2 ≤ 8000)
    (q : ∀ o v H', Same H H' → OAt C H' v (k1 + k2) o → MeetO (some l1) (some l2) o → Q v H') : spMeet C [.ref a, .ref c] H Q E := by
  have P1 := hA.pd n1
  have P2 := hC.pd n2
  obtain ⟨a', ea, ha, _, _, _, z1⟩ := hA
  obtain ⟨c', ec, hc, _, _, _, z2⟩ := hC
  injection ea with ea
  injection ec with ec
  subst ea ec
  refine ⟨a, c, l1.1, l1.2, l2.1, l2.2, rfl, ha, hc, P1, P2, fun hn H' s => ?_, fun m z M hg x H' nx s hx => ?_⟩
  · refine q none .non H' s rfl ⟨fun _ h => (nomatch h), fun t => ⟨fun h => h.elim, fun h => seen_none hn t h.1 h.2⟩⟩
  · refine q (some (m, z)) (.ref x) H' s ⟨x, rfl, hx, M.m0, M.c0, M.cm, ?_⟩ ⟨?_, M.iff⟩
    · show m.natAbs < _
      rw [M.me, Int.natAbs_mul, Nat.pow_add]
      refine Nat.mul_lt_mul'' z1 (Nat.lt_of_le_of_lt ?_ z2)
      have := P2.p0
      have g0 := gcd_pos (a := l1.1) (b := l2.1) P1.p0
      have := Int.ediv_le_self (Int.gcd l1.1 l2.1 : Int) (show 0 ≤ l2.1 by omega)
      have := Int.ediv_nonneg (show 0 ≤ l2.1 by omega) (show (0 : Int) ≤ (Int.gcd l1.1 l2.1 : Int) by omega)
      omega
    · rintro l hl
      injection hl with hl
      subst hl
      exact ⟨M.m0, M.c0, M.cm⟩
theorem seenO {C : Addr} {H : Hp} {a c : Addr} {l1 l2 : Int × Int} {k1 k2 : Nat} {Q : VK} {E : XK} (hA : OAt C H (.ref a) k1 (some l1)) (hC : OAt C H (.ref c) k2 (some l2)) (n1 : k1 ≤ 8000) (n2 : k2 ≤ 8000)
    (q : ∀ o v H', Same H H' → OAt C H' v k2 o → SeesO l1 (some l2) o → Q v H') : spSeen C [.ref a, .ref c] H Q E := by
  have P1 := hA.pd n1
  have P2 := hC.pd n2
  obtain ⟨a', ea, ha, _, _, _, z1⟩ := hA
  obtain ⟨c', ec, hc, _, _, _, z2⟩ := hC
  injection ea with ea
  injection ec with ec
  subst ea ec
  refine ⟨a, c, l1.1, l1.2, l2.1, l2.2, rfl, ha, hc, P1, P2, fun hn H' s => ?_, fun m z M hg x H' nx s hx => ?_⟩
  · refine q none .non H' s rfl ⟨fun _ h => (nomatch h), fun t => ⟨fun h => h.elim, fun h => ?_⟩⟩
    refine seen_none hn (l1.2 + t * l1.1) ?_ h
    exact ⟨t, by rw [Int.mul_comm]; omega⟩
  · refine q (some (m, z)) (.ref x) H' s ⟨x, rfl, hx, M.q0, M.r0, M.rq, ?_⟩ ⟨?_, M.iff⟩
    · show m.natAbs < _
      rw [M.qe]
      refine Nat.lt_of_le_of_lt ?_ z2
      have := P2.p0
      have g0 := gcd_pos (a := l1.1) (b := l2.1) P1.p0
      have := Int.ediv_le_self (Int.gcd l1.1 l2.1 : Int) (show 0 ≤ l2.1 by omega)
      have := Int.ediv_nonneg (show 0 ≤ l2.1 by omega) (show (0 : Int) ≤ (Int.gcd l1.1 l2.1 : Int) by omega)
      omega
    · rintro l hl
      injection hl with hl
      subst hl
      exact ⟨M.q0, M.r0, M.rq⟩
/-- v != v', both of the same lamp or none -/
theorem neO (T : Top K mg) {H : Hp} {v v' : V} {k k' : Nat} {o : OLp} {Q : VK} {E : XK} (h : OAt T.C_Lamp H v k o) (h' : OAt T.C_Lamp H v' k' o) (q : Q (.bl false) H) :
    rOr (rNeOwn K T.C_Lamp (spLampEq K T.C_Lamp) E) rNe v v' H Q := by
  cases o with
  | none =>
    cases h
    cases h'
    refine .inr ⟨rfl, ?_⟩
    rw [decide_eq_true (show V.non = V.non from rfl)]
    exact q
  | some l =>
    obtain ⟨a, rfl, ha, _⟩ := h
    obtain ⟨c, rfl, hc, _⟩ := h'
    refine .inl (rdNe T ha hc ?_)
    rw [decide_eq_true (show l.1 = l.1 ∧ l.2 = l.2 from ⟨rfl, rfl⟩)]
    exact q
theorem OAt.non {C : Addr} {H : Hp} {v : V} {k : Nat} {o : OLp} (h : OAt C H v k o) : v = .non ↔ o = none := by
  cases o with
  | none => exact ⟨fun _ => rfl, fun _ => h⟩
  | some l =>
    obtain ⟨a, rfl, _⟩ := h
    exact ⟨fun e => (nomatch e), fun e => (nomatch e)⟩
theorem noneItem (T : Top K mg) {H : Hp} {v : V} {k : Nat} {o : OLp} {E : XK} (h : OAt T.C_Lamp H v k o) : v = .non ∨ ∃ a dx fs, v = .ref a ∧ H a = some (.ins T.C_Lamp dx fs) ∧ spLampEq K T.C_Lamp [v, .non] H (fun w H' => ∃ b, w = .bl b ∧ b = false ∧ H' = H) E := by
  cases o with
  | none => exact .inl h
  | some l =>
    obtain ⟨a, rfl, ⟨dx, ha⟩, _⟩ := h
    exact .inr ⟨a, dx, _, rfl, ha, a, _, _, _, rfl, ⟨dx, ha⟩, .inr ⟨_, .base .non, kit_no T.ic_Lamp T.tc_Lamp T.sn_Lamp, _, rfl, rfl, rfl⟩⟩
theorem bl_neO {a b : Bool} {A B : Prop} (h : a = b) (hb : B) : if (!decide (V.bl a = V.bl b)) = true then A else B := by
  subst h
  rw [decide_eq_true rfl]
  exact iteF hb
theorem anyNone {C : Addr} {H : Hp} {v1 v2 v3 vw : V} {k1 k2 k3 k : Nat} {o1 o2 o3 w : OLp} (h1 : OAt C H v1 k1 o1) (h2 : OAt C H v2 k2 o2) (h3 : OAt C H v3 k3 o3) (hw : OAt C H vw k w) (e : w = none ↔ (o1 = none ∨ o2 = none ∨ o3 = none)) :
    [v1, v2, v3].any (fun v => decide (v = .non)) = decide (vw = .non) := by
  rw [Bool.eq_iff_iff, List.any_eq_true]
  simp only [List.mem_cons, List.not_mem_nil, or_false, decide_eq_true_eq]
  rw [hw.non, e, ← h1.non, ← h2.non, ← h3.non]
  constructor
  · rintro ⟨x, rfl | rfl | rfl, h⟩
    · exact .inl h
    · exact .inr (.inl h)
    · exact .inr (.inr h)
  · rintro (h | h | h)
    · exact ⟨v1, .inl rfl, h⟩
    · exact ⟨v2, .inr (.inl rfl), h⟩
    · exact ⟨v3, .inr (.inr rfl), h⟩
theorem OAt.lamp {C : Addr} {H : Hp} {a : Addr} {k : Nat} {l : Int × Int} (h : OAt C H (.ref a) k (some l)) : LampAt C H a l.1 l.2 := by
  obtain ⟨c, e, hl, _⟩ := h
  injection e with e
  subst e
  exact hl
theorem OAt.dr {C : Addr} {H H' : Hp} {v : V} {k : Nat} {o : OLp} {s : Addr} {n : Nat} (h : OAt C H v k o) (hs : Src H s n) (d : Dr s H H') : OAt C H' v k o := by
  cases o with
  | none => exact h
  | some l =>
    obtain ⟨a, e, hl, r⟩ := h
    exact ⟨a, e, hl.dr hs d, r⟩
theorem OAt.mut {C : Addr} {H : Hp} {v : V} {k : Nat} {o : OLp} {lf : Addr} {xs ys : List V} (h : OAt C H v k o) (hl : H lf = some (.lst xs)) : OAt C (upd H lf (.lst ys)) v k o := by
  cases o with
  | none => exact h
  | some l =>
    obtain ⟨a, e, ⟨dx, ha⟩, r⟩ := h
    refine ⟨a, e, ⟨dx, ?_⟩, r⟩
    rw [upd_ne (ne_of ha hl (by intro z; cases z))]
    exact ha
theorem OAt.mono {C : Addr} {H : Hp} {v : V} {k k' : Nat} {o : OLp} (h : OAt C H v k o) (hk : k ≤ k') : OAt C H v k' o := by
  cases o with
  | none => exact h
  | some l =>
    obtain ⟨a, e, hl, h0, h1, h2, h3⟩ := h
    exact ⟨a, e, hl, h0, h1, h2, Nat.lt_of_lt_of_le h3 (Nat.pow_le_pow_right (by decide) hk)⟩
end

section
variable {P : Program} {w : World} {K : PySem.W.Frag} {mg : Str → Option Value} {base : Heap}
theorem hidO {C : Addr} {H : Hp} {a c : Addr} {l1 l2 : Int × Int} {k1 k2 : Nat} {Q : VK} {E : XK} (hA : OAt C H (.ref a) k1 (some l1)) (hC : OAt C H (.ref c) k2 (some l2))
    (q : Q (.bl (hidB l1 l2)) H) : spHides C [.ref a, .ref c] H Q E := by
  obtain ⟨a', ea, ha, p1, _⟩ := hA
  obtain ⟨c', ec, hc, p2, _⟩ := hC
  injection ea with ea
  injection ec with ec
  subst ea ec
  exact ⟨a, c, l1.1, l1.2, l2.1, l2.2, rfl, ha, hc, p1, p2, q⟩
end

section
variable {P : Program} {w : World} {K : PySem.W.Frag} {mg : Str → Option Value} {base : Heap}
theorem nfN {K : PySem.W.Frag} {C : Addr} (h : PySem.W.subIn K (.type "NoneType") (.ref C) = some false) : PySem.W.notFirst K C (.type "NoneType") = true := by
  unfold PySem.W.notFirst
  rw [h]
  simp
def spThree (C : Addr) : Sp := fun vs H Q _ => ∃ (s : Addr) (n : Nat), vs = [.ref s] ∧ Src H s n ∧ n < 800000 ∧
  ∀ l a b c la lb lc H', H' l = some (.lst [.ref a, .ref b, .ref c]) → OAt C H' (.ref a) 100 (some la) → OAt C H' (.ref b) 100 (some lb) → OAt C H' (.ref c) 100 (some lc) → Dr s H H' → Q (.ref l) H'
theorem ok_l_three (T : Top K mg) : FnOk P w K mg base CX0 4 T.f_l_three T.d_l_three ["_law_source_here"] (spThree T.C_Lamp) := by
  have G_Lamp_init := ok_Lamp_init (P := P) (w := w) (base := base) T
  have G_l_prime := ok_l_prime (P := P) (w := w) (base := base) T
  have G_l_take := ok_l_take (P := P) (w := w) (base := base) T
  have G_l_whole := ok_l_whole (P := P) (w := w) (base := base) T
  refine T.F_l_three.ok sc_l_three (fun vs H Q E h => ?_) (fun cdv A outer s H vs Q E hr h => ?_)
  · obtain ⟨s, n, rfl, _⟩ := h; rfl
  · obtain ⟨s, n, rfl, hs, hn, q⟩ := h
    refine ⟨_, (pss_cons (ps_set (i := 1) sc_l_three.nd rfl (Or.inl rfl) (pe_ix ix_list (pe_lst (pa_cons pe_int (pa_cons pe_int (pa_cons (pe_call G_l_prime (hr.mono (by decide)) rfl T.g_l_prime T.F_l_prime.kp T.b_l_prime .nil pass0 (pa_cons (pv 0) pa_nil)) pa_nil)))) (pe_call G_l_take (hr.mono (by decide)) rfl T.g_l_take T.F_l_take.kp T.b_l_take .nil pass0 (pa_cons (pv 0) (pa_cons pe_int pa_nil))) (fun _ _ => rfl)))
      (pss_cons (ps_set (i := 2) sc_l_three.nd rfl (Or.inl rfl) (pe_call G_l_whole (hr.mono (by decide)) rfl T.g_l_whole T.F_l_whole.kp T.b_l_whole .nil pass0 (pa_cons (pv 0) pa_nil)))
      (pss_cons (ps_set (i := 3) sc_l_three.nd rfl (Or.inl rfl) (pe_lst pa_nil))
      (pss_cons (ps_for PassesOwn.never rfl (pi_range1 (by rfl) T.n_range (pa_cons pe_int pa_nil)) (pg_name (i := 4) sc_l_three.nd rfl (Or.inl rfl)) (pss_cons (ps_set (i := 5) sc_l_three.nd rfl (Or.inl rfl) (pe_op op_mulW (pv 1) (pe_ix ix_list (pe_lst (pa_cons pe_int (pa_cons pe_int (pa_cons pe_int (pa_cons pe_int (pa_cons pe_int (pa_cons pe_int (pa_cons pe_int (pa_cons pe_int (pa_cons pe_int (pa_cons pe_int pa_nil))))))))))) (pe_call G_l_take (hr.mono (by decide)) rfl T.g_l_take T.F_l_take.kp T.b_l_take .nil pass0 (pa_cons (pv 0) (pa_cons pe_int pa_nil))) (fun _ _ => rfl))))
      (pss_cons (ps_set (i := 6) sc_l_three.nd rfl (Or.inl rfl) (pe_op op_mulW (pe_ix ix_list (pe_lst (pa_cons pe_int (pa_cons pe_int (pa_cons pe_int (pa_cons pe_int (pa_cons pe_int (pa_cons pe_int pa_nil))))))) (pe_call G_l_take (hr.mono (by decide)) rfl T.g_l_take T.F_l_take.kp T.b_l_take .nil pass0 (pa_cons (pv 0) (pa_cons pe_int pa_nil))) (fun _ _ => rfl)) (pe_ix ix_list (pe_lst (pa_cons pe_int (pa_cons (pv 1) pa_nil))) (pe_call G_l_take (hr.mono (by decide)) rfl T.g_l_take T.F_l_take.kp T.b_l_take .nil pass0 (pa_cons (pv 0) (pa_cons pe_int pa_nil))) (fun _ _ => rfl))))
      (pss_one (ps_expr (pe_bm PySem.F.plainAttrs_list PySem.F.slot_list_append PySem.F.type_list_append mt_append (pv 3) (pa_cons (pe_make T.mk_Lamp G_Lamp_init (hr.mono (by decide)) (by rfl) T.gC_Lamp T.b_Lamp_init .nil pass0 (pa_cons (pv 5) (pa_cons (pe_op op_add (pv 2) (pv 6)) pa_nil))) pa_nil)))))))
      (pss_one (ps_ret (pv 3))))))), ?_⟩
    -- great
    refine ⟨_, rfl, s, n, rfl, hs, by omega, fun pz H1 p0 p1 hs1 d1 => ⟨(by show 3 ≤ sizeLine; decide), fun l hl => ?_⟩⟩
    refine ⟨_, rfl, s, n + 1, 3, rfl, hs1.same (same_new hl), by omega, by decide, by decide, fun v2 H2 x0 x1 hs2 d2 => ?_⟩
    obtain ⟨x, hx, g, rfl, g0, g1⟩ := pick (items := [.int 1, .int 1, .int pz]) (R := Btw 1 1000000000000000009) (by simp only [List.forall_mem_cons]; refine ⟨⟨_, rfl, ?_, ?_⟩, ⟨_, rfl, ?_, ?_⟩, ⟨_, rfl, ?_, ?_⟩, fun _ h => nomatch h⟩ <;> omega) x0 x1
    have nl0 := ne_src hs1 hl
    refine ⟨l, _, _, _, rfl, rfl, SqL.of (d2 l _ upd_same nl0), hx, ?_⟩
    have D2 : Dr s H H2 := d1.trans (Dr.trans (Dr.of (same_new hl)) d2)
    clear d1 d2 hs1 hl nl0 x0 x1 hx
    -- at
    refine ⟨_, rfl, s, n + 2, rfl, hs2, by omega, fun z H3 z0 z1 hs3 d3 => ?_⟩
    -- found = []
    refine ⟨(by show 0 ≤ sizeLine; decide), fun lf hf => ?_⟩
    have D3 := D2.trans d3
    have hf0 := hs3.free D3 hf
    have nls := ne_src hs3 hf
    have sf := same_new (o := .lst []) hf
    refine ⟨3, rfl, by decide, by decide, for_range (lo := 0) (n := 3) (fun j σ H5 => (∃ v1 v2 v3, σ = [some (.ref s), some (.int g), some (.int z), some (.ref lf), v1, v2, v3]) ∧ Src H5 s (n + 6 + 3 * j) ∧ Dr s H H5 ∧ ∃ vs, H5 lf = some (.lst vs) ∧ vs.length = j ∧ ∀ v ∈ vs, ∃ a l, v = .ref a ∧ OAt T.C_Lamp H5 (.ref a) 100 (some l)) ⟨⟨_, _, _, rfl⟩, hs3.same sf, D3.then sf, [], upd_same, rfl, fun _ h => (nomatch h)⟩ ?_ ?_⟩
    · rintro j σ H5 hj ⟨⟨v1, v2, v3, rfl⟩, hs5, D5, vs, hv, hlen, hall⟩
      clear hs D2 D3 d3 hs2 hs3 sf hf
      -- span
      refine ⟨_, rfl, (by show 10 ≤ sizeLine; decide), fun l1 hl1 => ?_⟩
      refine ⟨_, rfl, s, _, 10, rfl, hs5.same (same_new hl1), by omega, by decide, by decide, fun w1 H6 a0 a1 hs6 d6 => ?_⟩
      obtain ⟨x, hx, y, rfl, y0, y1⟩ := pick (items := [.int 1, .int 2, .int 3, .int 4, .int 6, .int 8, .int 9, .int 12, .int 5, .int 10]) (R := Btw 1 12) (by simp only [List.forall_mem_cons]; refine ⟨⟨_, rfl, ?_, ?_⟩, ⟨_, rfl, ?_, ?_⟩, ⟨_, rfl, ?_, ?_⟩, ⟨_, rfl, ?_, ?_⟩, ⟨_, rfl, ?_, ?_⟩, ⟨_, rfl, ?_, ?_⟩, ⟨_, rfl, ?_, ?_⟩, ⟨_, rfl, ?_, ?_⟩, ⟨_, rfl, ?_, ?_⟩, ⟨_, rfl, ?_, ?_⟩, fun _ h => nomatch h⟩ <;> decide) a0 a1
      refine ⟨l1, _, _, _, rfl, rfl, SqL.of (d6 l1 _ upd_same (ne_src hs5 hl1)), hx, _, _, rfl, rfl, mw (by omega) (by omega) (by omega) (by omega), ?_⟩
      have D6 : Dr s H5 H6 := Dr.trans (Dr.of (same_new hl1)) d6
      have e1 : 0 < g * y := Int.mul_pos (by omega) (by omega)
      have e2 : g * y ≤ 1000000000000000009 * 12 := Int.mul_le_mul g1 (by omega) (by omega) (by decide)
      clear hx hl1 d6 a0 a1
      dsimp only
      generalize g * y = span at *
      -- off
      refine ⟨(by show 6 ≤ sizeLine; decide), fun l2 hl2 => ?_⟩
      refine ⟨_, rfl, s, _, 6, rfl, hs6.same (same_new hl2), by omega, by decide, by decide, fun w2 H7 a0 a1 hs7 d7 => ?_⟩
      obtain ⟨x, hx, o1, rfl, o10, o11⟩ := pick (items := [.int 0, .int 0, .int 0, .int 1, .int 2, .int 3]) (R := Btw 0 3) (by simp only [List.forall_mem_cons]; refine ⟨⟨_, rfl, ?_, ?_⟩, ⟨_, rfl, ?_, ?_⟩, ⟨_, rfl, ?_, ?_⟩, ⟨_, rfl, ?_, ?_⟩, ⟨_, rfl, ?_, ?_⟩, ⟨_, rfl, ?_, ?_⟩, fun _ h => nomatch h⟩ <;> decide) a0 a1
      refine ⟨l2, _, _, _, rfl, rfl, SqL.of (d7 l2 _ upd_same (ne_src hs6 hl2)), hx, ?_⟩
      have D7 : Dr s H5 H7 := D6.trans (Dr.trans (Dr.of (same_new hl2)) d7)
      clear hx hl2 d7 a0 a1 D6
      refine ⟨_, rfl, (by show 2 ≤ sizeLine; decide), fun l3 hl3 => ?_⟩
      refine ⟨_, rfl, s, _, 2, rfl, hs7.same (same_new hl3), by omega, by decide, by decide, fun w3 H8 a0 a1 hs8 d8 => ?_⟩
      obtain ⟨x, hx, o2, rfl, o20, o21⟩ := pick (items := [.int 1, .int g]) (R := Btw 1 1000000000000000009) (by simp only [List.forall_mem_cons]; refine ⟨⟨_, rfl, ?_, ?_⟩, ⟨_, rfl, ?_, ?_⟩, fun _ h => nomatch h⟩ <;> omega) a0 a1
      refine ⟨l3, _, _, _, rfl, rfl, SqL.of (d8 l3 _ upd_same (ne_src hs7 hl3)), hx, _, _, rfl, rfl, mw (by omega) (by omega) (by omega) (by omega), ?_⟩
      have D8 : Dr s H5 H8 := D7.trans (Dr.trans (Dr.of (same_new hl3)) d8)
      clear hx hl3 d8 a0 a1 D7
      dsimp only
      generalize o1 * o2 = off at *
      -- found.append(Lamp(..))
      have hv8 := D8 _ _ hv nls
      refine ⟨_, rfl, .inl ⟨rfl, _, SqL.of hv8⟩, _, rfl, _, rfl, _, rfl, _, _, rfl, rfl, ?_⟩
      intro a da na nda nea; refine ⟨a, da, span, z + off, rfl, upd_same, e1, fun H9 ha ka => ⟨rfl, ?_⟩⟩; have sa := Same.made na nda ka; clear ka nea nda
      have D9 := D8.then sa
      have hv9 := sa _ _ hv8
      have pd := pd_of (p := span) (b := z + off) e1 (by omega)
      refine ⟨lf, _, _, rfl, rfl, hv9, (by rw [hlen]; exact Nat.lt_of_lt_of_le (show j < 3 by omega) (by decide)), ?_⟩
      refine ⟨⟨_, _, _, rfl⟩, ((hs8.same sa).mut nls).mono (by omega), (D5.trans D9).mut hf0, vs ++ [.ref a], upd_same, by rw [List.length_append, hlen]; rfl, ?_⟩
      intro v hvm
      rcases List.mem_append.mp hvm with hvm | hvm
      · obtain ⟨a', l', rfl, ho⟩ := hall v hvm
        exact ⟨a', l', rfl, (ho.dr hs5 D9).mut hv9⟩
      · rw [List.mem_singleton] at hvm
        subst hvm
        refine ⟨a, (span, (z + off) % span), rfl, OAt.mut ?_ hv9⟩
        refine ⟨a, rfl, ha, pd.p0, pd.b0, pd.bp, ?_⟩
        show span.natAbs < 2 ^ 100
        omega
    · rintro σ H5 ⟨⟨v1, v2, v3, rfl⟩, hs5, D5, vs, hv, hlen, hall⟩
      obtain ⟨w1, w2, w3, rfl⟩ : ∃ w1 w2 w3, vs = [w1, w2, w3] := by
        match vs, hlen with
        | [w1, w2, w3], _ => exact ⟨w1, w2, w3, rfl⟩
      obtain ⟨a1, l1, rfl, h1⟩ := hall w1 (by simp)
      obtain ⟨a2, l2, rfl, h2⟩ := hall w2 (by simp)
      obtain ⟨a3, l3, rfl, h3⟩ := hall w3 (by simp)
      refine ⟨_, rfl, ?_⟩
      exact q lf a1 a2 a3 l1 l2 l3 H5 hv h1 h2 h3 D5
def spMeeting (C : Addr) : Sp := fun vs H Q _ => ∃ (v1 v2 : V) (k1 k2 : Nat) (o1 o2 : OLp), vs = [v1, v2] ∧ OAt C H v1 k1 o1 ∧ OAt C H v2 k2 o2 ∧ k1 ≤ 8000 ∧ k2 ≤ 8000 ∧
  ∀ o v H', Same H H' → OAt C H' v (k1 + k2) o → MeetO o1 o2 o → Q v H'
theorem ok_l_meeting (T : Top K mg) : FnOk P w K mg base CX0 6 T.f_l_meeting T.d_l_meeting ["_law_first", "_law_second"] (spMeeting T.C_Lamp) := by
  have G_meet := ok_meet (P := P) (w := w) (base := base) T
  refine T.F_l_meeting.ok sc_l_meeting (fun vs H Q E h => ?_) (fun cdv A outer s H vs Q E hr h => ?_)
  · obtain ⟨v1, v2, k1, k2, o1, o2, rfl, _⟩ := h; rfl
  · obtain ⟨v1, v2, k1, k2, o1, o2, rfl, h1, h2, n1, n2, q⟩ := h
    refine ⟨_, (pss_cons (ps_if (PW.pt (pw_or (pt_cmpR op_isN (pv 0) pe_non (nomark _)) (pw_or1 (pt_cmpR op_isN (pv 1) pe_non (nomark _))))) (pss_one (ps_ret pe_non)) pss_nil)
      (pss_one (ps_ret (pe_call G_meet (hr.mono (by decide)) rfl T.g_meet T.F_meet.kp T.b_meet .nil pass0 (pa_cons (pv 0) (pa_cons (pv 1) pa_nil)))))), ?_⟩
    cases o1 with
    | none =>
      cases h1
      refine ⟨_, rfl, rfl, _, rfl, iteT ?_⟩
      exact q none .non H (Same.refl H) rfl ⟨fun _ h => (nomatch h), fun t => ⟨fun h => h.elim, fun h => h.1⟩⟩
    | some l1 =>
      obtain ⟨a, rfl, ha⟩ := h1
      cases o2 with
      | none =>
        cases h2
        refine ⟨_, rfl, rfl, _, rfl, iteF ?_⟩
        refine ⟨_, rfl, rfl, _, rfl, iteT ?_⟩
        exact q none .non H (Same.refl H) rfl ⟨fun _ h => (nomatch h), fun t => ⟨fun h => h.elim, fun h => h.2⟩⟩
      | some l2 =>
        obtain ⟨c, rfl, hc⟩ := h2
        refine ⟨_, rfl, rfl, _, rfl, iteF ?_⟩
        refine ⟨_, rfl, rfl, _, rfl, iteF ?_⟩
        refine ⟨_, rfl, _, rfl, ?_⟩
        exact meetO (E := E) ⟨a, rfl, ha⟩ ⟨c, rfl, hc⟩ n1 n2 fun o v H' s h M => q o v H' s h M
def spSeenO (C : Addr) : Sp := fun vs H Q _ => ∃ (v1 v2 : V) (k1 k2 : Nat) (l1 : Int × Int) (o2 : OLp), vs = [v1, v2] ∧ OAt C H v1 k1 (some l1) ∧ OAt C H v2 k2 o2 ∧ k1 ≤ 8000 ∧ k2 ≤ 8000 ∧
  ∀ o v H', Same H H' → OAt C H' v k2 o → SeesO l1 o2 o → Q v H'
theorem ok_l_seen (T : Top K mg) : FnOk P w K mg base CX0 5 T.f_l_seen T.d_l_seen ["_law_lamp", "_law_second"] (spSeenO T.C_Lamp) := by
  have G_seen_from := ok_seen_from (P := P) (w := w) (base := base) T
  refine T.F_l_seen.ok sc_l_seen (fun vs H Q E h => ?_) (fun cdv A outer s H vs Q E hr h => ?_)
  · obtain ⟨v1, v2, k1, k2, l1, o2, rfl, _⟩ := h; rfl
  · obtain ⟨v1, v2, k1, k2, l1, o2, rfl, h1, h2, n1, n2, q⟩ := h
    refine ⟨_, (pss_cons (ps_if (PW.pt (pw_or (pt_cmpR op_isN (pv 0) pe_non (nomark _)) (pw_or1 (pt_cmpR op_isN (pv 1) pe_non (nomark _))))) (pss_one (ps_ret pe_non)) pss_nil)
      (pss_one (ps_ret (pe_call G_seen_from (hr.mono (by decide)) rfl T.g_seen_from T.F_seen_from.kp T.b_seen_from .nil pass0 (pa_cons (pv 0) (pa_cons (pv 1) pa_nil)))))), ?_⟩
    obtain ⟨a, rfl, ha⟩ := h1
    refine ⟨_, rfl, rfl, _, rfl, iteF ?_⟩
    cases o2 with
    | none =>
      cases h2
      refine ⟨_, rfl, rfl, _, rfl, iteT ?_⟩
      exact q none .non H (Same.refl H) rfl ⟨fun _ h => (nomatch h), fun t => ⟨fun h => h.elim, fun h => h⟩⟩
    | some l2 =>
      obtain ⟨c, rfl, hc⟩ := h2
      refine ⟨_, rfl, rfl, _, rfl, iteF ?_⟩
      refine ⟨_, rfl, _, rfl, ?_⟩
      exact seenO (E := E) ⟨a, rfl, ha⟩ ⟨c, rfl, hc⟩ n1 n2 fun o v H' s h M => q o v H' s h M
end
section
variable {P : Program} {w : World} {K : PySem.W.Frag} {mg : Str → Option Value} {base : Heap}
theorem meetingO {C : Addr} {H : Hp} {v1 v2 : V} {o1 o2 : OLp} {k1 k2 : Nat} {Q : VK} {E : XK} (h1 : OAt C H v1 k1 o1) (h2 : OAt C H v2 k2 o2) (n1 : k1 ≤ 8000) (n2 : k2 ≤ 8000)
    (q : ∀ o v H', Same H H' → OAt C H' v (k1 + k2) o → MeetO o1 o2 o → Q v H') : spMeeting C [v1, v2] H Q E := ⟨v1, v2, k1, k2, o1, o2, rfl, h1, h2, n1, n2, q⟩
theorem seeingO {C : Addr} {H : Hp} {v1 v2 : V} {l1 : Int × Int} {o2 : OLp} {k1 k2 : Nat} {Q : VK} {E : XK} (h1 : OAt C H v1 k1 (some l1)) (h2 : OAt C H v2 k2 o2) (n1 : k1 ≤ 8000) (n2 : k2 ≤ 8000)
    (q : ∀ o v H', Same H H' → OAt C H' v k2 o → SeesO l1 o2 o → Q v H') : spSeenO C [v1, v2] H Q E := ⟨v1, v2, k1, k2, l1, o2, rfl, h1, h2, n1, n2, q⟩
def spRight3 (C : Addr) : Sp := fun vs H Q _ => ∃ (a b c : Addr) (la lb lc : Int × Int), vs = [.ref a, .ref b, .ref c] ∧ OAt C H (.ref a) 100 (some la) ∧ OAt C H (.ref b) 100 (some lb) ∧ OAt C H (.ref c) 100 (some lc) ∧
  ∀ H', Same H H' → Q (.bl true) H'
theorem ok_l_right (T : Top K mg) : FnOk P w K mg base CX0 7 T.f_l_right T.d_l_right ["_law_a", "_law_b", "_law_c"] (spRight3 T.C_Lamp) := by
  have G_Lamp_eq := ok_Lamp_eq (P := P) (w := w) (base := base) T
  have G_hides := ok_hides (P := P) (w := w) (base := base) T
  have G_l_meeting := ok_l_meeting (P := P) (w := w) (base := base) T
  have G_l_seen := ok_l_seen (P := P) (w := w) (base := base) T
  have G_meet := ok_meet (P := P) (w := w) (base := base) T
  have G_seen_from := ok_seen_from (P := P) (w := w) (base := base) T
  refine T.F_l_right.ok sc_l_right (fun vs H Q E h => ?_) (fun cdv A outer s H vs Q E hr h => ?_)
  · obtain ⟨a, b, c, la, lb, lc, rfl, _⟩ := h; rfl
  · obtain ⟨a, b, c, la, lb, lc, rfl, hA, hB, hC, q⟩ := h
    have hM := @meetO T.C_Lamp
    have hS := @seenO T.C_Lamp
    have hH := @hidO T.C_Lamp
    have hMg := @meetingO T.C_Lamp
    have hSg := @seeingO T.C_Lamp
    generalize spMeet T.C_Lamp = spM at G_meet hM
    generalize spSeen T.C_Lamp = spS at G_seen_from hS
    generalize spHides T.C_Lamp = spH at G_hides hH
    generalize spMeeting T.C_Lamp = spMg at G_l_meeting hMg
    generalize spSeenO T.C_Lamp = spSg at G_l_seen hSg
    refine ⟨_, (pss_cons (ps_set (i := 3) sc_l_right.nd rfl (Or.inl rfl) (pe_lst (pa_cons (pe_call G_meet (hr.mono (by decide)) rfl T.g_meet T.F_meet.kp T.b_meet .nil pass0 (pa_cons (pv 0) (pa_cons (pv 1) pa_nil))) (pa_cons (pe_call G_meet (hr.mono (by decide)) rfl T.g_meet T.F_meet.kp T.b_meet .nil pass0 (pa_cons (pv 1) (pa_cons (pv 2) pa_nil))) (pa_cons (pe_call G_meet (hr.mono (by decide)) rfl T.g_meet T.F_meet.kp T.b_meet .nil pass0 (pa_cons (pv 0) (pa_cons (pv 2) pa_nil))) pa_nil)))))
      (pss_cons (ps_set (i := 4) sc_l_right.nd rfl (Or.inl rfl) (pe_call G_l_meeting (hr.mono (by decide)) rfl T.g_l_meeting T.F_l_meeting.kp T.b_l_meeting .nil pass0 (pa_cons (pe_ix ix_list (pv 3) pe_int (fun _ _ => rfl)) (pa_cons (pv 2) pa_nil))))
      (pss_cons (ps_if (PW.pt (pw_or (pt_cmpR (op_or (op_neOwn T.m_Lamp_eq G_Lamp_eq T.b_Lamp_eq (hr.mono (by decide)) pass0 T.ne_Lamp) op_ne) (pv 4) (pe_call G_l_meeting (hr.mono (by decide)) rfl T.g_l_meeting T.F_l_meeting.kp T.b_l_meeting .nil pass0 (pa_cons (pv 0) (pa_cons (pe_ix ix_list (pv 3) pe_int (fun _ _ => rfl)) pa_nil))) (nomark _)) (pw_or1 (pt_cmpR (op_or (op_neOwn T.m_Lamp_eq G_Lamp_eq T.b_Lamp_eq (hr.mono (by decide)) pass0 T.ne_Lamp) op_ne) (pv 4) (pe_call G_l_meeting (hr.mono (by decide)) rfl T.g_l_meeting T.F_l_meeting.kp T.b_l_meeting .nil pass0 (pa_cons (pe_ix ix_list (pv 3) pe_int (fun _ _ => rfl)) (pa_cons (pv 1) pa_nil))) (nomark _))))) (pss_one (ps_ret pe_bl)) pss_nil)
      (pss_cons (ps_if (pt_cmpR op_ne (pe_cmpR (op_noneInO T.m_Lamp_eq G_Lamp_eq T.b_Lamp_eq (hr.mono (by decide)) pass0 (nfN T.sn_Lamp)) pe_non (pv 3) (by with_unfolding_all rfl)) (pe_cmpR op_isN (pv 4) pe_non (nomark _)) (nomark _)) (pss_one (ps_ret pe_bl)) pss_nil)
      (pss_cons (ps_if (pt_cmpR (op_or (op_neOwn T.m_Lamp_eq G_Lamp_eq T.b_Lamp_eq (hr.mono (by decide)) pass0 T.ne_Lamp) op_ne) (pe_call G_l_seen (hr.mono (by decide)) rfl T.g_l_seen T.F_l_seen.kp T.b_l_seen .nil pass0 (pa_cons (pv 0) (pa_cons (pe_ix ix_list (pv 3) pe_int (fun _ _ => rfl)) pa_nil))) (pe_call G_l_meeting (hr.mono (by decide)) rfl T.g_l_meeting T.F_l_meeting.kp T.b_l_meeting .nil pass0 (pa_cons (pe_call G_seen_from (hr.mono (by decide)) rfl T.g_seen_from T.F_seen_from.kp T.b_seen_from .nil pass0 (pa_cons (pv 0) (pa_cons (pv 1) pa_nil))) (pa_cons (pe_call G_seen_from (hr.mono (by decide)) rfl T.g_seen_from T.F_seen_from.kp T.b_seen_from .nil pass0 (pa_cons (pv 0) (pa_cons (pv 2) pa_nil))) pa_nil))) (nomark _)) (pss_one (ps_ret pe_bl)) pss_nil)
      (pss_cons (ps_if (PW.pt (pw_and (pt_cmpR op_notN (pe_ix ix_list (pv 3) pe_int (fun _ _ => rfl)) pe_non (nomark _)) (pw_and1 (pt_cmpR (op_or (op_neOwn T.m_Lamp_eq G_Lamp_eq T.b_Lamp_eq (hr.mono (by decide)) pass0 T.ne_Lamp) op_ne) (pe_call G_seen_from (hr.mono (by decide)) rfl T.g_seen_from T.F_seen_from.kp T.b_seen_from .nil pass0 (pa_cons (pe_ix ix_list (pv 3) pe_int (fun _ _ => rfl)) (pa_cons (pv 2) pa_nil))) (pe_call G_l_seen (hr.mono (by decide)) rfl T.g_l_seen T.F_l_seen.kp T.b_l_seen .nil pass0 (pa_cons (pe_call G_seen_from (hr.mono (by decide)) rfl T.g_seen_from T.F_seen_from.kp T.b_seen_from .nil pass0 (pa_cons (pv 0) (pa_cons (pv 1) pa_nil))) (pa_cons (pe_call G_seen_from (hr.mono (by decide)) rfl T.g_seen_from T.F_seen_from.kp T.b_seen_from .nil pass0 (pa_cons (pv 0) (pa_cons (pv 2) pa_nil))) pa_nil))) (nomark _))))) (pss_one (ps_ret pe_bl)) pss_nil)
      (pss_cons (ps_if (PW.pt (pw_or (PW.pt (pw_and (pt_val (pe_call G_hides (hr.mono (by decide)) rfl T.g_hides T.F_hides.kp T.b_hides .nil pass0 (pa_cons (pv 0) (pa_cons (pv 1) pa_nil)))) (pw_and (pt_val (pe_call G_hides (hr.mono (by decide)) rfl T.g_hides T.F_hides.kp T.b_hides .nil pass0 (pa_cons (pv 1) (pa_cons (pv 2) pa_nil)))) (pw_and1 (pt_not (pt_val (pe_call G_hides (hr.mono (by decide)) rfl T.g_hides T.F_hides.kp T.b_hides .nil pass0 (pa_cons (pv 0) (pa_cons (pv 2) pa_nil))))))))) (pw_or1 (pt_cmpR op_ne (pe_and (pe_call G_hides (hr.mono (by decide)) rfl T.g_hides T.F_hides.kp T.b_hides .nil pass0 (pa_cons (pv 0) (pa_cons (pv 1) pa_nil))) (pe_one (pe_call G_hides (hr.mono (by decide)) rfl T.g_hides T.F_hides.kp T.b_hides .nil pass0 (pa_cons (pv 1) (pa_cons (pv 0) pa_nil))))) (pe_cmpR (op_eqOwn T.m_Lamp_eq G_Lamp_eq T.b_Lamp_eq (hr.mono (by decide)) pass0) (pv 0) (pv 1) (nomark _)) (nomark _))))) (pss_one (ps_ret pe_bl)) pss_nil)
      (pss_one (ps_ret (pe_or (pe_cmpR op_isN (pe_ix ix_list (pv 3) pe_int (fun _ _ => rfl)) pe_non (nomark _)) (pe_one (pe_and (pe_call G_hides (hr.mono (by decide)) rfl T.g_hides T.F_hides.kp T.b_hides .nil pass0 (pa_cons (pv 0) (pa_cons (pe_ix ix_list (pv 3) pe_int (fun _ _ => rfl)) pa_nil))) (pe_and (pe_call G_hides (hr.mono (by decide)) rfl T.g_hides T.F_hides.kp T.b_hides .nil pass0 (pa_cons (pv 1) (pa_cons (pe_ix ix_list (pv 3) pe_int (fun _ _ => rfl)) pa_nil))) (pe_one (pe_cmpR op_eq (pe_call G_hides (hr.mono (by decide)) rfl T.g_hides T.F_hides.kp T.b_hides .nil pass0 (pa_cons (pe_ix ix_list (pv 3) pe_int (fun _ _ => rfl)) (pa_cons (pv 0) pa_nil))) (pe_call G_hides (hr.mono (by decide)) rfl T.g_hides T.F_hides.kp T.b_hides .nil pass0 (pa_cons (pv 1) (pa_cons (pv 0) pa_nil))) (nomark _)))))))))))))))), ?_⟩
    -- pairs
    refine ⟨_, rfl, _, rfl, hM (E := E0) hA hB (by decide) (by decide) fun o1 v1 H1 s1 m1 M1 => ?_⟩
    refine ⟨_, rfl, _, rfl, hM (E := E0) (hB.same s1) (hC.same s1) (by decide) (by decide) fun o2 v2 H2 s2 m2 M2 => ?_⟩
    have t2 := s1.trans s2
    refine ⟨_, rfl, _, rfl, hM (E := E0) (hA.same t2) (hC.same t2) (by decide) (by decide) fun o3 v3 H3 s3 m3 M3 => ?_⟩
    have t3 := t2.trans s3
    refine ⟨(by show 3 ≤ sizeLine; decide), fun l hl => ?_⟩
    have sl := same_new (o := .lst [v1, v2, v3]) hl
    have t4 := t3.trans sl
    have hl4 : upd H3 l (.lst [v1, v2, v3]) l = some (.lst [v1, v2, v3]) := upd_same
    have n1 := m1.same ((s2.trans s3).trans sl)
    have n2 := m2.same (s3.trans sl)
    have n3 := m3.same sl
    generalize upd H3 l (.lst [v1, v2, v3]) = H4 at *
    clear m1 m2 m3 s1 s2 s3 t2 t3 sl hl
    -- whole
    refine ⟨_, rfl, l, _, _, _, rfl, rfl, SqL.of hl4, at_of (j := 0) rfl rfl, _, rfl, hMg (E := E0) n1 (hC.same t4) (by decide) (by decide) fun w vw H5 s5 hw W => ?_⟩
    have t5 := t4.trans s5
    have hl5 := s5 _ _ hl4
    -- whole != meeting(a, pairs[1])
    refine ⟨_, rfl, _, rfl, _, rfl, l, _, _, _, rfl, rfl, SqL.of hl5, at_of (j := 1) rfl rfl, hMg (E := E0) (hA.same t5) (n2.same s5) (by decide) (by decide) fun w' vw' H6 s6 hw' W' => ?_⟩
    have e := whole_left M1 M2 W W'
    subst e
    have t6 := t5.trans s6
    have hl6 := s6 _ _ hl5
    have hw6 := hw.same s6
    have n26 := (n2.same s5).same s6
    have n36 := (n3.same s5).same s6
    have n16 := (n1.same s5).same s6
    refine neO T hw6 hw' ⟨_, rfl, iteF ?_⟩
    clear hw hw' W' n1 n2 n3 hl4 hl5 s5 s6 t4 t5
    -- whole != meeting(pairs[2], b)
    refine ⟨_, rfl, _, rfl, l, _, _, _, rfl, rfl, SqL.of hl6, at_of (j := 2) rfl rfl, _, rfl, hMg (E := E0) n36 (hB.same t6) (by decide) (by decide) fun w' vw' H7 s7 hw' W' => ?_⟩
    have e := whole_right M1 M3 W W'
    subst e
    refine neO T (hw6.same s7) hw' ⟨_, rfl, iteF ?_⟩
    have t7 := t6.trans s7
    have hl7 := s7 _ _ hl6
    have hw7 := hw6.same s7
    have n17 := n16.same s7
    have n27 := n26.same s7
    have n37 := n36.same s7
    clear hw6 hw' W' n16 n26 n36 hl6 s7 t6 vw'
    -- (None in pairs) != (whole is None)
    refine ⟨_, rfl, l, _, rfl, rfl, SqL.of hl7, ?_, ?_⟩
    · intro v hv
      simp only [List.mem_cons, List.not_mem_nil, or_false] at hv
      rcases hv with rfl | rfl | rfl
      · exact noneItem T n17
      · exact noneItem T n27
      · exact noneItem T n37
    refine ⟨_, rfl, rfl, rfl, _, rfl, bl_neO (anyNone n17 n27 n37 hw7 (whole_none hA.ok hB.ok M1 M2 M3 W)) ?_⟩
    -- seen(a, pairs[1]) != meeting(seen_from(a, b), seen_from(a, c))
    refine ⟨_, rfl, _, rfl, l, _, _, _, rfl, rfl, SqL.of hl7, at_of (j := 1) rfl rfl, hSg (E := E0) (hA.same t7) n27 (by decide) (by decide) fun sw vs H8 s8 hs S => ?_⟩
    have t8 := t7.trans s8
    refine ⟨_, rfl, _, rfl, hS (E := E0) (hA.same t8) (hB.same t8) (by decide) (by decide) fun sb vb H9 s9 hsb SB => ?_⟩
    have t9 := t8.trans s9
    refine ⟨_, rfl, _, rfl, hS (E := E0) (hA.same t9) (hC.same t9) (by decide) (by decide) fun sc vc H10 s10 hsc SC => ?_⟩
    refine hMg (E := E0) (hsb.same s10) hsc (by decide) (by decide) fun m vm H11 s11 hm M => ?_
    have e := seen_both M2 S SB SC M
    subst e
    refine neO T (((hs.same s9).same s10).same s11) hm ⟨_, rfl, iteF ?_⟩
    have t11 := (t9.trans s10).trans s11
    have sx := (s8.trans s9).trans (s10.trans s11)
    have hl11 := sx _ _ hl7
    have n1 := n17.same sx
    clear hs hsb hsc hm s8 s9 s10 s11 t8 t9 sx n17 n27 n37 hw7 hl7 t7 vs vb vc vm S SB SC M
    have hA' := hA.same t11
    have hB' := hB.same t11
    have hC' := hC.same t11
    cases o1 with
    | none =>
      cases n1
      refine ⟨_, rfl, l, _, _, _, rfl, rfl, SqL.of hl11, at_of (j := 0) rfl rfl, rfl, _, rfl, iteF ?_⟩
      refine ⟨_, rfl, _, rfl, hH (E := E0) hA' hB' ⟨_, rfl, ite2 (fun e1 => ⟨_, rfl, _, rfl, hH (E := E0) hB' hC' ⟨_, rfl, ite2 (fun e2 => ⟨_, rfl, _, rfl, hH (E := E0) hA' hC' ⟨_, rfl, ?_⟩⟩) (fun _ => iteF ?_)⟩⟩) (fun _ => iteF ?_)⟩⟩
      · rw [hid_trans e1 e2]
        refine iteF ?_
        refine ⟨_, rfl, _, rfl, hH (E := E0) hA' hB' ⟨_, rfl, ite2 (fun f1 => ?_) (fun f1 => ?_)⟩⟩
        · refine ⟨_, rfl, _, rfl, hH (E := E0) hB' hA' ⟨_, rfl, _, rfl, rdEq T hA'.lamp hB'.lamp ⟨rfl, _, rfl, bl_neO (hid_eqT f1 hA'.ok hB'.ok) ?_⟩⟩⟩
          refine ⟨_, rfl, l, _, _, _, rfl, rfl, SqL.of hl11, at_of (j := 0) rfl rfl, rfl, _, rfl, iteT ?_⟩
          exact q _ t11
        · refine ⟨_, rfl, _, rfl, rdEq T hA'.lamp hB'.lamp ⟨rfl, _, rfl, bl_neO (hid_eqF f1 hA'.ok hB'.ok) ?_⟩⟩
          refine ⟨_, rfl, l, _, _, _, rfl, rfl, SqL.of hl11, at_of (j := 0) rfl rfl, rfl, _, rfl, iteT ?_⟩
          exact q _ t11
      all_goals
        refine ⟨_, rfl, _, rfl, hH (E := E0) hA' hB' ⟨_, rfl, ite2 (fun f1 => ?_) (fun f1 => ?_)⟩⟩
        · refine ⟨_, rfl, _, rfl, hH (E := E0) hB' hA' ⟨_, rfl, _, rfl, rdEq T hA'.lamp hB'.lamp ⟨rfl, _, rfl, bl_neO (hid_eqT f1 hA'.ok hB'.ok) ?_⟩⟩⟩
          refine ⟨_, rfl, l, _, _, _, rfl, rfl, SqL.of hl11, at_of (j := 0) rfl rfl, rfl, _, rfl, iteT ?_⟩
          exact q _ t11
        · refine ⟨_, rfl, _, rfl, rdEq T hA'.lamp hB'.lamp ⟨rfl, _, rfl, bl_neO (hid_eqF f1 hA'.ok hB'.ok) ?_⟩⟩
          refine ⟨_, rfl, l, _, _, _, rfl, rfl, SqL.of hl11, at_of (j := 0) rfl rfl, rfl, _, rfl, iteT ?_⟩
          exact q _ t11
    | some m =>
      obtain ⟨am, rfl, hm⟩ := n1
      refine ⟨_, rfl, l, _, _, _, rfl, rfl, SqL.of hl11, at_of (j := 0) rfl rfl, rfl, _, rfl, iteT ?_⟩
      refine ⟨_, rfl, l, _, _, _, rfl, rfl, SqL.of hl11, at_of (j := 0) rfl rfl, _, rfl, hS (E := E0) ⟨am, rfl, hm⟩ hC' (by decide) (by decide) fun x vx H12 s12 hx X => ?_⟩
      refine ⟨_, rfl, _, rfl, hS (E := E0) (hA'.same s12) (hB'.same s12) (by decide) (by decide) fun sb vb H13 s13 hsb SB => ?_⟩
      obtain ⟨u, rfl, eu⟩ := meet_seen hA.ok M1 SB
      have t13 := s12.trans s13
      refine ⟨_, rfl, _, rfl, hS (E := E0) (hA'.same t13) (hC'.same t13) (by decide) (by decide) fun sc vc H14 s14 hsc SC => ?_⟩
      refine hSg (E := E0) (hsb.same s14) hsc (by decide) (by decide) fun y vy H15 s15 hy Y => ?_
      have e := seen_seen eu SC X Y
      subst e
      refine neO T (((hx.same s13).same s14).same s15) hy ⟨_, rfl, iteF ?_⟩
      have sx := (t13.trans s14).trans s15
      have n1' : OAt T.C_Lamp H15 (.ref am) (100 + 100) (some m) := OAt.same ⟨am, rfl, hm⟩ sx
      have hl15 := sx _ _ hl11
      have t15 := t11.trans sx
      obtain ⟨hm1, hm2, hm3⟩ := hid_meet M1
      replace hA' := hA'.same sx
      replace hB' := hB'.same sx
      replace hC' := hC'.same sx
      clear hx hsb hsc hy hm s12 s13 s14 s15 t13 sx hl11 t11 vx vb vc vy X SB SC Y
      refine ⟨_, rfl, _, rfl, hH (E := E0) hA' hB' ⟨_, rfl, ite2 (fun e1 => ⟨_, rfl, _, rfl, hH (E := E0) hB' hC' ⟨_, rfl, ite2 (fun e2 => ⟨_, rfl, _, rfl, hH (E := E0) hA' hC' ⟨_, rfl, ?_⟩⟩) (fun _ => iteF ?_)⟩⟩) (fun _ => iteF ?_)⟩⟩
      · rw [hid_trans e1 e2]
        refine iteF ?_
        refine ⟨_, rfl, _, rfl, hH (E := E0) hA' hB' ⟨_, rfl, ite2 (fun f1 => ?_) (fun f1 => ?_)⟩⟩
        · refine ⟨_, rfl, _, rfl, hH (E := E0) hB' hA' ⟨_, rfl, _, rfl, rdEq T hA'.lamp hB'.lamp ⟨rfl, _, rfl, bl_neO (hid_eqT f1 hA'.ok hB'.ok) ?_⟩⟩⟩
          refine ⟨_, rfl, l, _, _, _, rfl, rfl, SqL.of hl15, at_of (j := 0) rfl rfl, rfl, _, rfl, iteF ?_⟩
          refine ⟨_, rfl, _, rfl, l, _, _, _, rfl, rfl, SqL.of hl15, at_of (j := 0) rfl rfl, hH (E := E0) hA' n1' ⟨_, rfl, ?_⟩⟩
          rw [hm1]
          refine iteT ?_
          refine ⟨_, rfl, _, rfl, l, _, _, _, rfl, rfl, SqL.of hl15, at_of (j := 0) rfl rfl, hH (E := E0) hB' n1' ⟨_, rfl, ?_⟩⟩
          rw [hm2]
          refine iteT ?_
          refine ⟨_, rfl, l, _, _, _, rfl, rfl, SqL.of hl15, at_of (j := 0) rfl rfl, _, rfl, hH (E := E0) n1' hA' ?_⟩
          refine ⟨_, rfl, _, rfl, hH (E := E0) hB' hA' ⟨rfl, ?_⟩⟩
          rw [hm3, decide_eq_true rfl]
          exact q _ t15
        · refine ⟨_, rfl, _, rfl, rdEq T hA'.lamp hB'.lamp ⟨rfl, _, rfl, bl_neO (hid_eqF f1 hA'.ok hB'.ok) ?_⟩⟩
          refine ⟨_, rfl, l, _, _, _, rfl, rfl, SqL.of hl15, at_of (j := 0) rfl rfl, rfl, _, rfl, iteF ?_⟩
          refine ⟨_, rfl, _, rfl, l, _, _, _, rfl, rfl, SqL.of hl15, at_of (j := 0) rfl rfl, hH (E := E0) hA' n1' ⟨_, rfl, ?_⟩⟩
          rw [hm1]
          refine iteT ?_
          refine ⟨_, rfl, _, rfl, l, _, _, _, rfl, rfl, SqL.of hl15, at_of (j := 0) rfl rfl, hH (E := E0) hB' n1' ⟨_, rfl, ?_⟩⟩
          rw [hm2]
          refine iteT ?_
          refine ⟨_, rfl, l, _, _, _, rfl, rfl, SqL.of hl15, at_of (j := 0) rfl rfl, _, rfl, hH (E := E0) n1' hA' ?_⟩
          refine ⟨_, rfl, _, rfl, hH (E := E0) hB' hA' ⟨rfl, ?_⟩⟩
          rw [hm3, decide_eq_true rfl]
          exact q _ t15
      all_goals
        refine ⟨_, rfl, _, rfl, hH (E := E0) hA' hB' ⟨_, rfl, ite2 (fun f1 => ?_) (fun f1 => ?_)⟩⟩
        · refine ⟨_, rfl, _, rfl, hH (E := E0) hB' hA' ⟨_, rfl, _, rfl, rdEq T hA'.lamp hB'.lamp ⟨rfl, _, rfl, bl_neO (hid_eqT f1 hA'.ok hB'.ok) ?_⟩⟩⟩
          refine ⟨_, rfl, l, _, _, _, rfl, rfl, SqL.of hl15, at_of (j := 0) rfl rfl, rfl, _, rfl, iteF ?_⟩
          refine ⟨_, rfl, _, rfl, l, _, _, _, rfl, rfl, SqL.of hl15, at_of (j := 0) rfl rfl, hH (E := E0) hA' n1' ⟨_, rfl, ?_⟩⟩
          rw [hm1]
          refine iteT ?_
          refine ⟨_, rfl, _, rfl, l, _, _, _, rfl, rfl, SqL.of hl15, at_of (j := 0) rfl rfl, hH (E := E0) hB' n1' ⟨_, rfl, ?_⟩⟩
          rw [hm2]
          refine iteT ?_
          refine ⟨_, rfl, l, _, _, _, rfl, rfl, SqL.of hl15, at_of (j := 0) rfl rfl, _, rfl, hH (E := E0) n1' hA' ?_⟩
          refine ⟨_, rfl, _, rfl, hH (E := E0) hB' hA' ⟨rfl, ?_⟩⟩
          rw [hm3, decide_eq_true rfl]
          exact q _ t15
        · refine ⟨_, rfl, _, rfl, rdEq T hA'.lamp hB'.lamp ⟨rfl, _, rfl, bl_neO (hid_eqF f1 hA'.ok hB'.ok) ?_⟩⟩
          refine ⟨_, rfl, l, _, _, _, rfl, rfl, SqL.of hl15, at_of (j := 0) rfl rfl, rfl, _, rfl, iteF ?_⟩
          refine ⟨_, rfl, _, rfl, l, _, _, _, rfl, rfl, SqL.of hl15, at_of (j := 0) rfl rfl, hH (E := E0) hA' n1' ⟨_, rfl, ?_⟩⟩
          rw [hm1]
          refine iteT ?_
          refine ⟨_, rfl, _, rfl, l, _, _, _, rfl, rfl, SqL.of hl15, at_of (j := 0) rfl rfl, hH (E := E0) hB' n1' ⟨_, rfl, ?_⟩⟩
          rw [hm2]
          refine iteT ?_
          refine ⟨_, rfl, l, _, _, _, rfl, rfl, SqL.of hl15, at_of (j := 0) rfl rfl, _, rfl, hH (E := E0) n1' hA' ?_⟩
          refine ⟨_, rfl, _, rfl, hH (E := E0) hB' hA' ⟨rfl, ?_⟩⟩
          rw [hm3, decide_eq_true rfl]
          exact q _ t15
end
section
variable {P : Program} {w : World} {K : PySem.W.Frag} {mg : Str → Option Value} {base : Heap}
theorem ok_l_law (T : Top K mg) : FnOk P w K mg base CX0 8 T.f_l_law T.d_l_law ["_law_script"] (spLaw K) := by
  have G_l_right := ok_l_right (P := P) (w := w) (base := base) T
  have G_l_source := ok_l_source (P := P) (w := w) (base := base) T
  have G_l_three := ok_l_three (P := P) (w := w) (base := base) T
  refine T.F_l_law.ok sc_l_law (fun vs H Q E h => ?_) (fun cdv A outer s H vs Q E hr h => ?_)
  · obtain ⟨a, ns, rfl, _⟩ := h; rfl
  · obtain ⟨a, ns, rfl, hS, hn, q⟩ := h
    refine ⟨_, (pss_cons (ps_for PassesOwn.never rfl (pi_list (pe_slice sl_list (pe_op op_catS (pv 0) (pe_lst (pa_cons pe_int pa_nil))) po_none (po_some pe_int))) (pg_name (i := 1) sc_l_law.nd rfl (Or.inl rfl)) (pss_cons (ps_asg (pe_call G_l_three (hr.mono (by decide)) rfl T.g_l_three T.F_l_three.kp T.b_l_three .nil pass0 (pa_cons (pe_call G_l_source (hr.mono (by decide)) rfl T.g_l_source T.F_l_source.kp T.b_l_source .nil pass0 (pa_cons (pv 1) pa_nil)) pa_nil)) (pg_unl (by rfl) (pgs_cons (pg_name (i := 2) sc_l_law.nd rfl (Or.inl rfl)) (pgs_cons (pg_name (i := 3) sc_l_law.nd rfl (Or.inl rfl)) (pgs_cons (pg_name (i := 4) sc_l_law.nd rfl (Or.inl rfl)) pgs_nil)))))
      (pss_one (ps_for PassesOwn.never rfl (pi_list (pe_lst (pa_cons (pe_tup (pa_cons (pv 2) (pa_cons (pv 3) (pa_cons (pv 4) pa_nil)))) (pa_cons (pe_tup (pa_cons (pv 3) (pa_cons (pv 4) (pa_cons (pv 2) pa_nil)))) (pa_cons (pe_tup (pa_cons (pv 4) (pa_cons (pv 2) (pa_cons (pv 3) pa_nil)))) (pa_cons (pe_tup (pa_cons (pv 3) (pa_cons (pv 2) (pa_cons (pv 4) pa_nil)))) pa_nil)))))) (pg_name (i := 5) sc_l_law.nd rfl (Or.inl rfl)) (pss_one (ps_if (pt_not (pt_val (pe_call G_l_right (hr.mono (by decide)) rfl T.g_l_right T.F_l_right.kp T.b_l_right .nil pass0 (pa_cons (pe_ix ix_tup (pv 5) pe_int (fun _ _ => rfl)) (pa_cons (pe_ix ix_tup (pv 5) pe_int (fun _ _ => rfl)) (pa_cons (pe_ix ix_tup (pv 5) pe_int (fun _ _ => rfl)) pa_nil)))))) (pss_one (ps_ret pe_bl)) pss_nil))))))
      (pss_one (ps_ret pe_bl))), ?_⟩
    refine ⟨_, rfl, (by show 1 ≤ sizeLine; decide), fun l0 hl0 => ?_⟩
    have s0 := same_new (o := .lst [.int 0]) hl0
    refine ⟨a, l0, _, _, rfl, rfl, s0.seq hS, SqL.of upd_same, ?_, fun p hp => ?_⟩
    · show (ns.map V.int).length + 1 ≤ sizeLine
      rw [List.length_map]
      exact Nat.le_trans (Nat.add_le_add_right hn 1) (by decide)
    refine ⟨4, rfl, p, _, rfl, SqL.of upd_same, fun p2 hp2 => ?_⟩
    have hints := cut_ints (ns := ns) (z := 0) (lo := none) (hi := some 4)
    generalize cutV (ns.map V.int ++ [.int 0]) none (some 4) = xs at *
    generalize hH : upd (upd (upd H l0 (.lst [.int 0])) p (.lst (ns.map V.int ++ [.int 0]))) p2 (.lst xs) = H2
    have hx2 : H2 p2 = some (.lst xs) := by rw [← hH]; exact upd_same
    refine ⟨p2, rfl, ⟨_, SqL.of hx2⟩, for_list (K := K) (a := p2) (xs := xs) (fun _ σ H' => (∃ v1 v2 v3 v4 v5, σ = [some (.ref a), v1, v2, v3, v4, v5]) ∧ Same H2 H') ⟨⟨none, none, none, none, none, rfl⟩, Same.refl _⟩ (fun _ σ H' _ ⟨_, s'⟩ => SqL.of (s' _ _ hx2)) ?_ ?_⟩
    · rintro i x σ H' hi ⟨⟨v1, v2, v3, v4, v5, rfl⟩, s2⟩
      obtain ⟨z, rfl⟩ := hints x (List.mem_of_getElem? hi)
      refine ⟨_, rfl, z, rfl, fun l H3 nl s3 hsrc => ?_⟩
      refine ⟨l, 0, rfl, hsrc, by omega, fun lf a1 b1 c1 la lb lc H4 hlf hA hB hC d4 => ?_⟩
      refine ⟨lf, _, rfl, SqL.of hlf, rfl, _, _, rfl, _, _, rfl, _, _, rfl, rfl, ?_⟩
      have S4 : Same H2 H4 := s2.trans (Dr.back nl s3 d4)
      clear s3 d4 hsrc nl hlf s2 s0 hS
      refine ⟨_, rfl, _, rfl, _, rfl, (by show 3 ≤ sizeLine; decide), fun t1 h1 => ?_⟩
      refine ⟨_, rfl, _, rfl, _, rfl, (by show 3 ≤ sizeLine; decide), fun t2 h2 => ?_⟩
      refine ⟨_, rfl, _, rfl, _, rfl, (by show 3 ≤ sizeLine; decide), fun t3 h3 => ?_⟩
      refine ⟨_, rfl, _, rfl, _, rfl, (by show 3 ≤ sizeLine; decide), fun t4 h4 => ?_⟩
      refine ⟨(by show 4 ≤ sizeLine; decide), fun L hL => ?_⟩
      have z1 := same_new (o := .tup [.ref a1, .ref b1, .ref c1]) h1
      have z2 := same_new (o := .tup [.ref b1, .ref c1, .ref a1]) h2
      have z3 := same_new (o := .tup [.ref c1, .ref a1, .ref b1]) h3
      have z4 := same_new (o := .tup [.ref b1, .ref a1, .ref c1]) h4
      have zL := same_new (o := .lst [.ref t1, .ref t2, .ref t3, .ref t4]) hL
      have k4 := zL _ _ (upd_same (H := upd (upd (upd H4 t1 (.tup [.ref a1, .ref b1, .ref c1])) t2 (.tup [.ref b1, .ref c1, .ref a1])) t3 (.tup [.ref c1, .ref a1, .ref b1])) (a := t4) (o := .tup [.ref b1, .ref a1, .ref c1]))
      have k3 := zL _ _ (z4 _ _ (upd_same (H := upd (upd H4 t1 (.tup [.ref a1, .ref b1, .ref c1])) t2 (.tup [.ref b1, .ref c1, .ref a1])) (a := t3) (o := .tup [.ref c1, .ref a1, .ref b1])))
      have k2 := zL _ _ (z4 _ _ (z3 _ _ (upd_same (H := upd H4 t1 (.tup [.ref a1, .ref b1, .ref c1])) (a := t2) (o := .tup [.ref b1, .ref c1, .ref a1]))))
      have k1 := zL _ _ (z4 _ _ (z3 _ _ (z2 _ _ (upd_same (H := H4) (a := t1) (o := .tup [.ref a1, .ref b1, .ref c1])))))
      have SL := z1.trans (z2.trans (z3.trans (z4.trans zL)))
      generalize hH5 : upd (upd (upd (upd (upd H4 t1 (.tup [.ref a1, .ref b1, .ref c1])) t2 (.tup [.ref b1, .ref c1, .ref a1])) t3 (.tup [.ref c1, .ref a1, .ref b1])) t4 (.tup [.ref b1, .ref a1, .ref c1])) L (.lst [.ref t1, .ref t2, .ref t3, .ref t4]) = H5 at *
      have kL : H5 L = some (.lst [.ref t1, .ref t2, .ref t3, .ref t4]) := by rw [← hH5]; exact upd_same
      have S5 := S4.trans SL
      have hA5 := hA.same SL
      have hB5 := hB.same SL
      have hC5 := hC.same SL
      clear z1 z2 z3 z4 zL h1 h2 h3 h4 hL SL S4 hA hB hC
      have good : ∀ x ∈ [V.ref t1, V.ref t2, V.ref t3, V.ref t4], ∃ t u v w lu lv lw, x = .ref t ∧ H5 t = some (.tup [.ref u, .ref v, .ref w]) ∧ OAt T.C_Lamp H5 (.ref u) 100 (some lu) ∧ OAt T.C_Lamp H5 (.ref v) 100 (some lv) ∧ OAt T.C_Lamp H5 (.ref w) 100 (some lw) := by
        intro x hx
        simp only [List.mem_cons, List.not_mem_nil, or_false] at hx
        rcases hx with rfl | rfl | rfl | rfl
        · exact ⟨_, _, _, _, _, _, _, rfl, k1, hA5, hB5, hC5⟩
        · exact ⟨_, _, _, _, _, _, _, rfl, k2, hB5, hC5, hA5⟩
        · exact ⟨_, _, _, _, _, _, _, rfl, k3, hC5, hA5, hB5⟩
        · exact ⟨_, _, _, _, _, _, _, rfl, k4, hB5, hA5, hC5⟩
      clear k1 k2 k3 k4
      refine ⟨L, rfl, ⟨_, SqL.of kL⟩, for_list (K := K) (a := L) (xs := [V.ref t1, V.ref t2, V.ref t3, V.ref t4]) (fun _ σ H' => (∃ v, σ = [some (.ref a), some (.int z), some (.ref a1), some (.ref b1), some (.ref c1), v]) ∧ Same H5 H') ⟨⟨_, rfl⟩, Same.refl _⟩ (fun _ σ H' _ ⟨_, s'⟩ => SqL.of (s' _ _ kL)) ?_ ?_⟩
      · rintro i x σ H6 hi ⟨⟨v, rfl⟩, s6⟩
        obtain ⟨t, u, v', w', lu, lv, lw, rfl, ht, hu, hv, hw⟩ := good x (List.mem_of_getElem? hi)
        have ht6 := s6 _ _ ht
        refine ⟨_, rfl, t, _, _, _, rfl, rfl, SqT.of ht6, at_of (j := 0) rfl rfl, _, rfl, t, _, _, _, rfl, rfl, SqT.of ht6, at_of (j := 1) rfl rfl, _, rfl, t, _, _, _, rfl, rfl, SqT.of ht6, at_of (j := 2) rfl rfl, u, v', w', lu, lv, lw, rfl, hu.same s6, hv.same s6, hw.same s6, fun H7 s7 => ⟨true, rfl, iteF ?_⟩⟩
        exact ⟨⟨_, rfl⟩, s6.trans s7⟩
      · rintro σ H6 ⟨⟨v, rfl⟩, s6⟩
        exact ⟨⟨_, _, _, _, _, rfl⟩, S5.trans s6⟩
    · rintro σ H' ⟨⟨v1, v2, v3, v4, v5, rfl⟩, _⟩
      exact q H'
end
theorem all_mk {l : PySem.W.OpenLaw} {w : World} {K : PySem.W.Frag} {h : Heap} {mg : Str → Option Value} {fa C_Lamp f_is_whole f_check_beat f_inverse f_Lamp_init f_Lamp_eq f_Lamp_shines f_seen_from f_hides f_meet f_l_mixed f_l_source f_l_take f_l_prime f_l_whole f_l_three f_l_meeting f_l_seen f_l_right f_l_law : Addr} (X : K.In h) (G : h.Ns mainGlobals mg) (hfa : mg "law" = some (.ref fa))
    {od_is_whole an_is_whole od_check_beat an_check_beat od_inverse an_inverse od_Lamp_init an_Lamp_init od_Lamp_eq an_Lamp_eq od_Lamp_shines an_Lamp_shines od_seen_from an_seen_from od_hides an_hides od_meet an_meet od_l_mixed an_l_mixed od_l_source an_l_source od_l_take an_l_take od_l_prime an_l_prime od_l_whole an_l_whole od_l_three an_l_three od_l_meeting an_l_meeting od_l_seen an_l_seen od_l_right an_l_right od_l_law an_l_law : Option Addr} {sl_is_whole sl_check_beat sl_inverse sl_Lamp_init sl_Lamp_eq sl_Lamp_shines sl_seen_from sl_hides sl_meet sl_l_mixed sl_l_source sl_l_take sl_l_prime sl_l_whole sl_l_three sl_l_meeting sl_l_seen sl_l_right sl_l_law : Array (Option Value)} {oc_is_whole kV_is_whole dc_is_whole pm_is_whole cd_is_whole ct_is_whole oc_check_beat kV_check_beat dc_check_beat pm_check_beat cd_check_beat ct_check_beat oc_inverse kV_inverse dc_inverse pm_inverse cd_inverse ct_inverse oc_Lamp_init kV_Lamp_init dc_Lamp_init pm_Lamp_init cd_Lamp_init ct_Lamp_init oc_Lamp_eq kV_Lamp_eq dc_Lamp_eq pm_Lamp_eq cd_Lamp_eq ct_Lamp_eq oc_Lamp_shines kV_Lamp_shines dc_Lamp_shines pm_Lamp_shines cd_Lamp_shines ct_Lamp_shines oc_seen_from kV_seen_from dc_seen_from pm_seen_from cd_seen_from ct_seen_from oc_hides kV_hides dc_hides pm_hides cd_hides ct_hides oc_meet kV_meet dc_meet pm_meet cd_meet ct_meet oc_l_mixed kV_l_mixed dc_l_mixed pm_l_mixed cd_l_mixed ct_l_mixed oc_l_source kV_l_source dc_l_source pm_l_source cd_l_source ct_l_source oc_l_take kV_l_take dc_l_take pm_l_take cd_l_take ct_l_take oc_l_prime kV_l_prime dc_l_prime pm_l_prime cd_l_prime ct_l_prime oc_l_whole kV_l_whole dc_l_whole pm_l_whole cd_l_whole ct_l_whole oc_l_three kV_l_three dc_l_three pm_l_three cd_l_three ct_l_three oc_l_meeting kV_l_meeting dc_l_meeting pm_l_meeting cd_l_meeting ct_l_meeting oc_l_seen kV_l_seen dc_l_seen pm_l_seen cd_l_seen ct_l_seen oc_l_right kV_l_right dc_l_right pm_l_right cd_l_right ct_l_right oc_l_law kV_l_law dc_l_law pm_l_law cd_l_law ct_l_law : Value}
    (aC_Lamp : PySem.W.nsIn K mainGlobals "Lamp" = some (some (.ref C_Lamp)))
    (pg_Lamp : PySem.W.plainGet K C_Lamp Str.empty = true)
    (hd_Lamp : PySem.W.hasDictIn K C_Lamp = true)
    (po_Lamp : PySem.W.plainOver K C_Lamp = true)
    (sa_Lamp : PySem.W.findIn K (.ref C_Lamp) "__setattr__" = some (some (.builtin "object.__setattr__")))
    (mk_Lamp : PySem.W.makesIn K C_Lamp = true)
    (kc_Lamp : PySem.W.keepIn K (.ref C_Lamp) = true)
    (kha_Lamp : PySem.W.findIn K (.ref C_Lamp) "__class__" = some (some (.builtin "object.__class__")))
    (khn_Lamp : PySem.W.specialIn K (.builtin "object.__class__") "__get__" = some (some (.builtin "getset_descriptor.__get__")))
    (kht_Lamp : PySem.W.takesIn K (.builtin "object.__class__") = some true)
    (khm_Lamp : PySem.W.mroIn K C_Lamp (.type "object") = some true)
    (na_Lamp_period : PySem.W.findIn K (.ref C_Lamp) "period" = some none)
    (na_Lamp_beat : PySem.W.findIn K (.ref C_Lamp) "beat" = some none)
    (a_is_whole : PySem.W.nsIn K mainGlobals "is_whole" = some (some (.ref f_is_whole)))
    (l_is_whole : K.lookup f_is_whole = some ⟨oc_is_whole, od_is_whole, .func (PySem.W.fnOf "is_whole" "is_whole" (defArgs s_is_whole) (defBody s_is_whole) (defScope s_is_whole) .none kV_is_whole dc_is_whole pm_is_whole an_is_whole cd_is_whole ct_is_whole), sl_is_whole⟩)
    (c_is_whole : PySem.W.codeIn K cd_is_whole "is_whole" = true)
    (k_is_whole : PySem.W.keepIn K (.ref f_is_whole) = true)
    (a_check_beat : PySem.W.nsIn K mainGlobals "check_beat" = some (some (.ref f_check_beat)))
    (l_check_beat : K.lookup f_check_beat = some ⟨oc_check_beat, od_check_beat, .func (PySem.W.fnOf "check_beat" "check_beat" (defArgs s_check_beat) (defBody s_check_beat) (defScope s_check_beat) .none kV_check_beat dc_check_beat pm_check_beat an_check_beat cd_check_beat ct_check_beat), sl_check_beat⟩)
    (c_check_beat : PySem.W.codeIn K cd_check_beat "check_beat" = true)
    (k_check_beat : PySem.W.keepIn K (.ref f_check_beat) = true)
    (a_inverse : PySem.W.nsIn K mainGlobals "inverse" = some (some (.ref f_inverse)))
    (l_inverse : K.lookup f_inverse = some ⟨oc_inverse, od_inverse, .func (PySem.W.fnOf "inverse" "inverse" (defArgs s_inverse) (defBody s_inverse) (defScope s_inverse) .none kV_inverse dc_inverse pm_inverse an_inverse cd_inverse ct_inverse), sl_inverse⟩)
    (c_inverse : PySem.W.codeIn K cd_inverse "inverse" = true)
    (k_inverse : PySem.W.keepIn K (.ref f_inverse) = true)
    (a_Lamp_init : PySem.W.findIn K (.ref C_Lamp) "__init__" = some (some (.ref f_Lamp_init)))
    (j_Lamp_init : PySem.W.isFn K (.ref f_Lamp_init) = true)
    (l_Lamp_init : K.lookup f_Lamp_init = some ⟨oc_Lamp_init, od_Lamp_init, .func (PySem.W.fnOf "__init__" "Lamp.__init__" (defArgs s_Lamp_init) (defBody s_Lamp_init) (defScope s_Lamp_init) .none kV_Lamp_init dc_Lamp_init pm_Lamp_init an_Lamp_init cd_Lamp_init ct_Lamp_init), sl_Lamp_init⟩)
    (c_Lamp_init : PySem.W.codeIn K cd_Lamp_init "Lamp.__init__" = true)
    (k_Lamp_init : PySem.W.keepIn K (.ref f_Lamp_init) = true)
    (a_Lamp_eq : PySem.W.findIn K (.ref C_Lamp) "__eq__" = some (some (.ref f_Lamp_eq)))
    (j_Lamp_eq : PySem.W.isFn K (.ref f_Lamp_eq) = true)
    (l_Lamp_eq : K.lookup f_Lamp_eq = some ⟨oc_Lamp_eq, od_Lamp_eq, .func (PySem.W.fnOf "__eq__" "Lamp.__eq__" (defArgs s_Lamp_eq) (defBody s_Lamp_eq) (defScope s_Lamp_eq) .none kV_Lamp_eq dc_Lamp_eq pm_Lamp_eq an_Lamp_eq cd_Lamp_eq ct_Lamp_eq), sl_Lamp_eq⟩)
    (c_Lamp_eq : PySem.W.codeIn K cd_Lamp_eq "Lamp.__eq__" = true)
    (k_Lamp_eq : PySem.W.keepIn K (.ref f_Lamp_eq) = true)
    (a_Lamp_shines : PySem.W.findIn K (.ref C_Lamp) "shines" = some (some (.ref f_Lamp_shines)))
    (j_Lamp_shines : PySem.W.isFn K (.ref f_Lamp_shines) = true)
    (l_Lamp_shines : K.lookup f_Lamp_shines = some ⟨oc_Lamp_shines, od_Lamp_shines, .func (PySem.W.fnOf "shines" "Lamp.shines" (defArgs s_Lamp_shines) (defBody s_Lamp_shines) (defScope s_Lamp_shines) .none kV_Lamp_shines dc_Lamp_shines pm_Lamp_shines an_Lamp_shines cd_Lamp_shines ct_Lamp_shines), sl_Lamp_shines⟩)
    (c_Lamp_shines : PySem.W.codeIn K cd_Lamp_shines "Lamp.shines" = true)
    (k_Lamp_shines : PySem.W.keepIn K (.ref f_Lamp_shines) = true)
    (a_seen_from : PySem.W.nsIn K mainGlobals "seen_from" = some (some (.ref f_seen_from)))
    (l_seen_from : K.lookup f_seen_from = some ⟨oc_seen_from, od_seen_from, .func (PySem.W.fnOf "seen_from" "seen_from" (defArgs s_seen_from) (defBody s_seen_from) (defScope s_seen_from) .none kV_seen_from dc_seen_from pm_seen_from an_seen_from cd_seen_from ct_seen_from), sl_seen_from⟩)
    (c_seen_from : PySem.W.codeIn K cd_seen_from "seen_from" = true)
    (k_seen_from : PySem.W.keepIn K (.ref f_seen_from) = true)
    (a_hides : PySem.W.nsIn K mainGlobals "hides" = some (some (.ref f_hides)))
    (l_hides : K.lookup f_hides = some ⟨oc_hides, od_hides, .func (PySem.W.fnOf "hides" "hides" (defArgs s_hides) (defBody s_hides) (defScope s_hides) .none kV_hides dc_hides pm_hides an_hides cd_hides ct_hides), sl_hides⟩)
    (c_hides : PySem.W.codeIn K cd_hides "hides" = true)
    (k_hides : PySem.W.keepIn K (.ref f_hides) = true)
    (a_meet : PySem.W.nsIn K mainGlobals "meet" = some (some (.ref f_meet)))
    (l_meet : K.lookup f_meet = some ⟨oc_meet, od_meet, .func (PySem.W.fnOf "meet" "meet" (defArgs s_meet) (defBody s_meet) (defScope s_meet) .none kV_meet dc_meet pm_meet an_meet cd_meet ct_meet), sl_meet⟩)
    (c_meet : PySem.W.codeIn K cd_meet "meet" = true)
    (k_meet : PySem.W.keepIn K (.ref f_meet) = true)
    (a_l_mixed : PySem.W.nsIn K mainGlobals "_law_mixed" = some (some (.ref f_l_mixed)))
    (l_l_mixed : K.lookup f_l_mixed = some ⟨oc_l_mixed, od_l_mixed, .func (PySem.W.fnOf "_law_mixed" "_law_mixed" (defArgs s_l_mixed) (defBody s_l_mixed) (defScope s_l_mixed) .none kV_l_mixed dc_l_mixed pm_l_mixed an_l_mixed cd_l_mixed ct_l_mixed), sl_l_mixed⟩)
    (c_l_mixed : PySem.W.codeIn K cd_l_mixed "_law_mixed" = true)
    (k_l_mixed : PySem.W.keepIn K (.ref f_l_mixed) = true)
    (a_l_source : PySem.W.nsIn K mainGlobals "_law_source" = some (some (.ref f_l_source)))
    (l_l_source : K.lookup f_l_source = some ⟨oc_l_source, od_l_source, .func (PySem.W.fnOf "_law_source" "_law_source" (defArgs s_l_source) (defBody s_l_source) (defScope s_l_source) .none kV_l_source dc_l_source pm_l_source an_l_source cd_l_source ct_l_source), sl_l_source⟩)
    (c_l_source : PySem.W.codeIn K cd_l_source "_law_source" = true)
    (k_l_source : PySem.W.keepIn K (.ref f_l_source) = true)
    (a_l_take : PySem.W.nsIn K mainGlobals "_law_take" = some (some (.ref f_l_take)))
    (l_l_take : K.lookup f_l_take = some ⟨oc_l_take, od_l_take, .func (PySem.W.fnOf "_law_take" "_law_take" (defArgs s_l_take) (defBody s_l_take) (defScope s_l_take) .none kV_l_take dc_l_take pm_l_take an_l_take cd_l_take ct_l_take), sl_l_take⟩)
    (c_l_take : PySem.W.codeIn K cd_l_take "_law_take" = true)
    (k_l_take : PySem.W.keepIn K (.ref f_l_take) = true)
    (a_l_prime : PySem.W.nsIn K mainGlobals "_law_prime" = some (some (.ref f_l_prime)))
    (l_l_prime : K.lookup f_l_prime = some ⟨oc_l_prime, od_l_prime, .func (PySem.W.fnOf "_law_prime" "_law_prime" (defArgs s_l_prime) (defBody s_l_prime) (defScope s_l_prime) .none kV_l_prime dc_l_prime pm_l_prime an_l_prime cd_l_prime ct_l_prime), sl_l_prime⟩)
    (c_l_prime : PySem.W.codeIn K cd_l_prime "_law_prime" = true)
    (k_l_prime : PySem.W.keepIn K (.ref f_l_prime) = true)
    (a_l_whole : PySem.W.nsIn K mainGlobals "_law_whole" = some (some (.ref f_l_whole)))
    (l_l_whole : K.lookup f_l_whole = some ⟨oc_l_whole, od_l_whole, .func (PySem.W.fnOf "_law_whole" "_law_whole" (defArgs s_l_whole) (defBody s_l_whole) (defScope s_l_whole) .none kV_l_whole dc_l_whole pm_l_whole an_l_whole cd_l_whole ct_l_whole), sl_l_whole⟩)
    (c_l_whole : PySem.W.codeIn K cd_l_whole "_law_whole" = true)
    (k_l_whole : PySem.W.keepIn K (.ref f_l_whole) = true)
    (a_l_three : PySem.W.nsIn K mainGlobals "_law_three" = some (some (.ref f_l_three)))
    (l_l_three : K.lookup f_l_three = some ⟨oc_l_three, od_l_three, .func (PySem.W.fnOf "_law_three" "_law_three" (defArgs s_l_three) (defBody s_l_three) (defScope s_l_three) .none kV_l_three dc_l_three pm_l_three an_l_three cd_l_three ct_l_three), sl_l_three⟩)
    (c_l_three : PySem.W.codeIn K cd_l_three "_law_three" = true)
    (k_l_three : PySem.W.keepIn K (.ref f_l_three) = true)
    (a_l_meeting : PySem.W.nsIn K mainGlobals "_law_meeting" = some (some (.ref f_l_meeting)))
    (l_l_meeting : K.lookup f_l_meeting = some ⟨oc_l_meeting, od_l_meeting, .func (PySem.W.fnOf "_law_meeting" "_law_meeting" (defArgs s_l_meeting) (defBody s_l_meeting) (defScope s_l_meeting) .none kV_l_meeting dc_l_meeting pm_l_meeting an_l_meeting cd_l_meeting ct_l_meeting), sl_l_meeting⟩)
    (c_l_meeting : PySem.W.codeIn K cd_l_meeting "_law_meeting" = true)
    (k_l_meeting : PySem.W.keepIn K (.ref f_l_meeting) = true)
    (a_l_seen : PySem.W.nsIn K mainGlobals "_law_seen" = some (some (.ref f_l_seen)))
    (l_l_seen : K.lookup f_l_seen = some ⟨oc_l_seen, od_l_seen, .func (PySem.W.fnOf "_law_seen" "_law_seen" (defArgs s_l_seen) (defBody s_l_seen) (defScope s_l_seen) .none kV_l_seen dc_l_seen pm_l_seen an_l_seen cd_l_seen ct_l_seen), sl_l_seen⟩)
    (c_l_seen : PySem.W.codeIn K cd_l_seen "_law_seen" = true)
    (k_l_seen : PySem.W.keepIn K (.ref f_l_seen) = true)
    (a_l_right : PySem.W.nsIn K mainGlobals "_law_right" = some (some (.ref f_l_right)))
    (l_l_right : K.lookup f_l_right = some ⟨oc_l_right, od_l_right, .func (PySem.W.fnOf "_law_right" "_law_right" (defArgs s_l_right) (defBody s_l_right) (defScope s_l_right) .none kV_l_right dc_l_right pm_l_right an_l_right cd_l_right ct_l_right), sl_l_right⟩)
    (c_l_right : PySem.W.codeIn K cd_l_right "_law_right" = true)
    (k_l_right : PySem.W.keepIn K (.ref f_l_right) = true)
    (a_l_law : PySem.W.nsIn K mainGlobals "law" = some (some (.ref f_l_law)))
    (l_l_law : K.lookup f_l_law = some ⟨oc_l_law, od_l_law, .func (PySem.W.fnOf "law" "law" (defArgs s_l_law) (defBody s_l_law) (defScope s_l_law) .none kV_l_law dc_l_law pm_l_law an_l_law cd_l_law ct_l_law), sl_l_law⟩)
    (c_l_law : PySem.W.codeIn K cd_l_law "law" = true)
    (k_l_law : PySem.W.keepIn K (.ref f_l_law) = true)
    (ne1_Lamp : PySem.W.findIn K (.ref C_Lamp) "__ne__" = some (some (.builtin "object.__ne__")))
    (ne2_Lamp : PySem.W.subIn K (.ref C_Lamp) (.type "object") = some true)
    (n_isinstance : PySem.W.nsIn K mainGlobals "isinstance" = some none)
    (n_int : PySem.W.nsIn K mainGlobals "int" = some none)
    (n_bool : PySem.W.nsIn K mainGlobals "bool" = some none)
    (n_range : PySem.W.nsIn K mainGlobals "range" = some none)
    (nn_Lamp : PySem.W.subIn K (.ref C_Lamp) (.type "NoneType") = some false)
    (ic_Lamp : PySem.W.isClsIn K C_Lamp = true)
    (tc_Lamp : PySem.W.typeIn K (.ref C_Lamp) = some (.type "type"))
    (sn_Lamp : PySem.W.subIn K (.type "NoneType") (.ref C_Lamp) = some false)
    (i_gcd : PySem.W.nsIn K mainGlobals "gcd" = some (some (.builtin "math.gcd")))
    : ∃ fd : FuncData, (∀ (s : Shared) (v : Value), BindsTo s fd ⟨[v], []⟩ [("_law_script", v)]) ∧ ∀ base : Heap, K.In base → base.Ns mainGlobals mg → FnOk l.prog w K mg base CX0 8 fa fd ["_law_script"] (spLaw K) := by
  have e := hfa.symm.trans (PySem.W.mg_of X G a_l_law)
  cases e
  exact ⟨_, fun s v => .of_eq rfl, fun base _ _ => ok_l_law (T := {
    C_Lamp := C_Lamp
    cl_Lamp := ⟨pg_Lamp, hd_Lamp, po_Lamp, sa_Lamp⟩
    gC_Lamp := PySem.W.mg_of X G aC_Lamp
    kl_Lamp := ⟨⟨pg_Lamp, hd_Lamp, po_Lamp, sa_Lamp⟩, kha_Lamp, khn_Lamp, kht_Lamp, khm_Lamp⟩
    na_Lamp_period := na_Lamp_period
    na_Lamp_beat := na_Lamp_beat
    f_is_whole := f_is_whole
    d_is_whole := PySem.W.fnOf "is_whole" "is_whole" (defArgs s_is_whole) (defBody s_is_whole) (defScope s_is_whole) .none kV_is_whole dc_is_whole pm_is_whole an_is_whole cd_is_whole ct_is_whole
    F_is_whole := fun_mk (st := s_is_whole) l_is_whole c_is_whole k_is_whole
    b_is_whole := (fun_mk (st := s_is_whole) l_is_whole c_is_whole k_is_whole).binds (ps := ["thing"]) fun _ _ _ _ _ _ us hl => match us, hl with | [_], _ => rfl
    g_is_whole := PySem.W.mg_of X G a_is_whole
    f_check_beat := f_check_beat
    d_check_beat := PySem.W.fnOf "check_beat" "check_beat" (defArgs s_check_beat) (defBody s_check_beat) (defScope s_check_beat) .none kV_check_beat dc_check_beat pm_check_beat an_check_beat cd_check_beat ct_check_beat
    F_check_beat := fun_mk (st := s_check_beat) l_check_beat c_check_beat k_check_beat
    b_check_beat := (fun_mk (st := s_check_beat) l_check_beat c_check_beat k_check_beat).binds (ps := ["thing"]) fun _ _ _ _ _ _ us hl => match us, hl with | [_], _ => rfl
    g_check_beat := PySem.W.mg_of X G a_check_beat
    f_inverse := f_inverse
    d_inverse := PySem.W.fnOf "inverse" "inverse" (defArgs s_inverse) (defBody s_inverse) (defScope s_inverse) .none kV_inverse dc_inverse pm_inverse an_inverse cd_inverse ct_inverse
    F_inverse := fun_mk (st := s_inverse) l_inverse c_inverse k_inverse
    b_inverse := (fun_mk (st := s_inverse) l_inverse c_inverse k_inverse).binds (ps := ["number", "modulus"]) fun _ _ _ _ _ _ us hl => match us, hl with | [_, _], _ => rfl
    g_inverse := PySem.W.mg_of X G a_inverse
    f_Lamp_init := f_Lamp_init
    d_Lamp_init := PySem.W.fnOf "__init__" "Lamp.__init__" (defArgs s_Lamp_init) (defBody s_Lamp_init) (defScope s_Lamp_init) .none kV_Lamp_init dc_Lamp_init pm_Lamp_init an_Lamp_init cd_Lamp_init ct_Lamp_init
    F_Lamp_init := fun_mk (st := s_Lamp_init) l_Lamp_init c_Lamp_init k_Lamp_init
    b_Lamp_init := (fun_mk (st := s_Lamp_init) l_Lamp_init c_Lamp_init k_Lamp_init).binds (ps := ["self", "period", "beat"]) fun _ _ _ _ _ _ us hl => match us, hl with | [_, _, _], _ => rfl
    m_Lamp_init := ⟨a_Lamp_init, j_Lamp_init, k_Lamp_init⟩
    mk_Lamp := ⟨mk_Lamp, a_Lamp_init, j_Lamp_init, kc_Lamp⟩
    f_Lamp_eq := f_Lamp_eq
    d_Lamp_eq := PySem.W.fnOf "__eq__" "Lamp.__eq__" (defArgs s_Lamp_eq) (defBody s_Lamp_eq) (defScope s_Lamp_eq) .none kV_Lamp_eq dc_Lamp_eq pm_Lamp_eq an_Lamp_eq cd_Lamp_eq ct_Lamp_eq
    F_Lamp_eq := fun_mk (st := s_Lamp_eq) l_Lamp_eq c_Lamp_eq k_Lamp_eq
    b_Lamp_eq := (fun_mk (st := s_Lamp_eq) l_Lamp_eq c_Lamp_eq k_Lamp_eq).binds (ps := ["self", "other"]) fun _ _ _ _ _ _ us hl => match us, hl with | [_, _], _ => rfl
    m_Lamp_eq := ⟨a_Lamp_eq, j_Lamp_eq, k_Lamp_eq⟩
    f_Lamp_shines := f_Lamp_shines
    d_Lamp_shines := PySem.W.fnOf "shines" "Lamp.shines" (defArgs s_Lamp_shines) (defBody s_Lamp_shines) (defScope s_Lamp_shines) .none kV_Lamp_shines dc_Lamp_shines pm_Lamp_shines an_Lamp_shines cd_Lamp_shines ct_Lamp_shines
    F_Lamp_shines := fun_mk (st := s_Lamp_shines) l_Lamp_shines c_Lamp_shines k_Lamp_shines
    b_Lamp_shines := (fun_mk (st := s_Lamp_shines) l_Lamp_shines c_Lamp_shines k_Lamp_shines).binds (ps := ["self", "beat"]) fun _ _ _ _ _ _ us hl => match us, hl with | [_, _], _ => rfl
    m_Lamp_shines := ⟨a_Lamp_shines, j_Lamp_shines, k_Lamp_shines⟩
    f_seen_from := f_seen_from
    d_seen_from := PySem.W.fnOf "seen_from" "seen_from" (defArgs s_seen_from) (defBody s_seen_from) (defScope s_seen_from) .none kV_seen_from dc_seen_from pm_seen_from an_seen_from cd_seen_from ct_seen_from
    F_seen_from := fun_mk (st := s_seen_from) l_seen_from c_seen_from k_seen_from
    b_seen_from := (fun_mk (st := s_seen_from) l_seen_from c_seen_from k_seen_from).binds (ps := ["lamp", "other"]) fun _ _ _ _ _ _ us hl => match us, hl with | [_, _], _ => rfl
    g_seen_from := PySem.W.mg_of X G a_seen_from
    f_hides := f_hides
    d_hides := PySem.W.fnOf "hides" "hides" (defArgs s_hides) (defBody s_hides) (defScope s_hides) .none kV_hides dc_hides pm_hides an_hides cd_hides ct_hides
    F_hides := fun_mk (st := s_hides) l_hides c_hides k_hides
    b_hides := (fun_mk (st := s_hides) l_hides c_hides k_hides).binds (ps := ["one", "other"]) fun _ _ _ _ _ _ us hl => match us, hl with | [_, _], _ => rfl
    g_hides := PySem.W.mg_of X G a_hides
    f_meet := f_meet
    d_meet := PySem.W.fnOf "meet" "meet" (defArgs s_meet) (defBody s_meet) (defScope s_meet) .none kV_meet dc_meet pm_meet an_meet cd_meet ct_meet
    F_meet := fun_mk (st := s_meet) l_meet c_meet k_meet
    b_meet := (fun_mk (st := s_meet) l_meet c_meet k_meet).binds (ps := ["one", "other"]) fun _ _ _ _ _ _ us hl => match us, hl with | [_, _], _ => rfl
    g_meet := PySem.W.mg_of X G a_meet
    f_l_mixed := f_l_mixed
    d_l_mixed := PySem.W.fnOf "_law_mixed" "_law_mixed" (defArgs s_l_mixed) (defBody s_l_mixed) (defScope s_l_mixed) .none kV_l_mixed dc_l_mixed pm_l_mixed an_l_mixed cd_l_mixed ct_l_mixed
    F_l_mixed := fun_mk (st := s_l_mixed) l_l_mixed c_l_mixed k_l_mixed
    b_l_mixed := (fun_mk (st := s_l_mixed) l_l_mixed c_l_mixed k_l_mixed).binds (ps := ["_law_cell", "_law_k"]) fun _ _ _ _ _ _ us hl => match us, hl with | [_, _], _ => rfl
    g_l_mixed := PySem.W.mg_of X G a_l_mixed
    f_l_source := f_l_source
    d_l_source := PySem.W.fnOf "_law_source" "_law_source" (defArgs s_l_source) (defBody s_l_source) (defScope s_l_source) .none kV_l_source dc_l_source pm_l_source an_l_source cd_l_source ct_l_source
    F_l_source := fun_mk (st := s_l_source) l_l_source c_l_source k_l_source
    b_l_source := (fun_mk (st := s_l_source) l_l_source c_l_source k_l_source).binds (ps := ["_law_cell"]) fun _ _ _ _ _ _ us hl => match us, hl with | [_], _ => rfl
    g_l_source := PySem.W.mg_of X G a_l_source
    f_l_take := f_l_take
    d_l_take := PySem.W.fnOf "_law_take" "_law_take" (defArgs s_l_take) (defBody s_l_take) (defScope s_l_take) .none kV_l_take dc_l_take pm_l_take an_l_take cd_l_take ct_l_take
    F_l_take := fun_mk (st := s_l_take) l_l_take c_l_take k_l_take
    b_l_take := (fun_mk (st := s_l_take) l_l_take c_l_take k_l_take).binds (ps := ["_law_source_here", "_law_many"]) fun _ _ _ _ _ _ us hl => match us, hl with | [_, _], _ => rfl
    g_l_take := PySem.W.mg_of X G a_l_take
    f_l_prime := f_l_prime
    d_l_prime := PySem.W.fnOf "_law_prime" "_law_prime" (defArgs s_l_prime) (defBody s_l_prime) (defScope s_l_prime) .none kV_l_prime dc_l_prime pm_l_prime an_l_prime cd_l_prime ct_l_prime
    F_l_prime := fun_mk (st := s_l_prime) l_l_prime c_l_prime k_l_prime
    b_l_prime := (fun_mk (st := s_l_prime) l_l_prime c_l_prime k_l_prime).binds (ps := ["_law_source_here"]) fun _ _ _ _ _ _ us hl => match us, hl with | [_], _ => rfl
    g_l_prime := PySem.W.mg_of X G a_l_prime
    f_l_whole := f_l_whole
    d_l_whole := PySem.W.fnOf "_law_whole" "_law_whole" (defArgs s_l_whole) (defBody s_l_whole) (defScope s_l_whole) .none kV_l_whole dc_l_whole pm_l_whole an_l_whole cd_l_whole ct_l_whole
    F_l_whole := fun_mk (st := s_l_whole) l_l_whole c_l_whole k_l_whole
    b_l_whole := (fun_mk (st := s_l_whole) l_l_whole c_l_whole k_l_whole).binds (ps := ["_law_source_here"]) fun _ _ _ _ _ _ us hl => match us, hl with | [_], _ => rfl
    g_l_whole := PySem.W.mg_of X G a_l_whole
    f_l_three := f_l_three
    d_l_three := PySem.W.fnOf "_law_three" "_law_three" (defArgs s_l_three) (defBody s_l_three) (defScope s_l_three) .none kV_l_three dc_l_three pm_l_three an_l_three cd_l_three ct_l_three
    F_l_three := fun_mk (st := s_l_three) l_l_three c_l_three k_l_three
    b_l_three := (fun_mk (st := s_l_three) l_l_three c_l_three k_l_three).binds (ps := ["_law_source_here"]) fun _ _ _ _ _ _ us hl => match us, hl with | [_], _ => rfl
    g_l_three := PySem.W.mg_of X G a_l_three
    f_l_meeting := f_l_meeting
    d_l_meeting := PySem.W.fnOf "_law_meeting" "_law_meeting" (defArgs s_l_meeting) (defBody s_l_meeting) (defScope s_l_meeting) .none kV_l_meeting dc_l_meeting pm_l_meeting an_l_meeting cd_l_meeting ct_l_meeting
    F_l_meeting := fun_mk (st := s_l_meeting) l_l_meeting c_l_meeting k_l_meeting
    b_l_meeting := (fun_mk (st := s_l_meeting) l_l_meeting c_l_meeting k_l_meeting).binds (ps := ["_law_first", "_law_second"]) fun _ _ _ _ _ _ us hl => match us, hl with | [_, _], _ => rfl
    g_l_meeting := PySem.W.mg_of X G a_l_meeting
    f_l_seen := f_l_seen
    d_l_seen := PySem.W.fnOf "_law_seen" "_law_seen" (defArgs s_l_seen) (defBody s_l_seen) (defScope s_l_seen) .none kV_l_seen dc_l_seen pm_l_seen an_l_seen cd_l_seen ct_l_seen
    F_l_seen := fun_mk (st := s_l_seen) l_l_seen c_l_seen k_l_seen
    b_l_seen := (fun_mk (st := s_l_seen) l_l_seen c_l_seen k_l_seen).binds (ps := ["_law_lamp", "_law_second"]) fun _ _ _ _ _ _ us hl => match us, hl with | [_, _], _ => rfl
    g_l_seen := PySem.W.mg_of X G a_l_seen
    f_l_right := f_l_right
    d_l_right := PySem.W.fnOf "_law_right" "_law_right" (defArgs s_l_right) (defBody s_l_right) (defScope s_l_right) .none kV_l_right dc_l_right pm_l_right an_l_right cd_l_right ct_l_right
    F_l_right := fun_mk (st := s_l_right) l_l_right c_l_right k_l_right
    b_l_right := (fun_mk (st := s_l_right) l_l_right c_l_right k_l_right).binds (ps := ["_law_a", "_law_b", "_law_c"]) fun _ _ _ _ _ _ us hl => match us, hl with | [_, _, _], _ => rfl
    g_l_right := PySem.W.mg_of X G a_l_right
    f_l_law := fa
    d_l_law := PySem.W.fnOf "law" "law" (defArgs s_l_law) (defBody s_l_law) (defScope s_l_law) .none kV_l_law dc_l_law pm_l_law an_l_law cd_l_law ct_l_law
    F_l_law := fun_mk (st := s_l_law) l_l_law c_l_law k_l_law
    b_l_law := (fun_mk (st := s_l_law) l_l_law c_l_law k_l_law).binds (ps := ["_law_script"]) fun _ _ _ _ _ _ us hl => match us, hl with | [_], _ => rfl
    g_l_law := PySem.W.mg_of X G a_l_law
    ne_Lamp := ⟨ne1_Lamp, ne2_Lamp⟩
    n_isinstance := PySem.W.mg_none_of X G n_isinstance
    n_int := PySem.W.mg_none_of X G n_int
    n_bool := PySem.W.mg_none_of X G n_bool
    n_range := PySem.W.mg_none_of X G n_range
    nn_Lamp := nn_Lamp
    ic_Lamp := ic_Lamp
    tc_Lamp := tc_Lamp
    sn_Lamp := sn_Lamp
    i_gcd := PySem.W.mg_of X G i_gcd
    })⟩
theorem walk {l : PySem.W.OpenLaw} {q : Program} {loose : List Str} {XP : (Str → Option Value) → Heap → Prop} {YP : World → Heap → Prop} {d : DefRec} {K : Params → PySem.W.Frag} (hn : l.most = some 63) (hdf : d.params.defaults = [])
    (hY : ∀ (w : World) (h : Heap), YP w h → (K w.params).In h)
    (F : ∀ (w : World) (mg : Str → Option Value) (fa : Addr) (h : Heap), (K w.params).In h → h.Ns mainGlobals mg → mg d.name = some (.ref fa) →
      ∃ fd : FuncData, (∀ (s : Shared) (u : Value), BindsTo s fd ⟨[u], []⟩ [("_law_script", u)]) ∧ ∀ base : Heap, (K w.params).In base → base.Ns mainGlobals mg → FnOk l.prog w (K w.params) mg base CX0 8 fa fd ["_law_script"] (spLaw (K w.params))) :
    PySem.W.WalkO q loose XP YP l.row.toRowW d [] (fun f vs => PySem.call f vs) :=
  L2.walk_of (n := 63) (k := 8) (x := "_law_script") (CX := fun _ => CX0) (sp := fun w => spLaw (K w.params)) hn (by decide) hdf ⟨rfl, by decide, by decide⟩ hY F (fun _ _ a ns hl _ hS => ⟨a, ns, rfl, hS, hl, fun _ => rfl⟩) fun _ _ _ _ _ z => z
end Own
open PySem PySem.W PyProof.Rows
set_option maxRecDepth 100000 in
set_option maxHeartbeats 0 in
theorem PySem.Challenge.cw_farlamps_k05_whole_three_lamps_holds : PySem.Challenge.rw_farlamps_k05_whole_three_lamps.Holds := by
  w_on; o_law; k_head; (case hw => w_witness2)
  k_fill
  refine Own.walk (l := PySem.Challenge.rw_farlamps_k05_whole_three_lamps) rfl rfl (fun w h Y => PySem.W.kIn_of Y) ?F
  case F =>
    intro w mg fa h KX G hmg
    refine' Own.all_mk KX G hmg ?aC_Lamp ?pg_Lamp ?hd_Lamp ?po_Lamp ?sa_Lamp ?mk_Lamp ?kc_Lamp ?kha_Lamp ?khn_Lamp ?kht_Lamp ?khm_Lamp ?na_Lamp_period ?na_Lamp_beat ?a_is_whole ?l_is_whole ?c_is_whole ?k_is_whole ?a_check_beat ?l_check_beat ?c_check_beat ?k_check_beat ?a_inverse ?l_inverse ?c_inverse ?k_inverse ?a_Lamp_init ?j_Lamp_init ?l_Lamp_init ?c_Lamp_init ?k_Lamp_init ?a_Lamp_eq ?j_Lamp_eq ?l_Lamp_eq ?c_Lamp_eq ?k_Lamp_eq ?a_Lamp_shines ?j_Lamp_shines ?l_Lamp_shines ?c_Lamp_shines ?k_Lamp_shines ?a_seen_from ?l_seen_from ?c_seen_from ?k_seen_from ?a_hides ?l_hides ?c_hides ?k_hides ?a_meet ?l_meet ?c_meet ?k_meet ?a_l_mixed ?l_l_mixed ?c_l_mixed ?k_l_mixed ?a_l_source ?l_l_source ?c_l_source ?k_l_source ?a_l_take ?l_l_take ?c_l_take ?k_l_take ?a_l_prime ?l_l_prime ?c_l_prime ?k_l_prime ?a_l_whole ?l_l_whole ?c_l_whole ?k_l_whole ?a_l_three ?l_l_three ?c_l_three ?k_l_three ?a_l_meeting ?l_l_meeting ?c_l_meeting ?k_l_meeting ?a_l_seen ?l_l_seen ?c_l_seen ?k_l_seen ?a_l_right ?l_l_right ?c_l_right ?k_l_right ?a_l_law ?l_l_law ?c_l_law ?k_l_law ?ne1_Lamp ?ne2_Lamp ?n_isinstance ?n_int ?n_bool ?n_range ?nn_Lamp ?ic_Lamp ?tc_Lamp ?sn_Lamp ?i_gcd
    (case aC_Lamp => k_is)
    (case pg_Lamp => k_is)
    (case hd_Lamp => k_is)
    (case po_Lamp => k_is)
    (case sa_Lamp => k_is)
    (case mk_Lamp => k_is)
    (case kc_Lamp => k_is)
    (case kha_Lamp => k_is)
    (case khn_Lamp => k_is)
    (case kht_Lamp => k_is)
    (case khm_Lamp => k_is)
    (case na_Lamp_period => k_is)
    (case na_Lamp_beat => k_is)
    (case a_is_whole => k_is)
    (case l_is_whole => k_is)
    (case c_is_whole => k_is)
    (case k_is_whole => k_is)
    (case a_check_beat => k_is)
    (case l_check_beat => k_is)
    (case c_check_beat => k_is)
    (case k_check_beat => k_is)
    (case a_inverse => k_is)
    (case l_inverse => k_is)
    (case c_inverse => k_is)
    (case k_inverse => k_is)
    (case a_Lamp_init => k_is)
    (case j_Lamp_init => k_is)
    (case l_Lamp_init => k_is)
    (case c_Lamp_init => k_is)
    (case k_Lamp_init => k_is)
    (case a_Lamp_eq => k_is)
    (case j_Lamp_eq => k_is)
    (case l_Lamp_eq => k_is)
    (case c_Lamp_eq => k_is)
    (case k_Lamp_eq => k_is)
    (case a_Lamp_shines => k_is)
    (case j_Lamp_shines => k_is)
    (case l_Lamp_shines => k_is)
    (case c_Lamp_shines => k_is)
    (case k_Lamp_shines => k_is)
    (case a_seen_from => k_is)
    (case l_seen_from => k_is)
    (case c_seen_from => k_is)
    (case k_seen_from => k_is)
    (case a_hides => k_is)
    (case l_hides => k_is)
    (case c_hides => k_is)
    (case k_hides => k_is)
    (case a_meet => k_is)
    (case l_meet => k_is)
    (case c_meet => k_is)
    (case k_meet => k_is)
    (case a_l_mixed => k_is)
    (case l_l_mixed => k_is)
    (case c_l_mixed => k_is)
    (case k_l_mixed => k_is)
    (case a_l_source => k_is)
    (case l_l_source => k_is)
    (case c_l_source => k_is)
    (case k_l_source => k_is)
    (case a_l_take => k_is)
    (case l_l_take => k_is)
    (case c_l_take => k_is)
    (case k_l_take => k_is)
    (case a_l_prime => k_is)
    (case l_l_prime => k_is)
    (case c_l_prime => k_is)
    (case k_l_prime => k_is)
    (case a_l_whole => k_is)
    (case l_l_whole => k_is)
    (case c_l_whole => k_is)
    (case k_l_whole => k_is)
    (case a_l_three => k_is)
    (case l_l_three => k_is)
    (case c_l_three => k_is)
    (case k_l_three => k_is)
    (case a_l_meeting => k_is)
    (case l_l_meeting => k_is)
    (case c_l_meeting => k_is)
    (case k_l_meeting => k_is)
    (case a_l_seen => k_is)
    (case l_l_seen => k_is)
    (case c_l_seen => k_is)
    (case k_l_seen => k_is)
    (case a_l_right => k_is)
    (case l_l_right => k_is)
    (case c_l_right => k_is)
    (case k_l_right => k_is)
    (case a_l_law => k_is)
    (case l_l_law => k_is)
    (case c_l_law => k_is)
    (case k_l_law => k_is)
    (case ne1_Lamp => k_is)
    (case ne2_Lamp => k_is)
    (case n_isinstance => k_is)
    (case n_int => k_is)
    (case n_bool => k_is)
    (case n_range => k_is)
    (case nn_Lamp => k_is)
    (case ic_Lamp => k_is)
    (case tc_Lamp => k_is)
    (case sn_Lamp => k_is)
    (case i_gcd => k_is)
