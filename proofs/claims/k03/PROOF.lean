import PyProof.Rows.All
import Wide.All
import OpenK.AllK
import Wide.FinOn
import HandS.ForMost
import HandS.OwnEq
import HandS.IsInst
import PyProof.InstEq
import HandS.Defaults
import PyProof.AutoSeq1
import PyProof.ListOps
import HandS.Exc
import HandS.Flow
import HandS.Wide
import HandS.WideMore
import HandS.Gcd
import HandS.Codes
import PySem.Challenge.RW_farlamps_k03_where_two_lamps_meet
set_option Elab.async false
set_option linter.all false
set_option maxRecDepth 100000
namespace Own
open PySem L2
/-! ### == by an own __eq__ that hands back a truth: both answers -/
/-- what isinstance asks of an own class -/
structure Kls (K : PySem.W.Frag) (C : Addr) : Prop where
  cl : Cls K C
  ha : PySem.W.findIn K (.ref C) "__class__" = some (some (.builtin "object.__class__"))
  hn : PySem.W.specialIn K (.builtin "object.__class__") "__get__" = some (some (.builtin "getset_descriptor.__get__"))
  htk : PySem.W.takesIn K (.builtin "object.__class__") = some true
  hm : PySem.W.mroIn K C (.type "object") = some true
theorem Kls.ty {K : PySem.W.Frag} {H : Hp} {a C dx : Addr} {fs : List (Str × V)} (k : Kls K C) (e : H a = some (.ins C dx fs)) : TyX K H (.ref a) (.ref C) := .base (.ins e k.cl k.ha k.hn k.htk k.hm)
section
variable {X : Cx} {n : Nat}
theorem looks_ty {x : V} {u t : Value} {pins : List (Addr × Obj)} {σ : St} {H : Hp} {s : Shared} (I : Inv X pins σ H s) (rx : RelV x u) (ty : TyX X.K H x t) : PySem.W.Looks (model X.prog X.w) s.heap (typeOf u) t := by
  obtain ⟨P, Z, p, _⟩ := kit_of I rx ty
  exact Z.ty (model X.prog X.w) s.heap I.kIn p
def rEqOwn (K : PySem.W.Frag) (C : Addr) (sp : Sp) (E : XK) : R2 := fun x y H Q => ∃ a dx fs t, x = .ref a ∧ H a = some (.ins C dx fs) ∧ TyX K H y t ∧ PySem.W.notFirst K C t = true ∧
  sp [x, y] H (fun v H' => ∃ b, v = .bl b ∧ Q (.bl b) H') E
theorem op_eqOwn {CX : CXT} {C f : Addr} {fd : FuncData} {ps : List Str} {sp : Sp} {E : XK} (hm : Meth X.K C "__eq__" f) (F : FnOk X.prog X.w X.K X.mg X.base CX n f fd ps sp) (hb : Binds X.K fd ps []) (hr : Room n X.A) (hx : Passes CX X E) :
    OpR X (compareOp .Eq) (rEqOwn X.K C sp E) := by
  intro pins s σ H x y v u Q I rx ry hq
  obtain ⟨a, dx, fs, t, rfl, ha, ty, nf, hsp⟩ := hq
  cases rx
  have lt := looks_ty I ry ty
  obtain ⟨mA, J, _⟩ := ins_get I.hok ha
  obtain ⟨od, J, _⟩ := J.look
  obtain ⟨m, hF⟩ := I.fr
  show wpAny (model X.prog X.w) X.A (richCompare .Eq (.ref a) u) (EP X pins σ Q) X.xe s
  refine PySem.W.cmp_K (op := .Eq) hr.units0 hF I.ok.mod.kin J lt nf hm.at_ hm.fn ?_
  have hl := F.len _ _ _ _ hsp
  have r2 : Vals [V.ref a, y] [Value.ref a, u] := .cons rfl (.cons ry .nil)
  refine wpAny_call (codeAny_mono (F.run X.A X.stack s H ⟨[.ref a, u], []⟩ [.ref a, u] [.ref a, y] _ E hr I.env0 (by
    have := hb s [.ref a, u] I.kIn (by simpa using hl)
    simpa using this) r2 hsp) fun r s' hq => ?_)
  cases r with
  | error e => exact hx pins σ H s e s' I hq
  | ok fl =>
    cases fl with
    | ret w =>
      obtain ⟨z, H', I', rz, b, ez, q⟩ := I.after hq
      subst ez
      cases rz
      exact ⟨.bl b, H', I', rfl, q⟩
    | next => exact False.elim hq
    | brk => exact False.elim hq
    | cont => exact False.elim hq
end
theorem kit_no {K : PySem.W.Frag} {C : Addr} {T : String} (h2 : PySem.W.isClsIn K C = true) (h3 : PySem.W.typeIn K (.ref C) = some (.type "type")) (h4 : PySem.W.subIn K (.type T) (.ref C) = some false) : PySem.W.kitOne K (.type T) (.ref C) = some false := by
  have e2 : ((PySem.W.clsIn K C).isSome && PySem.W.typeIn K (.ref C) == some (.type "type")) = true := by
    have h2' : (PySem.W.clsIn K C).isSome = true := h2
    rw [h2', h3] <;> rfl
  have e0 : ¬ (Value.type T == Value.ref C) = true := by simp
  unfold PySem.W.kitOne
  rw [if_neg e0]
  show (if ((PySem.W.clsIn K C).isSome && PySem.W.typeIn K (.ref C) == some (.type "type")) = true then PySem.W.subIn K (.type T) (.ref C) else none) = some false
  rw [if_pos e2]
  exact h4

/-! ### != of instances whose class has an own __eq__ and no __ne__ -/
section
open PySem.W
variable {prog : Program} {w : World} {A : Around} {E : Value → Shared → Prop} {s : Shared} {K : PySem.W.Frag} {x C L f : Addr} {h₀ : Heap} {m : Str → Option Value} {ox : Obj} {od : Option Obj} {b tb : Value}
theorem ne_entry {P : Fin → Shared → Prop} (hu : A.units < cLine) (X : K.In s.heap) (I : InstAt s.heap x ox C od) (hs : findIn K (.ref C) "__eq__" = some (some (.ref f))) (hf : isFn K (.ref f) = true)
    (h : wpAny (model prog w) A (call (.ref f) [.ref x, b]) (fun v s' => ∃ r, v = .bool r ∧ P (.done (.ret (.bool (!r)))) s') E s) :
    wpAny (model prog w) A (Builtin.«object.__ne__» ⟨[.ref x, b], []⟩) P E s := by
  unfold Builtin.«object.__ne__»
  iterate 6 (first
    | with_reducible refine wpAny_cRoomFor hu ?_
    | wp_step)
  refine wpAny_cRoomFor hu ?_
  refine wpAny_bind (ifBound_K X I hs hf (wpAny_mono h (fun v s' hv => ?_) fun _ _ e => e))
  obtain ⟨r, rfl, hp⟩ := hv
  dsimp only
  refine wpAny_bind ?_
  iterate 3 (try wp_step)
  exact wpAny_pure hp
theorem ne_check {Q : Unit → Shared → Prop} (X : K.In s.heap) (I : InstAt s.heap x ox C od) (ho : subIn K (.ref C) (.type "object") = some true) (hq : Q () s) :
    wpAny (model prog w) A (checkBuiltinCall "object.__ne__" ⟨[.ref x, b], []⟩) Q E s := by
  have LI : Looks (model prog w) s.heap (isInstance (.ref x) (.type "object")) true := I.type.andThen (looks_subIn X ho)
  simp only [checkBuiltinCall, PySem.F.cmpKind_ne, PySem.F.cmpSplit_ne]
  refine wpAny_bind (LI.here ?_)
  cases hsig : Manifest.signature? "object.__ne__" with
  | none => repeat wp_step
            all_goals exact hq
  | some sig =>
    have ha := PySem.F.cmpArgs_ne (.ref x) b
    simp only [argsOk, hsig] at ha
    have h2 : Bind.checkArgs "object.__ne__" sig ⟨.ref x :: [b], []⟩ = pure () := ha
    show wpAny _ A (Bind.checkArgs "object.__ne__" sig ⟨.ref x :: [b], []⟩) Q E _
    rw [h2]
    exact wpAny_pure hq
end
section
open PySem.W
variable {prog : Program} {w : World} {A : Around} {E : Value → Shared → Prop} {s : Shared} {K : PySem.W.Frag} {x C L f : Addr} {h₀ : Heap} {m : Str → Option Value} {ox : Obj} {od : Option Obj} {b tb : Value}
theorem ne_bound {Q : Option Value → Shared → Prop} (hu : A.units + 1 < cLine) (X : K.In s.heap) (I : InstAt s.heap x ox C od) (hs : findIn K (.ref C) "__eq__" = some (some (.ref f))) (hf : isFn K (.ref f) = true)
    (hn : findIn K (.ref C) "__ne__" = some (some (.builtin "object.__ne__"))) (ho : subIn K (.ref C) (.type "object") = some true)
    (h : wpAny (model prog w) A.in1 (call (.ref f) [.ref x, b]) (fun v s' => ∃ r, v = .bool r ∧ Q (some (.bool (!r))) s') E s) :
    wpAny (model prog w) A (callSpecialIfBound? (.ref x) "__ne__" [b]) Q E s := by
  simp only [callSpecialIfBound?, bindSpecialIfBound?]
  refine wpAny_holding (wpAny_bind (wpAny_bind (wpAny_bind (I.type.here ((looks_findIn X hn).here ?_)))))
  simp only [PySem.F.cmp_object.ne.bind]
  refine wpAny_bind (wpAny_askSetting (wpAny_ite ?_))
  have fin : wpAny (model prog w) A (call (.builtin "object.__ne__") ([.ref x] ++ [b]) >>= fun v => pure (some v)) Q E s :=
    wpAny_bind (wpAny_call (codeAny_call_builtin PySem.F.cmp_object.ne.plain PySem.F.cmpEntry_ne (ne_check X I ho (ne_entry (A := A.in1) hu X I hs hf
      (wpAny_mono h (fun v s' hv => by obtain ⟨r, rfl, hp⟩ := hv; exact ⟨r, rfl, wpAny_pure hp⟩) fun _ _ e => e)))))
  split
  · exact wpAny_bind (wpAny_pure (wpAny_pure fin))
  · exact wpAny_tryCatch (wpAny_bind (wpAny_pure (wpAny_pure fin)))
theorem ne_K {Q : Value → Shared → Prop} (hu : A.units + 1 < cLine) (F : PyProof.Rows.Fr h₀ L s.heap m) (X₀ : K.In h₀) (I : InstAt s.heap x ox C od) (hb : Looks (model prog w) s.heap (typeOf b) tb) (hnf : notFirst K C tb = true)
    (hs : findIn K (.ref C) "__eq__" = some (some (.ref f))) (hf : isFn K (.ref f) = true)
    (hn : findIn K (.ref C) "__ne__" = some (some (.builtin "object.__ne__"))) (ho : subIn K (.ref C) (.type "object") = some true)
    (h : wpAny (model prog w) A.in1 (call (.ref f) [.ref x, b]) (fun v s' => ∃ r, v = .bool r ∧ Q (.bool (!r)) s') E s) : wpAny (model prog w) A (richCompare .NotEq (.ref x) b) Q E s := by
  have X := X₀.keeps F.keep
  have one : wpAny (model prog w) A (tryCompare (.ref x) "__ne__" b) (fun r s' => ∃ v, r = some v ∧ Q v s') E s := by
    unfold tryCompare
    refine wpAny_bind (ne_bound hu X I hs hf hn ho (wpAny_mono h (fun v s' hv => ?_) fun _ _ e => e))
    obtain ⟨r, rfl, hp⟩ := hv
    exact ⟨r, rfl, wpAny_pure ⟨_, rfl, hp⟩⟩
  unfold richCompare
  simp only [oneThing_ref]
  refine wpAny_holding (wpAny_bind (wpAny_cRoomFor (by omega) ?_))
  refine wpAny_bind (I.type.here (wpAny_bind (hb.here ?_)))
  split
  · rename_i q
    have e : subIn K tb (.ref C) = some false := by
      rcases Bool.or_eq_true_iff.mp hnf with e | e
      · rw [beq_iff_eq.mp e] at q; simp at q
      · exact beq_iff_eq.mp e
    refine wpAny_bind ((looks_subIn X e).here ?_)
    simp only [Bool.false_eq_true, if_false]
    refine wpAny_bind (wpAny_mono one (fun r s' z => ?_) fun _ _ e => e)
    obtain ⟨v, rfl, hq⟩ := z
    exact wpAny_pure hq
  · refine wpAny_bind (wpAny_pure ?_)
    simp only [Bool.false_eq_true, if_false]
    refine wpAny_bind (wpAny_mono one (fun r s' z => ?_) fun _ _ e => e)
    obtain ⟨v, rfl, hq⟩ := z
    exact wpAny_pure hq
end
/-- what != by an own __eq__ asks of the class -/
structure NeK (K : PySem.W.Frag) (C : Addr) : Prop where
  ne : PySem.W.findIn K (.ref C) "__ne__" = some (some (.builtin "object.__ne__"))
  ob : PySem.W.subIn K (.ref C) (.type "object") = some true
section
variable {X : Cx} {n : Nat}
def rNeOwn (K : PySem.W.Frag) (C : Addr) (sp : Sp) (E : XK) : R2 := fun x y H Q => ∃ a dx fs t, x = .ref a ∧ H a = some (.ins C dx fs) ∧ TyX K H y t ∧ PySem.W.notFirst K C t = true ∧
  sp [x, y] H (fun v H' => ∃ b, v = .bl b ∧ Q (.bl (!b)) H') E
theorem op_neOwn {CX : CXT} {C f : Addr} {fd : FuncData} {ps : List Str} {sp : Sp} {E : XK} (hm : Meth X.K C "__eq__" f) (F : FnOk X.prog X.w X.K X.mg X.base CX n f fd ps sp) (hb : Binds X.K fd ps []) (hr : Room (n + 1) X.A) (hx : Passes CX X E) (hk : NeK X.K C) :
    OpR X (compareOp .NotEq) (rNeOwn X.K C sp E) := by
  intro pins s σ H x y v u Q I rx ry hq
  obtain ⟨a, dx, fs, t, rfl, ha, ty, nf, hsp⟩ := hq
  cases rx
  have lt := looks_ty I ry ty
  obtain ⟨mA, J, _⟩ := ins_get I.hok ha
  obtain ⟨od, J, _⟩ := J.look
  obtain ⟨m, hF⟩ := I.fr
  show wpAny (model X.prog X.w) X.A (richCompare .NotEq (.ref a) u) (EP X pins σ Q) X.xe s
  refine ne_K (by have := hr.un; omega) hF I.ok.mod.kin J lt nf hm.at_ hm.fn hk.ne hk.ob ?_
  have hl := F.len _ _ _ _ hsp
  have r2 : Vals [V.ref a, y] [Value.ref a, u] := .cons rfl (.cons ry .nil)
  refine wpAny_call (codeAny_mono (F.run X.A.in1 X.stack s H ⟨[.ref a, u], []⟩ [.ref a, u] [.ref a, y] _ E hr.in1 I.env0.in1 (by
    have := hb s [.ref a, u] I.kIn (by simpa using hl)
    simpa using this) r2 hsp) fun r s' hq => ?_)
  cases r with
  | error e => exact hx pins σ H s e s' I hq
  | ok fl =>
    cases fl with
    | ret w =>
      obtain ⟨z, H', I', rz, b, ez, q⟩ := I.after hq
      subst ez
      cases rz
      exact ⟨b, rfl, .bl (!b), H', I', rfl, q⟩
    | next => exact False.elim hq
    | brk => exact False.elim hq
    | cont => exact False.elim hq
end

/-! ### calls by keywords, no defaults -/
def permL {α : Type} (p : List Nat) (ws : List α) : List α := p.filterMap fun i => ws[i]?
theorem vals_perm {zs : List V} {ws : List Value} (r : Vals zs ws) : ∀ p : List Nat, Vals (permL p zs) (permL p ws)
  | [] => .nil
  | i :: p => by
    unfold permL
    rw [List.filterMap_cons, List.filterMap_cons]
    cases e : zs[i]? with
    | none =>
      rw [r.none_of e]
      exact vals_perm r p
    | some x =>
      obtain ⟨u, e2, ru⟩ := r.get e
      rw [e2]
      exact .cons ru (vals_perm r p)
theorem Fun.kbn {K : PySem.W.Frag} {x qual : Str} {st : Stmt} {f : Addr} {fd : FuncData} {ps : List Str} (F : L2.Fun K x qual st f fd) (n : Nat) (ks : List Str) (p : List Nat)
    (h : ∀ (kV doc pm : Value) (an : Option Addr) (cdv ct : Value) (us ws : List Value), us.length = n → ws.length = ks.length →
      bindArgs (PySem.W.fnOf x qual (defArgs st) (defBody st) (defScope st) .none kV doc pm an cdv ct) ⟨us, ks.zip ws⟩ = pure (ps.zip (us ++ permL p ws))) :
    KBn K fd ps n ks (fun us ws => us ++ permL p ws) (fun vs zs => vs ++ permL p zs) := by
  obtain ⟨oc, od, kV, doc, pm, an, cdv, ct, osl, rfl, lk, hcd⟩ := F.ex
  exact ⟨fun s us ws _ l1 l2 => BindsTo.of_eq (h kV doc pm an cdv ct us ws l1 l2), fun r rz => r.append (vals_perm rz p)⟩
section
variable {X : Cx} {CX : CXT} {k n : Nat} {f C : Addr} {fd : FuncData} {ps ks : List Str} {sp : Sp} {E : XK} {x m : Str} {p pos apos kpos : Pos} {e o : Expr} {es : List Expr} {kws : List Keyword} {te ta : TE} {t tk : TA} {nm : Option Str}
variable {g : List Value → List Value → List Value} {gV : List V → List V → List V}
/-- f(k = v, ..) -/
theorem pe_callN0 (F : FnOk X.prog X.w X.K X.mg X.base CX k f fd ps sp) (hr : Room k X.A) (hg : Gl X x) (hm : X.mg x = some (.ref f)) (hk : PySem.W.keepIn X.K (.ref f) = true) (hb : KBn X.K fd ps 0 ks g gV) (hx : Passes CX X E)
    (hkw : PK X kws tk) (hall : (backToKw pos (keywordEach kws X.env)).all (·.1.isSome) = true := by rfl) (hks : (backToKw pos (keywordEach kws X.env)).filterMap (·.1) = ks := by rfl)
    (hdb : (x == ("__debug__" : Str)) = false := by decide) 
    (hpl : ((backTo pos (starEach [] X.env)).any (·.1) || (backToKw pos (keywordEach kws X.env)).any (·.1.isNone)) = false := by rfl) :
    PE X (.Call (.Name x p) [] kws pos) (tCallN 0 ks.length sp gV E tNil tk) := by
  refine ⟨fun pins s σ H Q I h => ?_⟩
  refine wpAny_Call_Name_kw (ld_glob I hg hm ?_ hdb)
  refine PySem.W.callWith_KW0 (h₀ := X.base) I.ok.mod.kin hk hall ?_ hpl
  refine thn (hkw.run pos pins s σ H _ I h) fun ws s2 ⟨zs, H2, I2, rz, l1, l2, q2⟩ => ⟨I2.kIn, ?_⟩
  rw [hks]
  exact run_fnN (us := []) (vs := []) F hr hb hx I2 .nil rz l1 l2 q2
end
section
variable {X : Cx} {CX : CXT} {k : Nat} {f C : Addr} {fd : FuncData} {ps ks : List Str} {sp : Sp} {E : XK} {m : Str} {pos apos : Pos} {o : Expr} {kws : List Keyword} {ta : TE} {tk : TA} {g : List Value → List Value → List Value} {gV : List V → List V → List V}
/-- o.m(k = v, ..) -/
def tMethN (C : Addr) (m : Str) (n : Nat) (sp : Sp) (gV : List V → List V → List V) (E : XK) (ta : TE) (tk : TA) : TE := fun σ H Q => ta σ H fun x H1 => ∃ a dx fs, x = .ref a ∧ H1 a = some (.ins C dx fs) ∧ fs.lookup m = none ∧
  tk σ H1 fun zs H2 => zs.length = n ∧ sp (gV [x] zs) H2 Q E
theorem pe_methN0 {pl : Sem Bool} (he : PE X o ta) (c : Cls X.K C) (hm : Meth X.K C m f) (F : FnOk X.prog X.w X.K X.mg X.base CX k f fd ps sp) (hr : Room k X.A) (hb : KBn X.K fd ps 1 ks g gV) (hx : Passes CX X E) (hkw : PK X kws tk)
    (hall : (backToKw pos (keywordEach kws X.env)).all (·.1.isSome) = true := by rfl) (hks : (backToKw pos (keywordEach kws X.env)).filterMap (·.1) = ks := by rfl)
    (hpl : ((backTo pos (starEach [] X.env)).any (·.1) || (backToKw pos (keywordEach kws X.env)).any (·.1.isNone)) = false := by rfl)
    (ht : eval (.Call (.Attribute o m apos) [] kws pos) X.env = (do
      let ov ← eval o X.env
      standAt apos.atName
      let (f, first) ← holding [ov] (getMethod ov m pl)
      callWith pos f first (backTo pos (starEach [] X.env)) (backToKw pos (keywordEach kws X.env))) := by rfl) :
    PE X (.Call (.Attribute o m apos) [] kws pos) (tMethN C m ks.length sp gV E ta tk) := by
  refine ⟨fun pins s σ H Q I h => ?_⟩
  refine PySem.W.methodCall_KW (pl := pl) (thn (he.run pins s σ H _ I h) fun u s1 ⟨x, H1, I1, rx, a, dx, fs, ex, ea, l, q⟩ => ?_) ht
  subst ex
  obtain rfl : u = Value.ref a := rx
  refine getmeth_ok I1 ea c hm l ?_
  refine PySem.W.callWith_KW0 (first := [.ref a]) (h₀ := X.base) I1.ok.mod.kin hm.kp hall ?_ hpl
  refine thn (hkw.run pos pins s1 σ H1 _ I1 q) fun ws s2 ⟨zs, H2, I2, rz, l2, q2⟩ => ⟨I2.kIn, ?_⟩
  rw [hks]
  exact run_fnN (us := [.ref a] ++ []) (vs := [.ref a]) F hr hb hx I2 (show Vals [V.ref a] [Value.ref a] from .cons rfl .nil) rz rfl l2 q2
end

/-! ### within a comprehension: what hangs on the written part alone -/
section
variable {X : Cx} {K : PySem.W.Frag} {e : Expr} {f : Str} {pos : Pos} {ta : TE}
theorem pe_fldB (hK : X.K = K) (he : PE X e ta) (hb : attributeBase e f X.env (eval e X.env) = eval e X.env) : PE X (.Attribute e f pos) (tFld K ta f) := by
  subst hK
  exact pe_fld he hb
theorem ix_listB (hK : X.K = K) : L2.IxR X (rIxL K) := by
  subst hK
  exact ix_list
end
section
variable {X : Cx} {K : PySem.W.Frag}
theorem pg_tupB {es : List Expr} {pos : Pos} {k : Nat} {t : TGs} {n : Nat} (hK : X.K = K) (hc : X.calm = true) (h : PGs X es t)
    (hn : (assignEach es X.env).length = n := by rfl) (hst : (assignEach es X.env).findIdx? (·.1) = none := by rfl) : PG X (.Tuple es k pos) (gTup K n t) := by
  subst hK
  exact pg_tup hc h hn hst
theorem pt_truthB {a : Expr} {ta : TE} (hK : X.K = K) (ha : PE X a ta) (he : ∀ whole, isTrue a X.env whole = (do let v ← whole; standAt a.pos; holding [v] (truthy v))) :
    PT X a (fun σ H Q => ta σ H fun x H' => ∃ k, TruV K x H' k ∧ Q k H') := by
  subst hK
  exact pt_truth ha he
theorem ix_tupB (hK : X.K = K) : L2.IxR X (rIxT K) := by
  subst hK
  exact ix_tup
theorem call_isiB (hK : X.K = K) : CallR X (.builtin "isinstance") (rIsi K) := by
  subst hK
  exact call_isi
end

/-! ### list + list, where the lists are read only (the script) -/
section
open PySem.AutoSeq1 in
theorem list_add_sl (l : Addr) (items : Array Value) (n : Nat) (sl : Array (Option Value)) (b : Addr) (items2 : Array Value) (n2 : Nat) (sl2 : Array (Option Value)) (hc0 : items.size + items2.size ≤ sizeLine) :
    Meets (Builtin.«list.__add__» ⟨[.ref l, .ref b], []⟩) (fun _ R s => s.heap.get? l = some { cls := .type "list", dict := none, data := .seq items n, slots := sl } ∧ s.heap.get? b = some { cls := .type "list", dict := none, data := .seq items2 n2, slots := sl2 } ∧
      R (.ok (.ret (Value.ref s.heap.objs.size))) { s with heap := s.heap.push { cls := Value.type "list", data := Data.seq (items ++ items2) } }) :=
  .of_wp fun prog w A R s h => by
    obtain ⟨hp, g, d, tk, os⟩ := s
    obtain ⟨hl, hb, h⟩ := h
    have f1 := idx_int
    have f2 := sub_tuple_tuple
    have f3 := sub_list_list
    have f4 := sub_tuple_list
    have f5 := sub_list_tuple
    wp_walk using wpAny_loadPart' hl, wpAny_loadPart' hb
    exact ⟨_, rfl, h⟩
variable {X : Cx}
def rCatS (K : PySem.W.Frag) : R2 := fun x y H Q => ∃ l b xs zs, x = .ref l ∧ y = .ref b ∧ SqL K H l xs ∧ SqL K H b zs ∧ xs.length + zs.length ≤ sizeLine ∧ ∀ p, H p = none → Q (.ref p) (upd H p (.lst (xs ++ zs)))
theorem op_catS : OpR X (binaryOp .Add) (rCatS X.K) := by
  intro pins s σ H x y v u Q I rx ry h
  obtain ⟨l, b, xs, zs, rfl, rfl, hH, hB, hz, q⟩ := h
  cases rx
  cases ry
  obtain ⟨its, r, ⟨o, n, e, hc, hd, hs⟩, z⟩ := I.list hH
  obtain ⟨its2, r2, ⟨o2, n2, e2, hc2, hd2, hs2⟩, z2⟩ := I.list hB
  obtain ⟨oc, od, dt, sl⟩ := o
  obtain ⟨oc2, od2, dt2, sl2⟩ := o2
  simp only at hc hd hs hc2 hd2 hs2
  subst hc hd hs hc2 hd2 hs2
  have l1 := r.length
  have l2 := r2.length
  refine concat_meets ⟨_, e, rfl⟩ ⟨_, e2, rfl⟩ noFill_list_add seq_list_add PySem.F.slot_list_add PySem.F.entry_list_add (PySem.F.args_list_add_2 _ _) (list_add_sl l its.toArray n sl b its2.toArray n2 sl2 (by rw [List.size_toArray, List.size_toArray]; omega)) ⟨e, e2, ?_⟩
  have ea : its.toArray ++ its2.toArray = (its ++ its2).toArray := by simp
  rw [ea]
  exact ⟨.ref _, _, I.lnew (t' := s.toks) (r.append r2) (by rw [List.length_append]; omega), rfl, q _ I.fresh⟩
end
section
variable {X : Cx} {K : PySem.W.Frag}
theorem op_catSB (hK : X.K = K) : OpR X (binaryOp .Add) (rCatS K) := by
  subst hK
  exact op_catS
end

/-- bits of a number that a period may have -/
def E8 : Nat := 8000
/-! ### numbers: the inverse by Euclid's steps -/
structure InvI (a m o n ot nt : Int) : Prop where
  n0 : 0 ≤ n
  o0 : 0 < o
  g : Int.gcd o n = 1
  d1 : m ∣ a * ot - o
  d2 : m ∣ a * nt - n
  sz : o * nt.natAbs + n * ot.natAbs ≤ m
theorem natAbs_sub_mul (x y q : Int) (hq : 0 ≤ q) : ((x - q * y).natAbs : Int) ≤ x.natAbs + q * y.natAbs := by
  have h1 : (x - q * y).natAbs ≤ x.natAbs + (q * y).natAbs := by omega
  have h2 : ((q * y).natAbs : Int) = q * y.natAbs := by
    rw [Int.natAbs_mul]
    have : (q.natAbs : Int) = q := by omega
    rw [Int.natCast_mul, this]
  omega
theorem InvI.step {a m o n ot nt : Int} (h : InvI a m o n ot nt) (hn : 0 < n) : InvI a m n (o - o / n * n) nt (ot - o / n * nt) := by
  have hq : 0 ≤ o / n := Int.ediv_nonneg (by have := h.o0; omega) (by omega)
  have e : o - o / n * n = o % n := by
    have := Int.emod_add_mul_ediv o n
    rw [Int.mul_comm] at this
    omega
  refine ⟨?_, hn, ?_, h.d2, ?_, ?_⟩
  · rw [e]; exact Int.emod_nonneg _ (by omega)
  · have g := h.g
    rw [show o - o / n * n = o - (o / n) * n from rfl, Int.gcd_sub_mul_right_right, Int.gcd_comm]
    exact g
  · have h1 := h.d1
    have h2 := h.d2
    have : a * (ot - o / n * nt) - (o - o / n * n) = (a * ot - o) - (o / n) * (a * nt - n) := by grind
    rw [this]
    exact Int.dvd_sub h1 (Int.dvd_mul_of_dvd_right h2)
  · have b := natAbs_sub_mul ot nt (o / n) hq
    have h3 : n * ((ot - o / n * nt).natAbs : Int) ≤ n * (ot.natAbs + o / n * nt.natAbs) := Int.mul_le_mul_of_nonneg_left b (by omega)
    have := h.sz
    have e2 : n * (ot.natAbs + o / n * nt.natAbs) + (o - o / n * n) * nt.natAbs = n * (ot.natAbs : Int) + o * nt.natAbs := by grind
    omega
theorem InvI.start {a m : Int} (hm : 0 < m) (g : Int.gcd m a = 1) : InvI a m m (a % m) 0 1 := by
  refine ⟨Int.emod_nonneg _ (by omega), hm, ?_, ?_, ?_, ?_⟩
  · rw [show a % m = a - m * (a / m) by have := Int.emod_add_mul_ediv a m; omega, Int.gcd_sub_mul_left_right]; exact g
  · exact ⟨-1, by grind⟩
  · exact ⟨a / m, by have := Int.emod_add_mul_ediv a m; grind⟩
  · simp
theorem InvI.nt_le {a m o n ot nt : Int} (h : InvI a m o n ot nt) : (nt.natAbs : Int) ≤ m := by
  have h1 := h.sz
  have h2 : (1 : Int) * nt.natAbs ≤ o * nt.natAbs := Int.mul_le_mul_of_nonneg_right (by have := h.o0; omega) (by omega)
  have h3 : 0 ≤ n * (ot.natAbs : Int) := Int.mul_nonneg h.n0 (by omega)
  omega
theorem InvI.fin {a m o ot nt : Int} (h : InvI a m o 0 ot nt) (hm : 0 < m) : 0 ≤ ot % m ∧ ot % m < m ∧ m ∣ a * (ot % m) - 1 := by
  have g := h.g
  rw [Int.gcd_zero_right] at g
  have o1 : o = 1 := by have := h.o0; omega
  refine ⟨Int.emod_nonneg _ (by omega), Int.emod_lt_of_pos _ hm, ?_⟩
  have h1 := h.d1
  rw [o1] at h1
  have : a * (ot % m) - 1 = (a * ot - 1) - m * (a * (ot / m)) := by
    have := Int.emod_add_mul_ediv ot m
    grind
  rw [this]
  exact Int.dvd_sub h1 (Int.dvd_mul_right _ _)
/-- the one number from 0 below m that inverts a by m -/
theorem inv_uniq {a m r s : Int} (hm : 0 < m) (hr : 0 ≤ r ∧ r < m ∧ m ∣ a * r - 1) (hs : 0 ≤ s ∧ s < m ∧ m ∣ a * s - 1) : r = s := by
  obtain ⟨r0, r1, x, hx⟩ := hr
  obtain ⟨s0, s1, y, hy⟩ := hs
  have h : m ∣ r - s := by
    refine ⟨s * x - r * y + 0, ?_⟩
    grind
  obtain ⟨k, hk⟩ := h
  have : k = 0 := by
    by_cases h0 : k = 0
    · exact h0
    · exfalso
      by_cases h1 : 0 < k
      · have : m * 1 ≤ m * k := Int.mul_le_mul_of_nonneg_left (by omega) (by omega)
        omega
      · have : m * k ≤ m * (-1) := Int.mul_le_mul_of_nonneg_left (by omega) (by omega)
        omega
  rw [this] at hk
  omega

/-! ### numbers: lamps seen and met -/
/-- what is seen of (p2, b2) at the own beats of (p1, b1): (q, r) -/
structure SeenIs (p1 b1 p2 b2 q r : Int) : Prop where
  q0 : 0 < q
  r0 : 0 ≤ r
  rq : r < q
  qe : q = p2 / (Int.gcd p1 p2 : Int)
  iff : ∀ t : Int, q ∣ t - r ↔ p2 ∣ b1 + t * p1 - b2
/-- the meeting of (p1, b1) and (p2, b2): (m, c) -/
structure MeetIs (p1 b1 p2 b2 m c : Int) : Prop where
  m0 : 0 < m
  c0 : 0 ≤ c
  cm : c < m
  me : m = p1 * (p2 / (Int.gcd p1 p2 : Int))
  iff : ∀ x : Int, m ∣ x - c ↔ p1 ∣ x - b1 ∧ p2 ∣ x - b2
theorem dvd_iff_emod {a b : Int} : b % a = 0 ↔ a ∣ b := ⟨Int.dvd_of_emod_eq_zero, Int.emod_eq_zero_of_dvd⟩
theorem dvd_emod_sub {q x t : Int} : q ∣ t - x % q ↔ q ∣ t - x := by
  have h := Int.emod_add_mul_ediv x q
  constructor
  · rintro ⟨k, hk⟩
    exact ⟨k - x / q, by grind⟩
  · rintro ⟨k, hk⟩
    exact ⟨k + x / q, by grind⟩
theorem gcd_pos {a b : Int} (h : 0 < a) : (0 : Int) < (Int.gcd a b : Int) := by
  have := Int.gcd_pos_of_ne_zero_left b (a := a) (by omega)
  omega
theorem gcd_cop {a b : Int} (h : 0 < a) : Int.gcd (b / (Int.gcd a b : Int)) (a / (Int.gcd a b : Int)) = 1 := by
  have h0 : 0 < Int.gcd a b := Int.gcd_pos_of_ne_zero_left b (by omega)
  rw [Int.gcd_comm]
  exact Int.gcd_ediv_gcd_ediv_gcd h0
theorem seen_is {p1 b1 p2 b2 v : Int} (h1 : 0 < p1) (h2 : 0 < p2) (hg : (Int.gcd p1 p2 : Int) ∣ b2 - b1) (hv : p2 / (Int.gcd p1 p2 : Int) ∣ p1 / (Int.gcd p1 p2 : Int) * v - 1) :
    SeenIs p1 b1 p2 b2 (p2 / (Int.gcd p1 p2 : Int)) (((b2 - b1) / (Int.gcd p1 p2 : Int) * v) % (p2 / (Int.gcd p1 p2 : Int))) := by
  have g0 := gcd_pos (a := p1) (b := p2) h1
  have cop := gcd_cop (a := p1) (b := p2) h1
  obtain ⟨P, hP⟩ : (Int.gcd p1 p2 : Int) ∣ p1 := Int.gcd_dvd_left ..
  obtain ⟨q, hq⟩ : (Int.gcd p1 p2 : Int) ∣ p2 := Int.gcd_dvd_right ..
  obtain ⟨A, hA⟩ := hg
  generalize hgg : (Int.gcd p1 p2 : Int) = g at *
  have eP : p1 / g = P := by rw [hP]; exact Int.mul_ediv_cancel_left _ (by omega)
  have eq : p2 / g = q := by rw [hq]; exact Int.mul_ediv_cancel_left _ (by omega)
  have eA : (b2 - b1) / g = A := by rw [hA]; exact Int.mul_ediv_cancel_left _ (by omega)
  rw [eP, eq] at cop hv
  rw [eq, eA]
  have q0 : 0 < q := by
    by_cases hq0 : 0 < q
    · exact hq0
    · exfalso
      have : g * q ≤ g * 0 := Int.mul_le_mul_of_nonneg_left (by omega) (by omega)
      omega
  refine ⟨q0, Int.emod_nonneg _ (by omega), Int.emod_lt_of_pos _ q0, by rw [hgg, eq], fun t => ?_⟩
  rw [dvd_emod_sub]
  have e1 : b1 + t * p1 - b2 = g * (P * t - A) := by grind
  rw [e1, hq]
  have e2 : g * q ∣ g * (P * t - A) ↔ q ∣ P * t - A := Int.mul_dvd_mul_iff_left (by omega)
  rw [e2]
  obtain ⟨k, hk⟩ := hv
  constructor
  · rintro ⟨j, hj⟩
    exact ⟨P * j + A * k, by grind⟩
  · rintro ⟨j, hj⟩
    exact ⟨v * (j - A * k) - k * (t - A * v), by grind⟩
theorem seen_none {p1 b1 p2 b2 : Int} (hg : ¬ (Int.gcd p1 p2 : Int) ∣ b2 - b1) (x : Int) (h1 : p1 ∣ x - b1) (h2 : p2 ∣ x - b2) : False := by
  apply hg
  have d1 : (Int.gcd p1 p2 : Int) ∣ x - b1 := Int.dvd_trans (Int.gcd_dvd_left ..) h1
  have d2 : (Int.gcd p1 p2 : Int) ∣ x - b2 := Int.dvd_trans (Int.gcd_dvd_right ..) h2
  have : b2 - b1 = (x - b1) - (x - b2) := by omega
  rw [this]
  exact Int.dvd_sub d1 d2
theorem meet_is {p1 b1 p2 b2 q r : Int} (h1 : 0 < p1) (S : SeenIs p1 b1 p2 b2 q r) : MeetIs p1 b1 p2 b2 (p1 * q) ((b1 + p1 * r) % (p1 * q)) := by
  have q0 := S.q0
  have m0 : 0 < p1 * q := Int.mul_pos h1 q0
  refine ⟨m0, Int.emod_nonneg _ (by omega), Int.emod_lt_of_pos _ m0, by rw [S.qe], fun x => ?_⟩
  rw [dvd_emod_sub]
  constructor
  · rintro ⟨k, hk⟩
    have hx : x = b1 + (r + q * k) * p1 := by grind
    refine ⟨⟨r + q * k, by grind⟩, ?_⟩
    rw [hx]
    exact (S.iff (r + q * k)).mp ⟨k, by grind⟩
  · rintro ⟨⟨t, ht⟩, h⟩
    have hx : x = b1 + t * p1 := by grind
    rw [hx] at h
    obtain ⟨k, hk⟩ := (S.iff t).mpr h
    exact ⟨k, by grind⟩

theorem dvd_small {m x : Int} (h0 : -m < x) (h1 : x < m) (d : m ∣ x) : x = 0 := by
  obtain ⟨k, hk⟩ := d
  have m0 : 0 < m := by omega
  have : k = 0 := by
    by_cases h : k = 0
    · exact h
    · exfalso
      by_cases hp : 0 < k
      · have : m * 1 ≤ m * k := Int.mul_le_mul_of_nonneg_left (by omega) (by omega)
        omega
      · have : m * k ≤ m * (-1) := Int.mul_le_mul_of_nonneg_left (by omega) (by omega)
        omega
  rw [this] at hk
  omega
theorem MeetIs.at {p1 b1 p2 b2 m c : Int} (h : MeetIs p1 b1 p2 b2 m c) : p1 ∣ c - b1 ∧ p2 ∣ c - b2 := (h.iff c).mp ⟨0, by omega⟩
theorem MeetIs.lcm {p1 b1 p2 b2 m c : Int} (h : MeetIs p1 b1 p2 b2 m c) : m = p1 * p2 / (Int.gcd p1 p2 : Int) := by
  rw [h.me]
  exact (Int.mul_ediv_assoc p1 (Int.gcd_dvd_right ..)).symm
theorem MeetIs.swap {p1 b1 p2 b2 m c m' c' : Int} (h : MeetIs p1 b1 p2 b2 m c) (h' : MeetIs p2 b2 p1 b1 m' c') : m = m' ∧ c = c' := by
  have e : m = m' := by
    rw [h.lcm, h'.lcm, Int.gcd_comm, Int.mul_comm]
  refine ⟨e, ?_⟩
  have d := h'.at
  have d2 : m ∣ c' - c := (h.iff c').mpr ⟨d.2, d.1⟩
  have := dvd_small (by have := h.cm; have := h'.c0; have := h'.cm; omega) (by have := h.c0; have := h'.cm; omega) d2
  omega
/-- the beats from 0 below n that pass -/
def sieve (n : Nat) (f : Int → Bool) : List Int := ((List.range n).map fun (i : Nat) => (i : Int)).filter f
theorem sieve_succ (n : Nat) (f : Int → Bool) : sieve (n + 1) f = sieve n f ++ (if f n then [(n : Int)] else []) := by
  unfold sieve
  rw [List.range_succ, List.map_append, List.filter_append]
  congr 1
  simp [List.filter_cons]
theorem sieve_mem {n : Nat} {f : Int → Bool} {x : Int} : x ∈ sieve n f ↔ 0 ≤ x ∧ x < n ∧ f x = true := by
  unfold sieve
  rw [List.mem_filter, List.mem_map]
  constructor
  · rintro ⟨⟨i, hi, rfl⟩, h⟩
    have := List.mem_range.mp hi
    exact ⟨by omega, by omega, h⟩
  · rintro ⟨h0, h1, h⟩
    exact ⟨⟨x.toNat, List.mem_range.mpr (by omega), by omega⟩, h⟩
theorem sieve_len (n : Nat) (f : Int → Bool) : (sieve n f).length ≤ n := by
  unfold sieve
  exact Nat.le_trans (List.length_filter_le _ _) (by simp)
theorem sieve_none {n : Nat} {f : Int → Bool} (h : ∀ x : Int, 0 ≤ x → x < n → f x = false) : sieve n f = [] := by
  apply List.eq_nil_iff_forall_not_mem.mpr
  intro x hx
  obtain ⟨h0, h1, h2⟩ := sieve_mem.mp hx
  rw [h x h0 h1] at h2
  cases h2
theorem sieve_one {n : Nat} {f : Int → Bool} {c : Int} (c0 : 0 ≤ c) (cn : c < n) (h : ∀ x : Int, 0 ≤ x → x < n → (f x = true ↔ x = c)) : sieve n f = [c] := by
  induction n with
  | zero => omega
  | succ n ih =>
    rw [sieve_succ]
    by_cases e : c = n
    · rw [sieve_none, if_pos ((h n (by omega) (by omega)).mpr (by omega)), e]
      · rfl
      · intro x h0 h1
        have := h x h0 (by omega)
        cases hf : f x with
        | false => rfl
        | true => have := this.mp hf; omega
    · rw [ih (by omega) (fun x h0 h1 => h x h0 (by omega)), if_neg (fun hf => e ((h n (by omega) (by omega)).mp hf).symm)]
      rfl
theorem sieve_sieve (n : Nat) (f g : Int → Bool) : (sieve n f).filter g = sieve n (fun x => f x && g x) := by
  unfold sieve
  rw [List.filter_filter]
  congr 1
  funext x
  exact Bool.and_comm _ _
theorem MeetIs.self {p b m c : Int} (p0 : 0 < p) (b0 : 0 ≤ b) (bp : b < p) (h : MeetIs p b p b m c) : m = p ∧ c = b := by
  have e : m = p := by
    rw [h.lcm, Int.gcd_self]
    have : ((p.natAbs : Nat) : Int) = p := by omega
    rw [this]
    exact Int.mul_ediv_cancel_left _ (by omega)
  have d := h.at.1
  have := dvd_small (by have := h.c0; omega) (by have := h.cm; omega) d
  exact ⟨e, by omega⟩
theorem gcd_of_dvd {m p : Int} (p0 : 0 < p) (d : p ∣ m) : (Int.gcd m p : Int) = p := by
  rw [Int.gcd_eq_right_iff_dvd (by omega) |>.mpr d]
/-- the meeting of what one lamp hides and the hider -/
theorem MeetIs.within {m c p b m' c' : Int} (p0 : 0 < p) (c0 : 0 ≤ c) (cm : c < m) (d : p ∣ m) (h : MeetIs m c p b m' c') : m' = m ∧ c' = c := by
  have e : m' = m := by
    rw [h.me, gcd_of_dvd p0 d, Int.ediv_self (by omega), Int.mul_one]
  have d := h.at.1
  rw [e] at h
  have := dvd_small (by have := h.c0; omega) (by have := h.cm; omega) d
  exact ⟨e, by omega⟩
theorem dvd_sub_emod {g p x : Int} (d : g ∣ p) : g ∣ x - x % p := by
  have : x - x % p = p * (x / p) := by have := Int.emod_add_mul_ediv x p; omega
  rw [this]
  exact Int.dvd_mul_of_dvd_left d
theorem SeenIs.uniq {p1 b1 p2 b2 q r q' r' : Int} (h : SeenIs p1 b1 p2 b2 q r) (h' : SeenIs p1 b1 p2 b2 q' r') : q = q' ∧ r = r' := by
  have e : q = q' := by rw [h.qe, h'.qe]
  refine ⟨e, ?_⟩
  have d : q ∣ r' - r := (h.iff r').mpr ((h'.iff r').mp ⟨0, by omega⟩)
  have := dvd_small (by have := h.rq; have := h'.r0; omega) (by have := h.r0; have := h'.rq; omega) d
  omega
theorem SeenIs.always {p1 b1 p2 b2 q r : Int} (p10 : 0 < p1) (p20 : 0 < p2) (h : SeenIs p1 b1 p2 b2 q r) (hg : (Int.gcd p1 p2 : Int) ∣ b2 - b1) : decide (q = 1 ∧ r = 0 % 1) = (decide (p2 ∣ p1) && decide (p2 ∣ b1 - b2)) := by
  have g0 := gcd_pos (a := p1) (b := p2) p10
  have gd1 : (Int.gcd p1 p2 : Int) ∣ p1 := Int.gcd_dvd_left ..
  have gd2 : (Int.gcd p1 p2 : Int) ∣ p2 := Int.gcd_dvd_right ..
  have qe := h.qe
  have q1 : p2 = (Int.gcd p1 p2 : Int) * q := by rw [qe]; exact (Int.mul_ediv_cancel' gd2).symm
  by_cases e : q = 1
  · have r0 : r = 0 := by have := h.r0; have := h.rq; omega
    rw [e, Int.mul_one] at q1
    rw [← q1] at gd1 hg
    have d2 : p2 ∣ b1 - b2 := by
      rw [show b1 - b2 = -(b2 - b1) by omega]
      exact Int.dvd_neg.mpr hg
    simp [e, r0, gd1, d2]
  · have : ¬ p2 ∣ p1 := fun d => e (by
      have gg : (Int.gcd p1 p2 : Int) = p2 := gcd_of_dvd p20 d
      rw [qe, gg]
      exact Int.ediv_self (by omega))
    simp [e, this]
theorem seen_no_always {p1 b1 p2 b2 : Int} (p20 : 0 < p2) (hn : ¬ (Int.gcd p1 p2 : Int) ∣ b2 - b1) : (decide (p2 ∣ p1) && decide (p2 ∣ b1 - b2)) = false := by
  by_cases d : p2 ∣ p1
  · have gg : (Int.gcd p1 p2 : Int) = p2 := gcd_of_dvd p20 d
    have : ¬ p2 ∣ b1 - b2 := fun e => hn (by
      rw [gg, show b2 - b1 = -(b1 - b2) by omega]
      exact Int.dvd_neg.mpr e)
    simp [this]
  · simp [d]
theorem SeenIs.self {p b q r : Int} (p0 : 0 < p) (h : SeenIs p b p b q r) : q = 1 ∧ r = 0 := by
  have e : q = 1 := by
    rw [h.qe, Int.gcd_self]
    have : ((p.natAbs : Nat) : Int) = p := by omega
    rw [this]
    exact Int.ediv_self (by omega)
  exact ⟨e, by have := h.r0; have := h.rq; omega⟩

/-! ### the text -/
def topS (i : Nat) : Stmt := PySem.Challenge.pw_farlamps_k03_where_two_lamps_meet.main.body.getD i (.Pass ⟨0, 0, 0, 0⟩)
abbrev s_is_whole : Stmt := topS 7
theorem sc_is_whole : FnScope ["thing"] ["thing"] (defScope s_is_whole) := ⟨rfl, rfl, rfl, by decide +kernel, rfl, by decide +kernel, by decide +kernel⟩
abbrev s_check_beat : Stmt := topS 8
theorem sc_check_beat : FnScope ["thing"] ["thing"] (defScope s_check_beat) := ⟨rfl, rfl, rfl, by decide +kernel, rfl, by decide +kernel, by decide +kernel⟩
abbrev s_inverse : Stmt := topS 9
theorem sc_inverse : FnScope ["number", "modulus", "older", "newer", "older_times", "newer_times", "quotient"] ["number", "modulus"] (defScope s_inverse) := ⟨rfl, rfl, rfl, by decide +kernel, rfl, by decide +kernel, by decide +kernel⟩
abbrev s_Lamp_init : Stmt := inClass (topS 11) 0
theorem sc_Lamp_init : FnScope ["self", "period", "beat"] ["self", "period", "beat"] (defScope s_Lamp_init) := ⟨rfl, rfl, rfl, by decide +kernel, rfl, by decide +kernel, by decide +kernel⟩
abbrev s_Lamp_eq : Stmt := inClass (topS 11) 1
theorem sc_Lamp_eq : FnScope ["self", "other"] ["self", "other"] (defScope s_Lamp_eq) := ⟨rfl, rfl, rfl, by decide +kernel, rfl, by decide +kernel, by decide +kernel⟩
abbrev s_Lamp_shines : Stmt := inClass (topS 11) 2
theorem sc_Lamp_shines : FnScope ["self", "beat"] ["self", "beat"] (defScope s_Lamp_shines) := ⟨rfl, rfl, rfl, by decide +kernel, rfl, by decide +kernel, by decide +kernel⟩
abbrev s_seen_from : Stmt := topS 13
theorem sc_seen_from : FnScope ["lamp", "other", "common", "ahead", "period"] ["lamp", "other"] (defScope s_seen_from) := ⟨rfl, rfl, rfl, by decide +kernel, rfl, by decide +kernel, by decide +kernel⟩
abbrev s_meet : Stmt := topS 12
theorem sc_meet : FnScope ["one", "other", "seen"] ["one", "other"] (defScope s_meet) := ⟨rfl, rfl, rfl, by decide +kernel, rfl, by decide +kernel, by decide +kernel⟩
abbrev s_l_mixed : Stmt := topS 15
theorem sc_l_mixed : FnScope ["_law_cell", "_law_k", "_law_number"] ["_law_cell", "_law_k"] (defScope s_l_mixed) := ⟨rfl, rfl, rfl, by decide +kernel, rfl, by decide +kernel, by decide +kernel⟩
abbrev s_l_source : Stmt := topS 16
theorem sc_l_source : FnScope ["_law_cell"] ["_law_cell"] (defScope s_l_source) := ⟨rfl, rfl, rfl, by decide +kernel, rfl, by decide +kernel, by decide +kernel⟩
abbrev s_l_take : Stmt := topS 17
theorem sc_l_take : FnScope ["_law_source_here", "_law_many", "_law_found"] ["_law_source_here", "_law_many"] (defScope s_l_take) := ⟨rfl, rfl, rfl, by decide +kernel, rfl, by decide +kernel, by decide +kernel⟩
abbrev s_l_prime : Stmt := topS 18
theorem sc_l_prime : FnScope ["_law_source_here", "_law_some"] ["_law_source_here"] (defScope s_l_prime) := ⟨rfl, rfl, rfl, by decide +kernel, rfl, by decide +kernel, by decide +kernel⟩
abbrev s_l_whole : Stmt := topS 19
theorem sc_l_whole : FnScope ["_law_source_here", "_law_small", "_law_great"] ["_law_source_here"] (defScope s_l_whole) := ⟨rfl, rfl, rfl, by decide +kernel, rfl, by decide +kernel, by decide +kernel⟩
abbrev s_l_divisor : Stmt := topS 21
theorem sc_l_divisor : FnScope ["_law_first", "_law_second"] ["_law_first", "_law_second"] (defScope s_l_divisor) := ⟨rfl, rfl, rfl, by decide +kernel, rfl, by decide +kernel, by decide +kernel⟩
abbrev s_l_small_right : Stmt := topS 22
theorem sc_l_small_right : FnScope ["_law_source_here", "_law_first", "_law_second", "_law_whole_here", "_law_mine", "_law_shared", "_law_found", "_law_at"] ["_law_source_here"] (defScope s_l_small_right) := ⟨rfl, rfl, rfl, by decide +kernel, rfl, by decide +kernel, by decide +kernel⟩
abbrev s_l_great_right : Stmt := topS 23
theorem sc_l_great_right : FnScope ["_law_source_here", "_law_common", "_law_spans", "_law_part", "_law_at", "_law_off", "_law_first", "_law_second", "_law_found", "_law_least"] ["_law_source_here"] (defScope s_l_great_right) := ⟨rfl, rfl, rfl, by decide +kernel, rfl, by decide +kernel, by decide +kernel⟩
abbrev s_l_law : Stmt := topS 24
theorem sc_l_law : FnScope ["_law_script", "_law_cell", "_law_source_here"] ["_law_script"] (defScope s_l_law) := ⟨rfl, rfl, rfl, by decide +kernel, rfl, by decide +kernel, by decide +kernel⟩
/-- what the top leaves: where each def stands -/
structure Top (K : PySem.W.Frag) (mg : Str → Option Value) where
  C_Lamp : Addr
  cl_Lamp : Cls K C_Lamp
  gC_Lamp : mg "Lamp" = some (.ref C_Lamp)
  kl_Lamp : Kls K C_Lamp
  na_Lamp_period : NoAttr K C_Lamp "period"
  na_Lamp_beat : NoAttr K C_Lamp "beat"
  f_is_whole : Addr
  d_is_whole : FuncData
  F_is_whole : Fun K "is_whole" "is_whole" s_is_whole f_is_whole d_is_whole
  g_is_whole : mg "is_whole" = some (.ref f_is_whole)
  b_is_whole : Binds K d_is_whole ["thing"] []
  f_check_beat : Addr
  d_check_beat : FuncData
  F_check_beat : Fun K "check_beat" "check_beat" s_check_beat f_check_beat d_check_beat
  g_check_beat : mg "check_beat" = some (.ref f_check_beat)
  b_check_beat : Binds K d_check_beat ["thing"] []
  f_inverse : Addr
  d_inverse : FuncData
  F_inverse : Fun K "inverse" "inverse" s_inverse f_inverse d_inverse
  g_inverse : mg "inverse" = some (.ref f_inverse)
  b_inverse : Binds K d_inverse ["number", "modulus"] []
  f_Lamp_init : Addr
  d_Lamp_init : FuncData
  F_Lamp_init : Fun K "__init__" "Lamp.__init__" s_Lamp_init f_Lamp_init d_Lamp_init
  m_Lamp_init : Meth K C_Lamp "__init__" f_Lamp_init
  mk_Lamp : Mk K C_Lamp f_Lamp_init
  b_Lamp_init : Binds K d_Lamp_init ["self", "period", "beat"] []
  f_Lamp_eq : Addr
  d_Lamp_eq : FuncData
  F_Lamp_eq : Fun K "__eq__" "Lamp.__eq__" s_Lamp_eq f_Lamp_eq d_Lamp_eq
  m_Lamp_eq : Meth K C_Lamp "__eq__" f_Lamp_eq
  b_Lamp_eq : Binds K d_Lamp_eq ["self", "other"] []
  f_Lamp_shines : Addr
  d_Lamp_shines : FuncData
  F_Lamp_shines : Fun K "shines" "Lamp.shines" s_Lamp_shines f_Lamp_shines d_Lamp_shines
  m_Lamp_shines : Meth K C_Lamp "shines" f_Lamp_shines
  b_Lamp_shines : Binds K d_Lamp_shines ["self", "beat"] []
  f_seen_from : Addr
  d_seen_from : FuncData
  F_seen_from : Fun K "seen_from" "seen_from" s_seen_from f_seen_from d_seen_from
  g_seen_from : mg "seen_from" = some (.ref f_seen_from)
  b_seen_from : Binds K d_seen_from ["lamp", "other"] []
  f_meet : Addr
  d_meet : FuncData
  F_meet : Fun K "meet" "meet" s_meet f_meet d_meet
  g_meet : mg "meet" = some (.ref f_meet)
  b_meet : Binds K d_meet ["one", "other"] []
  f_l_mixed : Addr
  d_l_mixed : FuncData
  F_l_mixed : Fun K "_law_mixed" "_law_mixed" s_l_mixed f_l_mixed d_l_mixed
  g_l_mixed : mg "_law_mixed" = some (.ref f_l_mixed)
  b_l_mixed : Binds K d_l_mixed ["_law_cell", "_law_k"] []
  f_l_source : Addr
  d_l_source : FuncData
  F_l_source : Fun K "_law_source" "_law_source" s_l_source f_l_source d_l_source
  g_l_source : mg "_law_source" = some (.ref f_l_source)
  b_l_source : Binds K d_l_source ["_law_cell"] []
  f_l_take : Addr
  d_l_take : FuncData
  F_l_take : Fun K "_law_take" "_law_take" s_l_take f_l_take d_l_take
  g_l_take : mg "_law_take" = some (.ref f_l_take)
  b_l_take : Binds K d_l_take ["_law_source_here", "_law_many"] []
  f_l_prime : Addr
  d_l_prime : FuncData
  F_l_prime : Fun K "_law_prime" "_law_prime" s_l_prime f_l_prime d_l_prime
  g_l_prime : mg "_law_prime" = some (.ref f_l_prime)
  b_l_prime : Binds K d_l_prime ["_law_source_here"] []
  f_l_whole : Addr
  d_l_whole : FuncData
  F_l_whole : Fun K "_law_whole" "_law_whole" s_l_whole f_l_whole d_l_whole
  g_l_whole : mg "_law_whole" = some (.ref f_l_whole)
  b_l_whole : Binds K d_l_whole ["_law_source_here"] []
  f_l_divisor : Addr
  d_l_divisor : FuncData
  F_l_divisor : Fun K "_law_divisor" "_law_divisor" s_l_divisor f_l_divisor d_l_divisor
  g_l_divisor : mg "_law_divisor" = some (.ref f_l_divisor)
  b_l_divisor : Binds K d_l_divisor ["_law_first", "_law_second"] []
  f_l_small_right : Addr
  d_l_small_right : FuncData
  F_l_small_right : Fun K "_law_small_right" "_law_small_right" s_l_small_right f_l_small_right d_l_small_right
  g_l_small_right : mg "_law_small_right" = some (.ref f_l_small_right)
  b_l_small_right : Binds K d_l_small_right ["_law_source_here"] []
  f_l_great_right : Addr
  d_l_great_right : FuncData
  F_l_great_right : Fun K "_law_great_right" "_law_great_right" s_l_great_right f_l_great_right d_l_great_right
  g_l_great_right : mg "_law_great_right" = some (.ref f_l_great_right)
  b_l_great_right : Binds K d_l_great_right ["_law_source_here"] []
  f_l_law : Addr
  d_l_law : FuncData
  F_l_law : Fun K "law" "law" s_l_law f_l_law d_l_law
  g_l_law : mg "law" = some (.ref f_l_law)
  b_l_law : Binds K d_l_law ["_law_script"] []
  kb_meet_other_one : KBn K d_meet ["one", "other"] 0 ["other", "one"] (fun us ws => us ++ permL [1, 0] ws) (fun vs zs => vs ++ permL [1, 0] zs)
  ne_Lamp : NeK K C_Lamp
  n_isinstance : mg "isinstance" = none
  n_int : mg "int" = none
  n_bool : mg "bool" = none
  n_len : mg "len" = none
  n_range : mg "range" = none
  i_gcd : mg "gcd" = some (.builtin "math.gcd")
section
variable {P : Program} {w : World} {K : PySem.W.Frag} {mg : Str → Option Value} {base : Heap}
/-! ### whole numbers -/
def spWhole : Sp := fun vs H Q _ => ∃ z : Int, vs = [.int z] ∧ Q (.bl true) H
theorem ok_is_whole (T : Top K mg) : FnOk P w K mg base CX0 1 T.f_is_whole T.d_is_whole ["thing"] spWhole := by
  refine T.F_is_whole.ok sc_is_whole (fun vs H Q E h => ?_) (fun cdv A outer s H vs Q E hr h => ?_)
  · obtain ⟨z, rfl, _⟩ := h; rfl
  · obtain ⟨z, rfl, q⟩ := h
    refine ⟨_, (pss_one (ps_ret (pe_and (pe_callB call_isi (by rfl) T.n_isinstance (by decide +kernel) (pa_cons (pv 0) (pa_cons (pe_bltn (v := .ty "int") (by rfl) T.n_int (by decide +kernel) rfl) pa_nil))) (pe_one (pe_not (pe_callB call_isi (by rfl) T.n_isinstance (by decide +kernel) (pa_cons (pv 0) (pa_cons (pe_bltn (v := .ty "bool") (by rfl) T.n_bool (by decide +kernel) rfl) pa_nil)))))))), ?_⟩
    exact ⟨_, rfl, _, _, _, _, true, rfl, .ty _, .base (.int z), kit_ty (by decide +kernel), true, rfl, iteT ⟨_, rfl, _, _, _, _, false, rfl, .ty _, .base (.int z), kit_ty (by decide +kernel), false, rfl, q⟩⟩
def spCheckBeat : Sp := fun vs H Q _ => ∃ z : Int, vs = [.int z] ∧ Q .non H
theorem ok_check_beat (T : Top K mg) : FnOk P w K mg base CX0 2 T.f_check_beat T.d_check_beat ["thing"] spCheckBeat := by
  have G_is_whole := ok_is_whole (P := P) (w := w) (base := base) T
  refine T.F_check_beat.ok sc_check_beat (fun vs H Q E h => ?_) (fun cdv A outer s H vs Q E hr h => ?_)
  · obtain ⟨z, rfl, _⟩ := h; rfl
  · obtain ⟨z, rfl, q⟩ := h
    refine ⟨_, (pss_one (ps_if (pt_not (pt_val (pe_call G_is_whole (hr.mono (by decide)) rfl T.g_is_whole T.F_is_whole.kp T.b_is_whole .nil pass0 (pa_cons (pv 0) pa_nil)))) (pss_one (ps_never)) pss_nil)), ?_⟩
    exact ⟨_, rfl, z, rfl, true, rfl, iteF q⟩
def spInverse : Sp := fun vs H Q _ => ∃ a m : Int, vs = [.int a, .int m] ∧ 0 < m ∧ m.natAbs < 2 ^ E8 ∧ Int.gcd m a = 1 ∧ ∀ r : Int, 0 ≤ r ∧ r < m ∧ m ∣ a * r - 1 → ∀ H', Same H H' → Q (.int r) H'
theorem fmod_pos {a b : Int} (h : 0 < b) : a.fmod b = a % b := Int.fmod_eq_emod_of_nonneg a (by omega)
theorem ok_inverse (T : Top K mg) : FnOk P w K mg base CX0 1 T.f_inverse T.d_inverse ["number", "modulus"] spInverse := by
  refine T.F_inverse.ok sc_inverse (fun vs H Q E h => ?_) (fun cdv A outer s H vs Q E hr h => ?_)
  · obtain ⟨a, m, rfl, _⟩ := h; rfl
  · obtain ⟨a, m, rfl, hm, hb, hg, q⟩ := h
    refine ⟨_, (pss_cons (ps_par (i := 2) (j := 3) (by rfl) sc_inverse.nd rfl rfl (by decide) rfl rfl (pa_cons (pv 1) (pa_cons (pe_op op_modN (pv 0) (pv 1)) pa_nil)) (by rfl))
      (pss_cons (ps_asg (pe_tup (pa_cons pe_int (pa_cons pe_int pa_nil))) (pg_tup (by rfl) (pgs_cons (pg_name (i := 4) sc_inverse.nd rfl (Or.inl rfl)) (pgs_cons (pg_name (i := 5) sc_inverse.nd rfl (Or.inl rfl)) pgs_nil))))
      (pss_cons (ps_while PassesOwn.never (pt_cmpR op_gt (pv 3) pe_int (nomark _)) (pss_cons (ps_set (i := 6) sc_inverse.nd rfl (Or.inl rfl) (pe_op op_fdivW (pv 2) (pv 3)))
      (pss_cons (ps_par (i := 2) (j := 3) (by rfl) sc_inverse.nd rfl rfl (by decide) rfl rfl (pa_cons (pv 3) (pa_cons (pe_op op_sub (pv 2) (pe_op op_mulW (pv 6) (pv 3))) pa_nil)) (by rfl))
      (pss_one (ps_par (i := 4) (j := 5) (by rfl) sc_inverse.nd rfl rfl (by decide) rfl rfl (pa_cons (pv 5) (pa_cons (pe_op op_sub (pv 4) (pe_op op_mulW (pv 6) (pv 5))) pa_nil)) (by rfl))))))
      (pss_one (ps_ret (pe_op op_modN (pv 4) (pv 1))))))), ?_⟩
    refine ⟨_, rfl, _, rfl, _, rfl, _, _, rfl, rfl, (by omega), _, _, rfl, ?_⟩
    refine ⟨(by show 2 ≤ sizeLine; decide), fun p hp => ?_⟩
    have s1 : Same H (upd H p (.tup [.int 0, .int 1])) := fun b o e => by rw [upd_ne (ne_of_none e hp)]; exact e
    refine ⟨p, _, rfl, SqT.of upd_same, rfl, _, _, rfl, _, _, rfl, rfl, ?_⟩
    have lt8 : ∀ z : Int, 0 ≤ z → z ≤ m → z.natAbs < 2 ^ E8 := fun z h0 h1 => Nat.lt_of_le_of_lt (by omega) hb
    refine while_by (fun σ H' => ∃ (o n ot nt : Int) (v : Option V), σ = [some (.int a), some (.int m), some (.int o), some (.int n), some (.int ot), some (.int nt), v] ∧ InvI a m o n ot nt ∧ (o ≤ m ∧ n ≤ m) ∧ Same H H')
      (fun σ _ => match σ with | [_, _, _, some (.int n), _, _, _] => n.toNat | _ => 0) ⟨m, a % m, 0, 1, none, by rw [← fmod_pos hm]; rfl, InvI.start hm hg, ⟨Int.le_refl _, Int.le_of_lt (Int.emod_lt_of_pos _ hm)⟩, s1⟩ ?_
      (fun σ H Q Q' hq ⟨v, hv, i, j, e1, e2, k, e3, h⟩ => ⟨v, hv, i, j, e1, e2, k, e3, hq _ _ h⟩)
    rintro σ H' ⟨o, n, ot, nt, v, rfl, I, ⟨hle, no⟩, s2⟩
    refine ⟨_, rfl, _, _, rfl, rfl, _, rfl, ite2 (fun c => ?_) (fun c => ?_)⟩
    · have hn : 0 < n := of_decide_eq_true c
      have o0 := I.o0
      have q0 : 0 ≤ o / n := Int.ediv_nonneg (by omega) (by omega)
      have q1 : o / n ≤ o := Int.ediv_le_self _ (by omega)
      have J := I.step hn
      have e0 : o - o / n * n = o % n := by
        have := Int.emod_add_mul_ediv o n
        rw [Int.mul_comm] at this
        omega
      have nlt : o % n < n := Int.emod_lt_of_pos _ hn
      have bn := lt8 n (by omega) no
      have bq := lt8 (o / n) q0 (by omega)
      have bt : nt.natAbs < 2 ^ E8 := Nat.lt_of_le_of_lt (by have := I.nt_le; omega) hb
      refine ⟨_, rfl, _, rfl, o, n, rfl, rfl, wide_div hn bn (by decide) (by decide), ?_⟩
      refine ⟨_, rfl, _, rfl, _, rfl, _, rfl, _, _, rfl, rfl, wide_mul bq bn (by decide) (by decide) (by decide), _, _, rfl, rfl, _, _, rfl, ?_⟩
      refine ⟨_, rfl, _, rfl, _, rfl, _, rfl, _, _, rfl, rfl, wide_mul bq bt (by decide) (by decide) (by decide), _, _, rfl, rfl, _, _, rfl, ?_⟩
      refine ⟨⟨n, o - o / n * n, nt, ot - o / n * nt, _, rfl, J, ⟨no, by omega⟩, s2⟩, ?_⟩
      show (o - o / n * n).toNat < n.toNat
      omega
    · have hn : n = 0 := by
        have := of_decide_eq_false (Bool.eq_false_iff.mpr c)
        have := I.n0
        omega
      subst hn
      refine ⟨_, rfl, _, rfl, _, _, rfl, rfl, (by omega), ?_⟩
      show Q (V.int (ot.fmod m)) H'
      rw [fmod_pos hm]
      exact q _ (I.fin hm) _ s2
end

section
variable {P : Program} {w : World} {K : PySem.W.Frag} {mg : Str → Option Value} {base : Heap}
/-! ### a lamp: its fields -/
theorem lpb : ¬ (("period" : Str) = "beat") := by decide +kernel
def lf (p b : Int) : List (Str × V) := putF "beat" (.int b) (putF "period" (.int p) [])
theorem lf_period (p b : Int) : (lf p b).lookup ("period" : Str) = some (.int p) := by
  unfold lf
  rw [lookup_putF, if_neg lpb, lookup_putF, if_pos rfl]
theorem lf_beat (p b : Int) : (lf p b).lookup ("beat" : Str) = some (.int b) := by
  unfold lf
  rw [lookup_putF, if_pos rfl]
theorem lf_no (p b : Int) {m : Str} (h1 : ¬ m = "beat") (h2 : ¬ m = "period") : (lf p b).lookup m = none := by
  unfold lf
  rw [lookup_putF, if_neg h1, lookup_putF, if_neg h2]
  all_goals rfl
/-- a Lamp of period p and beat b stands at a -/
def LampAt (C : Addr) (H : Hp) (a : Addr) (p b : Int) : Prop := ∃ dx, H a = some (.ins C dx (lf p b))
theorem LampAt.same {C : Addr} {H H' : Hp} {a : Addr} {p b : Int} (h : LampAt C H a p b) (s : Same H H') : LampAt C H' a p b := let ⟨dx, e⟩ := h; ⟨dx, s _ _ e⟩
theorem LampAt.eq {C : Addr} {H : Hp} {a : Addr} {p b p' b' : Int} (h : LampAt C H a p b) (h' : LampAt C H a p' b') : p = p' ∧ b = b' := by
  obtain ⟨dx, e⟩ := h
  obtain ⟨dx', e'⟩ := h'
  rw [e] at e'
  have e2 : lf p b = lf p' b' := by
    injection e' with e'
    injection e'
  have h1 := lf_period p b
  have h2 := lf_beat p b
  rw [e2, lf_period] at h1
  rw [e2, lf_beat] at h2
  injection h1 with h1
  injection h1 with h1
  injection h2 with h2
  injection h2 with h2
  exact ⟨h1.symm, h2.symm⟩
theorem dec_int {a b : Int} : decide (V.int a = V.int b) = decide (a = b) := by
  by_cases h : a = b
  · rw [decide_eq_true h, decide_eq_true (by rw [h])]
  · rw [decide_eq_false h, decide_eq_false (by intro e; injection e with e; exact h e)]
/-! ### made -/
def spLampInit (C : Addr) : Sp := fun vs H Q _ => ∃ (x dx : Addr) (p b : Int), vs = [.ref x, .int p, .int b] ∧ H x = some (.ins C dx []) ∧ 0 < p ∧ ∀ H', LampAt C H' x p (b % p) → (∀ c o, H c = some o → c ≠ x → H' c = some o) → Q .non H'
theorem ok_Lamp_init (T : Top K mg) : FnOk P w K mg base CX0 2 T.f_Lamp_init T.d_Lamp_init ["self", "period", "beat"] (spLampInit T.C_Lamp) := by
  have G_is_whole := ok_is_whole (P := P) (w := w) (base := base) T
  refine T.F_Lamp_init.ok sc_Lamp_init (fun vs H Q E h => ?_) (fun cdv A outer s H vs Q E hr h => ?_)
  · obtain ⟨x, dx, p, b, rfl, _⟩ := h; rfl
  · obtain ⟨x, dx, p, b, rfl, hx, hp, q⟩ := h
    refine ⟨_, (pss_cons (ps_if (PW.pt (pw_or (pt_not (pt_val (pe_call G_is_whole (hr.mono (by decide)) rfl T.g_is_whole T.F_is_whole.kp T.b_is_whole .nil pass0 (pa_cons (pv 1) pa_nil)))) (pw_or1 (pt_cmpR op_lt (pv 1) pe_int (nomark _))))) (pss_one (ps_never)) pss_nil)
      (pss_cons (ps_if (pt_not (pt_val (pe_call G_is_whole (hr.mono (by decide)) rfl T.g_is_whole T.F_is_whole.kp T.b_is_whole .nil pass0 (pa_cons (pv 2) pa_nil)))) (pss_one (ps_never)) pss_nil)
      (pss_cons (ps_fld (pv 0) (pv 1) rfl)
      (pss_one (ps_fld (pv 0) (pe_op op_modN (pv 2) (pv 1)) rfl))))), ?_⟩
    refine ⟨_, rfl, p, rfl, true, rfl, iteF ⟨_, rfl, _, _, rfl, rfl, _, rfl, ite2 (fun c => absurd (of_decide_eq_true c) (by omega)) (fun _ => ?_)⟩⟩
    refine ⟨_, rfl, b, rfl, true, rfl, iteF ?_⟩
    refine ⟨_, rfl, _, rfl, x, T.C_Lamp, dx, [], rfl, hx, T.cl_Lamp, T.na_Lamp_period, (by show 0 < 1000; decide), ?_⟩
    refine ⟨_, rfl, _, rfl, _, _, rfl, rfl, (by omega), _, rfl, x, T.C_Lamp, dx, _, rfl, upd_same, T.cl_Lamp, T.na_Lamp_beat, (by show 1 < 1000; decide), ?_⟩
    refine q _ ⟨dx, ?_⟩ fun c o e hc => by rw [upd_ne hc, upd_ne hc]; exact e
    rw [upd_same]
    show some (HO.ins T.C_Lamp dx (putF "beat" (V.int (b.fmod p)) (putF "period" (V.int p) []))) = _
    rw [fmod_pos hp]
    rfl
/-- Lamp(p, b): the arguments' reading ends in this -/
theorem make_lamp {C : Addr} {p b : Int} {vs : List V} {H : Hp} {Q : VK} {E : XK} (hv : vs = [.int p, .int b]) (hp : 0 < p) (q : ∀ a H', H a = none → Same H H' → LampAt C H' a p (b % p) → Q (.ref a) H') :
    ∀ x dx, H x = none → H dx = none → dx ≠ x → spLampInit C (.ref x :: (vs ++ [])) (upd (upd H dx (.own x)) x (.ins C dx [])) (fun v H2 => v = .non ∧ Q (.ref x) H2) E :=
  fun x dx nx nd _ => ⟨x, dx, p, b, by rw [hv]; rfl, upd_same, hp, fun H' h k => ⟨rfl, q x H' nx (Same.made nx nd k) h⟩⟩
/-! ### == -/
def spLampEq (K : PySem.W.Frag) (C : Addr) : Sp := fun vs H Q _ => ∃ (a : Addr) (p b : Int) (y : V), vs = [.ref a, y] ∧ LampAt C H a p b ∧
  ((∃ (c : Addr) (p' b' : Int), y = .ref c ∧ LampAt C H c p' b' ∧ Q (.bl (decide (p = p' ∧ b = b'))) H) ∨ (∃ t, TyX K H y t ∧ PySem.W.kitOne K t (.ref C) = some false ∧ Q (.bl false) H))
theorem ok_Lamp_eq (T : Top K mg) : FnOk P w K mg base CX0 1 T.f_Lamp_eq T.d_Lamp_eq ["self", "other"] (spLampEq K T.C_Lamp) := by
  refine T.F_Lamp_eq.ok sc_Lamp_eq (fun vs H Q E h => ?_) (fun cdv A outer s H vs Q E hr h => ?_)
  · obtain ⟨a, p, b, y, rfl, _⟩ := h; rfl
  · obtain ⟨a, p, b, y, rfl, ⟨dx, ha⟩, h⟩ := h
    refine ⟨_, (pss_one (ps_ret (pe_and (pe_callB call_isi (by rfl) T.n_isinstance (by decide +kernel) (pa_cons (pv 1) (pa_cons (pe_glob (v := .ref T.C_Lamp) rfl T.gC_Lamp rfl) pa_nil))) (pe_and (pe_cmpR op_eq (pe_fld (pv 0) rfl) (pe_fld (pv 1) rfl) (nomark _)) (pe_one (pe_cmpR op_eq (pe_fld (pv 0) rfl) (pe_fld (pv 1) rfl) (nomark _))))))), ?_⟩
    rcases h with ⟨c, p', b', rfl, ⟨dc, hc⟩, q⟩ | ⟨t, ty, kt, q⟩
    · refine ⟨_, rfl, _, _, _, _, true, rfl, .own _, T.kl_Lamp.ty hc, (by unfold PySem.W.kitOne; rw [if_pos (by simp)]), true, rfl, iteT ?_⟩
      refine ⟨_, rfl, a, T.C_Lamp, dx, _, _, rfl, ha, T.cl_Lamp, T.na_Lamp_period, lf_period _ _, _, rfl, c, T.C_Lamp, dc, _, _, rfl, hc, T.cl_Lamp, T.na_Lamp_period, lf_period _ _, rfl, _, rfl, ?_⟩
      rw [dec_int]
      refine ite2 (fun e => ?_) (fun e => ?_)
      · refine ⟨_, rfl, a, T.C_Lamp, dx, _, _, rfl, ha, T.cl_Lamp, T.na_Lamp_beat, lf_beat _ _, _, rfl, c, T.C_Lamp, dc, _, _, rfl, hc, T.cl_Lamp, T.na_Lamp_beat, lf_beat _ _, rfl, ?_⟩
        have e1 : p = p' := of_decide_eq_true e
        show Q (V.bl (decide (V.int b = V.int b'))) H
        rw [dec_int, show decide (b = b') = decide (p = p' ∧ b = b') by simp [e1]]
        exact q
      · have e1 : ¬ p = p' := fun z => e (decide_eq_true z)
        rw [show decide (p = p' ∧ b = b') = false by simp [e1]] at q
        exact q
    · exact ⟨_, rfl, _, _, _, _, false, rfl, .own _, ty, kt, false, rfl, iteF q⟩
/-! ### shines -/
def spShines (C : Addr) : Sp := fun vs H Q _ => ∃ (a : Addr) (p b t : Int), vs = [.ref a, .int t] ∧ LampAt C H a p b ∧ 0 < p ∧ Q (.bl (decide (p ∣ t - b))) H
end

section
variable {P : Program} {w : World} {K : PySem.W.Frag} {mg : Str → Option Value} {base : Heap}
theorem ok_Lamp_shines (T : Top K mg) : FnOk P w K mg base CX0 3 T.f_Lamp_shines T.d_Lamp_shines ["self", "beat"] (spShines T.C_Lamp) := by
  have G_Lamp_eq := ok_Lamp_eq (P := P) (w := w) (base := base) T
  have G_check_beat := ok_check_beat (P := P) (w := w) (base := base) T
  refine T.F_Lamp_shines.ok sc_Lamp_shines (fun vs H Q E h => ?_) (fun cdv A outer s H vs Q E hr h => ?_)
  · obtain ⟨a, p, b, t, rfl, _⟩ := h; rfl
  · obtain ⟨a, p, b, t, rfl, ⟨dx, ha⟩, hp, q⟩ := h
    refine ⟨_, (pss_cons (ps_expr (pe_call G_check_beat (hr.mono (by decide)) rfl T.g_check_beat T.F_check_beat.kp T.b_check_beat .nil pass0 (pa_cons (pv 1) pa_nil)))
      (pss_one (ps_ret (pe_cmpR op_eq (pe_op op_modN (pe_op op_sub (pv 1) (pe_fld (pv 0) rfl)) (pe_fld (pv 0) rfl)) pe_int (nomark _))))), ?_⟩
    refine ⟨_, rfl, t, rfl, ?_⟩
    refine ⟨_, rfl, _, rfl, a, T.C_Lamp, dx, _, _, rfl, ha, T.cl_Lamp, T.na_Lamp_beat, lf_beat _ _, _, _, rfl, rfl, _, rfl, a, T.C_Lamp, dx, _, _, rfl, ha, T.cl_Lamp, T.na_Lamp_period, lf_period _ _, _, _, rfl, rfl, (by omega), rfl, ?_⟩
    show Q (V.bl (decide (V.int ((t - b).fmod p) = V.int 0))) H
    rw [dec_int, fmod_pos hp, decide_eq_decide.mpr dvd_iff_emod]
    exact q
end

section
variable {P : Program} {w : World} {K : PySem.W.Frag} {mg : Str → Option Value} {base : Heap}
/-- a period as it may be handed in -/
structure Pd (p b : Int) : Prop where
  p0 : 0 < p
  pb : p.natAbs < 2 ^ E8
  b0 : 0 ≤ b
  bp : b < p
def spSeen (C : Addr) : Sp := fun vs H Q _ => ∃ (a c : Addr) (p1 b1 p2 b2 : Int), vs = [.ref a, .ref c] ∧ LampAt C H a p1 b1 ∧ LampAt C H c p2 b2 ∧ Pd p1 b1 ∧ Pd p2 b2 ∧
  (¬ (Int.gcd p1 p2 : Int) ∣ b2 - b1 → ∀ H', Same H H' → Q .non H') ∧
  (∀ q r, SeenIs p1 b1 p2 b2 q r → (Int.gcd p1 p2 : Int) ∣ b2 - b1 → ∀ x H', H x = none → Same H H' → LampAt C H' x q r → Q (.ref x) H')
theorem ok_seen_from (T : Top K mg) : FnOk P w K mg base CX0 4 T.f_seen_from T.d_seen_from ["lamp", "other"] (spSeen T.C_Lamp) := by
  have G_Lamp_init := ok_Lamp_init (P := P) (w := w) (base := base) T
  have G_Lamp_eq := ok_Lamp_eq (P := P) (w := w) (base := base) T
  have G_inverse := ok_inverse (P := P) (w := w) (base := base) T
  refine T.F_seen_from.ok sc_seen_from (fun vs H Q E h => ?_) (fun cdv A outer s H vs Q E hr h => ?_)
  · obtain ⟨a, c, p1, b1, p2, b2, rfl, _⟩ := h; rfl
  · obtain ⟨a, c, p1, b1, p2, b2, rfl, ⟨da, ha⟩, ⟨dc, hc⟩, D1, D2, q1, q2⟩ := h
    have p10 := D1.p0
    have p20 := D2.p0
    have g0 := gcd_pos (a := p1) (b := p2) p10
    refine ⟨_, (pss_cons (ps_set (i := 2) sc_seen_from.nd rfl (Or.inl rfl) (pe_callBfun cr_gcd rfl T.i_gcd (pa_cons (pe_fld (pv 0) rfl) (pa_cons (pe_fld (pv 1) rfl) pa_nil))))
      (pss_cons (ps_set (i := 3) sc_seen_from.nd rfl (Or.inl rfl) (pe_op op_sub (pe_fld (pv 1) rfl) (pe_fld (pv 0) rfl)))
      (pss_cons (ps_if (pt_cmpR op_ne (pe_op op_modN (pv 3) (pv 2)) pe_int (nomark _)) (pss_one (ps_ret pe_non)) pss_nil)
      (pss_cons (ps_set (i := 4) sc_seen_from.nd rfl (Or.inl rfl) (pe_op op_fdivW (pe_fld (pv 1) rfl) (pv 2)))
      (pss_one (ps_ret (pe_make T.mk_Lamp G_Lamp_init (hr.mono (by decide)) (by rfl) T.gC_Lamp T.b_Lamp_init .nil pass0 (pa_cons (pv 4) (pa_cons (pe_op op_mulW (pe_op op_fdivW (pv 3) (pv 2)) (pe_call G_inverse (hr.mono (by decide)) rfl T.g_inverse T.F_inverse.kp T.b_inverse .nil pass0 (pa_cons (pe_op op_fdivW (pe_fld (pv 0) rfl) (pv 2)) (pa_cons (pv 4) pa_nil)))) pa_nil))))))))), ?_⟩
    -- common = gcd(lamp.period, other.period)
    refine ⟨_, rfl, a, T.C_Lamp, da, _, _, rfl, ha, T.cl_Lamp, T.na_Lamp_period, lf_period _ _, _, rfl, c, T.C_Lamp, dc, _, _, rfl, hc, T.cl_Lamp, T.na_Lamp_period, lf_period _ _, _, _, rfl, ?_⟩
    -- ahead = other.beat - lamp.beat
    refine ⟨_, rfl, c, T.C_Lamp, dc, _, _, rfl, hc, T.cl_Lamp, T.na_Lamp_beat, lf_beat _ _, _, rfl, a, T.C_Lamp, da, _, _, rfl, ha, T.cl_Lamp, T.na_Lamp_beat, lf_beat _ _, _, _, rfl, rfl, ?_⟩
    refine ⟨_, rfl, _, rfl, _, _, rfl, rfl, (by show ((Int.gcd p1 p2 : Nat) : Int) ≠ 0; omega), rfl, _, rfl, ?_⟩
    show (if (!decide (V.int ((b2 - b1).fmod (Int.gcd p1 p2 : Int)) = V.int 0)) = true then _ else _)
    rw [dec_int, fmod_pos g0]
    by_cases hz : (b2 - b1) % (Int.gcd p1 p2 : Int) = 0
    · rw [decide_eq_true hz]
      refine iteF ?_
      have hg := dvd_iff_emod.mp hz
      have gp1 : (Int.gcd p1 p2 : Int) ∣ p1 := Int.gcd_dvd_left ..
      have gp2 : (Int.gcd p1 p2 : Int) ∣ p2 := Int.gcd_dvd_right ..
      have gle : (Int.gcd p1 p2 : Int) ≤ p1 := Int.le_of_dvd p10 gp1
      have q0 : 0 < p2 / (Int.gcd p1 p2 : Int) := Int.ediv_pos_of_pos_of_dvd p20 (by omega) gp2
      have cd : CDivW p2 (Int.gcd p1 p2 : Int) := wide_div g0 (wide_le (by omega) gle D1.pb) (by decide) (by decide)
      have qb : (p2 / (Int.gcd p1 p2 : Int)).natAbs < 2 ^ E8 := wide_le (by omega) (Int.ediv_le_self _ (by omega)) D2.pb
      -- period = other.period // common
      refine ⟨_, rfl, c, T.C_Lamp, dc, _, _, rfl, hc, T.cl_Lamp, T.na_Lamp_period, lf_period _ _, _, rfl, _, _, rfl, rfl, cd, ?_⟩
      -- Lamp(period, ahead // common * inverse(lamp.period // common, period))
      refine ⟨_, rfl, _, rfl, _, rfl, _, _, rfl, rfl, cd, _, rfl, a, T.C_Lamp, da, _, _, rfl, ha, T.cl_Lamp, T.na_Lamp_period, lf_period _ _, _, rfl, _, _, rfl, rfl, cd, _, rfl, _, _, rfl, q0, qb, gcd_cop p10, fun v hv H1 s1 => ?_⟩
      have vb : v.natAbs < 2 ^ E8 := wide_le hv.1 (Int.le_of_lt hv.2.1) qb
      have ab : ((b2 - b1) / (Int.gcd p1 p2 : Int)).natAbs < 2 ^ E8 := by
        have e1 : (b2 - b1) / (Int.gcd p1 p2 : Int) * (Int.gcd p1 p2 : Int) = b2 - b1 := Int.ediv_mul_cancel hg
        have e2 : ((b2 - b1) / (Int.gcd p1 p2 : Int)).natAbs * 1 ≤ ((b2 - b1) / (Int.gcd p1 p2 : Int)).natAbs * (Int.gcd p1 p2 : Int).natAbs := Nat.mul_le_mul_left _ (by omega)
        rw [← Int.natAbs_mul, e1] at e2
        have h1 := D1.pb
        have h2 := D2.pb
        have h3 := D1.b0
        have h4 := D1.bp
        have h5 := D2.b0
        have h6 := D2.bp
        generalize (2 : Nat) ^ 8000 = B at *
        omega
      refine ⟨_, _, rfl, rfl, wide_mul ab vb (by decide) (by decide) (by decide), ?_⟩
      refine make_lamp rfl q0 fun x H2 nx s2 hx => ?_
      exact q2 _ _ (seen_is p10 p20 hg hv.2.2) hg x H2 (s1.free nx) (s1.trans s2) hx
    · rw [decide_eq_false hz]
      refine iteT ?_
      exact q1 (fun z => hz (dvd_iff_emod.mpr z)) H (Same.refl H)
end

section
variable {P : Program} {w : World} {K : PySem.W.Frag} {mg : Str → Option Value} {base : Heap}
def spMeet (C : Addr) : Sp := fun vs H Q _ => ∃ (a c : Addr) (p1 b1 p2 b2 : Int), vs = [.ref a, .ref c] ∧ LampAt C H a p1 b1 ∧ LampAt C H c p2 b2 ∧ Pd p1 b1 ∧ Pd p2 b2 ∧
  (¬ (Int.gcd p1 p2 : Int) ∣ b2 - b1 → ∀ H', Same H H' → Q .non H') ∧
  (∀ m z, MeetIs p1 b1 p2 b2 m z → (Int.gcd p1 p2 : Int) ∣ b2 - b1 → ∀ x H', H x = none → Same H H' → LampAt C H' x m z → Q (.ref x) H')
theorem ok_meet (T : Top K mg) : FnOk P w K mg base CX0 5 T.f_meet T.d_meet ["one", "other"] (spMeet T.C_Lamp) := by
  have G_Lamp_init := ok_Lamp_init (P := P) (w := w) (base := base) T
  have G_seen_from := ok_seen_from (P := P) (w := w) (base := base) T
  refine T.F_meet.ok sc_meet (fun vs H Q E h => ?_) (fun cdv A outer s H vs Q E hr h => ?_)
  · obtain ⟨a, c, p1, b1, p2, b2, rfl, _⟩ := h; rfl
  · obtain ⟨a, c, p1, b1, p2, b2, rfl, ⟨da, ha⟩, ⟨dc, hc⟩, D1, D2, q1, q2⟩ := h
    refine ⟨_, (pss_cons (ps_set (i := 2) sc_meet.nd rfl (Or.inl rfl) (pe_call G_seen_from (hr.mono (by decide)) rfl T.g_seen_from T.F_seen_from.kp T.b_seen_from .nil pass0 (pa_cons (pv 0) (pa_cons (pv 1) pa_nil))))
      (pss_cons (ps_if (pt_cmpR op_isN (pv 2) pe_non (nomark _)) (pss_one (ps_ret pe_non)) pss_nil)
      (pss_one (ps_ret (pe_make T.mk_Lamp G_Lamp_init (hr.mono (by decide)) (by rfl) T.gC_Lamp T.b_Lamp_init .nil pass0 (pa_cons (pe_op op_mulW (pe_fld (pv 0) rfl) (pe_fld (pv 2) rfl)) (pa_cons (pe_op op_add (pe_fld (pv 0) rfl) (pe_op op_mulW (pe_fld (pv 0) rfl) (pe_fld (pv 2) rfl))) pa_nil))))))), ?_⟩
    refine ⟨_, rfl, _, rfl, a, c, p1, b1, p2, b2, rfl, ⟨da, ha⟩, ⟨dc, hc⟩, D1, D2, fun hn H1 s1 => ?_, fun q r S hg x H1 nx s1 ⟨dx, hx⟩ => ?_⟩
    · refine ⟨_, rfl, rfl, _, rfl, iteT ?_⟩
      exact q1 hn H1 s1
    · refine ⟨_, rfl, rfl, _, rfl, iteF ?_⟩
      have ha1 := s1 _ _ ha
      have q0 := S.q0
      have qb : q.natAbs < 2 ^ E8 := by
        rw [S.qe]
        exact wide_le (by rw [← S.qe]; omega) (Int.ediv_le_self _ (by have := D2.p0; omega)) D2.pb
      have rb : r.natAbs < 2 ^ E8 := wide_le S.r0 (by have := S.rq; omega) qb
      refine ⟨_, rfl, a, T.C_Lamp, da, _, _, rfl, ha1, T.cl_Lamp, T.na_Lamp_period, lf_period _ _, _, rfl, x, T.C_Lamp, dx, _, _, rfl, hx, T.cl_Lamp, T.na_Lamp_period, lf_period _ _, _, _, rfl, rfl, wide_mul D1.pb qb (by decide) (by decide) (by decide), ?_⟩
      refine ⟨_, rfl, a, T.C_Lamp, da, _, _, rfl, ha1, T.cl_Lamp, T.na_Lamp_beat, lf_beat _ _, _, rfl, a, T.C_Lamp, da, _, _, rfl, ha1, T.cl_Lamp, T.na_Lamp_period, lf_period _ _, _, rfl, x, T.C_Lamp, dx, _, _, rfl, hx, T.cl_Lamp, T.na_Lamp_beat, lf_beat _ _, _, _, rfl, rfl, wide_mul D1.pb rb (by decide) (by decide) (by decide), _, _, rfl, rfl, ?_⟩
      refine make_lamp rfl (Int.mul_pos D1.p0 q0) fun y H2 ny s2 hy => ?_
      exact q2 _ _ (meet_is D1.p0 S) hg y H2 (s1.free ny) (s1.trans s2) hy
end

section
variable {P : Program} {w : World} {K : PySem.W.Frag} {mg : Str → Option Value} {base : Heap}
/-! ### draws -/
/-- small factors -/
theorem mw {i j : Int} (h1 : -(2 ^ 200) < i) (h2 : i < 2 ^ 200) (h3 : -(2 ^ 200) < j) (h4 : j < 2 ^ 200) : CMulW i j :=
  wide_mul (a := 200) (b := 200) (by omega) (by omega) (by decide) (by decide) (by decide)
theorem nz {j : Int} (h : j ≠ 0) : j ≠ 0 := h
theorem fm0 {a b : Int} (h : 0 < b) : 0 ≤ a.fmod b := by rw [fmod_pos h]; exact Int.emod_nonneg _ (by omega)
theorem fm1 {a b : Int} (h : 0 < b) : a.fmod b < b := by rw [fmod_pos h]; exact Int.emod_lt_of_pos _ h
theorem dvw {i j : Int} (h : 0 < j) (h2 : j < 2 ^ 200) : CDivW i j := wide_div (b := 200) h (by omega) (by decide) (by decide)
theorem same_new {H : Hp} {p : Addr} {o : HO} (h : H p = Option.none) : Same H (upd H p o) := fun b x e => by
  rw [upd_ne (ne_of_none e h)]
  exact e
/-- the heap may have more, and the object at s may be another -/
def Dr (s : Addr) (H H' : Hp) : Prop := ∀ b o, H b = some o → b ≠ s → H' b = some o
theorem Dr.of {s : Addr} {H H' : Hp} (h : Same H H') : Dr s H H' := fun b o e _ => h b o e
theorem Dr.refl (s : Addr) (H : Hp) : Dr s H H := fun _ _ e _ => e
theorem Dr.trans {s : Addr} {H H1 H2 : Hp} (a : Dr s H H1) (b : Dr s H1 H2) : Dr s H H2 := fun c o e hc => b c o (a c o e hc) hc
theorem Dr.then {s : Addr} {H H1 H2 : Hp} (a : Dr s H H1) (b : Same H1 H2) : Dr s H H2 := fun c o e hc => b c o (a c o e hc)
/-- a source of draws stands at s; n draws at most have been taken -/
def Src (H : Hp) (s : Addr) (n : Nat) : Prop := ∃ a b c : Int, H s = some (.lst [.int a, .int b, .int c]) ∧ 0 ≤ c ∧ c ≤ n
theorem Src.same {H H' : Hp} {s : Addr} {n : Nat} (h : Src H s n) (e : Same H H') : Src H' s n := let ⟨a, b, c, h1, h2⟩ := h; ⟨a, b, c, e _ _ h1, h2⟩
theorem Src.mono {H : Hp} {s : Addr} {n m : Nat} (h : Src H s n) (e : n ≤ m) : Src H s m := let ⟨a, b, c, h1, h2, h3⟩ := h; ⟨a, b, c, h1, h2, by omega⟩
theorem Src.free {H H' : Hp} {s l : Addr} {n : Nat} (h : Src H' s n) (d : Dr s H H') (hl : H' l = Option.none) : H l = Option.none := by
  obtain ⟨a, b, c, h1, _⟩ := h
  cases e : H l with
  | none => rfl
  | some o =>
    have hne : l ≠ s := fun z => by rw [z, h1] at hl; cases hl
    rw [d l o e hne] at hl
    cases hl
theorem LampAt.dr {C : Addr} {H H' : Hp} {a s : Addr} {p b : Int} {n : Nat} (h : LampAt C H a p b) (hs : Src H s n) (d : Dr s H H') : LampAt C H' a p b := by
  obtain ⟨dx, e⟩ := h
  obtain ⟨_, _, _, h1, _⟩ := hs
  exact ⟨dx, d a _ e (ne_of e h1 (by intro z; cases z))⟩
def spMixed : Sp := fun vs H Q _ => ∃ b k : Int, vs = [.int b, .int k] ∧ 0 ≤ k ∧ k < 2 ^ 41 ∧ ∀ v : Int, 0 ≤ v → v < 2147483563 → Q (.int v) H
theorem ok_l_mixed (T : Top K mg) : FnOk P w K mg base CX0 1 T.f_l_mixed T.d_l_mixed ["_law_cell", "_law_k"] spMixed := by
  refine T.F_l_mixed.ok sc_l_mixed (fun vs H Q E h => ?_) (fun cdv A outer s H vs Q E hr h => ?_)
  · obtain ⟨b, k, rfl, _⟩ := h; rfl
  · obtain ⟨b, k, rfl, k0, k1, q⟩ := h
    refine ⟨_, (pss_cons (ps_set (i := 2) sc_l_mixed.nd rfl (Or.inl rfl) (pe_op op_modN (pe_op op_mulW (pe_op op_add (pe_op op_modN (pv 0) pe_int) pe_int) (pe_op op_add (pe_op op_mulW (pv 1) pe_int) pe_int)) pe_int))
      (pss_cons (ps_set (i := 2) sc_l_mixed.nd rfl (Or.inl rfl) (pe_op op_modN (pe_op op_mulW (pe_op op_add (pv 2) (pe_op op_mulW (pe_op op_modN (pe_op op_fdivW (pv 0) pe_int) pe_int) (pe_op op_add (pv 1) pe_int))) pe_int) pe_int))
      (pss_cons (ps_set (i := 2) sc_l_mixed.nd rfl (Or.inl rfl) (pe_op op_modN (pe_op op_mulW (pv 2) (pe_op op_add (pe_op op_add (pe_op op_fdivW (pv 2) pe_int) pe_int) (pv 1))) pe_int))
      (pss_one (ps_ret (pe_op op_modN (pe_op op_mulW (pv 2) (pe_op op_add (pe_op op_fdivW (pv 2) pe_int) pe_int)) pe_int)))))), ?_⟩
    have a1 := fm0 (a := b) (b := 2147483646) (by decide)
    have a2 := fm1 (a := b) (b := 2147483646) (by decide)
    refine ⟨_, rfl, _, _, rfl, rfl, nz (by decide), _, _, rfl, rfl, _, rfl, _, _, rfl, rfl, mw (by omega) (by omega) (by decide) (by decide), _, _, rfl, rfl, _, _, rfl, rfl, mw (by omega) (by omega) (by omega) (by omega), _, _, rfl, rfl, nz (by decide), ?_⟩
    have b1 := fm0 (a := (b.fmod 2147483646 + 1) * (k * 7919 + 104729)) (b := 2147483647) (by decide)
    have b2 := fm1 (a := (b.fmod 2147483646 + 1) * (k * 7919 + 104729)) (b := 2147483647) (by decide)
    dsimp only
    generalize ((b.fmod 2147483646 + 1) * (k * 7919 + 104729)).fmod 2147483647 = n1 at *
    have c1 := fm0 (a := b / 2147483646) (b := 1000003) (by decide)
    have c2 := fm1 (a := b / 2147483646) (b := 1000003) (by decide)
    have d0 : 0 ≤ (b / 2147483646).fmod 1000003 * (k + 31) := Int.mul_nonneg c1 (by omega)
    have d1 : (b / 2147483646).fmod 1000003 * (k + 31) ≤ 1000003 * (2 ^ 42) := Int.mul_le_mul (by omega) (by omega) (by omega) (by decide)
    refine ⟨_, rfl, _, rfl, _, _, rfl, rfl, dvw (by decide) (by decide), _, _, rfl, rfl, nz (by decide), _, rfl, _, _, rfl, rfl, _, _, rfl, rfl, mw (by omega) (by omega) (by omega) (by omega), _, _, rfl, rfl, _, _, rfl, rfl, mw (by omega) (by omega) (by decide) (by decide), _, _, rfl, rfl, nz (by decide), ?_⟩
    have e1 := fm0 (a := (n1 + (b / 2147483646).fmod 1000003 * (k + 31)) * 48271) (b := 2147483629) (by decide)
    have e2 := fm1 (a := (n1 + (b / 2147483646).fmod 1000003 * (k + 31)) * 48271) (b := 2147483629) (by decide)
    dsimp only
    generalize ((n1 + (b / 2147483646).fmod 1000003 * (k + 31)) * 48271).fmod 2147483629 = n2 at *
    refine ⟨_, rfl, _, rfl, _, _, rfl, rfl, dvw (by decide) (by decide), _, _, rfl, rfl, _, rfl, _, _, rfl, rfl, _, _, rfl, rfl, mw (by omega) (by omega) (by omega) (by omega), _, _, rfl, rfl, nz (by decide), ?_⟩
    have g1 := fm0 (a := n2 * (n2 / 1013 + 69621 + k)) (b := 2147483587) (by decide)
    have g2 := fm1 (a := n2 * (n2 / 1013 + 69621 + k)) (b := 2147483587) (by decide)
    dsimp only
    generalize (n2 * (n2 / 1013 + 69621 + k)).fmod 2147483587 = n3 at *
    refine ⟨_, rfl, _, rfl, _, _, rfl, rfl, dvw (by decide) (by decide), _, _, rfl, rfl, _, _, rfl, rfl, mw (by omega) (by omega) (by omega) (by omega), _, _, rfl, rfl, nz (by decide), ?_⟩
    exact q _ (fm0 (by decide)) (fm1 (by decide))
def spSource : Sp := fun vs H Q _ => ∃ z : Int, vs = [.int z] ∧ ∀ l H', H l = none → Same H H' → Src H' l 0 → Q (.ref l) H'
theorem ok_l_source (T : Top K mg) : FnOk P w K mg base CX0 1 T.f_l_source T.d_l_source ["_law_cell"] spSource := by
  refine T.F_l_source.ok sc_l_source (fun vs H Q E h => ?_) (fun cdv A outer s H vs Q E hr h => ?_)
  · obtain ⟨z, rfl, _⟩ := h; rfl
  · obtain ⟨z, rfl, q⟩ := h
    refine ⟨_, (pss_one (ps_ret (pe_lst (pa_cons (pv 0) (pa_cons (pv 0) (pa_cons pe_int pa_nil)))))), ?_⟩
    refine ⟨_, rfl, _, rfl, (by show 3 ≤ sizeLine; decide), fun l hl => ?_⟩
    exact q l _ hl (fun b o e => by rw [upd_ne (ne_of_none e hl)]; exact e) ⟨z, z, 0, upd_same, by decide, by decide⟩
def spTake : Sp := fun vs H Q _ => ∃ (s : Addr) (n : Nat) (m : Int), vs = [.ref s, .int m] ∧ Src H s n ∧ n < 1000000 ∧ 0 < m ∧ m < 2 ^ 200 ∧ ∀ v H', 0 ≤ v → v < m → Src H' s (n + 1) → Dr s H H' → Q (.int v) H'
theorem ok_l_take (T : Top K mg) : FnOk P w K mg base CX0 2 T.f_l_take T.d_l_take ["_law_source_here", "_law_many"] spTake := by
  have G_l_mixed := ok_l_mixed (P := P) (w := w) (base := base) T
  refine T.F_l_take.ok sc_l_take (fun vs H Q E h => ?_) (fun cdv A outer s H vs Q E hr h => ?_)
  · obtain ⟨s, n, m, rfl, _⟩ := h; rfl
  · obtain ⟨s, n, m, rfl, ⟨a, b, c, hs, c0, cn⟩, hn, m0, m1, q⟩ := h
    refine ⟨_, (pss_cons (ps_if (pt_cmpR op_ge (pe_ix ix_list (pv 0) pe_int (fun _ _ => rfl)) (pe_op op_pow pe_int pe_int) (nomark _)) (pss_cons (ps_set (i := 2) sc_l_take.nd rfl (Or.inl rfl) (pe_op op_modN (pe_ix ix_list (pv 0) pe_int (fun _ _ => rfl)) (pv 1)))
      (pss_cons (ps_asg (pe_op op_fdivW (pe_ix ix_list (pv 0) pe_int (fun _ _ => rfl)) (pv 1)) (pg_sub (pv 0) pe_int set_list))
      (pss_one (ps_ret (pv 2))))) pss_nil)
      (pss_cons (ps_asg (pe_op op_add (pe_ix ix_list (pv 0) pe_int (fun _ _ => rfl)) pe_int) (pg_sub (pv 0) pe_int set_list))
      (pss_one (ps_ret (pe_op op_modN (pe_call G_l_mixed (hr.mono (by decide)) rfl T.g_l_mixed T.F_l_mixed.kp T.b_l_mixed .nil pass0 (pa_cons (pe_ix ix_list (pv 0) pe_int (fun _ _ => rfl)) (pa_cons (pe_ix ix_list (pv 0) pe_int (fun _ _ => rfl)) pa_nil))) (pv 1)))))), ?_⟩
    refine ⟨_, rfl, s, _, _, _, rfl, rfl, SqL.of hs, at_of (j := 0) rfl rfl, _, _, rfl, rfl, (by refine ⟨by decide, by decide, by decide⟩), _, _, rfl, rfl, _, rfl, ite2 (fun _ => ?_) (fun _ => ?_)⟩
    · refine ⟨_, rfl, s, _, _, _, rfl, rfl, SqL.of hs, at_of (j := 0) rfl rfl, _, rfl, _, _, rfl, rfl, (by omega), ?_⟩
      refine ⟨_, rfl, s, _, _, _, rfl, rfl, SqL.of hs, at_of (j := 0) rfl rfl, _, rfl, _, _, rfl, rfl, dvw m0 m1, _, rfl, s, _, _, _, rfl, rfl, hs, rfl, ?_⟩
      refine ⟨_, rfl, ?_⟩
      exact q _ _ (fm0 m0) (fm1 m0) ⟨a / m, b, c, upd_same, c0, by omega⟩ fun d o e hd => by rw [upd_ne hd]; exact e
    · refine ⟨_, rfl, s, _, _, _, rfl, rfl, SqL.of hs, at_of (j := 2) rfl rfl, _, _, rfl, rfl, _, rfl, s, _, _, _, rfl, rfl, hs, rfl, ?_⟩
      refine ⟨_, rfl, s, _, _, _, rfl, rfl, SqL.of upd_same, at_of (j := 1) rfl rfl, _, rfl, s, _, _, _, rfl, rfl, SqL.of upd_same, at_of (j := 2) rfl rfl, b, c + 1, rfl, by omega, by omega, fun v v0 v1 => ?_⟩
      refine ⟨_, rfl, _, _, rfl, rfl, (by omega), ?_⟩
      exact q _ _ (fm0 m0) (fm1 m0) ⟨a, b, c + 1, upd_same, by omega, by omega⟩ fun d o e hd => by rw [upd_ne hd]; exact e
/-- an item of a written list at a drawn place -/
theorem pick {items : List V} {R : V → Prop} (hR : ∀ x ∈ items, R x) {v : Int} (h0 : 0 ≤ v) (h1 : v < items.length) : ∃ x, atI items v = some x ∧ R x := by
  have hj : v.toNat < items.length := by omega
  exact ⟨items[v.toNat], at_of (j := v.toNat) (by omega) (List.getElem?_eq_getElem hj), hR _ (List.getElem_mem hj)⟩
/-- an int between -/
def Btw (lo hi : Int) (x : V) : Prop := ∃ z : Int, x = .int z ∧ lo ≤ z ∧ z ≤ hi
end

section
variable {P : Program} {w : World} {K : PySem.W.Frag} {mg : Str → Option Value} {base : Heap}
def spPrime : Sp := fun vs H Q _ => ∃ (s : Addr) (n : Nat), vs = [.ref s] ∧ Src H s n ∧ n < 1000000 ∧ ∀ z H', 998244353 ≤ z → z ≤ 1000000000000000009 → Src H' s (n + 1) → Dr s H H' → Q (.int z) H'
theorem ok_l_prime (T : Top K mg) : FnOk P w K mg base CX0 3 T.f_l_prime T.d_l_prime ["_law_source_here"] spPrime := by
  have G_l_take := ok_l_take (P := P) (w := w) (base := base) T
  refine T.F_l_prime.ok sc_l_prime (fun vs H Q E h => ?_) (fun cdv A outer s H vs Q E hr h => ?_)
  · obtain ⟨s, n, rfl, _⟩ := h; rfl
  · obtain ⟨s, n, rfl, hs, hn, q⟩ := h
    refine ⟨_, (pss_cons (ps_set (i := 1) sc_l_prime.nd rfl (Or.inl rfl) (pe_lst (pa_cons pe_int (pa_cons pe_int (pa_cons pe_int (pa_cons pe_int (pa_cons pe_int (pa_cons pe_int pa_nil))))))))
      (pss_one (ps_ret (pe_ix ix_list (pv 1) (pe_call G_l_take (hr.mono (by decide)) rfl T.g_l_take T.F_l_take.kp T.b_l_take .nil pass0 (pa_cons (pv 0) (pa_cons pe_int pa_nil))) (fun _ _ => rfl))))), ?_⟩
    refine ⟨(by show 6 ≤ sizeLine; decide), fun l hl => ?_⟩
    have s1 : Same H (upd H l (.lst [.int 1000000007, .int 998244353, .int 2147483647, .int 1000000000039, .int 1000000000000000003, .int 1000000000000000009])) := same_new hl
    refine ⟨_, rfl, _, rfl, s, n, 6, rfl, hs.same s1, hn, by decide, by decide, fun v H' v0 v1 hs' d => ?_⟩
    obtain ⟨x, hx, z, rfl, z0, z1⟩ := pick (items := [.int 1000000007, .int 998244353, .int 2147483647, .int 1000000000039, .int 1000000000000000003, .int 1000000000000000009]) (R := Btw 998244353 1000000000000000009)
      (by simp only [List.forall_mem_cons]; refine ⟨⟨_, rfl, by decide, by decide⟩, ⟨_, rfl, by decide, by decide⟩, ⟨_, rfl, by decide, by decide⟩, ⟨_, rfl, by decide, by decide⟩, ⟨_, rfl, by decide, by decide⟩, ⟨_, rfl, by decide, by decide⟩, fun _ h => nomatch h⟩) v0 v1
    have nls : l ≠ s := fun e => by obtain ⟨_, _, _, h1, _⟩ := hs; rw [e, h1] at hl; cases hl
    refine ⟨l, _, _, _, rfl, rfl, SqL.of (d l _ upd_same nls), hx, ?_⟩
    exact q z H' z0 z1 hs' (Dr.trans (Dr.of s1) d)
end

section
variable {P : Program} {w : World} {K : PySem.W.Frag} {mg : Str → Option Value} {base : Heap}
def spWholeD : Sp := fun vs H Q _ => ∃ (s : Addr) (n : Nat), vs = [.ref s] ∧ Src H s n ∧ n < 900000 ∧ ∀ z H', -(10 ^ 40) ≤ z → z ≤ 10 ^ 40 → Src H' s (n + 4) → Dr s H H' → Q (.int z) H'
theorem ok_l_whole (T : Top K mg) : FnOk P w K mg base CX0 3 T.f_l_whole T.d_l_whole ["_law_source_here"] spWholeD := by
  have G_l_take := ok_l_take (P := P) (w := w) (base := base) T
  refine T.F_l_whole.ok sc_l_whole (fun vs H Q E h => ?_) (fun cdv A outer s H vs Q E hr h => ?_)
  · obtain ⟨s, n, rfl, _⟩ := h; rfl
  · obtain ⟨s, n, rfl, hs, hn, q⟩ := h
    refine ⟨_, (pss_cons (ps_set (i := 1) sc_l_whole.nd rfl (Or.inl rfl) (pe_op op_sub (pe_call G_l_take (hr.mono (by decide)) rfl T.g_l_take T.F_l_take.kp T.b_l_take .nil pass0 (pa_cons (pv 0) (pa_cons pe_int pa_nil))) pe_int))
      (pss_cons (ps_set (i := 2) sc_l_whole.nd rfl (Or.inl rfl) (pe_op op_add (pe_op op_mulW (pe_call G_l_take (hr.mono (by decide)) rfl T.g_l_take T.F_l_take.kp T.b_l_take .nil pass0 (pa_cons (pv 0) (pa_cons (pe_op op_pow pe_int pe_int) pa_nil))) (pe_op op_pow pe_int pe_int)) (pe_call G_l_take (hr.mono (by decide)) rfl T.g_l_take T.F_l_take.kp T.b_l_take .nil pass0 (pa_cons (pv 0) (pa_cons (pe_op op_pow pe_int pe_int) pa_nil)))))
      (pss_one (ps_ret (pe_ix ix_list (pe_lst (pa_cons (pv 1) (pa_cons (pv 1) (pa_cons (pv 2) (pa_cons (pe_op op_sub pe_int (pv 2)) (pa_cons pe_int (pa_cons (pe_op op_add (pe_op op_pow pe_int pe_int) (pv 1)) pa_nil))))))) (pe_call G_l_take (hr.mono (by decide)) rfl T.g_l_take T.F_l_take.kp T.b_l_take .nil pass0 (pa_cons (pv 0) (pa_cons pe_int pa_nil))) (fun _ _ => rfl)))))), ?_⟩
    refine ⟨_, rfl, s, n, 60, rfl, hs, by omega, by decide, by decide, fun v1 H1 a0 a1 hs1 d1 => ?_⟩
    refine ⟨_, _, rfl, rfl, ?_⟩
    refine ⟨_, rfl, _, _, rfl, rfl, ⟨by decide, by decide, by decide⟩, s, n + 1, _, rfl, hs1, by omega, by decide, by decide, fun v2 H2 b0 b1 hs2 d2 => ?_⟩
    have b1 : v2 < 10 ^ 18 := b1
    refine ⟨_, _, rfl, rfl, ⟨by decide, by decide, by decide⟩, _, _, rfl, rfl, mw (by omega) (by omega) (by decide) (by decide), ?_⟩
    refine ⟨_, rfl, _, _, rfl, rfl, ⟨by decide, by decide, by decide⟩, s, n + 2, _, rfl, hs2, by omega, by decide, by decide, fun v3 H3 c0 c1 hs3 d3 => ?_⟩
    have c1 : v3 < 10 ^ 12 := c1
    refine ⟨_, _, rfl, rfl, ?_⟩
    dsimp only
    have g0 : 0 ≤ v2 * 10 ^ 12 := Int.mul_nonneg b0 (by decide)
    have g1 : v2 * 10 ^ 12 ≤ 10 ^ 18 * 10 ^ 12 := Int.mul_le_mul_of_nonneg_right (by omega) (by decide)
    have eg : ∃ g : Int, g = v2 * (10 : Int) ^ (12 : Int).toNat + v3 ∧ 0 ≤ g ∧ g ≤ 10 ^ 31 := ⟨_, rfl, by show 0 ≤ v2 * 10 ^ 12 + v3; omega, by show v2 * 10 ^ 12 + v3 ≤ 10 ^ 31; omega⟩
    obtain ⟨g, hg, g2, g3⟩ := eg
    rw [← hg]
    refine ⟨_, rfl, _, rfl, _, rfl, _, rfl, _, _, rfl, rfl, _, _, rfl, rfl, ⟨by decide, by decide, by decide⟩, _, rfl, _, _, rfl, rfl, (by show 6 ≤ sizeLine; decide), fun l hl => ?_⟩
    refine ⟨_, rfl, s, n + 3, 6, rfl, hs3.same (same_new hl), by omega, by decide, by decide, fun v4 H4 x0 x1 hs4 d4 => ?_⟩
    obtain ⟨x, hx, z, rfl, z0, z1⟩ := pick (items := [.int (v1 - 30), .int (v1 - 30), .int g, .int (0 - g), .int 0, .int (10 ^ (39 : Int).toNat + (v1 - 30))]) (R := Btw (-(10 ^ 40)) (10 ^ 40))
      (by
        simp only [List.forall_mem_cons]
        refine ⟨⟨_, rfl, ?_, ?_⟩, ⟨_, rfl, ?_, ?_⟩, ⟨_, rfl, ?_, ?_⟩, ⟨_, rfl, ?_, ?_⟩, ⟨_, rfl, ?_, ?_⟩, ⟨10 ^ 39 + (v1 - 30), rfl, ?_, ?_⟩, fun _ h => nomatch h⟩ <;> omega) x0 x1
    have nls : l ≠ s := fun e => by obtain ⟨_, _, _, h1, _⟩ := hs3; rw [e, h1] at hl; cases hl
    refine ⟨l, _, _, _, rfl, rfl, SqL.of (d4 l _ upd_same nls), hx, ?_⟩
    exact q z H4 z0 z1 hs4 (((d1.trans d2).trans d3).trans (Dr.trans (Dr.of (same_new hl)) d4))
end

section
variable {P : Program} {w : World} {K : PySem.W.Frag} {mg : Str → Option Value} {base : Heap}
def spDivisor : Sp := fun vs H Q _ => ∃ a b : Int, vs = [.int a, .int b] ∧ 0 ≤ a ∧ 0 ≤ b ∧ Q (.int (Int.gcd a b : Int)) H
theorem ok_l_divisor (T : Top K mg) : FnOk P w K mg base CX0 3 T.f_l_divisor T.d_l_divisor ["_law_first", "_law_second"] spDivisor := by
  have G_Lamp_eq := ok_Lamp_eq (P := P) (w := w) (base := base) T
  refine T.F_l_divisor.ok sc_l_divisor (fun vs H Q E h => ?_) (fun cdv A outer s H vs Q E hr h => ?_)
  · obtain ⟨a, b, rfl, _⟩ := h; rfl
  · obtain ⟨a, b, rfl, a0, b0, q⟩ := h
    refine ⟨_, (pss_cons (ps_while PassesOwn.never (pt_cmpR op_ne (pv 1) pe_int (nomark _)) (pss_one (ps_par (i := 0) (j := 1) (by rfl) sc_l_divisor.nd rfl rfl (by decide) rfl rfl (pa_cons (pv 1) (pa_cons (pe_op op_modN (pv 0) (pv 1)) pa_nil)) (by rfl))))
      (pss_one (ps_ret (pv 0)))), ?_⟩
    refine while_by (fun σ H' => ∃ x y : Int, σ = [some (.int x), some (.int y)] ∧ Int.gcd x y = Int.gcd a b ∧ 0 ≤ x ∧ 0 ≤ y ∧ H' = H)
      (fun σ _ => match σ with | [_, some (.int y)] => y.toNat | _ => 0) ⟨a, b, rfl, rfl, a0, b0, rfl⟩ ?_
      (fun σ H Q Q' hq ⟨v, hv, hs, k, e, h⟩ => ⟨v, hv, hs, k, e, hq _ _ h⟩)
    rintro σ H' ⟨x, y, rfl, hg, x0, y0, rfl⟩
    refine ⟨_, rfl, rfl, _, rfl, ?_⟩
    show (if (!decide (V.int y = V.int 0)) = true then _ else _)
    rw [dec_int]
    by_cases hy : y = 0
    · rw [decide_eq_true hy]
      refine iteF ⟨_, rfl, ?_⟩
      rw [hy, Int.gcd_zero_right] at hg
      show Q (V.int x) H'
      rw [show x = ((Int.gcd a b : Nat) : Int) by omega]
      exact q
    · rw [decide_eq_false hy]
      refine iteT ⟨_, rfl, _, rfl, _, rfl, _, _, rfl, rfl, hy, _, _, rfl, ⟨y, x.fmod y, rfl, ?_, y0, fm0 (by omega), rfl⟩, ?_⟩
      · rw [← hg, fmod_pos (by omega), show x % y = x - y * (x / y) by have := Int.emod_add_mul_ediv x y; omega, Int.gcd_sub_mul_left_right, Int.gcd_comm]
      · show (x.fmod y).toNat < y.toNat
        have := fm0 (a := x) (b := y) (by omega)
        have := fm1 (a := x) (b := y) (by omega)
        omega
end

section
variable {P : Program} {w : World} {K : PySem.W.Frag} {mg : Str → Option Value} {base : Heap}
/-! ### readings of a lamp -/
theorem rdP (T : Top K mg) {H : Hp} {a : Addr} {p b : Int} {Q : VK} (h : LampAt T.C_Lamp H a p b) (q : Q (.int p) H) : ∃ a' C dx fs v, V.ref a = V.ref a' ∧ H a' = some (.ins C dx fs) ∧ Cls K C ∧ NoAttr K C "period" ∧ fs.lookup ("period" : Str) = some v ∧ Q v H :=
  let ⟨dx, e⟩ := h; ⟨a, T.C_Lamp, dx, _, _, rfl, e, T.cl_Lamp, T.na_Lamp_period, lf_period _ _, q⟩
theorem rdB (T : Top K mg) {H : Hp} {a : Addr} {p b : Int} {Q : VK} (h : LampAt T.C_Lamp H a p b) (q : Q (.int b) H) : ∃ a' C dx fs v, V.ref a = V.ref a' ∧ H a' = some (.ins C dx fs) ∧ Cls K C ∧ NoAttr K C "beat" ∧ fs.lookup ("beat" : Str) = some v ∧ Q v H :=
  let ⟨dx, e⟩ := h; ⟨a, T.C_Lamp, dx, _, _, rfl, e, T.cl_Lamp, T.na_Lamp_beat, lf_beat _ _, q⟩
theorem nf_self {K : PySem.W.Frag} {C : Addr} : PySem.W.notFirst K C (.ref C) = true := by unfold PySem.W.notFirst; simp
theorem rdEq (T : Top K mg) {H : Hp} {a c : Addr} {p b p' b' : Int} {Q : VK} {E : XK} (h : LampAt T.C_Lamp H a p b) (h' : LampAt T.C_Lamp H c p' b') (q : Q (.bl (decide (p = p' ∧ b = b'))) H) :
    rEqOwn K T.C_Lamp (spLampEq K T.C_Lamp) E (.ref a) (.ref c) H Q :=
  let ⟨dx, e⟩ := h; let ⟨_, e'⟩ := h'; ⟨a, dx, _, _, rfl, e, T.kl_Lamp.ty e', nf_self, a, p, b, _, rfl, h, .inl ⟨c, p', b', rfl, h', _, rfl, q⟩⟩
theorem rdNe (T : Top K mg) {H : Hp} {a c : Addr} {p b p' b' : Int} {Q : VK} {E : XK} (h : LampAt T.C_Lamp H a p b) (h' : LampAt T.C_Lamp H c p' b') (q : Q (.bl (!decide (p = p' ∧ b = b'))) H) :
    rNeOwn K T.C_Lamp (spLampEq K T.C_Lamp) E (.ref a) (.ref c) H Q :=
  let ⟨dx, e⟩ := h; let ⟨_, e'⟩ := h'; ⟨a, dx, _, _, rfl, e, T.kl_Lamp.ty e', nf_self, a, p, b, _, rfl, h, .inl ⟨c, p', b', rfl, h', _, rfl, q⟩⟩
theorem ifNeF {x y : Int} {A B : Prop} (h : x = y) (hb : B) : if (!decide (V.int x = V.int y)) = true then A else B := by
  rw [dec_int, decide_eq_true h]
  exact iteF hb
theorem ifNeT {x y : Int} {A B : Prop} (h : x ≠ y) (ha : A) : if (!decide (V.int x = V.int y)) = true then A else B := by
  rw [dec_int, decide_eq_false h]
  exact iteT ha
theorem ifEqF {x y : Int} {A B : Prop} (h : x ≠ y) (hb : B) : if decide (V.int x = V.int y) = true then A else B := by
  rw [dec_int, decide_eq_false h]
  exact iteF hb
theorem ifEqT {x y : Int} {A B : Prop} (h : x = y) (ha : A) : if decide (V.int x = V.int y) = true then A else B := by
  rw [dec_int, decide_eq_true h]
  exact iteT ha
theorem fmod0 {x p : Int} (p0 : 0 < p) (d : p ∣ x) : x.fmod p = 0 := by rw [fmod_pos p0]; exact Int.emod_eq_zero_of_dvd d
theorem fmodN {x p : Int} (p0 : 0 < p) (d : ¬ p ∣ x) : x.fmod p ≠ 0 := by rw [fmod_pos p0]; exact fun e => d (Int.dvd_of_emod_eq_zero e)
theorem pd_of {p b : Int} (p0 : 0 < p) (pb : p < 2 ^ 255) : Pd p (b % p) := by
  refine ⟨p0, ?_, Int.emod_nonneg _ (by omega), Int.emod_lt_of_pos _ p0⟩
  have h1 : p.natAbs < 2 ^ 255 := by omega
  exact Nat.lt_of_lt_of_le h1 (Nat.pow_le_pow_right (by decide) (by decide))
end

/-! ### [x for x in .. if test] of ints -/
section
variable {sl n : Nat} {tt : TT} {σ : L2.St} {H1 : Hp} {D a : Addr} {Qd : Hp → Prop}
theorem lc_sieve (f : Int → Bool) (hD : H1 D = Option.none) (hn : n < 100000) (hw : ∀ v, wipe ((wipe σ [sl]).set sl (some v)) [sl] = wipe σ [sl]) (hg : ∀ v : V, ((wipe σ [sl]).set sl (some v))[sl]? = some (some v))
    (ht : ∀ (i : Nat) (H' : Hp) (Q : Bool → Hp → Prop), i < n → Same H1 H' → Q (f i) H' → tt ((wipe σ [sl]).set sl (some (.int i))) H' Q)
    (hd : ∀ H', Same H1 H' → H' D = some (.lst ((sieve n f).map V.int)) → Qd H') :
    ∃ W : Nat → Nat → Hp → Prop, (∃ m, W 0 m (upd H1 D (.lst []))) ∧ ∀ i m H, W i m H →
      ((Itr 0 n).stop i H ∧ Qd H) ∨ ((Itr 0 n).go i H ∧ ∃ Nx : Hp → Prop, (∀ H', Nx H' → ∃ m', m' < m ∧ W (i + 1) m' H') ∧ ∀ x H', (Itr 0 n).yld i H x H' → gName sl x (wipe σ [sl]) H' fun σ2 H2 => wipe σ2 [sl] = wipe σ [sl] ∧ tt σ2 H2 fun b H3 =>
        if b = true then tVar sl σ2 H3 fun y H4 => ∃ acc, H4 D = some (.lst acc) ∧ acc.length < sizeLine ∧ Nx (upd H4 D (.lst (acc ++ [y]))) else Nx H3) := by
  have sm : ∀ {H' : Hp} {o : HO}, Same H1 H' → Same H1 (upd H' D o) := fun s b x e => by rw [upd_ne (ne_of_none e hD)]; exact s b x e
  refine lc_range (fun i H' => Same H1 H' ∧ H' D = some (.lst ((sieve i f).map V.int))) ⟨sm (Same.refl H1), upd_same⟩ (fun i H' hi ⟨s1, hl⟩ => ?_) fun H' ⟨s1, hl⟩ => hd H' s1 hl
  rw [Int.zero_add]
  refine ⟨hw _, ht i H' _ hi s1 ?_⟩
  cases e : f i with
  | true =>
    refine iteT ⟨_, hg _, _, hl, ?_, sm s1, ?_⟩
    · rw [List.length_map]
      have := sieve_len i f
      exact Nat.lt_of_lt_of_le (show (sieve i f).length < 100000 by omega) (by decide)
    · rw [upd_same, sieve_succ, e, List.map_append]
      rfl
  | false =>
    refine iteF ⟨s1, ?_⟩
    rw [hl, sieve_succ, e]
    simp
theorem lc_filter {K : PySem.W.Frag} {ns : List Int} (f : Int → Bool) (hD : H1 D = Option.none) (ha : SqL K H1 a (ns.map V.int)) (hn : ns.length < 100000) (hw : ∀ v, wipe ((wipe σ [sl]).set sl (some v)) [sl] = wipe σ [sl]) (hg : ∀ v : V, ((wipe σ [sl]).set sl (some v))[sl]? = some (some v))
    (ht : ∀ (z : Int) (H' : Hp) (Q : Bool → Hp → Prop), z ∈ ns → Same H1 H' → Q (f z) H' → tt ((wipe σ [sl]).set sl (some (.int z))) H' Q)
    (hd : ∀ H', Same H1 H' → H' D = some (.lst ((ns.filter f).map V.int)) → Qd H') :
    ∃ W : Nat → Nat → Hp → Prop, (∃ m, W 0 m (upd H1 D (.lst []))) ∧ ∀ i m H, W i m H →
      ((Itl K a).stop i H ∧ Qd H) ∨ ((Itl K a).go i H ∧ ∃ Nx : Hp → Prop, (∀ H', Nx H' → ∃ m', m' < m ∧ W (i + 1) m' H') ∧ ∀ x H', (Itl K a).yld i H x H' → gName sl x (wipe σ [sl]) H' fun σ2 H2 => wipe σ2 [sl] = wipe σ [sl] ∧ tt σ2 H2 fun b H3 =>
        if b = true then tVar sl σ2 H3 fun y H4 => ∃ acc, H4 D = some (.lst acc) ∧ acc.length < sizeLine ∧ Nx (upd H4 D (.lst (acc ++ [y]))) else Nx H3) := by
  have sm : ∀ {H' : Hp} {o : HO}, Same H1 H' → Same H1 (upd H' D o) := fun s b x e => by rw [upd_ne (ne_of_none e hD)]; exact s b x e
  refine lc_list (K := K) (a := a) (xs := ns.map V.int) (fun i H' => Same H1 H' ∧ H' D = some (.lst (((ns.take i).filter f).map V.int))) ⟨sm (Same.refl H1), upd_same⟩ (fun i H' _ ⟨s1, _⟩ => s1.seq ha) (fun i x H' hi ⟨s1, hl⟩ => ?_) fun H' ⟨s1, hl⟩ => hd H' s1 (by rw [hl, List.length_map, List.take_length])
  obtain ⟨z, hz, rfl⟩ : ∃ z, ns[i]? = some z ∧ x = V.int z := by
    rw [List.getElem?_map] at hi
    cases e : ns[i]? with
    | none => rw [e] at hi; cases hi
    | some z => rw [e] at hi; exact ⟨z, rfl, (Option.some.inj hi).symm⟩
  have et : ns.take (i + 1) = ns.take i ++ [z] := by
    rw [List.take_succ, hz]
    rfl
  refine ⟨hw _, ht z H' _ (List.mem_of_getElem? hz) s1 ?_⟩
  cases e : f z with
  | true =>
    refine iteT ⟨_, hg _, _, hl, ?_, sm s1, ?_⟩
    · rw [List.length_map]
      have h1 := List.length_filter_le f (ns.take i)
      have h2 := List.length_take_le i ns
      exact Nat.lt_of_lt_of_le (show ((ns.take i).filter f).length < 100000 by have := List.length_take_le' i ns; omega) (by decide)
    · rw [upd_same, et, List.filter_append, List.map_append]
      simp [List.filter_cons, e]
  | false =>
    refine iteF ⟨s1, ?_⟩
    rw [hl, et, List.filter_append]
    simp [List.filter_cons, e]
end

section
variable {P : Program} {w : World} {K : PySem.W.Frag} {mg : Str → Option Value} {base : Heap}
/-- what a part of a law promises: True, from a source of n draws at most, having taken k more at most -/
def spPart (k : Nat) : Sp := fun vs H Q _ => ∃ (s : Addr) (n : Nat), vs = [.ref s] ∧ Src H s n ∧ n < 100000 ∧ ∀ H', Src H' s (n + k) → Dr s H H' → Q (.bl true) H'
theorem take_more {α : Type} {l : List α} {i : Nat} {x : α} (h : l[i]? = some x) : l.take (i + 1) = l.take i ++ [x] := by
  rw [List.take_succ, h]
  rfl
theorem ok_l_small_right (T : Top K mg) : FnOk P w K mg base CX0 6 T.f_l_small_right T.d_l_small_right ["_law_source_here"] (spPart 10) := by
  have G_Lamp_init := ok_Lamp_init (P := P) (w := w) (base := base) T
  have G_Lamp_eq := ok_Lamp_eq (P := P) (w := w) (base := base) T
  have G_l_divisor := ok_l_divisor (P := P) (w := w) (base := base) T
  have G_l_take := ok_l_take (P := P) (w := w) (base := base) T
  have G_l_whole := ok_l_whole (P := P) (w := w) (base := base) T
  have G_meet := ok_meet (P := P) (w := w) (base := base) T
  refine T.F_l_small_right.ok sc_l_small_right (fun vs H Q E h => ?_) (fun cdv A outer s H vs Q E hr h => ?_)
  · obtain ⟨s, n, rfl, _⟩ := h; rfl
  · obtain ⟨s, n, rfl, hs, hn, q⟩ := h
    refine ⟨_, (pss_cons (ps_set (i := 1) sc_l_small_right.nd rfl (Or.inr rfl) (pe_make T.mk_Lamp G_Lamp_init (hr.mono (by decide)) (by rfl) T.gC_Lamp T.b_Lamp_init .nil pass0 (pa_cons (pe_op op_add pe_int (pe_call G_l_take (hr.mono (by decide)) rfl T.g_l_take T.F_l_take.kp T.b_l_take .nil pass0 (pa_cons (pv 0) (pa_cons pe_int pa_nil)))) (pa_cons (pe_call G_l_whole (hr.mono (by decide)) rfl T.g_l_whole T.F_l_whole.kp T.b_l_whole .nil pass0 (pa_cons (pv 0) pa_nil)) pa_nil))))
      (pss_cons (ps_set (i := 2) sc_l_small_right.nd rfl (Or.inr rfl) (pe_make T.mk_Lamp G_Lamp_init (hr.mono (by decide)) (by rfl) T.gC_Lamp T.b_Lamp_init .nil pass0 (pa_cons (pe_op op_add pe_int (pe_call G_l_take (hr.mono (by decide)) rfl T.g_l_take T.F_l_take.kp T.b_l_take .nil pass0 (pa_cons (pv 0) (pa_cons pe_int pa_nil)))) (pa_cons (pe_call G_l_whole (hr.mono (by decide)) rfl T.g_l_whole T.F_l_whole.kp T.b_l_whole .nil pass0 (pa_cons (pv 0) pa_nil)) pa_nil))))
      (pss_cons (ps_set (i := 3) sc_l_small_right.nd rfl (Or.inl rfl) (pe_op op_fdivW (pe_op op_mulW (pe_fld (pv 1) rfl) (pe_fld (pv 2) rfl)) (pe_call G_l_divisor (hr.mono (by decide)) rfl T.g_l_divisor T.F_l_divisor.kp T.b_l_divisor .nil pass0 (pa_cons (pe_fld (pv 1) rfl) (pa_cons (pe_fld (pv 2) rfl) pa_nil)))))
      (pss_cons (ps_setLc (i := 4) (own := [("_law_at", 7)]) (g := gName 7) (tt := _) (by rfl) sc_l_small_right.nd rfl rfl (sw_true rfl rfl rfl (by decide +kernel)) (pi_range1 (by rfl) T.n_range (pa_cons (pv 3) pa_nil)) (blkOk_by (own := [("_law_at", 7)]) (N := ["_law_source_here", "_law_first", "_law_second", "_law_whole_here", "_law_mine", "_law_shared", "_law_found", "_law_at"]) (sc := defScope s_l_small_right) (by decide +kernel)) (fun _ _ _ _ _ => by exact (pg_name (i := 7) sc_l_small_right.nd rfl (Or.inl rfl))) (fun _ _ _ _ _ => by exact (pts_one (pt_cmpR op_eq (pe_op op_modN (pe_op op_sub (pv 7) (pe_fldB (K := K) rfl (pv 1) rfl)) (pe_fldB (K := K) rfl (pv 1) rfl)) pe_int (nomark _)))) (fun _ _ _ _ _ => by exact ((pv 7))))
      (pss_cons (ps_setLc (i := 5) (own := [("_law_at", 7)]) (g := gName 7) (tt := _) (by rfl) sc_l_small_right.nd rfl rfl (sw_true rfl rfl rfl (by decide +kernel)) (pi_list (pv 4)) (blkOk_by (own := [("_law_at", 7)]) (N := ["_law_source_here", "_law_first", "_law_second", "_law_whole_here", "_law_mine", "_law_shared", "_law_found", "_law_at"]) (sc := defScope s_l_small_right) (by decide +kernel)) (fun _ _ _ _ _ => by exact (pg_name (i := 7) sc_l_small_right.nd rfl (Or.inl rfl))) (fun _ _ _ _ _ => by exact (pts_one (pt_cmpR op_eq (pe_op op_modN (pe_op op_sub (pv 7) (pe_fldB (K := K) rfl (pv 2) rfl)) (pe_fldB (K := K) rfl (pv 2) rfl)) pe_int (nomark _)))) (fun _ _ _ _ _ => by exact ((pv 7))))
      (pss_cons (ps_set (i := 6) sc_l_small_right.nd rfl (Or.inl rfl) (pe_call G_meet (hr.mono (by decide)) rfl T.g_meet T.F_meet.kp T.b_meet .nil pass0 (pa_cons (pv 1) (pa_cons (pv 2) pa_nil))))
      (pss_cons (ps_if (pt_cmpR (op_eqD hr.units) (pv 5) (pe_lst pa_nil) (nomark _)) (pss_one (ps_ret (pe_and (pe_cmpR op_isN (pv 6) pe_non (nomark _)) (pe_one (pe_cmpR op_isN (pe_call G_meet (hr.mono (by decide)) rfl T.g_meet T.F_meet.kp T.b_meet .nil pass0 (pa_cons (pv 2) (pa_cons (pv 1) pa_nil))) pe_non (nomark _)))))) pss_nil)
      (pss_one (ps_ret (pe_and (pe_cmpR op_eq (pe_callB call_len_seq (by rfl) T.n_len (by decide +kernel) (pa_cons (pv 5) pa_nil)) pe_int (nomark _)) (pe_and (pe_cmpR (op_eqOwn T.m_Lamp_eq G_Lamp_eq T.b_Lamp_eq (hr.mono (by decide)) pass0) (pv 6) (pe_make T.mk_Lamp G_Lamp_init (hr.mono (by decide)) (by rfl) T.gC_Lamp T.b_Lamp_init .nil pass0 (pa_cons (pv 3) (pa_cons (pe_ix ix_list (pv 5) pe_int (fun _ _ => rfl)) pa_nil))) (nomark _)) (pe_one (pe_cmpR (op_eqOwn T.m_Lamp_eq G_Lamp_eq T.b_Lamp_eq (hr.mono (by decide)) pass0) (pe_callN0 G_meet (hr.mono (by decide)) rfl T.g_meet T.F_meet.kp T.kb_meet_other_one pass0 (pk_cons (pv 1) (pk_cons (pv 2) pk_nil))) (pv 6) (nomark _)))))))))))))), ?_⟩
    -- first = Lamp(1 + take(14), whole())
    refine ⟨_, rfl, s, n, 14, rfl, hs, by omega, by decide, by decide, fun v1 H1 a0 a1 hs1 d1 => ?_⟩
    refine ⟨_, _, rfl, rfl, _, rfl, s, n + 1, rfl, hs1, by omega, fun z1 H2 _ _ hs2 d2 => ?_⟩
    intro a da na nda nea; refine ⟨a, da, 1 + v1, z1, rfl, upd_same, (by omega), fun H3 ha ka => ⟨rfl, ?_⟩⟩; have sa := Same.made na nda ka; clear ka nea nda
    have D3 : Dr s H H3 := (d1.trans d2).then sa
    have hs3 := hs2.same sa
    -- second
    refine ⟨_, rfl, s, n + 5, 14, rfl, hs3, by omega, by decide, by decide, fun v2 H4 c0 c1 hs4 d4 => ?_⟩
    refine ⟨_, _, rfl, rfl, _, rfl, s, n + 6, rfl, hs4, by omega, fun z2 H5 _ _ hs5 d5 => ?_⟩
    intro c dc nc ndc nec; refine ⟨c, dc, 1 + v2, z2, rfl, upd_same, (by omega), fun H6 hc kc => ⟨rfl, ?_⟩⟩; have sc := Same.made nc ndc kc; clear kc nec ndc
    have hA6 : LampAt T.C_Lamp H6 a (1 + v1) (z1 % (1 + v1)) := ((ha.dr hs3 d4).dr hs4 d5).same sc
    have D6 : Dr s H H6 := ((D3.trans d4).trans d5).then sc
    have hs6 := hs5.same sc
    have P1 := pd_of (p := 1 + v1) (b := z1) (by omega) (by omega)
    have P2 := pd_of (p := 1 + v2) (b := z2) (by omega) (by omega)
    have l1 : 1 + v1 ≤ 14 := by omega
    have l2 : 1 + v2 ≤ 14 := by omega
    clear ha d1 d2 d4 d5 sa sc hs1 hs2 hs3 hs4 hs5 D3 na nc
    have hC := hc; clear hc
    generalize z1 % (1 + v1) = b1 at *
    generalize z2 % (1 + v2) = b2 at *
    dsimp only at *
    generalize 1 + v1 = p1 at *
    generalize 1 + v2 = p2 at *
    clear a0 a1 c0 c1 hs
    have p10 := P1.p0
    have p20 := P2.p0
    have g0 := gcd_pos (a := p1) (b := p2) p10
    have gd1 : (Int.gcd p1 p2 : Int) ∣ p1 := Int.gcd_dvd_left ..
    have gd2 : (Int.gcd p1 p2 : Int) ∣ p2 := Int.gcd_dvd_right ..
    have gle : (Int.gcd p1 p2 : Int) ≤ p1 := Int.le_of_dvd p10 gd1
    have eL : p1 * p2 / (Int.gcd p1 p2 : Int) = p1 * (p2 / (Int.gcd p1 p2 : Int)) := Int.mul_ediv_assoc p1 gd2
    have q0 : 0 < p2 / (Int.gcd p1 p2 : Int) := Int.ediv_pos_of_pos_of_dvd p20 (by omega) gd2
    have L0 : 0 < p1 * p2 / (Int.gcd p1 p2 : Int) := by rw [eL]; exact Int.mul_pos p10 q0
    have L1 : p1 * p2 / (Int.gcd p1 p2 : Int) ≤ 14 * 14 := Int.le_trans (Int.ediv_le_self _ (Int.mul_nonneg (by omega) (by omega))) (Int.mul_le_mul l1 l2 (by omega) (by decide))
    -- whole = first.period * second.period // divisor(..)
    refine ⟨_, rfl, _, _, _, _, _, rfl, (hA6).choose_spec, T.cl_Lamp, T.na_Lamp_period, lf_period _ _, _, rfl, _, _, _, _, _, rfl, (hC).choose_spec, T.cl_Lamp, T.na_Lamp_period, lf_period _ _, _, _, rfl, rfl, mw (by omega) (by omega) (by omega) (by omega), _, rfl, _, _, _, _, _, rfl, (hA6).choose_spec, T.cl_Lamp, T.na_Lamp_period, lf_period _ _, _, rfl, _, _, _, _, _, rfl, (hC).choose_spec, T.cl_Lamp, T.na_Lamp_period, lf_period _ _, p1, p2, rfl, by omega, by omega, _, _, rfl, rfl, dvw g0 (by omega), ?_⟩
    dsimp only
    generalize hL : p1 * p2 / (Int.gcd p1 p2 : Int) = L at *
    -- mine
    refine ⟨_, rfl, L, rfl, by omega, by omega, fun D1 hD1 => lc_sieve (n := L.toNat) (fun x => decide (p1 ∣ x - b1)) hD1 (by omega) (fun _ => rfl) (fun _ => rfl) (fun i H' Q' hi s1 q' => ?_) (fun H7 s7 hl1 => ?_)⟩
    · refine ⟨_, rfl, _, rfl, _, _, _, _, _, rfl, (hA6.same s1).choose_spec, T.cl_Lamp, T.na_Lamp_beat, lf_beat _ _, _, _, rfl, rfl, _, rfl, _, _, _, _, _, rfl, (hA6.same s1).choose_spec, T.cl_Lamp, T.na_Lamp_period, lf_period _ _, _, _, rfl, rfl, (by omega), rfl, _, rfl, ?_⟩
      show Q' (decide (V.int (((i : Int) - b1).fmod p1) = V.int 0)) H'
      rw [dec_int, fmod_pos p10, decide_eq_decide.mpr dvd_iff_emod]
      exact q'
    -- shared
    refine ⟨_, rfl, D1, rfl, ⟨_, SqL.of hl1⟩, fun D2 hD2 => lc_filter (ns := sieve L.toNat fun x => decide (p1 ∣ x - b1)) (fun x => decide (p2 ∣ x - b2)) hD2 (SqL.of hl1) (Nat.lt_of_le_of_lt (sieve_len _ _) (by omega)) (fun _ => rfl) (fun _ => rfl) (fun z H' Q' hz s1 q' => ?_) (fun H8 s8 hl2 => ?_)⟩
    · have hC' := (hC.same s7).same s1
      refine ⟨_, rfl, _, rfl, _, _, _, _, _, rfl, (hC').choose_spec, T.cl_Lamp, T.na_Lamp_beat, lf_beat _ _, _, _, rfl, rfl, _, rfl, _, _, _, _, _, rfl, (hC').choose_spec, T.cl_Lamp, T.na_Lamp_period, lf_period _ _, _, _, rfl, rfl, (by omega), rfl, _, rfl, ?_⟩
      show Q' (decide (V.int ((z - b2).fmod p2) = V.int 0)) H'
      rw [dec_int, fmod_pos p20, decide_eq_decide.mpr dvd_iff_emod]
      exact q'
    rw [sieve_sieve] at hl2
    have hA8 := (hA6.same s7).same s8
    have hC8 := (hC.same s7).same s8
    have D8 : Dr s H H8 := (D6.then s7).then s8
    have hs8 := (hs6.same s7).same s8
    -- found = meet(first, second)
    refine ⟨_, rfl, _, rfl, a, c, p1, b1, p2, b2, rfl, hA8, hC8, P1, P2, fun hn H9 s9 => ?_, fun m z M hg y H9 ny s9 hy => ?_⟩
    · -- none
      have e0 : sieve L.toNat (fun x => decide (p1 ∣ x - b1) && decide (p2 ∣ x - b2)) = [] := sieve_none fun x _ _ => by
        by_cases h1 : p1 ∣ x - b1
        · by_cases h2 : p2 ∣ x - b2
          · exact (seen_none hn x h1 h2).elim
          · simp [h2]
        · simp [h1]
      rw [e0] at hl2
      refine ⟨_, rfl, (by show 0 ≤ sizeLine; decide), fun p hp => ?_⟩
      have sp := same_new (o := .lst []) hp
      refine ⟨.list [], .list [], .lst (SqL.of (sp _ _ (s9 _ _ hl2))) .nil, .lst (SqL.of upd_same) .nil, by decide +kernel, by decide +kernel, _, rfl, iteT ?_⟩
      refine ⟨_, rfl, rfl, _, rfl, iteT ?_⟩
      have S := s9.trans sp
      refine ⟨_, rfl, _, rfl, c, a, p2, b2, p1, b1, rfl, hC8.same S, hA8.same S, P2, P1, fun _ H10 s10 => ?_, fun m z M hg => ?_⟩
      · exact ⟨rfl, q _ ((hs8.same (S.trans s10)).mono (by omega)) (D8.then (S.trans s10))⟩
      · refine (hn ?_).elim
        rw [Int.gcd_comm]
        have e : b2 - b1 = -(b1 - b2) := by omega
        rw [e]
        exact Int.dvd_neg.mpr hg
    · have eM : m = L := by rw [M.lcm, hL]
      subst eM
      have e1 : sieve m.toNat (fun x => decide (p1 ∣ x - b1) && decide (p2 ∣ x - b2)) = [z] := sieve_one M.c0 (by have := M.cm; omega) fun x h0 h1 => by
        rw [Bool.and_eq_true, decide_eq_true_eq, decide_eq_true_eq, ← M.iff]
        constructor
        · intro d
          have := dvd_small (by have := M.c0; have := M.cm; omega) (by have := M.c0; omega) d
          omega
        · intro e
          exact ⟨0, by omega⟩
      rw [e1] at hl2
      refine ⟨_, rfl, (by show 0 ≤ sizeLine; decide), fun p hp => ?_⟩
      have sp := same_new (o := .lst []) hp
      have hl9 := sp _ _ (s9 _ _ hl2)
      refine ⟨.list [.int z], .list [], .lst (SqL.of hl9) (.cons (.int z) .nil), .lst (SqL.of upd_same) .nil, by exact rfl, by decide +kernel, _, rfl, iteF ?_⟩
      have S := s9.trans sp
      have hY := hy.same sp
      have m0 := M.m0
      have ez : z % m = z := Int.emod_eq_of_lt M.c0 M.cm
      -- len(shared) == 1
      refine ⟨_, rfl, D2, _, rfl, .inl (SqL.of hl9), rfl, _, rfl, iteT ?_⟩
      -- found == Lamp(whole, shared[0])
      refine ⟨_, rfl, _, rfl, _, rfl, D2, _, _, _, rfl, rfl, SqL.of hl9, at_of (j := 0) rfl rfl, ?_⟩
      intro e de ne nde nee; refine ⟨e, de, m, z, rfl, upd_same, m0, fun H10 he ke => ⟨rfl, ?_⟩⟩; have se := Same.made ne nde ke; clear ke nee nde
      rw [ez] at he
      have hY10 := hY.same se
      refine ⟨_, _, _, _, rfl, (hY10).choose_spec, T.kl_Lamp.ty (he).choose_spec, nf_self, _, _, _, _, rfl, hY10, .inl ⟨_, _, _, rfl, he, _, rfl, ?_⟩⟩
      rw [decide_eq_true (show m = m ∧ z = z from ⟨rfl, rfl⟩)]
      refine ⟨_, rfl, iteT ?_⟩
      have S10 := S.trans se
      refine ⟨_, rfl, _, rfl, rfl, rfl, c, a, p2, b2, p1, b1, rfl, hC8.same S10, hA8.same S10, P2, P1, fun hn => ?_, fun m' z' M' hg' y' H11 ny' s11 hy' => ?_⟩
      · exact (hn (by rw [Int.gcd_comm, show b1 - b2 = -(b2 - b1) by omega]; exact Int.dvd_neg.mpr hg)).elim
      · obtain ⟨em, ezz⟩ := M.swap M'
        subst em ezz
        refine ⟨_, rfl, _, _, _, _, rfl, (hy').choose_spec, T.kl_Lamp.ty (hY10.same s11).choose_spec, nf_self, _, _, _, _, rfl, hy', .inl ⟨_, _, _, rfl, hY10.same s11, _, rfl, ?_⟩⟩
        rw [decide_eq_true (show m = m ∧ z = z from ⟨rfl, rfl⟩)]
        exact q _ ((hs8.same (S10.trans s11)).mono (by omega)) (D8.then (S10.trans s11))
end
section
variable {P : Program} {w : World} {K : PySem.W.Frag} {mg : Str → Option Value} {base : Heap}
theorem Dr.mut {s l : Addr} {H H' : Hp} {o : HO} (d : Dr s H H') (h : H l = Option.none) : Dr s H (upd H' l o) := fun b x e hb => by
  rw [upd_ne (ne_of_none e h)]
  exact d b x e hb
theorem ne_src {H : Hp} {s l : Addr} {n : Nat} (h : Src H s n) (hl : H l = Option.none) : l ≠ s := fun e => by
  obtain ⟨_, _, _, h1, _⟩ := h
  rw [e, h1] at hl
  cases hl
theorem Src.mut {H : Hp} {s l : Addr} {n : Nat} {o : HO} (h : Src H s n) (hl : l ≠ s) : Src (upd H l o) s n := by
  obtain ⟨a, b, c, h1, h2⟩ := h
  exact ⟨a, b, c, by rw [upd_ne hl.symm]; exact h1, h2⟩
theorem ok_l_great_right (T : Top K mg) : FnOk P w K mg base CX0 6 T.f_l_great_right T.d_l_great_right ["_law_source_here"] (spPart 14) := by
  have G_Lamp_init := ok_Lamp_init (P := P) (w := w) (base := base) T
  have G_Lamp_eq := ok_Lamp_eq (P := P) (w := w) (base := base) T
  have G_Lamp_shines := ok_Lamp_shines (P := P) (w := w) (base := base) T
  have G_l_divisor := ok_l_divisor (P := P) (w := w) (base := base) T
  have G_l_prime := ok_l_prime (P := P) (w := w) (base := base) T
  have G_l_take := ok_l_take (P := P) (w := w) (base := base) T
  have G_l_whole := ok_l_whole (P := P) (w := w) (base := base) T
  have G_meet := ok_meet (P := P) (w := w) (base := base) T
  refine T.F_l_great_right.ok sc_l_great_right (fun vs H Q E h => ?_) (fun cdv A outer s H vs Q E hr h => ?_)
  · obtain ⟨s, n, rfl, _⟩ := h; rfl
  · obtain ⟨s, n, rfl, hs, hn, q⟩ := h
    refine ⟨_, (pss_cons (ps_set (i := 1) sc_l_great_right.nd rfl (Or.inl rfl) (pe_op op_add pe_int (pe_call G_l_take (hr.mono (by decide)) rfl T.g_l_take T.F_l_take.kp T.b_l_take .nil pass0 (pa_cons (pv 0) (pa_cons pe_int pa_nil)))))
      (pss_cons (ps_set (i := 2) sc_l_great_right.nd rfl (Or.inl rfl) (pe_lst (pa_cons (pe_op op_mulW (pe_op op_mulW (pv 1) (pe_op op_add pe_int (pe_call G_l_take (hr.mono (by decide)) rfl T.g_l_take T.F_l_take.kp T.b_l_take .nil pass0 (pa_cons (pv 0) (pa_cons pe_int pa_nil))))) (pe_call G_l_prime (hr.mono (by decide)) rfl T.g_l_prime T.F_l_prime.kp T.b_l_prime .nil pass0 (pa_cons (pv 0) pa_nil))) (pa_cons (pe_op op_mulW (pv 1) (pe_op op_add pe_int (pe_call G_l_take (hr.mono (by decide)) rfl T.g_l_take T.F_l_take.kp T.b_l_take .nil pass0 (pa_cons (pv 0) (pa_cons pe_int pa_nil))))) pa_nil))))
      (C8.pss_cut (ps_if (pt_cmpR op_eq (pe_call G_l_take (hr.mono (by decide)) rfl T.g_l_take T.F_l_take.kp T.b_l_take .nil pass0 (pa_cons (pv 0) (pa_cons pe_int pa_nil))) pe_int (nomark _)) (pss_one (ps_asg (pe_op op_mulW (pe_ix ix_list (pv 2) pe_int (fun _ _ => rfl)) (pe_call G_l_prime (hr.mono (by decide)) rfl T.g_l_prime T.F_l_prime.kp T.b_l_prime .nil pass0 (pa_cons (pv 0) pa_nil))) (pg_sub (pv 2) pe_int set_list))) pss_nil)
      (pss_cons (ps_set (i := 3) sc_l_great_right.nd rfl (Or.inl rfl) (pe_call G_l_divisor (hr.mono (by decide)) rfl T.g_l_divisor T.F_l_divisor.kp T.b_l_divisor .nil pass0 (pa_cons (pe_ix ix_list (pv 2) pe_int (fun _ _ => rfl)) (pa_cons (pe_ix ix_list (pv 2) pe_int (fun _ _ => rfl)) pa_nil))))
      (pss_cons (ps_set (i := 4) sc_l_great_right.nd rfl (Or.inl rfl) (pe_call G_l_whole (hr.mono (by decide)) rfl T.g_l_whole T.F_l_whole.kp T.b_l_whole .nil pass0 (pa_cons (pv 0) pa_nil)))
      (pss_cons (ps_set (i := 5) sc_l_great_right.nd rfl (Or.inl rfl) (pe_op op_mulW (pe_call G_l_take (hr.mono (by decide)) rfl T.g_l_take T.F_l_take.kp T.b_l_take .nil pass0 (pa_cons (pv 0) (pa_cons pe_int pa_nil))) (pe_op op_sub (pe_call G_l_take (hr.mono (by decide)) rfl T.g_l_take T.F_l_take.kp T.b_l_take .nil pass0 (pa_cons (pv 0) (pa_cons pe_int pa_nil))) pe_int)))
      (pss_cons (ps_par (i := 6) (j := 7) (by rfl) sc_l_great_right.nd rfl rfl (by decide) rfl rfl (pa_cons (pe_make T.mk_Lamp G_Lamp_init (hr.mono (by decide)) (by rfl) T.gC_Lamp T.b_Lamp_init .nil pass0 (pa_cons (pe_ix ix_list (pv 2) pe_int (fun _ _ => rfl)) (pa_cons (pv 4) pa_nil))) (pa_cons (pe_make T.mk_Lamp G_Lamp_init (hr.mono (by decide)) (by rfl) T.gC_Lamp T.b_Lamp_init .nil pass0 (pa_cons (pe_ix ix_list (pv 2) pe_int (fun _ _ => rfl)) (pa_cons (pe_op op_add (pv 4) (pv 5)) pa_nil))) pa_nil)) (by rfl))
      (pss_cons (ps_set (i := 8) sc_l_great_right.nd rfl (Or.inl rfl) (pe_call G_meet (hr.mono (by decide)) rfl T.g_meet T.F_meet.kp T.b_meet .nil pass0 (pa_cons (pv 6) (pa_cons (pv 7) pa_nil))))
      (pss_cons (ps_if (pt_cmpR op_ne (pe_op op_modN (pv 5) (pv 3)) pe_int (nomark _)) (pss_one (ps_ret (pe_and (pe_cmpR op_isN (pv 8) pe_non (nomark _)) (pe_one (pe_cmpR op_isN (pe_call G_meet (hr.mono (by decide)) rfl T.g_meet T.F_meet.kp T.b_meet .nil pass0 (pa_cons (pv 7) (pa_cons (pv 6) pa_nil))) pe_non (nomark _)))))) pss_nil)
      (pss_cons (ps_if (PW.pt (pw_or (pt_cmpR op_isN (pv 8) pe_non (nomark _)) (pw_or (pt_cmpR op_ne (pe_fld (pv 8) rfl) (pe_op op_mulW (pe_op op_fdivW (pe_ix ix_list (pv 2) pe_int (fun _ _ => rfl)) (pv 3)) (pe_ix ix_list (pv 2) pe_int (fun _ _ => rfl))) (nomark _)) (pw_or1 (pt_cmpR (op_neOwn T.m_Lamp_eq G_Lamp_eq T.b_Lamp_eq (hr.mono (by decide)) pass0 T.ne_Lamp) (pe_call G_meet (hr.mono (by decide)) rfl T.g_meet T.F_meet.kp T.b_meet .nil pass0 (pa_cons (pv 7) (pa_cons (pv 6) pa_nil))) (pv 8) (nomark _)))))) (pss_one (ps_ret pe_bl)) pss_nil)
      (pss_cons (ps_set (i := 9) sc_l_great_right.nd rfl (Or.inl rfl) (pe_fld (pv 8) rfl))
      (pss_cons (ps_if (PW.pt (pw_or (pt_cmpR op_ne (pe_op op_modN (pe_op op_sub (pv 9) (pv 4)) (pe_ix ix_list (pv 2) pe_int (fun _ _ => rfl))) pe_int (nomark _)) (pw_or (pt_cmpR op_ne (pe_op op_modN (pe_op op_sub (pe_op op_sub (pv 9) (pv 4)) (pv 5)) (pe_ix ix_list (pv 2) pe_int (fun _ _ => rfl))) pe_int (nomark _)) (pw_or1 (PW.pt (pw_and (pt_cmpR op_eq (pv 5) pe_int (nomark _)) (pw_and1 (pt_not (pt_val (pe_meth (pv 8) T.cl_Lamp T.m_Lamp_shines G_Lamp_shines (hr.mono (by decide)) T.b_Lamp_shines .nil pass0 (pa_cons (pv 4) pa_nil))))))))))) (pss_one (ps_ret pe_bl)) pss_nil)
      (pss_one (ps_ret (pe_and (pe_cmpR (op_eqOwn T.m_Lamp_eq G_Lamp_eq T.b_Lamp_eq (hr.mono (by decide)) pass0) (pe_call G_meet (hr.mono (by decide)) rfl T.g_meet T.F_meet.kp T.b_meet .nil pass0 (pa_cons (pv 6) (pa_cons (pv 6) pa_nil))) (pv 6) (nomark _)) (pe_one (pe_cmpR (op_eqOwn T.m_Lamp_eq G_Lamp_eq T.b_Lamp_eq (hr.mono (by decide)) pass0) (pe_call G_meet (hr.mono (by decide)) rfl T.g_meet T.F_meet.kp T.b_meet .nil pass0 (pa_cons (pv 8) (pa_cons (pv 6) pa_nil))) (pv 8) (nomark _)))))))))))))))))), ?_⟩
    refine ⟨_, rfl, s, n, 30, rfl, hs, by omega, by decide, by decide, fun v1 H1 a0 a1 hs1 d1 => ⟨_, _, rfl, rfl, ?_⟩⟩
    refine ⟨_, rfl, _, rfl, s, n + 1, 40, rfl, hs1, by omega, by decide, by decide, fun v2 H2 c0 c1 hs2 d2 => ⟨_, _, rfl, rfl, _, _, rfl, rfl, mw (by omega) (by omega) (by omega) (by omega), ?_⟩⟩
    have k1 : 0 < (1 + v1) * (1 + v2) := Int.mul_pos (by omega) (by omega)
    have k2 : (1 + v1) * (1 + v2) ≤ 30 * 40 := Int.mul_le_mul (by omega) (by omega) (by omega) (by decide)
    refine ⟨_, rfl, s, n + 2, rfl, hs2, by omega, fun pz H3 p0 p1 hs3 d3 => ⟨_, _, rfl, rfl, mw (by omega) (by omega) (by omega) (by omega), ?_⟩⟩
    have k3 : 0 < (1 + v1) * (1 + v2) * pz := Int.mul_pos k1 (by omega)
    have k4 : (1 + v1) * (1 + v2) * pz ≤ 30 * 40 * 1000000000000000009 := Int.mul_le_mul k2 p1 (by omega) (by decide)
    refine ⟨_, rfl, _, rfl, s, n + 3, 40, rfl, hs3, by omega, by decide, by decide, fun v4 H4 e0 e1 hs4 d4 => ⟨_, _, rfl, rfl, _, _, rfl, rfl, mw (by omega) (by omega) (by omega) (by omega), ?_⟩⟩
    have k5 : 0 < (1 + v1) * (1 + v4) := Int.mul_pos (by omega) (by omega)
    have k6 : (1 + v1) * (1 + v4) ≤ 30 * 40 := Int.mul_le_mul (by omega) (by omega) (by omega) (by decide)
    refine ⟨(by show 2 ≤ sizeLine; decide), fun l hl => ?_⟩
    have D4 : Dr s H H4 := ((d1.trans d2).trans d3).trans d4
    have hl0 : H l = Option.none := hs4.free D4 hl
    have nls := ne_src hs4 hl
    clear d1 d2 d3 d4 hs1 hs2 hs3
    dsimp only
    generalize (1 + v1) * (1 + v2) * pz = s0 at *
    generalize (1 + v1) * (1 + v4) = t1 at *
    -- if take(2) == 0: spans[1] = spans[1] * prime()
    refine ⟨fun σ' H' => ∃ s1 : Int, σ' = [some (.ref s), some (.int (1 + v1)), some (.ref l), none, none, none, none, none, none, none] ∧ H' l = some (.lst [.int s0, .int s1]) ∧ 0 < s1 ∧ s1 < 2 ^ 80 ∧ Src H' s (n + 6) ∧ Dr s H H', ?_, ?_⟩
    · refine ⟨_, rfl, s, n + 4, 2, rfl, hs4.same (same_new hl), by omega, by decide, by decide, fun v5 H5 _ _ hs5 d5 => ⟨rfl, _, rfl, ite2 (fun _ => ?_) (fun _ => ?_)⟩⟩
      · have hl5 := d5 l _ upd_same nls
        have D5 : Dr s H H5 := (D4.then (same_new hl)).trans d5
        refine ⟨_, rfl, l, _, _, _, rfl, rfl, SqL.of hl5, at_of (j := 1) rfl rfl, _, rfl, s, n + 5, rfl, hs5, by omega, fun pw H6 r0 r1 hs6 d6 => ⟨_, _, rfl, rfl, mw (by omega) (by omega) (by omega) (by omega), ?_⟩⟩
        have hl6 := d6 l _ hl5 nls
        have k7 : 0 < t1 * pw := Int.mul_pos (by omega) (by omega)
        have k8 : t1 * pw ≤ 30 * 40 * 1000000000000000009 := Int.mul_le_mul k6 r1 (by omega) (by decide)
        refine ⟨_, rfl, l, _, _, _, rfl, rfl, hl6, rfl, t1 * pw, rfl, upd_same, k7, by omega, hs6.mut nls, (D5.trans d6).mut hl0⟩
      · exact ⟨t1, rfl, d5 l _ upd_same nls, k5, by omega, hs5.mono (by omega), (D4.then (same_new hl)).trans d5⟩
    rintro σ' H7 ⟨s1, rfl, hl7, s10, s11, hs7, D7⟩
    have g0 := gcd_pos (a := s0) (b := s1) k3
    have gd1 : (Int.gcd s0 s1 : Int) ∣ s0 := Int.gcd_dvd_left ..
    have gd2 : (Int.gcd s0 s1 : Int) ∣ s1 := Int.gcd_dvd_right ..
    have gle : (Int.gcd s0 s1 : Int) ≤ s0 := Int.le_of_dvd k3 gd1
    clear hs4 D4 hl hs
    -- part, at, off
    refine ⟨_, rfl, l, _, _, _, rfl, rfl, SqL.of hl7, at_of (j := 0) rfl rfl, _, rfl, l, _, _, _, rfl, rfl, SqL.of hl7, at_of (j := 1) rfl rfl, s0, s1, rfl, by omega, by omega, ?_⟩
    refine ⟨_, rfl, s, n + 6, rfl, hs7, by omega, fun z H8 z0 z1 hs8 d8 => ?_⟩
    refine ⟨_, rfl, s, n + 10, 3, rfl, hs8, by omega, by decide, by decide, fun w1 H9 _ _ hs9 d9 => ?_⟩
    refine ⟨_, rfl, s, n + 11, 5, rfl, hs9, by omega, by decide, by decide, fun w2 H10 _ _ hs10 d10 => ⟨_, _, rfl, rfl, _, _, rfl, rfl, mw (by omega) (by omega) (by omega) (by omega), ?_⟩⟩
    have hl10 := d10 l _ (d9 l _ (d8 l _ hl7 nls) nls) nls
    have D10 : Dr s H H10 := ((D7.trans d8).trans d9).trans d10
    dsimp only
    generalize w1 * (w2 - 2) = off
    clear D7 d8 d9 d10 hs7 hs8 hs9 hl7
    -- first, second
    refine ⟨_, rfl, l, _, _, _, rfl, rfl, SqL.of hl10, at_of (j := 0) rfl rfl, _, rfl, ?_⟩
    intro a da na nda nea; refine ⟨a, da, s0, z, rfl, upd_same, k3, fun H11 ha ka => ⟨rfl, ?_⟩⟩; have sa := Same.made na nda ka; clear ka nea nda
    have hl11 := sa _ _ hl10
    refine ⟨_, rfl, l, _, _, _, rfl, rfl, SqL.of hl11, at_of (j := 1) rfl rfl, _, rfl, _, rfl, _, _, rfl, rfl, ?_⟩
    intro c dc nc ndc nec; refine ⟨c, dc, s1, z + off, rfl, upd_same, s10, fun H12 hc kc => ⟨rfl, ?_⟩⟩; have sc := Same.made nc ndc kc; clear kc nec ndc
    have S12 := sa.trans sc
    have hA := ha.same sc
    have hC := hc
    have hl12 := sc _ _ hl11
    have D12 := D10.then S12
    have hs12 := hs10.same S12
    have P1 := pd_of (p := s0) (b := z) k3 (by omega)
    have P2 := pd_of (p := s1) (b := z + off) s10 (by omega)
    clear ha hc sa sc hl10 hl11 D10 hs10 S12
    have dv : (Int.gcd s0 s1 : Int) ∣ (z + off) % s1 - z % s0 ↔ (Int.gcd s0 s1 : Int) ∣ off := by
      have x1 : (Int.gcd s0 s1 : Int) ∣ z - z % s0 := dvd_sub_emod gd1
      have x2 : (Int.gcd s0 s1 : Int) ∣ (z + off) - (z + off) % s1 := dvd_sub_emod gd2
      constructor
      · intro x3
        have := Int.dvd_add (Int.dvd_sub x3 x1) x2
        rwa [show (z + off) % s1 - z % s0 - (z - z % s0) + (z + off - (z + off) % s1) = off by omega] at this
      · intro x3
        have := Int.dvd_sub (Int.dvd_add x3 x1) x2
        rwa [show off + (z - z % s0) - (z + off - (z + off) % s1) = (z + off) % s1 - z % s0 by omega] at this
    have zb1 : s0 ∣ z - z % s0 := dvd_sub_emod (Int.dvd_refl _)
    have zb2 : s1 ∣ z + off - (z + off) % s1 := dvd_sub_emod (Int.dvd_refl _)
    generalize hb1 : z % s0 = b1 at *
    generalize hb2 : (z + off) % s1 = b2 at *
    refine ⟨_, _, rfl, ?_⟩
    -- found = meet(first, second)
    refine ⟨_, rfl, _, rfl, a, c, s0, b1, s1, b2, rfl, hA, hC, P1, P2, fun hn H13 s13 => ?_, fun m y0 M hg y H13 ny s13 hy => ?_⟩
    · refine ⟨_, rfl, _, rfl, _, _, rfl, rfl, (by omega), rfl, _, rfl, ifNeT (fmodN g0 fun d => hn (dv.mpr d)) ?_⟩
      refine ⟨_, rfl, rfl, _, rfl, iteT ?_⟩
      refine ⟨_, rfl, _, rfl, c, a, s1, b2, s0, b1, rfl, hC.same s13, hA.same s13, P2, P1, fun _ H14 s14 => ?_, fun m z M hg => ?_⟩
      · exact ⟨rfl, q _ ((hs12.same (s13.trans s14)).mono (by omega)) (D12.then (s13.trans s14))⟩
      · refine (hn ?_).elim
        rw [Int.gcd_comm, show b2 - b1 = -(b1 - b2) by omega]
        exact Int.dvd_neg.mpr hg
    · have goff := dv.mp hg
      have m0 := M.m0
      refine ⟨_, rfl, _, rfl, _, _, rfl, rfl, (by omega), rfl, _, rfl, ifNeF (fmod0 g0 goff) ?_⟩
      have hl13 := s13 _ _ hl12
      have hA13 := hA.same s13
      have hC13 := hC.same s13
      have dle : s0 / (Int.gcd s0 s1 : Int) ≤ s0 := Int.ediv_le_self _ (by omega)
      have dge : 0 ≤ s0 / (Int.gcd s0 s1 : Int) := Int.ediv_nonneg (by omega) (by omega)
      have em : m = s0 / (Int.gcd s0 s1 : Int) * s1 := by
        rw [M.lcm, Int.mul_comm (s0 / (Int.gcd s0 s1 : Int)) s1, ← Int.mul_ediv_assoc s1 gd1, Int.mul_comm]
      have mb : m < 2 ^ 200 := by
        have : s0 / (Int.gcd s0 s1 : Int) * s1 ≤ 2 ^ 80 * 2 ^ 80 := Int.mul_le_mul (by omega) (by omega) (by omega) (by decide)
        omega
      -- found is None or found.period != .. or meet(second, first) != found
      refine ⟨_, rfl, rfl, _, rfl, iteF ?_⟩
      refine ⟨_, rfl, _, _, _, _, _, rfl, (hy).choose_spec, T.cl_Lamp, T.na_Lamp_period, lf_period _ _, _, rfl, l, _, _, _, rfl, rfl, SqL.of hl13, at_of (j := 0) rfl rfl, _, rfl, _, _, rfl, rfl, dvw g0 (by omega), _, rfl, l, _, _, _, rfl, rfl, SqL.of hl13, at_of (j := 1) rfl rfl, _, _, rfl, rfl, mw (by omega) (by omega) (by omega) (by omega), rfl, _, rfl, ifNeF em ?_⟩
      refine ⟨_, rfl, _, rfl, c, a, s1, b2, s0, b1, rfl, hC13, hA13, P2, P1, fun hn => ?_, fun m' y1 M' hg' y' H14 ny' s14 hy' => ?_⟩
      · exact (hn (by rw [Int.gcd_comm, show b1 - b2 = -(b2 - b1) by omega]; exact Int.dvd_neg.mpr hg)).elim
      obtain ⟨e1, e2⟩ := M.swap M'
      subst e1 e2
      refine ⟨_, rfl, _, _, _, _, rfl, (hy').choose_spec, T.kl_Lamp.ty (hy.same s14).choose_spec, nf_self, _, _, _, _, rfl, hy', .inl ⟨_, _, _, rfl, hy.same s14, _, rfl, ?_⟩⟩
      rw [decide_eq_true (show m = m ∧ y0 = y0 from ⟨rfl, rfl⟩)]
      refine ⟨_, rfl, iteF ?_⟩
      have S14 := s13.trans s14
      have hl14 := s14 _ _ hl13
      have hy14 := hy.same s14
      have hA14 := hA.same S14
      clear hl13 hA13 hC13 hl12 hC hA hy hy' ny ny' M'
      -- least = found.beat
      refine ⟨_, rfl, _, _, _, _, _, rfl, (hy14).choose_spec, T.cl_Lamp, T.na_Lamp_beat, lf_beat _ _, ?_⟩
      obtain ⟨x1, x2⟩ := M.at
      have y1 : s0 ∣ y0 - z := by
        have := Int.dvd_sub x1 zb1
        rwa [show y0 - b1 - (z - b1) = y0 - z by omega] at this
      have y2 : s1 ∣ y0 - z - off := by
        have := Int.dvd_sub x2 zb2
        rwa [show y0 - b2 - (z + off - b2) = y0 - z - off by omega] at this
      refine ⟨_, rfl, _, rfl, _, _, rfl, rfl, _, rfl, l, _, _, _, rfl, rfl, SqL.of hl14, at_of (j := 0) rfl rfl, _, _, rfl, rfl, (by omega), rfl, _, rfl, ifNeF (fmod0 k3 y1) ?_⟩
      refine ⟨_, rfl, _, rfl, _, _, rfl, rfl, _, rfl, _, _, rfl, rfl, _, rfl, l, _, _, _, rfl, rfl, SqL.of hl14, at_of (j := 1) rfl rfl, _, _, rfl, rfl, (by omega), rfl, _, rfl, ifNeF (fmod0 s10 y2) ?_⟩
      have Pm : Pd m y0 := ⟨m0, Nat.lt_of_lt_of_le (show m.natAbs < 2 ^ 200 by omega) (Nat.pow_le_pow_right (by decide) (by decide)), M.c0, M.cm⟩
      -- meet(first, first) == first and meet(found, first) == found
      have fin : ∀ H15, Same H14 H15 → ∀ R : VK, (∀ H', Same H14 H' → R (.bl true) H') →
          tAndV (tOp (rEqOwn K T.C_Lamp (spLampEq K T.C_Lamp) E0) (tCall (spMeet T.C_Lamp) [] E0 (tCons (tVar 6) (tCons (tVar 6) tNil))) (tVar 6))
            (tOp (rEqOwn K T.C_Lamp (spLampEq K T.C_Lamp) E0) (tCall (spMeet T.C_Lamp) [] E0 (tCons (tVar 8) (tCons (tVar 6) tNil))) (tVar 8))
            [some (.ref s), some (.int (1 + v1)), some (.ref l), some (.int (Int.gcd s0 s1 : Int)), some (.int z), some (.int off), some (.ref a), some (.ref c), some (.ref y), some (.int y0)] H15 R := by
        intro H15 s15 R hR
        have hA15 := hA14.same s15
        have hy15 := hy14.same s15
        refine ⟨_, rfl, _, rfl, a, a, s0, b1, s0, b1, rfl, hA15, hA15, P1, P1, fun hn => ?_, fun m2 c2 M2 _ x2' H16 _ s16 hx => ?_⟩
        · exact (hn (by rw [Int.sub_self]; exact Int.dvd_zero _)).elim
        obtain ⟨e3, e4⟩ := M2.self k3 P1.b0 P1.bp
        rw [e3, e4] at hx
        refine ⟨_, rfl, _, _, _, _, rfl, (hx).choose_spec, T.kl_Lamp.ty (hA15.same s16).choose_spec, nf_self, _, _, _, _, rfl, hx, .inl ⟨_, _, _, rfl, hA15.same s16, _, rfl, ?_⟩⟩
        rw [decide_eq_true (show s0 = s0 ∧ b1 = b1 from ⟨rfl, rfl⟩)]
        have dm : s0 ∣ m := by rw [M.me]; exact Int.dvd_mul_right _ _
        refine ⟨_, rfl, iteT ⟨_, rfl, _, rfl, y, a, m, y0, s0, b1, rfl, hy15.same s16, hA15.same s16, Pm, P1, fun hn => ?_, fun m4 c4 M4 _ x4 H17 _ s17 hx4 => ?_⟩⟩
        · refine (hn ?_).elim
          rw [gcd_of_dvd k3 dm, show b1 - y0 = -(y0 - b1) by omega]
          exact Int.dvd_neg.mpr x1
        obtain ⟨e5, e6⟩ := M4.within k3 M.c0 M.cm dm
        rw [e5, e6] at hx4
        refine ⟨_, rfl, _, _, _, _, rfl, (hx4).choose_spec, T.kl_Lamp.ty ((hy15.same s16).same s17).choose_spec, nf_self, _, _, _, _, rfl, hx4, .inl ⟨_, _, _, rfl, (hy15.same s16).same s17, _, rfl, ?_⟩⟩
        rw [decide_eq_true (show m = m ∧ y0 = y0 from ⟨rfl, rfl⟩)]
        exact hR _ ((s15.trans s16).trans s17)
      have fin2 : ∀ H', Same H14 H' → Q (.bl true) H' := fun H' s' => q _ ((hs12.same (S14.trans s')).mono (by omega)) (D12.then (S14.trans s'))
      refine ⟨_, rfl, rfl, _, rfl, ?_⟩
      by_cases h0 : off = 0
      · refine ifEqT h0 ⟨_, rfl, _, _, _, rfl, hy14.choose_spec, lf_no _ _ (by decide +kernel) (by decide +kernel), _, rfl, y, m, y0, z, rfl, hy14, m0, true, ?_, iteF ?_⟩
        · have : m ∣ z - y0 := (M.iff z).mpr ⟨zb1, by rw [h0, Int.add_zero] at zb2; exact zb2⟩
          rw [decide_eq_true this]
        · exact fin H14 (Same.refl _) _ fin2
      · exact ifEqF h0 (iteF (fin H14 (Same.refl _) _ fin2))
end
section
variable {P : Program} {w : World} {K : PySem.W.Frag} {mg : Str → Option Value} {base : Heap}
def spLaw (K : PySem.W.Frag) : Sp := fun vs H Q _ => ∃ (a : Addr) (ns : List Int), vs = [.ref a] ∧ SqL K H a (ns.map V.int) ∧ ns.length ≤ 63 ∧ ∀ H', Q (.bl true) H'
theorem Dr.back {l : Addr} {H H1 H2 : Hp} (hl : H l = Option.none) (s : Same H H1) (d : Dr l H1 H2) : Same H H2 := fun b o e => d b o (s b o e) (ne_of_none e hl)
theorem cutV_mem {xs : List V} {lo hi : Option Int} {x : V} (h : x ∈ cutV xs lo hi) : x ∈ xs := by
  unfold cutV at h
  exact List.mem_of_mem_drop (List.mem_of_mem_take h)
theorem ok_l_law (T : Top K mg) : FnOk P w K mg base CX0 7 T.f_l_law T.d_l_law ["_law_script"] (spLaw K) := by
  have G_l_great_right := ok_l_great_right (P := P) (w := w) (base := base) T
  have G_l_small_right := ok_l_small_right (P := P) (w := w) (base := base) T
  have G_l_source := ok_l_source (P := P) (w := w) (base := base) T
  refine T.F_l_law.ok sc_l_law (fun vs H Q E h => ?_) (fun cdv A outer s H vs Q E hr h => ?_)
  · obtain ⟨a, ns, rfl, _⟩ := h; rfl
  · obtain ⟨a, ns, rfl, hS, hn, q⟩ := h
    refine ⟨_, (pss_cons (ps_for PassesOwn.never rfl (pi_list (pe_slice sl_list (pe_op op_catS (pv 0) (pe_lst (pa_cons pe_int pa_nil))) po_none (po_some pe_int))) (pg_name (i := 1) sc_l_law.nd rfl (Or.inl rfl)) (pss_cons (ps_set (i := 2) sc_l_law.nd rfl (Or.inl rfl) (pe_call G_l_source (hr.mono (by decide)) rfl T.g_l_source T.F_l_source.kp T.b_l_source .nil pass0 (pa_cons (pv 1) pa_nil)))
      (pss_one (ps_if (PW.pt (pw_or (pt_not (pt_val (pe_call G_l_small_right (hr.mono (by decide)) rfl T.g_l_small_right T.F_l_small_right.kp T.b_l_small_right .nil pass0 (pa_cons (pv 2) pa_nil)))) (pw_or1 (pt_not (pt_val (pe_call G_l_great_right (hr.mono (by decide)) rfl T.g_l_great_right T.F_l_great_right.kp T.b_l_great_right .nil pass0 (pa_cons (pv 2) pa_nil))))))) (pss_one (ps_ret pe_bl)) pss_nil))))
      (pss_one (ps_ret pe_bl))), ?_⟩
    refine ⟨_, rfl, (by show 1 ≤ sizeLine; decide), fun l0 hl0 => ?_⟩
    have s0 := same_new (o := .lst [.int 0]) hl0
    refine ⟨a, l0, _, _, rfl, rfl, s0.seq hS, SqL.of upd_same, ?_, fun p hp => ?_⟩
    · show (ns.map V.int).length + 1 ≤ sizeLine
      rw [List.length_map]
      exact Nat.le_trans (Nat.add_le_add_right hn 1) (by decide)
    have s1 := s0.trans (same_new (o := .lst (ns.map V.int ++ [.int 0])) hp)
    refine ⟨4, rfl, p, _, rfl, SqL.of upd_same, fun p2 hp2 => ?_⟩
    have hints : ∀ x ∈ cutV (ns.map V.int ++ [.int 0]) none (some 4), ∃ z : Int, x = .int z := by
      intro x hx
      have := cutV_mem hx
      simp only [List.mem_append, List.mem_map, List.mem_singleton] at this
      rcases this with ⟨z, _, rfl⟩ | rfl
      · exact ⟨z, rfl⟩
      · exact ⟨0, rfl⟩
    generalize cutV (ns.map V.int ++ [.int 0]) none (some 4) = xs at *
    generalize hH : upd (upd (upd H l0 (.lst [.int 0])) p (.lst (ns.map V.int ++ [.int 0]))) p2 (.lst xs) = H2
    have hx2 : H2 p2 = some (.lst xs) := by rw [← hH]; exact upd_same
    refine ⟨p2, rfl, ⟨_, SqL.of hx2⟩, for_list (K := K) (a := p2) (xs := xs) (fun _ σ H' => (∃ v1 v2, σ = [some (.ref a), v1, v2]) ∧ Same H2 H') ⟨⟨none, none, rfl⟩, Same.refl _⟩ (fun _ σ H' _ ⟨_, s'⟩ => SqL.of (s' _ _ hx2)) ?_ ?_⟩
    · rintro i x σ H' hi ⟨⟨v1, v2, rfl⟩, s2⟩
      obtain ⟨z, rfl⟩ := hints x (List.mem_of_getElem? hi)
      refine ⟨_, rfl, z, rfl, fun l H3 nl s3 hsrc => ?_⟩
      refine ⟨_, rfl, l, 0, rfl, hsrc, by decide, fun H4 hs4 d4 => ⟨true, rfl, iteF ?_⟩⟩
      refine ⟨_, rfl, l, 0 + 10, rfl, hs4, by decide, fun H5 hs5 d5 => ⟨true, rfl, iteF ?_⟩⟩
      exact ⟨⟨_, _, rfl⟩, s2.trans (Dr.back nl s3 (d4.trans d5))⟩
    · rintro σ H' ⟨⟨v1, v2, rfl⟩, _⟩
      exact q H'
end
theorem all_mk {l : PySem.W.OpenLaw} {w : World} {K : PySem.W.Frag} {h : Heap} {mg : Str → Option Value} {fa C_Lamp f_is_whole f_check_beat f_inverse f_Lamp_init f_Lamp_eq f_Lamp_shines f_seen_from f_meet f_l_mixed f_l_source f_l_take f_l_prime f_l_whole f_l_divisor f_l_small_right f_l_great_right f_l_law : Addr} (X : K.In h) (G : h.Ns mainGlobals mg) (hfa : mg "law" = some (.ref fa))
    {od_is_whole an_is_whole od_check_beat an_check_beat od_inverse an_inverse od_Lamp_init an_Lamp_init od_Lamp_eq an_Lamp_eq od_Lamp_shines an_Lamp_shines od_seen_from an_seen_from od_meet an_meet od_l_mixed an_l_mixed od_l_source an_l_source od_l_take an_l_take od_l_prime an_l_prime od_l_whole an_l_whole od_l_divisor an_l_divisor od_l_small_right an_l_small_right od_l_great_right an_l_great_right od_l_law an_l_law : Option Addr} {sl_is_whole sl_check_beat sl_inverse sl_Lamp_init sl_Lamp_eq sl_Lamp_shines sl_seen_from sl_meet sl_l_mixed sl_l_source sl_l_take sl_l_prime sl_l_whole sl_l_divisor sl_l_small_right sl_l_great_right sl_l_law : Array (Option Value)} {oc_is_whole kV_is_whole dc_is_whole pm_is_whole cd_is_whole ct_is_whole oc_check_beat kV_check_beat dc_check_beat pm_check_beat cd_check_beat ct_check_beat oc_inverse kV_inverse dc_inverse pm_inverse cd_inverse ct_inverse oc_Lamp_init kV_Lamp_init dc_Lamp_init pm_Lamp_init cd_Lamp_init ct_Lamp_init oc_Lamp_eq kV_Lamp_eq dc_Lamp_eq pm_Lamp_eq cd_Lamp_eq ct_Lamp_eq oc_Lamp_shines kV_Lamp_shines dc_Lamp_shines pm_Lamp_shines cd_Lamp_shines ct_Lamp_shines oc_seen_from kV_seen_from dc_seen_from pm_seen_from cd_seen_from ct_seen_from oc_meet kV_meet dc_meet pm_meet cd_meet ct_meet oc_l_mixed kV_l_mixed dc_l_mixed pm_l_mixed cd_l_mixed ct_l_mixed oc_l_source kV_l_source dc_l_source pm_l_source cd_l_source ct_l_source oc_l_take kV_l_take dc_l_take pm_l_take cd_l_take ct_l_take oc_l_prime kV_l_prime dc_l_prime pm_l_prime cd_l_prime ct_l_prime oc_l_whole kV_l_whole dc_l_whole pm_l_whole cd_l_whole ct_l_whole oc_l_divisor kV_l_divisor dc_l_divisor pm_l_divisor cd_l_divisor ct_l_divisor oc_l_small_right kV_l_small_right dc_l_small_right pm_l_small_right cd_l_small_right ct_l_small_right oc_l_great_right kV_l_great_right dc_l_great_right pm_l_great_right cd_l_great_right ct_l_great_right oc_l_law kV_l_law dc_l_law pm_l_law cd_l_law ct_l_law : Value}
    (aC_Lamp : PySem.W.nsIn K mainGlobals "Lamp" = some (some (.ref C_Lamp)))
    (pg_Lamp : PySem.W.plainGet K C_Lamp Str.empty = true)
    (hd_Lamp : PySem.W.hasDictIn K C_Lamp = true)
    (po_Lamp : PySem.W.plainOver K C_Lamp = true)
    (sa_Lamp : PySem.W.findIn K (.ref C_Lamp) "__setattr__" = some (some (.builtin "object.__setattr__")))
    (mk_Lamp : PySem.W.makesIn K C_Lamp = true)
    (kc_Lamp : PySem.W.keepIn K (.ref C_Lamp) = true)
    (kha_Lamp : PySem.W.findIn K (.ref C_Lamp) "__class__" = some (some (.builtin "object.__class__")))
    (khn_Lamp : PySem.W.specialIn K (.builtin "object.__class__") "__get__" = some (some (.builtin "getset_descriptor.__get__")))
    (kht_Lamp : PySem.W.takesIn K (.builtin "object.__class__") = some true)
    (khm_Lamp : PySem.W.mroIn K C_Lamp (.type "object") = some true)
    (na_Lamp_period : PySem.W.findIn K (.ref C_Lamp) "period" = some none)
    (na_Lamp_beat : PySem.W.findIn K (.ref C_Lamp) "beat" = some none)
    (a_is_whole : PySem.W.nsIn K mainGlobals "is_whole" = some (some (.ref f_is_whole)))
    (l_is_whole : K.lookup f_is_whole = some ⟨oc_is_whole, od_is_whole, .func (PySem.W.fnOf "is_whole" "is_whole" (defArgs s_is_whole) (defBody s_is_whole) (defScope s_is_whole) .none kV_is_whole dc_is_whole pm_is_whole an_is_whole cd_is_whole ct_is_whole), sl_is_whole⟩)
    (c_is_whole : PySem.W.codeIn K cd_is_whole "is_whole" = true)
    (k_is_whole : PySem.W.keepIn K (.ref f_is_whole) = true)
    (a_check_beat : PySem.W.nsIn K mainGlobals "check_beat" = some (some (.ref f_check_beat)))
    (l_check_beat : K.lookup f_check_beat = some ⟨oc_check_beat, od_check_beat, .func (PySem.W.fnOf "check_beat" "check_beat" (defArgs s_check_beat) (defBody s_check_beat) (defScope s_check_beat) .none kV_check_beat dc_check_beat pm_check_beat an_check_beat cd_check_beat ct_check_beat), sl_check_beat⟩)
    (c_check_beat : PySem.W.codeIn K cd_check_beat "check_beat" = true)
    (k_check_beat : PySem.W.keepIn K (.ref f_check_beat) = true)
    (a_inverse : PySem.W.nsIn K mainGlobals "inverse" = some (some (.ref f_inverse)))
    (l_inverse : K.lookup f_inverse = some ⟨oc_inverse, od_inverse, .func (PySem.W.fnOf "inverse" "inverse" (defArgs s_inverse) (defBody s_inverse) (defScope s_inverse) .none kV_inverse dc_inverse pm_inverse an_inverse cd_inverse ct_inverse), sl_inverse⟩)
    (c_inverse : PySem.W.codeIn K cd_inverse "inverse" = true)
    (k_inverse : PySem.W.keepIn K (.ref f_inverse) = true)
    (a_Lamp_init : PySem.W.findIn K (.ref C_Lamp) "__init__" = some (some (.ref f_Lamp_init)))
    (j_Lamp_init : PySem.W.isFn K (.ref f_Lamp_init) = true)
    (l_Lamp_init : K.lookup f_Lamp_init = some ⟨oc_Lamp_init, od_Lamp_init, .func (PySem.W.fnOf "__init__" "Lamp.__init__" (defArgs s_Lamp_init) (defBody s_Lamp_init) (defScope s_Lamp_init) .none kV_Lamp_init dc_Lamp_init pm_Lamp_init an_Lamp_init cd_Lamp_init ct_Lamp_init), sl_Lamp_init⟩)
    (c_Lamp_init : PySem.W.codeIn K cd_Lamp_init "Lamp.__init__" = true)
    (k_Lamp_init : PySem.W.keepIn K (.ref f_Lamp_init) = true)
    (a_Lamp_eq : PySem.W.findIn K (.ref C_Lamp) "__eq__" = some (some (.ref f_Lamp_eq)))
    (j_Lamp_eq : PySem.W.isFn K (.ref f_Lamp_eq) = true)
    (l_Lamp_eq : K.lookup f_Lamp_eq = some ⟨oc_Lamp_eq, od_Lamp_eq, .func (PySem.W.fnOf "__eq__" "Lamp.__eq__" (defArgs s_Lamp_eq) (defBody s_Lamp_eq) (defScope s_Lamp_eq) .none kV_Lamp_eq dc_Lamp_eq pm_Lamp_eq an_Lamp_eq cd_Lamp_eq ct_Lamp_eq), sl_Lamp_eq⟩)
    (c_Lamp_eq : PySem.W.codeIn K cd_Lamp_eq "Lamp.__eq__" = true)
    (k_Lamp_eq : PySem.W.keepIn K (.ref f_Lamp_eq) = true)
    (a_Lamp_shines : PySem.W.findIn K (.ref C_Lamp) "shines" = some (some (.ref f_Lamp_shines)))
    (j_Lamp_shines : PySem.W.isFn K (.ref f_Lamp_shines) = true)
    (l_Lamp_shines : K.lookup f_Lamp_shines = some ⟨oc_Lamp_shines, od_Lamp_shines, .func (PySem.W.fnOf "shines" "Lamp.shines" (defArgs s_Lamp_shines) (defBody s_Lamp_shines) (defScope s_Lamp_shines) .none kV_Lamp_shines dc_Lamp_shines pm_Lamp_shines an_Lamp_shines cd_Lamp_shines ct_Lamp_shines), sl_Lamp_shines⟩)
    (c_Lamp_shines : PySem.W.codeIn K cd_Lamp_shines "Lamp.shines" = true)
    (k_Lamp_shines : PySem.W.keepIn K (.ref f_Lamp_shines) = true)
    (a_seen_from : PySem.W.nsIn K mainGlobals "seen_from" = some (some (.ref f_seen_from)))
    (l_seen_from : K.lookup f_seen_from = some ⟨oc_seen_from, od_seen_from, .func (PySem.W.fnOf "seen_from" "seen_from" (defArgs s_seen_from) (defBody s_seen_from) (defScope s_seen_from) .none kV_seen_from dc_seen_from pm_seen_from an_seen_from cd_seen_from ct_seen_from), sl_seen_from⟩)
    (c_seen_from : PySem.W.codeIn K cd_seen_from "seen_from" = true)
    (k_seen_from : PySem.W.keepIn K (.ref f_seen_from) = true)
    (a_meet : PySem.W.nsIn K mainGlobals "meet" = some (some (.ref f_meet)))
    (l_meet : K.lookup f_meet = some ⟨oc_meet, od_meet, .func (PySem.W.fnOf "meet" "meet" (defArgs s_meet) (defBody s_meet) (defScope s_meet) .none kV_meet dc_meet pm_meet an_meet cd_meet ct_meet), sl_meet⟩)
    (c_meet : PySem.W.codeIn K cd_meet "meet" = true)
    (k_meet : PySem.W.keepIn K (.ref f_meet) = true)
    (a_l_mixed : PySem.W.nsIn K mainGlobals "_law_mixed" = some (some (.ref f_l_mixed)))
    (l_l_mixed : K.lookup f_l_mixed = some ⟨oc_l_mixed, od_l_mixed, .func (PySem.W.fnOf "_law_mixed" "_law_mixed" (defArgs s_l_mixed) (defBody s_l_mixed) (defScope s_l_mixed) .none kV_l_mixed dc_l_mixed pm_l_mixed an_l_mixed cd_l_mixed ct_l_mixed), sl_l_mixed⟩)
    (c_l_mixed : PySem.W.codeIn K cd_l_mixed "_law_mixed" = true)
    (k_l_mixed : PySem.W.keepIn K (.ref f_l_mixed) = true)
    (a_l_source : PySem.W.nsIn K mainGlobals "_law_source" = some (some (.ref f_l_source)))
    (l_l_source : K.lookup f_l_source = some ⟨oc_l_source, od_l_source, .func (PySem.W.fnOf "_law_source" "_law_source" (defArgs s_l_source) (defBody s_l_source) (defScope s_l_source) .none kV_l_source dc_l_source pm_l_source an_l_source cd_l_source ct_l_source), sl_l_source⟩)
    (c_l_source : PySem.W.codeIn K cd_l_source "_law_source" = true)
    (k_l_source : PySem.W.keepIn K (.ref f_l_source) = true)
    (a_l_take : PySem.W.nsIn K mainGlobals "_law_take" = some (some (.ref f_l_take)))
    (l_l_take : K.lookup f_l_take = some ⟨oc_l_take, od_l_take, .func (PySem.W.fnOf "_law_take" "_law_take" (defArgs s_l_take) (defBody s_l_take) (defScope s_l_take) .none kV_l_take dc_l_take pm_l_take an_l_take cd_l_take ct_l_take), sl_l_take⟩)
    (c_l_take : PySem.W.codeIn K cd_l_take "_law_take" = true)
    (k_l_take : PySem.W.keepIn K (.ref f_l_take) = true)
    (a_l_prime : PySem.W.nsIn K mainGlobals "_law_prime" = some (some (.ref f_l_prime)))
    (l_l_prime : K.lookup f_l_prime = some ⟨oc_l_prime, od_l_prime, .func (PySem.W.fnOf "_law_prime" "_law_prime" (defArgs s_l_prime) (defBody s_l_prime) (defScope s_l_prime) .none kV_l_prime dc_l_prime pm_l_prime an_l_prime cd_l_prime ct_l_prime), sl_l_prime⟩)
    (c_l_prime : PySem.W.codeIn K cd_l_prime "_law_prime" = true)
    (k_l_prime : PySem.W.keepIn K (.ref f_l_prime) = true)
    (a_l_whole : PySem.W.nsIn K mainGlobals "_law_whole" = some (some (.ref f_l_whole)))
    (l_l_whole : K.lookup f_l_whole = some ⟨oc_l_whole, od_l_whole, .func (PySem.W.fnOf "_law_whole" "_law_whole" (defArgs s_l_whole) (defBody s_l_whole) (defScope s_l_whole) .none kV_l_whole dc_l_whole pm_l_whole an_l_whole cd_l_whole ct_l_whole), sl_l_whole⟩)
    (c_l_whole : PySem.W.codeIn K cd_l_whole "_law_whole" = true)
    (k_l_whole : PySem.W.keepIn K (.ref f_l_whole) = true)
    (a_l_divisor : PySem.W.nsIn K mainGlobals "_law_divisor" = some (some (.ref f_l_divisor)))
    (l_l_divisor : K.lookup f_l_divisor = some ⟨oc_l_divisor, od_l_divisor, .func (PySem.W.fnOf "_law_divisor" "_law_divisor" (defArgs s_l_divisor) (defBody s_l_divisor) (defScope s_l_divisor) .none kV_l_divisor dc_l_divisor pm_l_divisor an_l_divisor cd_l_divisor ct_l_divisor), sl_l_divisor⟩)
    (c_l_divisor : PySem.W.codeIn K cd_l_divisor "_law_divisor" = true)
    (k_l_divisor : PySem.W.keepIn K (.ref f_l_divisor) = true)
    (a_l_small_right : PySem.W.nsIn K mainGlobals "_law_small_right" = some (some (.ref f_l_small_right)))
    (l_l_small_right : K.lookup f_l_small_right = some ⟨oc_l_small_right, od_l_small_right, .func (PySem.W.fnOf "_law_small_right" "_law_small_right" (defArgs s_l_small_right) (defBody s_l_small_right) (defScope s_l_small_right) .none kV_l_small_right dc_l_small_right pm_l_small_right an_l_small_right cd_l_small_right ct_l_small_right), sl_l_small_right⟩)
    (c_l_small_right : PySem.W.codeIn K cd_l_small_right "_law_small_right" = true)
    (k_l_small_right : PySem.W.keepIn K (.ref f_l_small_right) = true)
    (a_l_great_right : PySem.W.nsIn K mainGlobals "_law_great_right" = some (some (.ref f_l_great_right)))
    (l_l_great_right : K.lookup f_l_great_right = some ⟨oc_l_great_right, od_l_great_right, .func (PySem.W.fnOf "_law_great_right" "_law_great_right" (defArgs s_l_great_right) (defBody s_l_great_right) (defScope s_l_great_right) .none kV_l_great_right dc_l_great_right pm_l_great_right an_l_great_right cd_l_great_right ct_l_great_right), sl_l_great_right⟩)
    (c_l_great_right : PySem.W.codeIn K cd_l_great_right "_law_great_right" = true)
    (k_l_great_right : PySem.W.keepIn K (.ref f_l_great_right) = true)
    (a_l_law : PySem.W.nsIn K mainGlobals "law" = some (some (.ref f_l_law)))
    (l_l_law : K.lookup f_l_law = some ⟨oc_l_law, od_l_law, .func (PySem.W.fnOf "law" "law" (defArgs s_l_law) (defBody s_l_law) (defScope s_l_law) .none kV_l_law dc_l_law pm_l_law an_l_law cd_l_law ct_l_law), sl_l_law⟩)
    (c_l_law : PySem.W.codeIn K cd_l_law "law" = true)
    (k_l_law : PySem.W.keepIn K (.ref f_l_law) = true)
    (ne1_Lamp : PySem.W.findIn K (.ref C_Lamp) "__ne__" = some (some (.builtin "object.__ne__")))
    (ne2_Lamp : PySem.W.subIn K (.ref C_Lamp) (.type "object") = some true)
    (n_isinstance : PySem.W.nsIn K mainGlobals "isinstance" = some none)
    (n_int : PySem.W.nsIn K mainGlobals "int" = some none)
    (n_bool : PySem.W.nsIn K mainGlobals "bool" = some none)
    (n_len : PySem.W.nsIn K mainGlobals "len" = some none)
    (n_range : PySem.W.nsIn K mainGlobals "range" = some none)
    (i_gcd : PySem.W.nsIn K mainGlobals "gcd" = some (some (.builtin "math.gcd")))
    : ∃ fd : FuncData, (∀ (s : Shared) (v : Value), BindsTo s fd ⟨[v], []⟩ [("_law_script", v)]) ∧ ∀ base : Heap, K.In base → base.Ns mainGlobals mg → FnOk l.prog w K mg base CX0 7 fa fd ["_law_script"] (spLaw K) := by
  have e := hfa.symm.trans (PySem.W.mg_of X G a_l_law)
  cases e
  exact ⟨_, fun s v => .of_eq rfl, fun base _ _ => ok_l_law (T := {
    C_Lamp := C_Lamp
    cl_Lamp := ⟨pg_Lamp, hd_Lamp, po_Lamp, sa_Lamp⟩
    gC_Lamp := PySem.W.mg_of X G aC_Lamp
    kl_Lamp := ⟨⟨pg_Lamp, hd_Lamp, po_Lamp, sa_Lamp⟩, kha_Lamp, khn_Lamp, kht_Lamp, khm_Lamp⟩
    na_Lamp_period := na_Lamp_period
    na_Lamp_beat := na_Lamp_beat
    f_is_whole := f_is_whole
    d_is_whole := PySem.W.fnOf "is_whole" "is_whole" (defArgs s_is_whole) (defBody s_is_whole) (defScope s_is_whole) .none kV_is_whole dc_is_whole pm_is_whole an_is_whole cd_is_whole ct_is_whole
    F_is_whole := fun_mk (st := s_is_whole) l_is_whole c_is_whole k_is_whole
    b_is_whole := (fun_mk (st := s_is_whole) l_is_whole c_is_whole k_is_whole).binds (ps := ["thing"]) fun _ _ _ _ _ _ us hl => match us, hl with | [_], _ => rfl
    g_is_whole := PySem.W.mg_of X G a_is_whole
    f_check_beat := f_check_beat
    d_check_beat := PySem.W.fnOf "check_beat" "check_beat" (defArgs s_check_beat) (defBody s_check_beat) (defScope s_check_beat) .none kV_check_beat dc_check_beat pm_check_beat an_check_beat cd_check_beat ct_check_beat
    F_check_beat := fun_mk (st := s_check_beat) l_check_beat c_check_beat k_check_beat
    b_check_beat := (fun_mk (st := s_check_beat) l_check_beat c_check_beat k_check_beat).binds (ps := ["thing"]) fun _ _ _ _ _ _ us hl => match us, hl with | [_], _ => rfl
    g_check_beat := PySem.W.mg_of X G a_check_beat
    f_inverse := f_inverse
    d_inverse := PySem.W.fnOf "inverse" "inverse" (defArgs s_inverse) (defBody s_inverse) (defScope s_inverse) .none kV_inverse dc_inverse pm_inverse an_inverse cd_inverse ct_inverse
    F_inverse := fun_mk (st := s_inverse) l_inverse c_inverse k_inverse
    b_inverse := (fun_mk (st := s_inverse) l_inverse c_inverse k_inverse).binds (ps := ["number", "modulus"]) fun _ _ _ _ _ _ us hl => match us, hl with | [_, _], _ => rfl
    g_inverse := PySem.W.mg_of X G a_inverse
    f_Lamp_init := f_Lamp_init
    d_Lamp_init := PySem.W.fnOf "__init__" "Lamp.__init__" (defArgs s_Lamp_init) (defBody s_Lamp_init) (defScope s_Lamp_init) .none kV_Lamp_init dc_Lamp_init pm_Lamp_init an_Lamp_init cd_Lamp_init ct_Lamp_init
    F_Lamp_init := fun_mk (st := s_Lamp_init) l_Lamp_init c_Lamp_init k_Lamp_init
    b_Lamp_init := (fun_mk (st := s_Lamp_init) l_Lamp_init c_Lamp_init k_Lamp_init).binds (ps := ["self", "period", "beat"]) fun _ _ _ _ _ _ us hl => match us, hl with | [_, _, _], _ => rfl
    m_Lamp_init := ⟨a_Lamp_init, j_Lamp_init, k_Lamp_init⟩
    mk_Lamp := ⟨mk_Lamp, a_Lamp_init, j_Lamp_init, kc_Lamp⟩
    f_Lamp_eq := f_Lamp_eq
    d_Lamp_eq := PySem.W.fnOf "__eq__" "Lamp.__eq__" (defArgs s_Lamp_eq) (defBody s_Lamp_eq) (defScope s_Lamp_eq) .none kV_Lamp_eq dc_Lamp_eq pm_Lamp_eq an_Lamp_eq cd_Lamp_eq ct_Lamp_eq
    F_Lamp_eq := fun_mk (st := s_Lamp_eq) l_Lamp_eq c_Lamp_eq k_Lamp_eq
    b_Lamp_eq := (fun_mk (st := s_Lamp_eq) l_Lamp_eq c_Lamp_eq k_Lamp_eq).binds (ps := ["self", "other"]) fun _ _ _ _ _ _ us hl => match us, hl with | [_, _], _ => rfl
    m_Lamp_eq := ⟨a_Lamp_eq, j_Lamp_eq, k_Lamp_eq⟩
    f_Lamp_shines := f_Lamp_shines
    d_Lamp_shines := PySem.W.fnOf "shines" "Lamp.shines" (defArgs s_Lamp_shines) (defBody s_Lamp_shines) (defScope s_Lamp_shines) .none kV_Lamp_shines dc_Lamp_shines pm_Lamp_shines an_Lamp_shines cd_Lamp_shines ct_Lamp_shines
    F_Lamp_shines := fun_mk (st := s_Lamp_shines) l_Lamp_shines c_Lamp_shines k_Lamp_shines
    b_Lamp_shines := (fun_mk (st := s_Lamp_shines) l_Lamp_shines c_Lamp_shines k_Lamp_shines).binds (ps := ["self", "beat"]) fun _ _ _ _ _ _ us hl => match us, hl with | [_, _], _ => rfl
    m_Lamp_shines := ⟨a_Lamp_shines, j_Lamp_shines, k_Lamp_shines⟩
    f_seen_from := f_seen_from
    d_seen_from := PySem.W.fnOf "seen_from" "seen_from" (defArgs s_seen_from) (defBody s_seen_from) (defScope s_seen_from) .none kV_seen_from dc_seen_from pm_seen_from an_seen_from cd_seen_from ct_seen_from
    F_seen_from := fun_mk (st := s_seen_from) l_seen_from c_seen_from k_seen_from
    b_seen_from := (fun_mk (st := s_seen_from) l_seen_from c_seen_from k_seen_from).binds (ps := ["lamp", "other"]) fun _ _ _ _ _ _ us hl => match us, hl with | [_, _], _ => rfl
    g_seen_from := PySem.W.mg_of X G a_seen_from
    f_meet := f_meet
    d_meet := PySem.W.fnOf "meet" "meet" (defArgs s_meet) (defBody s_meet) (defScope s_meet) .none kV_meet dc_meet pm_meet an_meet cd_meet ct_meet
    F_meet := fun_mk (st := s_meet) l_meet c_meet k_meet
    b_meet := (fun_mk (st := s_meet) l_meet c_meet k_meet).binds (ps := ["one", "other"]) fun _ _ _ _ _ _ us hl => match us, hl with | [_, _], _ => rfl
    g_meet := PySem.W.mg_of X G a_meet
    f_l_mixed := f_l_mixed
    d_l_mixed := PySem.W.fnOf "_law_mixed" "_law_mixed" (defArgs s_l_mixed) (defBody s_l_mixed) (defScope s_l_mixed) .none kV_l_mixed dc_l_mixed pm_l_mixed an_l_mixed cd_l_mixed ct_l_mixed
    F_l_mixed := fun_mk (st := s_l_mixed) l_l_mixed c_l_mixed k_l_mixed
    b_l_mixed := (fun_mk (st := s_l_mixed) l_l_mixed c_l_mixed k_l_mixed).binds (ps := ["_law_cell", "_law_k"]) fun _ _ _ _ _ _ us hl => match us, hl with | [_, _], _ => rfl
    g_l_mixed := PySem.W.mg_of X G a_l_mixed
    f_l_source := f_l_source
    d_l_source := PySem.W.fnOf "_law_source" "_law_source" (defArgs s_l_source) (defBody s_l_source) (defScope s_l_source) .none kV_l_source dc_l_source pm_l_source an_l_source cd_l_source ct_l_source
    F_l_source := fun_mk (st := s_l_source) l_l_source c_l_source k_l_source
    b_l_source := (fun_mk (st := s_l_source) l_l_source c_l_source k_l_source).binds (ps := ["_law_cell"]) fun _ _ _ _ _ _ us hl => match us, hl with | [_], _ => rfl
    g_l_source := PySem.W.mg_of X G a_l_source
    f_l_take := f_l_take
    d_l_take := PySem.W.fnOf "_law_take" "_law_take" (defArgs s_l_take) (defBody s_l_take) (defScope s_l_take) .none kV_l_take dc_l_take pm_l_take an_l_take cd_l_take ct_l_take
    F_l_take := fun_mk (st := s_l_take) l_l_take c_l_take k_l_take
    b_l_take := (fun_mk (st := s_l_take) l_l_take c_l_take k_l_take).binds (ps := ["_law_source_here", "_law_many"]) fun _ _ _ _ _ _ us hl => match us, hl with | [_, _], _ => rfl
    g_l_take := PySem.W.mg_of X G a_l_take
    f_l_prime := f_l_prime
    d_l_prime := PySem.W.fnOf "_law_prime" "_law_prime" (defArgs s_l_prime) (defBody s_l_prime) (defScope s_l_prime) .none kV_l_prime dc_l_prime pm_l_prime an_l_prime cd_l_prime ct_l_prime
    F_l_prime := fun_mk (st := s_l_prime) l_l_prime c_l_prime k_l_prime
    b_l_prime := (fun_mk (st := s_l_prime) l_l_prime c_l_prime k_l_prime).binds (ps := ["_law_source_here"]) fun _ _ _ _ _ _ us hl => match us, hl with | [_], _ => rfl
    g_l_prime := PySem.W.mg_of X G a_l_prime
    f_l_whole := f_l_whole
    d_l_whole := PySem.W.fnOf "_law_whole" "_law_whole" (defArgs s_l_whole) (defBody s_l_whole) (defScope s_l_whole) .none kV_l_whole dc_l_whole pm_l_whole an_l_whole cd_l_whole ct_l_whole
    F_l_whole := fun_mk (st := s_l_whole) l_l_whole c_l_whole k_l_whole
    b_l_whole := (fun_mk (st := s_l_whole) l_l_whole c_l_whole k_l_whole).binds (ps := ["_law_source_here"]) fun _ _ _ _ _ _ us hl => match us, hl with | [_], _ => rfl
    g_l_whole := PySem.W.mg_of X G a_l_whole
    f_l_divisor := f_l_divisor
    d_l_divisor := PySem.W.fnOf "_law_divisor" "_law_divisor" (defArgs s_l_divisor) (defBody s_l_divisor) (defScope s_l_divisor) .none kV_l_divisor dc_l_divisor pm_l_divisor an_l_divisor cd_l_divisor ct_l_divisor
    F_l_divisor := fun_mk (st := s_l_divisor) l_l_divisor c_l_divisor k_l_divisor
    b_l_divisor := (fun_mk (st := s_l_divisor) l_l_divisor c_l_divisor k_l_divisor).binds (ps := ["_law_first", "_law_second"]) fun _ _ _ _ _ _ us hl => match us, hl with | [_, _], _ => rfl
    g_l_divisor := PySem.W.mg_of X G a_l_divisor
    f_l_small_right := f_l_small_right
    d_l_small_right := PySem.W.fnOf "_law_small_right" "_law_small_right" (defArgs s_l_small_right) (defBody s_l_small_right) (defScope s_l_small_right) .none kV_l_small_right dc_l_small_right pm_l_small_right an_l_small_right cd_l_small_right ct_l_small_right
    F_l_small_right := fun_mk (st := s_l_small_right) l_l_small_right c_l_small_right k_l_small_right
    b_l_small_right := (fun_mk (st := s_l_small_right) l_l_small_right c_l_small_right k_l_small_right).binds (ps := ["_law_source_here"]) fun _ _ _ _ _ _ us hl => match us, hl with | [_], _ => rfl
    g_l_small_right := PySem.W.mg_of X G a_l_small_right
    f_l_great_right := f_l_great_right
    d_l_great_right := PySem.W.fnOf "_law_great_right" "_law_great_right" (defArgs s_l_great_right) (defBody s_l_great_right) (defScope s_l_great_right) .none kV_l_great_right dc_l_great_right pm_l_great_right an_l_great_right cd_l_great_right ct_l_great_right
    F_l_great_right := fun_mk (st := s_l_great_right) l_l_great_right c_l_great_right k_l_great_right
    b_l_great_right := (fun_mk (st := s_l_great_right) l_l_great_right c_l_great_right k_l_great_right).binds (ps := ["_law_source_here"]) fun _ _ _ _ _ _ us hl => match us, hl with | [_], _ => rfl
    g_l_great_right := PySem.W.mg_of X G a_l_great_right
    f_l_law := fa
    d_l_law := PySem.W.fnOf "law" "law" (defArgs s_l_law) (defBody s_l_law) (defScope s_l_law) .none kV_l_law dc_l_law pm_l_law an_l_law cd_l_law ct_l_law
    F_l_law := fun_mk (st := s_l_law) l_l_law c_l_law k_l_law
    b_l_law := (fun_mk (st := s_l_law) l_l_law c_l_law k_l_law).binds (ps := ["_law_script"]) fun _ _ _ _ _ _ us hl => match us, hl with | [_], _ => rfl
    g_l_law := PySem.W.mg_of X G a_l_law
    kb_meet_other_one := Fun.kbn (fun_mk (st := s_meet) l_meet c_meet k_meet) 0 ["other", "one"] [1, 0] fun _ _ _ _ _ _ us ws h1 h2 => match us, ws, h1, h2 with | [], [_, _], _, _ => rfl
    ne_Lamp := ⟨ne1_Lamp, ne2_Lamp⟩
    n_isinstance := PySem.W.mg_none_of X G n_isinstance
    n_int := PySem.W.mg_none_of X G n_int
    n_bool := PySem.W.mg_none_of X G n_bool
    n_len := PySem.W.mg_none_of X G n_len
    n_range := PySem.W.mg_none_of X G n_range
    i_gcd := PySem.W.mg_of X G i_gcd
    })⟩
theorem walk {l : PySem.W.OpenLaw} {q : Program} {loose : List Str} {XP : (Str → Option Value) → Heap → Prop} {YP : World → Heap → Prop} {d : DefRec} {K : Params → PySem.W.Frag} (hn : l.most = some 63) (hdf : d.params.defaults = [])
    (hY : ∀ (w : World) (h : Heap), YP w h → (K w.params).In h)
    (F : ∀ (w : World) (mg : Str → Option Value) (fa : Addr) (h : Heap), (K w.params).In h → h.Ns mainGlobals mg → mg d.name = some (.ref fa) →
      ∃ fd : FuncData, (∀ (s : Shared) (u : Value), BindsTo s fd ⟨[u], []⟩ [("_law_script", u)]) ∧ ∀ base : Heap, (K w.params).In base → base.Ns mainGlobals mg → FnOk l.prog w (K w.params) mg base CX0 7 fa fd ["_law_script"] (spLaw (K w.params))) :
    PySem.W.WalkO q loose XP YP l.row.toRowW d [] (fun f vs => PySem.call f vs) :=
  L2.walk_of (n := 63) (k := 7) (x := "_law_script") (CX := fun _ => CX0) (sp := fun w => spLaw (K w.params)) hn (by decide) hdf ⟨rfl, by decide, by decide⟩ hY F (fun _ _ a ns hl _ hS => ⟨a, ns, rfl, hS, hl, fun _ => rfl⟩) fun _ _ _ _ _ z => z
end Own
open PySem PySem.W PyProof.Rows
set_option maxRecDepth 100000 in
set_option maxHeartbeats 0 in
theorem PySem.Challenge.cw_farlamps_k03_where_two_lamps_meet_holds : PySem.Challenge.rw_farlamps_k03_where_two_lamps_meet.Holds := by
  w_on; o_law; k_head; (case hw => w_witness2)
  k_fill
  refine Own.walk (l := PySem.Challenge.rw_farlamps_k03_where_two_lamps_meet) rfl rfl (fun w h Y => PySem.W.kIn_of Y) ?F
  case F =>
    intro w mg fa h KX G hmg
    refine' Own.all_mk KX G hmg ?aC_Lamp ?pg_Lamp ?hd_Lamp ?po_Lamp ?sa_Lamp ?mk_Lamp ?kc_Lamp ?kha_Lamp ?khn_Lamp ?kht_Lamp ?khm_Lamp ?na_Lamp_period ?na_Lamp_beat ?a_is_whole ?l_is_whole ?c_is_whole ?k_is_whole ?a_check_beat ?l_check_beat ?c_check_beat ?k_check_beat ?a_inverse ?l_inverse ?c_inverse ?k_inverse ?a_Lamp_init ?j_Lamp_init ?l_Lamp_init ?c_Lamp_init ?k_Lamp_init ?a_Lamp_eq ?j_Lamp_eq ?l_Lamp_eq ?c_Lamp_eq ?k_Lamp_eq ?a_Lamp_shines ?j_Lamp_shines ?l_Lamp_shines ?c_Lamp_shines ?k_Lamp_shines ?a_seen_from ?l_seen_from ?c_seen_from ?k_seen_from ?a_meet ?l_meet ?c_meet ?k_meet ?a_l_mixed ?l_l_mixed ?c_l_mixed ?k_l_mixed ?a_l_source ?l_l_source ?c_l_source ?k_l_source ?a_l_take ?l_l_take ?c_l_take ?k_l_take ?a_l_prime ?l_l_prime ?c_l_prime ?k_l_prime ?a_l_whole ?l_l_whole ?c_l_whole ?k_l_whole ?a_l_divisor ?l_l_divisor ?c_l_divisor ?k_l_divisor ?a_l_small_right ?l_l_small_right ?c_l_small_right ?k_l_small_right ?a_l_great_right ?l_l_great_right ?c_l_great_right ?k_l_great_right ?a_l_law ?l_l_law ?c_l_law ?k_l_law ?ne1_Lamp ?ne2_Lamp ?n_isinstance ?n_int ?n_bool ?n_len ?n_range ?i_gcd
    (case aC_Lamp => k_is)
    (case pg_Lamp => k_is)
    (case hd_Lamp => k_is)
    (case po_Lamp => k_is)
    (case sa_Lamp => k_is)
    (case mk_Lamp => k_is)
    (case kc_Lamp => k_is)
    (case kha_Lamp => k_is)
    (case khn_Lamp => k_is)
    (case kht_Lamp => k_is)
    (case khm_Lamp => k_is)
    (case na_Lamp_period => k_is)
    (case na_Lamp_beat => k_is)
    (case a_is_whole => k_is)
    (case l_is_whole => k_is)
    (case c_is_whole => k_is)
    (case k_is_whole => k_is)
    (case a_check_beat => k_is)
    (case l_check_beat => k_is)
    (case c_check_beat => k_is)
    (case k_check_beat => k_is)
    (case a_inverse => k_is)
    (case l_inverse => k_is)
    (case c_inverse => k_is)
    (case k_inverse => k_is)
    (case a_Lamp_init => k_is)
    (case j_Lamp_init => k_is)
    (case l_Lamp_init => k_is)
    (case c_Lamp_init => k_is)
    (case k_Lamp_init => k_is)
    (case a_Lamp_eq => k_is)
    (case j_Lamp_eq => k_is)
    (case l_Lamp_eq => k_is)
    (case c_Lamp_eq => k_is)
    (case k_Lamp_eq => k_is)
    (case a_Lamp_shines => k_is)
    (case j_Lamp_shines => k_is)
    (case l_Lamp_shines => k_is)
    (case c_Lamp_shines => k_is)
    (case k_Lamp_shines => k_is)
    (case a_seen_from => k_is)
    (case l_seen_from => k_is)
    (case c_seen_from => k_is)
    (case k_seen_from => k_is)
    (case a_meet => k_is)
    (case l_meet => k_is)
    (case c_meet => k_is)
    (case k_meet => k_is)
    (case a_l_mixed => k_is)
    (case l_l_mixed => k_is)
    (case c_l_mixed => k_is)
    (case k_l_mixed => k_is)
    (case a_l_source => k_is)
    (case l_l_source => k_is)
    (case c_l_source => k_is)
    (case k_l_source => k_is)
    (case a_l_take => k_is)
    (case l_l_take => k_is)
    (case c_l_take => k_is)
    (case k_l_take => k_is)
    (case a_l_prime => k_is)
    (case l_l_prime => k_is)
    (case c_l_prime => k_is)
    (case k_l_prime => k_is)
    (case a_l_whole => k_is)
    (case l_l_whole => k_is)
    (case c_l_whole => k_is)
    (case k_l_whole => k_is)
    (case a_l_divisor => k_is)
    (case l_l_divisor => k_is)
    (case c_l_divisor => k_is)
    (case k_l_divisor => k_is)
    (case a_l_small_right => k_is)
    (case l_l_small_right => k_is)
    (case c_l_small_right => k_is)
    (case k_l_small_right => k_is)
    (case a_l_great_right => k_is)
    (case l_l_great_right => k_is)
    (case c_l_great_right => k_is)
    (case k_l_great_right => k_is)
    (case a_l_law => k_is)
    (case l_l_law => k_is)
    (case c_l_law => k_is)
    (case k_l_law => k_is)
    (case ne1_Lamp => k_is)
    (case ne2_Lamp => k_is)
    (case n_isinstance => k_is)
    (case n_int => k_is)
    (case n_bool => k_is)
    (case n_len => k_is)
    (case n_range => k_is)
    (case i_gcd => k_is)
