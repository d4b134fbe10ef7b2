import PyProof.Rows.All
import Wide.All
import OpenK.AllK
import Wide.FinOn
import HandS.ForMost
import HandS.OwnEq
import HandS.IsInst
import PyProof.InstEq
import HandS.Defaults
import HandS.SortInts
import PyProof.AutoSeq1
import PyProof.ListOps
import PyProof.EqKinds
import PyProof.EqAt
import PyProof.LongRange
import PyProof.Rows.Range3
import KE.KDictZip
import HandS.ListItems
import HandS.Style
import HandS.Gcd
import HandS.RevRange
import KE.KMathG
import HandS.TupSets
import HandS.Exc
import HandS.Flow
import HandS.Wide
import HandS.WideMore
import HandS.WideBits
import HandS.Walk
import HandS.Codes
import HandS.Conv
import HandS.NoneIn
import HandS.AnyAll
import HandS.Comp
import HandS.Sort
import PySem.Challenge.RW_farlamps_k47_whole_sums_of_lamps
set_option Elab.async false
set_option linter.all false
set_option maxRecDepth 100000
namespace Own
open PySem L2
/-! ### == by an own __eq__ that hands back a truth: both answers -/
/-- what isinstance asks of an own class -/
structure Kls (K : PySem.W.Frag) (C : Addr) : Prop where
  cl : Cls K C
  ha : PySem.W.findIn K (.ref C) "__class__" = some (some (.builtin "object.__class__"))
  hn : PySem.W.specialIn K (.builtin "object.__class__") "__get__" = some (some (.builtin "getset_descriptor.__get__"))
  htk : PySem.W.takesIn K (.builtin "object.__class__") = some true
  hm : PySem.W.mroIn K C (.type "object") = some true
theorem Kls.ty {K : PySem.W.Frag} {H : Hp} {a C dx : Addr} {fs : List (Str × V)} (k : Kls K C) (e : H a = some (.ins C dx fs)) : TyX K H (.ref a) (.ref C) := .base (.ins e k.cl k.ha k.hn k.htk k.hm)
section
variable {X : Cx} {n : Nat}
theorem looks_ty {x : V} {u t : Value} {pins : List (Addr × Obj)} {σ : St} {H : Hp} {s : Shared} (I : Inv X pins σ H s) (rx : RelV x u) (ty : TyX X.K H x t) : PySem.W.Looks (model X.prog X.w) s.heap (typeOf u) t := by
  obtain ⟨P, Z, p, _⟩ := kit_of I rx ty
  exact Z.ty (model X.prog X.w) s.heap I.kIn p
def rEqOwn (K : PySem.W.Frag) (C : Addr) (sp : Sp) (E : XK) : R2 := fun x y H Q => ∃ a dx fs t, x = .ref a ∧ H a = some (.ins C dx fs) ∧ TyX K H y t ∧ PySem.W.notFirst K C t = true ∧
  sp [x, y] H (fun v H' => ∃ b, v = .bl b ∧ Q (.bl b) H') E
theorem op_eqOwn {CX : CXT} {C f : Addr} {fd : FuncData} {ps : List Str} {sp : Sp} {E : XK} (hm : Meth X.K C "__eq__" f) (F : FnOk X.prog X.w X.K X.mg X.base CX n f fd ps sp) (hb : Binds X.K fd ps []) (hr : Room n X.A) (hx : Passes CX X E) :
    OpR X (compareOp .Eq) (rEqOwn X.K C sp E) := by
  intro pins s σ H x y v u Q I rx ry hq
  obtain ⟨a, dx, fs, t, rfl, ha, ty, nf, hsp⟩ := hq
  cases rx
  have lt := looks_ty I ry ty
  obtain ⟨mA, J, _⟩ := ins_get I.hok ha
  obtain ⟨od, J, _⟩ := J.look
  obtain ⟨m, hF⟩ := I.fr
  show wpAny (model X.prog X.w) X.A (richCompare .Eq (.ref a) u) (EP X pins σ Q) X.xe s
  refine PySem.W.cmp_K (op := .Eq) hr.units0 hF I.ok.mod.kin J lt nf hm.at_ hm.fn ?_
  have hl := F.len _ _ _ _ hsp
  have r2 : Vals [V.ref a, y] [Value.ref a, u] := .cons rfl (.cons ry .nil)
  refine wpAny_call (codeAny_mono (F.run X.A X.stack s H ⟨[.ref a, u], []⟩ [.ref a, u] [.ref a, y] _ E hr I.env0 (by
    have := hb s [.ref a, u] I.kIn (by simpa using hl)
    simpa using this) r2 hsp) fun r s' hq => ?_)
  cases r with
  | error e => exact hx pins σ H s e s' I hq
  | ok fl =>
    cases fl with
    | ret w =>
      obtain ⟨z, H', I', rz, b, ez, q⟩ := I.after hq
      subst ez
      cases rz
      exact ⟨.bl b, H', I', rfl, q⟩
    | next => exact False.elim hq
    | brk => exact False.elim hq
    | cont => exact False.elim hq
end
theorem kit_no {K : PySem.W.Frag} {C : Addr} {T : String} (h2 : PySem.W.isClsIn K C = true) (h3 : PySem.W.typeIn K (.ref C) = some (.type "type")) (h4 : PySem.W.subIn K (.type T) (.ref C) = some false) : PySem.W.kitOne K (.type T) (.ref C) = some false := by
  have e2 : ((PySem.W.clsIn K C).isSome && PySem.W.typeIn K (.ref C) == some (.type "type")) = true := by
    have h2' : (PySem.W.clsIn K C).isSome = true := h2
    rw [h2', h3] <;> rfl
  have e0 : ¬ (Value.type T == Value.ref C) = true := by simp
  unfold PySem.W.kitOne
  rw [if_neg e0]
  show (if ((PySem.W.clsIn K C).isSome && PySem.W.typeIn K (.ref C) == some (.type "type")) = true then PySem.W.subIn K (.type T) (.ref C) else none) = some false
  rw [if_pos e2]
  exact h4

/-! ### != of instances whose class has an own __eq__ and no __ne__ -/
section
open PySem.W
variable {prog : Program} {w : World} {A : Around} {E : Value → Shared → Prop} {s : Shared} {K : PySem.W.Frag} {x C L f : Addr} {h₀ : Heap} {m : Str → Option Value} {ox : Obj} {od : Option Obj} {b tb : Value}
theorem ne_entry {P : Fin → Shared → Prop} (hu : A.units < cLine) (X : K.In s.heap) (I : InstAt s.heap x ox C od) (hs : findIn K (.ref C) "__eq__" = some (some (.ref f))) (hf : isFn K (.ref f) = true)
    (h : wpAny (model prog w) A (call (.ref f) [.ref x, b]) (fun v s' => ∃ r, v = .bool r ∧ P (.done (.ret (.bool (!r)))) s') E s) :
    wpAny (model prog w) A (Builtin.«object.__ne__» ⟨[.ref x, b], []⟩) P E s := by
  unfold Builtin.«object.__ne__»
  iterate 6 (first
    | with_reducible refine wpAny_cRoomFor hu ?_
    | wp_step)
  refine wpAny_cRoomFor hu ?_
  refine wpAny_bind (ifBound_K X I hs hf (wpAny_mono h (fun v s' hv => ?_) fun _ _ e => e))
  obtain ⟨r, rfl, hp⟩ := hv
  dsimp only
  refine wpAny_bind ?_
  iterate 3 (try wp_step)
  exact wpAny_pure hp
theorem ne_check {Q : Unit → Shared → Prop} (X : K.In s.heap) (I : InstAt s.heap x ox C od) (ho : subIn K (.ref C) (.type "object") = some true) (hq : Q () s) :
    wpAny (model prog w) A (checkBuiltinCall "object.__ne__" ⟨[.ref x, b], []⟩) Q E s := by
  have LI : Looks (model prog w) s.heap (isInstance (.ref x) (.type "object")) true := I.type.andThen (looks_subIn X ho)
  simp only [checkBuiltinCall, PySem.F.cmpKind_ne, PySem.F.cmpSplit_ne]
  refine wpAny_bind (LI.here ?_)
  cases hsig : Manifest.signature? "object.__ne__" with
  | none => repeat wp_step
            all_goals exact hq
  | some sig =>
    have ha := PySem.F.cmpArgs_ne (.ref x) b
    simp only [argsOk, hsig] at ha
    have h2 : Bind.checkArgs "object.__ne__" sig ⟨.ref x :: [b], []⟩ = pure () := ha
    show wpAny _ A (Bind.checkArgs "object.__ne__" sig ⟨.ref x :: [b], []⟩) Q E _
    rw [h2]
    exact wpAny_pure hq
end
section
open PySem.W
variable {prog : Program} {w : World} {A : Around} {E : Value → Shared → Prop} {s : Shared} {K : PySem.W.Frag} {x C L f : Addr} {h₀ : Heap} {m : Str → Option Value} {ox : Obj} {od : Option Obj} {b tb : Value}
theorem ne_bound {Q : Option Value → Shared → Prop} (hu : A.units + 1 < cLine) (X : K.In s.heap) (I : InstAt s.heap x ox C od) (hs : findIn K (.ref C) "__eq__" = some (some (.ref f))) (hf : isFn K (.ref f) = true)
    (hn : findIn K (.ref C) "__ne__" = some (some (.builtin "object.__ne__"))) (ho : subIn K (.ref C) (.type "object") = some true)
    (h : wpAny (model prog w) A.in1 (call (.ref f) [.ref x, b]) (fun v s' => ∃ r, v = .bool r ∧ Q (some (.bool (!r))) s') E s) :
    wpAny (model prog w) A (callSpecialIfBound? (.ref x) "__ne__" [b]) Q E s := by
  simp only [callSpecialIfBound?, bindSpecialIfBound?]
  refine wpAny_holding (wpAny_bind (wpAny_bind (wpAny_bind (I.type.here ((looks_findIn X hn).here ?_)))))
  simp only [PySem.F.cmp_object.ne.bind]
  refine wpAny_bind (wpAny_askSetting (wpAny_ite ?_))
  have fin : wpAny (model prog w) A (call (.builtin "object.__ne__") ([.ref x] ++ [b]) >>= fun v => pure (some v)) Q E s :=
    wpAny_bind (wpAny_call (codeAny_call_builtin PySem.F.cmp_object.ne.plain PySem.F.cmpEntry_ne (ne_check X I ho (ne_entry (A := A.in1) hu X I hs hf
      (wpAny_mono h (fun v s' hv => by obtain ⟨r, rfl, hp⟩ := hv; exact ⟨r, rfl, wpAny_pure hp⟩) fun _ _ e => e)))))
  split
  · exact wpAny_bind (wpAny_pure (wpAny_pure fin))
  · exact wpAny_tryCatch (wpAny_bind (wpAny_pure (wpAny_pure fin)))
theorem ne_K {Q : Value → Shared → Prop} (hu : A.units + 1 < cLine) (F : PyProof.Rows.Fr h₀ L s.heap m) (X₀ : K.In h₀) (I : InstAt s.heap x ox C od) (hb : Looks (model prog w) s.heap (typeOf b) tb) (hnf : notFirst K C tb = true)
    (hs : findIn K (.ref C) "__eq__" = some (some (.ref f))) (hf : isFn K (.ref f) = true)
    (hn : findIn K (.ref C) "__ne__" = some (some (.builtin "object.__ne__"))) (ho : subIn K (.ref C) (.type "object") = some true)
    (h : wpAny (model prog w) A.in1 (call (.ref f) [.ref x, b]) (fun v s' => ∃ r, v = .bool r ∧ Q (.bool (!r)) s') E s) : wpAny (model prog w) A (richCompare .NotEq (.ref x) b) Q E s := by
  have X := X₀.keeps F.keep
  have one : wpAny (model prog w) A (tryCompare (.ref x) "__ne__" b) (fun r s' => ∃ v, r = some v ∧ Q v s') E s := by
    unfold tryCompare
    refine wpAny_bind (ne_bound hu X I hs hf hn ho (wpAny_mono h (fun v s' hv => ?_) fun _ _ e => e))
    obtain ⟨r, rfl, hp⟩ := hv
    exact ⟨r, rfl, wpAny_pure ⟨_, rfl, hp⟩⟩
  unfold richCompare
  simp only [oneThing_ref]
  refine wpAny_holding (wpAny_bind (wpAny_cRoomFor (by omega) ?_))
  refine wpAny_bind (I.type.here (wpAny_bind (hb.here ?_)))
  split
  · rename_i q
    have e : subIn K tb (.ref C) = some false := by
      rcases Bool.or_eq_true_iff.mp hnf with e | e
      · rw [beq_iff_eq.mp e] at q; simp at q
      · exact beq_iff_eq.mp e
    refine wpAny_bind ((looks_subIn X e).here ?_)
    simp only [Bool.false_eq_true, if_false]
    refine wpAny_bind (wpAny_mono one (fun r s' z => ?_) fun _ _ e => e)
    obtain ⟨v, rfl, hq⟩ := z
    exact wpAny_pure hq
  · refine wpAny_bind (wpAny_pure ?_)
    simp only [Bool.false_eq_true, if_false]
    refine wpAny_bind (wpAny_mono one (fun r s' z => ?_) fun _ _ e => e)
    obtain ⟨v, rfl, hq⟩ := z
    exact wpAny_pure hq
end
/-- what != by an own __eq__ asks of the class -/
structure NeK (K : PySem.W.Frag) (C : Addr) : Prop where
  ne : PySem.W.findIn K (.ref C) "__ne__" = some (some (.builtin "object.__ne__"))
  ob : PySem.W.subIn K (.ref C) (.type "object") = some true
section
variable {X : Cx} {n : Nat}
def rNeOwn (K : PySem.W.Frag) (C : Addr) (sp : Sp) (E : XK) : R2 := fun x y H Q => ∃ a dx fs t, x = .ref a ∧ H a = some (.ins C dx fs) ∧ TyX K H y t ∧ PySem.W.notFirst K C t = true ∧
  sp [x, y] H (fun v H' => ∃ b, v = .bl b ∧ Q (.bl (!b)) H') E
theorem op_neOwn {CX : CXT} {C f : Addr} {fd : FuncData} {ps : List Str} {sp : Sp} {E : XK} (hm : Meth X.K C "__eq__" f) (F : FnOk X.prog X.w X.K X.mg X.base CX n f fd ps sp) (hb : Binds X.K fd ps []) (hr : Room (n + 1) X.A) (hx : Passes CX X E) (hk : NeK X.K C) :
    OpR X (compareOp .NotEq) (rNeOwn X.K C sp E) := by
  intro pins s σ H x y v u Q I rx ry hq
  obtain ⟨a, dx, fs, t, rfl, ha, ty, nf, hsp⟩ := hq
  cases rx
  have lt := looks_ty I ry ty
  obtain ⟨mA, J, _⟩ := ins_get I.hok ha
  obtain ⟨od, J, _⟩ := J.look
  obtain ⟨m, hF⟩ := I.fr
  show wpAny (model X.prog X.w) X.A (richCompare .NotEq (.ref a) u) (EP X pins σ Q) X.xe s
  refine ne_K (by have := hr.un; omega) hF I.ok.mod.kin J lt nf hm.at_ hm.fn hk.ne hk.ob ?_
  have hl := F.len _ _ _ _ hsp
  have r2 : Vals [V.ref a, y] [Value.ref a, u] := .cons rfl (.cons ry .nil)
  refine wpAny_call (codeAny_mono (F.run X.A.in1 X.stack s H ⟨[.ref a, u], []⟩ [.ref a, u] [.ref a, y] _ E hr.in1 I.env0.in1 (by
    have := hb s [.ref a, u] I.kIn (by simpa using hl)
    simpa using this) r2 hsp) fun r s' hq => ?_)
  cases r with
  | error e => exact hx pins σ H s e s' I hq
  | ok fl =>
    cases fl with
    | ret w =>
      obtain ⟨z, H', I', rz, b, ez, q⟩ := I.after hq
      subst ez
      cases rz
      exact ⟨b, rfl, .bl (!b), H', I', rfl, q⟩
    | next => exact False.elim hq
    | brk => exact False.elim hq
    | cont => exact False.elim hq
end

/-! ### calls by keywords, no defaults -/
def permL {α : Type} (p : List Nat) (ws : List α) : List α := p.filterMap fun i => ws[i]?
theorem vals_perm {zs : List V} {ws : List Value} (r : Vals zs ws) : ∀ p : List Nat, Vals (permL p zs) (permL p ws)
  | [] => .nil
  | i :: p => by
    unfold permL
    rw [List.filterMap_cons, List.filterMap_cons]
    cases e : zs[i]? with
    | none =>
      rw [r.none_of e]
      exact vals_perm r p
    | some x =>
      obtain ⟨u, e2, ru⟩ := r.get e
      rw [e2]
      exact .cons ru (vals_perm r p)
theorem Fun.kbn {K : PySem.W.Frag} {x qual : Str} {st : Stmt} {f : Addr} {fd : FuncData} {ps : List Str} (F : L2.Fun K x qual st f fd) (n : Nat) (ks : List Str) (p : List Nat)
    (h : ∀ (kV doc pm : Value) (an : Option Addr) (cdv ct : Value) (us ws : List Value), us.length = n → ws.length = ks.length →
      bindArgs (PySem.W.fnOf x qual (defArgs st) (defBody st) (defScope st) .none kV doc pm an cdv ct) ⟨us, ks.zip ws⟩ = pure (ps.zip (us ++ permL p ws))) :
    KBn K fd ps n ks (fun us ws => us ++ permL p ws) (fun vs zs => vs ++ permL p zs) := by
  obtain ⟨oc, od, kV, doc, pm, an, cdv, ct, osl, rfl, lk, hcd⟩ := F.ex
  exact ⟨fun s us ws _ l1 l2 => BindsTo.of_eq (h kV doc pm an cdv ct us ws l1 l2), fun r rz => r.append (vals_perm rz p)⟩
section
variable {X : Cx} {CX : CXT} {k n : Nat} {f C : Addr} {fd : FuncData} {ps ks : List Str} {sp : Sp} {E : XK} {x m : Str} {p pos apos kpos : Pos} {e o : Expr} {es : List Expr} {kws : List Keyword} {te ta : TE} {t tk : TA} {nm : Option Str}
variable {g : List Value → List Value → List Value} {gV : List V → List V → List V}
/-- f(k = v, ..) -/
theorem pe_callN0 (F : FnOk X.prog X.w X.K X.mg X.base CX k f fd ps sp) (hr : Room k X.A) (hg : Gl X x) (hm : X.mg x = some (.ref f)) (hk : PySem.W.keepIn X.K (.ref f) = true) (hb : KBn X.K fd ps 0 ks g gV) (hx : Passes CX X E)
    (hkw : PK X kws tk) (hall : (backToKw pos (keywordEach kws X.env)).all (·.1.isSome) = true := by rfl) (hks : (backToKw pos (keywordEach kws X.env)).filterMap (·.1) = ks := by rfl)
    (hdb : (x == ("__debug__" : Str)) = false := by decide) 
    (hpl : ((backTo pos (starEach [] X.env)).any (·.1) || (backToKw pos (keywordEach kws X.env)).any (·.1.isNone)) = false := by rfl) :
    PE X (.Call (.Name x p) [] kws pos) (tCallN 0 ks.length sp gV E tNil tk) := by
  refine ⟨fun pins s σ H Q I h => ?_⟩
  refine wpAny_Call_Name_kw (ld_glob I hg hm ?_ hdb)
  refine PySem.W.callWith_KW0 (h₀ := X.base) I.ok.mod.kin hk hall ?_ hpl
  refine thn (hkw.run pos pins s σ H _ I h) fun ws s2 ⟨zs, H2, I2, rz, l1, l2, q2⟩ => ⟨I2.kIn, ?_⟩
  rw [hks]
  exact run_fnN (us := []) (vs := []) F hr hb hx I2 .nil rz l1 l2 q2
end
section
variable {X : Cx} {CX : CXT} {k : Nat} {f C : Addr} {fd : FuncData} {ps ks : List Str} {sp : Sp} {E : XK} {m : Str} {pos apos : Pos} {o : Expr} {kws : List Keyword} {ta : TE} {tk : TA} {g : List Value → List Value → List Value} {gV : List V → List V → List V}
/-- o.m(k = v, ..) -/
def tMethN (C : Addr) (m : Str) (n : Nat) (sp : Sp) (gV : List V → List V → List V) (E : XK) (ta : TE) (tk : TA) : TE := fun σ H Q => ta σ H fun x H1 => ∃ a dx fs, x = .ref a ∧ H1 a = some (.ins C dx fs) ∧ fs.lookup m = none ∧
  tk σ H1 fun zs H2 => zs.length = n ∧ sp (gV [x] zs) H2 Q E
theorem pe_methN0 {pl : Sem Bool} (he : PE X o ta) (c : Cls X.K C) (hm : Meth X.K C m f) (F : FnOk X.prog X.w X.K X.mg X.base CX k f fd ps sp) (hr : Room k X.A) (hb : KBn X.K fd ps 1 ks g gV) (hx : Passes CX X E) (hkw : PK X kws tk)
    (hall : (backToKw pos (keywordEach kws X.env)).all (·.1.isSome) = true := by rfl) (hks : (backToKw pos (keywordEach kws X.env)).filterMap (·.1) = ks := by rfl)
    (hpl : ((backTo pos (starEach [] X.env)).any (·.1) || (backToKw pos (keywordEach kws X.env)).any (·.1.isNone)) = false := by rfl)
    (ht : eval (.Call (.Attribute o m apos) [] kws pos) X.env = (do
      let ov ← eval o X.env
      standAt apos.atName
      let (f, first) ← holding [ov] (getMethod ov m pl)
      callWith pos f first (backTo pos (starEach [] X.env)) (backToKw pos (keywordEach kws X.env))) := by rfl) :
    PE X (.Call (.Attribute o m apos) [] kws pos) (tMethN C m ks.length sp gV E ta tk) := by
  refine ⟨fun pins s σ H Q I h => ?_⟩
  refine PySem.W.methodCall_KW (pl := pl) (thn (he.run pins s σ H _ I h) fun u s1 ⟨x, H1, I1, rx, a, dx, fs, ex, ea, l, q⟩ => ?_) ht
  subst ex
  obtain rfl : u = Value.ref a := rx
  refine getmeth_ok I1 ea c hm l ?_
  refine PySem.W.callWith_KW0 (first := [.ref a]) (h₀ := X.base) I1.ok.mod.kin hm.kp hall ?_ hpl
  refine thn (hkw.run pos pins s1 σ H1 _ I1 q) fun ws s2 ⟨zs, H2, I2, rz, l2, q2⟩ => ⟨I2.kIn, ?_⟩
  rw [hks]
  exact run_fnN (us := [.ref a] ++ []) (vs := [.ref a]) F hr hb hx I2 (show Vals [V.ref a] [Value.ref a] from .cons rfl .nil) rz rfl l2 q2
end

/-! ### a range object kept by a name, and walked -/
section
variable {X : Cx}
theorem cr_range1 : CallR X (.type "range") (fun vs H Q => ∃ i, vs = [V.int i] ∧ ∀ p, H p = none → Q (.ref p) (upd H p (.rng 0 i))) := by
  intro pins s σ H vs us Q I r h
  obtain ⟨i, rfl, q⟩ := h
  cases r with
  | cons ri rr =>
    cases rr
    obtain ⟨t, rfl⟩ := ri
    refine call_range_1 ⟨.ref s.heap.objs.size, upd H s.heap.objs.size (.rng 0 i), I.laid (t' := s.toks + 1 + 1) (fun b o e => Heap.get?_push_of_some _ e) (Nat.le_refl _) ?_, rfl, q _ (I.hok.fresh (Nat.le_refl _))⟩
    exact ⟨s.toks, t, s.toks + 1, Heap.get?_push_size _ rfl⟩
def iRngV (te : TE) : TI := fun σ H R => te σ H fun x H1 => ∃ (a : Addr) (n : Nat), x = .ref a ∧ H1 a = some (.rng 0 (n : Int)) ∧ n ≤ 100000 ∧ R (Itr 0 n) H1
theorem pi_rngV {tg e : Expr} {te : TE} (he : PE X e te) : PI X tg e (iRngV te) := by
  refine ⟨fun pins s σ H R I h => ?_⟩
  refine thn (he.run pins s σ H _ I h) fun v s1 ⟨x, H1, I1, r1, q1⟩ => ?_
  obtain ⟨a, n, e, hq, hn, q⟩ := q1
  subst e
  cases r1
  obtain ⟨t, u, w', g⟩ := I1.hok a _ hq
  refine wpAny_pyIter_range g (small_one (by omega) (by omega) (by omega) (by omega)) ?_
  refine ⟨s1.heap.objs.size, [s1.heap.objs.size], _, _, H1, rfl, I1.kept (t' := s1.toks) fun b o e => Heap.get?_push_of_some _ e, turn_range _ 0 n, ?_, fun b hb => ?_, q⟩
  · have e1 : (0 : Int) + ((0 : Nat) : Int) * 1 = 0 := by simp
    have e2 : (n : Int) - ((0 : Nat) : Int) = Builtin.Range.rangeSize 0 n 1 := by rw [rangeSize_one]; split <;> omega
    show IsRangeIter _ _ (0 + ((0 : Nat) : Int) * 1) ((n : Int) - ((0 : Nat) : Int)) 1
    rw [e1, e2]
    exact Heap.get?_push_size _ rfl
  · have e : b = s1.heap.objs.size := by simpa using hb
    subst e
    exact I1.fpOk (Nat.le_refl _) (I1.hok.fresh (Nat.le_refl _))
end
section
variable {X : Cx} {K : PySem.W.Frag}
theorem op_inK (hK : X.K = K) : OpR X (compareOp .In) (rIn K false) := by
  subst hK
  exact op_in_seq
theorem op_notInK (hK : X.K = K) : OpR X (compareOp .NotIn) (rIn K true) := by
  subst hK
  exact op_notIn_seq
theorem pi_listK {tg l : Expr} {tl : TE} (hK : X.K = K) (hl : PE X l tl) : PI X tg l (iList K tl) := by
  subst hK
  exact pi_list hl
end
section
variable {X : Cx} {K : PySem.W.Frag}
theorem call_lenB (hK : X.K = K) : CallR X (.builtin "len") (fun xs H Q => ∃ p ys, xs = [.ref p] ∧ (SqL K H p ys ∨ SqT K H p ys) ∧ Q (.int ys.length) H) := by
  subst hK
  exact call_len_seq
theorem cr_sumB (hK : X.K = K) (hc : X.calm = true) : CallR X (.builtin "sum") (rSum K) := by
  subst hK
  exact cr_sum hc
theorem sw_cell {elt : Expr} {gs : List Comprehension} {scope : Scope} {pos py : Pos} {y : Str} {l : Nat} {env : Env} (hy : env.scope.names.lookup y = some .cell) : swapsWith (.ListComp elt gs scope pos) (some (.Name y py)) l env = pure false := by
  have ky : env.kindOf y = some .cell := hy
  unfold swapsWith
  simp only [ky]
  have e : ((some NameKind.cell == some NameKind.local) = false) := rfl
  rw [e, Bool.and_false, Bool.false_and, Bool.false_and]
end
theorem inV_ints (x : Int) : ∀ ns : List Int, inV (.int x) (ns.map V.int) = decide (x ∈ ns)
  | [] => by simp [inV]
  | n :: ns => by
    have ih := inV_ints x ns
    unfold inV at ih ⊢
    rw [List.map_cons, List.any_cons, ih]
    have e : eqV (.int n) (.int x) = decide (n = x) := rfl
    rw [e]
    rw [show decide (n = x) = decide (x = n) from decide_eq_decide.mpr eq_comm]
    simp [Bool.decide_or]
theorem flat_ints (ns : List Int) : (ns.map V.int).all flatV = true := by
  rw [List.all_eq_true]
  intro v hv
  obtain ⟨z, _, rfl⟩ := List.mem_map.mp hv
  rfl

/-! ### a keyword-only parameter with a default, left out -/
theorem bd1 {K : PySem.W.Frag} {x qual : Str} {params : Arguments} {body : List Stmt} {scope : Scope} {f D : Addr} {ps : List Str} {nm : Str} {i : Int} {tk : Tok} {oc : Value} {od : Option Addr} {doc pm : Value} {an : Option Addr} {cdv ct : Value} {osl : Array (Option Value)} (n : Nat)
    (lk : K.lookup f = some ⟨oc, od, .func (PySem.W.fnOf x qual params body scope .none (.ref D) doc pm an cdv ct), osl⟩) (hc : PySem.W.codeIn K cdv qual = true) (hk : PySem.W.keepIn K (.ref f) = true) (hd : PySem.W.nsIn K D nm = some (some (.int i tk))) (hn : n + 1 = ps.length)
    (h : ∀ (D : Addr) (doc pm : Value) (an : Option Addr) (cdv ct : Value) (us ks : List Value), us.length = n → ks.length = 1 → KwChain D ([nm].zip ks) (bindArgs (PySem.W.fnOf x qual params body scope .none (.ref D) doc pm an cdv ct) ⟨us, []⟩) (ps.zip (us ++ ks))) :
    ∃ ds, Vals [V.int i] ds ∧ Binds K (PySem.W.fnOf x qual params body scope .none (.ref D) doc pm an cdv ct) ps ds :=
  (FunD.mk ⟨_, _, _, _, _, _, _, _, _, _, rfl, lk, hc, .inl ⟨rfl, rfl⟩, .inr ⟨D, rfl, fun q hq => by rw [List.mem_singleton.mp hq]; exact ⟨_, hd, tk, rfl⟩⟩⟩ hk : FunD K x qual params body scope [] [(nm, V.int i)] f _).binds0 n (by intro z; cases z) hn h

/-! ### within a comprehension: what hangs on the written part alone -/
section
variable {X : Cx} {K : PySem.W.Frag} {e : Expr} {f : Str} {pos : Pos} {ta : TE}
theorem pe_fldB (hK : X.K = K) (he : PE X e ta) (hb : attributeBase e f X.env (eval e X.env) = eval e X.env) : PE X (.Attribute e f pos) (tFld K ta f) := by
  subst hK
  exact pe_fld he hb
theorem ix_listB (hK : X.K = K) : L2.IxR X (rIxL K) := by
  subst hK
  exact ix_list
end
section
variable {X : Cx} {K : PySem.W.Frag}
theorem pg_tupB {es : List Expr} {pos : Pos} {k : Nat} {t : TGs} {n : Nat} (hK : X.K = K) (hc : X.calm = true) (h : PGs X es t)
    (hn : (assignEach es X.env).length = n := by rfl) (hst : (assignEach es X.env).findIdx? (·.1) = none := by rfl) : PG X (.Tuple es k pos) (gTup K n t) := by
  subst hK
  exact pg_tup hc h hn hst
theorem pt_truthB {a : Expr} {ta : TE} (hK : X.K = K) (ha : PE X a ta) (he : ∀ whole, isTrue a X.env whole = (do let v ← whole; standAt a.pos; holding [v] (truthy v))) :
    PT X a (fun σ H Q => ta σ H fun x H' => ∃ k, TruV K x H' k ∧ Q k H') := by
  subst hK
  exact pt_truth ha he
theorem ix_tupB (hK : X.K = K) : L2.IxR X (rIxT K) := by
  subst hK
  exact ix_tup
theorem call_isiB (hK : X.K = K) : CallR X (.builtin "isinstance") (rIsi K) := by
  subst hK
  exact call_isi
end

/-! ### list + list, where the lists are read only (the script) -/
section
open PySem.AutoSeq1 in
theorem list_add_sl (l : Addr) (items : Array Value) (n : Nat) (sl : Array (Option Value)) (b : Addr) (items2 : Array Value) (n2 : Nat) (sl2 : Array (Option Value)) (hc0 : items.size + items2.size ≤ sizeLine) :
    Meets (Builtin.«list.__add__» ⟨[.ref l, .ref b], []⟩) (fun _ R s => s.heap.get? l = some { cls := .type "list", dict := none, data := .seq items n, slots := sl } ∧ s.heap.get? b = some { cls := .type "list", dict := none, data := .seq items2 n2, slots := sl2 } ∧
      R (.ok (.ret (Value.ref s.heap.objs.size))) { s with heap := s.heap.push { cls := Value.type "list", data := Data.seq (items ++ items2) } }) :=
  .of_wp fun prog w A R s h => by
    obtain ⟨hp, g, d, tk, os⟩ := s
    obtain ⟨hl, hb, h⟩ := h
    have f1 := idx_int
    have f2 := sub_tuple_tuple
    have f3 := sub_list_list
    have f4 := sub_tuple_list
    have f5 := sub_list_tuple
    wp_walk using wpAny_loadPart' hl, wpAny_loadPart' hb
    exact ⟨_, rfl, h⟩
variable {X : Cx}
def rCatS (K : PySem.W.Frag) : R2 := fun x y H Q => ∃ l b xs zs, x = .ref l ∧ y = .ref b ∧ SqL K H l xs ∧ SqL K H b zs ∧ xs.length + zs.length ≤ sizeLine ∧ ∀ p, H p = none → Q (.ref p) (upd H p (.lst (xs ++ zs)))
theorem op_catS : OpR X (binaryOp .Add) (rCatS X.K) := by
  intro pins s σ H x y v u Q I rx ry h
  obtain ⟨l, b, xs, zs, rfl, rfl, hH, hB, hz, q⟩ := h
  cases rx
  cases ry
  obtain ⟨its, r, ⟨o, n, e, hc, hd, hs⟩, z⟩ := I.list hH
  obtain ⟨its2, r2, ⟨o2, n2, e2, hc2, hd2, hs2⟩, z2⟩ := I.list hB
  obtain ⟨oc, od, dt, sl⟩ := o
  obtain ⟨oc2, od2, dt2, sl2⟩ := o2
  simp only at hc hd hs hc2 hd2 hs2
  subst hc hd hs hc2 hd2 hs2
  have l1 := r.length
  have l2 := r2.length
  refine concat_meets ⟨_, e, rfl⟩ ⟨_, e2, rfl⟩ noFill_list_add seq_list_add PySem.F.slot_list_add PySem.F.entry_list_add (PySem.F.args_list_add_2 _ _) (list_add_sl l its.toArray n sl b its2.toArray n2 sl2 (by rw [List.size_toArray, List.size_toArray]; omega)) ⟨e, e2, ?_⟩
  have ea : its.toArray ++ its2.toArray = (its ++ its2).toArray := by simp
  rw [ea]
  exact ⟨.ref _, _, I.lnew (t' := s.toks) (r.append r2) (by rw [List.length_append]; omega), rfl, q _ I.fresh⟩
end
section
variable {X : Cx} {K : PySem.W.Frag}
theorem op_catSB (hK : X.K = K) : OpR X (binaryOp .Add) (rCatS K) := by
  subst hK
  exact op_catS
end

/-! ### None == an instance of a class with an own __eq__; two rules of one operation -/
section
open PySem.W
variable {prog : Program} {w : World} {A : Around} {E : Value → Shared → Prop} {s : Shared} {K : PySem.W.Frag} {x C L f : Addr} {h₀ : Heap} {m : Str → Option Value} {ox : Obj} {od : Option Obj}
theorem eq_none_K {Q : Value → Shared → Prop} (hu : A.units < cLine) (F : PyProof.Rows.Fr h₀ L s.heap m) (X₀ : K.In h₀) (I : InstAt s.heap x ox C od)
    (hno : subIn K (.ref C) (.type "NoneType") = some false) (hs : findIn K (.ref C) "__eq__" = some (some (.ref f))) (hf : isFn K (.ref f) = true)
    (h : wpAny (model prog w) A (call (.ref f) [.ref x, .none]) (CmpBack Q) E s) : wpAny (model prog w) A (richCompare .Eq .none (.ref x)) Q E s := by
  have X := X₀.keeps F.keep
  have two : wpAny (model prog w) A (tryCompare (.ref x) "__eq__" .none) (fun r s' => ∃ v, r = some v ∧ Q v s') E s := by
    unfold tryCompare
    refine wpAny_bind (ifBound_K X I hs hf (wpAny_mono h (fun v s' hv => ?_) fun _ _ e => e))
    cases v <;> first | exact hv.elim | exact wpAny_pure ⟨_, rfl, hv⟩
  have hN : s.TypeIs .none "NoneType" := rfl
  unfold richCompare
  simp only [hN.oneThing_none]
  refine wpAny_holding (wpAny_bind (wpAny_cRoomFor hu ?_))
  refine wpAny_bind (wpAny_typeOf hN (wpAny_bind (I.type.here ?_)))
  rw [if_pos (show (Value.type "NoneType" != Value.ref C) = true from rfl)]
  refine wpAny_bind ((looks_subIn X hno).here ?_)
  simp only [Bool.false_eq_true, if_false]
  simp only [Bool.not_false, if_true]
  refine wpAny_bind (m := tryCompare .none _ (.ref x)) (wpAny_tryCompare_declines hN PySem.F.slot_NoneType_eq (call_gives PySem.F.slot_NoneType_eq hN PySem.F.entry_NoneType_eq (PySem.F.args_NoneType_eq_2 _ _) (PySem.SeqAt.NoneType___eq___none_ref_0 x) ⟨rfl, ?_⟩))
  refine wpAny_bind (m := tryCompare (.ref x) _ .none) (wpAny_mono two (fun r s' z => ?_) fun _ _ e => e)
  obtain ⟨v, rfl, hq⟩ := z
  exact wpAny_pure hq
end
section
variable {X : Cx} {n : Nat}
/-- either rule -/
def rOr (r r' : R2) : R2 := fun x y H Q => r x y H Q ∨ r' x y H Q
theorem op_or {f : Value → Value → Sem Value} {r r' : R2} (h : OpR X f r) (h' : OpR X f r') : OpR X f (rOr r r') := fun pins s σ H x y v u Q I rx ry q => q.elim (h pins s σ H x y v u Q I rx ry) (h' pins s σ H x y v u Q I rx ry)
/-- None == an instance: its own __eq__ is asked -/
def rNoneEq (C : Addr) (sp : Sp) (E : XK) : R2 := fun x y H Q => ∃ a dx fs, x = .non ∧ y = .ref a ∧ H a = some (.ins C dx fs) ∧ sp [y, .non] H (fun v H' => ∃ b, v = .bl b ∧ Q (.bl b) H') E
theorem op_noneEq {CX : CXT} {C f : Addr} {fd : FuncData} {ps : List Str} {sp : Sp} {E : XK} (hm : Meth X.K C "__eq__" f) (F : FnOk X.prog X.w X.K X.mg X.base CX n f fd ps sp) (hb : Binds X.K fd ps []) (hr : Room n X.A) (hx : Passes CX X E)
    (hno : PySem.W.subIn X.K (.ref C) (.type "NoneType") = some false) : OpR X (compareOp .Eq) (rNoneEq C sp E) := by
  intro pins s σ H x y v u Q I rx ry hq
  obtain ⟨a, dx, fs, rfl, rfl, ha, hsp⟩ := hq
  cases rx
  cases ry
  obtain ⟨mA, J, _⟩ := ins_get I.hok ha
  obtain ⟨od, J, _⟩ := J.look
  obtain ⟨m, hF⟩ := I.fr
  show wpAny (model X.prog X.w) X.A (richCompare .Eq .none (.ref a)) (EP X pins σ Q) X.xe s
  refine eq_none_K hr.units0 hF I.ok.mod.kin J hno hm.at_ hm.fn ?_
  have hl := F.len _ _ _ _ hsp
  have r2 : Vals [V.ref a, V.non] [Value.ref a, Value.none] := .cons rfl (.cons rfl .nil)
  refine wpAny_call (codeAny_mono (F.run X.A X.stack s H ⟨[.ref a, .none], []⟩ [.ref a, .none] [.ref a, .non] _ E hr I.env0 (by
    have := hb s [.ref a, .none] I.kIn (by simpa using hl)
    simpa using this) r2 hsp) fun r s' hq => ?_)
  cases r with
  | error e => exact hx pins σ H s e s' I hq
  | ok fl =>
    cases fl with
    | ret w =>
      obtain ⟨z, H', I', rz, b, ez, q⟩ := I.after hq
      subst ez
      cases rz
      exact ⟨.bl b, H', I', rfl, q⟩
    | next => exact False.elim hq
    | brk => exact False.elim hq
    | cont => exact False.elim hq
end

/-! ### x in xs, not in, where == of the items may run an own __eq__ -/
section
open PySem.AutoSeq1 in
open PySem.MeetsSeq in
theorem in_loopG {prog : Program} {w : World} {A : Around} {R : Result → Shared → Prop} (l : Addr) (x : Value) (N : Nat) (B : Nat → Bool) (I : Nat → Shared → Prop)
    (hl : ∀ i s, I i s → ∃ (items : Array Value) (n : Nat) (dd : Option Addr) (sl : Array (Option Value)), s.heap.get? l = some { cls := .type "list", dict := dd, data := .seq items n, slots := sl } ∧ items.size = N ∧
      ∀ h1 : i < items.size, wpAny (model prog w) A.in1 (eqBool items[i] x) (fun r s' => r = B i ∧ I (i + 1) s') (fun e s' => R (.error e) s') s)
    (hT : ∀ i s, i < N → B i = true → I (i + 1) s → R (.ok (.ret (.bool true))) s) (hF : (∀ j, j < N → B j = false) → ∀ s, I N s → R (.ok (.ret (.bool false))) s) (k : Nat) :
    ∀ i : Nat, N - i = k → i ≤ N → (∀ j, j < i → B j = false) → ∀ s, I i s →
      wpAny (model prog w) A.in1 (Builtin.«list.__contains__.loop» ⟨[.ref l, x, rawInt i], []⟩) (GQ.FinOf prog w A R) (fun e s' => R (.error e) s') s := by
  induction k with
  | zero =>
    intro i hk hi hno s h
    obtain ⟨items, n, dd, sl, hl1, hs1, _⟩ := hl _ _ h
    have hi' : i = N := by omega
    have hR : R (.ok (.ret (.bool false))) s := hF (fun j hj => hno j (by omega)) s (hi' ▸ h)
    obtain ⟨hp, g, d, tk, os⟩ := s
    wp_walk using wpAny_loadPart' hl1
    have hi1 : items[((i : Nat) : Int).toNat]? = none := by simp; omega
    rw [hi1]
    wp_walk
    exact hR
  | succ k ih =>
    intro i hk hi hno s h
    obtain ⟨items, n, dd, sl, hl1, hs1, turn⟩ := hl _ _ h
    have hlt : i < items.size := by omega
    have ht := turn hlt
    obtain ⟨hp, g, d, tk, os⟩ := s
    wp_walk using wpAny_loadPart' hl1
    have hi1 : items[((i : Nat) : Int).toNat]? = some items[i] := by simp [hlt]
    have hc : ((i : Int) + 1) = ((i + 1 : Nat) : Int) := by omega
    rw [hi1]
    refine wpAny_bind (wpAny_mono ht (fun r s2 h2 => ?_) fun _ _ x => x)
    obtain ⟨hr, h2⟩ := h2
    subst hr
    obtain ⟨hp2, g2, d2, tk2, os2⟩ := s2
    cases hb : B i with
    | true =>
      have hR := hT i _ (by omega) hb h2
      wp_walk
      exact hR
    | false =>
      have hrec := ih (i + 1) (by omega) (by omega) (fun j hj => by
        by_cases e : j = i
        · rw [e]; exact hb
        · exact hno j (by omega)) _ h2
      wp_walk
      rw [hc]
      exact ⟨plainId_quiet plain_contains_loop _, codeAny_builtin entry_contains_loop (by
        rw [Around.under_plainId plain_contains_loop _]
        exact hrec)⟩
end
section
variable {X : Cx} {n : Nat} {CX : CXT} {C f : Addr} {fd : FuncData} {ps : List Str} {sp : Sp} {E : XK} {A : Around} {pins : List (Addr × Obj)} {σ : L2.St} {H : Hp} {s : Shared}
theorem rcOwn (hm : Meth X.K C "__eq__" f) (F : FnOk X.prog X.w X.K X.mg X.base CX n f fd ps sp) (hb : Binds X.K fd ps []) (hx : Passes CX X E) (sb : Sub X n A) (I : Inv X pins σ H s) {a dx : Addr} {fs : List (Str × V)} {y : V} {u t : Value} {R : Bool → Hp → Prop}
    (ry : RelV y u) (ha : H a = some (.ins C dx fs)) (ty : TyX X.K H y t) (nf : PySem.W.notFirst X.K C t = true) (hsp : sp [.ref a, y] H (fun v H' => ∃ b, v = .bl b ∧ R b H') E) :
    wpAny (model X.prog X.w) A (richCompare .Eq (.ref a) u) (fun v s' => ∃ b H', v = .bool b ∧ Inv X pins σ H' s' ∧ R b H') X.xe s := by
  have lt := looks_ty I ry ty
  obtain ⟨mA, J, _⟩ := ins_get I.hok ha
  obtain ⟨od, J, _⟩ := J.look
  obtain ⟨m, hF⟩ := I.fr
  refine PySem.W.cmp_K (op := .Eq) sb.room.units0 hF I.ok.mod.kin J lt nf hm.at_ hm.fn ?_
  have hl := F.len _ _ _ _ hsp
  have e0 : Env0 X.prog X.w X.K X.mg X.base A X.stack s H := by
    have e := I.env0
    exact ⟨by rw [sb.fr]; exact e.frames, e.mod, e.bs, e.bsz, e.funs, e.frf, e.hok, e.bare⟩
  have r2 : Vals [V.ref a, y] [Value.ref a, u] := .cons rfl (.cons ry .nil)
  refine wpAny_call (codeAny_mono (F.run A X.stack s H ⟨[.ref a, u], []⟩ [.ref a, u] [.ref a, y] _ E sb.room e0 (by
    have := hb s [.ref a, u] I.kIn (by simpa using hl)
    simpa using this) r2 hsp) fun r s' hq => ?_)
  cases r with
  | error e => exact hx pins σ H s e s' I hq
  | ok fl =>
    cases fl with
    | ret w =>
      obtain ⟨z, H', I', rz, b, ez, q⟩ := I.after hq
      subst ez
      cases rz
      exact ⟨b, H', rfl, I', q⟩
    | next => exact False.elim hq
    | brk => exact False.elim hq
    | cont => exact False.elim hq
/-- None in a list of instances and None -/
def rNoneInO (K : PySem.W.Frag) (C : Addr) (sp : Sp) (E : XK) (neg : Bool) : R2 := fun x y H Q => ∃ l xs, x = .non ∧ y = .ref l ∧ SqL K H l xs ∧
  (∀ v ∈ xs, v = .non ∨ ∃ a dx fs, v = .ref a ∧ H a = some (.ins C dx fs) ∧ sp [v, .non] H (fun w H' => ∃ b, w = .bl b ∧ b = false ∧ H' = H) E) ∧ Q (.bl (if neg then !xs.any (fun v => decide (v = .non)) else xs.any (fun v => decide (v = .non)))) H
theorem inNone (hm : Meth X.K C "__eq__" f) (F : FnOk X.prog X.w X.K X.mg X.base CX n f fd ps sp) (hb : Binds X.K fd ps []) (hr : Room (n + 1) X.A) (hx : Passes CX X E) (hnf : PySem.W.notFirst X.K C (.type "NoneType") = true)
    (I : Inv X pins σ H s) {l : Addr} {xs : List V} {R : Result → Shared → Prop} (hl : SqL X.K H l xs)
    (hv : ∀ v ∈ xs, v = .non ∨ ∃ a dx fs, v = .ref a ∧ H a = some (.ins C dx fs) ∧ sp [v, .non] H (fun w H' => ∃ b, w = .bl b ∧ b = false ∧ H' = H) E)
    (hE : ∀ e s', X.xe e s' → R (.error e) s') (h : ∀ s', Inv X pins σ H s' → R (.ok (.ret (.bool (xs.any (fun v => decide (v = .non)))))) s') :
    wpAny (model X.prog X.w) X.A.in1 (Builtin.«list.__contains__» ⟨[.ref l, .none], []⟩) (GQ.FinOf X.prog X.w X.A R) (fun e s' => R (.error e) s') s := by
  have turn : ∀ i s, Inv X pins σ H s → ∃ (items : Array Value) (m : Nat) (dd : Option Addr) (sl : Array (Option Value)), s.heap.get? l = some { cls := .type "list", dict := dd, data := .seq items m, slots := sl } ∧ items.size = xs.length ∧
      ∀ h1 : i < items.size, wpAny (model X.prog X.w) X.A.in1 (eqBool items[i] .none) (fun r s' => r = decide (xs[i]? = some .non) ∧ Inv X pins σ H s') (fun e s' => R (.error e) s') s := by
    intro i s J
    obtain ⟨its, r, ⟨⟨oc, od, dt, sl⟩, m, e, hc, hd, hs⟩, z⟩ := J.list hl
    simp only at hc hd hs
    subst hc hd hs
    have hlen := r.length
    refine ⟨its.toArray, m, none, sl, e, by rw [List.size_toArray]; omega, fun h1 => ?_⟩
    have h1' : i < its.length := by simpa using h1
    have h2' : i < xs.length := by omega
    have hx' : xs[i]? = some xs[i] := List.getElem?_eq_getElem h2'
    obtain ⟨u, hu, ru⟩ := r.get hx'
    have eu : its.toArray[i] = u := by
      have : its[i]? = some its[i] := List.getElem?_eq_getElem h1'
      rw [this] at hu
      simpa using Option.some.inj hu
    rw [eu, hx']
    rcases hv _ (List.getElem_mem h2') with hn | ⟨a, dx, fs, hn, ha, hsp⟩
    · rw [hn] at ru ⊢
      cases ru
      exact SeqAt.EqAt.same (A := X.A.in1) (s := s) .none X.prog X.w _ _ ⟨(decide_eq_true rfl).symm, J⟩
    · rw [hn] at ru hsp ⊢
      cases ru
      unfold eqBool
      refine wpAny_holding ?_
      refine wpAny_ite_split (fun hab => by cases eq_of_beq hab) (fun _ => ?_)
      refine wpAny_bind (wpAny_mono (rcOwn (R := fun b H' => b = false ∧ H' = H) hm F hb hx ⟨hr.in1, rfl⟩ J (y := .non) (u := .none) rfl ha (.base .non) hnf hsp) (fun v s' hv => ?_) hE)
      obtain ⟨b, H', rfl, J', eb, eH⟩ := hv
      subst eb eH
      exact wpAny_truthy_bool ⟨(decide_eq_false (by intro z; cases z)).symm, J'⟩
  have hfin := in_loopG (prog := X.prog) (w := X.w) (A := X.A) (R := R) l .none xs.length (fun i => decide (xs[i]? = some .non)) (fun _ s => Inv X pins σ H s) turn ?_ ?_ _ 0 rfl (Nat.zero_le _) (fun j hj => by omega) s I
  · obtain ⟨items, m, dd, sl, hl1, _, _⟩ := turn 0 s I
    obtain ⟨hp, g, d, tk, os⟩ := s
    wp_walk using PySem.AutoSeq1.wpAny_loadPart' hl1
    exact ⟨plainId_quiet MeetsSeq.plain_contains_loop _, codeAny_builtin MeetsSeq.entry_contains_loop (by
      rw [Around.under_plainId MeetsSeq.plain_contains_loop _]
      exact hfin)⟩
  · intro i s' hi hB J
    have e : xs.any (fun v => decide (v = .non)) = true := by
      rw [List.any_eq_true]
      exact ⟨.non, List.mem_of_getElem? (of_decide_eq_true hB), decide_eq_true rfl⟩
    have := h s' J
    rwa [e] at this
  · intro hno s' J
    have e : xs.any (fun v => decide (v = .non)) = false := by
      rw [List.any_eq_false]
      intro v hv' hd
      obtain ⟨j, hj, ej⟩ := List.getElem_of_mem hv'
      have hB := of_decide_eq_false (hno j hj)
      exact hB (by rw [List.getElem?_eq_getElem hj, ej, of_decide_eq_true hd])
    have := h s' J
    rwa [e] at this
theorem op_noneInO (hm : Meth X.K C "__eq__" f) (F : FnOk X.prog X.w X.K X.mg X.base CX n f fd ps sp) (hb : Binds X.K fd ps []) (hr : Room (n + 1) X.A) (hx : Passes CX X E) (hnf : PySem.W.notFirst X.K C (.type "NoneType") = true) : OpR X (compareOp .In) (rNoneInO X.K C sp E false) := by
  intro pins s σ H x y v u Q I rx ry hq
  obtain ⟨l, xs, rfl, rfl, hl, hv, q⟩ := hq
  cases rx
  cases ry
  obtain ⟨its, r, ⟨o, m, e, hc, hd, hs⟩, z⟩ := I.list hl
  show wpAny _ X.A ((do return Value.bool (← contains (.ref l) .none)) : Sem Value) _ _ s
  refine wpAny_bind (wpAny_contains_slot ⟨o, e, hc⟩ PySem.F.slot_list_contains (wpAny_mono (GQ.call_here (Q := fun v s' => ∃ b, v = .bool b ∧ EP X pins σ Q (.bool b) s') PySem.F.slot_list_contains ⟨o, e, hc⟩ PySem.F.entry_list_contains (PySem.F.args_list_contains_2 _ _) ?_) (fun v s' hv => ?_) fun _ _ e => e))
  · exact inNone hm F hb hr hx hnf I hl hv (fun e s' z => z) fun s' J => ⟨_, rfl, .bl _, H, J, rfl, q⟩
  · obtain ⟨b, rfl, hq⟩ := hv
    exact wpAny_truthy_bool (wpAny_pure hq)
theorem op_noneNotInO (hm : Meth X.K C "__eq__" f) (F : FnOk X.prog X.w X.K X.mg X.base CX n f fd ps sp) (hb : Binds X.K fd ps []) (hr : Room (n + 1) X.A) (hx : Passes CX X E) (hnf : PySem.W.notFirst X.K C (.type "NoneType") = true) : OpR X (compareOp .NotIn) (rNoneInO X.K C sp E true) := by
  intro pins s σ H x y v u Q I rx ry hq
  obtain ⟨l, xs, rfl, rfl, hl, hv, q⟩ := hq
  cases rx
  cases ry
  obtain ⟨its, r, ⟨o, m, e, hc, hd, hs⟩, z⟩ := I.list hl
  show wpAny _ X.A ((do return Value.bool (!(← contains (.ref l) .none))) : Sem Value) _ _ s
  refine wpAny_bind (wpAny_contains_slot ⟨o, e, hc⟩ PySem.F.slot_list_contains (wpAny_mono (GQ.call_here (Q := fun v s' => ∃ b, v = .bool b ∧ EP X pins σ Q (.bool (!b)) s') PySem.F.slot_list_contains ⟨o, e, hc⟩ PySem.F.entry_list_contains (PySem.F.args_list_contains_2 _ _) ?_) (fun v s' hv => ?_) fun _ _ e => e))
  · exact inNone hm F hb hr hx hnf I hl hv (fun e s' z => z) fun s' J => ⟨_, rfl, .bl _, H, J, rfl, q⟩
  · obtain ⟨b, rfl, hq⟩ := hv
    exact wpAny_truthy_bool (wpAny_pure hq)
end

/-! ### range with a step of any size (Itc says lo, lo + c, .. n of them) -/
section
open PySem.Spec PyProof.Rows
theorem turn_longC {P : Program} {w : World} {K : PySem.W.Frag} {tg : Expr} (it : Addr) (lo c : Int) (n : Nat) : Turn P w K tg (Itc lo c n) [it] it (fun i h => IsLongIter h it (lo + (i : Nat) * c) ((n : Int) - (i : Nat)) c) where
  mem := by simp
  obj := fun i h st b hb => by
    have e : b = it := by simpa using hb
    subst e
    exact ⟨_, st, fun v z => nomatch z⟩
  keep := fun i h h' st k => k it (by simp) _ st
  item := by
    intro X hP hw hK hc i pins s σ H E I hf st hg
    subst hP hw hK
    obtain ⟨f0, f1, f2, f3, f4, f5⟩ := hf it (by simp)
    have W := Walks.longrange (prog := X.prog) (w := X.w) (I.ok.hd hc) it lo c n
    refine W.item i s _ _ hg st fun v h' tk hv st' kk => ?_
    obtain ⟨t, rfl⟩ := hv
    have I1 : Inv X pins σ H { s with heap := h', toks := tk } := I.turned (fun b o hb e => kk b o (by simpa using hb) e) f0 f1 f3 f4 f5
    exact ⟨_, rfl, go_of (s := { s with heap := h', toks := tk }) (n := "longrange_iterator") st' rfl rfl (by decide) ⟨.int (lo + (i : Nat) * c), H, I1, ⟨t, rfl⟩, ⟨rfl, rfl⟩, st', fun b hb => (hf b hb).1⟩⟩
  done := by
    intro X hP hw hK hc i pins s σ H E I hf st hg
    subst hP hw hK
    obtain ⟨f0, f1, f2, f3, f4, f5⟩ := hf it (by simp)
    exact wpAny_pyNext_long_end (I.ok.hd hc) st (by have : n ≤ i := hg; omega) fun h' eb => ⟨rfl, I.turned (t' := s.toks) (fun b o hb e => eb b o hb e) f0 f1 f3 f4 f5⟩
  self := fun A i s Q E st h => wpAny_pyIter_longiter st h
def iRngW (ta : TA) : TI := fun σ H R => ta σ H fun vs H1 => ∃ (i j c : Int) (n : Nat), vs = [.int i, .int j, .int c] ∧ 0 < c ∧ c.natAbs.log2 < 9000 ∧ Builtin.Range.rangeSize i j c = n ∧ R (Itc i c n) H1
variable {X : Cx} {tg : Expr}
theorem pi_range3W {a b c : Expr} {ta : TA} {p pos : Pos} (hg : Gl X "range") (hm : X.mg "range" = none) (ha : PA X [a, b, c] ta)
    (hs : starEach [a, b, c] X.env = (false, eval a X.env) :: starEach [b, c] X.env := by rfl) (hpl : (backTo pos (starEach [b, c] X.env)).any (·.1) = false := by rfl) :
    PI X tg (.Call (.Name "range" p) [a, b, c] [] pos) (iRngW ta) := by
  refine ⟨fun pins s σ H R I h => ?_⟩
  refine Call_ (ld_blt I hg hm boot_range (PyProof.Rows.callWith_type1 (thn (ha.run pos pins s σ H _ I h) fun us s1 ⟨vs, H1, I1, r1, q1⟩ => ?_) hs hpl))
  obtain ⟨i, j, k, n, e, c0, c1, c3, q⟩ := q1
  subst e
  cases r1 with
  | cons r rr =>
    cases rr with
    | cons r' rr =>
      cases rr with
      | cons r'' rr =>
        cases rr
        obtain ⟨t, rfl⟩ := r
        obtain ⟨t', rfl⟩ := r'
        obtain ⟨t'', rfl⟩ := r''
        refine call_range_3 (by omega) ?_ (.inl (PyProof.noPylong_of_log2 c1))
        have I2 : Inv X pins σ H1 { s1 with heap := s1.heap.push { cls := .type "range", data := .fields #[.int i t, .int j t', .int k t''] } } := I1.kept (t' := s1.toks) fun b o e => Heap.get?_push_of_some _ e
        have e1 : i + ((0 : Nat) : Int) * k = i := by simp
        have e2 : (n : Int) - ((0 : Nat) : Int) = Builtin.Range.rangeSize i j k := by rw [c3]; simp
        cases c2 : Builtin.Range.small i j k with
        | true =>
          refine wpAny_pyIter_range (IsRange.new ..) c2 ?_
          refine pi_one (tk := s1.toks) I2 _ (turn_rangeC _ i k n) ?_ q
          show IsRangeIter _ _ (i + ((0 : Nat) : Int) * k) ((n : Int) - ((0 : Nat) : Int)) k
          rw [e1, e2]
          exact Heap.get?_push_size _ rfl
        | false =>
          refine wpAny_pyIter_longrange (IsRange.new ..) c2 ?_
          refine pi_one (tk := s1.toks) I2 _ (turn_longC _ i k n) ?_ q
          show IsLongIter _ _ (i + ((0 : Nat) : Int) * k) ((n : Int) - ((0 : Nat) : Int)) k
          rw [e1, e2]
          exact Heap.get?_push_size _ rfl
end
section
open PySem.Spec PyProof.Rows
variable {X : Cx} {tg : Expr}
def iRngW2 (ta : TA) : TI := fun σ H R => ta σ H fun vs H1 => ∃ i j : Int, vs = [.int i, .int j] ∧ R (Itc i 1 (j - i).toNat) H1
theorem pi_range2W {a b : Expr} {ta : TA} {p pos : Pos} (hg : Gl X "range") (hm : X.mg "range" = none) (ha : PA X [a, b] ta) (hs : starEach [a, b] X.env = [(false, eval a X.env), (false, eval b X.env)] := by rfl) (hs2 : starEach [b] X.env = [(false, eval b X.env)] := by rfl) :
    PI X tg (.Call (.Name "range" p) [a, b] [] pos) (iRngW2 ta) := by
  refine ⟨fun pins s σ H R I h => ?_⟩
  refine Call_ (ld_blt I hg hm boot_range (PyProof.Rows.callWith_type1 (thn (ha.run pos pins s σ H _ I h) fun us s1 ⟨vs, H1, I1, r1, q1⟩ => ?_) (by rw [hs, hs2]) (by rw [hs2]; rfl)))
  obtain ⟨i, j, e, q⟩ := q1
  subst e
  cases r1 with
  | cons r rr =>
    cases rr with
    | cons r' rr =>
      cases rr
      obtain ⟨t, rfl⟩ := r
      obtain ⟨t', rfl⟩ := r'
      refine call_range_2 ?_
      have I2 : Inv X pins σ H1 { s1 with heap := s1.heap.push { cls := .type "range", data := .fields #[.int i t, .int j t', .int 1 s1.toks] }, toks := s1.toks + 1 } := I1.kept (t' := s1.toks + 1) fun b o e => Heap.get?_push_of_some _ e
      have c3 : Builtin.Range.rangeSize i j 1 = ((j - i).toNat : Int) := rangeSize_nat i j
      have e1 : i + ((0 : Nat) : Int) * 1 = i := by simp
      have e2 : (((j - i).toNat : Nat) : Int) - ((0 : Nat) : Int) = Builtin.Range.rangeSize i j 1 := by rw [c3]; simp
      cases c2 : Builtin.Range.small i j 1 with
      | true =>
        refine wpAny_pyIter_range (IsRange.new ..) c2 ?_
        refine pi_one (tk := s1.toks + 1) I2 _ (turn_rangeC _ i 1 (j - i).toNat) ?_ q
        show IsRangeIter _ _ (i + ((0 : Nat) : Int) * 1) ((((j - i).toNat : Nat) : Int) - ((0 : Nat) : Int)) 1
        rw [e1, e2]
        exact Heap.get?_push_size _ rfl
      | false =>
        refine wpAny_pyIter_longrange (IsRange.new ..) c2 ?_
        refine pi_one (tk := s1.toks + 1) I2 _ (turn_longC _ i 1 (j - i).toNat) ?_ q
        show IsLongIter _ _ (i + ((0 : Nat) : Int) * 1) ((((j - i).toNat : Nat) : Int) - ((0 : Nat) : Int)) 1
        rw [e1, e2]
        exact Heap.get?_push_size _ rfl
end

/-! ### list(enumerate(xs)): a list of new pairs -/
section
open PySem.W PySem.Calls PyProof.Rows PySem.Spec
def enuL {α : Type} : Nat → List α → List (Key × α)
  | _, [] => []
  | i, x :: xs => (.inl (i : Nat), x) :: enuL (i + 1) xs
theorem enuL_len {α : Type} : ∀ (xs : List α) (i : Nat), (enuL i xs).length = xs.length
  | [], _ => rfl
  | _ :: xs, i => congrArg (· + 1) (enuL_len xs (i + 1))
theorem enuL_get {α : Type} : ∀ (xs : List α) (i j : Nat) (x : α), xs[j]? = some x → (enuL i xs)[j]? = some (.inl ((i + j : Nat) : Int), x)
  | [], _, _, _, h => by cases h
  | y :: ys, i, 0, x, h => by cases h; rfl
  | y :: ys, i, j + 1, x, h => by
    have := enuL_get ys (i + 1) j x h
    rw [show i + (j + 1) = i + 1 + j by omega]
    exact this
theorem enuL_kv : ∀ {xs : List V} {us : List Value} (i : Nat), Vals xs us → KV (enuL i xs) (enuL i us)
  | [], [], _, _ => .nil
  | [], _ :: _, _, h => nomatch h
  | _ :: _, [], _, h => nomatch h
  | _ :: _, _ :: _, i, .cons r rr => .cons ⟨rfl, r⟩ (enuL_kv (i + 1) rr)
/-- the enumerate object at e while S is being filled: nothing given out yet, or the first pair is held -/
def EnuSt (h : Heap) (e it l S : Addr) (items : Array Value) (i : Nat) : Prop :=
  h.IsListIter it l i ∧ h.IsList l items ∧ ((∃ old, IsEnum h e it i old) ∨ ∃ old T f oT, IsEnumHeld h e it i old T f ∧ h.get? T = some oT ∧ T ≠ e ∧ T ≠ it ∧ T ≠ S)
variable {prog : Program} {w : World} {A : Around} {E : Value → Shared → Prop} {s : Shared} {R : Result → Shared → Prop} {e it l S : Addr} {items : Array Value}
theorem EnuSt.keep {h h' : Heap} {i : Nat} (x : EnuSt h e it l S items i) (hk : ∀ b o, b ≠ S → h.get? b = some o → h'.get? b = some o) (he : e ≠ S) (hi : it ≠ S) (hl : l ≠ S) : EnuSt h' e it l S items i := by
  obtain ⟨a, b, c⟩ := x
  refine ⟨a.at fun o q => hk _ o hi q, b.at fun o q => hk _ o hl q, ?_⟩
  rcases c with ⟨old, c⟩ | ⟨old, T, f, oT, c, hT, r1, r2, r3⟩
  · exact .inl ⟨old, hk _ _ he c⟩
  · exact .inr ⟨old, T, f, oT, hk _ _ he c, hk _ _ r3 hT, r1, r2, r3⟩
theorem enu_next {i : Nat} {x : Value} {Q : Option Value → Shared → Prop} (hei : e ≠ it) (hle : l ≠ e) (hli : l ≠ it) (st : EnuSt s.heap e it l S items i) (hS : S < s.heap.objs.size) (hx : items[i]? = some x)
    (hQ : ∀ h', EnuSt h' e it l S items (i + 1) → h'.get? s.heap.objs.size = some { cls := .type "tuple", data := .seq #[.int i s.toks, x] } → h'.objs.size = s.heap.objs.size + 1 →
      (∀ b o, b ≠ e → b ≠ it → s.heap.get? b = some o → h'.get? b = some o) → Q (some (.ref s.heap.objs.size)) { s with heap := h', toks := s.toks + 1 }) :
    wpAny (model prog w) A (pyNext (.ref e)) Q E s := by
  obtain ⟨hit, hl, he⟩ := st
  have ec : ((i + 1 : Nat) : Int) = (i : Int) + 1 := by omega
  have nit : s.heap.objs.size ≠ it := let ⟨_, x, _⟩ := hit; Nat.ne_of_gt (Heap.lt_size x)
  rcases he with ⟨old, he⟩ | ⟨old, T, f, oT, he, hT, r1, r2, r3⟩
  · refine wpAny_pyNext_enum_item he hit hl hx hei fun h' ho hit' hT hsz hk => ?_
    exact hQ h' ⟨hit', hl.at fun o x => hk l o hle hli x, .inr ⟨_, s.heap.objs.size, false, _, (by rw [ec]; exact ho), hT, Nat.ne_of_gt (Heap.lt_size he), nit, Nat.ne_of_gt hS⟩⟩ hT hsz hk
  · refine wpAny_pyNext_enum_item_held he hT r1 r2 hit hl hx hei fun h' ho hit' hT' hsz hk => ?_
    exact hQ h' ⟨hit', hl.at fun o x => hk l o hle hli x, .inr ⟨old, T, true, oT, (by rw [ec]; exact ho), hk _ _ r1 r2 hT, r1, r2, r3⟩⟩ hT' hsz hk
theorem enu_stop {Q : Option Value → Shared → Prop} (hh : A.handled = none) (st : EnuSt s.heap e it l S items items.size) (hQ : ∀ h', Heap.ExtBut it s.heap h' → Q none { s with heap := h' }) :
    wpAny (model prog w) A (pyNext (.ref e)) Q E s := by
  obtain ⟨hit, hl, he⟩ := st
  have hx : items[items.size]? = none := Array.getElem?_eq_none (Nat.le_refl _)
  rcases he with ⟨old, he⟩ | ⟨old, T, f, oT, he, hT, r1, r2, r3⟩
  · exact wpAny_pyNext_enum_end hh he hit hl hx hQ
  · exact wpAny_pyNext_enum_end_held hh he hit hl hx hQ
theorem enu_loop (hh : A.handled = none) (heS : e < S) (hiS : it < S) (hlS : l ≠ S) (hle : l ≠ e) (hli : l ≠ it) (hei : e ≠ it) (hn : items.size ≤ sizeLine) (res : Value) {h₁ : Heap}
    (hR : ∀ h' tk acc c as, (∀ b o, b ≠ S → b ≠ e → b ≠ it → h₁.get? b = some o → h'.get? b = some o) → h'.get? S = some { cls := .type "list", dict := none, data := .seq acc c, slots := #[] } → as.length = items.size →
      KdxG (mixKind prog w) (enuL 0 items.toList) S h' as → acc.toList = as.map Value.ref → R (.ok (.ret res)) { s with heap := h', toks := tk }) :
    ∀ (k i : Nat) (h : Heap) (tk c : Nat) (acc : Array Value) (as : List Addr), items.size - i = k → i ≤ items.size → EnuSt h e it l S items i → (∀ b o, b ≠ S → b ≠ e → b ≠ it → h₁.get? b = some o → h.get? b = some o) →
      h.get? S = some { cls := .type "list", dict := none, data := .seq acc c, slots := #[] } → acc.toList = as.map Value.ref → as.length = i → KdxG (mixKind prog w) (enuL 0 items.toList) S h as →
      codeAny (model prog w) A (.builtin "list.extend.loop" ⟨[.ref S, .ref e, res], []⟩) R { s with heap := h, toks := tk } := by
  have neS : S ≠ e := Nat.ne_of_gt heS
  have niS : S ≠ it := Nat.ne_of_gt hiS
  intro k
  induction k with
  | zero =>
    intro i h tk c acc as hk hi hst hkeep hS hacc hal hG
    have hin : i = items.size := by omega
    subst hin
    refine codeAny_builtin PySem.F.entry_extend_loop ?_
    rw [Around.under_plainId PySem.F.plain_extend_loop _]
    show wpAny _ A.in1 (pyNext (.ref e) >>= _) _ _ _
    refine wpAny_bind (enu_stop (s := { s with heap := h, toks := tk }) (A := A.in1) hh hst fun h' he => ?_)
    refine wpAny_pure (hR h' tk acc c as (fun b o h1 h2 h3 q => he b o h3 (hkeep b o h1 h2 h3 q)) (he S _ niS hS) (by omega) ⟨hG.rise, hG.above, fun j a hj => ?_⟩ hacc)
    obtain ⟨key, kk, x, e1, e2, e3⟩ := hG.pairs j a hj
    have := hG.above a (List.mem_of_getElem? hj)
    exact ⟨key, kk, x, e1, e2, he a _ (Nat.ne_of_gt (Nat.lt_trans hiS this)) e3⟩
  | succ k ih =>
    intro i h tk c acc as hk hi hst hkeep hS hacc hal hG
    have hlt : i < items.size := by omega
    have hx : items[i]? = some items[i] := Array.getElem?_eq_getElem hlt
    have hsz : acc.size = i := by rw [← Array.length_toList, hacc, List.length_map, hal]
    have hSl : S < h.objs.size := Heap.lt_size hS
    refine codeAny_builtin PySem.F.entry_extend_loop ?_
    rw [Around.under_plainId PySem.F.plain_extend_loop _]
    show wpAny _ A.in1 (pyNext (.ref e) >>= _) _ _ _
    refine wpAny_bind (enu_next (s := { s with heap := h, toks := tk }) hei hle hli hst hSl hx fun h' hst' ht hz hkp => ?_)
    dsimp only at ht hz hkp ⊢
    have hS' := hkp S _ neS niS hS
    have up : ∀ b o, b ≠ S → h'.get? b = some o → (h'.update S (Obj.mapSeq (·.push (Value.ref h.objs.size)))).get? b = some o := fun b o hb q => (Heap.get?_update_other _ _ (Ne.symm hb)).trans q
    show wpAny _ A.in1 (updateSeq S (·.push (Value.ref h.objs.size)) >>= _) _ _ _
    refine wpAny_bind ?_
    refine wpAny_updateSeq hS' rfl (wpAny_pure ⟨plainId_quiet PySem.F.plain_extend_loop _, ih (i + 1) _ (tk + 1) _ (acc.push (Value.ref h.objs.size)) (as ++ [h.objs.size]) (by omega) hlt (hst'.keep up (Ne.symm neS) (Ne.symm niS) hlS)
      (fun b o h1 h2 h3 q => up b o h1 (hkp b o h2 h3 (hkeep b o h1 h2 h3 q))) (Heap.get?_update_self _ hS' rfl) (by rw [Array.toList_push, hacc, List.map_append]; rfl) (by rw [List.length_append, hal]; rfl) ⟨?_, ?_, ?_⟩⟩) (by rw [hsz]; omega) (by show (acc.push (Value.ref h.objs.size)).size ≤ sizeLine + 1; rw [Array.size_push, hsz]; omega)
    · refine List.pairwise_append.mpr ⟨hG.rise, List.pairwise_singleton _ _, fun a ha b hb => ?_⟩
      rw [List.mem_singleton.mp hb]
      exact hG.there ha
    · intro a ha
      rcases List.mem_append.mp ha with ha | ha
      · exact hG.above a ha
      · rw [List.mem_singleton.mp ha]; exact hSl
    · intro j b hj
      rcases Nat.lt_trichotomy j as.length with h1 | h1 | h1
      · rw [List.getElem?_append_left h1] at hj
        obtain ⟨key', k', x', e1, e2, e3⟩ := hG.pairs j b hj
        have hb := hG.above b (List.mem_of_getElem? hj)
        exact ⟨key', k', x', e1, e2, up b _ (Nat.ne_of_gt hb) (hkp b _ (Nat.ne_of_gt (Nat.lt_trans heS hb)) (Nat.ne_of_gt (Nat.lt_trans hiS hb)) e3)⟩
      · subst h1
        have hb : h.objs.size = b := by simpa using hj
        subst hb
        have g := enuL_get items.toList 0 as.length items[i] (by rw [hal, Array.getElem?_toList]; exact hx)
        rw [Nat.zero_add] at g
        refine ⟨.int i tk, _, _, g, ?_, up _ _ (Nat.ne_of_gt hSl) ht⟩
        rw [hal]
        exact mixKind_int prog w _ _
      · have hnone : (as ++ [h.objs.size])[j]? = none := List.getElem?_eq_none (by rw [List.length_append, List.length_singleton]; omega)
        rw [hnone] at hj; cases hj
theorem enum_no_len : typeLookup (.type "enumerate") "__len__" = pure none := am_miss_of_fast (by decide +kernel)
theorem enum_no_hint : typeLookup (.type "enumerate") "__length_hint__" = pure none := am_miss_of_fast (by decide +kernel)
theorem enu_hint (hT : s.TypeIs (.ref e) "enumerate") {Q : Bool → Shared → Prop} (h : Q true s) : wpAny (model prog w) A (Builtin.List.listLengthHint (.ref e)) Q E s := by
  unfold Builtin.List.listLengthHint
  refine wpAny_bind (wpAny_specialOf hT enum_no_len ?_)
  refine wpAny_ite_split (fun hab => absurd hab (by decide)) (fun _ => ?_)
  refine wpAny_ite_split (fun hab => absurd hab (by decide)) (fun _ => ?_)
  refine wpAny_bind (wpAny_specialOf hT enum_no_hint ?_)
  exact wpAny_pure h
theorem enu_extend {old : Value} (hh : A.handled = none) (he : IsEnum s.heap e it 0 old) (hit : s.heap.IsListIter it l 0) (hl : s.heap.IsList l items) (heS : e < S) (hiS : it < S) (hlS : l ≠ S) (hle : l ≠ e) (hli : l ≠ it) (hei : e ≠ it) (hn : items.size ≤ sizeLine) (res : Value) (c₀ : Nat)
    (hS : s.heap.get? S = some { cls := .type "list", data := .seq #[] c₀ })
    (hR : ∀ h' tk acc c as, (∀ b o, b ≠ S → b ≠ e → b ≠ it → s.heap.get? b = some o → h'.get? b = some o) → h'.get? S = some { cls := .type "list", dict := none, data := .seq acc c, slots := #[] } → as.length = items.size →
      KdxG (mixKind prog w) (enuL 0 items.toList) S h' as → acc.toList = as.map Value.ref → R (.ok (.ret res)) { s with heap := h', toks := tk }) :
    wpAny (model prog w) A.in1 (Builtin.List.listExtendWith (.ref S) (.ref e) res)
      (fun fin s' => match fin with | .done f => R (.ok f) s' | .again c' => c'.quiet = true ∧ codeAny (model prog w) A c' R s') (fun e s' => R (.error e) s') s := by
  have hSe : S ≠ e := Nat.ne_of_gt heS
  have key : ∀ (h : Heap) (c₁ tk : Nat), (∀ b o, b ≠ S → s.heap.get? b = some o → h.get? b = some o) → h.get? S = some { cls := .type "list", data := .seq #[] c₁ } →
      codeAny (model prog w) A (.builtin "list.extend.loop" ⟨[.ref S, .ref e, res], []⟩) R { s with heap := h, toks := tk } := by
    intro h c₁ tk hk hS₁
    have st : EnuSt h e it l S items 0 := EnuSt.keep (h := s.heap) ⟨hit, hl, .inl ⟨old, he⟩⟩ hk (Ne.symm hSe) (Nat.ne_of_lt hiS) hlS
    exact enu_loop (s := s) (h₁ := s.heap) hh heS hiS hlS hle hli hei hn res hR items.size 0 h tk c₁ #[] [] (Nat.sub_zero _) (Nat.zero_le _) st (fun b o h1 _ _ q => hk b o h1 q) hS₁ rfl rfl
      ⟨List.Pairwise.nil, (fun _ ha => nomatch ha), (fun j a hj => by simp at hj)⟩
  have hT : s.TypeIs (.ref e) "enumerate" := ⟨_, he, rfl⟩
  unfold Builtin.List.listExtendWith
  refine wpAny_bind (wpAny_typeOf hT ?_)
  have h1 : Builtin.List.listSameRef (.ref S) (.ref e) = false := by simp [Builtin.List.listSameRef, hSe]
  have h2 : (Value.type "enumerate" == Value.type "list") = false := by decide
  have h3 : (Value.type "enumerate" == Value.type "tuple") = false := by decide
  simp only [h1, h2, h3, Bool.or_false, Bool.false_eq_true, if_false]
  refine wpAny_bind (wpAny_pyIter_enum he ?_)
  refine wpAny_bind (wpAny_holding (enu_hint hT ?_))
  refine wpAny_ite_split (fun _ => ?_) (fun hab => absurd rfl hab)
  refine wpAny_bind (wpAny_rule ?_)
  refine wpAny_bind ?_
  show wpAny _ _ (updateSeq S (·.push .none) >>= fun _ => updateSeq S (·.pop)) _ _ _
  refine wpAny_bind (wpAny_updateSeq hS rfl ?_)
  have hS₂ := Heap.get?_update_self (Obj.mapSeq (·.push Value.none)) hS rfl
  refine wpAny_updateSeq (hz := by seq_fits) hS₂ rfl ?_
  have hS₃ := Heap.get?_update_self (Obj.mapSeq (·.pop)) hS₂ rfl
  refine wpAny_pure ⟨plainId_quiet PySem.F.plain_extend_loop _, key _ _ _ (fun b o hb q => ?_) hS₃⟩
  exact (Heap.get?_update_other _ _ (Ne.symm hb)).trans ((Heap.get?_update_other _ _ (Ne.symm hb)).trans q)
theorem enu_call {Q : Value → Shared → Prop} {old : Value} (hh : A.handled = none) (he : IsEnum s.heap e it 0 old) (hit : s.heap.IsListIter it l 0) (hl : s.heap.IsList l items) (hle : l ≠ e) (hli : l ≠ it) (hei : e ≠ it) (hn : items.size ≤ sizeLine)
    (hQ : ∀ h' tk acc c as, (∀ b o, b ≠ e → b ≠ it → s.heap.get? b = some o → h'.get? b = some o) → h'.get? s.heap.objs.size = some { cls := .type "list", dict := none, data := .seq acc c, slots := #[] } → as.length = items.size →
      KdxG (mixKind prog w) (enuL 0 items.toList) s.heap.objs.size h' as → acc.toList = as.map Value.ref → Q (.ref s.heap.objs.size) { s with heap := h', toks := tk }) :
    wpAny (model prog w) A (call (.type "list") [.ref e]) Q E s := by
  refine callType_codes (Q₁ := fun obj s₁ => obj = .ref s.heap.objs.size ∧ s₁ = { s with heap := s.heap.push { cls := .type "list", data := .seq #[] } }) PySem.F.called_list (PySem.F.typeCall_list_1 _) PySem.F.entry_list_init
    (code_list_new _ ⟨rfl, rfl⟩) fun obj s₁ h₁ => ?_
  obtain ⟨rfl, rfl⟩ := h₁
  have hS : (s.heap.push { cls := .type "list", data := .seq #[] }).get? s.heap.objs.size = some { cls := .type "list", data := .seq #[] } := Heap.get?_push_size _ rfl
  have heS : e < s.heap.objs.size := Heap.lt_size he
  have hiS : it < s.heap.objs.size := let ⟨_, q, _⟩ := hit; Heap.lt_size q
  have hlS : l < s.heap.objs.size := let ⟨_, q, _⟩ := hl; Heap.lt_size q
  have oth : ∀ b o, b ≠ s.heap.objs.size → (s.heap.push { cls := .type "list", data := .seq #[] }).get? b = some o →
      ((s.heap.push { cls := .type "list", data := .seq #[] }).update s.heap.objs.size (Obj.mapSeq (fun _ => (#[] : Array Value)))).get? b = some o :=
    fun b o hb q => (Heap.get?_update_other _ _ (Ne.symm hb)).trans q
  have up : ∀ b o, s.heap.get? b = some o → ((s.heap.push { cls := .type "list", data := .seq #[] }).update s.heap.objs.size (Obj.mapSeq (fun _ => (#[] : Array Value)))).get? b = some o :=
    fun b o q => oth b o (Nat.ne_of_lt (Heap.lt_size q)) (Heap.get?_push_of_some _ q)
  refine ⟨⟨_, hS, rfl⟩, PySem.F.args_list_init_2 _ _, ?_⟩
  show wpAny _ _ (do let old ← Builtin.List.listItems (.ref s.heap.objs.size); Builtin.List.listUpdate (.ref s.heap.objs.size) (fun _ => #[]); letGo old.toList.reverse; Builtin.List.listExtendWith (.ref s.heap.objs.size) (.ref e) .none) _ _ _
  refine wpAny_bind ?_
  unfold Builtin.List.listItems
  refine wpAny_bind (wpAny_seqItems hS rfl (wpAny_pure ?_))
  show wpAny _ _ (updateSeq s.heap.objs.size (fun _ => #[]) >>= fun _ => letGo (#[] : Array Value).toList.reverse >>= fun _ => Builtin.List.listExtendWith (.ref s.heap.objs.size) (.ref e) .none) _ _ _
  refine wpAny_bind (wpAny_updateSeq hS rfl ?_)
  have hS₂ := Heap.get?_update_self (Obj.mapSeq (fun _ => (#[] : Array Value))) hS rfl
  refine wpAny_bind (wpAny_letGo ?_)
  refine enu_extend (A := A.in1) (old := old) (it := it) (l := l) (items := items) hh (up _ _ he) (hit.at fun o q => up _ o q) (hl.at fun o q => up _ o q) heS hiS (Nat.ne_of_lt hlS) hle hli hei hn .none _ hS₂ fun h' tk acc c as hk hS' hal hG hacc => ?_
  exact ⟨rfl, hQ h' tk acc c as (fun b o h1 h2 q => hk b o (Nat.ne_of_lt (Heap.lt_size q)) h1 h2 (up b o q)) hS' hal hG hacc⟩
end
section
open PySem.W PySem.Calls PyProof.Rows PySem.Spec LiI
variable {X : Cx} {e : Expr} {te : TE} {p q pos pos2 : Pos}
theorem enu_laid {pins : List (Addr × Obj)} {σ : L2.St} {H : Hp} {s : Shared} {h' : Heap} {tk : Nat} {S : Addr} {kvs : List (Key × V)} {vs : List (Key × Value)} {acc : Array Value} {c : Nat} {as : List Addr} (I : Inv X pins σ H s) (hz : kvs.length ≤ sizeLine) (kv : KV kvs vs)
    (hk : ∀ b o, s.heap.get? b = some o → h'.get? b = some o) (lo : s.heap.objs.size ≤ S) (hS : h'.get? S = some { cls := .type "list", dict := none, data := .seq acc c, slots := #[] }) (hl : as.length = vs.length) (hG : KdxG (mixKind X.prog X.w) vs S h' as) (hacc : acc.toList = as.map Value.ref) :
    ∃ H' : Hp, (∀ b o, H b = some o → H' b = some o) ∧ H S = none ∧ (∀ t ∈ as, H t = none) ∧ S ∉ as ∧ as.Nodup ∧ H' S = some (.lst (as.map V.ref)) ∧ Paired (fun (t : Addr) (q : Key × V) => H' t = some (.tup [kV q.1, q.2])) as kvs ∧ Inv X pins σ H' { s with heap := h', toks := tk } := by
  have lk : kvs.length = vs.length := Paired.length kv
  have hSn : S ∉ as := fun z => Nat.lt_irrefl _ (hG.above _ z)
  have nd : as.Nodup := List.Pairwise.imp (fun {a b} (h : a < b) => Nat.ne_of_lt h) hG.rise
  have ab : ∀ t ∈ as, s.heap.objs.size < t := fun t ht => Nat.lt_of_le_of_lt lo (hG.above t ht)
  have new : ∀ t ∈ as, H t = none := fun t ht => I.hok.fresh (Nat.le_of_lt (ab t ht))
  have newS : H S = none := I.hok.fresh lo
  have atP := putT_at as kvs (upd H S (.lst (as.map V.ref))) (by omega) nd
  have off : ∀ b, b ∉ as → b ≠ S → putT (upd H S (.lst (as.map V.ref))) as kvs b = H b := fun b h1 h2 => by rw [putT_off as kvs _ h1, upd_ne h2]
  have low : ∀ b o, s.heap.get? b = some o → b ∉ as ∧ b ≠ S := fun b o e => ⟨fun z => absurd (Heap.lt_size e) (Nat.not_lt.mpr (Nat.le_of_lt (ab b z))), Nat.ne_of_lt (Nat.lt_of_lt_of_le (Heap.lt_size e) lo)⟩
  have kp : ∀ b u, H b = some u → (putT (upd H S (.lst (as.map V.ref))) as kvs) b = some u := fun b u e => by
    rw [off b (fun z => by rw [new b z] at e; cases e) (fun z => by rw [z, newS] at e; cases e)]
    exact e
  have eS : putT (upd H S (.lst (as.map V.ref))) as kvs S = some (.lst (as.map V.ref)) := by rw [putT_off as kvs _ hSn, upd_same]
  refine ⟨putT (upd H S (.lst (as.map V.ref))) as kvs, kp, newS, new, hSn, nd, eS, atP, ?_⟩
  refine I.call' (ch := []) rfl ⟨fun b o q _ _ _ => hk b o q, fun b o q _ _ _ => ⟨o.slots, hk b o q⟩, fun b o q n _ => ?_, fun b o q _ => ⟨o, hk b o q⟩, fun b xs q => kp b _ q, fun b o u q => kp b _ q, fun b ps q => ⟨#[], by rw [kp b _ q]; simp⟩⟩ (fun b u q => ?_) I.bare fun b z => by simp at z
  · obtain ⟨z1, z2⟩ := low b o q
    rw [off b z1 z2]
    exact n
  · by_cases hb : b ∈ as
    · obtain ⟨j, pk, e1, e2, e3⟩ := paired_ix atP hb
      rw [e3] at q
      cases q
      obtain ⟨key, k, x, f1, f2, f3⟩ := hG.pairs j b e1
      obtain ⟨qv, g1, g2, g3⟩ := LiI.paired_get kv e2
      rw [f1] at g1
      cases g1
      have rk : RelV (kV pk.1) key := by
        rw [g2]
        exact relV_key (show keyIs k key = true from f2)
      exact ⟨by show 2 ≤ sizeLine; decide, [key, x], .cons rk (.cons g3 .nil), ⟨_, f3, rfl, _, rfl⟩⟩
    · by_cases hb2 : b = S
      · rw [hb2] at q ⊢
        rw [eS] at q
        cases q
        refine ⟨by rw [List.length_map]; omega, acc.toList, c, by rw [hacc]; exact LiI.vals_refs as, ?_⟩
        rw [Array.toArray_toList]
        exact hS
      · rw [off b hb hb2] at q
        exact (I.hok b u q).stay (fun d v _ y => hk d v y) (fun d y => kp d _ y) fun d xs y => kp d _ y
/-- list(enumerate(e)) -/
def tLstEnu (K : PySem.W.Frag) (te : TE) : TE := fun σ H Q => te σ H fun x H1 => ∃ (l : Addr) (xs : List V), x = .ref l ∧ SqL K H1 l xs ∧
  ∀ (H' : Hp) (r : Addr) (ts : List Addr), (∀ b o, H1 b = some o → H' b = some o) → H1 r = none → (∀ t ∈ ts, H1 t = none) → r ∉ ts → ts.Nodup → H' r = some (.lst (ts.map V.ref)) → Paired (fun (t : Addr) (q : Key × V) => H' t = some (.tup [kV q.1, q.2])) ts (enuL 0 xs) → Q (.ref r) H'
theorem pe_listEnu (hc : X.calm = true) (he : PE X e te) (hg : Gl X "list") (hm : X.mg "list" = none) (hg2 : Gl X "enumerate") (hm2 : X.mg "enumerate" = none)
    (hs2 : starEach [e] X.env = [(false, eval e X.env)] := by rfl)
    (hs : starEach [.Call (.Name "enumerate" q) [e] [] pos2] X.env = (false, eval (.Call (.Name "enumerate" q) [e] [] pos2) X.env) :: starEach [] X.env := by rfl) :
    PE X (.Call (.Name "list" p) [.Call (.Name "enumerate" q) [e] [] pos2] [] pos) (tLstEnu X.K te) := by
  refine ⟨fun pins s σ H Q I h => ?_⟩
  refine Call_ (ld_blt I hg hm boot_list (PyProof.Rows.callWith_type1 ?_ hs rfl))
  rw [hs]
  show wpAny _ _ (spliced ((false, eval (.Call (.Name "enumerate" q) [e] [] pos2) X.env) :: backTo pos (starEach [] X.env))) _ _ s
  refine Calls.spliced_cons ?_
  refine Call_ (ld_blt I hg2 hm2 boot_enumerate (PyProof.Rows.callWith_type1 ?_ hs2 rfl))
  rw [hs2]
  show wpAny _ _ (spliced ((false, eval e X.env) :: backTo pos2 [])) _ _ s
  refine Calls.spliced_cons (thn (he.run pins s σ H _ I h) fun u s1 ⟨x, H1, I1, rx, l, xs, ex, hl, q1⟩ => ?_)
  refine Calls.spliced_nil ?_
  subst ex
  obtain rfl : u = Value.ref l := rx
  obtain ⟨its, rv, p', hz⟩ := I1.list hl
  refine call_enumerate_list p'.isList fun h2 he2 hit2 hsz2 hk2 => ?_
  refine Calls.spliced_nil ?_
  have hll : l < s1.heap.objs.size := let ⟨_, q, _⟩ := p'.isList; Heap.lt_size q
  have hlen := rv.length
  refine enu_call (A := X.A) (s := { s1 with heap := h2 }) (it := s1.heap.objs.size) (l := l) (items := its.toArray) (I1.ok.hd hc) he2 hit2 (p'.isList.at fun o q => hk2 _ o q) (Nat.ne_of_lt (Nat.lt_succ_of_lt hll)) (Nat.ne_of_lt hll) (Nat.succ_ne_self _) (by rw [List.size_toArray]; omega) fun h' tk acc c as hk hS hal hG hacc => ?_
  dsimp only at hk hS hG ⊢
  rw [hsz2] at hS hG ⊢
  have kv := enuL_kv 0 rv
  obtain ⟨H', k1, k2, k3, k4, k5, k6, k7, J⟩ := enu_laid (tk := tk) (kvs := enuL 0 xs) (vs := enuL 0 its) I1 (by rw [enuL_len]; omega) kv (fun b o q => hk b o (Nat.ne_of_lt (Nat.lt_succ_of_lt (Heap.lt_size q))) (Nat.ne_of_lt (Heap.lt_size q)) (hk2 b o q)) (Nat.le_add_right _ 2) hS (by rw [enuL_len]; simpa using hal) hG hacc
  exact ⟨.ref _, H', J, rfl, q1 H' _ as k1 k2 k3 k4 k5 k6 k7⟩
end

/-- bits of a number that a period may have -/
def E8 : Nat := 8000
/-! ### numbers: the inverse by Euclid's steps -/
structure InvI (a m o n ot nt : Int) : Prop where
  n0 : 0 ≤ n
  o0 : 0 < o
  g : Int.gcd o n = 1
  d1 : m ∣ a * ot - o
  d2 : m ∣ a * nt - n
  sz : o * nt.natAbs + n * ot.natAbs ≤ m
theorem natAbs_sub_mul (x y q : Int) (hq : 0 ≤ q) : ((x - q * y).natAbs : Int) ≤ x.natAbs + q * y.natAbs := by
  have h1 : (x - q * y).natAbs ≤ x.natAbs + (q * y).natAbs := by omega
  have h2 : ((q * y).natAbs : Int) = q * y.natAbs := by
    rw [Int.natAbs_mul]
    have : (q.natAbs : Int) = q := by omega
    rw [Int.natCast_mul, this]
  omega
theorem InvI.step {a m o n ot nt : Int} (h : InvI a m o n ot nt) (hn : 0 < n) : InvI a m n (o - o / n * n) nt (ot - o / n * nt) := by
  have hq : 0 ≤ o / n := Int.ediv_nonneg (by have := h.o0; omega) (by omega)
  have e : o - o / n * n = o % n := by
    have := Int.emod_add_mul_ediv o n
    rw [Int.mul_comm] at this
    omega
  refine ⟨?_, hn, ?_, h.d2, ?_, ?_⟩
  · rw [e]; exact Int.emod_nonneg _ (by omega)
  · have g := h.g
    rw [show o - o / n * n = o - (o / n) * n from rfl, Int.gcd_sub_mul_right_right, Int.gcd_comm]
    exact g
  · have h1 := h.d1
    have h2 := h.d2
    have : a * (ot - o / n * nt) - (o - o / n * n) = (a * ot - o) - (o / n) * (a * nt - n) := by grind
    rw [this]
    exact Int.dvd_sub h1 (Int.dvd_mul_of_dvd_right h2)
  · have b := natAbs_sub_mul ot nt (o / n) hq
    have h3 : n * ((ot - o / n * nt).natAbs : Int) ≤ n * (ot.natAbs + o / n * nt.natAbs) := Int.mul_le_mul_of_nonneg_left b (by omega)
    have := h.sz
    have e2 : n * (ot.natAbs + o / n * nt.natAbs) + (o - o / n * n) * nt.natAbs = n * (ot.natAbs : Int) + o * nt.natAbs := by grind
    omega
theorem InvI.start {a m : Int} (hm : 0 < m) (g : Int.gcd m a = 1) : InvI a m m (a % m) 0 1 := by
  refine ⟨Int.emod_nonneg _ (by omega), hm, ?_, ?_, ?_, ?_⟩
  · rw [show a % m = a - m * (a / m) by have := Int.emod_add_mul_ediv a m; omega, Int.gcd_sub_mul_left_right]; exact g
  · exact ⟨-1, by grind⟩
  · exact ⟨a / m, by have := Int.emod_add_mul_ediv a m; grind⟩
  · simp
theorem InvI.nt_le {a m o n ot nt : Int} (h : InvI a m o n ot nt) : (nt.natAbs : Int) ≤ m := by
  have h1 := h.sz
  have h2 : (1 : Int) * nt.natAbs ≤ o * nt.natAbs := Int.mul_le_mul_of_nonneg_right (by have := h.o0; omega) (by omega)
  have h3 : 0 ≤ n * (ot.natAbs : Int) := Int.mul_nonneg h.n0 (by omega)
  omega
theorem InvI.fin {a m o ot nt : Int} (h : InvI a m o 0 ot nt) (hm : 0 < m) : 0 ≤ ot % m ∧ ot % m < m ∧ m ∣ a * (ot % m) - 1 := by
  have g := h.g
  rw [Int.gcd_zero_right] at g
  have o1 : o = 1 := by have := h.o0; omega
  refine ⟨Int.emod_nonneg _ (by omega), Int.emod_lt_of_pos _ hm, ?_⟩
  have h1 := h.d1
  rw [o1] at h1
  have : a * (ot % m) - 1 = (a * ot - 1) - m * (a * (ot / m)) := by
    have := Int.emod_add_mul_ediv ot m
    grind
  rw [this]
  exact Int.dvd_sub h1 (Int.dvd_mul_right _ _)
/-- the one number from 0 below m that inverts a by m -/
theorem inv_uniq {a m r s : Int} (hm : 0 < m) (hr : 0 ≤ r ∧ r < m ∧ m ∣ a * r - 1) (hs : 0 ≤ s ∧ s < m ∧ m ∣ a * s - 1) : r = s := by
  obtain ⟨r0, r1, x, hx⟩ := hr
  obtain ⟨s0, s1, y, hy⟩ := hs
  have h : m ∣ r - s := by
    refine ⟨s * x - r * y + 0, ?_⟩
    grind
  obtain ⟨k, hk⟩ := h
  have : k = 0 := by
    by_cases h0 : k = 0
    · exact h0
    · exfalso
      by_cases h1 : 0 < k
      · have : m * 1 ≤ m * k := Int.mul_le_mul_of_nonneg_left (by omega) (by omega)
        omega
      · have : m * k ≤ m * (-1) := Int.mul_le_mul_of_nonneg_left (by omega) (by omega)
        omega
  rw [this] at hk
  omega

/-! ### numbers: lamps seen and met -/
/-- what is seen of (p2, b2) at the own beats of (p1, b1): (q, r) -/
structure SeenIs (p1 b1 p2 b2 q r : Int) : Prop where
  q0 : 0 < q
  r0 : 0 ≤ r
  rq : r < q
  qe : q = p2 / (Int.gcd p1 p2 : Int)
  iff : ∀ t : Int, q ∣ t - r ↔ p2 ∣ b1 + t * p1 - b2
/-- the meeting of (p1, b1) and (p2, b2): (m, c) -/
structure MeetIs (p1 b1 p2 b2 m c : Int) : Prop where
  m0 : 0 < m
  c0 : 0 ≤ c
  cm : c < m
  me : m = p1 * (p2 / (Int.gcd p1 p2 : Int))
  iff : ∀ x : Int, m ∣ x - c ↔ p1 ∣ x - b1 ∧ p2 ∣ x - b2
theorem dvd_iff_emod {a b : Int} : b % a = 0 ↔ a ∣ b := ⟨Int.dvd_of_emod_eq_zero, Int.emod_eq_zero_of_dvd⟩
theorem dvd_emod_sub {q x t : Int} : q ∣ t - x % q ↔ q ∣ t - x := by
  have h := Int.emod_add_mul_ediv x q
  constructor
  · rintro ⟨k, hk⟩
    exact ⟨k - x / q, by grind⟩
  · rintro ⟨k, hk⟩
    exact ⟨k + x / q, by grind⟩
theorem gcd_pos {a b : Int} (h : 0 < a) : (0 : Int) < (Int.gcd a b : Int) := by
  have := Int.gcd_pos_of_ne_zero_left b (a := a) (by omega)
  omega
theorem gcd_cop {a b : Int} (h : 0 < a) : Int.gcd (b / (Int.gcd a b : Int)) (a / (Int.gcd a b : Int)) = 1 := by
  have h0 : 0 < Int.gcd a b := Int.gcd_pos_of_ne_zero_left b (by omega)
  rw [Int.gcd_comm]
  exact Int.gcd_ediv_gcd_ediv_gcd h0
theorem seen_is {p1 b1 p2 b2 v : Int} (h1 : 0 < p1) (h2 : 0 < p2) (hg : (Int.gcd p1 p2 : Int) ∣ b2 - b1) (hv : p2 / (Int.gcd p1 p2 : Int) ∣ p1 / (Int.gcd p1 p2 : Int) * v - 1) :
    SeenIs p1 b1 p2 b2 (p2 / (Int.gcd p1 p2 : Int)) (((b2 - b1) / (Int.gcd p1 p2 : Int) * v) % (p2 / (Int.gcd p1 p2 : Int))) := by
  have g0 := gcd_pos (a := p1) (b := p2) h1
  have cop := gcd_cop (a := p1) (b := p2) h1
  obtain ⟨P, hP⟩ : (Int.gcd p1 p2 : Int) ∣ p1 := Int.gcd_dvd_left ..
  obtain ⟨q, hq⟩ : (Int.gcd p1 p2 : Int) ∣ p2 := Int.gcd_dvd_right ..
  obtain ⟨A, hA⟩ := hg
  generalize hgg : (Int.gcd p1 p2 : Int) = g at *
  have eP : p1 / g = P := by rw [hP]; exact Int.mul_ediv_cancel_left _ (by omega)
  have eq : p2 / g = q := by rw [hq]; exact Int.mul_ediv_cancel_left _ (by omega)
  have eA : (b2 - b1) / g = A := by rw [hA]; exact Int.mul_ediv_cancel_left _ (by omega)
  rw [eP, eq] at cop hv
  rw [eq, eA]
  have q0 : 0 < q := by
    by_cases hq0 : 0 < q
    · exact hq0
    · exfalso
      have : g * q ≤ g * 0 := Int.mul_le_mul_of_nonneg_left (by omega) (by omega)
      omega
  refine ⟨q0, Int.emod_nonneg _ (by omega), Int.emod_lt_of_pos _ q0, by rw [hgg, eq], fun t => ?_⟩
  rw [dvd_emod_sub]
  have e1 : b1 + t * p1 - b2 = g * (P * t - A) := by grind
  rw [e1, hq]
  have e2 : g * q ∣ g * (P * t - A) ↔ q ∣ P * t - A := Int.mul_dvd_mul_iff_left (by omega)
  rw [e2]
  obtain ⟨k, hk⟩ := hv
  constructor
  · rintro ⟨j, hj⟩
    exact ⟨P * j + A * k, by grind⟩
  · rintro ⟨j, hj⟩
    exact ⟨v * (j - A * k) - k * (t - A * v), by grind⟩
theorem seen_none {p1 b1 p2 b2 : Int} (hg : ¬ (Int.gcd p1 p2 : Int) ∣ b2 - b1) (x : Int) (h1 : p1 ∣ x - b1) (h2 : p2 ∣ x - b2) : False := by
  apply hg
  have d1 : (Int.gcd p1 p2 : Int) ∣ x - b1 := Int.dvd_trans (Int.gcd_dvd_left ..) h1
  have d2 : (Int.gcd p1 p2 : Int) ∣ x - b2 := Int.dvd_trans (Int.gcd_dvd_right ..) h2
  have : b2 - b1 = (x - b1) - (x - b2) := by omega
  rw [this]
  exact Int.dvd_sub d1 d2
theorem meet_is {p1 b1 p2 b2 q r : Int} (h1 : 0 < p1) (S : SeenIs p1 b1 p2 b2 q r) : MeetIs p1 b1 p2 b2 (p1 * q) ((b1 + p1 * r) % (p1 * q)) := by
  have q0 := S.q0
  have m0 : 0 < p1 * q := Int.mul_pos h1 q0
  refine ⟨m0, Int.emod_nonneg _ (by omega), Int.emod_lt_of_pos _ m0, by rw [S.qe], fun x => ?_⟩
  rw [dvd_emod_sub]
  constructor
  · rintro ⟨k, hk⟩
    have hx : x = b1 + (r + q * k) * p1 := by grind
    refine ⟨⟨r + q * k, by grind⟩, ?_⟩
    rw [hx]
    exact (S.iff (r + q * k)).mp ⟨k, by grind⟩
  · rintro ⟨⟨t, ht⟩, h⟩
    have hx : x = b1 + t * p1 := by grind
    rw [hx] at h
    obtain ⟨k, hk⟩ := (S.iff t).mpr h
    exact ⟨k, by grind⟩

theorem dvd_small {m x : Int} (h0 : -m < x) (h1 : x < m) (d : m ∣ x) : x = 0 := by
  obtain ⟨k, hk⟩ := d
  have m0 : 0 < m := by omega
  have : k = 0 := by
    by_cases h : k = 0
    · exact h
    · exfalso
      by_cases hp : 0 < k
      · have : m * 1 ≤ m * k := Int.mul_le_mul_of_nonneg_left (by omega) (by omega)
        omega
      · have : m * k ≤ m * (-1) := Int.mul_le_mul_of_nonneg_left (by omega) (by omega)
        omega
  rw [this] at hk
  omega
theorem MeetIs.at {p1 b1 p2 b2 m c : Int} (h : MeetIs p1 b1 p2 b2 m c) : p1 ∣ c - b1 ∧ p2 ∣ c - b2 := (h.iff c).mp ⟨0, by omega⟩
theorem MeetIs.lcm {p1 b1 p2 b2 m c : Int} (h : MeetIs p1 b1 p2 b2 m c) : m = p1 * p2 / (Int.gcd p1 p2 : Int) := by
  rw [h.me]
  exact (Int.mul_ediv_assoc p1 (Int.gcd_dvd_right ..)).symm
theorem MeetIs.swap {p1 b1 p2 b2 m c m' c' : Int} (h : MeetIs p1 b1 p2 b2 m c) (h' : MeetIs p2 b2 p1 b1 m' c') : m = m' ∧ c = c' := by
  have e : m = m' := by
    rw [h.lcm, h'.lcm, Int.gcd_comm, Int.mul_comm]
  refine ⟨e, ?_⟩
  have d := h'.at
  have d2 : m ∣ c' - c := (h.iff c').mpr ⟨d.2, d.1⟩
  have := dvd_small (by have := h.cm; have := h'.c0; have := h'.cm; omega) (by have := h.c0; have := h'.cm; omega) d2
  omega
/-- the beats from 0 below n that pass -/
def sieve (n : Nat) (f : Int → Bool) : List Int := ((List.range n).map fun (i : Nat) => (i : Int)).filter f
theorem sieve_succ (n : Nat) (f : Int → Bool) : sieve (n + 1) f = sieve n f ++ (if f n then [(n : Int)] else []) := by
  unfold sieve
  rw [List.range_succ, List.map_append, List.filter_append]
  congr 1
  simp [List.filter_cons]
theorem sieve_mem {n : Nat} {f : Int → Bool} {x : Int} : x ∈ sieve n f ↔ 0 ≤ x ∧ x < n ∧ f x = true := by
  unfold sieve
  rw [List.mem_filter, List.mem_map]
  constructor
  · rintro ⟨⟨i, hi, rfl⟩, h⟩
    have := List.mem_range.mp hi
    exact ⟨by omega, by omega, h⟩
  · rintro ⟨h0, h1, h⟩
    exact ⟨⟨x.toNat, List.mem_range.mpr (by omega), by omega⟩, h⟩
theorem sieve_len (n : Nat) (f : Int → Bool) : (sieve n f).length ≤ n := by
  unfold sieve
  exact Nat.le_trans (List.length_filter_le _ _) (by simp)
theorem sieve_none {n : Nat} {f : Int → Bool} (h : ∀ x : Int, 0 ≤ x → x < n → f x = false) : sieve n f = [] := by
  apply List.eq_nil_iff_forall_not_mem.mpr
  intro x hx
  obtain ⟨h0, h1, h2⟩ := sieve_mem.mp hx
  rw [h x h0 h1] at h2
  cases h2
theorem sieve_one {n : Nat} {f : Int → Bool} {c : Int} (c0 : 0 ≤ c) (cn : c < n) (h : ∀ x : Int, 0 ≤ x → x < n → (f x = true ↔ x = c)) : sieve n f = [c] := by
  induction n with
  | zero => omega
  | succ n ih =>
    rw [sieve_succ]
    by_cases e : c = n
    · rw [sieve_none, if_pos ((h n (by omega) (by omega)).mpr (by omega)), e]
      · rfl
      · intro x h0 h1
        have := h x h0 (by omega)
        cases hf : f x with
        | false => rfl
        | true => have := this.mp hf; omega
    · rw [ih (by omega) (fun x h0 h1 => h x h0 (by omega)), if_neg (fun hf => e ((h n (by omega) (by omega)).mp hf).symm)]
      rfl
theorem sieve_sieve (n : Nat) (f g : Int → Bool) : (sieve n f).filter g = sieve n (fun x => f x && g x) := by
  unfold sieve
  rw [List.filter_filter]
  congr 1
  funext x
  exact Bool.and_comm _ _
theorem MeetIs.self {p b m c : Int} (p0 : 0 < p) (b0 : 0 ≤ b) (bp : b < p) (h : MeetIs p b p b m c) : m = p ∧ c = b := by
  have e : m = p := by
    rw [h.lcm, Int.gcd_self]
    have : ((p.natAbs : Nat) : Int) = p := by omega
    rw [this]
    exact Int.mul_ediv_cancel_left _ (by omega)
  have d := h.at.1
  have := dvd_small (by have := h.c0; omega) (by have := h.cm; omega) d
  exact ⟨e, by omega⟩
theorem gcd_of_dvd {m p : Int} (p0 : 0 < p) (d : p ∣ m) : (Int.gcd m p : Int) = p := by
  rw [Int.gcd_eq_right_iff_dvd (by omega) |>.mpr d]
/-- the meeting of what one lamp hides and the hider -/
theorem MeetIs.within {m c p b m' c' : Int} (p0 : 0 < p) (c0 : 0 ≤ c) (cm : c < m) (d : p ∣ m) (h : MeetIs m c p b m' c') : m' = m ∧ c' = c := by
  have e : m' = m := by
    rw [h.me, gcd_of_dvd p0 d, Int.ediv_self (by omega), Int.mul_one]
  have d := h.at.1
  rw [e] at h
  have := dvd_small (by have := h.c0; omega) (by have := h.cm; omega) d
  exact ⟨e, by omega⟩
theorem dvd_sub_emod {g p x : Int} (d : g ∣ p) : g ∣ x - x % p := by
  have : x - x % p = p * (x / p) := by have := Int.emod_add_mul_ediv x p; omega
  rw [this]
  exact Int.dvd_mul_of_dvd_left d
theorem SeenIs.uniq {p1 b1 p2 b2 q r q' r' : Int} (h : SeenIs p1 b1 p2 b2 q r) (h' : SeenIs p1 b1 p2 b2 q' r') : q = q' ∧ r = r' := by
  have e : q = q' := by rw [h.qe, h'.qe]
  refine ⟨e, ?_⟩
  have d : q ∣ r' - r := (h.iff r').mpr ((h'.iff r').mp ⟨0, by omega⟩)
  have := dvd_small (by have := h.rq; have := h'.r0; omega) (by have := h.r0; have := h'.rq; omega) d
  omega
theorem SeenIs.always {p1 b1 p2 b2 q r : Int} (p10 : 0 < p1) (p20 : 0 < p2) (h : SeenIs p1 b1 p2 b2 q r) (hg : (Int.gcd p1 p2 : Int) ∣ b2 - b1) : decide (q = 1 ∧ r = 0 % 1) = (decide (p2 ∣ p1) && decide (p2 ∣ b1 - b2)) := by
  have g0 := gcd_pos (a := p1) (b := p2) p10
  have gd1 : (Int.gcd p1 p2 : Int) ∣ p1 := Int.gcd_dvd_left ..
  have gd2 : (Int.gcd p1 p2 : Int) ∣ p2 := Int.gcd_dvd_right ..
  have qe := h.qe
  have q1 : p2 = (Int.gcd p1 p2 : Int) * q := by rw [qe]; exact (Int.mul_ediv_cancel' gd2).symm
  by_cases e : q = 1
  · have r0 : r = 0 := by have := h.r0; have := h.rq; omega
    rw [e, Int.mul_one] at q1
    rw [← q1] at gd1 hg
    have d2 : p2 ∣ b1 - b2 := by
      rw [show b1 - b2 = -(b2 - b1) by omega]
      exact Int.dvd_neg.mpr hg
    simp [e, r0, gd1, d2]
  · have : ¬ p2 ∣ p1 := fun d => e (by
      have gg : (Int.gcd p1 p2 : Int) = p2 := gcd_of_dvd p20 d
      rw [qe, gg]
      exact Int.ediv_self (by omega))
    simp [e, this]
theorem seen_no_always {p1 b1 p2 b2 : Int} (p20 : 0 < p2) (hn : ¬ (Int.gcd p1 p2 : Int) ∣ b2 - b1) : (decide (p2 ∣ p1) && decide (p2 ∣ b1 - b2)) = false := by
  by_cases d : p2 ∣ p1
  · have gg : (Int.gcd p1 p2 : Int) = p2 := gcd_of_dvd p20 d
    have : ¬ p2 ∣ b1 - b2 := fun e => hn (by
      rw [gg, show b2 - b1 = -(b1 - b2) by omega]
      exact Int.dvd_neg.mpr e)
    simp [this]
  · simp [d]
theorem SeenIs.self {p b q r : Int} (p0 : 0 < p) (h : SeenIs p b p b q r) : q = 1 ∧ r = 0 := by
  have e : q = 1 := by
    rw [h.qe, Int.gcd_self]
    have : ((p.natAbs : Nat) : Int) = p := by omega
    rw [this]
    exact Int.ediv_self (by omega)
  exact ⟨e, by have := h.r0; have := h.rq; omega⟩

/-! ### numbers: three lamps -/
theorem inv_from : ∀ (k : Nat) {a m o n ot nt : Int}, n.toNat ≤ k → 0 < m → InvI a m o n ot nt → ∃ r : Int, m ∣ a * r - 1
  | 0, a, m, o, n, ot, nt, hk, hm, h => by
    have n0 : n = 0 := by have := h.n0; omega
    subst n0
    exact ⟨_, (h.fin hm).2.2⟩
  | k + 1, a, m, o, n, ot, nt, hk, hm, h => by
    by_cases hn : n = 0
    · subst hn
      exact ⟨_, (h.fin hm).2.2⟩
    · have n0 := h.n0
      have hp : 0 < n := by omega
      have J := h.step hp
      have e : o - o / n * n = o % n := by
        have := Int.emod_add_mul_ediv o n
        rw [Int.mul_comm] at this
        omega
      have := Int.emod_lt_of_pos o hp
      exact inv_from k (by omega) hm J
theorem inv_ex {a m : Int} (hm : 0 < m) (g : Int.gcd m a = 1) : ∃ r : Int, m ∣ a * r - 1 := inv_from _ (Nat.le_refl _) hm (InvI.start hm g)
theorem bezout {a b : Int} (ha : 0 < a) : ∃ x y : Int, (Int.gcd a b : Int) = a * x + b * y := by
  have g0 := gcd_pos (a := a) (b := b) ha
  have cop := gcd_cop (a := a) (b := b) ha
  obtain ⟨A, hA⟩ : (Int.gcd a b : Int) ∣ a := Int.gcd_dvd_left ..
  obtain ⟨B, hB⟩ : (Int.gcd a b : Int) ∣ b := Int.gcd_dvd_right ..
  generalize (Int.gcd a b : Int) = g at *
  have eA : a / g = A := by rw [hA]; exact Int.mul_ediv_cancel_left _ (by omega)
  have eB : b / g = B := by rw [hB]; exact Int.mul_ediv_cancel_left _ (by omega)
  rw [eA, eB, Int.gcd_comm] at cop
  have A0 : 0 < A := by
    by_cases h : 0 < A
    · exact h
    · exfalso
      have : g * A ≤ g * 0 := Int.mul_le_mul_of_nonneg_left (by omega) (by omega)
      omega
  obtain ⟨v, k, hk⟩ := inv_ex A0 cop
  exact ⟨-k, v, by grind⟩
/-- what the common parts of each with a third divide, the common part of their least multiple with it divides -/
theorem three_parts {p1 p2 p3 z : Int} (h1 : 0 < p1) (h2 : 0 < p2) (d1 : (Int.gcd p1 p3 : Int) ∣ z) (d2 : (Int.gcd p2 p3 : Int) ∣ z) : (Int.gcd (p1 * (p2 / (Int.gcd p1 p2 : Int))) p3 : Int) ∣ z := by
  have g0 := gcd_pos (a := p1) (b := p2) h1
  have gd2 : (Int.gcd p1 p2 : Int) ∣ p2 := Int.gcd_dvd_right ..
  obtain ⟨x, y, hxy⟩ := bezout (a := p1) (b := p2) h1
  obtain ⟨x1, y1, h13⟩ := bezout (a := p1) (b := p3) h1
  obtain ⟨x2, y2, h23⟩ := bezout (a := p2) (b := p3) h2
  obtain ⟨k1, e1⟩ := d1
  obtain ⟨k2, e2⟩ := d2
  obtain ⟨B, hB⟩ := gd2
  obtain ⟨A, hA⟩ : (Int.gcd p1 p2 : Int) ∣ p1 := Int.gcd_dvd_left ..
  obtain ⟨u, hu⟩ : (Int.gcd (p1 * (p2 / (Int.gcd p1 p2 : Int))) p3 : Int) ∣ p1 * (p2 / (Int.gcd p1 p2 : Int)) := Int.gcd_dvd_left ..
  obtain ⟨w, hw⟩ : (Int.gcd (p1 * (p2 / (Int.gcd p1 p2 : Int))) p3 : Int) ∣ p3 := Int.gcd_dvd_right ..
  generalize (Int.gcd (p1 * (p2 / (Int.gcd p1 p2 : Int))) p3 : Int) = g at *
  have eB : p2 / (Int.gcd p1 p2 : Int) = B := by
    conv => lhs; lhs; rw [hB]
    exact Int.mul_ediv_cancel_left _ (by omega)
  rw [eB] at hu
  generalize (Int.gcd p1 p2 : Int) = d at *
  rw [h13] at e1
  rw [h23] at e2
  -- 1 = A x + B y
  have one : A * x + B * y = 1 := by
    have : d * (A * x + B * y) = d * 1 := by grind
    exact Int.eq_of_mul_eq_mul_left (by omega) this
  -- z = z (A x + B y); A z by the second, B z by the first
  have ez : z = A * x * z + B * y * z := by grind
  have t1 : B * z = (p1 * B) * (x1 * k1) + p3 * (y1 * k1 * B) := by grind
  have t2 : A * z = (p1 * B) * (x2 * k2) + p3 * (y2 * k2 * A) := by grind
  exact ⟨u * (x1 * k1) * y + w * (y1 * k1 * B) * y + u * (x2 * k2) * x + w * (y2 * k2 * A) * x, by grind⟩
/-- where a lamp shines, or none -/
abbrev OLp := Option (Int × Int)
def Shn : OLp → Int → Prop
  | none, _ => False
  | some l, t => l.1 ∣ t - l.2
def OkL (o : OLp) : Prop := ∀ l, o = some l → 0 < l.1 ∧ 0 ≤ l.2 ∧ l.2 < l.1
theorem shn_inj {o o' : OLp} (h : OkL o) (h' : OkL o') (e : ∀ t, Shn o t ↔ Shn o' t) : o = o' := by
  cases o with
  | none =>
    cases o' with
    | none => rfl
    | some l' => exact ((e l'.2).mpr (by show l'.1 ∣ l'.2 - l'.2; rw [Int.sub_self]; exact Int.dvd_zero _)).elim
  | some l =>
    cases o' with
    | none => exact ((e l.2).mp (by show l.1 ∣ l.2 - l.2; rw [Int.sub_self]; exact Int.dvd_zero _)).elim
    | some l' =>
      obtain ⟨p, b⟩ := l
      obtain ⟨p', b'⟩ := l'
      obtain ⟨p0, b0, bp⟩ := h _ rfl
      obtain ⟨p0', b0', bp'⟩ := h' _ rfl
      dsimp only at *
      have e1 : p ∣ b' - b := (e b').mpr (by show p' ∣ b' - b'; rw [Int.sub_self]; exact Int.dvd_zero _)
      have e2 : p ∣ b' + p' - b := (e (b' + p')).mpr (by show p' ∣ b' + p' - b'; exact ⟨1, by omega⟩)
      have e3 : p' ∣ b + p - b' := (e (b + p)).mp (by show p ∣ b + p - b; exact ⟨1, by omega⟩)
      have e4 : p' ∣ b - b' := (e b).mp (by show p ∣ b - b; rw [Int.sub_self]; exact Int.dvd_zero _)
      have d1 : p ∣ p' := by
        have := Int.dvd_sub e2 e1
        rwa [show b' + p' - b - (b' - b) = p' by omega] at this
      have d2 : p' ∣ p := by
        have := Int.dvd_sub e3 e4
        rwa [show b + p - b' - (b - b') = p by omega] at this
      have pe : p = p' := Int.le_antisymm (Int.le_of_dvd p0' d1) (Int.le_of_dvd p0 d2)
      have := dvd_small (by omega) (by omega) e1
      have be : b = b' := by omega
      rw [pe, be]
/-- the lamp of both -/
def MeetO (x y o : OLp) : Prop := OkL o ∧ ∀ t, Shn o t ↔ Shn x t ∧ Shn y t
/-- what is seen of x at the own beats of l -/
def SeesO (l : Int × Int) (x o : OLp) : Prop := OkL o ∧ ∀ t, Shn o t ↔ Shn x (l.2 + t * l.1)
theorem MeetO.uniq {x y x' y' o o' : OLp} (h : MeetO x y o) (h' : MeetO x' y' o') (e : ∀ t, (Shn x t ∧ Shn y t) ↔ (Shn x' t ∧ Shn y' t)) : o = o' :=
  shn_inj h.1 h'.1 fun t => (h.2 t).trans ((e t).trans (h'.2 t).symm)
theorem MeetO.hit {x y o : OLp} (h : MeetO x y o) : o ≠ none ↔ ∃ t, Shn x t ∧ Shn y t := by
  constructor
  · intro hn
    cases e : o with
    | none => exact (hn e).elim
    | some l => exact ⟨l.2, (h.2 l.2).mp (by rw [e]; show l.1 ∣ l.2 - l.2; rw [Int.sub_self]; exact Int.dvd_zero _)⟩
  · rintro ⟨t, ht⟩ e
    have := (h.2 t).mpr ht
    rw [e] at this
    exact this

/-! ### the next beat of all -/
def AllS (ls : List (Int × Int)) (t : Int) : Prop := ∀ l ∈ ls, Shn (some l) t
def IsDue (ls : List (Int × Int)) (spot : Int) : Option Int → Prop
  | none => ∀ t, ¬ AllS ls t
  | some d => spot ≤ d ∧ AllS ls d ∧ ∀ t, spot ≤ t → AllS ls t → d ≤ t
theorem IsDue.uniq {ls : List (Int × Int)} {spot : Int} {d d' : Option Int} (h : IsDue ls spot d) (h' : IsDue ls spot d') : d = d' := by
  cases d with
  | none =>
    cases d' with
    | none => rfl
    | some e => exact (h e h'.2.1).elim
  | some e =>
    cases d' with
    | none => exact (h' e h.2.1).elim
    | some e' =>
      have h1 := h.2.2 e' h'.1 h'.2.1
      have h2 := h'.2.2 e h.1 h.2.1
      have : e = e' := by omega
      rw [this]
/-- the first beat of a lamp from t on -/
def nxt (l : Int × Int) (t : Int) : Int := t + (l.2 - t) % l.1
theorem nxt_ge {l : Int × Int} (h : 0 < l.1) (t : Int) : t ≤ nxt l t := by
  have := Int.emod_nonneg (l.2 - t) (show l.1 ≠ 0 by omega)
  unfold nxt
  omega
theorem nxt_lt {l : Int × Int} (h : 0 < l.1) (t : Int) : nxt l t < t + l.1 := by
  have := Int.emod_lt_of_pos (l.2 - t) h
  unfold nxt
  omega
theorem nxt_shn {l : Int × Int} (t : Int) : Shn (some l) (nxt l t) := by
  show l.1 ∣ nxt l t - l.2
  have := Int.emod_add_mul_ediv (l.2 - t) l.1
  refine ⟨-((l.2 - t) / l.1), ?_⟩
  unfold nxt
  rw [Int.mul_neg]
  omega
theorem nxt_le {l : Int × Int} (h : 0 < l.1) {t x : Int} (hx : t ≤ x) (hs : Shn (some l) x) : nxt l t ≤ x := by
  have h1 : l.1 ∣ x - l.2 := hs
  have h2 : l.1 ∣ nxt l t - l.2 := nxt_shn t
  have h3 := Int.dvd_sub h1 h2
  rw [show x - l.2 - (nxt l t - l.2) = x - nxt l t by omega] at h3
  have h4 := nxt_lt h t
  obtain ⟨k, hk⟩ := h3
  by_cases hz : k < 0
  · have : l.1 * k ≤ l.1 * (-1) := Int.mul_le_mul_of_nonneg_left (by omega) (by omega)
    omega
  · have : 0 ≤ l.1 * k := Int.mul_nonneg (by omega) (by omega)
    omega
theorem due_of {ls : List (Int × Int)} {u : Int × Int} (h : 0 < u.1) (hs : ∀ t, Shn (some u) t ↔ AllS ls t) (spot : Int) : IsDue ls spot (some (nxt u spot)) :=
  ⟨nxt_ge h spot, (hs _).mp (nxt_shn spot), fun _ ht ha => nxt_le h ht ((hs _).mpr ha)⟩
/-- through the own beats of the first -/
theorem due_first {ls : List (Int × Int)} {l0 u : Int × Int} (h0 : 0 < l0.1) (hu : 0 < u.1) (hm : l0 ∈ ls) (hs : ∀ t, Shn (some u) t ↔ AllS ls (l0.2 + t * l0.1)) (spot : Int) :
    IsDue ls spot (some (l0.2 + nxt u ((spot - l0.2 + l0.1 - 1) / l0.1) * l0.1)) := by
  generalize ho : (spot - l0.2 + l0.1 - 1) / l0.1 = o
  have e1 := Int.emod_add_mul_ediv (spot - l0.2 + l0.1 - 1) l0.1
  have e2 := Int.emod_lt_of_pos (spot - l0.2 + l0.1 - 1) h0
  have e3 := Int.emod_nonneg (spot - l0.2 + l0.1 - 1) (show l0.1 ≠ 0 by omega)
  rw [ho] at e1
  have g := nxt_ge hu o
  refine ⟨?_, (hs _).mp (nxt_shn o), fun t ht ha => ?_⟩
  · have : l0.1 * o ≤ l0.1 * nxt u o := Int.mul_le_mul_of_nonneg_left g (by omega)
    rw [Int.mul_comm (nxt u o)]
    omega
  · obtain ⟨k, hk⟩ : l0.1 ∣ t - l0.2 := ha l0 hm
    have et : t = l0.2 + k * l0.1 := by rw [Int.mul_comm]; omega
    have hko : o ≤ k := by
      by_cases hh : o ≤ k
      · exact hh
      · have : l0.1 * k ≤ l0.1 * (o - 1) := Int.mul_le_mul_of_nonneg_left (by omega) (by omega)
        rw [Int.mul_sub, Int.mul_one] at this
        omega
    have hk2 : Shn (some u) k := (hs k).mpr (by rw [← et]; exact ha)
    have := nxt_le hu hko hk2
    have : l0.1 * nxt u o ≤ l0.1 * k := Int.mul_le_mul_of_nonneg_left this (by omega)
    rw [et, Int.mul_comm (nxt u o), Int.mul_comm k]
    omega
theorem due_no {ls : List (Int × Int)} {l0 : Int × Int} (hm : l0 ∈ ls) (hs : ∀ t, ¬ AllS ls (l0.2 + t * l0.1)) (spot : Int) : IsDue ls spot none := by
  intro t ha
  obtain ⟨k, hk⟩ : l0.1 ∣ t - l0.2 := ha l0 hm
  exact hs k (by rw [show l0.2 + k * l0.1 = t by rw [Int.mul_comm]; omega]; exact ha)
/-- in turns -/
theorem turn_end {ls : List (Int × Int)} {spot sp : Int} (h : spot ≤ sp) (hl : ∀ t, spot ≤ t → AllS ls t → sp ≤ t) (ha : AllS ls sp) : IsDue ls spot (some sp) := ⟨h, ha, hl⟩
theorem turn_none {ls : List (Int × Int)} {spot sp : Int} (h : spot + 400 ≤ sp) (hl : ∀ t, spot ≤ t → AllS ls t → sp ≤ t) (h360 : ∀ l ∈ ls, l.1 ∣ 360) : IsDue ls spot none := by
  intro t ha
  have e1 := Int.emod_add_mul_ediv (t - spot) 360
  have e2 := Int.emod_lt_of_pos (t - spot) (show (0 : Int) < 360 by decide)
  have e3 := Int.emod_nonneg (t - spot) (show (360 : Int) ≠ 0 by decide)
  have := hl (spot + (t - spot) % 360) (by omega) (fun l hm => by
    have h1 : l.1 ∣ t - l.2 := ha l hm
    have h2 : l.1 ∣ 360 * ((t - spot) / 360) := Int.dvd_trans (h360 l hm) (Int.dvd_mul_right _ _)
    show l.1 ∣ spot + (t - spot) % 360 - l.2
    have := Int.dvd_sub h1 h2
    rwa [show t - l.2 - 360 * ((t - spot) / 360) = spot + (t - spot) % 360 - l.2 by omega] at this)
  omega
theorem turn_step {ls : List (Int × Int)} {spot sp m : Int} (hp : ∀ l ∈ ls, 0 < l.1) (hl : ∀ t, spot ≤ t → AllS ls t → sp ≤ t) (hm : ∃ l ∈ ls, m = nxt l sp) : ∀ t, spot ≤ t → AllS ls t → m ≤ t := by
  obtain ⟨l, hl', rfl⟩ := hm
  exact fun t ht ha => nxt_le (hp l hl') (hl t ht ha) (ha l hl')
theorem turn_all {ls : List (Int × Int)} {sp : Int} (hp : ∀ l ∈ ls, 0 < l.1) (h : ∀ l ∈ ls, nxt l sp ≤ sp) : AllS ls sp := by
  intro l hl
  have e : nxt l sp = sp := Int.le_antisymm (h l hl) (nxt_ge (hp l hl) sp)
  have := nxt_shn (l := l) sp
  rwa [e] at this
theorem nxt_next {l : Int × Int} (h : 0 < l.1) {d : Int} (hs : Shn (some l) d) : nxt l (d + 1) - d = l.1 := by
  have h1 := nxt_le (l := l) h (t := d + 1) (x := d + l.1) (by omega) (by
    have h2 : l.1 ∣ d - l.2 := hs
    show l.1 ∣ d + l.1 - l.2
    have := Int.dvd_add h2 (Int.dvd_refl l.1)
    rwa [show d - l.2 + l.1 = d + l.1 - l.2 by omega] at this)
  have h3 := nxt_ge (l := l) h (d + 1)
  have h4 : l.1 ∣ nxt l (d + 1) - l.2 := nxt_shn (d + 1)
  have h5 : l.1 ∣ d - l.2 := hs
  have h6 := Int.dvd_sub h4 h5
  rw [show nxt l (d + 1) - l.2 - (d - l.2) = nxt l (d + 1) - d by omega] at h6
  have := Int.le_of_dvd (by omega) h6
  omega
theorem ediv_abs {x p : Int} (h : 0 < p) : (x / p).natAbs ≤ x.natAbs := by
  by_cases hx : 0 ≤ x
  · have h1 := Int.ediv_nonneg hx (show 0 ≤ p by omega)
    have h2 := Int.ediv_le_self p hx
    omega
  · have h1 : x ≤ x / p := (Int.le_ediv_iff_mul_le h).mpr (by
      have : (-x) * 1 ≤ (-x) * p := Int.mul_le_mul_of_nonneg_left (by omega) (by omega)
      rw [Int.neg_mul, Int.neg_mul] at this
      omega)
    have h2 : x / p < 0 := Int.ediv_neg_of_neg_of_pos (by omega) h
    omega

/-! ### a light of k lamps that is bright at 2 ^ k beats in a row is bright for ever
Sequences of functions of coordinates, one coordinate a lamp; a sequence that is killed by D steps and is nought D times in a row is nought. -/
abbrev Crd := Nat → Int
abbrev Sq := Int → Crd → Int
def subC (r s : Crd) : Crd := fun k => r k - s k
def stepS (s : Crd) (f : Sq) : Sq := fun n r => f (n + 1) r - f n (subC r s)
def Kills : List Crd → Sq → Prop
  | [], f => ∀ n r, f n r = 0
  | s :: ss, f => Kills ss (stepS s f)
theorem kills_zero : ∀ (ss : List Crd) (f : Sq), (∀ n r, f n r = 0) → Kills ss f
  | [], _, h => h
  | s :: ss, f, h => kills_zero ss _ fun n r => by unfold stepS; rw [h, h]; rfl
theorem vanish : ∀ (ss : List Crd) (f : Sq) (n0 : Int), Kills ss f → (∀ i : Nat, i < ss.length → ∀ r, f (n0 + i) r = 0) → ∀ n r, f n r = 0
  | [], _, _, h, _ => h
  | s :: ss, f, n0, h, hz => by
    have g0 : ∀ n r, stepS s f n r = 0 := vanish ss (stepS s f) n0 h fun i hi r => by
      unfold stepS
      have h1 := hz (i + 1) (by simp; omega) r
      have h2 := hz i (by simp; omega) (subC r s)
      rw [show n0 + (i : Int) + 1 = n0 + ((i + 1 : Nat) : Int) by omega, h1, h2]
      rfl
    have e : ∀ n r, f (n + 1) r = f n (subC r s) := fun n r => by
      have := g0 n r
      unfold stepS at this
      omega
    have z0 : ∀ r, f n0 r = 0 := fun r => by
      have := hz 0 (by simp) r
      rwa [show n0 + ((0 : Nat) : Int) = n0 by omega] at this
    have up : ∀ (j : Nat) r, f (n0 + j) r = 0 := by
      intro j
      induction j with
      | zero => intro r; rw [show n0 + ((0 : Nat) : Int) = n0 by omega]; exact z0 r
      | succ j ih => intro r; rw [show n0 + ((j + 1 : Nat) : Int) = n0 + (j : Int) + 1 by omega, e]; exact ih _
    have down : ∀ (j : Nat) r, f (n0 - j) r = 0 := by
      intro j
      induction j with
      | zero => intro r; rw [show n0 - ((0 : Nat) : Int) = n0 by omega]; exact z0 r
      | succ j ih =>
        intro r
        have h1 := ih (fun k => r k + s k)
        rw [show n0 - (j : Int) = n0 - ((j + 1 : Nat) : Int) + 1 by omega, e] at h1
        have h2 : subC (fun k => r k + s k) s = r := by
          funext k
          unfold subC
          dsimp only
          omega
        rwa [h2] at h1
    intro n r
    by_cases hn : n0 ≤ n
    · have := up (n - n0).toNat r
      rwa [show n0 + (((n - n0).toNat : Nat) : Int) = n by omega] at this
    · have := down (n0 - n).toNat r
      rwa [show n0 - (((n0 - n).toNat : Nat) : Int) = n by omega] at this
theorem step_comm (s t : Crd) (f : Sq) : stepS s (stepS t f) = stepS t (stepS s f) := by
  funext n r
  unfold stepS
  have : subC (subC r s) t = subC (subC r t) s := by
    funext k
    unfold subC
    omega
  rw [this]
  omega
theorem kills_step : ∀ (ss : List Crd) (s : Crd) (f : Sq), Kills ss f → Kills ss (stepS s f)
  | [], s, f, h => fun n r => by unfold stepS; rw [h, h]; rfl
  | t :: ss, s, f, h => by
    show Kills ss (stepS t (stepS s f))
    rw [← step_comm]
    exact kills_step ss s _ h
theorem kills_right : ∀ (ss tt : List Crd) (f : Sq), Kills tt f → Kills (ss ++ tt) f
  | [], _, _, h => h
  | s :: ss, tt, f, h => kills_right ss tt _ (kills_step tt s f h)
theorem kills_left : ∀ (ss tt : List Crd) (f : Sq), Kills ss f → Kills (ss ++ tt) f
  | [], tt, f, h => kills_zero tt f h
  | s :: ss, tt, f, h => kills_left ss tt _ h
theorem kills_sub : ∀ (ss : List Crd) (f g : Sq), Kills ss f → Kills ss g → Kills ss (fun n r => f n r - g n r)
  | [], f, g, hf, hg => fun n r => by
    show f n r - g n r = 0
    rw [hf, hg]
    rfl
  | s :: ss, f, g, hf, hg => by
    have := kills_sub ss (stepS s f) (stepS s g) hf hg
    show Kills ss (stepS s _)
    have e : stepS s (fun n r => f n r - g n r) = fun n r => stepS s f n r - stepS s g n r := by
      funext n r
      unfold stepS
      dsimp only
      omega
    rw [e]
    exact this
theorem kills_still (k : Nat) : ∀ (ss : List Crd) (f : Sq) (c : Int → Int), (∀ s ∈ ss, s k = 0) → Kills ss f → Kills ss (fun n r => f n r * c (r k))
  | [], f, c, _, h => fun n r => by
    show f n r * c (r k) = 0
    rw [h, Int.zero_mul]
  | s :: ss, f, c, hs, h => by
    have := kills_still k ss (stepS s f) c (fun t ht => hs t (.tail _ ht)) h
    show Kills ss (stepS s _)
    have e : stepS s (fun n r => f n r * c (r k)) = fun n r => stepS s f n r * c (r k) := by
      funext n r
      unfold stepS
      dsimp only
      have : subC r s k = r k := by
        unfold subC
        rw [hs s (.head _)]
        omega
      rw [this, Int.sub_mul]
    rw [e]
    exact this
/-- the coordinate k set to 1 -/
def atOne (k : Nat) (s : Crd) : Crd := fun j => if j = k then 1 else s j
/-- f does not look at the coordinate k -/
def Blind (k : Nat) (f : Sq) : Prop := ∀ n r r', (∀ j, j ≠ k → r j = r' j) → f n r = f n r'
theorem blind_step {k : Nat} {s : Crd} {f : Sq} (h : Blind k f) : Blind k (stepS s f) := fun n r r' e => by
  unfold stepS
  rw [h (n + 1) r r' e, h n (subC r s) (subC r' s) fun j hj => by unfold subC; rw [e j hj]]
theorem kills_moves (k : Nat) : ∀ (ss : List Crd) (f : Sq) (c : Int → Int), (∀ s ∈ ss, s k = 0) → Blind k f → Kills ss f → Kills (ss.map (atOne k)) (fun n r => f n r * c (r k - n))
  | [], f, c, _, _, h => fun n r => by
    show f n r * c (r k - n) = 0
    rw [h, Int.zero_mul]
  | s :: ss, f, c, hs, hb, h => by
    have := kills_moves k ss (stepS s f) (fun x => c (x - 1)) (fun t ht => hs t (.tail _ ht)) (blind_step hb) h
    show Kills (ss.map (atOne k)) (stepS (atOne k s) _)
    have e : stepS (atOne k s) (fun n r => f n r * c (r k - n)) = fun n r => stepS s f n r * c (r k - n - 1) := by
      funext n r
      unfold stepS
      dsimp only
      have e1 : subC r (atOne k s) k = r k - 1 := by
        unfold subC atOne
        rw [if_pos rfl]
      have e2 : f n (subC r (atOne k s)) = f n (subC r s) := hb _ _ _ fun j hj => by
        unfold subC atOne
        rw [if_neg hj]
      rw [e1, e2, Int.sub_mul, show r k - (n + 1) = r k - n - 1 by omega, show r k - 1 - n = r k - n - 1 by omega]
    rw [e]
    exact this
def dlt (m x : Int) : Int := if m ∣ x then 1 else 0
def prodS : List (Int × Int) → Sq
  | [] => fun _ _ => 1
  | l :: ls => fun n r => prodS ls n r * dlt l.1 (r ls.length) - prodS ls n r * dlt l.1 (r ls.length - n + l.2)
def shiftsS : List (Int × Int) → List Crd
  | [] => [fun _ => 0]
  | _ :: ls => shiftsS ls ++ (shiftsS ls).map (atOne ls.length)
theorem shifts_len : ∀ ls : List (Int × Int), (shiftsS ls).length = 2 ^ ls.length
  | [] => rfl
  | _ :: ls => by
    show (shiftsS ls ++ (shiftsS ls).map (atOne ls.length)).length = 2 ^ (ls.length + 1)
    rw [List.length_append, List.length_map, shifts_len ls, Nat.pow_succ]
    omega
theorem shifts_far : ∀ (ls : List (Int × Int)) (k : Nat), ls.length ≤ k → ∀ s ∈ shiftsS ls, s k = 0
  | [], k, _, s, hs => by
    have : s = fun _ => 0 := by simpa [shiftsS] using hs
    rw [this]
  | _ :: ls, k, hk, s, hs => by
    have hk' : ls.length + 1 ≤ k := hk
    rcases List.mem_append.mp (show s ∈ shiftsS ls ++ (shiftsS ls).map (atOne ls.length) from hs) with h | h
    · exact shifts_far ls k (by omega) s h
    · obtain ⟨t, ht, rfl⟩ := List.mem_map.mp h
      unfold atOne
      rw [if_neg (by omega)]
      exact shifts_far ls k (by omega) t ht
theorem prod_blind : ∀ (ls : List (Int × Int)) (k : Nat), ls.length ≤ k → Blind k (prodS ls)
  | [], _, _ => fun _ _ _ _ => rfl
  | l :: ls, k, hk => fun n r r' e => by
    have hk' : ls.length + 1 ≤ k := hk
    show prodS ls n r * dlt l.1 (r ls.length) - prodS ls n r * dlt l.1 (r ls.length - n + l.2) = prodS ls n r' * dlt l.1 (r' ls.length) - prodS ls n r' * dlt l.1 (r' ls.length - n + l.2)
    rw [prod_blind ls k (by omega) n r r' e, e ls.length (by omega)]
theorem prod_killed : ∀ ls : List (Int × Int), Kills (shiftsS ls) (prodS ls)
  | [] => fun n r => by
    show (1 : Int) - 1 = 0
    rfl
  | l :: ls => by
    have ih := prod_killed ls
    have h0 := shifts_far ls ls.length (Nat.le_refl _)
    have h1 := kills_still ls.length (shiftsS ls) (prodS ls) (fun x => dlt l.1 x) h0 ih
    have h2 := kills_moves ls.length (shiftsS ls) (prodS ls) (fun x => dlt l.1 (x + l.2)) h0 (prod_blind ls _ (Nat.le_refl _)) ih
    exact kills_sub _ _ _ (kills_left _ _ _ h1) (kills_right _ _ _ h2)
theorem prod_bright : ∀ (ls : List (Int × Int)) (n : Int), (∃ l ∈ ls, l.1 ∣ n - l.2) → ∀ r, prodS ls n r = 0
  | [], _, ⟨_, h, _⟩ => nomatch h
  | l :: ls, n, ⟨l', hl, hd⟩ => fun r => by
    show prodS ls n r * dlt l.1 (r ls.length) - prodS ls n r * dlt l.1 (r ls.length - n + l.2) = 0
    rcases List.mem_cons.mp hl with rfl | hl
    · have : dlt l'.1 (r ls.length) = dlt l'.1 (r ls.length - n + l'.2) := by
        have iff : l'.1 ∣ r ls.length ↔ l'.1 ∣ r ls.length - n + l'.2 := by
          constructor
          · intro h
            rw [show r ls.length - n + l'.2 = r ls.length - (n - l'.2) by omega]
            exact Int.dvd_sub h hd
          · intro h
            have := Int.dvd_add h hd
            rwa [show r ls.length - n + l'.2 + (n - l'.2) = r ls.length by omega] at this
        unfold dlt
        by_cases h : l'.1 ∣ r ls.length
        · rw [if_pos h, if_pos (iff.mp h)]
        · rw [if_neg h, if_neg (fun z => h (iff.mpr z))]
      rw [this, Int.sub_self]
    · rw [prod_bright ls n ⟨l', hl, hd⟩ r, Int.zero_mul, Int.zero_mul]
      rfl
theorem prod_dark : ∀ (ls : List (Int × Int)) (n : Int), (∀ l ∈ ls, ¬ l.1 ∣ n - l.2) → prodS ls n (fun _ => 0) = 1
  | [], _, _ => rfl
  | l :: ls, n, h => by
    show prodS ls n (fun _ => 0) * dlt l.1 0 - prodS ls n (fun _ => 0) * dlt l.1 (0 - n + l.2) = 1
    have h1 : dlt l.1 0 = 1 := if_pos (Int.dvd_zero _)
    have h2 : dlt l.1 (0 - n + l.2) = 0 := if_neg fun z => h l (.head _) (by
      rw [show n - l.2 = -(0 - n + l.2) by omega]
      exact Int.dvd_neg.mpr z)
    rw [prod_dark ls n fun l hl => h l (.tail _ hl), h1, h2]
    rfl
/-- bright at as many beats in a row as 2 by itself for each lamp: bright for ever -/
theorem wait_all (ls : List (Int × Int)) (n0 : Int) (h : ∀ i : Nat, i < 2 ^ ls.length → ∃ l ∈ ls, l.1 ∣ n0 + i - l.2) (n : Int) : ∃ l ∈ ls, l.1 ∣ n - l.2 := by
  have hz := vanish (shiftsS ls) (prodS ls) n0 (prod_killed ls) (fun i hi r => prod_bright ls _ (h i (by rw [← shifts_len]; exact hi)) r)
  by_cases e : ∃ l ∈ ls, l.1 ∣ n - l.2
  · exact e
  · have h1 := prod_dark ls n fun l hl hd => e ⟨l, hl, hd⟩
    rw [hz] at h1
    cases h1

/-! ### lights: which lamps shine at a beat -/
def shB (l : Int × Int) (t : Int) : Bool := decide (l.1 ∣ t - l.2)
theorem shB_iff {l : Int × Int} {t : Int} : shB l t = true ↔ l.1 ∣ t - l.2 := decide_eq_true_iff
/-- numbered lamps: the numbers of those that shine -/
def rowOf (ns : List (Int × Int × Int)) (t : Int) : List Int := (ns.filter fun x => shB x.2 t).map Prod.fst
/-- lamps numbered from i on -/
def numF (i : Int) : List (Int × Int) → List (Int × Int × Int)
  | [] => []
  | l :: ls => (i, l) :: numF (i + 1) ls
theorem numF_len : ∀ (ls : List (Int × Int)) (i : Int), (numF i ls).length = ls.length
  | [], _ => rfl
  | _ :: ls, i => congrArg (· + 1) (numF_len ls (i + 1))
theorem numF_get : ∀ (ls : List (Int × Int)) (i : Int) (j : Nat), (numF i ls)[j]? = ls[j]?.map fun l => (i + j, l)
  | [], _, _ => by simp [numF]
  | l :: ls, i, 0 => by simp [numF]
  | l :: ls, i, j + 1 => by
    show (numF (i + 1) ls)[j]? = ls[j]?.map _
    rw [numF_get ls (i + 1) j, show i + 1 + (j : Int) = i + ((j + 1 : Nat) : Int) by omega]
theorem numF_mem {ls : List (Int × Int)} {i : Int} {x : Int × Int × Int} : x ∈ numF i ls ↔ ∃ j : Nat, x.1 = i + j ∧ ls[j]? = some x.2 := by
  constructor
  · intro h
    obtain ⟨j, hj⟩ := List.mem_iff_getElem?.mp h
    rw [numF_get] at hj
    cases e : ls[j]? with
    | none => rw [e] at hj; cases hj
    | some l =>
      rw [e] at hj
      cases hj
      exact ⟨j, rfl, e⟩
  · rintro ⟨j, e1, e2⟩
    refine List.mem_iff_getElem?.mpr ⟨j, ?_⟩
    rw [numF_get, e2]
    show some (i + (j : Int), x.2) = some x
    rw [← e1]
theorem rowOf_take {ns : List (Int × Int × Int)} {i : Nat} {x : Int × Int × Int} (h : ns[i]? = some x) (t : Int) : rowOf (ns.take (i + 1)) t = rowOf (ns.take i) t ++ if shB x.2 t then [x.1] else [] := by
  unfold rowOf
  rw [List.take_succ, h, List.filter_append, List.map_append]
  congr 1
  cases e : shB x.2 t <;> simp [e]
theorem rowOf_nil_iff {ns : List (Int × Int × Int)} {t : Int} : rowOf ns t = [] ↔ ∀ x ∈ ns, ¬ x.2.1 ∣ t - x.2.2 := by
  unfold rowOf
  rw [List.map_eq_nil_iff, List.filter_eq_nil_iff]
  exact ⟨fun h x hx hd => h x hx (shB_iff.mpr hd), fun h x hx hs => h x hx (shB_iff.mp hs)⟩
theorem rowOf_mem {ns : List (Int × Int × Int)} {t z : Int} : z ∈ rowOf ns t ↔ ∃ x ∈ ns, x.1 = z ∧ x.2.1 ∣ t - x.2.2 := by
  unfold rowOf
  rw [List.mem_map]
  constructor
  · rintro ⟨x, hx, e⟩
    obtain ⟨h1, h2⟩ := List.mem_filter.mp hx
    exact ⟨x, h1, e, shB_iff.mp h2⟩
  · rintro ⟨x, hx, e, hd⟩
    exact ⟨x, List.mem_filter.mpr ⟨hx, shB_iff.mpr hd⟩, e⟩
theorem rowOf_len (ns : List (Int × Int × Int)) (t : Int) : (rowOf ns t).length ≤ ns.length := by
  unfold rowOf
  rw [List.length_map]
  exact List.length_filter_le ..
/-- a light is bright -/
def Bright (ls : List (Int × Int)) (t : Int) : Prop := ∃ l ∈ ls, l.1 ∣ t - l.2
instance (ls : List (Int × Int)) (t : Int) : Decidable (Bright ls t) := inferInstanceAs (Decidable (∃ l ∈ ls, l.1 ∣ t - l.2))
/-- the row of a light -/
def lrow (ls : List (Int × Int)) (t : Int) : List Int := rowOf (numF 0 ls) t
theorem lrow_nil {ls : List (Int × Int)} {t : Int} : lrow ls t = [] ↔ ¬ Bright ls t := by
  unfold lrow
  rw [rowOf_nil_iff]
  constructor
  · rintro h ⟨l, hl, hd⟩
    obtain ⟨j, hj⟩ := List.mem_iff_getElem?.mp hl
    exact h (0 + j, l) (numF_mem.mpr ⟨j, rfl, hj⟩) hd
  · intro h x hx hd
    obtain ⟨j, _, e⟩ := numF_mem.mp hx
    exact h ⟨x.2, List.mem_of_getElem? e, hd⟩
theorem lrow_mem {ls : List (Int × Int)} {t z : Int} : z ∈ lrow ls t ↔ ∃ j : Nat, z = j ∧ ∃ l, ls[j]? = some l ∧ l.1 ∣ t - l.2 := by
  unfold lrow
  rw [rowOf_mem]
  constructor
  · rintro ⟨x, hx, e, hd⟩
    obtain ⟨j, e1, e2⟩ := numF_mem.mp hx
    exact ⟨j, by omega, x.2, e2, hd⟩
  · rintro ⟨j, e, l, hl, hd⟩
    exact ⟨(0 + j, l), numF_mem.mpr ⟨j, rfl, hl⟩, by omega, hd⟩
theorem lrow_len (ls : List (Int × Int)) (t : Int) : (lrow ls t).length ≤ ls.length := by
  have := rowOf_len (numF 0 ls) t
  rw [numF_len] at this
  exact this
/-! ### going by periods from the first shine on -/
/-- of the places lo, lo + c, .. the first m have been gone to -/
def hitB (lo c : Int) (m : Nat) (j : Int) : Bool := decide (lo ≤ j ∧ j < lo + m * c ∧ c ∣ j - lo)
theorem hit_zero (lo c j : Int) : hitB lo c 0 j = false := decide_eq_false fun h => by
  have := h.2.1
  simp at this
  omega
theorem hit_at {lo c : Int} (hc : 0 < c) (m : Nat) : hitB lo c m (lo + m * c) = false := decide_eq_false fun h => by omega
theorem hit_new {lo c : Int} (hc : 0 < c) (m : Nat) : hitB lo c (m + 1) (lo + m * c) = true := decide_eq_true (by
  have : 0 ≤ (m : Int) * c := Int.mul_nonneg (by omega) (by omega)
  refine ⟨by omega, ?_, ⟨m, by rw [Int.mul_comm c]; omega⟩⟩
  rw [show ((m + 1 : Nat) : Int) = m + 1 by omega, Int.add_mul]
  omega)
theorem hit_step {lo c : Int} (hc : 0 < c) {m : Nat} {j : Int} (h : j ≠ lo + m * c) : hitB lo c (m + 1) j = hitB lo c m j := by
  unfold hitB
  refine decide_eq_decide.mpr ⟨fun ⟨h1, h2, h3⟩ => ⟨h1, ?_, h3⟩, fun ⟨h1, h2, h3⟩ => ⟨h1, ?_, h3⟩⟩
  · obtain ⟨q, hq⟩ := h3
    rw [show ((m + 1 : Nat) : Int) = m + 1 by omega, Int.add_mul] at h2
    have e : c * q = q * c := Int.mul_comm ..
    have : q ≤ m := by
      by_cases hh : q ≤ m
      · exact hh
      · have h4 : ((m : Int) + 1) * c ≤ q * c := Int.mul_le_mul_of_nonneg_right (by omega) (by omega)
        rw [Int.add_mul] at h4
        omega
    have : q ≠ m := fun z => by
      subst z
      omega
    have h5 : (q + 1) * c ≤ (m : Int) * c := Int.mul_le_mul_of_nonneg_right (by omega) (by omega)
    rw [Int.add_mul] at h5
    omega
  · rw [show ((m + 1 : Nat) : Int) = m + 1 by omega, Int.add_mul]
    omega
theorem hit_all {p b t many j : Int} {n : Nat} (hp : 0 < p) (hn : PySem.Builtin.Range.rangeSize ((b - t) % p) many p = n) (j0 : 0 ≤ j) (j1 : j < many) : hitB ((b - t) % p) p n j = shB (p, b) (t + j) := by
  have l0 := Int.emod_nonneg (b - t) (show p ≠ 0 by omega)
  have l1 := Int.emod_lt_of_pos (b - t) hp
  unfold hitB shB
  have e0 : t + j - b = j - (b - t) % p - p * ((b - t) / p) := by
    have := Int.emod_add_mul_ediv (b - t) p
    omega
  have dv : p ∣ j - (b - t) % p ↔ p ∣ t + j - b := by
    rw [e0]
    constructor
    · intro h
      exact Int.dvd_sub h ⟨_, rfl⟩
    · intro h
      have := Int.dvd_add h (Int.dvd_mul_right p ((b - t) / p))
      rwa [Int.sub_add_cancel] at this
  refine decide_eq_decide.mpr ⟨fun h => dv.mp h.2.2, fun h => ⟨?_, ?_, dv.mpr h⟩⟩
  · by_cases hh : (b - t) % p ≤ j
    · exact hh
    · obtain ⟨q, hq⟩ := dv.mpr h
      have : q < 0 := by
        by_cases z : q < 0
        · exact z
        · have := Int.mul_nonneg (show 0 ≤ p by omega) (show 0 ≤ q by omega)
          omega
      have : p * q ≤ p * (-1) := Int.mul_le_mul_of_nonneg_left (by omega) (by omega)
      omega
  · by_cases hh : j < (b - t) % p
    · have : 0 ≤ (n : Int) * p := Int.mul_nonneg (by omega) (by omega)
      omega
    · unfold PySem.Builtin.Range.rangeSize at hn
      rw [if_pos (by omega), if_pos (by omega)] at hn
      have h1 := Int.emod_add_mul_ediv (many - (b - t) % p - 1) p
      have h2 := Int.emod_lt_of_pos (many - (b - t) % p - 1) hp
      have h3 : (n : Int) * p = p * ((many - (b - t) % p - 1) / p) + p := by
        rw [← hn, Int.add_mul, Int.one_mul, Int.mul_comm]
      omega
theorem hit_lt {lo c many : Int} {n m : Nat} (hc : 0 < c) (hn : PySem.Builtin.Range.rangeSize lo many c = n) (hm : m < n) : lo + m * c < many := by
  unfold PySem.Builtin.Range.rangeSize at hn
  rw [if_pos (by omega)] at hn
  by_cases hh : lo < many
  · rw [if_pos hh] at hn
    have h1 := Int.emod_add_mul_ediv (many - lo - 1) c
    have h2 := Int.emod_nonneg (many - lo - 1) (show c ≠ 0 by omega)
    have h3 : (m : Int) * c ≤ (many - lo - 1) / c * c := Int.mul_le_mul_of_nonneg_right (by omega) (by omega)
    rw [Int.mul_comm ((many - lo - 1) / c)] at h3
    omega
  · rw [if_neg hh] at hn
    omega
theorem range_nat {lo many c : Int} (hc : 0 < c) : ∃ n : Nat, PySem.Builtin.Range.rangeSize lo many c = n := by
  unfold PySem.Builtin.Range.rangeSize
  rw [if_pos (by omega)]
  by_cases hh : lo < many
  · rw [if_pos hh]
    have := Int.ediv_nonneg (show 0 ≤ many - lo - 1 by omega) (show 0 ≤ c by omega)
    exact ⟨((many - lo - 1) / c + 1).toNat, by omega⟩
  · rw [if_neg hh]
    exact ⟨0, rfl⟩
theorem rowOf_numF_take {ls : List (Int × Int)} {i : Nat} {l : Int × Int} (e : ls[i]? = some l) (t : Int) : rowOf ((numF 0 ls).take (i + 1)) t = rowOf ((numF 0 ls).take i) t ++ if shB l t then [(i : Int)] else [] := by
  have h : (numF 0 ls)[i]? = some ((i : Int), l) := by
    rw [numF_get, e]
    show some (0 + (i : Int), l) = _
    rw [Int.zero_add]
  exact rowOf_take h t

/-! ### the next dark beat and the last one -/
def darks (ls : List (Int × Int)) (t : Int) : List Nat := (List.range (2 ^ ls.length)).filter fun j => decide (lrow ls (t + (j : Nat)) = [])
theorem darks_mem {ls : List (Int × Int)} {t : Int} {j : Nat} : j ∈ darks ls t ↔ j < 2 ^ ls.length ∧ ¬ Bright ls (t + j) := by
  unfold darks
  rw [List.mem_filter, List.mem_range, decide_eq_true_iff, lrow_nil]
theorem darks_nil {ls : List (Int × Int)} {t : Int} : darks ls t = [] ↔ ∀ x, Bright ls x := by
  constructor
  · intro h
    refine wait_all ls t fun i hi => ?_
    by_cases hb : Bright ls (t + i)
    · exact hb
    · have := darks_mem.mpr ⟨hi, hb⟩
      rw [h] at this
      cases this
  · intro h
    cases e : darks ls t with
    | nil => rfl
    | cons j r => exact absurd (h _) (darks_mem.mp (by rw [e]; exact .head _ : j ∈ darks ls t)).2
theorem darks_rise (ls : List (Int × Int)) (t : Int) : (darks ls t).Pairwise (· < ·) := List.Pairwise.filter _ List.pairwise_lt_range
def nextD (ls : List (Int × Int)) (t : Int) : Option Int := (darks ls t).head?.map fun j => t + (j : Nat)
def firstL (ls : List (Int × Int)) (t : Int) : Int := t - 2 ^ ls.length + 1
def lastD (ls : List (Int × Int)) (t : Int) : Option Int := (darks ls (firstL ls t)).getLast?.map fun j => firstL ls t + (j : Nat)
def paper (ls : List (Int × Int)) (t : Int) : List Int := (List.range (2 ^ ls.length)).map fun j => (lrow ls (t + (j : Nat))).headD 0
theorem nextD_none {ls : List (Int × Int)} {t : Int} : nextD ls t = none ↔ ∀ x, Bright ls x := by
  unfold nextD
  rw [Option.map_eq_none_iff, List.head?_eq_none_iff, darks_nil]
theorem lastD_none {ls : List (Int × Int)} {t : Int} : lastD ls t = none ↔ ∀ x, Bright ls x := by
  unfold lastD
  rw [Option.map_eq_none_iff, List.getLast?_eq_none_iff, darks_nil]
theorem pairwise_head {R : Nat → Nat → Prop} {l : List Nat} {a b : Nat} (h : l.Pairwise R) (ha : l.head? = some a) (hb : b ∈ l) : a = b ∨ R a b := by
  cases l with
  | nil => cases ha
  | cons x r =>
    cases ha
    rcases List.mem_cons.mp hb with e | e
    · exact .inl e.symm
    · exact .inr ((List.pairwise_cons.mp h).1 b e)
theorem pairwise_last {l : List Nat} {a b : Nat} (h : l.Pairwise (· < ·)) (ha : l.getLast? = some a) (hb : b ∈ l) : b = a ∨ b < a := by
  obtain ⟨r, rfl⟩ : ∃ r, l = r ++ [a] := List.getLast?_eq_some_iff.mp ha
  rcases List.mem_append.mp hb with e | e
  · exact .inr ((List.pairwise_append.mp h).2.2 b e a (.head _))
  · exact .inl (List.mem_singleton.mp e)
theorem nextD_spec {ls : List (Int × Int)} {t d : Int} (h : nextD ls t = some d) : t ≤ d ∧ d < t + 2 ^ ls.length ∧ ¬ Bright ls d ∧ ∀ x, t ≤ x → x < d → Bright ls x := by
  unfold nextD at h
  cases e : (darks ls t).head? with
  | none => rw [e] at h; cases h
  | some j =>
    rw [e] at h
    cases h
    obtain ⟨h1, h2⟩ := darks_mem.mp (List.mem_of_mem_head? e)
    have h1' : (j : Int) < 2 ^ ls.length := by exact_mod_cast h1
    refine ⟨by show t ≤ t + (j : Int); omega, by show t + (j : Int) < _; omega, h2, fun x h3 h4 => ?_⟩
    replace h4 : x < t + (j : Int) := h4
    by_cases hb : Bright ls x
    · exact hb
    · have hx : x = t + ((x - t).toNat : Nat) := by omega
      rw [hx] at hb
      rcases pairwise_head (darks_rise ls t) e (darks_mem.mpr ⟨by omega, hb⟩) with q | q <;> omega
theorem lastD_spec {ls : List (Int × Int)} {t d : Int} (h : lastD ls t = some d) : d ≤ t ∧ t - 2 ^ ls.length < d ∧ ¬ Bright ls d ∧ ∀ x, d < x → x ≤ t → Bright ls x := by
  unfold lastD at h
  cases e : (darks ls (firstL ls t)).getLast? with
  | none => rw [e] at h; cases h
  | some j =>
    rw [e] at h
    cases h
    obtain ⟨h1, h2⟩ := darks_mem.mp (List.mem_of_mem_getLast? e)
    have h1' : (j : Int) < 2 ^ ls.length := by exact_mod_cast h1
    have ef : firstL ls t = t - 2 ^ ls.length + 1 := rfl
    refine ⟨by show firstL ls t + (j : Int) ≤ t; omega, by show _ < firstL ls t + (j : Int); omega, h2, fun x h3 h4 => ?_⟩
    replace h3 : firstL ls t + (j : Int) < x := h3
    by_cases hb : Bright ls x
    · exact hb
    · have hx : x = firstL ls t + ((x - firstL ls t).toNat : Nat) := by omega
      rw [hx] at hb
      have hlt : (x - firstL ls t).toNat < 2 ^ ls.length := by
        have : (((x - firstL ls t).toNat : Nat) : Int) < ((2 ^ ls.length : Nat) : Int) := by
          rw [show ((2 ^ ls.length : Nat) : Int) = 2 ^ ls.length by norm_cast]
          omega
        exact_mod_cast this
      rcases pairwise_last (darks_rise ls _) e (darks_mem.mpr ⟨hlt, hb⟩) with q | q <;> omega
theorem nextD_of {ls : List (Int × Int)} {t d : Int} (h1 : t ≤ d) (h2 : ¬ Bright ls d) (h3 : ∀ x, t ≤ x → x < d → Bright ls x) : nextD ls t = some d := by
  cases e : nextD ls t with
  | none => exact absurd (nextD_none.mp e d) h2
  | some d' =>
    obtain ⟨g1, _, g2, g3⟩ := nextD_spec e
    by_cases hl : d < d'
    · exact absurd (g3 d h1 hl) h2
    · by_cases hg : d' < d
      · exact absurd (h3 d' g1 hg) g2
      · rw [show d' = d by omega]
theorem lastD_of {ls : List (Int × Int)} {t d : Int} (h1 : d ≤ t) (h2 : ¬ Bright ls d) (h3 : ∀ x, d < x → x ≤ t → Bright ls x) : lastD ls t = some d := by
  cases e : lastD ls t with
  | none => exact absurd (lastD_none.mp e d) h2
  | some d' =>
    obtain ⟨g1, _, g2, g3⟩ := lastD_spec e
    by_cases hl : d' < d
    · exact absurd (g3 d hl h1) h2
    · by_cases hg : d < d'
      · exact absurd (h3 d' hg g1) g2
      · rw [show d' = d by omega]
theorem paper_len (ls : List (Int × Int)) (t : Int) : (paper ls t).length = 2 ^ ls.length := by
  unfold paper
  rw [List.length_map, List.length_range]

/-! ### lights of pairs as they are drawn -/
def nrm (l : Int × Int) : Int × Int := (l.1, l.2 % l.1)
theorem dvd_nrm (p b t : Int) : p ∣ t - b % p ↔ p ∣ t - b := by
  have e := Int.emod_add_mul_ediv b p
  have e2 : t - b % p = t - b + p * (b / p) := by omega
  rw [e2]
  constructor
  · intro h
    have := Int.dvd_sub h (Int.dvd_mul_right p (b / p))
    rwa [Int.add_sub_cancel] at this
  · intro h
    exact Int.dvd_add h (Int.dvd_mul_right ..)
theorem shB_nrm (l : Int × Int) (t : Int) : shB (nrm l) t = shB l t := decide_eq_decide.mpr (dvd_nrm l.1 l.2 t)
theorem row_nrm : ∀ (ls : List (Int × Int)) (i t : Int), rowOf (numF i (ls.map nrm)) t = rowOf (numF i ls) t
  | [], _, _ => rfl
  | l :: ls, i, t => by
    have ih := row_nrm ls (i + 1) t
    unfold rowOf at ih ⊢
    show (List.filter _ ((i, nrm l) :: numF (i + 1) (ls.map nrm))).map Prod.fst = (List.filter _ ((i, l) :: numF (i + 1) ls)).map Prod.fst
    rw [List.filter_cons, List.filter_cons]
    show (if shB (nrm l) t then _ else _ : List (Int × Int × Int)).map Prod.fst = (if shB l t then _ else _ : List (Int × Int × Int)).map Prod.fst
    rw [shB_nrm]
    cases shB l t
    · simpa using ih
    · simpa using ih
theorem lrow_nrm (ls : List (Int × Int)) (t : Int) : lrow (ls.map nrm) t = lrow ls t := row_nrm ls 0 t
theorem bright_nrm {ls : List (Int × Int)} {t : Int} : Bright (ls.map nrm) t ↔ Bright ls t := by
  have h := @lrow_nil (ls.map nrm) t
  rw [lrow_nrm, lrow_nil] at h
  constructor
  · intro h1
    by_cases h2 : Bright ls t
    · exact h2
    · exact absurd h1 (h.mp h2)
  · intro h1
    by_cases h2 : Bright (ls.map nrm) t
    · exact h2
    · exact absurd h1 (h.mpr h2)
theorem darks_nrm (ls : List (Int × Int)) (t : Int) : darks (ls.map nrm) t = darks ls t := by
  unfold darks
  rw [List.length_map]
  simp only [lrow_nrm]
theorem nextD_nrm (ls : List (Int × Int)) (t : Int) : nextD (ls.map nrm) t = nextD ls t := by
  unfold nextD
  rw [darks_nrm]
theorem firstL_nrm (ls : List (Int × Int)) (t : Int) : firstL (ls.map nrm) t = firstL ls t := by
  unfold firstL
  rw [List.length_map]
theorem lastD_nrm (ls : List (Int × Int)) (t : Int) : lastD (ls.map nrm) t = lastD ls t := by
  unfold lastD
  rw [firstL_nrm, darks_nrm]
theorem paper_nrm (ls : List (Int × Int)) (t : Int) : paper (ls.map nrm) t = paper ls t := by
  unfold paper
  rw [List.length_map]
  simp only [lrow_nrm]
theorem bright_same {ls ls' : List (Int × Int)} (h : ∀ l, l ∈ ls ↔ l ∈ ls') (t : Int) : Bright ls t ↔ Bright ls' t :=
  ⟨fun ⟨l, a, b⟩ => ⟨l, (h l).mp a, b⟩, fun ⟨l, a, b⟩ => ⟨l, (h l).mpr a, b⟩⟩
/-- the next dark beat of a light whose beats are others' -/
theorem nextD_up {ls ls' : List (Int × Int)} (c : Int) (h : ∀ x, Bright ls' (x + c) ↔ Bright ls x) (t : Int) : nextD ls' (t + c) = (nextD ls t).map (· + c) := by
  cases e : nextD ls t with
  | none =>
    rw [Option.map_none]
    refine nextD_none.mpr fun x => ?_
    have := (h (x - c)).mpr (nextD_none.mp e (x - c))
    rwa [Int.sub_add_cancel] at this
  | some d =>
    obtain ⟨g1, _, g2, g3⟩ := nextD_spec e
    refine nextD_of (by show t + c ≤ d + c; omega) (fun z => g2 ((h d).mp z)) fun x h1 h2 => ?_
    replace h2 : x < d + c := h2
    have := (h (x - c)).mpr (g3 (x - c) (by omega) (by omega))
    rwa [Int.sub_add_cancel] at this
theorem nextD_congr {ls ls' : List (Int × Int)} (h : ∀ x, Bright ls' x ↔ Bright ls x) (t : Int) : nextD ls' t = nextD ls t := by
  have := nextD_up (ls := ls) (ls' := ls') 0 (fun x => by rw [Int.add_zero]; exact h x) t
  rw [Int.add_zero] at this
  rw [this]
  cases nextD ls t <;> simp
theorem nextD_mirror {ls ls' : List (Int × Int)} (h : ∀ x, Bright ls' (0 - x) ↔ Bright ls x) (t : Int) : lastD ls' (0 - t) = (nextD ls t).map (0 - ·) := by
  cases e : nextD ls t with
  | none =>
    refine lastD_none.mpr fun x => ?_
    have := (h (0 - x)).mpr (nextD_none.mp e (0 - x))
    rwa [show 0 - (0 - x) = x by omega] at this
  | some d =>
    obtain ⟨g1, _, g2, g3⟩ := nextD_spec e
    refine lastD_of (by show 0 - d ≤ 0 - t; omega) (fun z => g2 ((h d).mp z)) fun x h1 h2 => ?_
    replace h1 : 0 - d < x := h1
    have := (h (0 - x)).mpr (g3 (0 - x) (by omega) (by omega))
    rwa [show 0 - (0 - x) = x by omega] at this
theorem lastD_mirror {ls ls' : List (Int × Int)} (h : ∀ x, Bright ls' (0 - x) ↔ Bright ls x) (t : Int) : nextD ls' (0 - t) = (lastD ls t).map (0 - ·) := by
  cases e : lastD ls t with
  | none =>
    refine nextD_none.mpr fun x => ?_
    have := (h (0 - x)).mpr (lastD_none.mp e (0 - x))
    rwa [show 0 - (0 - x) = x by omega] at this
  | some d =>
    obtain ⟨g1, _, g2, g3⟩ := lastD_spec e
    refine nextD_of (by show 0 - t ≤ 0 - d; omega) (fun z => g2 ((h d).mp z)) fun x h1 h2 => ?_
    replace h2 : x < 0 - d := h2
    have := (h (0 - x)).mpr (g3 (0 - x) (by omega) (by omega))
    rwa [show 0 - (0 - x) = x by omega] at this
def upL (c : Int) (ls : List (Int × Int)) : List (Int × Int) := ls.map fun l => (l.1, l.2 + c)
theorem bright_up (c : Int) (ls : List (Int × Int)) (x : Int) : Bright (upL c ls) (x + c) ↔ Bright ls x := by
  constructor
  · rintro ⟨l, hl, hd⟩
    obtain ⟨m, hm, rfl⟩ := List.mem_map.mp hl
    exact ⟨m, hm, by rwa [show x + c - (m.2 + c) = x - m.2 by omega] at hd⟩
  · rintro ⟨m, hm, hd⟩
    exact ⟨_, List.mem_map.mpr ⟨m, hm, rfl⟩, by show m.1 ∣ x + c - (m.2 + c); rwa [show x + c - (m.2 + c) = x - m.2 by omega]⟩
def negL (ls : List (Int × Int)) : List (Int × Int) := ls.map fun l => (l.1, 0 - l.2)
theorem bright_neg (ls : List (Int × Int)) (x : Int) : Bright (negL ls) (0 - x) ↔ Bright ls x := by
  constructor
  · rintro ⟨l, hl, hd⟩
    obtain ⟨m, hm, rfl⟩ := List.mem_map.mp hl
    exact ⟨m, hm, by rw [show (0 - x) - (0 - m.2) = -(x - m.2) by omega] at hd; exact Int.dvd_neg.mp hd⟩
  · rintro ⟨m, hm, hd⟩
    exact ⟨_, List.mem_map.mpr ⟨m, hm, rfl⟩, by show m.1 ∣ (0 - x) - (0 - m.2); rw [show (0 - x) - (0 - m.2) = -(x - m.2) by omega]; exact Int.dvd_neg.mpr hd⟩
/-- dark beats one behind another: where the search goes on -/
def goD (ls : List (Int × Int)) (t : Int) : Nat → Int
  | 0 => t
  | i + 1 => (nextD ls (goD ls t i)).getD 0 + 1
/-- the dark beat of number i -/
def dkD (ls : List (Int × Int)) (t : Int) (i : Nat) : Int := goD ls t (i + 1) - 1
theorem dk_next {ls : List (Int × Int)} {t : Int} (h : ∃ x, ¬ Bright ls x) (i : Nat) : nextD ls (goD ls t i) = some (dkD ls t i) := by
  cases e : nextD ls (goD ls t i) with
  | none => obtain ⟨x, hx⟩ := h; exact absurd (nextD_none.mp e x) hx
  | some d =>
    unfold dkD goD
    rw [e]
    show some d = some (d + 1 - 1)
    rw [Int.add_sub_cancel]
theorem goD_congr {ls ls' : List (Int × Int)} (h : ∀ x, Bright ls' x ↔ Bright ls x) (t : Int) : ∀ i, goD ls' t i = goD ls t i
  | 0 => rfl
  | i + 1 => by
    unfold goD
    rw [goD_congr h t i, nextD_congr h]
theorem goD_up {ls ls' : List (Int × Int)} {c : Int} (h : ∀ x, Bright ls' (x + c) ↔ Bright ls x) (hd : ∃ x, ¬ Bright ls x) (t : Int) : ∀ i, goD ls' (t + c) i = goD ls t i + c
  | 0 => rfl
  | i + 1 => by
    have e := dk_next hd (t := t) i
    show (nextD ls' (goD ls' (t + c) i)).getD 0 + 1 = (nextD ls (goD ls t i)).getD 0 + 1 + c
    rw [goD_up h hd t i, nextD_up c h, e]
    show dkD ls t i + c + 1 = dkD ls t i + 1 + c
    omega
theorem dk_last {ls : List (Int × Int)} {t : Int} (h : ∃ x, ¬ Bright ls x) (i : Nat) : lastD ls (dkD ls t (i + 1) - 1) = some (dkD ls t i) := by
  obtain ⟨g1, _, g2, g3⟩ := nextD_spec (dk_next h (t := t) i)
  obtain ⟨k1, _, k2, k3⟩ := nextD_spec (dk_next h (t := t) (i + 1))
  have e : goD ls t (i + 1) = dkD ls t i + 1 := by unfold dkD; omega
  refine lastD_of (by omega) g2 fun x h1 h2 => k3 x (by omega) (by omega)

/-! ### lamps moved and stretched -/
def mvL (c : Int) (ls : List (Int × Int)) : List (Int × Int) := ls.map fun l => (l.1, (l.2 + c) % l.1)
def stL (c : Int) (ls : List (Int × Int)) : List (Int × Int) := ls.map fun l => (l.1 * c, l.2 * c)
def Kept (ls : List (Int × Int)) : Prop := ∀ l ∈ ls, 0 ≤ l.2 ∧ l.2 < l.1
theorem bright_mv {c : Int} {ls : List (Int × Int)} {x : Int} : Bright (mvL c ls) (x + c) ↔ Bright ls x := by
  unfold Bright mvL
  constructor
  · rintro ⟨l, hl, hd⟩
    obtain ⟨k, hk, rfl⟩ := List.mem_map.mp hl
    refine ⟨k, hk, ?_⟩
    have := (dvd_nrm k.1 (k.2 + c) (x + c)).mp hd
    rwa [show x + c - (k.2 + c) = x - k.2 by omega] at this
  · rintro ⟨k, hk, hd⟩
    refine ⟨_, List.mem_map.mpr ⟨k, hk, rfl⟩, (dvd_nrm k.1 (k.2 + c) (x + c)).mpr ?_⟩
    rwa [show x + c - (k.2 + c) = x - k.2 by omega]
theorem bright_st {c : Int} (hc : 0 < c) {ls : List (Int × Int)} {x : Int} : Bright (stL c ls) (x * c) ↔ Bright ls x := by
  have key : ∀ k : Int × Int, k.1 * c ∣ x * c - k.2 * c ↔ k.1 ∣ x - k.2 := fun k => by
    rw [← Int.sub_mul]
    exact Int.mul_dvd_mul_iff_right (by omega)
  unfold Bright stL
  constructor
  · rintro ⟨l, hl, hd⟩
    obtain ⟨k, hk, rfl⟩ := List.mem_map.mp hl
    exact ⟨k, hk, (key k).mp hd⟩
  · rintro ⟨k, hk, hd⟩
    exact ⟨_, List.mem_map.mpr ⟨k, hk, rfl⟩, (key k).mpr hd⟩
theorem dark_st {c r : Int} (hr : 0 < r) (hc : r < c) {ls : List (Int × Int)} {x : Int} : ¬ Bright (stL c ls) (x * c + r) := by
  rintro ⟨l, hl, hd⟩
  obtain ⟨k, hk, rfl⟩ := List.mem_map.mp hl
  have h1 : c ∣ x * c + r - k.2 * c := Int.dvd_trans ⟨k.1, Int.mul_comm _ _⟩ hd
  have h2 : c ∣ r := by
    have h3 : c ∣ (x - k.2) * c := ⟨x - k.2, Int.mul_comm _ _⟩
    have h4 := Int.dvd_sub h1 h3
    rwa [show x * c + r - k.2 * c - (x - k.2) * c = r by rw [Int.sub_mul]; omega] at h4
  have := Int.le_of_dvd hr h2
  omega
theorem mv_zero {ls : List (Int × Int)} (h : Kept ls) : mvL 0 ls = ls := by
  have e : mvL 0 ls = ls.map id := List.map_congr_left fun l hl => by
    obtain ⟨h0, h1⟩ := h l hl
    show (l.1, (l.2 + 0) % l.1) = l
    rw [Int.add_zero, Int.emod_eq_of_lt h0 h1]
  rw [e, List.map_id]
theorem st_one (ls : List (Int × Int)) : stL 1 ls = ls := by
  have e : stL 1 ls = ls.map id := List.map_congr_left fun l hl => by
    show (l.1 * 1, l.2 * 1) = l
    rw [Int.mul_one, Int.mul_one]
  rw [e, List.map_id]
theorem mv_mv (a b : Int) (ls : List (Int × Int)) : mvL b (mvL a ls) = mvL (a + b) ls := by
  unfold mvL
  rw [List.map_map]
  refine List.map_congr_left fun l hl => ?_
  show (l.1, ((l.2 + a) % l.1 + b) % l.1) = (l.1, (l.2 + (a + b)) % l.1)
  rw [Int.emod_add_emod, Int.add_assoc]
theorem st_st (a b : Int) (ls : List (Int × Int)) : stL b (stL a ls) = stL (a * b) ls := by
  unfold stL
  rw [List.map_map]
  refine List.map_congr_left fun l hl => ?_
  show (l.1 * a * b, l.2 * a * b) = (l.1 * (a * b), l.2 * (a * b))
  rw [Int.mul_assoc, Int.mul_assoc]
theorem st_mv {n c : Int} (hc : 0 < c) (ls : List (Int × Int)) : stL c (mvL n ls) = mvL (n * c) (stL c ls) := by
  unfold stL mvL
  rw [List.map_map, List.map_map]
  refine List.map_congr_left fun l hl => ?_
  show (l.1 * c, (l.2 + n) % l.1 * c) = (l.1 * c, (l.2 * c + n * c) % (l.1 * c))
  have e : (l.2 * c + n * c) % (l.1 * c) = (l.2 + n) % l.1 * c := by
    rw [← Int.add_mul, Int.mul_comm (l.2 + n) c, Int.mul_comm l.1 c, Int.mul_emod_mul_of_pos _ _ hc, Int.mul_comm]
  rw [e]
theorem mv_len (c : Int) (ls : List (Int × Int)) : (mvL c ls).length = ls.length := List.length_map ..
theorem st_len (c : Int) (ls : List (Int × Int)) : (stL c ls).length = ls.length := List.length_map ..

/-! ### seen from a lamp's own beats -/
theorem sees_ex {l x : Int × Int} (hl : 0 < l.1) (hx : 0 < x.1) : ∃ o, SeesO l (some x) o := by
  by_cases hg : (Int.gcd l.1 x.1 : Int) ∣ x.2 - l.2
  · have g0 := gcd_pos (a := l.1) (b := x.1) hl
    have gd : (Int.gcd l.1 x.1 : Int) ∣ x.1 := Int.gcd_dvd_right ..
    obtain ⟨v, hv⟩ := inv_ex (m := x.1 / (Int.gcd l.1 x.1 : Int)) (a := l.1 / (Int.gcd l.1 x.1 : Int)) (Int.ediv_pos_of_pos_of_dvd hx (by omega) gd) (gcd_cop hl)
    have S := seen_is hl hx hg hv
    exact ⟨some (_, _), fun q e => by cases e; exact ⟨S.q0, S.r0, S.rq⟩, S.iff⟩
  · refine ⟨none, fun _ h => (nomatch h), fun t => ⟨fun h => h.elim, fun h => ?_⟩⟩
    refine seen_none hg (l.2 + t * l.1) ?_ h
    exact ⟨t, by rw [Int.mul_comm]; omega⟩
theorem thin_ex {l : Int × Int} (hl : 0 < l.1) : ∀ {ls : List (Int × Int)}, (∀ x ∈ ls, 0 < x.1) → ∃ ms : List (Int × Int), ms.length ≤ ls.length ∧ ∀ t, Bright ms t ↔ Bright ls (l.2 + t * l.1)
  | [], _ => ⟨[], Nat.le_refl _, fun t => ⟨fun ⟨_, h, _⟩ => (nomatch h), fun ⟨_, h, _⟩ => (nomatch h)⟩⟩
  | x :: ls, h => by
    obtain ⟨ms, h1, h2⟩ := thin_ex hl (ls := ls) fun y hy => h y (.tail _ hy)
    obtain ⟨o, ok, ho⟩ := sees_ex (x := x) hl (h x (.head _))
    cases o with
    | none =>
      refine ⟨ms, Nat.le_succ_of_le h1, fun t => (h2 t).trans ⟨fun ⟨y, hy, hd⟩ => ⟨y, .tail _ hy, hd⟩, fun ⟨y, hy, hd⟩ => ?_⟩⟩
      rcases List.mem_cons.mp hy with rfl | hy
      · exact ((ho t).mpr hd).elim
      · exact ⟨y, hy, hd⟩
    | some q =>
      refine ⟨q :: ms, Nat.succ_le_succ h1, fun t => ⟨fun ⟨y, hy, hd⟩ => ?_, fun ⟨y, hy, hd⟩ => ?_⟩⟩
      · rcases List.mem_cons.mp hy with rfl | hy
        · exact ⟨x, .head _, (ho t).mp hd⟩
        · obtain ⟨z, hz, hd2⟩ := (h2 t).mp ⟨y, hy, hd⟩
          exact ⟨z, .tail _ hz, hd2⟩
      · rcases List.mem_cons.mp hy with rfl | hy
        · exact ⟨q, .head _, (ho t).mpr hd⟩
        · obtain ⟨z, hz, hd2⟩ := (h2 t).mpr ⟨y, hy, hd⟩
          exact ⟨z, .tail _ hz, hd2⟩
theorem thin_wait {l : Int × Int} {ls : List (Int × Int)} (hl : 0 < l.1) (h : ∀ x ∈ ls, 0 < x.1) (n0 : Int) (hb : ∀ i : Nat, i < 2 ^ ls.length → Bright ls (l.2 + (n0 + i) * l.1)) (t : Int) : Bright ls (l.2 + t * l.1) := by
  obtain ⟨ms, h1, h2⟩ := thin_ex hl h
  refine (h2 t).mp (wait_all ms n0 (fun i hi => (h2 _).mpr (hb i (Nat.lt_of_lt_of_le hi (Nat.pow_le_pow_right (by decide) h1)))) t)
/-- the number of a lamp's first own beat from a beat on -/
def fstN (l : Int × Int) (t : Int) : Int := (t + (l.2 - t) % l.1 - l.2) / l.1
theorem fst_at {l : Int × Int} (hl : 0 < l.1) (t : Int) : l.2 + fstN l t * l.1 = t + (l.2 - t) % l.1 := by
  have d : l.1 ∣ t + (l.2 - t) % l.1 - l.2 := by
    have := Int.emod_add_mul_ediv (l.2 - t) l.1
    exact ⟨-((l.2 - t) / l.1), by rw [Int.mul_neg]; omega⟩
  have := Int.ediv_mul_cancel d
  unfold fstN
  omega
theorem fst_ge {l : Int × Int} (hl : 0 < l.1) (t : Int) : t ≤ l.2 + fstN l t * l.1 := by
  rw [fst_at hl]
  have := Int.emod_nonneg (l.2 - t) (show l.1 ≠ 0 by omega)
  omega
theorem fst_le {l : Int × Int} (hl : 0 < l.1) {t x : Int} (h : t ≤ x) (hx : l.1 ∣ x - l.2) : ∃ n, fstN l t ≤ n ∧ x = l.2 + n * l.1 := by
  obtain ⟨n, hn⟩ := hx
  refine ⟨n, ?_, by rw [Int.mul_comm]; omega⟩
  have h1 := fst_at hl t
  have h2 := Int.emod_lt_of_pos (l.2 - t) hl
  by_cases hh : fstN l t ≤ n
  · exact hh
  · have h3 : (n + 1) * l.1 ≤ fstN l t * l.1 := Int.mul_le_mul_of_nonneg_right (by omega) (by omega)
    rw [Int.add_mul, Int.one_mul, Int.mul_comm n] at h3
    omega
/-- the first own beat of a lamp from a beat on that is dark by other lamps -/
def OutIs (l : Int × Int) (ls : List (Int × Int)) (t : Int) : Option Int → Prop
  | some b => t ≤ b ∧ l.1 ∣ b - l.2 ∧ ¬ Bright ls b ∧ ∀ x, t ≤ x → l.1 ∣ x - l.2 → ¬ Bright ls x → b ≤ x
  | none => ∀ n : Int, Bright ls (l.2 + n * l.1)
/-- places, of some from a number on, at which a lamp's own beats are dark by other lamps -/
def outsL (l : Int × Int) (ls : List (Int × Int)) (n0 : Int) : List Nat := (List.range (2 ^ ls.length)).filter fun j => decide (lrow ls (l.2 + (n0 + (j : Nat)) * l.1) = [])
theorem outs_mem {l : Int × Int} {ls : List (Int × Int)} {n0 : Int} {j : Nat} : j ∈ outsL l ls n0 ↔ j < 2 ^ ls.length ∧ ¬ Bright ls (l.2 + (n0 + j) * l.1) := by
  unfold outsL
  rw [List.mem_filter, List.mem_range, decide_eq_true_iff, lrow_nil]
theorem outs_none {l : Int × Int} {ls : List (Int × Int)} {n0 : Int} (hl : 0 < l.1) (h : ∀ x ∈ ls, 0 < x.1) (e : outsL l ls n0 = []) (n : Int) : Bright ls (l.2 + n * l.1) := by
  refine thin_wait hl h n0 (fun i hi => ?_) n
  by_cases hb : Bright ls (l.2 + (n0 + i) * l.1)
  · exact hb
  · have := outs_mem.mpr ⟨hi, hb⟩
    rw [e] at this
    cases this
theorem outs_head {l : Int × Int} {ls : List (Int × Int)} {t : Int} {j : Nat} (hl : 0 < l.1) (e : (outsL l ls (fstN l t)).head? = some j) : OutIs l ls t (some (l.2 + (fstN l t + j) * l.1)) := by
  have hm := outs_mem.mp (List.mem_of_mem_head? (by rw [e]; rfl))
  have hg := fst_ge hl t
  have hj : 0 ≤ (j : Int) * l.1 := Int.mul_nonneg (by omega) (by omega)
  refine ⟨by rw [Int.add_mul]; omega, ⟨fstN l t + j, by rw [Int.mul_comm]; omega⟩, hm.2, fun x hx hd hb => ?_⟩
  obtain ⟨n, h1, rfl⟩ := fst_le hl hx hd
  have key : fstN l t + j ≤ n := by
    by_cases hn : n < fstN l t + (2 ^ ls.length : Nat)
    · obtain ⟨i, hi⟩ : ∃ i : Nat, n = fstN l t + i := ⟨(n - fstN l t).toNat, by omega⟩
      subst hi
      have mi := outs_mem.mpr ⟨by omega, hb⟩
      rcases pairwise_head (R := (· < ·)) (List.Pairwise.filter _ List.pairwise_lt_range) e mi with rfl | hlt
      · omega
      · omega
    · have := hm.1
      omega
  have := Int.mul_le_mul_of_nonneg_right key (show 0 ≤ l.1 by omega)
  omega
/-- first beats from a beat on, bright by some lamps, dark by others: enough of them to know the first -/
structure OutsIs (bs : List Int) (ls1 ls2 : List (Int × Int)) (t : Int) : Prop where
  no : bs = [] → ∀ x, Bright ls1 x → Bright ls2 x
  at_ : ∀ b ∈ bs, t ≤ b ∧ Bright ls1 b ∧ ¬ Bright ls2 b
  le : ∀ x, t ≤ x → Bright ls1 x → ¬ Bright ls2 x → ∃ b ∈ bs, b ≤ x
theorem OutsIs.nil {ls2 : List (Int × Int)} {t : Int} : OutsIs [] [] ls2 t :=
  ⟨fun _ _ ⟨_, h, _⟩ => (nomatch h), fun _ h => (nomatch h), fun _ _ ⟨_, h, _⟩ => (nomatch h)⟩
theorem bright_snoc {ls : List (Int × Int)} {l : Int × Int} {x : Int} : Bright (ls ++ [l]) x ↔ Bright ls x ∨ l.1 ∣ x - l.2 := by
  constructor
  · rintro ⟨k, hk, hd⟩
    rcases List.mem_append.mp hk with h | h
    · exact .inl ⟨k, h, hd⟩
    · rw [List.mem_singleton.mp h] at hd
      exact .inr hd
  · rintro (⟨k, hk, hd⟩ | hd)
    · exact ⟨k, List.mem_append_left _ hk, hd⟩
    · exact ⟨l, List.mem_append_right _ (List.mem_singleton.mpr rfl), hd⟩
theorem OutsIs.more {bs : List Int} {ls1 ls2 : List (Int × Int)} {t : Int} {l : Int × Int} {o : Option Int} (h : OutsIs bs ls1 ls2 t) (hl : 0 < l.1) (ho : OutIs l ls2 t o) : OutsIs (bs ++ o.toList) (ls1 ++ [l]) ls2 t := by
  cases o with
  | none =>
    have all : ∀ x, l.1 ∣ x - l.2 → Bright ls2 x := fun x ⟨n, hn⟩ => by
      have := ho n
      rwa [show l.2 + n * l.1 = x by rw [Int.mul_comm]; omega] at this
    rw [show bs ++ (none : Option Int).toList = bs from List.append_nil bs]
    refine ⟨fun e x hx => ?_, fun b hb => ?_, fun x hx hb hd => ?_⟩
    · rcases bright_snoc.mp hx with h1 | h1
      · exact h.no e x h1
      · exact all x h1
    · obtain ⟨a1, a2, a3⟩ := h.at_ b hb
      exact ⟨a1, bright_snoc.mpr (.inl a2), a3⟩
    · rcases bright_snoc.mp hb with h1 | h1
      · exact h.le x hx h1 hd
      · exact absurd (all x h1) hd
  | some c =>
    obtain ⟨c1, c2, c3, c4⟩ := ho
    show OutsIs (bs ++ [c]) _ _ _
    refine ⟨fun e => by simp at e, fun b hb => ?_, fun x hx hb hd => ?_⟩
    · rcases List.mem_append.mp hb with h1 | h1
      · obtain ⟨a1, a2, a3⟩ := h.at_ b h1
        exact ⟨a1, bright_snoc.mpr (.inl a2), a3⟩
      · rw [List.mem_singleton.mp h1]
        exact ⟨c1, bright_snoc.mpr (.inr c2), c3⟩
    · rcases bright_snoc.mp hb with h1 | h1
      · obtain ⟨b, hb2, hle⟩ := h.le x hx h1 hd
        exact ⟨b, List.mem_append_left _ hb2, hle⟩
      · exact ⟨c, List.mem_append_right _ (List.mem_singleton.mpr rfl), c4 x hx h1 hd⟩

/-! ### a light seen from a lamp's own beats -/
def SeenOs (l : Int × Int) (ls : List (Int × Int)) (os : List OLp) : Prop := os.length = ls.length ∧ ∀ (i : Nat) x o, ls[i]? = some x → os[i]? = some o → SeesO l (some x) o
theorem SeenOs.cons {l x : Int × Int} {ls : List (Int × Int)} {o : OLp} {os : List OLp} (h : SeenOs l (x :: ls) (o :: os)) : SeesO l (some x) o ∧ SeenOs l ls os :=
  ⟨h.2 0 x o rfl rfl, by have := h.1; simpa using this, fun i y p e1 e2 => h.2 (i + 1) y p e1 e2⟩
theorem SeenOs.bright {l : Int × Int} : ∀ {ls : List (Int × Int)} {os : List OLp}, SeenOs l ls os → ∀ t, Bright (os.filterMap id) t ↔ Bright ls (l.2 + t * l.1)
  | [], [], _, t => ⟨fun ⟨_, h, _⟩ => (nomatch h), fun ⟨_, h, _⟩ => (nomatch h)⟩
  | [], _ :: _, h, _ => by have := h.1; simp at this
  | _ :: _, [], h, _ => by have := h.1; simp at this
  | x :: ls, o :: os, h, t => by
    obtain ⟨h1, h2⟩ := h.cons
    have ih := h2.bright t
    cases o with
    | none =>
      rw [show List.filterMap id (none :: os) = os.filterMap id from rfl]
      refine ih.trans ⟨fun ⟨y, hy, hd⟩ => ⟨y, .tail _ hy, hd⟩, fun ⟨y, hy, hd⟩ => ?_⟩
      rcases List.mem_cons.mp hy with rfl | hy
      · exact ((h1.2 t).mpr hd).elim
      · exact ⟨y, hy, hd⟩
    | some q =>
      rw [show List.filterMap id (some q :: os) = q :: os.filterMap id from rfl]
      refine ⟨fun ⟨y, hy, hd⟩ => ?_, fun ⟨y, hy, hd⟩ => ?_⟩
      · rcases List.mem_cons.mp hy with rfl | hy
        · exact ⟨x, .head _, (h1.2 t).mp hd⟩
        · obtain ⟨z, hz, hd2⟩ := ih.mp ⟨y, hy, hd⟩
          exact ⟨z, .tail _ hz, hd2⟩
      · rcases List.mem_cons.mp hy with rfl | hy
        · exact ⟨q, .head _, (h1.2 t).mpr hd⟩
        · obtain ⟨z, hz, hd2⟩ := ih.mpr ⟨y, hy, hd⟩
          exact ⟨z, .tail _ hz, hd2⟩
theorem SeenOs.len {l : Int × Int} {ls : List (Int × Int)} {os : List OLp} (h : SeenOs l ls os) : (os.filterMap id).length ≤ ls.length := by
  rw [← h.1]
  exact List.length_filterMap_le _ _
/-- a light's part at each so many beats, from a beat on -/
theorem bright_part {m f x : Int} (hm : 0 < m) (f0 : 0 ≤ f) (f1 : f < m) {ls ts : List (Int × Int)} (h : ∀ t, Bright ts t ↔ Bright ls (f + t * m)) : Bright (mvL f (stL m ts)) x ↔ x % m = f ∧ Bright ls x := by
  have e1 : x = (x - f) + f := by omega
  have e2 := Int.emod_add_mul_ediv (x - f) m
  have r0 := Int.emod_nonneg (x - f) (show m ≠ 0 by omega)
  have r1 := Int.emod_lt_of_pos (x - f) hm
  rw [Int.mul_comm] at e2
  have step : Bright (mvL f (stL m ts)) x ↔ Bright (stL m ts) (x - f) := by
    conv => lhs; rw [e1]
    exact bright_mv
  rw [step]
  by_cases hr : (x - f) % m = 0
  · have ex : x - f = (x - f) / m * m := by omega
    rw [ex, bright_st hm, h, ← ex]
    have hx : x % m = f := by
      have : x = f + m * ((x - f) / m) := by rw [Int.mul_comm]; omega
      rw [this, Int.add_mul_emod_self_left, Int.emod_eq_of_lt f0 f1]
    rw [show f + (x - f) = x by omega]
    exact ⟨fun z => ⟨hx, z⟩, fun z => z.2⟩
  · have ex : x - f = (x - f) / m * m + (x - f) % m := by omega
    constructor
    · intro hb
      rw [ex] at hb
      exact absurd hb (dark_st (by omega) r1)
    · rintro ⟨hx, _⟩
      have : (x - f) % m = 0 := by
        have h3 : x - f = m * (x / m) := by
          have := Int.emod_add_mul_ediv x m
          omega
        rw [h3, Int.mul_emod_right]
      exact absurd this hr
theorem bright_app2 {ls ms : List (Int × Int)} {x : Int} : Bright (ls ++ ms) x ↔ Bright ls x ∨ Bright ms x := by
  constructor
  · rintro ⟨l, hl, hd⟩
    rcases List.mem_append.mp hl with h | h
    · exact .inl ⟨l, h, hd⟩
    · exact .inr ⟨l, h, hd⟩
  · rintro (⟨l, hl, hd⟩ | ⟨l, hl, hd⟩)
    · exact ⟨l, List.mem_append_left _ hl, hd⟩
    · exact ⟨l, List.mem_append_right _ hl, hd⟩
theorem snoc_at {α : Type} {xs : List α} {x y : α} {i : Nat} (e : (xs ++ [x])[i]? = some y) : (i < xs.length ∧ xs[i]? = some y) ∨ (i = xs.length ∧ y = x) := by
  by_cases hi : i < xs.length
  · rw [List.getElem?_append_left hi] at e
    exact .inl ⟨hi, e⟩
  · rw [List.getElem?_append_right (by omega)] at e
    have e0 : i - xs.length = 0 := by
      by_cases z : i - xs.length = 0
      · exact z
      · rw [List.getElem?_eq_none (by simp; omega)] at e; cases e
    rw [e0] at e
    cases e
    exact .inr ⟨by omega, rfl⟩

/-! ### each second item -/
def evry {α : Type} : List α → List α
  | [] => []
  | [a] => [a]
  | a :: _ :: r => a :: evry r
theorem evry_map {α β : Type} (f : α → β) : ∀ xs : List α, evry (xs.map f) = (evry xs).map f
  | [] => rfl
  | [a] => rfl
  | a :: _ :: r => congrArg (f a :: ·) (evry_map f r)
theorem evry_len {α : Type} : ∀ xs : List α, (evry xs).length ≤ xs.length
  | [] => Nat.le_refl _
  | [a] => Nat.le_refl _
  | a :: _ :: r => by
    have := evry_len r
    show (evry r).length + 1 ≤ r.length + 1 + 1
    omega
theorem fm_congr {α β : Type} {f g : α → Option β} : ∀ {l : List α}, (∀ x ∈ l, f x = g x) → l.filterMap f = l.filterMap g
  | [], _ => rfl
  | a :: r, h => by
    rw [List.filterMap_cons, List.filterMap_cons, h a (.head _), fm_congr (l := r) fun x hx => h x (.tail _ hx)]
theorem evry_pick {α : Type} : ∀ xs : List α, ((List.range ((xs.length + 1) / 2)).map (2 * ·)).filterMap (xs[·]?) = evry xs
  | [] => by simp [evry]
  | [a] => by simp [evry, List.range_succ]
  | a :: b :: r => by
    have ih := evry_pick r
    have e1 : ((a :: b :: r).length + 1) / 2 = (r.length + 1) / 2 + 1 := by
      show (r.length + 1 + 1 + 1) / 2 = _
      omega
    rw [e1, List.range_succ_eq_map, List.map_cons, List.filterMap_cons]
    show a :: _ = a :: evry r
    congr 1
    rw [← ih, List.map_map, List.filterMap_map, List.filterMap_map]
    refine fm_congr fun x _ => ?_
    show (a :: b :: r)[2 * (x + 1)]? = r[2 * x]?
    rw [show 2 * (x + 1) = 2 * x + 1 + 1 by omega]
    rfl
section
variable {X : Cx}
def tEvry (K : PySem.W.Frag) (te : TE) : TE := fun σ H Q => te σ H fun x H1 => ∃ a xs, x = .ref a ∧ SqL K H1 a xs ∧ ∀ p, H1 p = none → Q (.ref p) (upd H1 p (.lst (evry xs)))
def tEvry1 (K : PySem.W.Frag) (te : TE) : TE := fun σ H Q => te σ H fun x H1 => ∃ a xs, x = .ref a ∧ SqL K H1 a xs ∧ ∀ p, H1 p = none → Q (.ref p) (upd H1 p (.lst (evry (xs.drop 1))))
theorem pick2 (items : Array Value) : slicePick items none none (some 2) = (evry items.toList).toArray := by
  unfold slicePick
  have e0 : sliceBounds none none (some 2) items.size = ((0 : Int), (items.size : Int), 2) := by
    first
    | rfl
    | simp [sliceBounds]
  rw [e0]
  show ((sliceRange 0 (items.size : Int) 2).filterMap (items[·]?)).toArray = _
  have e1 : sliceRange 0 (items.size : Int) 2 = (List.range ((items.toList.length + 1) / 2)).map (2 * ·) := by
    unfold sliceRange
    have h1 : ((2 : Int) > 0) := by decide
    simp only [h1, if_true]
    by_cases h : (items.size : Int) > 0
    · rw [if_pos (by omega)]
      rw [show (((items.size : Int) - 0 + 2 - 1) / 2).toNat = (items.toList.length + 1) / 2 by rw [Array.length_toList]; omega]
      refine List.map_congr_left fun k _ => ?_
      omega
    · rw [if_neg (by omega)]
      have : items.toList.length = 0 := by rw [Array.length_toList]; omega
      rw [this]
      rfl
  rw [e1]
  have := evry_pick items.toList
  simp only [Array.getElem?_toList] at this
  rw [this]
theorem pick21 (items : Array Value) : slicePick items (some 1) none (some 2) = (evry (items.toList.drop 1)).toArray := by
  unfold slicePick
  by_cases h0 : items.size = 0
  · have e0 : (sliceBounds (some 1) none (some 2) items.size) = ((0 : Int), (0 : Int), 2) := by
      rw [h0]
      first
      | rfl
      | simp [sliceBounds]
    rw [e0]
    have : items.toList = [] := by
      have := Array.length_toList (xs := items)
      exact List.length_eq_zero_iff.mp (by omega)
    rw [this]
    rfl
  have e0 : sliceBounds (some 1) none (some 2) items.size = ((1 : Int), (items.size : Int), 2) := by
    unfold sliceBounds
    simp
    omega
  rw [e0]
  show ((sliceRange 1 (items.size : Int) 2).filterMap (items[·]?)).toArray = _
  have e1 : sliceRange 1 (items.size : Int) 2 = ((List.range (((items.toList.drop 1).length + 1) / 2)).map (2 * ·)).map (· + 1) := by
    unfold sliceRange
    have h1 : ((2 : Int) > 0) := by decide
    simp only [h1, if_true]
    rw [List.length_drop, Array.length_toList]
    by_cases h : (items.size : Int) > 1
    · rw [if_pos (by omega)]
      rw [show (((items.size : Int) - 1 + 2 - 1) / 2).toNat = (items.size - 1 + 1) / 2 by omega, List.map_map]
      refine List.map_congr_left fun k _ => ?_
      show _ = 2 * k + 1
      omega
    · rw [if_neg (by omega), show items.size = 1 by omega]
      rfl
  rw [e1, List.filterMap_map]
  have := evry_pick (items.toList.drop 1)
  rw [← this]
  congr 1
  refine fm_congr fun k _ => ?_
  show items[k + 1]? = (items.toList.drop 1)[k]?
  rw [List.getElem?_drop, Array.getElem?_toList, Nat.add_comm]
open PySem.Spec PyProof.Rows in
theorem pe_evry {e : Expr} {te : TE} {k : Nat} {p1 p3 pos : Pos} (he : PE X e te) : PE X (.Subscript e (.Slice none none (some (.Constant (.int 2) k p1)) p3) pos) (tEvry X.K te) := by
  refine ⟨fun pins s σ H Q I h => ?_⟩
  refine Subscript_ (thn (he.run pins s σ H _ I h) fun v s1 ⟨x, H1, I1, r1, q1⟩ => ?_)
  obtain ⟨a, xs, ex, hx, q⟩ := q1
  subst ex
  cases r1
  have hst : PO X (some (.Constant (.int 2) k p1)) (tPart (tC (.int 2))) := po_some pe_int
  refine wpAny_Slice (thn (po_none.run pins s1 σ H1 (fun o H2 => o = none ∧ H2 = H1) I1 ⟨rfl, rfl⟩) fun vl s2 ⟨l, H2, I2, pl, el, e2⟩ => ?_)
  subst el e2
  refine thn (po_none.run pins s2 σ H2 (fun o H3 => o = none ∧ H3 = H2) I2 ⟨rfl, rfl⟩) fun vu s3 ⟨u, H3, I3, pu, eu, e3⟩ => ?_
  subst eu e3
  refine thn (hst.run pins s3 σ H3 (fun o H4 => o = some 2 ∧ H4 = H3) I3 ⟨2, rfl, rfl, rfl⟩) fun vs s4 ⟨o, H4, I4, ps, eo, e4⟩ => ?_
  subst eo e4
  have I5 : Inv X pins σ H4 { s4 with heap := s4.heap.push { cls := .type "slice", data := .fields #[vl, vu, vs] } } := I4.kept (t' := s4.toks) fun b ob q => Heap.get?_push_of_some _ q
  obtain ⟨its, r, ht, hz⟩ := I5.list hx
  have hlen := r.length
  show wpAny (model X.prog X.w) X.A (subscriptTail e (.Slice none none (some (.Constant (.int 2) k p1)) p3) (.ref a) (.ref s4.heap.objs.size)) (EP X pins σ Q) X.xe { s4 with heap := s4.heap.push { cls := .type "slice", data := .fields #[vl, vu, vs] } }
  refine tail_any (ops := [.ref a, .ref s4.heap.objs.size]) ht.isList.typeIs (PySem.slot_list_getitem.lookup) ?_ (by with_unfolding_all rfl)
  refine wpAny_getItem_list_slice ht.isList (Heap.IsSliceOf.new _ vl vu vs) pl pu ps (by decide) ?_ (by rw [List.size_toArray]; omega)
  rw [pick2]
  refine ⟨.ref _, _, I5.laid (t' := s4.toks) (o := .lst (evry xs)) (fun b ob q => Heap.get?_push_of_some _ q) (Nat.le_refl _) ?_, rfl, q _ (I5.hok.fresh (Nat.le_refl _))⟩
  have rr : Vals (evry xs) (evry its) := by
    clear hx ht hz hlen q
    revert its
    suffices h : ∀ (xs : List V) (its : List Value), Vals xs its → Vals (evry xs) (evry its) from fun its r => h xs its r
    intro xs
    induction xs using evry.induct with
    | case1 => intro its r; cases r; exact .nil
    | case2 a => intro its r; cases r with | cons r1 r2 => cases r2; exact .cons r1 .nil
    | case3 a b r ih => intro its rr; cases rr with | cons r1 r2 => cases r2 with | cons r3 r4 => exact .cons r1 (ih _ r4)
  exact ⟨Nat.le_trans (evry_len xs) hz, _, 0, rr, Heap.get?_push_size _ rfl⟩
open PySem.Spec PyProof.Rows in
theorem pe_evry1 {e : Expr} {te : TE} {k k2 : Nat} {p1 p2 p3 pos : Pos} (he : PE X e te) : PE X (.Subscript e (.Slice (some (.Constant (.int 1) k2 p2)) none (some (.Constant (.int 2) k p1)) p3) pos) (tEvry1 X.K te) := by
  refine ⟨fun pins s σ H Q I h => ?_⟩
  refine Subscript_ (thn (he.run pins s σ H _ I h) fun v s1 ⟨x, H1, I1, r1, q1⟩ => ?_)
  obtain ⟨a, xs, ex, hx, q⟩ := q1
  subst ex
  cases r1
  have hst : PO X (some (.Constant (.int 2) k p1)) (tPart (tC (.int 2))) := po_some pe_int
  have hlo : PO X (some (.Constant (.int 1) k2 p2)) (tPart (tC (.int 1))) := po_some pe_int
  refine wpAny_Slice (thn (hlo.run pins s1 σ H1 (fun o H2 => o = some 1 ∧ H2 = H1) I1 ⟨1, rfl, rfl, rfl⟩) fun vl s2 ⟨l, H2, I2, pl, el, e2⟩ => ?_)
  subst el e2
  refine thn (po_none.run pins s2 σ H2 (fun o H3 => o = none ∧ H3 = H2) I2 ⟨rfl, rfl⟩) fun vu s3 ⟨u, H3, I3, pu, eu, e3⟩ => ?_
  subst eu e3
  refine thn (hst.run pins s3 σ H3 (fun o H4 => o = some 2 ∧ H4 = H3) I3 ⟨2, rfl, rfl, rfl⟩) fun vs s4 ⟨o, H4, I4, ps, eo, e4⟩ => ?_
  subst eo e4
  have I5 : Inv X pins σ H4 { s4 with heap := s4.heap.push { cls := .type "slice", data := .fields #[vl, vu, vs] } } := I4.kept (t' := s4.toks) fun b ob q => Heap.get?_push_of_some _ q
  obtain ⟨its, r, ht, hz⟩ := I5.list hx
  have hlen := r.length
  show wpAny (model X.prog X.w) X.A (subscriptTail e (.Slice (some (.Constant (.int 1) k2 p2)) none (some (.Constant (.int 2) k p1)) p3) (.ref a) (.ref s4.heap.objs.size)) (EP X pins σ Q) X.xe { s4 with heap := s4.heap.push { cls := .type "slice", data := .fields #[vl, vu, vs] } }
  refine tail_any (ops := [.ref a, .ref s4.heap.objs.size]) ht.isList.typeIs (PySem.slot_list_getitem.lookup) ?_ (by with_unfolding_all rfl)
  refine wpAny_getItem_list_slice ht.isList (Heap.IsSliceOf.new _ vl vu vs) pl pu ps (by decide) ?_ (by rw [List.size_toArray]; omega)
  rw [pick21]
  refine ⟨.ref _, _, I5.laid (t' := s4.toks) (o := .lst (evry (xs.drop 1))) (fun b ob q => Heap.get?_push_of_some _ q) (Nat.le_refl _) ?_, rfl, q _ (I5.hok.fresh (Nat.le_refl _))⟩
  have rr : Vals (evry (xs.drop 1)) (evry (its.drop 1)) := by
    have r1 : Vals (xs.drop 1) (its.drop 1) := by
      cases r with
      | nil => exact .nil
      | cons _ r2 => exact r2
    revert r1
    generalize xs.drop 1 = xs
    generalize its.drop 1 = its
    revert its
    induction xs using evry.induct with
    | case1 => intro its r; cases r; exact .nil
    | case2 a => intro its r; cases r with | cons r1 r2 => cases r2; exact .cons r1 .nil
    | case3 a b r ih => intro its rr; cases rr with | cons r1 r2 => cases r2 with | cons r3 r4 => exact .cons r1 (ih _ r4)
  refine ⟨Nat.le_trans (evry_len _) (Nat.le_trans ?_ hz), _, 0, rr, Heap.get?_push_size _ rfl⟩
  rw [List.length_drop]
  omega
end

/-! ### math.comb, math.lcm -/
/-- so many choices -/
def chs : Nat → Nat → Nat
  | _, 0 => 1
  | 0, _ + 1 => 0
  | n + 1, k + 1 => chs n k + chs n (k + 1)
theorem chs_small : ∀ n, n ≤ 10 → ∀ k, k ≤ n → PySem.Builtin.Math.fallingProduct (n : Nat) (min (k : Int) ((n : Int) - k)).toNat / PySem.Builtin.Math.fallingProduct (min (k : Int) ((n : Int) - k)) (min (k : Int) ((n : Int) - k)).toNat = (chs n k : Nat) ∧ chs n k ≤ 1000 := by decide +kernel
theorem entry_comb : entryFor table "math.comb" = some Builtin.«math.comb» := entryFor_of_tree (by kernel_rfl)
theorem kind_comb : builtinKind "math.comb" = none := by kernel_rfl
theorem plain_comb : PySem.plainId "math.comb" = true := by decide +kernel
theorem args_comb (a b : Value) : argsOk "math.comb" ⟨[a, b], []⟩ := by unfold argsOk; kernel_rfl
open PySem.Calls PySem.W in
theorem run_comb (a : Int) (t : Tok) (b : Int) (u : Tok) (h1 : ¬ a < 0) (h2 : ¬ b < 0) (h3 : ¬ b > a) (h4 : ¬ min b (a - b) > PySem.Builtin.Math.maxSsize) (h5 : ¬ min b (a - b) > PySem.Builtin.Math.manyFactors) (h6 : ¬ min b (a - b) > 9000)
    (hsz : (PySem.Builtin.Math.fallingProduct a (min b (a - b)).toNat / PySem.Builtin.Math.fallingProduct (min b (a - b)) (min b (a - b)).toNat).natAbs.log2 < PySem.bitsLine) :
    PySem.Gives (Builtin.«math.comb» ⟨[.int a t, .int b u], []⟩) (.int (PySem.Builtin.Math.fallingProduct a (min b (a - b)).toNat / PySem.Builtin.Math.fallingProduct (min b (a - b)) (min b (a - b)).toNat)) :=
  .of_wp fun M A E s Q h => by obtain ⟨hp, g, d, tk, os⟩ := s; wp_walk; (try (refine wpAny_ite_false (decide_eq_false (Nat.not_le.mpr hsz)) ?_; wp_walk)); exact ⟨_, rfl, h⟩
section
variable {X : Cx}
def rComb : List V → Hp → VK → Prop := fun vs H Q => ∃ n k : Nat, vs = [.int n, .int k] ∧ k ≤ n ∧ n ≤ 10 ∧ Q (.int (chs n k : Nat)) H
theorem cr_comb : CallR X (.builtin "math.comb") rComb := by
  intro pins s σ H vs us Q I r h
  obtain ⟨n, k, rfl, h1, h2, q⟩ := h
  obtain ⟨t, u, rfl⟩ := Vals.int2 r
  obtain ⟨e, b⟩ := chs_small n h2 k h1
  have m1 : PySem.Builtin.Math.maxSsize = 9223372036854775807 := by decide
  have m2 : PySem.Builtin.Math.manyFactors = 20000 := rfl
  have hm : min (k : Int) ((n : Int) - k) ≤ 10 := by omega
  have hg := run_comb (n : Int) t (k : Int) u (by omega) (by omega) (by omega) (by rw [m1]; omega) (by rw [m2]; omega) (by omega) (by
    rw [e]
    refine Nat.lt_of_le_of_lt (m := 1000) ?_ (by decide)
    exact Nat.le_trans (Nat.log2_le_self _) (by rw [Int.natAbs_natCast]; exact b))
  rw [e] at hg
  exact call_function_meets kind_comb plain_comb entry_comb (args_comb _ _) hg.meets ⟨.int _, H, I.tok _, ⟨_, rfl⟩, q⟩
def rLcm : List V → Hp → VK → Prop := fun vs H Q => ∃ a b : Nat, vs = [.int a, .int b] ∧ 0 < a ∧ 0 < b ∧ a < 2 ^ 6000 ∧ b < 2 ^ 6000 ∧ Q (.int (Nat.lcm a b : Nat)) H
theorem cr_lcm : CallR X (.builtin "math.lcm") rLcm := by
  intro pins s σ H vs us Q I r h
  obtain ⟨a, b, rfl, p1, p2, h1, h2, q⟩ := h
  obtain ⟨t, u, rfl⟩ := Vals.int2 r
  have l1 : ∀ {x : Nat}, x < 2 ^ 6000 → x.log2 / 30 + 1 ≤ 450 := fun {x} hx => by
    have : x.log2 ≤ 5999 := PySem.W.mg_log hx
    omega
  have e : ((Nat.lcm 1 ((a : Int)).natAbs).lcm ((b : Int)).natAbs) = Nat.lcm a b := by
    rw [Int.natAbs_natCast, Int.natAbs_natCast, Nat.lcm_one_left]
  have hg := PySem.W.mg_run_lcm (a : Int) t (b : Int) u (by
    have : max 1 ((a : Int)).natAbs < 2 ^ 6000 := by
      rw [Int.natAbs_natCast]
      exact Nat.max_lt.mpr ⟨Nat.one_lt_two_pow (by decide), h1⟩
    have := l1 this
    omega) (by
    have : max ((a : Int)).natAbs ((b : Int)).natAbs < 2 ^ 6000 := by
      rw [Int.natAbs_natCast, Int.natAbs_natCast]
      exact Nat.max_lt.mpr ⟨h1, h2⟩
    have := l1 this
    omega) (by
    rw [e, Int.natAbs_natCast]
    refine Nat.lt_of_le_of_lt (m := 11999) (PySem.W.mg_log ?_) (by decide)
    refine Nat.lt_of_le_of_lt (Nat.le_of_dvd (Nat.mul_pos p1 p2) (Nat.lcm_dvd_mul a b)) ?_
    have := Nat.mul_lt_mul'' h1 h2
    rwa [← Nat.pow_add] at this)
  rw [e] at hg
  exact call_function_meets PySem.W.MGF.kind_lcm PySem.W.MGF.plain_lcm PySem.W.MGF.entry_lcm (PySem.W.MGF.args_lcm _ _) hg.meets ⟨.int _, H, I.tok _, ⟨_, rfl⟩, q⟩
end

/-! ### counts -/
def cntL (ls : List (Int × Int)) (t : Int) : Nat := (ls.filter fun l => shB l t).length
theorem cnt_app (ls ms : List (Int × Int)) (t : Int) : cntL (ls ++ ms) t = cntL ls t + cntL ms t := by
  unfold cntL
  rw [List.filter_append, List.length_append]
theorem cnt_nil (t : Int) : cntL [] t = 0 := rfl
theorem cnt_cons (l : Int × Int) (ls : List (Int × Int)) (t : Int) : cntL (l :: ls) t = (if shB l t then 1 else 0) + cntL ls t := by
  unfold cntL
  rw [List.filter_cons]
  by_cases h : shB l t = true
  · rw [if_pos h, if_pos h, List.length_cons]
    omega
  · rw [if_neg h, if_neg h]
    omega
theorem cnt_le (ls : List (Int × Int)) (t : Int) : cntL ls t ≤ ls.length := List.length_filter_le _ _
theorem cnt_zero {ls : List (Int × Int)} {t : Int} : cntL ls t = 0 ↔ ¬ Bright ls t := by
  unfold cntL
  rw [List.length_eq_zero_iff, List.filter_eq_nil_iff]
  constructor
  · rintro h ⟨l, hl, hd⟩
    exact h l hl (decide_eq_true hd)
  · intro h l hl hb
    exact h ⟨l, hl, of_decide_eq_true hb⟩
def sumR (f : Nat → Int) : Nat → Int
  | 0 => 0
  | n + 1 => sumR f n + f n
theorem sumR_congr {f g : Nat → Int} : ∀ {n : Nat}, (∀ i, i < n → f i = g i) → sumR f n = sumR g n
  | 0, _ => rfl
  | n + 1, h => by
    show sumR f n + f n = sumR g n + g n
    rw [sumR_congr fun i hi => h i (by omega), h n (by omega)]
theorem sumR_add (f g : Nat → Int) : ∀ n, sumR (fun i => f i + g i) n = sumR f n + sumR g n
  | 0 => rfl
  | n + 1 => by
    show sumR _ n + (f n + g n) = _
    rw [sumR_add f g n]
    show _ = sumR f n + f n + (sumR g n + g n)
    omega
theorem sumR_sub (f g : Nat → Int) : ∀ n, sumR (fun i => f i - g i) n = sumR f n - sumR g n
  | 0 => rfl
  | n + 1 => by
    show sumR _ n + (f n - g n) = _
    rw [sumR_sub f g n]
    show _ = sumR f n + f n - (sumR g n + g n)
    omega
theorem sumR_mul (c : Int) (f : Nat → Int) : ∀ n, sumR (fun i => c * f i) n = c * sumR f n
  | 0 => by show (0 : Int) = c * 0; rw [Int.mul_zero]
  | n + 1 => by
    show sumR _ n + c * f n = c * (sumR f n + f n)
    rw [sumR_mul c f n, Int.mul_add]
theorem sumR_zero : ∀ n, sumR (fun _ => 0) n = 0
  | 0 => rfl
  | n + 1 => by show sumR _ n + 0 = 0; rw [sumR_zero n]; rfl
theorem sumR_nonneg {f : Nat → Int} : ∀ {n : Nat}, (∀ i, i < n → 0 ≤ f i) → 0 ≤ sumR f n
  | 0, _ => Int.le_refl _
  | n + 1, h => by
    have := sumR_nonneg (f := f) (n := n) fun i hi => h i (by omega)
    have := h n (by omega)
    show 0 ≤ sumR f n + f n
    omega
theorem sumR_le {f g : Nat → Int} : ∀ {n : Nat}, (∀ i, i < n → f i ≤ g i) → sumR f n ≤ sumR g n
  | 0, _ => Int.le_refl _
  | n + 1, h => by
    have := sumR_le (f := f) (g := g) (n := n) fun i hi => h i (by omega)
    have := h n (by omega)
    show sumR f n + f n ≤ sumR g n + g n
    omega
theorem sumR_split (f : Nat → Int) (a : Nat) : ∀ b, sumR f (a + b) = sumR f a + sumR (fun i => f (a + i)) b
  | 0 => by show sumR f a = sumR f a + 0; omega
  | b + 1 => by
    show sumR f (a + b) + f (a + b) = sumR f a + (sumR (fun i => f (a + i)) b + f (a + b))
    rw [sumR_split f a b]
    omega
/-- floor, one more -/
theorem ediv_step {a p : Int} (hp : 0 < p) : (a + 1) / p = a / p + if p ∣ a + 1 then 1 else 0 := by
  have e1 := Int.emod_add_mul_ediv a p
  have r0 := Int.emod_nonneg a (show p ≠ 0 by omega)
  have r1 := Int.emod_lt_of_pos a hp
  by_cases h : a % p = p - 1
  · have e : a + 1 = p * (a / p + 1) := by rw [Int.mul_add, Int.mul_one]; omega
    rw [if_pos ⟨_, e⟩, e, Int.mul_ediv_cancel_left _ (by omega)]
  · have hn : ¬ p ∣ a + 1 := fun hd => by
      have := Int.emod_eq_zero_of_dvd hd
      rw [show a + 1 = a % p + 1 + p * (a / p) by omega, Int.add_mul_emod_self_left, Int.emod_eq_of_lt (by omega) (by omega)] at this
      omega
    rw [if_neg hn, show a + 1 = a % p + 1 + p * (a / p) by omega, Int.add_mul_ediv_left _ _ (by omega), Int.ediv_eq_zero_of_lt (by omega) (by omega)]
    omega
/-- at how many of so many beats a lamp shines -/
theorem cnt_lamp {x : Int × Int} (h0 : 0 ≤ x.2) (h1 : x.2 < x.1) : ∀ n : Nat, sumR (fun t => if shB x (t : Nat) then 1 else 0) n = ((n : Int) - 1 - x.2) / x.1 + 1
  | 0 => by
    show (0 : Int) = _
    have hp : 0 < x.1 := by omega
    rw [show ((0 : Nat) : Int) - 1 - x.2 = (x.1 - 1 - x.2) + x.1 * (-1) by omega, Int.add_mul_ediv_left _ _ (by omega), Int.ediv_eq_zero_of_lt (by omega) (by omega)]
    rfl
  | n + 1 => by
    have ih := cnt_lamp h0 h1 n
    show sumR _ n + _ = _
    rw [ih, show ((n + 1 : Nat) : Int) - 1 - x.2 = ((n : Int) - 1 - x.2) + 1 by omega, ediv_step (by omega), show (n : Int) - 1 - x.2 + 1 = n - x.2 by omega]
    have : (if shB x (n : Nat) = true then (1 : Int) else 0) = if x.1 ∣ (n : Int) - x.2 then 1 else 0 := by
      by_cases h : x.1 ∣ (n : Int) - x.2
      · rw [if_pos h, if_pos (shB_iff.mpr h)]
      · rw [if_neg h, if_neg (fun z => h (shB_iff.mp z))]
    show _ + (if shB x (n : Nat) = true then (1 : Int) else 0) = _
    rw [this]
    omega
def Nrm (ls : List (Int × Int)) : Prop := ∀ x ∈ ls, 0 ≤ x.2 ∧ x.2 < x.1
def oftenN (ls : List (Int × Int)) (n : Nat) : Int := (ls.map fun x => ((n : Int) - 1 - x.2) / x.1 + 1).sum
theorem often_sum : ∀ {ls : List (Int × Int)}, Nrm ls → ∀ n : Nat, oftenN ls n = sumR (fun t => (cntL ls (t : Nat) : Nat)) n
  | [], _, n => by
    show (0 : Int) = sumR (fun _ => 0) n
    rw [sumR_zero]
  | x :: ls, h, n => by
    have ih := often_sum (ls := ls) (fun y hy => h y (.tail _ hy)) n
    obtain ⟨h0, h1⟩ := h x (.head _)
    show ((n : Int) - 1 - x.2) / x.1 + 1 + oftenN ls n = _
    rw [ih, ← cnt_lamp h0 h1 n, ← sumR_add]
    refine sumR_congr fun t _ => ?_
    rw [cnt_cons]
    split <;> simp
def alt : List Int → Int
  | [] => 0
  | a :: r => a - alt r
theorem alt_evry : ∀ xs : List Int, (evry xs).sum - (evry (xs.drop 1)).sum = alt xs
  | [] => rfl
  | [a] => by simp [evry, alt]
  | a :: b :: r => by
    have ih := alt_evry r
    show (a + (evry r).sum) - (evry (b :: r)).sum = a - (b - alt r)
    have e : (evry (b :: r)).sum = b + (evry (r.drop 1)).sum := by
      cases r with
      | nil => simp [evry]
      | cons c r => rfl
    rw [e]
    omega
theorem alt_sum (c : Nat → Int) (f : Nat → Nat → Int) : ∀ (L : List Nat) (n : Nat), alt (L.map fun m => c m * sumR (f m) n) = sumR (fun t => alt (L.map fun m => c m * f m t)) n
  | [], n => by show (0 : Int) = sumR (fun _ => 0) n; rw [sumR_zero]
  | m :: L, n => by
    show c m * sumR (f m) n - alt _ = _
    rw [alt_sum c f L n, ← sumR_mul, ← sumR_sub]
    rfl
theorem incl_excl : ∀ k, k ≤ 10 → ∀ j, j ≤ k → ∀ n, n ≤ k → alt ((List.range (k + 1 - j)).map fun i => ((chs (j + i) j : Nat) : Int) * ((chs n (j + i) : Nat) : Int)) = if n = j then 1 else 0 := by decide +kernel
/-- at how many of so many beats from a beat on just so many lamps shine -/
def justN (ls : List (Int × Int)) (b : Int) (n j : Nat) : Int := sumR (fun t => if cntL ls (b + (t : Nat)) = j then 1 else 0) n
/-- the lamps of the beats at which so many meet -/
structure Tally (M : Nat → List (Int × Int)) (ls : List (Int × Int)) (b : Int) (lim : Nat) : Prop where
  nrm : ∀ m, Nrm (M m)
  cnt : ∀ m (t : Nat), t < lim → cntL (M m) (t : Nat) = chs (cntL ls (b + (t : Nat))) m
theorem Tally.just {M : Nat → List (Int × Int)} {ls : List (Int × Int)} {b : Int} {lim n : Nat} (h : Tally M ls b lim) (hn : n ≤ lim) (hl : ls.length ≤ 10) {j : Nat} (hj : j ≤ ls.length) :
    alt ((List.range (ls.length + 1 - j)).map fun i => ((chs (j + i) j : Nat) : Int) * oftenN (M (j + i)) n) = justN ls b n j := by
  have e : (List.range (ls.length + 1 - j)).map (fun i => ((chs (j + i) j : Nat) : Int) * oftenN (M (j + i)) n) = (List.range (ls.length + 1 - j)).map (fun i => ((chs (j + i) j : Nat) : Int) * sumR (fun t => ((chs (cntL ls (b + (t : Nat))) (j + i) : Nat) : Int)) n) := by
    refine List.map_congr_left fun i _ => ?_
    rw [often_sum (h.nrm _)]
    congr 1
    exact sumR_congr fun t ht => by rw [h.cnt _ t (by omega)]
  rw [e, alt_sum]
  exact sumR_congr fun t _ => incl_excl ls.length hl j hj _ (cnt_le ls _)
/-- one lamp more -/
def ExtR (l : Int × Int) (lim : Nat) (X Y : List (Int × Int)) : Prop := ∃ os : List OLp, os.length = X.length ∧ (∀ (i : Nat) x o, X[i]? = some x → os[i]? = some o → MeetO (some x) (some l) o) ∧ Y = os.filterMap fun o => o.bind fun y => if y.2 < lim then some y else none
theorem ext_cons {l x : Int × Int} {lim : Nat} {X Y : List (Int × Int)} (h : ExtR l lim (x :: X) Y) : ∃ o Y', MeetO (some x) (some l) o ∧ ExtR l lim X Y' ∧ Y = ((o.bind fun y => if y.2 < (lim : Int) then some y else none).toList) ++ Y' := by
  obtain ⟨os, h1, h2, rfl⟩ := h
  cases os with
  | nil => cases h1
  | cons o os =>
    refine ⟨o, _, h2 0 x o rfl rfl, ⟨os, by simpa using h1, fun i y p e1 e2 => h2 (i + 1) y p e1 e2, rfl⟩, ?_⟩
    rw [List.filterMap_cons]
    cases (o.bind fun y => if y.2 < (lim : Int) then some y else none) <;> rfl
theorem ext_cnt {l : Int × Int} {lim : Nat} : ∀ {X Y : List (Int × Int)}, ExtR l lim X Y → ∀ t : Nat, t < lim → cntL Y (t : Nat) = if shB l (t : Nat) then cntL X (t : Nat) else 0
  | [], Y, ⟨os, h1, _, e⟩, t, _ => by
    rw [List.length_eq_zero_iff.mp h1] at e
    rw [e]
    split <;> rfl
  | x :: X, Y, h, t, ht => by
    obtain ⟨o, Y', ho, h', rfl⟩ := ext_cons h
    rw [cnt_app, ext_cnt h' t ht, cnt_cons]
    have key : cntL ((o.bind fun y => if y.2 < (lim : Int) then some y else none).toList) (t : Nat) = if shB l (t : Nat) then (if shB x (t : Nat) then 1 else 0) else 0 := by
      have hs := ho.2 (t : Nat)
      cases o with
      | none =>
        have hn : ¬ (Shn (some x) (t : Nat) ∧ Shn (some l) (t : Nat)) := fun z => hs.mpr z
        show (0 : Nat) = _
        by_cases h1 : shB l (t : Nat) = true
        · rw [if_pos h1, if_neg (fun h2 => hn ⟨shB_iff.mp h2, shB_iff.mp h1⟩)]
        · rw [if_neg h1]
      | some y =>
        obtain ⟨y0, y1, y2⟩ := ho.1 y rfl
        show cntL ((if y.2 < (lim : Int) then some y else none) : Option (Int × Int)).toList (t : Nat) = _
        by_cases hy : shB y (t : Nat) = true
        · have hd := shB_iff.mp hy
          obtain ⟨h2, h1⟩ := hs.mp hd
          have hle : y.2 ≤ t := by
            refine Classical.byContradiction fun hc => ?_
            obtain ⟨c, hc2⟩ := hd
            have hneg : c < 0 := Classical.byContradiction fun hge => by
              have := Int.mul_nonneg (show 0 ≤ y.1 by omega) (show 0 ≤ c by omega)
              omega
            have : y.1 * c ≤ y.1 * (-1) := Int.mul_le_mul_of_nonneg_left (by omega) (by omega)
            omega
          rw [if_pos (by omega), if_pos (shB_iff.mpr h1), if_pos (shB_iff.mpr h2)]
          show cntL [y] (t : Nat) = 1
          rw [cnt_cons, if_pos hy]
          rfl
        · have hn : ¬ (Shn (some x) (t : Nat) ∧ Shn (some l) (t : Nat)) := fun z => hy (shB_iff.mpr (hs.mpr z))
          have e1 : (if shB l (t : Nat) = true then (if shB x (t : Nat) = true then 1 else 0) else 0) = 0 := by
            by_cases h1 : shB l (t : Nat) = true
            · rw [if_pos h1, if_neg (fun h2 => hn ⟨shB_iff.mp h2, shB_iff.mp h1⟩)]
            · rw [if_neg h1]
          rw [e1]
          split
          · show cntL [y] (t : Nat) = 0
            rw [cnt_cons, if_neg hy]
            rfl
          · rfl
    rw [key]
    split <;> simp
theorem ext_nrm {l : Int × Int} {lim : Nat} {X Y : List (Int × Int)} (h : ExtR l lim X Y) : Nrm Y := fun y hy => by
  obtain ⟨os, h1, h2, rfl⟩ := h
  obtain ⟨o, ho, e⟩ := List.mem_filterMap.mp hy
  obtain ⟨i, hi⟩ := List.getElem?_of_mem ho
  obtain ⟨x, hx⟩ : ∃ x, X[i]? = some x := ⟨_, List.getElem?_eq_getElem (by rw [← h1]; exact (List.getElem?_eq_some_iff.mp hi).1)⟩
  have := h2 i x o hx hi
  cases o with
  | none => cases e
  | some z =>
    have e : (if z.2 < (lim : Int) then some z else none) = some y := e
    split at e
    · cases e
      exact ⟨(this.1 _ rfl).2.1, (this.1 _ rfl).2.2⟩
    · cases e
theorem Tally.step {M M' : Nat → List (Int × Int)} {ls : List (Int × Int)} {b : Int} {lim : Nat} {l : Int × Int} (h : Tally M ls b lim) (h0 : M' 0 = M 0) (hs : ∀ m, ∃ Y, ExtR (l.1, (l.2 - b) % l.1) lim (M m) Y ∧ M' (m + 1) = M (m + 1) ++ Y) : Tally M' (ls ++ [l]) b lim := by
  have sh : ∀ t : Nat, shB (l.1, (l.2 - b) % l.1) (t : Nat) = shB l (b + (t : Nat)) := fun t => by
    refine decide_eq_decide.mpr ?_
    show l.1 ∣ (t : Int) - (l.2 - b) % l.1 ↔ _
    rw [dvd_nrm, show (t : Int) - (l.2 - b) = b + t - l.2 by omega]
  refine ⟨fun m => ?_, fun m t ht => ?_⟩
  · cases m with
    | zero => rw [h0]; exact h.nrm 0
    | succ m =>
      obtain ⟨Y, hY, e⟩ := hs m
      rw [e]
      intro x hx
      rcases List.mem_append.mp hx with hx | hx
      · exact h.nrm _ x hx
      · exact ext_nrm hY x hx
  · have ec : cntL (ls ++ [l]) (b + (t : Nat)) = cntL ls (b + (t : Nat)) + if shB l (b + (t : Nat)) then 1 else 0 := by
      rw [cnt_app, cnt_cons]
      rfl
    rw [ec]
    cases m with
    | zero =>
      rw [h0, h.cnt 0 t ht]
      have c0 : ∀ n, chs n 0 = 1 := fun n => by cases n <;> rfl
      rw [c0, c0]
    | succ m =>
      obtain ⟨Y, hY, e⟩ := hs m
      rw [e, cnt_app, h.cnt _ t ht, ext_cnt hY t ht, h.cnt _ t ht, sh]
      split
      · show _ = chs (cntL ls (b + (t : Nat)) + 1) (m + 1)
        show _ = chs _ m + chs _ (m + 1)
        omega
      · rfl
theorem Tally.zero (b : Int) (lim : Nat) : Tally (fun m => if m = 0 then [(1, 0)] else []) [] b lim := by
  refine ⟨fun m => ?_, fun m t _ => ?_⟩
  · intro x hx
    have hx : x ∈ (if m = 0 then [((1 : Int), (0 : Int))] else []) := hx
    split at hx
    · rw [List.mem_singleton.mp hx]
      decide
    · cases hx
  · cases m with
    | zero =>
      show cntL [(1, 0)] (t : Nat) = 1
      rw [cnt_cons, if_pos (shB_iff.mpr (show (1 : Int) ∣ (t : Int) - 0 from ⟨_, (Int.one_mul _).symm⟩))]
      rfl
    | succ m => rfl
structure TallyX (M : Nat → List (Int × Int)) (ls : List (Int × Int)) : Prop where
  len : ∀ m, (M m).length ≤ chs ls.length m
  dvd : ∀ m, ∀ x ∈ M m, 0 < x.1 ∧ ∀ W : Int, (∀ l ∈ ls, l.1 ∣ W) → x.1 ∣ W
theorem ext_len {l : Int × Int} {lim : Nat} {X Y : List (Int × Int)} (h : ExtR l lim X Y) : Y.length ≤ X.length := by
  obtain ⟨os, h1, _, rfl⟩ := h
  rw [← h1]
  exact List.length_filterMap_le _ _
theorem ext_dvd {l : Int × Int} {lim : Nat} {X Y : List (Int × Int)} (h : ExtR l lim X Y) {W : Int} (hl : l.1 ∣ W) (hX : ∀ x ∈ X, x.1 ∣ W) : ∀ y ∈ Y, 0 < y.1 ∧ y.1 ∣ W := fun y hy => by
  obtain ⟨os, h1, h2, rfl⟩ := h
  obtain ⟨o, ho, e⟩ := List.mem_filterMap.mp hy
  obtain ⟨i, hi⟩ := List.getElem?_of_mem ho
  obtain ⟨x, hx⟩ : ∃ x, X[i]? = some x := ⟨_, List.getElem?_eq_getElem (by rw [← h1]; exact (List.getElem?_eq_some_iff.mp hi).1)⟩
  have hm := h2 i x o hx hi
  cases o with
  | none => cases e
  | some z =>
    have e : (if z.2 < (lim : Int) then some z else none) = some y := e
    split at e
    · cases e
      have s0 : Shn (some y) y.2 := ⟨0, by rw [Int.mul_zero]; omega⟩
      obtain ⟨a1, a2⟩ := (hm.2 y.2).mp s0
      have b1 : Shn (some x) (y.2 + W) := by
        show x.1 ∣ y.2 + W - x.2
        have a1 : x.1 ∣ y.2 - x.2 := a1
        rw [show y.2 + W - x.2 = (y.2 - x.2) + W by omega]
        exact Int.dvd_add a1 (hX x (List.mem_of_getElem? hx))
      have b2 : Shn (some l) (y.2 + W) := by
        show l.1 ∣ y.2 + W - l.2
        have a2 : l.1 ∣ y.2 - l.2 := a2
        rw [show y.2 + W - l.2 = (y.2 - l.2) + W by omega]
        exact Int.dvd_add a2 hl
      have c : y.1 ∣ y.2 + W - y.2 := (hm.2 (y.2 + W)).mpr ⟨b1, b2⟩
      rw [show y.2 + W - y.2 = W by omega] at c
      exact ⟨(hm.1 _ rfl).1, c⟩
    · cases e
theorem TallyX.step {M M' : Nat → List (Int × Int)} {ls : List (Int × Int)} {b : Int} {lim : Nat} {l : Int × Int} (h : TallyX M ls) (h0 : M' 0 = M 0) (hs : ∀ m, ∃ Y, ExtR (l.1, (l.2 - b) % l.1) lim (M m) Y ∧ M' (m + 1) = M (m + 1) ++ Y) : TallyX M' (ls ++ [l]) := by
  have el : (ls ++ [l]).length = ls.length + 1 := by rw [List.length_append]; rfl
  refine ⟨fun m => ?_, fun m x hx => ?_⟩
  · cases m with
    | zero =>
      rw [h0]
      have := h.len 0
      have c0 : ∀ n, chs n 0 = 1 := fun n => by cases n <;> rfl
      rw [c0] at this ⊢
      exact this
    | succ m =>
      obtain ⟨Y, hY, e⟩ := hs m
      rw [e, el, List.length_append]
      have h1 := h.len (m + 1)
      have h2 := h.len m
      have h3 := ext_len hY
      show _ ≤ chs ls.length m + chs ls.length (m + 1)
      omega
  · cases m with
    | zero =>
      rw [h0] at hx
      obtain ⟨a, c⟩ := h.dvd 0 x hx
      exact ⟨a, fun W hW => c W fun y hy => hW y (List.mem_append_left _ hy)⟩
    | succ m =>
      obtain ⟨Y, hY, e⟩ := hs m
      rw [e] at hx
      rcases List.mem_append.mp hx with hx | hx
      · obtain ⟨a, c⟩ := h.dvd _ x hx
        exact ⟨a, fun W hW => c W fun y hy => hW y (List.mem_append_left _ hy)⟩
      · have key : ∀ W : Int, (∀ y ∈ ls ++ [l], y.1 ∣ W) → 0 < x.1 ∧ x.1 ∣ W := fun W hW =>
          ext_dvd hY (hW l (List.mem_append_right _ (List.mem_singleton.mpr rfl))) (fun y hy => (h.dvd m y hy).2 W fun z hz => hW z (List.mem_append_left _ hz)) x hx
        exact ⟨(key 0 fun y _ => ⟨0, (Int.mul_zero _).symm⟩).1, fun W hW => (key W hW).2⟩
theorem TallyX.zero : TallyX (fun m => if m = 0 then [(1, 0)] else []) [] := by
  refine ⟨fun m => ?_, fun m x hx => ?_⟩
  · cases m with
    | zero => exact Nat.le_refl _
    | succ m => exact Nat.zero_le _
  · have hx : x ∈ (if m = 0 then [((1 : Int), (0 : Int))] else []) := hx
    split at hx
    · rw [List.mem_singleton.mp hx]
      exact ⟨by decide, fun W _ => ⟨W, (Int.one_mul _).symm⟩⟩
    · cases hx
theorem chs_le : ∀ n, n ≤ 10 → ∀ m, chs n m ≤ 1000 := fun n hn m => by
  by_cases h : m ≤ 10
  · have : ∀ n, n ≤ 10 → ∀ m, m ≤ 10 → chs n m ≤ 1000 := by decide +kernel
    exact this n hn m h
  · have z : ∀ n m, n < m → chs n m = 0 := fun n => by
      induction n with
      | zero => intro m hm; cases m with | zero => omega | succ m => rfl
      | succ n ih => intro m hm; cases m with | zero => omega | succ m => show chs n m + chs n (m + 1) = 0; rw [ih m (by omega), ih (m + 1) (by omega)]
    rw [z n m (by omega)]
    decide
def shL (b : Int) (ls : List (Int × Int)) : List (Int × Int) := ls.map fun l => (l.1, (l.2 - b) % l.1)
theorem chs_zero : ∀ n m, n < m → chs n m = 0
  | 0, 0, h => absurd h (by omega)
  | 0, m + 1, _ => rfl
  | n + 1, 0, h => absurd h (by omega)
  | n + 1, m + 1, h => by
    show chs n m + chs n (m + 1) = 0
    rw [chs_zero n m (by omega), chs_zero n (m + 1) (by omega)]
theorem TallyX.none {M : Nat → List (Int × Int)} {ls : List (Int × Int)} (h : TallyX M ls) {m : Nat} (hm : ls.length < m) : M m = [] := by
  have := h.len m
  rw [chs_zero _ _ hm] at this
  exact List.length_eq_zero_iff.mp (by omega)
theorem fm_one {α β : Type} (f : α → Option β) (o : α) : List.filterMap f [o] = (f o).toList := by
  rw [List.filterMap_cons]
  cases f o <;> rfl
theorem often_bd {ls : List (Int × Int)} (h : Nrm ls) (n : Nat) : 0 ≤ oftenN ls n ∧ oftenN ls n ≤ (ls.length : Int) * n := by
  rw [often_sum h]
  refine ⟨sumR_nonneg fun i _ => by omega, ?_⟩
  have : ∀ n : Nat, sumR (fun _ => (ls.length : Int)) n = (ls.length : Int) * n := fun n => by
    induction n with
    | zero => show (0 : Int) = _ * 0; rw [Int.mul_zero]
    | succ n ih =>
      show sumR _ n + _ = _
      rw [ih, show ((n + 1 : Nat) : Int) = (n : Int) + 1 by omega, Int.mul_add, Int.mul_one]
  rw [← this n]
  exact sumR_le fun i _ => by have := cnt_le ls (i : Nat); omega
theorem just_ext {ls : List (Int × Int)} {b : Int} {n j : Nat} {g : Nat → Int} (h : ∀ t, t < n → g t = if cntL ls (b + (t : Nat)) = j then 1 else 0) : sumR g n = justN ls b n j := sumR_congr h

/-! ### the share of the dark, the dark beat of a number -/
def foldR (w : Nat) : List (Int × Int) → Nat
  | [] => w
  | l :: ls => foldR (Nat.lcm w l.1.natAbs) ls
def roundN (ls : List (Int × Int)) : Nat := foldR 1 ls
theorem foldR_snoc : ∀ (ls : List (Int × Int)) (w : Nat) (l : Int × Int), foldR w (ls ++ [l]) = Nat.lcm (foldR w ls) l.1.natAbs
  | [], _, _ => rfl
  | x :: ls, w, l => foldR_snoc ls (Nat.lcm w x.1.natAbs) l
theorem foldR_pos : ∀ (ls : List (Int × Int)) (w : Nat), 0 < w → (∀ l ∈ ls, 0 < l.1) → 0 < foldR w ls
  | [], _, h, _ => h
  | x :: ls, w, h, hl => foldR_pos ls _ (Nat.lcm_pos h (by have := hl x (List.mem_cons_self ..); omega)) fun l h => hl l (List.mem_cons_of_mem _ h)
theorem foldR_dvd : ∀ (ls : List (Int × Int)) (w : Nat), w ∣ foldR w ls ∧ ∀ l ∈ ls, l.1.natAbs ∣ foldR w ls
  | [], w => ⟨Nat.dvd_refl _, fun _ h => nomatch h⟩
  | x :: ls, w => by
    obtain ⟨h1, h2⟩ := foldR_dvd ls (Nat.lcm w x.1.natAbs)
    refine ⟨Nat.dvd_trans (Nat.dvd_lcm_left _ _) h1, fun l hl => ?_⟩
    rcases List.mem_cons.mp hl with rfl | hl
    · exact Nat.dvd_trans (Nat.dvd_lcm_right _ _) h1
    · exact h2 l hl
theorem foldR_le (k : Nat) : ∀ (ls : List (Int × Int)) (w : Nat), 0 < w → (∀ l ∈ ls, 0 < l.1 ∧ l.1.natAbs ≤ 2 ^ k) → foldR w ls ≤ w * 2 ^ (k * ls.length)
  | [], w, _, _ => by
    show w ≤ w * 2 ^ (k * 0)
    rw [Nat.mul_zero, Nat.pow_zero, Nat.mul_one]
    exact Nat.le_refl _
  | x :: ls, w, hw, h => by
    obtain ⟨h1, h2⟩ := h x (List.mem_cons_self ..)
    have p1 : 0 < x.1.natAbs := by omega
    have ih := foldR_le k ls (Nat.lcm w x.1.natAbs) (Nat.lcm_pos hw p1) fun l h' => h l (List.mem_cons_of_mem _ h')
    have h3 : Nat.lcm w x.1.natAbs ≤ w * 2 ^ k := Nat.le_trans (Nat.le_of_dvd (Nat.mul_pos hw p1) (Nat.lcm_dvd_mul _ _)) (Nat.mul_le_mul_left _ h2)
    refine Nat.le_trans ih (Nat.le_trans (Nat.mul_le_mul_right _ h3) ?_)
    rw [Nat.mul_assoc, ← Nat.pow_add, List.length_cons, Nat.mul_add, Nat.mul_one, Nat.add_comm k]
    exact Nat.le_refl _
theorem round_pos {ls : List (Int × Int)} (h : ∀ l ∈ ls, 0 < l.1) : 0 < roundN ls := foldR_pos ls 1 (by decide) h
theorem round_dvd {ls : List (Int × Int)} : ∀ l ∈ ls, l.1 ∣ (roundN ls : Int) := fun l hl => by
  have := (foldR_dvd ls 1).2 l hl
  exact Int.natAbs_dvd.mp (Int.natCast_dvd_natCast.mpr this)
theorem round_least {ls : List (Int × Int)} {m : Int} (h : ∀ l ∈ ls, l.1 ∣ m) : (roundN ls : Int) ∣ m := by
  have key : ∀ (ls : List (Int × Int)) (w : Nat), w ∣ m.natAbs → (∀ l ∈ ls, l.1 ∣ m) → foldR w ls ∣ m.natAbs := by
    intro ls
    induction ls with
    | nil => exact fun w h _ => h
    | cons x ls ih => exact fun w hw h => ih _ (Nat.lcm_dvd hw (Int.natAbs_dvd_natAbs.mpr (h x (List.mem_cons_self ..)))) fun l hl => h l (List.mem_cons_of_mem _ hl)
  exact Int.dvd_natAbs.mp (Int.natCast_dvd_natCast.mpr (key ls 1 (Nat.one_dvd _) h))
def partX (W : Int) (X : List (Int × Int)) : Int := (X.map fun x => W / x.1).sum
def partN (M : Nat → List (Int × Int)) (n : Nat) (W : Int) : Int := alt ((List.range (n + 1)).map fun m => partX W (M m))
def oftA (M : Nat → List (Int × Int)) (n L : Nat) : Int := alt ((List.range (n + 1)).map fun m => oftenN (M m) L)
theorem Tally.just0 {M : Nat → List (Int × Int)} {ls : List (Int × Int)} {b : Int} {lim L : Nat} (h : Tally M ls b lim) (hn : L ≤ lim) (hl : ls.length ≤ 10) : oftA M ls.length L = justN ls b L 0 := by
  rw [← h.just hn hl (Nat.zero_le _)]
  unfold oftA
  congr 1
  refine List.map_congr_left fun m _ => ?_
  have c0 : chs (0 + m) 0 = 1 := by
    rw [Nat.zero_add]
    cases m <;> rfl
  rw [c0, Nat.zero_add]
  exact (Int.one_mul _).symm
/-- a lamp's beats are a part of all, less than one more or less -/
theorem one_off {x : Int × Int} {W : Int} (h0 : 0 ≤ x.2) (h1 : x.2 < x.1) (hd : x.1 ∣ W) (hW : 0 < W) (L : Nat) :
    ((((L : Int) - 1 - x.2) / x.1 + 1) * W - L * (W / x.1)).natAbs ≤ W - 1 := by
  obtain ⟨q, rfl⟩ := hd
  have p0 : 0 < x.1 := by omega
  rw [Int.mul_ediv_cancel_left _ (by omega)]
  have e := Int.mul_ediv_add_emod ((L : Int) - 1 - x.2) x.1
  have e1 := Int.emod_nonneg ((L : Int) - 1 - x.2) (show x.1 ≠ 0 by omega)
  have e2 := Int.emod_lt_of_pos ((L : Int) - 1 - x.2) p0
  generalize ((L : Int) - 1 - x.2) / x.1 = d at *
  generalize ((L : Int) - 1 - x.2) % x.1 = r at *
  have q0 : 0 < q := by
    rcases Int.lt_or_le 0 q with h | h
    · exact h
    · have := Int.mul_nonneg (Int.le_of_lt p0) (show 0 ≤ -q by omega)
      rw [Int.mul_neg] at this
      omega
  have e3 : (d + 1) * (x.1 * q) - L * q = ((d + 1) * x.1 - L) * q := by
    rw [Int.sub_mul, Int.mul_assoc]
  rw [e3]
  have e4 : (d + 1) * x.1 - L = x.1 - 1 - x.2 - r := by
    have : (d + 1) * x.1 = x.1 * d + x.1 := by rw [Int.add_mul, Int.one_mul, Int.mul_comm d]
    omega
  rw [e4]
  have b1 : x.1 - 1 - x.2 - r ≤ x.1 - 1 := by omega
  have b2 : -(x.1 - 1) ≤ x.1 - 1 - x.2 - r := by omega
  generalize x.1 - 1 - x.2 - r = z at *
  have c1 : z * q ≤ (x.1 - 1) * q := Int.mul_le_mul_of_nonneg_right b1 (Int.le_of_lt q0)
  have c2 : -(x.1 - 1) * q ≤ z * q := Int.mul_le_mul_of_nonneg_right b2 (Int.le_of_lt q0)
  have c3 : (x.1 - 1) * q = x.1 * q - q := by rw [Int.sub_mul, Int.one_mul]
  have c4 : -(x.1 - 1) * q = -((x.1 - 1) * q) := Int.neg_mul ..
  rw [c4] at c2
  rw [c3] at c1 c2
  omega
theorem list_off {W : Int} (hW : 0 < W) (L : Nat) : ∀ X : List (Int × Int), Nrm X → (∀ x ∈ X, x.1 ∣ W) → ((oftenN X L * W - L * partX W X).natAbs : Int) ≤ X.length * (W - 1)
  | [], _, _ => by
    show (((0 : Int) * W - L * 0).natAbs : Int) ≤ (0 : Nat) * (W - 1)
    rw [Int.zero_mul, Int.mul_zero]
    show (0 : Int) ≤ (0 : Int) * (W - 1)
    rw [Int.zero_mul]
    exact Int.le_refl _
  | x :: X, h, hd => by
    have ih := list_off hW L X (fun y hy => h y (List.mem_cons_of_mem _ hy)) fun y hy => hd y (List.mem_cons_of_mem _ hy)
    obtain ⟨a, c⟩ := h x (List.mem_cons_self ..)
    have h1 := one_off a c (hd x (List.mem_cons_self ..)) hW L
    have e1 : oftenN (x :: X) L = (((L : Int) - 1 - x.2) / x.1 + 1) + oftenN X L := rfl
    have e2 : partX W (x :: X) = W / x.1 + partX W X := rfl
    rw [e1, e2, Int.add_mul, Int.mul_add, List.length_cons]
    rw [show ((X.length + 1 : Nat) : Int) * (W - 1) = X.length * (W - 1) + (W - 1) by rw [Int.natCast_add, Int.add_mul]; show _ + (1 : Int) * (W - 1) = _; rw [Int.one_mul]]
    omega
theorem alt_off {W c : Int} (L : Nat) {f g : Nat → Int} {n : Nat → Nat} : ∀ ms : List Nat, (∀ m ∈ ms, ((f m * W - L * g m).natAbs : Int) ≤ n m * c) → ((alt (ms.map f) * W - L * alt (ms.map g)).natAbs : Int) ≤ (ms.map n).sum * c
  | [], _ => by
    show (((0 : Int) * W - L * 0).natAbs : Int) ≤ (0 : Nat) * c
    rw [Int.zero_mul, Int.mul_zero]
    show (0 : Int) ≤ (0 : Int) * c
    rw [Int.zero_mul]
    exact Int.le_refl _
  | m :: ms, h => by
    have ih := alt_off L ms fun y hy => h y (List.mem_cons_of_mem _ hy)
    have h1 := h m (List.mem_cons_self ..)
    show (((f m - alt (ms.map f)) * W - L * (g m - alt (ms.map g))).natAbs : Int) ≤ ((n m + (ms.map n).sum : Nat) : Int) * c
    rw [Int.sub_mul, Int.mul_sub, Int.natCast_add, Int.add_mul]
    omega
theorem chs_sum : ∀ n, n ≤ 10 → ((List.range (n + 1)).map (chs n)).sum = 2 ^ n := by decide +kernel
theorem sum_le {f g : Nat → Nat} : ∀ ms : List Nat, (∀ m ∈ ms, f m ≤ g m) → (ms.map f).sum ≤ (ms.map g).sum
  | [], _ => Nat.le_refl _
  | m :: ms, h => by
    have := sum_le ms fun y hy => h y (List.mem_cons_of_mem _ hy)
    have := h m (List.mem_cons_self ..)
    show f m + (ms.map f).sum ≤ g m + (ms.map g).sum
    omega
/-- what is counted is a part of the length, less than the wait more or less -/
theorem part_off {M : Nat → List (Int × Int)} {ls : List (Int × Int)} {b : Int} {lim : Nat} (h : Tally M ls b lim) (hx : TallyX M ls) (hl : ls.length ≤ 10) {W : Int} (hW : 0 < W) (hd : ∀ l ∈ ls, l.1 ∣ W) (L : Nat) :
    -(2 ^ ls.length * W) < oftA M ls.length L * W - L * partN M ls.length W ∧ oftA M ls.length L * W - L * partN M ls.length W < 2 ^ ls.length * W := by
  have h1 := alt_off (W := W) (c := W - 1) L (f := fun m => oftenN (M m) L) (g := fun m => partX W (M m)) (n := fun m => (M m).length) (List.range (ls.length + 1)) fun m _ =>
    list_off hW L (M m) (h.nrm m) fun x hx' => (hx.dvd m x hx').2 W hd
  have h2 : ((List.range (ls.length + 1)).map fun m => (M m).length).sum ≤ 2 ^ ls.length := by
    rw [← chs_sum _ hl]
    exact sum_le _ fun m _ => hx.len m
  have h3 : (((((List.range (ls.length + 1)).map fun m => (M m).length).sum : Nat) : Int)) * (W - 1) ≤ ((2 ^ ls.length : Nat) : Int) * (W - 1) := Int.mul_le_mul_of_nonneg_right (by exact_mod_cast h2) (by omega)
  have e2 : ((2 ^ ls.length : Nat) : Int) = 2 ^ ls.length := by norm_cast
  have w0 : (0 : Int) < 2 ^ ls.length := Int.pow_pos (by decide)
  have e3 : (2 : Int) ^ ls.length * (W - 1) = 2 ^ ls.length * W - 2 ^ ls.length := by rw [Int.mul_sub, Int.mul_one]
  rw [e2, e3] at h3
  unfold oftA partN
  omega
/-- all of a round: just the part -/
theorem oft_round {X : List (Int × Int)} {W : Nat} (hW : 0 < W) : Nrm X → (∀ x ∈ X, x.1 ∣ (W : Int)) → oftenN X W = partX W X := by
  induction X with
  | nil => exact fun _ _ => rfl
  | cons x X ih =>
    intro h hd
    have ih := ih (fun y hy => h y (List.mem_cons_of_mem _ hy)) fun y hy => hd y (List.mem_cons_of_mem _ hy)
    obtain ⟨a, c⟩ := h x (List.mem_cons_self ..)
    obtain ⟨q, e⟩ := hd x (List.mem_cons_self ..)
    show (((W : Int) - 1 - x.2) / x.1 + 1) + oftenN X W = (W : Int) / x.1 + partX W X
    rw [ih]
    congr 1
    rw [e, Int.mul_ediv_cancel_left _ (by omega)]
    have : (x.1 * q - 1 - x.2) / x.1 = q - 1 := by
      have e2 : x.1 * q - 1 - x.2 = (x.1 - 1 - x.2) + x.1 * (q - 1) := by
        rw [Int.mul_sub, Int.mul_one]
        omega
      rw [e2, Int.add_mul_ediv_left _ _ (by omega), Int.ediv_eq_zero_of_lt (by omega) (by omega)]
      omega
    omega
/-- so many dark beats of so many from a beat on -/
def dkN (ls : List (Int × Int)) (b : Int) (n : Nat) : Int := justN ls b n 0
theorem part_round {M : Nat → List (Int × Int)} {ls : List (Int × Int)} {b : Int} {W : Nat} (h : Tally M ls b W) (hx : TallyX M ls) (hl : ls.length ≤ 10) (hW : 0 < W) (hd : ∀ l ∈ ls, l.1 ∣ (W : Int)) :
    partN M ls.length W = dkN ls b W := by
  unfold dkN
  rw [← h.just0 (Nat.le_refl _) hl]
  unfold partN oftA
  congr 1
  refine List.map_congr_left fun m _ => ?_
  exact (oft_round hW (h.nrm m) fun x hx' => (hx.dvd m x hx').2 W hd).symm
theorem dk_zero (ls : List (Int × Int)) (b : Int) : dkN ls b 0 = 0 := rfl
theorem dk_succ (ls : List (Int × Int)) (b : Int) (n : Nat) : dkN ls b (n + 1) = dkN ls b n + if cntL ls (b + (n : Nat)) = 0 then 1 else 0 := rfl
theorem dk_one_le (ls : List (Int × Int)) (b : Int) (n : Nat) : 0 ≤ dkN ls b n ∧ dkN ls b n ≤ n := by
  induction n with
  | zero => exact ⟨Int.le_refl _, Int.le_refl _⟩
  | succ n ih =>
    rw [dk_succ]
    split <;> omega
theorem dk_split (ls : List (Int × Int)) (b : Int) (m n : Nat) : dkN ls b (m + n) = dkN ls b m + dkN ls (b + m) n := by
  unfold dkN justN
  rw [sumR_split]
  congr 1
  refine sumR_congr fun i _ => ?_
  rw [show b + ((m + i : Nat) : Int) = b + m + (i : Nat) by omega]
theorem dk_mono (ls : List (Int × Int)) (b : Int) {m n : Nat} (h : m ≤ n) : dkN ls b m ≤ dkN ls b n := by
  obtain ⟨k, rfl⟩ := Nat.exists_eq_add_of_le h
  rw [dk_split]
  have := dk_one_le ls (b + m) k
  omega
theorem dk_pos {ls : List (Int × Int)} {b : Int} {n : Nat} : 0 < dkN ls b n ↔ ∃ t : Nat, t < n ∧ ¬ Bright ls (b + (t : Nat)) := by
  induction n with
  | zero => exact ⟨fun h => absurd h (Int.lt_irrefl _), fun ⟨t, h, _⟩ => absurd h (Nat.not_lt_zero t)⟩
  | succ n ih =>
    rw [dk_succ]
    constructor
    · intro h
      by_cases c : cntL ls (b + (n : Nat)) = 0
      · exact ⟨n, Nat.lt_succ_self n, cnt_zero.mp c⟩
      · rw [if_neg c] at h
        obtain ⟨t, h1, h2⟩ := ih.mp (by omega)
        exact ⟨t, by omega, h2⟩
    · rintro ⟨t, h1, h2⟩
      by_cases e : t = n
      · rw [e] at h2
        rw [if_pos (cnt_zero.mpr h2)]
        have := (dk_one_le ls b n).1
        omega
      · have := ih.mpr ⟨t, by omega, h2⟩
        split <;> omega
/-- each wait has a dark beat -/
theorem dk_wait {ls : List (Int × Int)} (h : ¬ ∀ x, Bright ls x) (b : Int) : 1 ≤ dkN ls b (2 ^ ls.length) := by
  refine dk_pos.mpr ?_
  refine Classical.byContradiction fun z => h fun x => wait_all ls b (fun i hi => ?_) x
  exact Classical.byContradiction fun c => z ⟨i, hi, c⟩
theorem dk_waits {ls : List (Int × Int)} (h : ¬ ∀ x, Bright ls x) (b : Int) : ∀ N : Nat, (N : Int) ≤ dkN ls b (N * 2 ^ ls.length)
  | 0 => by rw [Nat.zero_mul]; exact Int.le_refl _
  | N + 1 => by
    rw [Nat.add_mul, Nat.one_mul, dk_split]
    have h1 := dk_waits h b N
    have h2 := dk_wait h (b + (N * 2 ^ ls.length : Nat))
    omega
theorem dk_none {ls : List (Int × Int)} (h : ∀ x, Bright ls x) (b : Int) (n : Nat) : dkN ls b n = 0 := by
  have h1 := dk_one_le ls b n
  rcases Int.lt_or_le 0 (dkN ls b n) with c | c
  · obtain ⟨t, _, z⟩ := dk_pos.mp c
    exact absurd (h _) z
  · omega
/-- the jump ahead: no further than what is known, fewer dark than wanted -/
theorem jump_ok {M : Nat → List (Int × Int)} {ls : List (Int × Int)} {b : Int} {N : Nat} (hnb : ¬ ∀ x, Bright ls x) (hN : 2 ^ ls.length < N) (h : Tally M ls b (N * 2 ^ ls.length)) (hx : TallyX M ls) (hl : ls.length ≤ 10) {W : Int} (hW : 0 < W) (hd : ∀ l ∈ ls, l.1 ∣ W) :
    0 < partN M ls.length W ∧ ∃ L : Nat, ((N : Int) - 2 ^ ls.length) * W / partN M ls.length W = L ∧ L ≤ N * 2 ^ ls.length ∧ oftA M ls.length L = dkN ls b L ∧ dkN ls b L < N := by
  have e2 : ((2 ^ ls.length : Nat) : Int) = 2 ^ ls.length := by norm_cast
  have w0 : (0 : Int) < 2 ^ ls.length := Int.pow_pos (by decide)
  have o := fun L => part_off h hx hl hW hd L
  have hN' : (2 : Int) ^ ls.length < N := by rw [← e2]; exact_mod_cast hN
  generalize partN M ls.length W = D at *
  have h1 := (o (N * 2 ^ ls.length)).2
  rw [h.just0 (Nat.le_refl _) hl] at h1
  have h2 : (N : Int) * W ≤ dkN ls b (N * 2 ^ ls.length) * W := Int.mul_le_mul_of_nonneg_right (dk_waits hnb b N) (Int.le_of_lt hW)
  have h3 : ((N : Int) - 2 ^ ls.length) * W < ((N * 2 ^ ls.length : Nat) : Int) * D := by
    rw [Int.sub_mul]
    unfold dkN at h2
    omega
  have h4 : 0 < ((N : Int) - 2 ^ ls.length) * W := Int.mul_pos (by omega) hW
  have hD : 0 < D := by
    rcases Int.lt_or_le 0 D with c | c
    · exact c
    · have := Int.mul_nonneg (show (0 : Int) ≤ ((N * 2 ^ ls.length : Nat) : Int) by omega) (show 0 ≤ -D by omega)
      rw [Int.mul_neg] at this
      omega
  refine ⟨hD, (((N : Int) - 2 ^ ls.length) * W / D).toNat, ?_, ?_⟩
  · have := Int.ediv_nonneg (Int.le_of_lt h4) (Int.le_of_lt hD)
    omega
  have q0 := Int.ediv_nonneg (Int.le_of_lt h4) (Int.le_of_lt hD)
  have eL : ((((N : Int) - 2 ^ ls.length) * W / D).toNat : Int) = ((N : Int) - 2 ^ ls.length) * W / D := by omega
  have lL : (((N : Int) - 2 ^ ls.length) * W / D).toNat ≤ N * 2 ^ ls.length := by
    have : ((N : Int) - 2 ^ ls.length) * W / D < ((N * 2 ^ ls.length : Nat) : Int) := Int.ediv_lt_of_lt_mul hD h3
    omega
  refine ⟨lL, h.just0 lL hl, ?_⟩
  have h5 := (o (((N : Int) - 2 ^ ls.length) * W / D).toNat).2
  rw [h.just0 lL hl, eL] at h5
  have h6 : ((N : Int) - 2 ^ ls.length) * W / D * D ≤ ((N : Int) - 2 ^ ls.length) * W := Int.ediv_mul_le _ (by omega)
  generalize hn : (((N : Int) - 2 ^ ls.length) * W / D).toNat = L at *
  have h7 : dkN ls b L * W < N * W := by
    have e6 : ((N : Int) - 2 ^ ls.length) * W = N * W - 2 ^ ls.length * W := Int.sub_mul ..
    unfold dkN
    omega
  exact Int.lt_of_mul_lt_mul_right h7 (Int.le_of_lt hW)
/-- what nth_dark tells -/
def NthIs (ls : List (Int × Int)) (b : Int) (i : Nat) : Option Int → Prop
  | none => ∀ x, Bright ls x
  | some d => b ≤ d ∧ ¬ Bright ls d ∧ dkN ls b (d - b).toNat = i
theorem nth_end {ls : List (Int × Int)} {b : Int} {i s L : Nat} {d : Int} (hs : dkN ls b s = d) (h1 : dkN ls (b + s) L < (i : Int) + 1 - d) (h2 : (i : Int) + 1 - d ≤ dkN ls (b + s) (L + 1)) : NthIs ls b i (some (b + s + (L + 1 : Nat) - 1)) := by
  rw [dk_succ] at h2
  by_cases c : cntL ls (b + s + (L : Nat)) = 0
  · rw [if_pos c] at h2
    refine ⟨by omega, ?_, ?_⟩
    · rw [show b + s + ((L + 1 : Nat) : Int) - 1 = b + s + (L : Nat) by omega]
      exact cnt_zero.mp c
    · rw [show (b + s + ((L + 1 : Nat) : Int) - 1 - b).toNat = s + L by omega, dk_split]
      omega
  · rw [if_neg c] at h2
    omega
theorem NthIs.uniq {ls : List (Int × Int)} {b : Int} {i : Nat} {o o' : Option Int} (h : NthIs ls b i o) (h' : NthIs ls b i o') : o = o' := by
  cases o with
  | none =>
    cases o' with
    | none => rfl
    | some d => exact absurd (h d) h'.2.1
  | some d =>
    cases o' with
    | none => exact absurd (h' d) h.2.1
    | some d' =>
      have key : ∀ {d d' : Int}, NthIs ls b i (some d) → NthIs ls b i (some d') → d < d' → False := fun {d d'} h h' c => by
        obtain ⟨a1, a2, a3⟩ := h
        obtain ⟨b1, b2, b3⟩ := h'
        have e : dkN ls b ((d - b).toNat + 1) = i + 1 := by
          rw [dk_succ, a3, show b + (((d - b).toNat : Nat) : Int) = d by omega, if_pos (cnt_zero.mpr a2)]
        have m := dk_mono ls b (show (d - b).toNat + 1 ≤ (d' - b).toNat by omega)
        omega
      rcases Int.lt_trichotomy d d' with c | c | c
      · exact (key h h' c).elim
      · rw [c]
      · exact (key h' h c).elim
theorem dk_far {ls : List (Int × Int)} {W : Int} (hd : ∀ l ∈ ls, l.1 ∣ W) (b : Int) (n : Nat) : dkN ls (b + W) n = dkN ls b n := by
  refine sumR_congr fun t _ => ?_
  have : cntL ls (b + W + (t : Nat)) = cntL ls (b + (t : Nat)) := by
    unfold cntL
    congr 1
    refine List.filter_congr fun l hl => ?_
    refine decide_eq_decide.mpr ?_
    rw [show b + W + (t : Nat) - l.2 = (b + (t : Nat) - l.2) + W by omega]
    exact ⟨fun h => by have := Int.dvd_sub h (hd l hl); rwa [Int.add_sub_cancel] at this, fun h => Int.dvd_add h (hd l hl)⟩
  rw [this]
def shareIs (ls : List (Int × Int)) : Int × Int := (dkN ls 0 (roundN ls) / (Nat.gcd (dkN ls 0 (roundN ls)).natAbs (roundN ls) : Nat), (roundN ls : Nat) / (Nat.gcd (dkN ls 0 (roundN ls)).natAbs (roundN ls) : Nat))

/-! ### any light has its meetings; the share -/
theorem meet_ex (x y : Int × Int) (hx : 0 < x.1) (hy : 0 < y.1) : ∃ o, MeetO (some x) (some y) o := by
  by_cases h : ∃ t, Shn (some x) t ∧ Shn (some y) t
  · obtain ⟨t0, h1, h2⟩ := h
    have h1 : x.1 ∣ t0 - x.2 := h1
    have h2 : y.1 ∣ t0 - y.2 := h2
    have lp : 0 < (Nat.lcm x.1.natAbs y.1.natAbs : Int) := by
      have := Nat.lcm_pos (show 0 < x.1.natAbs by omega) (show 0 < y.1.natAbs by omega)
      omega
    refine ⟨some ((Nat.lcm x.1.natAbs y.1.natAbs : Int), t0 % (Nat.lcm x.1.natAbs y.1.natAbs : Int)), ?_, fun t => ?_⟩
    · intro z hz
      cases hz
      exact ⟨lp, Int.emod_nonneg _ (by omega), Int.emod_lt_of_pos _ lp⟩
    · show (Nat.lcm x.1.natAbs y.1.natAbs : Int) ∣ t - t0 % _ ↔ x.1 ∣ t - x.2 ∧ y.1 ∣ t - y.2
      rw [dvd_nrm]
      have k : (Nat.lcm x.1.natAbs y.1.natAbs : Int) ∣ t - t0 ↔ x.1 ∣ t - t0 ∧ y.1 ∣ t - t0 := by
        rw [← Int.dvd_natAbs, Int.natCast_dvd_natCast]
        constructor
        · intro h
          exact ⟨Int.natAbs_dvd_natAbs.mp (Nat.dvd_trans (Nat.dvd_lcm_left _ _) h), Int.natAbs_dvd_natAbs.mp (Nat.dvd_trans (Nat.dvd_lcm_right _ _) h)⟩
        · rintro ⟨a, c⟩
          exact Nat.lcm_dvd (Int.natAbs_dvd_natAbs.mpr a) (Int.natAbs_dvd_natAbs.mpr c)
      rw [k]
      have e1 : x.1 ∣ t - t0 ↔ x.1 ∣ t - x.2 := by
        rw [show t - x.2 = (t - t0) + (t0 - x.2) by omega]
        exact (Int.dvd_add_left h1).symm
      have e2 : y.1 ∣ t - t0 ↔ y.1 ∣ t - y.2 := by
        rw [show t - y.2 = (t - t0) + (t0 - y.2) by omega]
        exact (Int.dvd_add_left h2).symm
      rw [e1, e2]
  · refine ⟨none, fun z hz => (nomatch hz), fun t => ⟨fun z => z.elim, fun z => h ⟨t, z⟩⟩⟩
theorem ext_ex (l : Int × Int) (hl : 0 < l.1) (lim : Nat) (X : List (Int × Int)) (hX : ∀ x ∈ X, 0 < x.1) : ∃ Y, ExtR l lim X Y := by
  have key : ∃ os : List OLp, os.length = X.length ∧ ∀ (i : Nat) x o, X[i]? = some x → os[i]? = some o → MeetO (some x) (some l) o := by
    induction X with
    | nil => exact ⟨[], rfl, fun i x o h => by cases h⟩
    | cons y X ih =>
      obtain ⟨os, h1, h2⟩ := ih fun x hx => hX x (List.mem_cons_of_mem _ hx)
      obtain ⟨o, ho⟩ := meet_ex y l (hX y (List.mem_cons_self ..)) hl
      refine ⟨o :: os, by rw [List.length_cons, List.length_cons, h1], fun i x o' h3 h4 => ?_⟩
      cases i with
      | zero =>
        cases h3
        cases h4
        exact ho
      | succ i => exact h2 i x o' h3 h4
  obtain ⟨os, h1, h2⟩ := key
  exact ⟨_, os, h1, h2, rfl⟩
theorem tally_ex (b : Int) (lim : Nat) (ls : List (Int × Int)) (hp : ∀ l ∈ ls, 0 < l.1) : ∃ M, Tally M ls b lim ∧ TallyX M ls := by
  suffices h : ∀ (n : Nat) (ls : List (Int × Int)), ls.length = n → (∀ l ∈ ls, 0 < l.1) → ∃ M, Tally M ls b lim ∧ TallyX M ls from h _ ls rfl hp
  intro n
  induction n with
  | zero =>
    intro ls e _
    rw [List.length_eq_zero_iff.mp e]
    exact ⟨_, Tally.zero b lim, TallyX.zero⟩
  | succ n ih =>
    intro ls e hp
    rcases List.eq_nil_or_concat ls with h | ⟨ms, l, h⟩
    · rw [h] at e
      cases e
    · rw [List.concat_eq_append] at h
      subst h
      rw [List.length_append] at e
      obtain ⟨M, ty, tx⟩ := ih ms (by have : [l].length = 1 := rfl; omega) fun x hx => hp x (List.mem_append_left _ hx)
      have hl := hp l (List.mem_append_right _ (List.mem_singleton.mpr rfl))
      have hY : ∀ m, ∃ Y, ExtR (l.1, (l.2 - b) % l.1) lim (M m) Y := fun m => ext_ex (l.1, (l.2 - b) % l.1) hl lim (M m) fun x hx => (tx.dvd m x hx).1
      refine ⟨fun m => match m with | 0 => M 0 | m + 1 => M (m + 1) ++ Classical.choose (hY m), ?_, ?_⟩
      · exact ty.step rfl fun m => ⟨_, Classical.choose_spec (hY m), rfl⟩
      · exact tx.step (b := b) (lim := lim) rfl fun m => ⟨_, Classical.choose_spec (hY m), rfl⟩
theorem part_more {M : Nat → List (Int × Int)} {ls : List (Int × Int)} {b : Int} {lim W : Nat} (h : Tally M ls b lim) (hx : TallyX M ls) (hl : ls.length ≤ 10) (hW : 0 < W) (hd : ∀ l ∈ ls, l.1 ∣ (W : Int)) (hm : W ≤ lim) :
    partN M ls.length W = dkN ls b W := by
  unfold dkN
  rw [← h.just0 hm hl]
  unfold partN oftA
  congr 1
  refine List.map_congr_left fun m _ => ?_
  exact (oft_round hW (h.nrm m) fun x hx' => (hx.dvd m x hx').2 W hd).symm
theorem dk_any {ls : List (Int × Int)} {W : Nat} (hW : 0 < W) (hd : ∀ l ∈ ls, l.1 ∣ (W : Int)) (b c : Int) : dkN ls b W = dkN ls c W := by
  have up : ∀ b, dkN ls (b + 1) W = dkN ls b W := fun b => by
    have h1 := dk_split ls b 1 W
    have h2 := dk_split ls b W 1
    rw [Nat.add_comm] at h1
    have h3 := dk_far hd b 1
    have e : b + ((1 : Nat) : Int) = b + 1 := rfl
    rw [e] at h1
    omega
  have many : ∀ (n : Nat) (b : Int), dkN ls (b + n) W = dkN ls b W := fun n => by
    induction n with
    | zero => exact fun b => by rw [show b + ((0 : Nat) : Int) = b by omega]
    | succ n ih => exact fun b => by rw [show b + ((n + 1 : Nat) : Int) = (b + n) + 1 by omega, up, ih]
  rcases Int.le_total b c with h | h
  · have := many (c - b).toNat b
    rw [show b + ((c - b).toNat : Int) = c by omega] at this
    exact this.symm
  · have := many (b - c).toNat c
    rw [show c + ((b - c).toNat : Int) = b by omega] at this
    exact this
/-- however far: off by less than the wait -/
theorem dk_off {ls : List (Int × Int)} (hp : ∀ l ∈ ls, 0 < l.1) (hl : ls.length ≤ 10) {W : Nat} (hW : 0 < W) (hd : ∀ l ∈ ls, l.1 ∣ (W : Int)) (b : Int) (n : Nat) :
    -(2 ^ ls.length * (W : Int)) < dkN ls b n * W - n * dkN ls 0 W ∧ dkN ls b n * W - n * dkN ls 0 W < 2 ^ ls.length * (W : Int) := by
  obtain ⟨M, ty, tx⟩ := tally_ex b (max n W) ls hp
  have h := part_off ty tx hl (W := (W : Int)) (by omega) hd n
  rw [ty.just0 (Nat.le_max_left _ _) hl, part_more ty tx hl hW hd (Nat.le_max_right _ _), dk_any hW hd b 0] at h
  exact h
structure ShareF (ls : List (Int × Int)) (T B : Int) (g : Nat) : Prop where
  g0 : 0 < g
  t : T * g = dkN ls 0 (roundN ls)
  b : B * g = (roundN ls : Nat)
  t0 : 0 ≤ T
  tb : T ≤ B
  b1 : 1 ≤ B
  gcd : Int.gcd B T = 1
theorem share_f {ls : List (Int × Int)} (hp : ∀ l ∈ ls, 0 < l.1) : ∃ g, ShareF ls (shareIs ls).1 (shareIs ls).2 g := by
  have W0 := round_pos hp
  have d0 := dk_one_le ls 0 (roundN ls)
  obtain ⟨d, hd⟩ : ∃ d : Nat, dkN ls 0 (roundN ls) = d := ⟨(dkN ls 0 (roundN ls)).toNat, by omega⟩
  unfold shareIs
  rw [hd] at d0
  generalize hW : roundN ls = W at *
  rw [hd, Int.natAbs_natCast]
  have g0 : 0 < Nat.gcd d W := Nat.gcd_pos_of_pos_right _ W0
  have e1 : d / Nat.gcd d W * Nat.gcd d W = d := Nat.div_mul_cancel (Nat.gcd_dvd_left _ _)
  have e2 : W / Nat.gcd d W * Nat.gcd d W = W := Nat.div_mul_cancel (Nat.gcd_dvd_right _ _)
  have c1 : (d : Int) / (Nat.gcd d W : Nat) = ((d / Nat.gcd d W : Nat) : Int) := by norm_cast
  have c2 : (W : Int) / (Nat.gcd d W : Nat) = ((W / Nat.gcd d W : Nat) : Int) := by norm_cast
  refine ⟨Nat.gcd d W, g0, ?_, ?_, ?_, ?_, ?_, ?_⟩
  · rw [hW, hd]
    show (d : Int) / (Nat.gcd d W : Nat) * _ = _
    rw [c1]
    exact_mod_cast e1
  · rw [hW]
    show (W : Int) / (Nat.gcd d W : Nat) * _ = _
    rw [c2]
    exact_mod_cast e2
  · show 0 ≤ (d : Int) / (Nat.gcd d W : Nat)
    exact Int.ediv_nonneg (by omega) (by omega)
  · show (d : Int) / (Nat.gcd d W : Nat) ≤ (W : Int) / (Nat.gcd d W : Nat)
    exact Int.ediv_le_ediv (by omega) (by omega)
  · show 1 ≤ (W : Int) / (Nat.gcd d W : Nat)
    rw [c2]
    have : 0 < W / Nat.gcd d W := Nat.div_pos (Nat.le_of_dvd W0 (Nat.gcd_dvd_right _ _)) g0
    omega
  · show Int.gcd ((W : Int) / (Nat.gcd d W : Nat)) ((d : Int) / (Nat.gcd d W : Nat)) = 1
    rw [c1, c2]
    show Nat.gcd (W / Nat.gcd d W) (d / Nat.gcd d W) = 1
    rw [Nat.gcd_comm]
    exact Nat.gcd_div_gcd_div_gcd_of_pos_right W0
/-- the parts of a round, in lowest terms: the same of any common multiple -/
theorem ShareF.off {ls : List (Int × Int)} {T B : Int} {g : Nat} (h : ShareF ls T B g) (hp : ∀ l ∈ ls, 0 < l.1) (hl : ls.length ≤ 10) (b : Int) (n : Nat) :
    -(2 ^ ls.length * B) < dkN ls b n * B - T * n ∧ dkN ls b n * B - T * n < 2 ^ ls.length * B := by
  have o := dk_off hp hl (round_pos hp) round_dvd b n
  rw [← h.t, ← h.b] at o
  have g0 : (0 : Int) < g := by have := h.g0; omega
  have e1 : dkN ls b n * (B * g) - n * (T * g) = (dkN ls b n * B - T * n) * g := by
    rw [Int.sub_mul, Int.mul_assoc, ← Int.mul_assoc (n : Int), Int.mul_comm (n : Int)]
  have e2 : (2 : Int) ^ ls.length * (B * g) = 2 ^ ls.length * B * g := (Int.mul_assoc ..).symm
  rw [e1, e2, ← Int.neg_mul] at o
  exact ⟨Int.lt_of_mul_lt_mul_right o.1 (Int.le_of_lt g0), Int.lt_of_mul_lt_mul_right o.2 (Int.le_of_lt g0)⟩
theorem ShareF.whole {ls : List (Int × Int)} {T B : Int} {g : Nat} (h : ShareF ls T B g) (hp : ∀ l ∈ ls, 0 < l.1) {W : Nat} (hd : roundN ls ∣ W) (b : Int) : dkN ls b W * B = T * W := by
  have g0 : (0 : Int) < g := by have := h.g0; omega
  obtain ⟨q, rfl⟩ := hd
  have e : ∀ q : Nat, dkN ls b (roundN ls * q) = q * dkN ls 0 (roundN ls) := fun q => by
    induction q with
    | zero => rw [Nat.mul_zero, dk_zero]; exact (Int.zero_mul _).symm
    | succ q ih =>
      rw [Nat.mul_succ, dk_split, ih, dk_any (round_pos hp) round_dvd (b + (roundN ls * q : Nat)) 0, Int.natCast_add, Int.add_mul]
      show _ = _ + (1 : Int) * _
      rw [Int.one_mul]
  rw [e, Int.natCast_mul, ← h.t, ← h.b]
  have : (q : Int) * (T * g) * B = T * (B * g * q) := by
    rw [Int.mul_comm (q : Int), Int.mul_assoc, Int.mul_assoc, Int.mul_assoc]
    congr 1
    rw [Int.mul_comm B, Int.mul_assoc]
  exact this
theorem foldR_nrm : ∀ (ls : List (Int × Int)) (w : Nat), foldR w (ls.map nrm) = foldR w ls
  | [], _ => rfl
  | l :: ls, w => foldR_nrm ls (Nat.lcm w l.1.natAbs)
theorem round_nrm (ls : List (Int × Int)) : roundN (ls.map nrm) = roundN ls := foldR_nrm ls 1
theorem ShareF.two {ls : List (Int × Int)} {T B : Int} {g : Nat} (h : ShareF ls T B g) (hp : ∀ l ∈ ls, 0 < l.1) (hl : ls.length ≤ 10) (b c : Int) (n : Nat) :
    dkN ls b n - dkN ls c n < 2 * 2 ^ ls.length := by
  have h1 := h.off hp hl b n
  have h2 := h.off hp hl c n
  have b1 := h.b1
  refine Int.lt_of_mul_lt_mul_right (a := B) ?_ (by omega)
  have e1 : (dkN ls b n - dkN ls c n) * B = dkN ls b n * B - dkN ls c n * B := Int.sub_mul ..
  have e2 : (2 : Int) * 2 ^ ls.length * B = 2 * (2 ^ ls.length * B) := Int.mul_assoc ..
  omega
theorem nth_zero {ls : List (Int × Int)} {b d : Int} (h : nextD ls b = some d) : NthIs ls b 0 (some d) := by
  obtain ⟨h1, h2, h3, h4⟩ := nextD_spec h
  refine ⟨h1, h3, ?_⟩
  have z := dk_one_le ls b (d - b).toNat
  rcases Int.lt_or_le 0 (dkN ls b (d - b).toNat) with c | c
  · obtain ⟨t, ht, hb⟩ := dk_pos.mp c
    exact absurd (h4 _ (by omega) (by omega)) hb
  · show _ = (0 : Int)
    omega
theorem nth_add {ls : List (Int × Int)} {b d e : Int} {i m : Nat} (h : NthIs ls b i (some d)) (h' : NthIs ls d m (some e)) : NthIs ls b (i + m) (some e) := by
  obtain ⟨a1, a2, a3⟩ := h
  obtain ⟨b1, b2, b3⟩ := h'
  refine ⟨by omega, b2, ?_⟩
  rw [show (e - b).toNat = (d - b).toNat + (e - d).toNat by omega, dk_split, show b + ((d - b).toNat : Int) = d by omega, a3, b3]
  omega
theorem nth_succ {ls : List (Int × Int)} {b d e : Int} {i : Nat} (h : NthIs ls b i (some d)) (h' : nextD ls (d + 1) = some e) : NthIs ls b (i + 1) (some e) := by
  obtain ⟨h1, h2, h3, h4⟩ := nextD_spec h'
  refine nth_add h ⟨by omega, h3, ?_⟩
  have hz := nth_zero h'
  obtain ⟨_, _, z⟩ := hz
  rw [show (e - d).toNat = 1 + (e - (d + 1)).toNat by omega, dk_split]
  have : d + ((1 : Nat) : Int) = d + 1 := rfl
  rw [this, z, dk_succ, dk_zero, show d + ((0 : Nat) : Int) = d by omega, if_pos (cnt_zero.mpr h.2.1)]
  rfl
theorem nextD_ex {ls : List (Int × Int)} {d : Int} (h : ¬ Bright ls d) (t : Int) : ∃ e, nextD ls t = some e := by
  cases e : nextD ls t with
  | some x => exact ⟨x, rfl⟩
  | none => exact absurd (nextD_none.mp e d) h
theorem nth_next {ls : List (Int × Int)} {b d e : Int} {i : Nat} (h : NthIs ls b i (some d)) (h' : NthIs ls b (i + 1) (some e)) : nextD ls (d + 1) = some e := by
  obtain ⟨e', he⟩ := nextD_ex h.2.1 (d + 1)
  rw [he, (nth_succ h he).uniq h']
theorem nth_last {ls : List (Int × Int)} {b d e : Int} {i : Nat} (h : NthIs ls b i (some d)) (h' : NthIs ls b (i + 1) (some e)) : lastD ls (e - 1) = some d := by
  obtain ⟨h1, _, _, h4⟩ := nextD_spec (nth_next h h')
  exact lastD_of (by omega) h.2.1 fun x a c => h4 x (by omega) (by omega)
theorem nextD_self {ls : List (Int × Int)} {d : Int} (h : ¬ Bright ls d) : nextD ls d = some d := nextD_of (Int.le_refl _) h fun x a c => absurd a (by omega)
theorem lastD_self {ls : List (Int × Int)} {d : Int} (h : ¬ Bright ls d) : lastD ls d = some d := lastD_of (Int.le_refl _) h fun x a c => absurd c (by omega)
theorem nth_bd {ls : List (Int × Int)} {b d : Int} {i : Nat} (h : NthIs ls b i (some d)) : (d - b).toNat < (i + 1) * 2 ^ ls.length := by
  obtain ⟨h1, h2, h3⟩ := h
  rcases Nat.lt_or_ge (d - b).toNat ((i + 1) * 2 ^ ls.length) with c | c
  · exact c
  · have m := dk_mono ls b c
    have w := dk_waits (fun z => h2 (z d)) b (i + 1)
    omega

/-! ### lowest terms -/
theorem lowest_uniq {a u T B : Nat} (h : a * B = T * u) (g : Nat.gcd B T = 1) (hB : 0 < B) (hu : 0 < u) : a / Nat.gcd a u = T ∧ u / Nat.gcd a u = B := by
  have d1 : B ∣ u := by
    have : B ∣ T * u := ⟨a, by rw [← h, Nat.mul_comm]⟩
    exact Nat.Coprime.dvd_of_dvd_mul_left g this
  obtain ⟨k, rfl⟩ := d1
  have k0 : 0 < k := Nat.pos_of_mul_pos_left hu
  have ea : a = T * k := by
    have : a * B = T * k * B := by rw [h, Nat.mul_assoc, Nat.mul_comm B k]
    exact Nat.eq_of_mul_eq_mul_right hB this
  subst ea
  have eg : Nat.gcd (T * k) (B * k) = k := by rw [Nat.gcd_mul_right, Nat.gcd_comm T B, g, Nat.one_mul]
  rw [eg]
  exact ⟨Nat.mul_div_cancel _ k0, Nat.mul_div_cancel _ k0⟩
/-- what share tells is the dark part of any common multiple, in lowest terms -/
theorem share_walk {ls : List (Int × Int)} {T B : Int} {g : Nat} (h : ShareF ls T B g) (hp : ∀ l ∈ ls, 0 < l.1) {u : Nat} (hu : 0 < u) (hd : ∀ l ∈ ls, l.1 ∣ (u : Int)) (b : Int) :
    dkN ls b u / (Int.gcd (dkN ls b u) u : Nat) = T ∧ (u : Int) / (Int.gcd (dkN ls b u) u : Nat) = B := by
  have e := h.whole hp (W := u) (Int.natCast_dvd_natCast.mp (round_least hd)) b
  have d0 := dk_one_le ls b u
  obtain ⟨a, ha⟩ : ∃ a : Nat, dkN ls b u = a := ⟨(dkN ls b u).toNat, by omega⟩
  obtain ⟨t, ht⟩ : ∃ t : Nat, T = t := ⟨T.toNat, by have := h.t0; omega⟩
  obtain ⟨c, hc⟩ : ∃ c : Nat, B = c := ⟨B.toNat, by have := h.b1; omega⟩
  have g1 := h.gcd
  have b1 := h.b1
  rw [ha, ht, hc] at e
  rw [ht, hc] at g1
  rw [ha, ht, hc]
  obtain ⟨x, y⟩ := lowest_uniq (a := a) (u := u) (T := t) (B := c) (by exact_mod_cast e) g1 (by omega) hu
  show (a : Int) / ((Nat.gcd a u : Nat) : Int) = t ∧ (u : Int) / ((Nat.gcd a u : Nat) : Int) = c
  constructor
  · exact_mod_cast x
  · exact_mod_cast y
/-- two lamps without a common divisor meet, at every so many beats as their product -/
theorem meet_cop {x l : Int × Int} {o : OLp} (hx : 0 < x.1) (hl : 0 < l.1) (hg : Int.gcd x.1 l.1 = 1) (hm : MeetO (some x) (some l) o) : ∃ y, o = some y ∧ y.1 = x.1 * l.1 := by
  obtain ⟨r, hr⟩ := inv_ex hl (show Int.gcd l.1 x.1 = 1 by rw [Int.gcd_comm]; exact hg)
  have both : Shn (some x) (x.2 + x.1 * r * (l.2 - x.2)) ∧ Shn (some l) (x.2 + x.1 * r * (l.2 - x.2)) := by
    constructor
    · show x.1 ∣ x.2 + x.1 * r * (l.2 - x.2) - x.2
      exact ⟨r * (l.2 - x.2), by rw [Int.mul_assoc]; omega⟩
    · show l.1 ∣ x.2 + x.1 * r * (l.2 - x.2) - l.2
      have e : x.2 + x.1 * r * (l.2 - x.2) - l.2 = (x.1 * r - 1) * (l.2 - x.2) := by rw [Int.sub_mul, Int.one_mul]; omega
      rw [e]
      exact Int.dvd_mul_of_dvd_left hr
  cases o with
  | none => exact ((hm.2 _).mpr both).elim
  | some y =>
    refine ⟨y, rfl, ?_⟩
    obtain ⟨y0, y1, y2⟩ := hm.1 y rfl
    have s0 : Shn (some y) y.2 := ⟨0, by rw [Int.mul_zero]; omega⟩
    obtain ⟨a1, a2⟩ := (hm.2 y.2).mp s0
    have a1 : x.1 ∣ y.2 - x.2 := a1
    have a2 : l.1 ∣ y.2 - l.2 := a2
    have s1 : Shn (some y) (y.2 + y.1) := ⟨1, by rw [Int.mul_one]; omega⟩
    obtain ⟨b1, b2⟩ := (hm.2 _).mp s1
    have b1 : x.1 ∣ y.2 + y.1 - x.2 := b1
    have b2 : l.1 ∣ y.2 + y.1 - l.2 := b2
    have c1 : x.1 ∣ y.1 := by
      have := Int.dvd_sub b1 a1
      rwa [show y.2 + y.1 - x.2 - (y.2 - x.2) = y.1 by omega] at this
    have c2 : l.1 ∣ y.1 := by
      have := Int.dvd_sub b2 a2
      rwa [show y.2 + y.1 - l.2 - (y.2 - l.2) = y.1 by omega] at this
    have d1 : y.1 ∣ x.1 * l.1 := by
      have : Shn (some y) (y.2 + x.1 * l.1) := (hm.2 _).mpr ⟨by
        show x.1 ∣ y.2 + x.1 * l.1 - x.2
        rw [show y.2 + x.1 * l.1 - x.2 = (y.2 - x.2) + x.1 * l.1 by omega]
        exact Int.dvd_add a1 ⟨l.1, rfl⟩, by
        show l.1 ∣ y.2 + x.1 * l.1 - l.2
        rw [show y.2 + x.1 * l.1 - l.2 = (y.2 - l.2) + x.1 * l.1 by omega]
        exact Int.dvd_add a2 ⟨x.1, Int.mul_comm ..⟩⟩
      have this : y.1 ∣ y.2 + x.1 * l.1 - y.2 := this
      rwa [show y.2 + x.1 * l.1 - y.2 = x.1 * l.1 by omega] at this
    have d2 : x.1 * l.1 ∣ y.1 := by
      have k : (x.1.natAbs * l.1.natAbs) ∣ y.1.natAbs := Nat.Coprime.mul_dvd_of_dvd_of_dvd hg (Int.natAbs_dvd_natAbs.mpr c1) (Int.natAbs_dvd_natAbs.mpr c2)
      rw [← Int.natAbs_mul] at k
      exact Int.natAbs_dvd_natAbs.mp k
    exact Int.dvd_antisymm (by omega) (Int.le_of_lt (Int.mul_pos hx hl)) d1 d2
theorem ext_cop {l : Int × Int} {lim : Nat} {W : Int} (hl : 0 < l.1) (hW : 0 < W) (hlim : W ≤ lim) : ∀ {X Y : List (Int × Int)}, (∀ x ∈ X, 0 < x.1 ∧ Int.gcd x.1 l.1 = 1 ∧ x.1 * l.1 ∣ W) → ExtR l lim X Y → l.1 * partX W Y = partX W X
  | [], Y, _, h => by
    obtain ⟨os, h1, _, rfl⟩ := h
    rw [List.length_eq_zero_iff.mp h1]
    exact Int.mul_zero _
  | x :: X, Y, hX, h => by
    obtain ⟨o, Y', hm, h', rfl⟩ := ext_cons h
    have ih := ext_cop hl hW hlim (fun y hy => hX y (List.mem_cons_of_mem _ hy)) h'
    obtain ⟨x0, xg, xd⟩ := hX x (List.mem_cons_self ..)
    obtain ⟨y, rfl, e⟩ := meet_cop x0 hl xg hm
    obtain ⟨y0, y1, y2⟩ := hm.1 y rfl
    have yW : y.1 ≤ W := by rw [e]; exact Int.le_of_dvd hW xd
    have eb : ((some y).bind fun y => if y.2 < (lim : Int) then some y else none) = some y := by
      show (if y.2 < (lim : Int) then some y else none) = some y
      rw [if_pos (by omega)]
    rw [eb]
    show l.1 * (W / y.1 + partX W Y') = W / x.1 + partX W X
    rw [Int.mul_add, ih, e]
    congr 1
    obtain ⟨q, rfl⟩ := xd
    rw [Int.mul_ediv_cancel_left _ (by have := Int.mul_pos x0 hl; omega), Int.mul_assoc, Int.mul_ediv_cancel_left _ (by omega)]
def prodP (ls : List (Int × Int)) : Int := ls.foldr (fun l z => l.1 * z) 1
def prodQ (ls : List (Int × Int)) : Int := ls.foldr (fun l z => (l.1 - 1) * z) 1
theorem alt_lin (p : Int) {f g h : Nat → Int} : ∀ ms : List Nat, (∀ m ∈ ms, p * f m = p * g m + h m) → p * alt (ms.map f) = p * alt (ms.map g) + alt (ms.map h)
  | [], _ => by show p * 0 = p * 0 + 0; rw [Int.mul_zero]; rfl
  | m :: ms, e => by
    have ih := alt_lin p ms fun y hy => e y (List.mem_cons_of_mem _ hy)
    have h1 := e m (List.mem_cons_self ..)
    show p * (f m - alt (ms.map f)) = p * (g m - alt (ms.map g)) + (h m - alt (ms.map h))
    rw [Int.mul_sub, Int.mul_sub, ih, h1]
    omega
theorem alt_end : ∀ xs : List Int, alt (xs ++ [0]) = alt xs
  | [] => rfl
  | x :: xs => by
    show x - alt (xs ++ [0]) = x - alt xs
    rw [alt_end xs]
theorem part_end {M : Nat → List (Int × Int)} {n : Nat} {W : Int} (h : M (n + 1) = []) : partN M (n + 1) W = partN M n W := by
  unfold partN
  rw [List.range_succ (n := n + 1), List.map_append, List.map_cons, List.map_nil, h]
  exact alt_end _
theorem part_step {M M' : Nat → List (Int × Int)} {n : Nat} {W p : Int} (h0 : M' 0 = M 0) (hs : ∀ m, p * partX W (M' (m + 1)) = p * partX W (M (m + 1)) + partX W (M m)) (hz : M (n + 1) = []) : p * partN M' (n + 1) W = (p - 1) * partN M n W := by
  have key : ∀ N : Nat → List (Int × Int), partN N (n + 1) W = partX W (N 0) - alt ((List.range (n + 1)).map fun m => partX W (N (m + 1))) := fun N => by
    unfold partN
    rw [List.range_succ_eq_map (n := n + 1), List.map_cons, List.map_map]
    rfl
  have l := alt_lin p (f := fun m => partX W (M' (m + 1))) (g := fun m => partX W (M (m + 1))) (h := fun m => partX W (M m)) (List.range (n + 1)) fun m _ => hs m
  have e := part_end (W := W) hz
  rw [key M] at e
  rw [key M', h0, Int.mul_sub, l, Int.sub_mul, Int.one_mul]
  have e2 : p * partN M n W = p * partX W (M 0) - p * alt ((List.range (n + 1)).map fun m => partX W (M (m + 1))) := by rw [← e, Int.mul_sub]
  have e3 : partN M n W = alt ((List.range (n + 1)).map fun m => partX W (M m)) := rfl
  omega
theorem prodP_snoc : ∀ (ls : List (Int × Int)) (l : Int × Int), prodP (ls ++ [l]) = prodP ls * l.1
  | [], l => by show l.1 * 1 = 1 * l.1; omega
  | x :: ls, l => by
    show x.1 * prodP (ls ++ [l]) = x.1 * prodP ls * l.1
    rw [prodP_snoc ls l, Int.mul_assoc]
theorem prodQ_snoc : ∀ (ls : List (Int × Int)) (l : Int × Int), prodQ (ls ++ [l]) = prodQ ls * (l.1 - 1)
  | [], l => by show (l.1 - 1) * 1 = 1 * (l.1 - 1); omega
  | x :: ls, l => by
    show (x.1 - 1) * prodQ (ls ++ [l]) = (x.1 - 1) * prodQ ls * (l.1 - 1)
    rw [prodQ_snoc ls l, Int.mul_assoc]
/-- no two have a common divisor -/
def CopL (ls : List (Int × Int)) : Prop := ls.Pairwise fun x y => Int.gcd x.1 y.1 = 1
theorem cop_round : ∀ (ls : List (Int × Int)) (w : Nat) (p : Int), Int.gcd w p = 1 → (∀ x ∈ ls, Int.gcd x.1 p = 1) → Int.gcd (foldR w ls) p = 1
  | [], _, _, h, _ => h
  | x :: ls, w, p, h, hx => cop_round ls _ p (by
      have h1 : Nat.Coprime w p.natAbs := h
      have h2 : Nat.Coprime x.1.natAbs p.natAbs := hx x (List.mem_cons_self ..)
      exact Nat.Coprime.coprime_dvd_left (Nat.lcm_dvd_mul w x.1.natAbs) (Nat.Coprime.mul_left h1 h2)) fun y hy => hx y (List.mem_cons_of_mem _ hy)
theorem cop_part (b : Int) (lim : Nat) {W : Int} (hW : 0 < W) (hlim : W ≤ lim) : ∀ (n : Nat) (ls : List (Int × Int)), ls.length = n → (∀ l ∈ ls, 0 < l.1) → CopL ls → (∀ l ∈ ls, l.1 ∣ W) →
    ∃ M, Tally M ls b lim ∧ TallyX M ls ∧ prodP ls * partN M ls.length W = prodQ ls * W
  | 0, ls, e, _, _, _ => by
    rw [List.length_eq_zero_iff.mp e]
    refine ⟨_, Tally.zero b lim, TallyX.zero, ?_⟩
    show 1 * (alt [partX W [(1, 0)]]) = 1 * W
    show 1 * ((W / 1 + 0) - 0) = 1 * W
    rw [Int.ediv_one]
    omega
  | n + 1, ls, e, hp, hc, hd => by
    rcases List.eq_nil_or_concat ls with h | ⟨ms, l, h⟩
    · rw [h] at e
      cases e
    · rw [List.concat_eq_append] at h
      subst h
      rw [List.length_append] at e
      have lm : ms.length = n := by have : [l].length = 1 := rfl; omega
      obtain ⟨hc1, _, hc2⟩ := List.pairwise_append.mp hc
      have hp1 : ∀ x ∈ ms, 0 < x.1 := fun x hx => hp x (List.mem_append_left _ hx)
      have hd1 : ∀ x ∈ ms, x.1 ∣ W := fun x hx => hd x (List.mem_append_left _ hx)
      obtain ⟨M, ty, tx, ep⟩ := cop_part b lim hW hlim n ms lm hp1 hc1 hd1
      have hl := hp l (List.mem_append_right _ (List.mem_singleton.mpr rfl))
      have hld := hd l (List.mem_append_right _ (List.mem_singleton.mpr rfl))
      have hX : ∀ m, ∀ x ∈ M m, 0 < x.1 ∧ Int.gcd x.1 l.1 = 1 ∧ x.1 * l.1 ∣ W := fun m x hx => by
        obtain ⟨x0, xd⟩ := tx.dvd m x hx
        have g1 : Int.gcd (roundN ms) l.1 = 1 := cop_round ms 1 l.1 (by show Nat.gcd 1 _ = 1; exact Nat.gcd_one_left _) fun y hy => hc2 y hy l (List.mem_singleton.mpr rfl)
        have d1 : x.1.natAbs ∣ roundN ms := by
          have := Int.natAbs_dvd_natAbs.mpr (xd (roundN ms : Nat) round_dvd)
          rwa [Int.natAbs_natCast] at this
        have g2 : Nat.Coprime x.1.natAbs l.1.natAbs := Nat.Coprime.coprime_dvd_left d1 g1
        refine ⟨x0, g2, ?_⟩
        have k := Nat.Coprime.mul_dvd_of_dvd_of_dvd g2 (Int.natAbs_dvd_natAbs.mpr (xd W hd1)) (Int.natAbs_dvd_natAbs.mpr hld)
        rw [← Int.natAbs_mul] at k
        exact Int.natAbs_dvd_natAbs.mp k
      have hY : ∀ m, ∃ Y, ExtR (l.1, (l.2 - b) % l.1) lim (M m) Y := fun m => ext_ex (l.1, (l.2 - b) % l.1) hl lim (M m) fun x hx => (hX m x hx).1
      refine ⟨fun m => match m with | 0 => M 0 | m + 1 => M (m + 1) ++ Classical.choose (hY m), ty.step rfl fun m => ⟨_, Classical.choose_spec (hY m), rfl⟩, tx.step (b := b) (lim := lim) rfl fun m => ⟨_, Classical.choose_spec (hY m), rfl⟩, ?_⟩
      have app : ∀ X Y : List (Int × Int), partX W (X ++ Y) = partX W X + partX W Y := fun X Y => by
        unfold partX
        rw [List.map_append, List.sum_append]
      have st := part_step (M := M) (M' := fun m => match m with | 0 => M 0 | m + 1 => M (m + 1) ++ Classical.choose (hY m)) (n := ms.length) (W := W) (p := l.1) rfl (fun m => by
        show l.1 * partX W (M (m + 1) ++ Classical.choose (hY m)) = _
        rw [app, Int.mul_add]
        congr 1
        exact ext_cop (l := (l.1, (l.2 - b) % l.1)) hl hW hlim (hX m) (Classical.choose_spec (hY m))) (tx.none (Nat.lt_succ_self _))
      rw [List.length_append, prodP_snoc, prodQ_snoc]
      show prodP ms * l.1 * partN _ (ms.length + 1) W = _
      rw [Int.mul_assoc, st, Int.mul_left_comm, ep, ← Int.mul_assoc, Int.mul_comm (l.1 - 1)]
theorem share_cop {ls : List (Int × Int)} {T B : Int} {g : Nat} (h : ShareF ls T B g) (hp : ∀ l ∈ ls, 0 < l.1) (hl : ls.length ≤ 10) (hc : CopL ls) : prodP ls * T = prodQ ls * B := by
  have W0 := round_pos hp
  obtain ⟨M, ty, tx, e⟩ := cop_part 0 (roundN ls) (W := (roundN ls : Nat)) (by omega) (Int.le_refl _) ls.length ls rfl hp hc round_dvd
  rw [part_more ty tx hl W0 round_dvd (Nat.le_refl _), ← h.t, ← h.b, ← Int.mul_assoc, ← Int.mul_assoc] at e
  have g0 := h.g0
  exact Int.eq_of_mul_eq_mul_right (by omega) e

/-! ### shares of lights that are alike, products -/
theorem dk_bright {ls ms : List (Int × Int)} {b c : Int} {n : Nat} (h : ∀ t : Nat, t < n → (Bright ls (b + (t : Nat)) ↔ Bright ms (c + (t : Nat)))) : dkN ls b n = dkN ms c n := by
  unfold dkN justN
  refine sumR_congr fun t ht => ?_
  have e : cntL ls (b + (t : Nat)) = 0 ↔ cntL ms (c + (t : Nat)) = 0 := by rw [cnt_zero, cnt_zero, h t ht]
  by_cases z : cntL ls (b + (t : Nat)) = 0
  · rw [if_pos z, if_pos (e.mp z)]
  · rw [if_neg z, if_neg fun y => z (e.mpr y)]
theorem share_ext {ls ms : List (Int × Int)} (h : ∀ t, Bright ls t ↔ Bright ms t) (r : roundN ls = roundN ms) : shareIs ls = shareIs ms := by
  unfold shareIs
  rw [r, dk_bright (ls := ls) (ms := ms) (b := 0) (c := 0) (n := roundN ms) fun t _ => h _]
theorem share_ever {ls : List (Int × Int)} (hp : ∀ l ∈ ls, 0 < l.1) (h : ∀ t, Bright ls t) : shareIs ls = (0, 1) := by
  unfold shareIs
  have W0 := round_pos hp
  rw [dk_none h]
  show ((0 : Int) / _, ((roundN ls : Nat) : Int) / ((Nat.gcd 0 (roundN ls) : Nat) : Int)) = (0, 1)
  rw [Nat.gcd_zero_left, Int.zero_ediv, Int.ediv_self (by omega)]
theorem share_nil : shareIs [] = (1, 1) := by decide
theorem round_more {ls ms : List (Int × Int)} (h : ∀ m ∈ ms, ∃ l ∈ ls, l.1 = m.1) (hp : ∀ l ∈ ls, 0 < l.1) : roundN (ls ++ ms) = roundN ls := by
  have d1 : roundN (ls ++ ms) ∣ roundN ls := by
    have := round_least (ls := ls ++ ms) (m := (roundN ls : Nat)) fun l hl => by
      rcases List.mem_append.mp hl with hl | hl
      · exact round_dvd l hl
      · obtain ⟨l', h1, h2⟩ := h l hl
        rw [← h2]
        exact round_dvd l' h1
    exact Int.natCast_dvd_natCast.mp this
  have d2 : roundN ls ∣ roundN (ls ++ ms) := by
    have := round_least (ls := ls) (m := (roundN (ls ++ ms) : Nat)) fun l hl => round_dvd l (List.mem_append_left _ hl)
    exact Int.natCast_dvd_natCast.mp this
  exact Nat.dvd_antisymm d1 d2
theorem bright_more {ls ms : List (Int × Int)} (h : ∀ m ∈ ms, m ∈ ls) (t : Int) : Bright (ls ++ ms) t ↔ Bright ls t := by
  constructor
  · rintro ⟨l, hl, hd⟩
    rcases List.mem_append.mp hl with hl | hl
    · exact ⟨l, hl, hd⟩
    · exact ⟨l, h l hl, hd⟩
  · rintro ⟨l, hl, hd⟩
    exact ⟨l, List.mem_append_left _ hl, hd⟩
def pP (ns : List Int) : Int := ns.foldr (fun p z => p * z) 1
def pQ (ns : List Int) : Int := ns.foldr (fun p z => (p - 1) * z) 1
theorem prodP_eq (ls : List (Int × Int)) : prodP ls = pP (ls.map (·.1)) := by
  induction ls with
  | nil => rfl
  | cons l ls ih => show l.1 * prodP ls = l.1 * pP _; rw [ih]
theorem prodQ_eq (ls : List (Int × Int)) : prodQ ls = pQ (ls.map (·.1)) := by
  induction ls with
  | nil => rfl
  | cons l ls ih => show (l.1 - 1) * prodQ ls = (l.1 - 1) * pQ _; rw [ih]
theorem pP_snoc : ∀ (ns : List Int) (p : Int), pP (ns ++ [p]) = pP ns * p
  | [], p => by show p * 1 = 1 * p; omega
  | x :: ns, p => by
    show x * pP (ns ++ [p]) = x * pP ns * p
    rw [pP_snoc ns p, Int.mul_assoc]
theorem pQ_snoc : ∀ (ns : List Int) (p : Int), pQ (ns ++ [p]) = pQ ns * (p - 1)
  | [], p => by show (p - 1) * 1 = 1 * (p - 1); omega
  | x :: ns, p => by
    show (x - 1) * pQ (ns ++ [p]) = (x - 1) * pQ ns * (p - 1)
    rw [pQ_snoc ns p, Int.mul_assoc]
theorem pP_perm {ns ms : List Int} (h : ns.Perm ms) : pP ns = pP ms := by
  induction h with
  | nil => rfl
  | cons x _ ih => exact congrArg (fun z => x * z) ih
  | swap x y l => show y * (x * _) = x * (y * _); rw [Int.mul_left_comm]
  | trans _ _ ih1 ih2 => exact ih1.trans ih2
theorem pQ_perm {ns ms : List Int} (h : ns.Perm ms) : pQ ns = pQ ms := by
  induction h with
  | nil => rfl
  | cons x _ ih => exact congrArg (fun z => (x - 1) * z) ih
  | swap x y l => show (y - 1) * ((x - 1) * _) = (x - 1) * ((y - 1) * _); rw [Int.mul_left_comm]
  | trans _ _ ih1 ih2 => exact ih1.trans ih2
/-- no two have a common divisor -/
def CopN (ns : List Int) : Prop := ns.Pairwise fun x y => Int.gcd x y = 1
theorem cop_n {ls : List (Int × Int)} (h : CopN (ls.map (·.1))) : CopL ls := by
  unfold CopN at h
  rw [List.pairwise_map] at h
  exact h
theorem CopN.perm {ns ms : List Int} (h : CopN ms) (p : ns.Perm ms) : CopN ns := by
  refine List.Pairwise.perm h p.symm ?_
  intro x y e
  rw [Int.gcd_comm]
  exact e
theorem CopN.sub {ns ms : List Int} (h : CopN ms) (p : ns.Sublist ms) : CopN ns := List.Pairwise.sublist p h
theorem pP_pos : ∀ {ns : List Int}, (∀ n ∈ ns, 0 < n) → 0 < pP ns
  | [], _ => by decide
  | n :: ns, h => Int.mul_pos (h n (List.mem_cons_self ..)) (pP_pos fun m hm => h m (List.mem_cons_of_mem _ hm))
theorem pQ_nonneg : ∀ {ns : List Int}, (∀ n ∈ ns, 0 < n) → 0 ≤ pQ ns
  | [], _ => by decide
  | n :: ns, h => Int.mul_nonneg (by have := h n (List.mem_cons_self ..); omega) (pQ_nonneg fun m hm => h m (List.mem_cons_of_mem _ hm))
theorem pQ_le : ∀ {ns : List Int}, (∀ n ∈ ns, 0 < n) → pQ ns ≤ pP ns
  | [], _ => by decide
  | n :: ns, h => by
    have h1 := h n (List.mem_cons_self ..)
    have h2 := pQ_le (ns := ns) fun m hm => h m (List.mem_cons_of_mem _ hm)
    have h3 := pQ_nonneg (ns := ns) fun m hm => h m (List.mem_cons_of_mem _ hm)
    exact Int.mul_le_mul (by omega) h2 h3 (by omega)
theorem pP_big (B : Nat) : ∀ {ns : List Int}, (∀ n ∈ ns, n.natAbs ≤ 2 ^ B) → (pP ns).natAbs ≤ 2 ^ (B * ns.length)
  | [], _ => by
    show 1 ≤ 2 ^ (B * 0)
    rw [Nat.mul_zero]
    decide
  | n :: ns, h => by
    show (n * pP ns).natAbs ≤ _
    rw [Int.natAbs_mul, List.length_cons, Nat.mul_succ, Nat.pow_add, Nat.mul_comm]
    exact Nat.mul_le_mul (pP_big B fun m hm => h m (List.mem_cons_of_mem _ hm)) (h n (List.mem_cons_self ..))
/-- the share of lamps without common divisors, in lowest terms -/
theorem share_prod {ls : List (Int × Int)} {T B : Int} {g : Nat} (h : ShareF ls T B g) (hp : ∀ l ∈ ls, 0 < l.1) (hl : ls.length ≤ 10) {ns : List Int} (e : ls.map (·.1) = ns) (hc : CopN ns) :
    pQ ns / (Int.gcd (pP ns) (pQ ns) : Nat) = T ∧ pP ns / (Int.gcd (pP ns) (pQ ns) : Nat) = B := by
  have k := share_cop h hp hl (cop_n (e ▸ hc))
  rw [prodP_eq, prodQ_eq, e] at k
  have np : ∀ n ∈ ns, 0 < n := fun n hn => by
    rw [← e] at hn
    obtain ⟨l, hl, rfl⟩ := List.mem_map.mp hn
    exact hp l hl
  have p0 := pP_pos np
  have q0 := pQ_nonneg np
  obtain ⟨a, ha⟩ : ∃ a : Nat, pQ ns = a := ⟨(pQ ns).toNat, by omega⟩
  obtain ⟨u, hu⟩ : ∃ u : Nat, pP ns = u := ⟨(pP ns).toNat, by omega⟩
  obtain ⟨t, ht⟩ : ∃ t : Nat, T = t := ⟨T.toNat, by have := h.t0; omega⟩
  obtain ⟨c, hc⟩ : ∃ c : Nat, B = c := ⟨B.toNat, by have := h.b1; omega⟩
  have g1 := h.gcd
  have b1 := h.b1
  rw [ha, hu, ht, hc] at k
  rw [ht, hc] at g1
  rw [ha, hu, ht, hc]
  obtain ⟨x, y⟩ := lowest_uniq (a := a) (u := u) (T := t) (B := c) (by rw [Nat.mul_comm t u]; exact_mod_cast k.symm) g1 (by omega) (by omega)
  show (a : Int) / ((Nat.gcd u a : Nat) : Int) = t ∧ (u : Int) / ((Nat.gcd u a : Nat) : Int) = c
  rw [Nat.gcd_comm u a]
  constructor
  · exact_mod_cast x
  · exact_mod_cast y
/-- lamps in another order, each so many beats later -/
theorem bright_later {ls ms ns : List (Int × Int)} {by_ : Int} (h : ns = ms.map fun l => (l.1, l.2 + by_)) (p : ∀ x, x ∈ ms ↔ x ∈ ls) (t : Int) : Bright (ns.map nrm) (t + by_) ↔ Bright (ls.map nrm) t := by
  have e : ∀ (ls : List (Int × Int)) (t : Int), Bright (ls.map nrm) t ↔ Bright ls t := fun ls t => by
    constructor
    · rintro ⟨l, hl, hd⟩
      obtain ⟨l', h1, rfl⟩ := List.mem_map.mp hl
      exact ⟨l', h1, (dvd_nrm l'.1 l'.2 t).mp hd⟩
    · rintro ⟨l, hl, hd⟩
      exact ⟨nrm l, List.mem_map.mpr ⟨l, hl, rfl⟩, (dvd_nrm l.1 l.2 t).mpr hd⟩
  rw [e, e, h]
  constructor
  · rintro ⟨l, hl, hd⟩
    obtain ⟨l', h1, rfl⟩ := List.mem_map.mp hl
    refine ⟨l', (p _).mp h1, ?_⟩
    have hd : l'.1 ∣ t + by_ - (l'.2 + by_) := hd
    rwa [show t + by_ - (l'.2 + by_) = t - l'.2 by omega] at hd
  · rintro ⟨l, hl, hd⟩
    refine ⟨(l.1, l.2 + by_), List.mem_map.mpr ⟨l, (p _).mpr hl, rfl⟩, ?_⟩
    show l.1 ∣ t + by_ - (l.2 + by_)
    rwa [show t + by_ - (l.2 + by_) = t - l.2 by omega]

/-! ### shares as fractions -/
structure Fra (v : Int × Int) (S : Int) (W : Nat) : Prop where
  t0 : 0 ≤ v.1
  b0 : 0 < v.2
  low : Int.gcd v.2 v.1 = 1
  eq : v.1 * W = S * v.2
theorem fra_of {a b S : Int} {W : Nat} (a0 : 0 ≤ a) (b0 : 0 < b) (e : a * W = S * b) : Fra (a / (Int.gcd b a : Nat), b / (Int.gcd b a : Nat)) S W := by
  have g0 : 0 < Int.gcd b a := Int.gcd_pos_of_ne_zero_left _ (by omega)
  have d1 : ((Int.gcd b a : Nat) : Int) ∣ a := Int.gcd_dvd_right ..
  have d2 : ((Int.gcd b a : Nat) : Int) ∣ b := Int.gcd_dvd_left ..
  have e1 := Int.ediv_mul_cancel d1
  have e2 := Int.ediv_mul_cancel d2
  have lw : Int.gcd (b / (Int.gcd b a : Nat)) (a / (Int.gcd b a : Nat)) = 1 := Int.gcd_ediv_gcd_ediv_gcd g0
  refine ⟨Int.ediv_nonneg a0 (by omega), Int.ediv_pos_of_pos_of_dvd b0 (by omega) d2, lw, ?_⟩
  show a / (Int.gcd b a : Nat) * W = S * (b / (Int.gcd b a : Nat))
  generalize a / (Int.gcd b a : Nat) = x at *
  generalize b / (Int.gcd b a : Nat) = y at *
  have g1 : ((Int.gcd b a : Nat) : Int) ≠ 0 := by omega
  generalize ((Int.gcd b a : Nat) : Int) = g at *
  refine Int.eq_of_mul_eq_mul_right g1 ?_
  calc x * W * g = (x * g) * W := by rw [Int.mul_assoc, Int.mul_comm (W : Int), ← Int.mul_assoc]
    _ = S * (y * g) := by rw [e1, e2]; exact e
    _ = S * y * g := (Int.mul_assoc ..).symm
theorem cop_dvd {a b c : Int} (h : a ∣ b * c) (g : Int.gcd a c = 1) : a ∣ b :=
  Int.natAbs_dvd_natAbs.mp (Nat.Coprime.dvd_of_dvd_mul_right (k := a.natAbs) (n := c.natAbs) g (by rw [← Int.natAbs_mul]; exact Int.natAbs_dvd_natAbs.mpr h))
theorem low_uniq {v u : Int × Int} (v0 : 0 ≤ v.1) (v1 : 0 < v.2) (vg : Int.gcd v.2 v.1 = 1) (u0 : 0 ≤ u.1) (u1 : 0 < u.2) (ug : Int.gcd u.2 u.1 = 1) (e : v.1 * u.2 = u.1 * v.2) : v = u := by
  have d1 : v.2 ∣ u.2 := by
    have : v.2 ∣ u.2 * v.1 := ⟨u.1, by rw [Int.mul_comm, e, Int.mul_comm]⟩
    exact cop_dvd this vg
  have d2 : u.2 ∣ v.2 := by
    have : u.2 ∣ v.2 * u.1 := ⟨v.1, by rw [Int.mul_comm, ← e, Int.mul_comm]⟩
    exact cop_dvd this ug
  have e2 : v.2 = u.2 := Int.le_antisymm (Int.le_of_dvd u1 d1) (Int.le_of_dvd v1 d2)
  rw [e2] at e
  exact Prod.ext (Int.eq_of_mul_eq_mul_right (by omega) e) e2
theorem Fra.uniq {v u : Int × Int} {S S' : Int} {W W' : Nat} (h : Fra v S W) (k : Fra u S' W') (w : 0 < W) (w' : 0 < W') (e : S * W' = S' * W) : v = u := by
  refine low_uniq h.t0 h.b0 h.low k.t0 k.b0 k.low ?_
  have h1 := h.eq
  have k1 := k.eq
  refine Int.eq_of_mul_eq_mul_right (show ((W : Int) * W') ≠ 0 from Int.ne_of_gt (Int.mul_pos (by omega) (by omega))) ?_
  calc v.1 * u.2 * ((W : Int) * W') = (v.1 * W) * (u.2 * W') := by rw [Int.mul_assoc, Int.mul_left_comm u.2, ← Int.mul_assoc]
    _ = S * v.2 * (u.2 * W') := by rw [h1]
    _ = (S * W') * (v.2 * u.2) := by
      rw [Int.mul_assoc, Int.mul_assoc S (W' : Int)]
      congr 1
      rw [Int.mul_comm u.2, Int.mul_left_comm]
    _ = S' * W * (v.2 * u.2) := by rw [e]
    _ = (S' * u.2) * (v.2 * W) := by
      rw [Int.mul_assoc, Int.mul_assoc]
      congr 1
      rw [Int.mul_comm (W : Int), Int.mul_comm v.2, Int.mul_assoc]
    _ = u.1 * W' * (v.2 * W) := by rw [k1]
    _ = u.1 * v.2 * ((W : Int) * W') := by rw [Int.mul_assoc, Int.mul_assoc, Int.mul_left_comm (W' : Int), Int.mul_comm (W' : Int)]
theorem Fra.add {v u : Int × Int} {S S' : Int} {W : Nat} (h : Fra v S W) (k : Fra u S' W) : (v.1 * u.2 + u.1 * v.2) * W = (S + S') * (v.2 * u.2) := by
  have h1 := h.eq
  have k1 := k.eq
  rw [Int.add_mul, Int.add_mul]
  congr 1
  · rw [Int.mul_assoc, Int.mul_comm u.2, ← Int.mul_assoc, h1, Int.mul_assoc]
  · rw [Int.mul_assoc, Int.mul_comm v.2, ← Int.mul_assoc, k1, Int.mul_assoc, Int.mul_comm u.2]
theorem Fra.le {v : Int × Int} {S : Int} {W : Nat} (h : Fra v S W) (w : 0 < W) : v.2 ≤ W := by
  have : v.2 ∣ (W : Int) * v.1 := ⟨S, by rw [Int.mul_comm, h.eq, Int.mul_comm]⟩
  exact Int.le_of_dvd (by omega) (cop_dvd this h.low)
theorem Fra.top {v : Int × Int} {S : Int} {W : Nat} (h : Fra v S W) (w : 0 < W) (s : S ≤ W) : v.1 ≤ v.2 := by
  refine Int.not_lt.mp fun z => ?_
  have h1 := Int.mul_lt_mul_of_pos_right z (show (0 : Int) < W by omega)
  have h2 := Int.mul_le_mul_of_nonneg_right s (Int.le_of_lt h.b0)
  rw [h.eq] at h1
  rw [Int.mul_comm (W : Int)] at h2
  omega
theorem Fra.cmp {v u : Int × Int} {S S' : Int} {W : Nat} (h : Fra v S W) (k : Fra u S' W) (w : 0 < W) (s : S' ≤ S) : u.1 * v.2 ≤ v.1 * u.2 := by
  refine Int.not_lt.mp fun z => ?_
  have h1 := Int.mul_lt_mul_of_pos_right z (show (0 : Int) < W by omega)
  rw [Int.mul_right_comm, h.eq, Int.mul_right_comm u.1, k.eq, Int.mul_assoc, Int.mul_assoc, Int.mul_comm u.2] at h1
  have h2 := Int.mul_le_mul_of_nonneg_right s (Int.le_of_lt (Int.mul_pos h.b0 k.b0))
  omega
theorem Fra.turn {v : Int × Int} {S : Int} {W : Nat} (h : Fra v S W) (l : v.1 ≤ v.2) : Fra (v.2 - v.1, v.2) (W - S) W := by
  refine ⟨by show 0 ≤ v.2 - v.1; omega, h.b0, ?_, ?_⟩
  · show Int.gcd v.2 (v.2 - v.1) = 1
    rw [show v.2 - v.1 = -(v.1 - v.2 * 1) by omega, Int.gcd_neg, Int.gcd_sub_mul_left_right]
    exact h.low
  · show (v.2 - v.1) * W = (W - S) * v.2
    rw [Int.sub_mul, Int.sub_mul, h.eq, Int.mul_comm v.2]
/-- dark beats of what comes again after W beats -/
theorem dk_times {ls : List (Int × Int)} {W : Nat} (h : ∀ t, Bright ls (t + W) ↔ Bright ls t) (b : Int) : ∀ r : Nat, dkN ls b (W * r) = r * dkN ls b W
  | 0 => by rw [Nat.mul_zero, dk_zero]; exact (Int.zero_mul _).symm
  | r + 1 => by
    have e : dkN ls (b + (W : Nat)) (W * r) = dkN ls b (W * r) := dk_bright fun t _ => by
      rw [show b + (W : Nat) + (t : Nat) = (b + (t : Nat)) + (W : Nat) by omega]
      exact h _
    rw [Nat.mul_succ, Nat.add_comm, dk_split, e, dk_times h b r, Int.natCast_add, Int.add_mul]
    show _ = _ + (1 : Int) * _
    rw [Int.one_mul, Int.add_comm]
theorem share_fra {ls : List (Int × Int)} (hp : ∀ l ∈ ls, 0 < l.1) {W : Nat} (w : 0 < W) (h : ∀ t, Bright ls (t + W) ↔ Bright ls t) (b : Int) : Fra (shareIs ls) (dkN ls b W) W ∧ (shareIs ls).1 ≤ (shareIs ls).2 := by
  obtain ⟨g, F⟩ := share_f hp
  refine ⟨⟨F.t0, by have := F.b1; omega, F.gcd, ?_⟩, F.tb⟩
  have e := F.whole hp (W := W * roundN ls) ⟨W, Nat.mul_comm _ _⟩ b
  rw [dk_times h b] at e
  have r0 := round_pos hp
  refine Int.eq_of_mul_eq_mul_right (show ((roundN ls : Nat) : Int) ≠ 0 by omega) ?_
  rw [Int.natCast_mul] at e
  rw [Int.mul_assoc, ← e, Int.mul_comm (roundN ls : Int), Int.mul_assoc, Int.mul_assoc, Int.mul_comm (roundN ls : Int)]
theorem per_of {ls : List (Int × Int)} {W : Nat} (hd : ∀ l ∈ ls, l.1 ∣ (W : Int)) (t : Int) : Bright ls (t + W) ↔ Bright ls t := by
  constructor
  · rintro ⟨l, hl, d⟩
    refine ⟨l, hl, ?_⟩
    have := Int.dvd_sub d (hd l hl)
    rwa [show t + (W : Int) - l.2 - W = t - l.2 by omega] at this
  · rintro ⟨l, hl, d⟩
    refine ⟨l, hl, ?_⟩
    have := Int.dvd_add d (hd l hl)
    rwa [show t - l.2 + (W : Int) = t + W - l.2 by omega] at this
/-- of two lights the dark beats of both and of joined are those of each -/
theorem dk_both {ls ms qs : List (Int × Int)} (h : ∀ t, Bright qs t ↔ Bright ls t ∧ Bright ms t) (b : Int) (n : Nat) : dkN (ls ++ ms) b n + dkN qs b n = dkN ls b n + dkN ms b n := by
  induction n with
  | zero => rfl
  | succ n ih =>
    have k := h (b + (n : Nat))
    have k2 := bright_app2 (ls := ls) (ms := ms) (x := b + (n : Nat))
    rw [dk_succ, dk_succ, dk_succ, dk_succ]
    have e : (if cntL (ls ++ ms) (b + (n : Nat)) = 0 then (1 : Int) else 0) + (if cntL qs (b + (n : Nat)) = 0 then 1 else 0) = (if cntL ls (b + (n : Nat)) = 0 then 1 else 0) + (if cntL ms (b + (n : Nat)) = 0 then 1 else 0) := by
      simp only [cnt_zero, k, k2]
      by_cases x : Bright ls (b + (n : Nat)) <;> by_cases y : Bright ms (b + (n : Nat)) <;> simp [x, y]
    omega
theorem dk_sub {ls qs : List (Int × Int)} (h : ∀ t, Bright qs t → Bright ls t) (b : Int) (n : Nat) : dkN ls b n ≤ dkN qs b n := by
  induction n with
  | zero => exact Int.le_refl _
  | succ n ih =>
    rw [dk_succ, dk_succ]
    have k := h (b + (n : Nat))
    have e : (if cntL ls (b + (n : Nat)) = 0 then (1 : Int) else 0) ≤ (if cntL qs (b + (n : Nat)) = 0 then 1 else 0) := by
      simp only [cnt_zero]
      by_cases x : Bright ls (b + (n : Nat)) <;> by_cases y : Bright qs (b + (n : Nat)) <;> simp [x, y]
      exact absurd (k y) x
    omega
/-- dark beats by classes -/
def clsS (f : Int → Int) (m W : Nat) : Nat → Int
  | 0 => 0
  | i + 1 => clsS f m W i + sumR (fun t => f ((i : Int) + (t : Nat) * m)) W
theorem cls_zero (f : Int → Int) (m : Nat) : ∀ i, clsS f m 0 i = 0
  | 0 => rfl
  | i + 1 => by
    show clsS f m 0 i + sumR _ 0 = 0
    rw [cls_zero f m i]
    rfl
theorem cls_succ (f : Int → Int) (m W : Nat) : ∀ i, clsS f m (W + 1) i = clsS f m W i + sumR (fun j => f ((j : Int) + (W : Nat) * m)) i
  | 0 => rfl
  | i + 1 => by
    show clsS f m (W + 1) i + sumR (fun t => f ((i : Int) + (t : Nat) * m)) (W + 1) = clsS f m W i + sumR _ W + sumR _ (i + 1)
    rw [cls_succ f m W i]
    show _ + (sumR (fun t => f ((i : Int) + (t : Nat) * m)) W + f ((i : Int) + (W : Nat) * m)) = _ + _ + (sumR (fun j => f ((j : Int) + (W : Nat) * m)) i + f ((i : Int) + (W : Nat) * m))
    omega
theorem cls_all (f : Int → Int) (m : Nat) : ∀ W, clsS f m W m = sumR (fun t => f (t : Nat)) (m * W)
  | 0 => by rw [cls_zero, Nat.mul_zero]; rfl
  | W + 1 => by
    rw [cls_succ, cls_all f m W, Nat.mul_succ, sumR_split]
    congr 1
    refine sumR_congr fun i _ => ?_
    congr 1
    rw [Int.natCast_add, Int.natCast_mul, Int.add_comm, Int.mul_comm]
def dkF (ls : List (Int × Int)) (t : Int) : Int := if cntL ls t = 0 then 1 else 0
theorem dk_cls (ls : List (Int × Int)) (m W : Nat) : clsS (dkF ls) m W m = dkN ls 0 (m * W) := by
  rw [cls_all]
  unfold dkN justN dkF
  refine sumR_congr fun i _ => ?_
  rw [Int.zero_add]
theorem cls_thin {ls qs : List (Int × Int)} {m i W : Nat} (h : ∀ t : Int, Bright qs t ↔ Bright ls ((i : Int) + t * m)) : dkN qs 0 W = sumR (fun t => dkF ls ((i : Int) + (t : Nat) * m)) W := by
  unfold dkN justN dkF
  refine sumR_congr fun t _ => ?_
  have k := h (t : Nat)
  simp only [cnt_zero, Int.zero_add, k]
theorem cls_le (ls : List (Int × Int)) (m W : Nat) : ∀ i, 0 ≤ clsS (dkF ls) m W i ∧ clsS (dkF ls) m W i ≤ i * W
  | 0 => by rw [Int.natCast_zero, Int.zero_mul]; exact ⟨Int.le_refl _, Int.le_refl _⟩
  | i + 1 => by
    have h := cls_le ls m W i
    have h1 : 0 ≤ sumR (fun t => dkF ls ((i : Int) + (t : Nat) * m)) W := sumR_nonneg fun t _ => by unfold dkF; split <;> omega
    have h2 : ∀ n : Nat, sumR (fun t => dkF ls ((i : Int) + (t : Nat) * m)) n ≤ n := fun n => by
      induction n with
      | zero => exact Int.le_refl _
      | succ n ih =>
        show sumR _ n + dkF ls _ ≤ _
        have : dkF ls ((i : Int) + (n : Nat) * m) ≤ 1 := by unfold dkF; split <;> omega
        omega
    have h3 := h2 W
    show 0 ≤ clsS (dkF ls) m W i + sumR _ W ∧ clsS (dkF ls) m W i + sumR _ W ≤ _
    rw [Int.natCast_add, Int.add_mul]
    omega
/-- of the stretched light as many beats are bright -/
theorem dk_stretch {ls : List (Int × Int)} {c : Nat} (hc : 0 < c) : ∀ W : Nat, ((c * W : Nat) : Int) - dkN (stL c ls) 0 (c * W) = W - dkN ls 0 W
  | 0 => by rw [Nat.mul_zero]; rfl
  | W + 1 => by
    have ih := dk_stretch (ls := ls) hc W
    have e : dkN (stL c ls) ((0 : Int) + ((c * W : Nat) : Nat)) c = (c : Int) - 1 + if cntL ls (0 + (W : Nat)) = 0 then 1 else 0 := by
      obtain ⟨d, rfl⟩ : ∃ d, c = 1 + d := ⟨c - 1, by omega⟩
      rw [dk_split]
      have e1 : dkN (stL ((1 + d : Nat) : Int) ls) ((0 : Int) + (((1 + d) * W : Nat) : Nat)) 1 = if cntL ls (0 + (W : Nat)) = 0 then 1 else 0 := by
        rw [dk_succ, dk_zero, Int.zero_add]
        have k := bright_st (c := ((1 + d : Nat) : Int)) (by omega) (ls := ls) (x := (W : Int))
        have ex : (0 : Int) + (((1 + d) * W : Nat) : Nat) + ((0 : Nat) : Int) = (W : Int) * ((1 + d : Nat) : Int) := by
          rw [Int.natCast_mul, Int.mul_comm]
          omega
        rw [ex]
        simp only [cnt_zero, k, Int.zero_add]
      have e2 : ∀ n : Nat, n ≤ d → dkN (stL ((1 + d : Nat) : Int) ls) ((0 : Int) + (((1 + d) * W : Nat) : Nat) + 1) n = n := fun n => by
        induction n with
        | zero => intro _; rfl
        | succ n ih =>
          intro hn
          rw [dk_succ, ih (by omega)]
          have k := dark_st (c := ((1 + d : Nat) : Int)) (r := (n : Int) + 1) (by omega) (by omega) (ls := ls) (x := (W : Int))
          have ex : (0 : Int) + (((1 + d) * W : Nat) : Nat) + 1 + (n : Nat) = (W : Int) * ((1 + d : Nat) : Int) + ((n : Int) + 1) := by
            rw [Int.natCast_mul, Int.mul_comm]
            omega
          rw [ex]
          have k2 := cnt_zero.mpr k
          rw [if_pos k2]
          rfl
      have e3 := e2 d (Nat.le_refl _)
      have e4 : (((1 : Nat) : Int)) = 1 := rfl
      rw [e1, e4, e3]
      omega
    rw [Nat.mul_succ, dk_split, e, dk_succ]
    rw [Int.natCast_add]
    omega

/-! ### sums of how often just so many lamps shine -/
theorem list_sumR (f : Nat → Nat → Int) (n : Nat) : ∀ l : List Nat, (l.map fun j => sumR (f j) n).sum = sumR (fun t => (l.map fun j => f j t).sum) n
  | [] => (sumR_zero n).symm
  | j :: l => by
    rw [List.map_cons, List.sum_cons, list_sumR f n l, ← sumR_add]
    rfl
theorem sum_one : ∀ n : Nat, sumR (fun _ => 1) n = n
  | 0 => rfl
  | n + 1 => by
    show sumR (fun _ => 1) n + 1 = _
    rw [sum_one n]
    rfl
theorem hit_sum (g : Nat → Int) (c : Nat) : ∀ L : Nat, ((List.range L).map fun j => if c = j then g j else 0).sum = if c < L then g c else 0
  | 0 => by rw [if_neg (Nat.not_lt_zero _)]; rfl
  | L + 1 => by
    rw [List.range_succ, List.map_append, List.sum_append, hit_sum g c L]
    show _ + ((if c = L then g L else 0) + 0) = _
    by_cases h : c = L
    · subst h
      rw [if_neg (Nat.lt_irrefl _), if_pos rfl, if_pos (Nat.lt_succ_self _)]
      omega
    · rw [if_neg h]
      by_cases k : c < L
      · rw [if_pos k, if_pos (by omega)]
        omega
      · rw [if_neg k, if_neg (by omega)]
        omega
theorem just_sum (ls : List (Int × Int)) (b : Int) (n : Nat) : ((List.range (ls.length + 1)).map fun j => justN ls b n j).sum = n := by
  unfold justN
  rw [list_sumR (fun j t => if cntL ls (b + (t : Nat)) = j then 1 else 0) n]
  rw [← sum_one n]
  refine sumR_congr fun t _ => ?_
  have h := hit_sum (fun _ => 1) (cntL ls (b + (t : Nat))) (ls.length + 1)
  rw [if_pos (Nat.lt_succ_of_le (cnt_le _ _))] at h
  exact h
theorem just_nonneg (ls : List (Int × Int)) (b : Int) (n j : Nat) : 0 ≤ justN ls b n j := sumR_nonneg fun t _ => by split <;> omega
theorem just_times (ls : List (Int × Int)) (b : Int) (n : Nat) : ((List.range (ls.length + 1)).map fun j : Nat => ((j : Nat) : Int) * justN ls b n j).sum = sumR (fun t => (cntL ls (b + (t : Nat)) : Int)) n := by
  have e : ∀ j : Nat, (j : Int) * justN ls b n j = sumR (fun t => if cntL ls (b + (t : Nat)) = j then (j : Int) else 0) n := fun j => by
    unfold justN
    rw [← sumR_mul]
    refine sumR_congr fun t _ => ?_
    split
    · exact Int.mul_one _
    · exact Int.mul_zero _
  rw [show (fun j : Nat => (j : Int) * justN ls b n j) = fun j => sumR (fun t => if cntL ls (b + (t : Nat)) = j then (j : Int) else 0) n from funext e]
  rw [list_sumR (fun j t => if cntL ls (b + (t : Nat)) = j then (j : Int) else 0) n]
  refine sumR_congr fun t _ => ?_
  have h := hit_sum (fun j => (j : Int)) (cntL ls (b + (t : Nat))) (ls.length + 1)
  rw [if_pos (Nat.lt_succ_of_le (cnt_le _ _))] at h
  exact h
/-- how often a lamp shines in a stretch, by division -/
theorem lamp_sum {p f : Int} (hp : 0 < p) (b : Int) : ∀ n : Nat, sumR (fun t => if shB (nrm (p, f)) (b + (t : Nat)) then (1 : Int) else 0) n = (b + n - 1 - f) / p - (b - 1 - f) / p
  | 0 => by
    rw [show b + ((0 : Nat) : Int) - 1 - f = b - 1 - f by omega, Int.sub_self]
    rfl
  | n + 1 => by
    show sumR _ n + (if shB (nrm (p, f)) (b + (n : Nat)) then 1 else 0) = _
    rw [lamp_sum hp b n]
    have st := ediv_step (a := b + n - 1 - f) hp
    rw [show b + (n : Int) - 1 - f + 1 = b + ((n + 1 : Nat) : Int) - 1 - f by omega] at st
    rw [st]
    have k : (shB (nrm (p, f)) (b + (n : Nat)) = true) ↔ p ∣ b + ((n + 1 : Nat) : Int) - 1 - f := by
      unfold shB nrm
      rw [decide_eq_true_eq]
      have m := Int.emod_add_mul_ediv f p
      constructor
      · intro h
        have := Int.dvd_sub h ⟨f / p, rfl⟩
        rwa [show b + (n : Int) - (p, f % p).2 - p * (f / p) = b + ((n + 1 : Nat) : Int) - 1 - f by show b + (n : Int) - f % p - p * (f / p) = _; omega] at this
      · intro h
        have := Int.dvd_add h ⟨f / p, rfl⟩
        rwa [show b + ((n + 1 : Nat) : Int) - 1 - f + p * (f / p) = b + (n : Int) - (p, f % p).2 by show _ = b + (n : Int) - f % p; omega] at this
    by_cases h : p ∣ b + ((n + 1 : Nat) : Int) - 1 - f
    · rw [if_pos h, if_pos (k.mpr h)]
      omega
    · rw [if_neg h, if_neg (fun z => h (k.mp z))]
      omega
theorem cnt_sums (b : Int) (n : Nat) : ∀ ps : List (Int × Int), (∀ p ∈ ps, 0 < p.1) → sumR (fun t => (cntL (ps.map nrm) (b + (t : Nat)) : Int)) n = (ps.map fun p => (b + n - 1 - p.2) / p.1 - (b - 1 - p.2) / p.1).sum
  | [], _ => sumR_zero n
  | p :: ps, h => by
    rw [List.map_cons, List.map_cons, List.sum_cons, ← cnt_sums b n ps fun q hq => h q (List.mem_cons_of_mem _ hq), ← lamp_sum (f := p.2) (h p List.mem_cons_self) b n, ← sumR_add]
    refine sumR_congr fun t _ => ?_
    rw [cnt_cons]
    split <;> simp_all
/-- the light and itself -/
theorem cnt_twice (ls : List (Int × Int)) (t : Int) : cntL (ls ++ ls) t = 2 * cntL ls t := by rw [cnt_app]; omega
theorem just_even (ls : List (Int × Int)) (b : Int) (n j : Nat) : justN (ls ++ ls) b n (2 * j) = justN ls b n j := by
  unfold justN
  refine sumR_congr fun t _ => ?_
  rw [cnt_twice]
  by_cases h : cntL ls (b + (t : Nat)) = j
  · rw [if_pos h, if_pos (by omega)]
  · rw [if_neg h, if_neg (by omega)]
theorem just_odd (ls : List (Int × Int)) (b : Int) (n j : Nat) : justN (ls ++ ls) b n (2 * j + 1) = 0 := by
  unfold justN
  refine (sumR_congr (g := fun _ => 0) fun t _ => ?_).trans (sumR_zero n)
  rw [cnt_twice, if_neg (by omega)]
/-- moved on -/
theorem cnt_mv (c : Int) (t : Int) : ∀ ls : List (Int × Int), cntL (mvL c ls) (t + c) = cntL ls t
  | [] => rfl
  | l :: ls => by
    show cntL ((l.1, (l.2 + c) % l.1) :: mvL c ls) (t + c) = _
    rw [cnt_cons, cnt_cons, cnt_mv c t ls]
    have k : shB (l.1, (l.2 + c) % l.1) (t + c) = shB l t := by
      unfold shB
      have m := Int.emod_add_mul_ediv (l.2 + c) l.1
      rw [Bool.eq_iff_iff, decide_eq_true_eq, decide_eq_true_eq]
      constructor
      · intro h
        have := Int.dvd_sub h ⟨(l.2 + c) / l.1, rfl⟩
        rwa [show t + c - (l.1, (l.2 + c) % l.1).2 - l.1 * ((l.2 + c) / l.1) = t - l.2 by show t + c - (l.2 + c) % l.1 - _ = _; omega] at this
      · intro h
        have := Int.dvd_add h ⟨(l.2 + c) / l.1, rfl⟩
        rwa [show t - l.2 + l.1 * ((l.2 + c) / l.1) = t + c - (l.1, (l.2 + c) % l.1).2 by show _ = t + c - (l.2 + c) % l.1; omega] at this
    rw [k]
theorem just_mv (ls : List (Int × Int)) (c b : Int) (n j : Nat) : justN (mvL c ls) (b + c) n j = justN ls b n j := by
  unfold justN
  refine sumR_congr fun t _ => ?_
  rw [show b + c + (t : Nat) = b + (t : Nat) + c by omega, cnt_mv]
/-- stretched -/
theorem cnt_st {c : Int} (hc : 0 < c) (t : Int) : ∀ ls : List (Int × Int), cntL (stL c ls) (t * c) = cntL ls t
  | [] => rfl
  | l :: ls => by
    show cntL ((l.1 * c, l.2 * c) :: stL c ls) (t * c) = _
    rw [cnt_cons, cnt_cons, cnt_st hc t ls]
    have k : shB (l.1 * c, l.2 * c) (t * c) = shB l t := by
      unfold shB
      rw [Bool.eq_iff_iff, decide_eq_true_eq, decide_eq_true_eq]
      show l.1 * c ∣ t * c - l.2 * c ↔ _
      rw [← Int.sub_mul]
      exact Int.mul_dvd_mul_iff_right (by omega)
    rw [k]
theorem cnt_st0 {c r : Int} (hr : 0 < r) (hc : r < c) {ls : List (Int × Int)} (x : Int) : cntL (stL c ls) (x * c + r) = 0 := cnt_zero.mpr (dark_st hr hc)
theorem sum_first (x : Int) : ∀ n : Nat, sumR (fun i => if i = 0 then x else 0) (n + 1) = x
  | 0 => Int.zero_add _
  | n + 1 => by
    show sumR (fun i => if i = 0 then x else 0) (n + 1) + (if n + 1 = 0 then x else 0) = x
    rw [sum_first x n, if_neg (Nat.succ_ne_zero n)]
    exact Int.add_zero _
theorem just_st (ls : List (Int × Int)) {c : Nat} (hc : 0 < c) (b : Int) {j : Nat} (hj : 1 ≤ j) : ∀ n : Nat, justN (stL c ls) (b * c) (n * c) j = justN ls b n j
  | 0 => by rw [Nat.zero_mul]; rfl
  | n + 1 => by
    have ih := just_st ls hc b hj n
    unfold justN at ih ⊢
    rw [Nat.succ_mul, sumR_split, ih]
    show _ = sumR _ n + (if cntL ls (b + (n : Nat)) = j then 1 else 0)
    congr 1
    obtain ⟨d, rfl⟩ : ∃ d, c = d + 1 := ⟨c - 1, by omega⟩
    rw [← sum_first (if cntL ls (b + (n : Nat)) = j then 1 else 0) d]
    refine sumR_congr fun i hi => ?_
    have e : b * ((d + 1 : Nat) : Int) + ((n * (d + 1) + i : Nat) : Int) = (b + n) * ((d + 1 : Nat) : Int) + i := by
      have e0 : ((n * (d + 1) + i : Nat) : Int) = (n : Int) * ((d + 1 : Nat) : Int) + i := by rw [Int.natCast_add (n * (d + 1)) i, Int.natCast_mul]
      rw [e0, Int.add_mul, Int.add_assoc]
    rw [e]
    by_cases z : i = 0
    · subst z
      rw [if_pos rfl, show (b + n) * ((d + 1 : Nat) : Int) + ((0 : Nat) : Int) = (b + n) * ((d + 1 : Nat) : Int) by omega, cnt_st (by omega)]
    · rw [if_neg z, cnt_st0 (by omega) (by omega), if_neg (by omega)]

section
/-! ### a set of tuples of whole numbers: set(), not in, add -/
open PySem.Spec PyProof.Rows
theorem nth_nodum (m : Nat) : ∀ (n : Nat) (p : SetTable.Probe), p.dummy = none → (nth m p n).dummy = none
  | 0, _, e => e
  | n + 1, p, e => nth_nodum m n (adv m p) (by unfold adv; split <;> exact e)
section
variable {P : Program} {w : World} {A : Around} {E : Value → Shared → Prop} {s : Shared} {a x : Addr} {L : List (Addr × List Int)} {es : Array (Int × Value)} {ep : Nat} {t : SetTable} {k : List Int}
theorem ask_from (R : SetTR P w s.heap a L es ep t) (ix : IsT P w s.heap k x) (un : A.units < cLine) {K : Nat} (kf : K < 10 * SetTable.turns t.mask) {u : Int} (eu : u = thash P w k)
    (kn : way t.mask u K ∉ t.place.toList) (kb : ∀ c, c < K → way t.mask u c ∈ t.place.toList) {Q : SetFound → Shared → Prop}
    (yes : k ∈ L.map (·.2) → ∀ i, Q (.there (some i)) s) (nay : k ∉ L.map (·.2) → ∀ j, Q (.free j false) s) :
    ∀ (f c : Nat) (z : Option SetTable.Probe), z.getD (t.probeStart u) = nth t.mask (t.probeStart u) c → c ≤ K → K - c < f →
      (∀ (i : Nat) p, L[i]? = some p → p.2 = k → ∃ b, c ≤ b ∧ b < K ∧ t.place.toList[i]? = some (way t.mask u b)) →
      wpAny (model P w) A (setSearchFrom a (.ref x) u false f z) Q E s := by
  intro f
  induction f with
  | zero => intro c z _ _ l; exact absurd l (Nat.not_lt_zero _)
  | succ f ih =>
    intro c z ez cK lf re
    obtain ⟨ob, hob, _, dob⟩ := R.ob
    have wy : ∀ q, (nth t.mask (nth t.mask (t.probeStart u) c) q).j = way t.mask u (c + q) := fun q =>
      congrArg SetTable.Probe.j (L2.nth_add t.mask c (t.probeStart u) q).symm
    have hA : ∀ (i : Nat) p, L[i]? = some p → (es[i]?.map (·.1)).getD 0 = thash P w p.2 := fun i p hp => by rw [R.entry hp]; rfl
    have cK' : c + (K - c) = K := by omega
    have G := go_spec t R.tab.ris R.tab.dm (fun i => (es[i]?.map (·.1)).getD 0) u (10 * SetTable.turns t.mask) (K - c) (nth t.mask (t.probeStart u) c)
      (nth_nodum _ c _ rfl) (by omega) (fun q hq => by rw [wy]; exact kb _ (by omega)) (by rw [wy, cK']; exact kn)
    -- what is asked for is not passed by
    have late : ∀ (i b q : Nat) p, L[i]? = some p → p.2 = k → c ≤ b → t.place.toList[i]? = some (way t.mask u b) →
        (∀ (q' i' : Nat), q' < q → t.place.toList[i']? = some (nth t.mask (nth t.mask (t.probeStart u) c) q').j → (es[i']?.map (·.1)).getD 0 ≠ u) → c + q ≤ b := fun i b q p hp ek cb hb no => by
      rcases Nat.lt_or_ge b (c + q) with y | y
      · refine absurd ?_ (no (b - c) i (by omega) ?_)
        · rw [hA i p hp, ek, eu]
        · rw [wy, show c + (b - c) = b by omega]
          exact hb
      · exact y
    rw [setSearchFrom_succ]
    refine wpAny_bind ((wpAny_setState_of hob dob R.fits) ?_)
    dsimp only
    refine wp_if_neg R.gw ?_
    try refine wpAny_bind (wpAny_pure ?_)
    rcases G with ⟨q, i, hq, hi, _, before, gp⟩ | ⟨before, gp⟩
    · have gp' : t.probe (fun i => (es[i]?.map (·.1)).getD 0) u (z.getD (t.probeStart u)) =
          some (.candidate (way t.mask u (c + q)) i (nth t.mask (t.probeStart u) (c + (q + 1)))) := by
        rw [ez, ← wy q, L2.nth_add]
        exact gp
      rw [gp']
      dsimp only
      rw [wy] at hi
      have il : i < L.length := by
        have l1 := (List.getElem?_eq_some_iff.mp hi).1
        have l2 := R.tab.sz
        rw [List.length_map] at l2
        rw [Array.length_toList] at l1
        omega
      obtain ⟨p, hp⟩ : ∃ p, L[i]? = some p := ⟨_, List.getElem?_eq_getElem il⟩
      have pm := List.mem_of_getElem? hp
      have sl : t.slot (way t.mask u (c + q)) = .live i := slot_live R.tab.ris hi
      have go : wpAny (model P w) A (searchRest a (.ref x) u false f es t (way t.mask u (c + q)) i (nth t.mask (t.probeStart u) (c + (q + 1)))) Q E s := by
        unfold searchRest
        rw [R.entry hp]
        dsimp only
        refine wpAny_bind (wpAny_holding ((wpAny_eqBool_tuple un (R.tup p pm) ix) ?_))
        refine wpAny_bind ((wpAny_setState_of hob dob R.fits) ?_)
        dsimp only
        refine wp_if_neg (by simp) ?_
        try refine wpAny_bind (wpAny_pure ?_)
        rw [sameMem]
        dsimp only
        simp only [if_true, sl, R.entry hp]
        refine wpAny_bind ((wpAny_isSame_ref_self) (wpAny_bind (wpAny_pure ?_)))
        simp only [if_true]
        by_cases e : p.2 = k
        · refine wp_if_pos (by simp [e]) ?_
          exact wpAny_pure (yes (List.mem_map.mpr ⟨p, pm, e⟩) i)
        · refine wp_if_neg (by simp [e]) ?_
          refine ih (c + (q + 1)) _ rfl (by omega) (by omega) fun i0 p0 h0 k0 => ?_
          obtain ⟨b, b1, b2, b3⟩ := re i0 p0 h0 k0
          have y := late i0 b q p0 h0 k0 b1 b3 before
          refine ⟨b, ?_, b2, b3⟩
          rcases Nat.lt_or_ge (c + q) b with y' | y'
          · omega
          · have eb : b = c + q := Nat.le_antisymm y' y
            rw [eb] at b3
            have sl' := slot_live R.tab.ris b3
            rw [sl] at sl'
            injection sl' with ei
            rw [← ei, hp] at h0
            exact absurd ((congrArg Prod.snd (Option.some.inj h0)).trans k0) e
      by_cases ld : t.led = true
      · refine wp_if_neg (by simp [ld]) ?_
        try refine wpAny_bind (wpAny_pure ?_)
        exact go
      · refine wp_if_pos (by simp [ld]) ?_
        refine wpAny_bind (seen_tup ix (fun y hy => ?_) ?_)
        · obtain ⟨e, me, ee⟩ := List.mem_map.mp hy
          have m1 : e ∈ es ∧ e.1 = u := by simpa using me
          have m2 : e ∈ es.toList := by simpa using m1.1
          rw [R.rows] at m2
          obtain ⟨r, hr, er⟩ := List.mem_map.mp m2
          exact ⟨r.2, r.1, by rw [← ee, ← er], R.tup r hr⟩
        · refine wp_if_neg (by decide) ?_
          try refine wpAny_bind (wpAny_pure ?_)
          exact go
    · have gp' : t.probe (fun i => (es[i]?.map (·.1)).getD 0) u (z.getD (t.probeStart u)) = some (.empty (way t.mask u K) none) := by
        have e2 := wy (K - c)
        rw [cK'] at e2
        rw [ez, ← e2]
        exact gp
      rw [gp']
      dsimp only
      refine wpAny_pure (nay (fun km => ?_) _)
      obtain ⟨p0, m0, k0⟩ := List.mem_map.mp km
      obtain ⟨i0, l0, e0⟩ := List.getElem_of_mem m0
      have h0 : L[i0]? = some p0 := by rw [List.getElem?_eq_getElem l0, e0]
      obtain ⟨b, b1, b2, b3⟩ := re i0 p0 h0 k0
      have y := late i0 b (K - c) p0 h0 k0 b1 b3 before
      omega
theorem ask_set (R : SetTR P w s.heap a L es ep t) (ix : IsT P w s.heap k x) (un : A.units < cLine) {Q : Option Nat → Shared → Prop}
    (h : ∀ r : Option Nat, r.isSome = decide (k ∈ L.map (·.2)) → Q r s) : wpAny (model P w) A (setFind a (.ref x) (thash P w k)) Q E s := by
  obtain ⟨ob, hob, _, dob⟩ := R.ob
  have room := R.room
  obtain ⟨K, kf, kn, kb⟩ := R.tab.first (by rw [List.length_map]; omega) (thash P w k)
  have big : 10 * SetTable.turns t.mask ≤ 1420 := by
    unfold SetTable.turns
    rcases R.tab.mok with e | e | e <;> omega
  unfold setFind setFindIn
  refine wpAny_bind ((wpAny_setState_of hob dob R.fits) ?_)
  dsimp only
  refine wp_if_neg (by simp [byScan, Value.scannable]) ?_
  try refine wpAny_bind (wpAny_pure ?_)
  refine wpAny_bind ?_
  unfold setSearch
  refine ask_from R ix un kf rfl kn kb (fun km i => ?_) (fun km j => ?_) 100000 0 none rfl (Nat.zero_le _) (by omega) fun i p hp ek => ?_
  · dsimp only
    exact wpAny_pure (h _ (by rw [decide_eq_true km]; rfl))
  · dsimp only
    exact wpAny_pure (h _ (by rw [decide_eq_false km]; rfl))
  · have hi : (L.map fun p => thash P w p.2)[i]? = some (thash P w k) := by rw [List.getElem?_map, hp, ← ek]; rfl
    have il : i < t.place.toList.length := by
      have l1 : i < L.length := (List.getElem?_eq_some_iff.mp hp).1
      have l2 := R.tab.sz
      rw [List.length_map] at l2
      rw [Array.length_toList]
      omega
    have hj := List.getElem?_eq_getElem il
    obtain ⟨c, hc, e⟩ := R.tab.before kn hi hj
    exact ⟨c, Nat.zero_le _, hc, by rw [hj, e]⟩
theorem tset_type (R : SetTR P w s.heap a L es ep t) : s.TypeIs (.ref a) "set" := by
  obtain ⟨o, ho, hc, _⟩ := R.ob
  exact ⟨o, ho, hc.1⟩
theorem tset_bare (R : SetTR P w s.heap a L es ep t) : ∀ b, Value.ref a = .ref b → ∃ o, s.heap.get? b = some o ∧ o.dict = none := fun b e => by
  obtain ⟨o, ho, hc, _⟩ := R.ob
  injection e with e
  rw [← e]
  exact ⟨o, ho, hc.2.1⟩
/-- k not in seen -/
theorem notin_tset (R : SetTR P w s.heap a L es ep t) (ix : IsT P w s.heap k x) (un : A.units + 3 < cLine) {Q : Value → Shared → Prop}
    (h : Q (.bool (!decide (k ∈ L.map (·.2)))) { s with toks := s.toks + (k.length + 1) }) : wpAny (model P w) A (compareOp .NotIn (.ref x) (.ref a)) Q E s := by
  show wpAny _ _ (do return .bool (!(← contains (.ref a) (.ref x)))) Q E s
  refine wpAny_bind ?_
  unfold contains
  try with_reducible refine wpAny_holding ?_
  have ty := tset_type R
  refine wpAny_bind ((wpAny_specialOf ty F.slot_set_contains.lookup) ?_)
  show wpAny _ _ (if (some (Value.builtin "set.__contains__") == some Value.none) = true then _ else _) _ E s
  rw [if_neg (by rw [beq_builtin_none]; exact Bool.false_ne_true)]
  refine wpAny_bind (wpAny_callSpecialUnlessNone?_slot (name := Str.ofString "__contains__") ty
    F.slot_set_contains (wpAny_call_entry F.slot_set_contains ty
    entry_set_contains ?_ (F.args_set_contains_2 _ _)))
  unfold Builtin.«frozenset.__contains__» Builtin.Frozenset.oneOther
  simp only [List.isEmpty_nil, bind_assoc]
  unfold Builtin.Frozenset.addrOf Builtin.Frozenset.withSetAsKey setContains
  refine wpAny_bind (wpAny_pure ?_)
  try dsimp only
  refine wpAny_bind (wpAny_pure ?_)
  try dsimp only
  refine wpAny_bind (wpAny_tryCatch ?_)
  refine wpAny_holding ?_
  refine wpAny_bind ((wpAny_pyHash_tuple (by show A.units + 1 < cLine; omega) ix) ?_)
  refine wpAny_bind (ask_set (s := { s with toks := s.toks + (k.length + 1) }) R ix (by show A.units + 1 < cLine; omega) fun r hr => ?_)
  refine wpAny_pure ?_
  show wpAny _ _ (ret (Value.bool r.isSome)) _ _ _
  rw [hr]
  exact wpAny_pure ⟨_, rfl, (wpAny_truthy_bool) (wpAny_pure h)⟩
/-- seen.add(k) -/
theorem add_tset (R : SetTR P w s.heap a L es ep t) (ix : IsT P w s.heap k x) (un : A.units + 3 < cLine) (few : L.length + 1 < 64) {Q : Value → Shared → Prop}
    (h : ∀ h' L' es' ep' t', Heap.SameBut a s.heap h' → SetTR P w h' a L' es' ep' t' → (k ∈ L.map (·.2) → L' = L) → (k ∉ L.map (·.2) → L'.Perm ((x, k) :: L)) →
      Q .none { s with heap := h', toks := s.toks + (k.length + 1) }) : wpAny (model P w) A (call (.builtin "set.add") [.ref a, .ref x]) Q E s := by
  have ty := tset_type R
  refine wpAny_call_entry F.slot_set_add ty F.entry_set_add ?_
    (F.args_set_add_2 _ _)
  unfold Builtin.«set.add» Builtin.Frozenset.oneOther
  simp only [List.isEmpty_nil, bind_assoc]
  unfold Builtin.Frozenset.addrOf setAdd
  refine wpAny_bind (wpAny_pure ?_)
  try dsimp only
  refine wpAny_bind (wpAny_pure ?_)
  try dsimp only
  refine wpAny_bind ?_
  refine wpAny_holding ?_
  refine wpAny_bind ((wpAny_pyHash_tuple (by show A.units + 1 < cLine; omega) ix) ?_)
  refine add_at (s := { s with toks := s.toks + (k.length + 1) }) R ix (by show A.units + 1 < cLine; omega) few fun b h' L' es' ep' t' sb R' c1 c2 => ?_
  show wpAny _ _ (ret Value.none) _ _ _
  exact wpAny_pure ⟨_, rfl, h h' L' es' ep' t' sb R' c1 c2⟩
end
section
variable {X : Cx}
/-- set() -/
def rSet0T (P : Program) (w : World) : List V → Hp → VK → Prop := fun xs H Q => xs = [] ∧ ∀ p, H p = none → Q (.ref p) (upd H p (SetTO P w p []))
theorem cr_set0T : CallR X (.type "set") (rSet0T X.prog X.w) := by
  intro pins s σ H xs us Q I r h
  obtain ⟨e, q⟩ := h
  subst e
  cases r
  refine setR_new fun _ => ?_
  have n := setTR_fresh (P := X.prog) (w := X.w) (h := s.heap.push { cls := .type "set", dict := none, data := .set #[] 0 (.fresh 0 0 (!X.w.params.followText "set-order")) }) (a := s.heap.objs.size) (Heap.get?_push_size _ rfl)
  exact ⟨.ref _, upd H s.heap.objs.size (SetTO X.prog X.w s.heap.objs.size []), I.laid (t' := s.toks) (fun b u => Heap.get?_push_of_some _) (Nat.le_refl _) (setTO_new n.t0), rfl, q _ (I.hok.fresh (Nat.le_refl _))⟩
theorem tset_of {pins : List (Addr × Obj)} {σ : L2.St} {H : Hp} {s : Shared} {a : Addr} {L : List (Addr × List Int)} (I : Inv X pins σ H s) (e : H a = some (SetTO X.prog X.w a L)) (ht : ∀ p ∈ L, SqT X.K H p.1 (p.2.map V.int)) :
    ∃ es ep t, SetTR X.prog X.w s.heap a L es ep t := ((I.hok a _ e).1 : SetT0 _ _ _ _ _).full fun p hp => Inv.isT I (ht p hp)
/-- x not in seen -/
def rTNot (K : PySem.W.Frag) (P : Program) (w : World) : V → V → Hp → VK → Prop := fun x y H Q => ∃ (b a : Addr) (k : List Int) (L : List (Addr × List Int)), x = .ref b ∧ y = .ref a ∧ SqT K H b (k.map V.int) ∧ H a = some (SetTO P w a L) ∧ (∀ p ∈ L, SqT K H p.1 (p.2.map V.int)) ∧
  Q (.bl (!decide (k ∈ L.map (·.2)))) H
theorem op_tnot (un : X.A.units + 3 < cLine) : OpR X (compareOp .NotIn) (rTNot X.K X.prog X.w) := by
  intro pins s σ H x y v u Q I rx ry h
  obtain ⟨b, a, k, L, ex, ey, hb, e, ht, q⟩ := h
  subst ex ey
  obtain rfl : v = Value.ref b := rx
  obtain rfl : u = Value.ref a := ry
  obtain ⟨es, ep, t, R⟩ := tset_of I e ht
  exact notin_tset R (Inv.isT I hb) un ⟨.bl _, H, I.tok _, rfl, q⟩
/-- seen.add(x) -/
def rTAdd (K : PySem.W.Frag) (P : Program) (w : World) : V → List V → Hp → VK → Prop := fun x xs H Q => ∃ (a b : Addr) (k : List Int) (L : List (Addr × List Int)), x = .ref a ∧ xs = [.ref b] ∧ SqT K H b (k.map V.int) ∧ H a = some (SetTO P w a L) ∧ (∀ p ∈ L, SqT K H p.1 (p.2.map V.int)) ∧
  L.length + 1 < 64 ∧ ∀ L', (k ∈ L.map (·.2) → L' = L) → (k ∉ L.map (·.2) → L'.Perm ((b, k) :: L)) → Q .non (upd H a (SetTO P w a L'))
theorem mt_tadd (un : X.A.units + 3 < cLine) : MtR X "set.add" (rTAdd X.K X.prog X.w) := by
  intro pins s σ H x xs v us Q I rx rxs h
  obtain ⟨a, b, k, L, ex, exs, hb, e, ht, few, q⟩ := h
  subst ex exs
  obtain rfl : v = Value.ref a := rx
  rw [Vals.ref1 rxs]
  obtain ⟨es, ep, t, R⟩ := tset_of I e ht
  refine add_tset R (Inv.isT I hb) un few fun h' L' es' ep' t' sb R' c1 c2 => ?_
  have he : ∃ o, h'.get? a = some o := by
    obtain ⟨o, ho, _⟩ := R'.ob
    exact ⟨o, ho⟩
  exact ⟨.non, upd H a (SetTO X.prog X.w a L'), I.write (e := a) (t' := s.toks + (k.length + 1)) (by rw [e]; trivial) (.inl rfl) (fun c o hc ho => (sb.2 c hc).trans ho) he (setTO_new R'.t0), rfl, q L' c1 c2⟩
def tTAdd (K : PySem.W.Frag) (P : Program) (w : World) (to : TE) (ta : TA) : TE := fun σ H Q => to σ H fun x H1 => (∃ a L, x = .ref a ∧ H1 a = some (SetTO P w a L) ∧ ∀ p ∈ L, SqT K H1 p.1 (p.2.map V.int)) ∧ ta σ H1 fun xs H2 => rTAdd K P w x xs H2 Q
theorem pe_tadd {o e : Expr} {es : List Expr} {to : TE} {ta : TA} {p1 p2 : Pos} (un : X.A.units + 3 < cLine) (ho : PE X o to) (ha : PA X (e :: es) ta)
    (hb : attributeBase o "add" X.env (eval o X.env) = eval o X.env := by rfl)
    (hf : ((backTo p2 (starEach (e :: es) X.env)).all (fun x => !x.1) && (backToKw p2 (keywordEach [] X.env)).all (fun x => x.1.isSome)
      && decide ((e :: es).length + ([] : List Keyword).length + (if ([] : List Keyword).isEmpty then 0 else 1) < 30)) = true := by rfl)
    (hl : (p1.endLine == p2.line) = true := by rfl) (hs : starEach (e :: es) X.env = (false, eval e X.env) :: starEach es X.env := by rfl) (hp : (backTo p2 (starEach es X.env)).any (·.1) = false := by rfl) :
    PE X (.Call (.Attribute o "add" p1) (e :: es) [] p2) (tTAdd X.K X.prog X.w to ta) := by
  refine ⟨fun pins s σ H Q I h => ?_⟩
  refine wpAny_Call_method_late hb hf hl rfl (thn (ho.run pins s σ H _ I h) fun v s1 ⟨x, H1, I1, r1, ⟨a, L, ex, e0, ht⟩, q1⟩ => ?_)
  subst ex
  obtain rfl : v = Value.ref a := r1
  obtain ⟨es0, ep, t, R⟩ := tset_of I1 e0 ht
  refine ⟨"set", "set.add", F.plainAttrs_set, F.slot_set_add, F.type_set_add, tset_type R, tset_bare R, ?_⟩
  have go := ha.run p2 pins s1 σ H1 _ I1 q1
  rw [hs] at go ⊢
  refine Calls.callWith_builtin (by show (false || (backTo p2 (starEach es X.env)).any (·.1)) = false; rw [hp]; rfl) (Calls.evalArgs_plain ?_)
  exact thn go fun us s2 ⟨vs, H2, I2, r2, q2⟩ => mt_tadd un pins s2 σ H2 (.ref a) vs (.ref a) us Q I2 rfl r2 q2
end
end

/-! ### the text -/
def topS (i : Nat) : Stmt := PySem.Challenge.pw_farlamps_k47_whole_sums_of_lamps.main.body.getD i (.Pass ⟨0, 0, 0, 0⟩)
abbrev s_is_whole : Stmt := topS 10
theorem sc_is_whole : FnScope ["thing"] ["thing"] (defScope s_is_whole) := ⟨rfl, rfl, rfl, by decide +kernel, rfl, by decide +kernel, by decide +kernel⟩
abbrev s_check_beat : Stmt := topS 11
theorem sc_check_beat : FnScope ["thing"] ["thing"] (defScope s_check_beat) := ⟨rfl, rfl, rfl, by decide +kernel, rfl, by decide +kernel, by decide +kernel⟩
abbrev s_inverse : Stmt := topS 12
theorem sc_inverse : FnScope ["number", "modulus", "older", "newer", "older_times", "newer_times", "quotient"] ["number", "modulus"] (defScope s_inverse) := ⟨rfl, rfl, rfl, by decide +kernel, rfl, by decide +kernel, by decide +kernel⟩
abbrev s_Lamp_init : Stmt := inClass (topS 14) 0
theorem sc_Lamp_init : FnScope ["self", "period", "beat"] ["self", "period", "beat"] (defScope s_Lamp_init) := ⟨rfl, rfl, rfl, by decide +kernel, rfl, by decide +kernel, by decide +kernel⟩
abbrev s_Lamp_eq : Stmt := inClass (topS 14) 1
theorem sc_Lamp_eq : FnScope ["self", "other"] ["self", "other"] (defScope s_Lamp_eq) := ⟨rfl, rfl, rfl, by decide +kernel, rfl, by decide +kernel, by decide +kernel⟩
abbrev s_seen_from : Stmt := topS 16
theorem sc_seen_from : FnScope ["lamp", "other", "common", "ahead", "period"] ["lamp", "other"] (defScope s_seen_from) := ⟨rfl, rfl, rfl, by decide +kernel, rfl, by decide +kernel, by decide +kernel⟩
abbrev s_l_mixed : Stmt := topS 36
theorem sc_l_mixed : FnScope ["_law_cell", "_law_k", "_law_number"] ["_law_cell", "_law_k"] (defScope s_l_mixed) := ⟨rfl, rfl, rfl, by decide +kernel, rfl, by decide +kernel, by decide +kernel⟩
abbrev s_l_source : Stmt := topS 37
theorem sc_l_source : FnScope ["_law_cell"] ["_law_cell"] (defScope s_l_source) := ⟨rfl, rfl, rfl, by decide +kernel, rfl, by decide +kernel, by decide +kernel⟩
abbrev s_l_take : Stmt := topS 38
theorem sc_l_take : FnScope ["_law_source_here", "_law_many", "_law_found"] ["_law_source_here", "_law_many"] (defScope s_l_take) := ⟨rfl, rfl, rfl, by decide +kernel, rfl, by decide +kernel, by decide +kernel⟩
abbrev s_meet : Stmt := topS 15
theorem sc_meet : FnScope ["one", "other", "seen"] ["one", "other"] (defScope s_meet) := ⟨rfl, rfl, rfl, by decide +kernel, rfl, by decide +kernel, by decide +kernel⟩
abbrev s_copied : Stmt := topS 27
theorem sc_copied : FnScope ["lamps", "lamp"] ["lamps"] (defScope s_copied) := ⟨rfl, rfl, rfl, by decide +kernel, rfl, by decide +kernel, by decide +kernel⟩
abbrev s_Light_init : Stmt := inClass (topS 26) 0
theorem sc_Light_init : FnScope ["self", "lamps", "lamp"] ["self", "lamps"] (defScope s_Light_init) := ⟨rfl, rfl, rfl, by decide +kernel, rfl, by decide +kernel, by decide +kernel⟩
abbrev s_Light_lamps : Stmt := inClass (topS 26) 2
theorem sc_Light_lamps : FnScope ["self"] ["self"] (defScope s_Light_lamps) := ⟨rfl, rfl, rfl, by decide +kernel, rfl, by decide +kernel, by decide +kernel⟩
abbrev s_by_turns : Stmt := topS 23
theorem sc_by_turns : FnScope ["numbers"] ["numbers"] (defScope s_by_turns) := ⟨rfl, rfl, rfl, by decide +kernel, rfl, by decide +kernel, by decide +kernel⟩
abbrev s_with_just : Stmt := topS 22
theorem sc_with_just : FnScope ["just", "often", "many"] ["just", "often"] (defScope s_with_just) := ⟨rfl, rfl, rfl, by decide +kernel, rfl, by decide +kernel, by decide +kernel⟩
abbrev s_often : Stmt := topS 21
theorem sc_often : FnScope ["meetings", "long", "lamps", "lamp"] ["meetings", "long"] (defScope s_often) := ⟨rfl, rfl, rfl, by decide +kernel, rfl, by decide +kernel, by decide +kernel⟩
abbrev s_meetings : Stmt := topS 20
theorem sc_meetings : FnScope ["light", "begin", "long", "lamps", "meetings", "lamp", "many", "met", "fewer", "more"] ["light", "begin", "long"] (defScope s_meetings) := ⟨rfl, rfl, rfl, by decide +kernel, rfl, by decide +kernel, by decide +kernel⟩
abbrev s_by_many : Stmt := topS 19
theorem sc_by_many : FnScope ["light", "begin", "end", "long", "often", "just"] ["light", "begin", "end"] (defScope s_by_many) := ⟨rfl, rfl, rfl, by decide +kernel, rfl, by decide +kernel, by decide +kernel⟩
abbrev s_dark_between : Stmt := topS 18
theorem sc_dark_between : FnScope ["light", "begin", "end"] ["light", "begin", "end"] (defScope s_dark_between) := ⟨rfl, rfl, rfl, by decide +kernel, rfl, by decide +kernel, by decide +kernel⟩
abbrev s_moved : Stmt := topS 29
theorem sc_moved : FnScope ["light", "by", "lamp"] ["light", "by"] (defScope s_moved) := ⟨rfl, rfl, rfl, by decide +kernel, rfl, by decide +kernel, by decide +kernel⟩
abbrev s_stretched : Stmt := topS 30
theorem sc_stretched : FnScope ["light", "times", "lamp"] ["light", "times"] (defScope s_stretched) := ⟨rfl, rfl, rfl, by decide +kernel, rfl, by decide +kernel, by decide +kernel⟩
abbrev s_light_of : Stmt := topS 33
theorem sc_light_of : FnScope ["lamps"] ["lamps"] (defScope s_light_of) := ⟨rfl, rfl, rfl, by decide +kernel, rfl, by decide +kernel, by decide +kernel⟩
abbrev s_joined : Stmt := topS 31
theorem sc_joined : FnScope ["one", "other"] ["one", "other"] (defScope s_joined) := ⟨rfl, rfl, rfl, by decide +kernel, rfl, by decide +kernel, by decide +kernel⟩
abbrev s_unlike : Stmt := topS 34
theorem sc_unlike : FnScope ["lamps", "seen", "unlike", "lamp"] ["lamps"] (defScope s_unlike) := ⟨rfl, rfl, rfl, by decide +kernel, rfl, by decide +kernel, by decide +kernel⟩
abbrev s_both : Stmt := topS 32
theorem sc_both : FnScope ["one", "other", "met", "lamp", "beside"] ["one", "other"] (defScope s_both) := ⟨rfl, rfl, rfl, by decide +kernel, rfl, by decide +kernel, by decide +kernel⟩
abbrev s_l_lamps : Stmt := topS 39
theorem sc_l_lamps : FnScope ["_law_source_here", "_law_most", "_law_many", "_law_way", "_law_found", "_law_great", "_law_unit", "_law_by", "_law_turn", "_law_k", "_law_period", "_law_beat_here"] ["_law_source_here", "_law_most"] (defScope s_l_lamps) := ⟨rfl, rfl, rfl, by decide +kernel, rfl, by decide +kernel, by decide +kernel⟩
abbrev s_l_beat : Stmt := topS 41
theorem sc_l_beat : FnScope ["_law_source_here", "_law_near", "_law_far"] ["_law_source_here"] (defScope s_l_beat) := ⟨rfl, rfl, rfl, by decide +kernel, rfl, by decide +kernel, by decide +kernel⟩
abbrev s_l_light : Stmt := topS 40
theorem sc_l_light : FnScope ["_law_pairs", "_law_period", "_law_beat_here"] ["_law_pairs"] (defScope s_l_light) := ⟨rfl, rfl, rfl, by decide +kernel, rfl, by decide +kernel, by decide +kernel⟩
abbrev s_l_bright : Stmt := topS 42
theorem sc_l_bright : FnScope ["_law_seen", "_law_start", "_law_last"] ["_law_seen", "_law_start", "_law_last"] (defScope s_l_bright) := ⟨rfl, rfl, rfl, by decide +kernel, rfl, by decide +kernel, by decide +kernel⟩
abbrev s_l_shines : Stmt := topS 43
theorem sc_l_shines : FnScope ["_law_pairs", "_law_start", "_law_last", "_law_period", "_law_beat_here"] ["_law_pairs", "_law_start", "_law_last"] (defScope s_l_shines) := ⟨rfl, rfl, rfl, by decide +kernel, rfl, by decide +kernel, by decide +kernel⟩
abbrev s_l_sums_right : Stmt := topS 44
theorem sc_l_sums_right : FnScope ["_law_pairs", "_law_start", "_law_last", "_law_found", "_law_many", "_law_often"] ["_law_pairs", "_law_start", "_law_last"] (defScope s_l_sums_right) := ⟨rfl, rfl, rfl, by decide +kernel, rfl, by decide +kernel, by decide +kernel⟩
abbrev s_l_two_right : Stmt := topS 45
theorem sc_l_two_right : FnScope ["_law_one", "_law_other", "_law_start", "_law_last", "_law_first", "_law_second", "_law_meeting", "_law_whole"] ["_law_one", "_law_other", "_law_start", "_law_last"] (defScope s_l_two_right) := ⟨rfl, rfl, rfl, by decide +kernel, rfl, by decide +kernel, by decide +kernel⟩
abbrev s_l_law : Stmt := topS 46
theorem sc_l_law : FnScope ["_law_script", "_law_cell", "_law_source_here", "_law_one", "_law_other", "_law_start", "_law_long", "_law_last", "_law_seen", "_law_found", "_law_by", "_law_slow", "_law_wide", "_law_few", "_law_twice"] ["_law_script"] (defScope s_l_law) := ⟨rfl, rfl, rfl, by decide +kernel, rfl, by decide +kernel, by decide +kernel⟩
set_option maxHeartbeats 4000000 in
/-- what the top leaves: where each def stands -/
structure Top (K : PySem.W.Frag) (mg : Str → Option Value) where
  C_Lamp : Addr
  cl_Lamp : Cls K C_Lamp
  gC_Lamp : mg "Lamp" = some (.ref C_Lamp)
  kl_Lamp : Kls K C_Lamp
  na_Lamp_period : NoAttr K C_Lamp "period"
  na_Lamp_beat : NoAttr K C_Lamp "beat"
  C_Light : Addr
  cl_Light : Cls K C_Light
  gC_Light : mg "Light" = some (.ref C_Light)
  kl_Light : Kls K C_Light
  na_Light__lamps : NoAttr K C_Light "_lamps"
  f_is_whole : Addr
  d_is_whole : FuncData
  F_is_whole : Fun K "is_whole" "is_whole" s_is_whole f_is_whole d_is_whole
  g_is_whole : mg "is_whole" = some (.ref f_is_whole)
  b_is_whole : Binds K d_is_whole ["thing"] []
  f_check_beat : Addr
  d_check_beat : FuncData
  F_check_beat : Fun K "check_beat" "check_beat" s_check_beat f_check_beat d_check_beat
  g_check_beat : mg "check_beat" = some (.ref f_check_beat)
  b_check_beat : Binds K d_check_beat ["thing"] []
  f_inverse : Addr
  d_inverse : FuncData
  F_inverse : Fun K "inverse" "inverse" s_inverse f_inverse d_inverse
  g_inverse : mg "inverse" = some (.ref f_inverse)
  b_inverse : Binds K d_inverse ["number", "modulus"] []
  f_Lamp_init : Addr
  d_Lamp_init : FuncData
  F_Lamp_init : Fun K "__init__" "Lamp.__init__" s_Lamp_init f_Lamp_init d_Lamp_init
  m_Lamp_init : Meth K C_Lamp "__init__" f_Lamp_init
  mk_Lamp : Mk K C_Lamp f_Lamp_init
  b_Lamp_init : Binds K d_Lamp_init ["self", "period", "beat"] []
  f_Lamp_eq : Addr
  d_Lamp_eq : FuncData
  F_Lamp_eq : Fun K "__eq__" "Lamp.__eq__" s_Lamp_eq f_Lamp_eq d_Lamp_eq
  m_Lamp_eq : Meth K C_Lamp "__eq__" f_Lamp_eq
  b_Lamp_eq : Binds K d_Lamp_eq ["self", "other"] []
  f_seen_from : Addr
  d_seen_from : FuncData
  F_seen_from : Fun K "seen_from" "seen_from" s_seen_from f_seen_from d_seen_from
  g_seen_from : mg "seen_from" = some (.ref f_seen_from)
  b_seen_from : Binds K d_seen_from ["lamp", "other"] []
  f_l_mixed : Addr
  d_l_mixed : FuncData
  F_l_mixed : Fun K "_law_mixed" "_law_mixed" s_l_mixed f_l_mixed d_l_mixed
  g_l_mixed : mg "_law_mixed" = some (.ref f_l_mixed)
  b_l_mixed : Binds K d_l_mixed ["_law_cell", "_law_k"] []
  f_l_source : Addr
  d_l_source : FuncData
  F_l_source : Fun K "_law_source" "_law_source" s_l_source f_l_source d_l_source
  g_l_source : mg "_law_source" = some (.ref f_l_source)
  b_l_source : Binds K d_l_source ["_law_cell"] []
  f_l_take : Addr
  d_l_take : FuncData
  F_l_take : Fun K "_law_take" "_law_take" s_l_take f_l_take d_l_take
  g_l_take : mg "_law_take" = some (.ref f_l_take)
  b_l_take : Binds K d_l_take ["_law_source_here", "_law_many"] []
  f_meet : Addr
  d_meet : FuncData
  F_meet : Fun K "meet" "meet" s_meet f_meet d_meet
  g_meet : mg "meet" = some (.ref f_meet)
  b_meet : Binds K d_meet ["one", "other"] []
  f_copied : Addr
  d_copied : FuncData
  F_copied : Fun K "_copied" "_copied" s_copied f_copied d_copied
  g_copied : mg "_copied" = some (.ref f_copied)
  b_copied : Binds K d_copied ["lamps"] []
  f_Light_init : Addr
  d_Light_init : FuncData
  F_Light_init : Fun K "__init__" "Light.__init__" s_Light_init f_Light_init d_Light_init
  m_Light_init : Meth K C_Light "__init__" f_Light_init
  mk_Light : Mk K C_Light f_Light_init
  b_Light_init : Binds K d_Light_init ["self", "lamps"] []
  f_Light_lamps : Addr
  d_Light_lamps : FuncData
  F_Light_lamps : Fun K "lamps" "Light.lamps" s_Light_lamps f_Light_lamps d_Light_lamps
  m_Light_lamps : Meth K C_Light "lamps" f_Light_lamps
  b_Light_lamps : Binds K d_Light_lamps ["self"] []
  f_by_turns : Addr
  d_by_turns : FuncData
  F_by_turns : Fun K "_by_turns" "_by_turns" s_by_turns f_by_turns d_by_turns
  g_by_turns : mg "_by_turns" = some (.ref f_by_turns)
  b_by_turns : Binds K d_by_turns ["numbers"] []
  f_with_just : Addr
  d_with_just : FuncData
  F_with_just : Fun K "_with_just" "_with_just" s_with_just f_with_just d_with_just
  g_with_just : mg "_with_just" = some (.ref f_with_just)
  b_with_just : Binds K d_with_just ["just", "often"] []
  f_often : Addr
  d_often : FuncData
  F_often : Fun K "_often" "_often" s_often f_often d_often
  g_often : mg "_often" = some (.ref f_often)
  b_often : Binds K d_often ["meetings", "long"] []
  f_meetings : Addr
  d_meetings : FuncData
  F_meetings : Fun K "_meetings" "_meetings" s_meetings f_meetings d_meetings
  g_meetings : mg "_meetings" = some (.ref f_meetings)
  b_meetings : Binds K d_meetings ["light", "begin", "long"] []
  f_by_many : Addr
  d_by_many : FuncData
  F_by_many : Fun K "by_many" "by_many" s_by_many f_by_many d_by_many
  g_by_many : mg "by_many" = some (.ref f_by_many)
  b_by_many : Binds K d_by_many ["light", "begin", "end"] []
  f_dark_between : Addr
  d_dark_between : FuncData
  F_dark_between : Fun K "dark_between" "dark_between" s_dark_between f_dark_between d_dark_between
  g_dark_between : mg "dark_between" = some (.ref f_dark_between)
  b_dark_between : Binds K d_dark_between ["light", "begin", "end"] []
  f_moved : Addr
  d_moved : FuncData
  F_moved : Fun K "moved" "moved" s_moved f_moved d_moved
  g_moved : mg "moved" = some (.ref f_moved)
  b_moved : Binds K d_moved ["light", "by"] []
  f_stretched : Addr
  d_stretched : FuncData
  F_stretched : Fun K "stretched" "stretched" s_stretched f_stretched d_stretched
  g_stretched : mg "stretched" = some (.ref f_stretched)
  b_stretched : Binds K d_stretched ["light", "times"] []
  f_light_of : Addr
  d_light_of : FuncData
  F_light_of : Fun K "_light_of" "_light_of" s_light_of f_light_of d_light_of
  g_light_of : mg "_light_of" = some (.ref f_light_of)
  b_light_of : Binds K d_light_of ["lamps"] []
  f_joined : Addr
  d_joined : FuncData
  F_joined : Fun K "joined" "joined" s_joined f_joined d_joined
  g_joined : mg "joined" = some (.ref f_joined)
  b_joined : Binds K d_joined ["one", "other"] []
  f_unlike : Addr
  d_unlike : FuncData
  F_unlike : Fun K "_unlike" "_unlike" s_unlike f_unlike d_unlike
  g_unlike : mg "_unlike" = some (.ref f_unlike)
  b_unlike : Binds K d_unlike ["lamps"] []
  f_both : Addr
  d_both : FuncData
  F_both : Fun K "both" "both" s_both f_both d_both
  g_both : mg "both" = some (.ref f_both)
  b_both : Binds K d_both ["one", "other"] []
  f_l_lamps : Addr
  d_l_lamps : FuncData
  F_l_lamps : Fun K "_law_lamps" "_law_lamps" s_l_lamps f_l_lamps d_l_lamps
  g_l_lamps : mg "_law_lamps" = some (.ref f_l_lamps)
  b_l_lamps : Binds K d_l_lamps ["_law_source_here", "_law_most"] []
  f_l_beat : Addr
  d_l_beat : FuncData
  F_l_beat : Fun K "_law_beat" "_law_beat" s_l_beat f_l_beat d_l_beat
  g_l_beat : mg "_law_beat" = some (.ref f_l_beat)
  b_l_beat : Binds K d_l_beat ["_law_source_here"] []
  f_l_light : Addr
  d_l_light : FuncData
  F_l_light : Fun K "_law_light" "_law_light" s_l_light f_l_light d_l_light
  g_l_light : mg "_law_light" = some (.ref f_l_light)
  b_l_light : Binds K d_l_light ["_law_pairs"] []
  f_l_bright : Addr
  d_l_bright : FuncData
  F_l_bright : Fun K "_law_bright" "_law_bright" s_l_bright f_l_bright d_l_bright
  g_l_bright : mg "_law_bright" = some (.ref f_l_bright)
  b_l_bright : Binds K d_l_bright ["_law_seen", "_law_start", "_law_last"] []
  f_l_shines : Addr
  d_l_shines : FuncData
  F_l_shines : Fun K "_law_shines" "_law_shines" s_l_shines f_l_shines d_l_shines
  g_l_shines : mg "_law_shines" = some (.ref f_l_shines)
  b_l_shines : Binds K d_l_shines ["_law_pairs", "_law_start", "_law_last"] []
  f_l_sums_right : Addr
  d_l_sums_right : FuncData
  F_l_sums_right : Fun K "_law_sums_right" "_law_sums_right" s_l_sums_right f_l_sums_right d_l_sums_right
  g_l_sums_right : mg "_law_sums_right" = some (.ref f_l_sums_right)
  b_l_sums_right : Binds K d_l_sums_right ["_law_pairs", "_law_start", "_law_last"] []
  f_l_two_right : Addr
  d_l_two_right : FuncData
  F_l_two_right : Fun K "_law_two_right" "_law_two_right" s_l_two_right f_l_two_right d_l_two_right
  g_l_two_right : mg "_law_two_right" = some (.ref f_l_two_right)
  b_l_two_right : Binds K d_l_two_right ["_law_one", "_law_other", "_law_start", "_law_last"] []
  f_l_law : Addr
  d_l_law : FuncData
  F_l_law : Fun K "law" "law" s_l_law f_l_law d_l_law
  g_l_law : mg "law" = some (.ref f_l_law)
  b_l_law : Binds K d_l_law ["_law_script"] []
  ne_Lamp : NeK K C_Lamp
  n_isinstance : mg "isinstance" = none
  n_int : mg "int" = none
  n_bool : mg "bool" = none
  n_range : mg "range" = none
  n_len : mg "len" = none
  n_list : mg "list" = none
  n_enumerate : mg "enumerate" = none
  n_tuple : mg "tuple" = none
  n_all : mg "all" = none
  n_sum : mg "sum" = none
  n_reversed : mg "reversed" = none
  n_max : mg "max" = none
  n_set : mg "set" = none
  n_min : mg "min" = none
  t_MOST_LAMPS : Tok
  c_MOST_LAMPS : mg "MOST_LAMPS" = some (.int 10 t_MOST_LAMPS)
  ic_Lamp : PySem.W.isClsIn K C_Lamp = true
  tc_Lamp : PySem.W.typeIn K (.ref C_Lamp) = some (.type "type")
  sn_Lamp : PySem.W.subIn K (.type "NoneType") (.ref C_Lamp) = some false
  i_comb : mg "comb" = some (.builtin "math.comb")
  i_gcd : mg "gcd" = some (.builtin "math.gcd")
section
variable {P : Program} {w : World} {K : PySem.W.Frag} {mg : Str → Option Value} {base : Heap}
/-! ### whole numbers -/
def spWhole : Sp := fun vs H Q _ => ∃ z : Int, vs = [.int z] ∧ Q (.bl true) H
theorem ok_is_whole (T : Top K mg) : FnOk P w K mg base CX0 1 T.f_is_whole T.d_is_whole ["thing"] spWhole := by
  refine T.F_is_whole.ok sc_is_whole (fun vs H Q E h => ?_) (fun cdv A outer s H vs Q E hr h => ?_)
  · obtain ⟨z, rfl, _⟩ := h; rfl
  · obtain ⟨z, rfl, q⟩ := h
    refine ⟨_, (pss_one (ps_ret (pe_and (pe_callB call_isi (by rfl) T.n_isinstance (by decide +kernel) (pa_cons (pv 0) (pa_cons (pe_bltn (v := .ty "int") (by rfl) T.n_int (by decide +kernel) rfl) pa_nil))) (pe_one (pe_not (pe_callB call_isi (by rfl) T.n_isinstance (by decide +kernel) (pa_cons (pv 0) (pa_cons (pe_bltn (v := .ty "bool") (by rfl) T.n_bool (by decide +kernel) rfl) pa_nil)))))))), ?_⟩
    exact ⟨_, rfl, _, _, _, _, true, rfl, .ty _, .base (.int z), kit_ty (by decide +kernel), true, rfl, iteT ⟨_, rfl, _, _, _, _, false, rfl, .ty _, .base (.int z), kit_ty (by decide +kernel), false, rfl, q⟩⟩
def spCheckBeat : Sp := fun vs H Q _ => ∃ z : Int, vs = [.int z] ∧ Q .non H
theorem ok_check_beat (T : Top K mg) : FnOk P w K mg base CX0 2 T.f_check_beat T.d_check_beat ["thing"] spCheckBeat := by
  have G_is_whole := ok_is_whole (P := P) (w := w) (base := base) T
  refine T.F_check_beat.ok sc_check_beat (fun vs H Q E h => ?_) (fun cdv A outer s H vs Q E hr h => ?_)
  · obtain ⟨z, rfl, _⟩ := h; rfl
  · obtain ⟨z, rfl, q⟩ := h
    refine ⟨_, (pss_one (ps_if (pt_not (pt_val (pe_call G_is_whole (hr.mono (by decide)) rfl T.g_is_whole T.F_is_whole.kp T.b_is_whole .nil pass0 (pa_cons (pv 0) pa_nil)))) (pss_one (ps_never)) pss_nil)), ?_⟩
    exact ⟨_, rfl, z, rfl, true, rfl, iteF q⟩
def spInverse : Sp := fun vs H Q _ => ∃ a m : Int, vs = [.int a, .int m] ∧ 0 < m ∧ m.natAbs < 2 ^ E8 ∧ Int.gcd m a = 1 ∧ ∀ r : Int, 0 ≤ r ∧ r < m ∧ m ∣ a * r - 1 → ∀ H', Same H H' → Q (.int r) H'
theorem fmod_pos {a b : Int} (h : 0 < b) : a.fmod b = a % b := Int.fmod_eq_emod_of_nonneg a (by omega)
theorem ok_inverse (T : Top K mg) : FnOk P w K mg base CX0 1 T.f_inverse T.d_inverse ["number", "modulus"] spInverse := by
  refine T.F_inverse.ok sc_inverse (fun vs H Q E h => ?_) (fun cdv A outer s H vs Q E hr h => ?_)
  · obtain ⟨a, m, rfl, _⟩ := h; rfl
  · obtain ⟨a, m, rfl, hm, hb, hg, q⟩ := h
    refine ⟨_, (pss_cons (ps_par (i := 2) (j := 3) (by rfl) sc_inverse.nd rfl rfl (by decide) rfl rfl (pa_cons (pv 1) (pa_cons (pe_op op_modN (pv 0) (pv 1)) pa_nil)) (by rfl))
      (pss_cons (ps_asg (pe_tup (pa_cons pe_int (pa_cons pe_int pa_nil))) (pg_tup (by rfl) (pgs_cons (pg_name (i := 4) sc_inverse.nd rfl (Or.inl rfl)) (pgs_cons (pg_name (i := 5) sc_inverse.nd rfl (Or.inl rfl)) pgs_nil))))
      (pss_cons (ps_while PassesOwn.never (pt_cmpR op_gt (pv 3) pe_int (nomark _)) (pss_cons (ps_set (i := 6) sc_inverse.nd rfl (Or.inl rfl) (pe_op op_fdivW (pv 2) (pv 3)))
      (pss_cons (ps_par (i := 2) (j := 3) (by rfl) sc_inverse.nd rfl rfl (by decide) rfl rfl (pa_cons (pv 3) (pa_cons (pe_op op_sub (pv 2) (pe_op op_mulW (pv 6) (pv 3))) pa_nil)) (by rfl))
      (pss_one (ps_par (i := 4) (j := 5) (by rfl) sc_inverse.nd rfl rfl (by decide) rfl rfl (pa_cons (pv 5) (pa_cons (pe_op op_sub (pv 4) (pe_op op_mulW (pv 6) (pv 5))) pa_nil)) (by rfl))))))
      (pss_one (ps_ret (pe_op op_modN (pv 4) (pv 1))))))), ?_⟩
    refine ⟨_, rfl, _, rfl, _, rfl, _, _, rfl, rfl, (by omega), _, _, rfl, ?_⟩
    refine ⟨(by show 2 ≤ sizeLine; decide), fun p hp => ?_⟩
    have s1 : Same H (upd H p (.tup [.int 0, .int 1])) := fun b o e => by rw [upd_ne (ne_of_none e hp)]; exact e
    refine ⟨p, _, rfl, SqT.of upd_same, rfl, _, _, rfl, _, _, rfl, rfl, ?_⟩
    have lt8 : ∀ z : Int, 0 ≤ z → z ≤ m → z.natAbs < 2 ^ E8 := fun z h0 h1 => Nat.lt_of_le_of_lt (by omega) hb
    refine while_by (fun σ H' => ∃ (o n ot nt : Int) (v : Option V), σ = [some (.int a), some (.int m), some (.int o), some (.int n), some (.int ot), some (.int nt), v] ∧ InvI a m o n ot nt ∧ (o ≤ m ∧ n ≤ m) ∧ Same H H')
      (fun σ _ => match σ with | [_, _, _, some (.int n), _, _, _] => n.toNat | _ => 0) ⟨m, a % m, 0, 1, none, by rw [← fmod_pos hm]; rfl, InvI.start hm hg, ⟨Int.le_refl _, Int.le_of_lt (Int.emod_lt_of_pos _ hm)⟩, s1⟩ ?_
      (fun σ H Q Q' hq ⟨v, hv, i, j, e1, e2, k, e3, h⟩ => ⟨v, hv, i, j, e1, e2, k, e3, hq _ _ h⟩)
    rintro σ H' ⟨o, n, ot, nt, v, rfl, I, ⟨hle, no⟩, s2⟩
    refine ⟨_, rfl, _, _, rfl, rfl, _, rfl, ite2 (fun c => ?_) (fun c => ?_)⟩
    · have hn : 0 < n := of_decide_eq_true c
      have o0 := I.o0
      have q0 : 0 ≤ o / n := Int.ediv_nonneg (by omega) (by omega)
      have q1 : o / n ≤ o := Int.ediv_le_self _ (by omega)
      have J := I.step hn
      have e0 : o - o / n * n = o % n := by
        have := Int.emod_add_mul_ediv o n
        rw [Int.mul_comm] at this
        omega
      have nlt : o % n < n := Int.emod_lt_of_pos _ hn
      have bn := lt8 n (by omega) no
      have bq := lt8 (o / n) q0 (by omega)
      have bt : nt.natAbs < 2 ^ E8 := Nat.lt_of_le_of_lt (by have := I.nt_le; omega) hb
      refine ⟨_, rfl, _, rfl, o, n, rfl, rfl, wide_div hn bn (by decide) (by decide), ?_⟩
      refine ⟨_, rfl, _, rfl, _, rfl, _, rfl, _, _, rfl, rfl, wide_mul bq bn (by decide) (by decide) (by decide), _, _, rfl, rfl, _, _, rfl, ?_⟩
      refine ⟨_, rfl, _, rfl, _, rfl, _, rfl, _, _, rfl, rfl, wide_mul bq bt (by decide) (by decide) (by decide), _, _, rfl, rfl, _, _, rfl, ?_⟩
      refine ⟨⟨n, o - o / n * n, nt, ot - o / n * nt, _, rfl, J, ⟨no, by omega⟩, s2⟩, ?_⟩
      show (o - o / n * n).toNat < n.toNat
      omega
    · have hn : n = 0 := by
        have := of_decide_eq_false (Bool.eq_false_iff.mpr c)
        have := I.n0
        omega
      subst hn
      refine ⟨_, rfl, _, rfl, _, _, rfl, rfl, (by omega), ?_⟩
      show Q (V.int (ot.fmod m)) H'
      rw [fmod_pos hm]
      exact q _ (I.fin hm) _ s2
end

section
variable {P : Program} {w : World} {K : PySem.W.Frag} {mg : Str → Option Value} {base : Heap}
/-! ### a lamp: its fields -/
theorem lpb : ¬ (("period" : Str) = "beat") := by decide +kernel
def lf (p b : Int) : List (Str × V) := putF "beat" (.int b) (putF "period" (.int p) [])
theorem lf_period (p b : Int) : (lf p b).lookup ("period" : Str) = some (.int p) := by
  unfold lf
  rw [lookup_putF, if_neg lpb, lookup_putF, if_pos rfl]
theorem lf_beat (p b : Int) : (lf p b).lookup ("beat" : Str) = some (.int b) := by
  unfold lf
  rw [lookup_putF, if_pos rfl]
theorem lf_no (p b : Int) {m : Str} (h1 : ¬ m = "beat") (h2 : ¬ m = "period") : (lf p b).lookup m = none := by
  unfold lf
  rw [lookup_putF, if_neg h1, lookup_putF, if_neg h2]
  all_goals rfl
/-- a Lamp of period p and beat b stands at a -/
def LampAt (C : Addr) (H : Hp) (a : Addr) (p b : Int) : Prop := ∃ dx, H a = some (.ins C dx (lf p b))
theorem LampAt.same {C : Addr} {H H' : Hp} {a : Addr} {p b : Int} (h : LampAt C H a p b) (s : Same H H') : LampAt C H' a p b := let ⟨dx, e⟩ := h; ⟨dx, s _ _ e⟩
theorem LampAt.eq {C : Addr} {H : Hp} {a : Addr} {p b p' b' : Int} (h : LampAt C H a p b) (h' : LampAt C H a p' b') : p = p' ∧ b = b' := by
  obtain ⟨dx, e⟩ := h
  obtain ⟨dx', e'⟩ := h'
  rw [e] at e'
  have e2 : lf p b = lf p' b' := by
    injection e' with e'
    injection e'
  have h1 := lf_period p b
  have h2 := lf_beat p b
  rw [e2, lf_period] at h1
  rw [e2, lf_beat] at h2
  injection h1 with h1
  injection h1 with h1
  injection h2 with h2
  injection h2 with h2
  exact ⟨h1.symm, h2.symm⟩
theorem dec_int {a b : Int} : decide (V.int a = V.int b) = decide (a = b) := by
  by_cases h : a = b
  · rw [decide_eq_true h, decide_eq_true (by rw [h])]
  · rw [decide_eq_false h, decide_eq_false (by intro e; injection e with e; exact h e)]
/-! ### made -/
def spLampInit (C : Addr) : Sp := fun vs H Q _ => ∃ (x dx : Addr) (p b : Int), vs = [.ref x, .int p, .int b] ∧ H x = some (.ins C dx []) ∧ 0 < p ∧ ∀ H', LampAt C H' x p (b % p) → (∀ c o, H c = some o → c ≠ x → H' c = some o) → Q .non H'
theorem ok_Lamp_init (T : Top K mg) : FnOk P w K mg base CX0 2 T.f_Lamp_init T.d_Lamp_init ["self", "period", "beat"] (spLampInit T.C_Lamp) := by
  have G_is_whole := ok_is_whole (P := P) (w := w) (base := base) T
  refine T.F_Lamp_init.ok sc_Lamp_init (fun vs H Q E h => ?_) (fun cdv A outer s H vs Q E hr h => ?_)
  · obtain ⟨x, dx, p, b, rfl, _⟩ := h; rfl
  · obtain ⟨x, dx, p, b, rfl, hx, hp, q⟩ := h
    refine ⟨_, (pss_cons (ps_if (PW.pt (pw_or (pt_not (pt_val (pe_call G_is_whole (hr.mono (by decide)) rfl T.g_is_whole T.F_is_whole.kp T.b_is_whole .nil pass0 (pa_cons (pv 1) pa_nil)))) (pw_or1 (pt_cmpR op_lt (pv 1) pe_int (nomark _))))) (pss_one (ps_never)) pss_nil)
      (pss_cons (ps_if (pt_not (pt_val (pe_call G_is_whole (hr.mono (by decide)) rfl T.g_is_whole T.F_is_whole.kp T.b_is_whole .nil pass0 (pa_cons (pv 2) pa_nil)))) (pss_one (ps_never)) pss_nil)
      (pss_cons (ps_fld (pv 0) (pv 1) rfl)
      (pss_one (ps_fld (pv 0) (pe_op op_modN (pv 2) (pv 1)) rfl))))), ?_⟩
    refine ⟨_, rfl, p, rfl, true, rfl, iteF ⟨_, rfl, _, _, rfl, rfl, _, rfl, ite2 (fun c => absurd (of_decide_eq_true c) (by omega)) (fun _ => ?_)⟩⟩
    refine ⟨_, rfl, b, rfl, true, rfl, iteF ?_⟩
    refine ⟨_, rfl, _, rfl, x, T.C_Lamp, dx, [], rfl, hx, T.cl_Lamp, T.na_Lamp_period, (by show 0 < 1000; decide), ?_⟩
    refine ⟨_, rfl, _, rfl, _, _, rfl, rfl, (by omega), _, rfl, x, T.C_Lamp, dx, _, rfl, upd_same, T.cl_Lamp, T.na_Lamp_beat, (by show 1 < 1000; decide), ?_⟩
    refine q _ ⟨dx, ?_⟩ fun c o e hc => by rw [upd_ne hc, upd_ne hc]; exact e
    rw [upd_same]
    show some (HO.ins T.C_Lamp dx (putF "beat" (V.int (b.fmod p)) (putF "period" (V.int p) []))) = _
    rw [fmod_pos hp]
    rfl
/-- Lamp(p, b): the arguments' reading ends in this -/
theorem make_lamp {C : Addr} {p b : Int} {vs : List V} {H : Hp} {Q : VK} {E : XK} (hv : vs = [.int p, .int b]) (hp : 0 < p) (q : ∀ a H', H a = none → Same H H' → LampAt C H' a p (b % p) → Q (.ref a) H') :
    ∀ x dx, H x = none → H dx = none → dx ≠ x → spLampInit C (.ref x :: (vs ++ [])) (upd (upd H dx (.own x)) x (.ins C dx [])) (fun v H2 => v = .non ∧ Q (.ref x) H2) E :=
  fun x dx nx nd _ => ⟨x, dx, p, b, by rw [hv]; rfl, upd_same, hp, fun H' h k => ⟨rfl, q x H' nx (Same.made nx nd k) h⟩⟩
/-! ### == -/
def spLampEq (K : PySem.W.Frag) (C : Addr) : Sp := fun vs H Q _ => ∃ (a : Addr) (p b : Int) (y : V), vs = [.ref a, y] ∧ LampAt C H a p b ∧
  ((∃ (c : Addr) (p' b' : Int), y = .ref c ∧ LampAt C H c p' b' ∧ Q (.bl (decide (p = p' ∧ b = b'))) H) ∨ (∃ t, TyX K H y t ∧ PySem.W.kitOne K t (.ref C) = some false ∧ Q (.bl false) H))
theorem ok_Lamp_eq (T : Top K mg) : FnOk P w K mg base CX0 1 T.f_Lamp_eq T.d_Lamp_eq ["self", "other"] (spLampEq K T.C_Lamp) := by
  refine T.F_Lamp_eq.ok sc_Lamp_eq (fun vs H Q E h => ?_) (fun cdv A outer s H vs Q E hr h => ?_)
  · obtain ⟨a, p, b, y, rfl, _⟩ := h; rfl
  · obtain ⟨a, p, b, y, rfl, ⟨dx, ha⟩, h⟩ := h
    refine ⟨_, (pss_one (ps_ret (pe_and (pe_callB call_isi (by rfl) T.n_isinstance (by decide +kernel) (pa_cons (pv 1) (pa_cons (pe_glob (v := .ref T.C_Lamp) rfl T.gC_Lamp rfl) pa_nil))) (pe_and (pe_cmpR op_eq (pe_fld (pv 0) rfl) (pe_fld (pv 1) rfl) (nomark _)) (pe_one (pe_cmpR op_eq (pe_fld (pv 0) rfl) (pe_fld (pv 1) rfl) (nomark _))))))), ?_⟩
    rcases h with ⟨c, p', b', rfl, ⟨dc, hc⟩, q⟩ | ⟨t, ty, kt, q⟩
    · refine ⟨_, rfl, _, _, _, _, true, rfl, .own _, T.kl_Lamp.ty hc, (by unfold PySem.W.kitOne; rw [if_pos (by simp)]), true, rfl, iteT ?_⟩
      refine ⟨_, rfl, a, T.C_Lamp, dx, _, _, rfl, ha, T.cl_Lamp, T.na_Lamp_period, lf_period _ _, _, rfl, c, T.C_Lamp, dc, _, _, rfl, hc, T.cl_Lamp, T.na_Lamp_period, lf_period _ _, rfl, _, rfl, ?_⟩
      rw [dec_int]
      refine ite2 (fun e => ?_) (fun e => ?_)
      · refine ⟨_, rfl, a, T.C_Lamp, dx, _, _, rfl, ha, T.cl_Lamp, T.na_Lamp_beat, lf_beat _ _, _, rfl, c, T.C_Lamp, dc, _, _, rfl, hc, T.cl_Lamp, T.na_Lamp_beat, lf_beat _ _, rfl, ?_⟩
        have e1 : p = p' := of_decide_eq_true e
        show Q (V.bl (decide (V.int b = V.int b'))) H
        rw [dec_int, show decide (b = b') = decide (p = p' ∧ b = b') by simp [e1]]
        exact q
      · have e1 : ¬ p = p' := fun z => e (decide_eq_true z)
        rw [show decide (p = p' ∧ b = b') = false by simp [e1]] at q
        exact q
    · exact ⟨_, rfl, _, _, _, _, false, rfl, .own _, ty, kt, false, rfl, iteF q⟩
/-! ### shines -/
def spShines (C : Addr) : Sp := fun vs H Q _ => ∃ (a : Addr) (p b t : Int), vs = [.ref a, .int t] ∧ LampAt C H a p b ∧ 0 < p ∧ Q (.bl (decide (p ∣ t - b))) H
end

section
variable {P : Program} {w : World} {K : PySem.W.Frag} {mg : Str → Option Value} {base : Heap}
def spNextShine (C : Addr) : Sp := fun vs H Q _ => ∃ (a : Addr) (p b t : Int), vs = [.ref a, .int t] ∧ LampAt C H a p b ∧ 0 < p ∧ Q (.int (t + (b - t) % p)) H
end

section
variable {P : Program} {w : World} {K : PySem.W.Frag} {mg : Str → Option Value} {base : Heap}
/-- a period as it may be handed in -/
structure Pd (p b : Int) : Prop where
  p0 : 0 < p
  pb : p.natAbs < 2 ^ E8
  b0 : 0 ≤ b
  bp : b < p
def spSeen (C : Addr) : Sp := fun vs H Q _ => ∃ (a c : Addr) (p1 b1 p2 b2 : Int), vs = [.ref a, .ref c] ∧ LampAt C H a p1 b1 ∧ LampAt C H c p2 b2 ∧ Pd p1 b1 ∧ Pd p2 b2 ∧
  (¬ (Int.gcd p1 p2 : Int) ∣ b2 - b1 → ∀ H', Same H H' → Q .non H') ∧
  (∀ q r, SeenIs p1 b1 p2 b2 q r → (Int.gcd p1 p2 : Int) ∣ b2 - b1 → ∀ x H', H x = none → Same H H' → LampAt C H' x q r → Q (.ref x) H')
theorem ok_seen_from (T : Top K mg) : FnOk P w K mg base CX0 4 T.f_seen_from T.d_seen_from ["lamp", "other"] (spSeen T.C_Lamp) := by
  have G_Lamp_init := ok_Lamp_init (P := P) (w := w) (base := base) T
  have G_Lamp_eq := ok_Lamp_eq (P := P) (w := w) (base := base) T
  have G_inverse := ok_inverse (P := P) (w := w) (base := base) T
  refine T.F_seen_from.ok sc_seen_from (fun vs H Q E h => ?_) (fun cdv A outer s H vs Q E hr h => ?_)
  · obtain ⟨a, c, p1, b1, p2, b2, rfl, _⟩ := h; rfl
  · obtain ⟨a, c, p1, b1, p2, b2, rfl, ⟨da, ha⟩, ⟨dc, hc⟩, D1, D2, q1, q2⟩ := h
    have p10 := D1.p0
    have p20 := D2.p0
    have g0 := gcd_pos (a := p1) (b := p2) p10
    refine ⟨_, (pss_cons (ps_set (i := 2) sc_seen_from.nd rfl (Or.inl rfl) (pe_callBfun cr_gcd rfl T.i_gcd (pa_cons (pe_fld (pv 0) rfl) (pa_cons (pe_fld (pv 1) rfl) pa_nil))))
      (pss_cons (ps_set (i := 3) sc_seen_from.nd rfl (Or.inl rfl) (pe_op op_sub (pe_fld (pv 1) rfl) (pe_fld (pv 0) rfl)))
      (pss_cons (ps_if (pt_cmpR op_ne (pe_op op_modN (pv 3) (pv 2)) pe_int (nomark _)) (pss_one (ps_ret pe_non)) pss_nil)
      (pss_cons (ps_set (i := 4) sc_seen_from.nd rfl (Or.inl rfl) (pe_op op_fdivW (pe_fld (pv 1) rfl) (pv 2)))
      (pss_one (ps_ret (pe_make T.mk_Lamp G_Lamp_init (hr.mono (by decide)) (by rfl) T.gC_Lamp T.b_Lamp_init .nil pass0 (pa_cons (pv 4) (pa_cons (pe_op op_mulW (pe_op op_fdivW (pv 3) (pv 2)) (pe_call G_inverse (hr.mono (by decide)) rfl T.g_inverse T.F_inverse.kp T.b_inverse .nil pass0 (pa_cons (pe_op op_fdivW (pe_fld (pv 0) rfl) (pv 2)) (pa_cons (pv 4) pa_nil)))) pa_nil))))))))), ?_⟩
    -- common = gcd(lamp.period, other.period)
    refine ⟨_, rfl, a, T.C_Lamp, da, _, _, rfl, ha, T.cl_Lamp, T.na_Lamp_period, lf_period _ _, _, rfl, c, T.C_Lamp, dc, _, _, rfl, hc, T.cl_Lamp, T.na_Lamp_period, lf_period _ _, _, _, rfl, ?_⟩
    -- ahead = other.beat - lamp.beat
    refine ⟨_, rfl, c, T.C_Lamp, dc, _, _, rfl, hc, T.cl_Lamp, T.na_Lamp_beat, lf_beat _ _, _, rfl, a, T.C_Lamp, da, _, _, rfl, ha, T.cl_Lamp, T.na_Lamp_beat, lf_beat _ _, _, _, rfl, rfl, ?_⟩
    refine ⟨_, rfl, _, rfl, _, _, rfl, rfl, (by show ((Int.gcd p1 p2 : Nat) : Int) ≠ 0; omega), rfl, _, rfl, ?_⟩
    show (if (!decide (V.int ((b2 - b1).fmod (Int.gcd p1 p2 : Int)) = V.int 0)) = true then _ else _)
    rw [dec_int, fmod_pos g0]
    by_cases hz : (b2 - b1) % (Int.gcd p1 p2 : Int) = 0
    · rw [decide_eq_true hz]
      refine iteF ?_
      have hg := dvd_iff_emod.mp hz
      have gp1 : (Int.gcd p1 p2 : Int) ∣ p1 := Int.gcd_dvd_left ..
      have gp2 : (Int.gcd p1 p2 : Int) ∣ p2 := Int.gcd_dvd_right ..
      have gle : (Int.gcd p1 p2 : Int) ≤ p1 := Int.le_of_dvd p10 gp1
      have q0 : 0 < p2 / (Int.gcd p1 p2 : Int) := Int.ediv_pos_of_pos_of_dvd p20 (by omega) gp2
      have cd : CDivW p2 (Int.gcd p1 p2 : Int) := wide_div g0 (wide_le (by omega) gle D1.pb) (by decide) (by decide)
      have qb : (p2 / (Int.gcd p1 p2 : Int)).natAbs < 2 ^ E8 := wide_le (by omega) (Int.ediv_le_self _ (by omega)) D2.pb
      -- period = other.period // common
      refine ⟨_, rfl, c, T.C_Lamp, dc, _, _, rfl, hc, T.cl_Lamp, T.na_Lamp_period, lf_period _ _, _, rfl, _, _, rfl, rfl, cd, ?_⟩
      -- Lamp(period, ahead // common * inverse(lamp.period // common, period))
      refine ⟨_, rfl, _, rfl, _, rfl, _, _, rfl, rfl, cd, _, rfl, a, T.C_Lamp, da, _, _, rfl, ha, T.cl_Lamp, T.na_Lamp_period, lf_period _ _, _, rfl, _, _, rfl, rfl, cd, _, rfl, _, _, rfl, q0, qb, gcd_cop p10, fun v hv H1 s1 => ?_⟩
      have vb : v.natAbs < 2 ^ E8 := wide_le hv.1 (Int.le_of_lt hv.2.1) qb
      have ab : ((b2 - b1) / (Int.gcd p1 p2 : Int)).natAbs < 2 ^ E8 := by
        have e1 : (b2 - b1) / (Int.gcd p1 p2 : Int) * (Int.gcd p1 p2 : Int) = b2 - b1 := Int.ediv_mul_cancel hg
        have e2 : ((b2 - b1) / (Int.gcd p1 p2 : Int)).natAbs * 1 ≤ ((b2 - b1) / (Int.gcd p1 p2 : Int)).natAbs * (Int.gcd p1 p2 : Int).natAbs := Nat.mul_le_mul_left _ (by omega)
        rw [← Int.natAbs_mul, e1] at e2
        have h1 := D1.pb
        have h2 := D2.pb
        have h3 := D1.b0
        have h4 := D1.bp
        have h5 := D2.b0
        have h6 := D2.bp
        generalize (2 : Nat) ^ 8000 = B at *
        omega
      refine ⟨_, _, rfl, rfl, wide_mul ab vb (by decide) (by decide) (by decide), ?_⟩
      refine make_lamp rfl q0 fun x H2 nx s2 hx => ?_
      exact q2 _ _ (seen_is p10 p20 hg hv.2.2) hg x H2 (s1.free nx) (s1.trans s2) hx
    · rw [decide_eq_false hz]
      refine iteT ?_
      exact q1 (fun z => hz (dvd_iff_emod.mpr z)) H (Same.refl H)
end

section
variable {P : Program} {w : World} {K : PySem.W.Frag} {mg : Str → Option Value} {base : Heap}
/-! ### readings of a lamp -/
theorem rdP (T : Top K mg) {H : Hp} {a : Addr} {p b : Int} {Q : VK} (h : LampAt T.C_Lamp H a p b) (q : Q (.int p) H) : ∃ a' C dx fs v, V.ref a = V.ref a' ∧ H a' = some (.ins C dx fs) ∧ Cls K C ∧ NoAttr K C "period" ∧ fs.lookup ("period" : Str) = some v ∧ Q v H :=
  let ⟨dx, e⟩ := h; ⟨a, T.C_Lamp, dx, _, _, rfl, e, T.cl_Lamp, T.na_Lamp_period, lf_period _ _, q⟩
theorem rdB (T : Top K mg) {H : Hp} {a : Addr} {p b : Int} {Q : VK} (h : LampAt T.C_Lamp H a p b) (q : Q (.int b) H) : ∃ a' C dx fs v, V.ref a = V.ref a' ∧ H a' = some (.ins C dx fs) ∧ Cls K C ∧ NoAttr K C "beat" ∧ fs.lookup ("beat" : Str) = some v ∧ Q v H :=
  let ⟨dx, e⟩ := h; ⟨a, T.C_Lamp, dx, _, _, rfl, e, T.cl_Lamp, T.na_Lamp_beat, lf_beat _ _, q⟩
theorem nf_self {K : PySem.W.Frag} {C : Addr} : PySem.W.notFirst K C (.ref C) = true := by unfold PySem.W.notFirst; simp
theorem rdEq (T : Top K mg) {H : Hp} {a c : Addr} {p b p' b' : Int} {Q : VK} {E : XK} (h : LampAt T.C_Lamp H a p b) (h' : LampAt T.C_Lamp H c p' b') (q : Q (.bl (decide (p = p' ∧ b = b'))) H) :
    rEqOwn K T.C_Lamp (spLampEq K T.C_Lamp) E (.ref a) (.ref c) H Q :=
  let ⟨dx, e⟩ := h; let ⟨_, e'⟩ := h'; ⟨a, dx, _, _, rfl, e, T.kl_Lamp.ty e', nf_self, a, p, b, _, rfl, h, .inl ⟨c, p', b', rfl, h', _, rfl, q⟩⟩
theorem rdNe (T : Top K mg) {H : Hp} {a c : Addr} {p b p' b' : Int} {Q : VK} {E : XK} (h : LampAt T.C_Lamp H a p b) (h' : LampAt T.C_Lamp H c p' b') (q : Q (.bl (!decide (p = p' ∧ b = b'))) H) :
    rNeOwn K T.C_Lamp (spLampEq K T.C_Lamp) E (.ref a) (.ref c) H Q :=
  let ⟨dx, e⟩ := h; let ⟨_, e'⟩ := h'; ⟨a, dx, _, _, rfl, e, T.kl_Lamp.ty e', nf_self, a, p, b, _, rfl, h, .inl ⟨c, p', b', rfl, h', _, rfl, q⟩⟩
theorem ifNeF {x y : Int} {A B : Prop} (h : x = y) (hb : B) : if (!decide (V.int x = V.int y)) = true then A else B := by
  rw [dec_int, decide_eq_true h]
  exact iteF hb
theorem ifNeT {x y : Int} {A B : Prop} (h : x ≠ y) (ha : A) : if (!decide (V.int x = V.int y)) = true then A else B := by
  rw [dec_int, decide_eq_false h]
  exact iteT ha
theorem ifEqF {x y : Int} {A B : Prop} (h : x ≠ y) (hb : B) : if decide (V.int x = V.int y) = true then A else B := by
  rw [dec_int, decide_eq_false h]
  exact iteF hb
theorem ifEqT {x y : Int} {A B : Prop} (h : x = y) (ha : A) : if decide (V.int x = V.int y) = true then A else B := by
  rw [dec_int, decide_eq_true h]
  exact iteT ha
theorem fmod0 {x p : Int} (p0 : 0 < p) (d : p ∣ x) : x.fmod p = 0 := by rw [fmod_pos p0]; exact Int.emod_eq_zero_of_dvd d
theorem fmodN {x p : Int} (p0 : 0 < p) (d : ¬ p ∣ x) : x.fmod p ≠ 0 := by rw [fmod_pos p0]; exact fun e => d (Int.dvd_of_emod_eq_zero e)
theorem pd_of {p b : Int} (p0 : 0 < p) (pb : p < 2 ^ 255) : Pd p (b % p) := by
  refine ⟨p0, ?_, Int.emod_nonneg _ (by omega), Int.emod_lt_of_pos _ p0⟩
  have h1 : p.natAbs < 2 ^ 255 := by omega
  exact Nat.lt_of_lt_of_le h1 (Nat.pow_le_pow_right (by decide) (by decide))
end

section
variable {P : Program} {w : World} {K : PySem.W.Frag} {mg : Str → Option Value} {base : Heap}
/-! ### draws -/
/-- small factors -/
theorem mw {i j : Int} (h1 : -(2 ^ 200) < i) (h2 : i < 2 ^ 200) (h3 : -(2 ^ 200) < j) (h4 : j < 2 ^ 200) : CMulW i j :=
  wide_mul (a := 200) (b := 200) (by omega) (by omega) (by decide) (by decide) (by decide)
theorem nz {j : Int} (h : j ≠ 0) : j ≠ 0 := h
theorem fm0 {a b : Int} (h : 0 < b) : 0 ≤ a.fmod b := by rw [fmod_pos h]; exact Int.emod_nonneg _ (by omega)
theorem fm1 {a b : Int} (h : 0 < b) : a.fmod b < b := by rw [fmod_pos h]; exact Int.emod_lt_of_pos _ h
theorem dvw {i j : Int} (h : 0 < j) (h2 : j < 2 ^ 200) : CDivW i j := wide_div (b := 200) h (by omega) (by decide) (by decide)
theorem same_new {H : Hp} {p : Addr} {o : HO} (h : H p = Option.none) : Same H (upd H p o) := fun b x e => by
  rw [upd_ne (ne_of_none e h)]
  exact e
/-- the heap may have more, and the object at s may be another -/
def Dr (s : Addr) (H H' : Hp) : Prop := ∀ b o, H b = some o → b ≠ s → H' b = some o
theorem Dr.of {s : Addr} {H H' : Hp} (h : Same H H') : Dr s H H' := fun b o e _ => h b o e
theorem Dr.refl (s : Addr) (H : Hp) : Dr s H H := fun _ _ e _ => e
theorem Dr.trans {s : Addr} {H H1 H2 : Hp} (a : Dr s H H1) (b : Dr s H1 H2) : Dr s H H2 := fun c o e hc => b c o (a c o e hc) hc
theorem Dr.then {s : Addr} {H H1 H2 : Hp} (a : Dr s H H1) (b : Same H1 H2) : Dr s H H2 := fun c o e hc => b c o (a c o e hc)
/-- a source of draws stands at s; n draws at most have been taken -/
def Src (H : Hp) (s : Addr) (n : Nat) : Prop := ∃ a b c : Int, H s = some (.lst [.int a, .int b, .int c]) ∧ 0 ≤ c ∧ c ≤ n
theorem Src.same {H H' : Hp} {s : Addr} {n : Nat} (h : Src H s n) (e : Same H H') : Src H' s n := let ⟨a, b, c, h1, h2⟩ := h; ⟨a, b, c, e _ _ h1, h2⟩
theorem Src.mono {H : Hp} {s : Addr} {n m : Nat} (h : Src H s n) (e : n ≤ m) : Src H s m := let ⟨a, b, c, h1, h2, h3⟩ := h; ⟨a, b, c, h1, h2, by omega⟩
theorem Src.free {H H' : Hp} {s l : Addr} {n : Nat} (h : Src H' s n) (d : Dr s H H') (hl : H' l = Option.none) : H l = Option.none := by
  obtain ⟨a, b, c, h1, _⟩ := h
  cases e : H l with
  | none => rfl
  | some o =>
    have hne : l ≠ s := fun z => by rw [z, h1] at hl; cases hl
    rw [d l o e hne] at hl
    cases hl
theorem LampAt.dr {C : Addr} {H H' : Hp} {a s : Addr} {p b : Int} {n : Nat} (h : LampAt C H a p b) (hs : Src H s n) (d : Dr s H H') : LampAt C H' a p b := by
  obtain ⟨dx, e⟩ := h
  obtain ⟨_, _, _, h1, _⟩ := hs
  exact ⟨dx, d a _ e (ne_of e h1 (by intro z; cases z))⟩
def spMixed : Sp := fun vs H Q _ => ∃ b k : Int, vs = [.int b, .int k] ∧ 0 ≤ k ∧ k < 2 ^ 41 ∧ ∀ v : Int, 0 ≤ v → v < 2147483563 → Q (.int v) H
theorem ok_l_mixed (T : Top K mg) : FnOk P w K mg base CX0 1 T.f_l_mixed T.d_l_mixed ["_law_cell", "_law_k"] spMixed := by
  refine T.F_l_mixed.ok sc_l_mixed (fun vs H Q E h => ?_) (fun cdv A outer s H vs Q E hr h => ?_)
  · obtain ⟨b, k, rfl, _⟩ := h; rfl
  · obtain ⟨b, k, rfl, k0, k1, q⟩ := h
    refine ⟨_, (pss_cons (ps_set (i := 2) sc_l_mixed.nd rfl (Or.inl rfl) (pe_op op_modN (pe_op op_mulW (pe_op op_add (pe_op op_modN (pv 0) pe_int) pe_int) (pe_op op_add (pe_op op_mulW (pv 1) pe_int) pe_int)) pe_int))
      (pss_cons (ps_set (i := 2) sc_l_mixed.nd rfl (Or.inl rfl) (pe_op op_modN (pe_op op_mulW (pe_op op_add (pv 2) (pe_op op_mulW (pe_op op_modN (pe_op op_fdivW (pv 0) pe_int) pe_int) (pe_op op_add (pv 1) pe_int))) pe_int) pe_int))
      (pss_cons (ps_set (i := 2) sc_l_mixed.nd rfl (Or.inl rfl) (pe_op op_modN (pe_op op_mulW (pv 2) (pe_op op_add (pe_op op_add (pe_op op_fdivW (pv 2) pe_int) pe_int) (pv 1))) pe_int))
      (pss_one (ps_ret (pe_op op_modN (pe_op op_mulW (pv 2) (pe_op op_add (pe_op op_fdivW (pv 2) pe_int) pe_int)) pe_int)))))), ?_⟩
    have a1 := fm0 (a := b) (b := 2147483646) (by decide)
    have a2 := fm1 (a := b) (b := 2147483646) (by decide)
    refine ⟨_, rfl, _, _, rfl, rfl, nz (by decide), _, _, rfl, rfl, _, rfl, _, _, rfl, rfl, mw (by omega) (by omega) (by decide) (by decide), _, _, rfl, rfl, _, _, rfl, rfl, mw (by omega) (by omega) (by omega) (by omega), _, _, rfl, rfl, nz (by decide), ?_⟩
    have b1 := fm0 (a := (b.fmod 2147483646 + 1) * (k * 7919 + 104729)) (b := 2147483647) (by decide)
    have b2 := fm1 (a := (b.fmod 2147483646 + 1) * (k * 7919 + 104729)) (b := 2147483647) (by decide)
    dsimp only
    generalize ((b.fmod 2147483646 + 1) * (k * 7919 + 104729)).fmod 2147483647 = n1 at *
    have c1 := fm0 (a := b / 2147483646) (b := 1000003) (by decide)
    have c2 := fm1 (a := b / 2147483646) (b := 1000003) (by decide)
    have d0 : 0 ≤ (b / 2147483646).fmod 1000003 * (k + 31) := Int.mul_nonneg c1 (by omega)
    have d1 : (b / 2147483646).fmod 1000003 * (k + 31) ≤ 1000003 * (2 ^ 42) := Int.mul_le_mul (by omega) (by omega) (by omega) (by decide)
    refine ⟨_, rfl, _, rfl, _, _, rfl, rfl, dvw (by decide) (by decide), _, _, rfl, rfl, nz (by decide), _, rfl, _, _, rfl, rfl, _, _, rfl, rfl, mw (by omega) (by omega) (by omega) (by omega), _, _, rfl, rfl, _, _, rfl, rfl, mw (by omega) (by omega) (by decide) (by decide), _, _, rfl, rfl, nz (by decide), ?_⟩
    have e1 := fm0 (a := (n1 + (b / 2147483646).fmod 1000003 * (k + 31)) * 48271) (b := 2147483629) (by decide)
    have e2 := fm1 (a := (n1 + (b / 2147483646).fmod 1000003 * (k + 31)) * 48271) (b := 2147483629) (by decide)
    dsimp only
    generalize ((n1 + (b / 2147483646).fmod 1000003 * (k + 31)) * 48271).fmod 2147483629 = n2 at *
    refine ⟨_, rfl, _, rfl, _, _, rfl, rfl, dvw (by decide) (by decide), _, _, rfl, rfl, _, rfl, _, _, rfl, rfl, _, _, rfl, rfl, mw (by omega) (by omega) (by omega) (by omega), _, _, rfl, rfl, nz (by decide), ?_⟩
    have g1 := fm0 (a := n2 * (n2 / 1013 + 69621 + k)) (b := 2147483587) (by decide)
    have g2 := fm1 (a := n2 * (n2 / 1013 + 69621 + k)) (b := 2147483587) (by decide)
    dsimp only
    generalize (n2 * (n2 / 1013 + 69621 + k)).fmod 2147483587 = n3 at *
    refine ⟨_, rfl, _, rfl, _, _, rfl, rfl, dvw (by decide) (by decide), _, _, rfl, rfl, _, _, rfl, rfl, mw (by omega) (by omega) (by omega) (by omega), _, _, rfl, rfl, nz (by decide), ?_⟩
    exact q _ (fm0 (by decide)) (fm1 (by decide))
def spSource : Sp := fun vs H Q _ => ∃ z : Int, vs = [.int z] ∧ ∀ l H', H l = none → Same H H' → Src H' l 0 → Q (.ref l) H'
theorem ok_l_source (T : Top K mg) : FnOk P w K mg base CX0 1 T.f_l_source T.d_l_source ["_law_cell"] spSource := by
  refine T.F_l_source.ok sc_l_source (fun vs H Q E h => ?_) (fun cdv A outer s H vs Q E hr h => ?_)
  · obtain ⟨z, rfl, _⟩ := h; rfl
  · obtain ⟨z, rfl, q⟩ := h
    refine ⟨_, (pss_one (ps_ret (pe_lst (pa_cons (pv 0) (pa_cons (pv 0) (pa_cons pe_int pa_nil)))))), ?_⟩
    refine ⟨_, rfl, _, rfl, (by show 3 ≤ sizeLine; decide), fun l hl => ?_⟩
    exact q l _ hl (fun b o e => by rw [upd_ne (ne_of_none e hl)]; exact e) ⟨z, z, 0, upd_same, by decide, by decide⟩
def spTake : Sp := fun vs H Q _ => ∃ (s : Addr) (n : Nat) (m : Int), vs = [.ref s, .int m] ∧ Src H s n ∧ n < 1000000 ∧ 0 < m ∧ m < 2 ^ 200 ∧ ∀ v H', 0 ≤ v → v < m → Src H' s (n + 1) → Dr s H H' → Q (.int v) H'
theorem ok_l_take (T : Top K mg) : FnOk P w K mg base CX0 2 T.f_l_take T.d_l_take ["_law_source_here", "_law_many"] spTake := by
  have G_l_mixed := ok_l_mixed (P := P) (w := w) (base := base) T
  refine T.F_l_take.ok sc_l_take (fun vs H Q E h => ?_) (fun cdv A outer s H vs Q E hr h => ?_)
  · obtain ⟨s, n, m, rfl, _⟩ := h; rfl
  · obtain ⟨s, n, m, rfl, ⟨a, b, c, hs, c0, cn⟩, hn, m0, m1, q⟩ := h
    refine ⟨_, (pss_cons (ps_if (pt_cmpR op_ge (pe_ix ix_list (pv 0) pe_int (fun _ _ => rfl)) (pe_op op_pow pe_int pe_int) (nomark _)) (pss_cons (ps_set (i := 2) sc_l_take.nd rfl (Or.inl rfl) (pe_op op_modN (pe_ix ix_list (pv 0) pe_int (fun _ _ => rfl)) (pv 1)))
      (pss_cons (ps_asg (pe_op op_fdivW (pe_ix ix_list (pv 0) pe_int (fun _ _ => rfl)) (pv 1)) (pg_sub (pv 0) pe_int set_list))
      (pss_one (ps_ret (pv 2))))) pss_nil)
      (pss_cons (ps_asg (pe_op op_add (pe_ix ix_list (pv 0) pe_int (fun _ _ => rfl)) pe_int) (pg_sub (pv 0) pe_int set_list))
      (pss_one (ps_ret (pe_op op_modN (pe_call G_l_mixed (hr.mono (by decide)) rfl T.g_l_mixed T.F_l_mixed.kp T.b_l_mixed .nil pass0 (pa_cons (pe_ix ix_list (pv 0) pe_int (fun _ _ => rfl)) (pa_cons (pe_ix ix_list (pv 0) pe_int (fun _ _ => rfl)) pa_nil))) (pv 1)))))), ?_⟩
    refine ⟨_, rfl, s, _, _, _, rfl, rfl, SqL.of hs, at_of (j := 0) rfl rfl, _, _, rfl, rfl, (by refine ⟨by decide, by decide, by decide⟩), _, _, rfl, rfl, _, rfl, ite2 (fun _ => ?_) (fun _ => ?_)⟩
    · refine ⟨_, rfl, s, _, _, _, rfl, rfl, SqL.of hs, at_of (j := 0) rfl rfl, _, rfl, _, _, rfl, rfl, (by omega), ?_⟩
      refine ⟨_, rfl, s, _, _, _, rfl, rfl, SqL.of hs, at_of (j := 0) rfl rfl, _, rfl, _, _, rfl, rfl, dvw m0 m1, _, rfl, s, _, _, _, rfl, rfl, hs, rfl, ?_⟩
      refine ⟨_, rfl, ?_⟩
      exact q _ _ (fm0 m0) (fm1 m0) ⟨a / m, b, c, upd_same, c0, by omega⟩ fun d o e hd => by rw [upd_ne hd]; exact e
    · refine ⟨_, rfl, s, _, _, _, rfl, rfl, SqL.of hs, at_of (j := 2) rfl rfl, _, _, rfl, rfl, _, rfl, s, _, _, _, rfl, rfl, hs, rfl, ?_⟩
      refine ⟨_, rfl, s, _, _, _, rfl, rfl, SqL.of upd_same, at_of (j := 1) rfl rfl, _, rfl, s, _, _, _, rfl, rfl, SqL.of upd_same, at_of (j := 2) rfl rfl, b, c + 1, rfl, by omega, by omega, fun v v0 v1 => ?_⟩
      refine ⟨_, rfl, _, _, rfl, rfl, (by omega), ?_⟩
      exact q _ _ (fm0 m0) (fm1 m0) ⟨a, b, c + 1, upd_same, by omega, by omega⟩ fun d o e hd => by rw [upd_ne hd]; exact e
/-- an item of a written list at a drawn place -/
theorem pick {items : List V} {R : V → Prop} (hR : ∀ x ∈ items, R x) {v : Int} (h0 : 0 ≤ v) (h1 : v < items.length) : ∃ x, atI items v = some x ∧ R x := by
  have hj : v.toNat < items.length := by omega
  exact ⟨items[v.toNat], at_of (j := v.toNat) (by omega) (List.getElem?_eq_getElem hj), hR _ (List.getElem_mem hj)⟩
/-- an int between -/
def Btw (lo hi : Int) (x : V) : Prop := ∃ z : Int, x = .int z ∧ lo ≤ z ∧ z ≤ hi
end

/-! ### data compared -/
section
open PySem
/-- may be compared: no dict in it, not too deep -/
def OkD (n : Nat) (d : PyData) : Prop := d.canLay0 = true ∧ d.depth ≤ n
theorem OkD.mono {n m : Nat} {d : PyData} (h : OkD n d) (hn : n ≤ m) : OkD m d := ⟨h.1, Nat.le_trans h.2 hn⟩
theorem okD_int (i : Int) : OkD 0 (.int i) := ⟨by unfold PyData.canLay0; rfl, by unfold PyData.depth; exact Nat.le_refl _⟩
theorem okD_non : OkD 0 .none := ⟨by unfold PyData.canLay0; rfl, by unfold PyData.depth; exact Nat.le_refl _⟩
theorem okD_bl (b : Bool) : OkD 0 (.bool b) := ⟨by unfold PyData.canLay0; rfl, by unfold PyData.depth; exact Nat.le_refl _⟩
theorem okD_all {n : Nat} : ∀ {ds : List PyData}, (∀ d ∈ ds, OkD n d) → PyData.canLayAll0 ds = true ∧ PyData.depthAll ds ≤ n
  | [], _ => ⟨by unfold PyData.canLayAll0; rfl, by unfold PyData.depthAll; exact Nat.zero_le _⟩
  | d :: ds, h => by
    obtain ⟨h1, h2⟩ := okD_all (ds := ds) fun e he => h e (.tail _ he)
    obtain ⟨g1, g2⟩ := h d (.head _)
    refine ⟨?_, ?_⟩
    · unfold PyData.canLayAll0
      rw [g1, h1]
      rfl
    · unfold PyData.depthAll
      omega
theorem okD_list {n : Nat} {ds : List PyData} (h : ∀ d ∈ ds, OkD n d) : OkD (n + 1) (.list ds) := by
  obtain ⟨h1, h2⟩ := okD_all h
  refine ⟨?_, ?_⟩
  · unfold PyData.canLay0
    exact h1
  · unfold PyData.depth
    omega
theorem okD_tup {n : Nat} {ds : List PyData} (h : ∀ d ∈ ds, OkD n d) : OkD (n + 1) (.tuple ds) := by
  obtain ⟨h1, h2⟩ := okD_all h
  refine ⟨?_, ?_⟩
  · unfold PyData.canLay0
    exact h1
  · unfold PyData.depth
    omega
theorem OkD.sh {n : Nat} {d : PyData} (h : OkD n d) (hn : n ≤ 64) : SeqAt.shaped d = true := by
  unfold SeqAt.shaped
  rw [h.1]
  exact decide_eq_true (Nat.le_trans h.2 hn)
mutual
theorem eqv_self : ∀ d : PyData, d.canLay0 = true → PyData.eqv d d = true
  | .none, _ => by unfold PyData.eqv; rfl
  | .bool b, _ => by unfold PyData.eqv; exact beq_self_eq_true _
  | .int i, _ => by unfold PyData.eqv; exact beq_self_eq_true _
  | .str x, _ => by unfold PyData.eqv; exact beq_self_eq_true _
  | .list xs, h => by unfold PyData.eqv; unfold PyData.canLay0 at h; exact eqv_all_self xs h
  | .tuple xs, h => by unfold PyData.eqv; unfold PyData.canLay0 at h; exact eqv_all_self xs h
  | .dict _, h => by unfold PyData.canLay0 at h; cases h
theorem eqv_all_self : ∀ ds : List PyData, PyData.canLayAll0 ds = true → PyData.eqvAll ds ds = true
  | [], _ => by unfold PyData.eqvAll; rfl
  | d :: ds, h => by
    unfold PyData.canLayAll0 at h
    obtain ⟨h1, h2⟩ := Bool.and_eq_true_iff.mp h
    unfold PyData.eqvAll
    rw [eqv_self d h1, eqv_all_self ds h2]
    rfl
end
def dInts (ns : List Int) : PyData := .list (ns.map .int)
theorem okD_ints (ns : List Int) : OkD 1 (dInts ns) := okD_list fun d hd => by
  obtain ⟨i, _, rfl⟩ := List.mem_map.mp hd
  exact okD_int i
theorem eqv_ints : ∀ (ms ns : List Int), PyData.eqvAll (ms.map .int) (ns.map .int) = decide (ms = ns)
  | [], [] => by unfold PyData.eqvAll; rfl
  | [], _ :: _ => by unfold PyData.eqvAll; rfl
  | _ :: _, [] => by unfold PyData.eqvAll; rfl
  | m :: ms, n :: ns => by
    show PyData.eqvAll (.int m :: ms.map .int) (.int n :: ns.map .int) = _
    unfold PyData.eqvAll
    rw [eqv_ints ms ns]
    unfold PyData.eqv
    by_cases h : m = n
    · subst h
      by_cases h2 : ms = ns
      · subst h2; simp
      · simp [h2]
    · simp [h]
variable {K : PySem.W.Frag} {H : Hp}
theorem dp_ints {L : Addr} {ns : List Int} (h : H L = some (.lst (ns.map V.int))) : Dp K H (.ref L) (dInts ns) := by
  refine .lst (SqL.of h) ?_
  clear h
  induction ns with
  | nil => exact .nil
  | cons n ns ih => exact .cons (.int n) ih
/-- what next_dark tells, as data -/
def tD (pap : List Int) : Option Int → PyData
  | some d => .tuple [.str "dark", .int d]
  | none => .tuple [.str "ever", dInts pap]
theorem okD_str {x : Str} (h : PyData.strOk x = true) : OkD 0 (.str x) := ⟨by unfold PyData.canLay0; exact h, by unfold PyData.depth; exact Nat.le_refl _⟩
theorem okD_dark (d : Int) : OkD 1 (.tuple [.str "dark", .int d]) := okD_tup fun x hx => by
  simp only [List.mem_cons, List.not_mem_nil, or_false] at hx
  rcases hx with rfl | rfl
  · exact okD_str (by decide +kernel)
  · exact okD_int d
theorem okD_tD (pap : List Int) : ∀ o, OkD 2 (tD pap o)
  | some d => (okD_dark d).mono (by decide)
  | none => okD_tup fun x hx => by
    simp only [List.mem_cons, List.not_mem_nil, or_false] at hx
    rcases hx with rfl | rfl
    · exact (okD_str (by decide +kernel)).mono (by decide)
    · exact okD_ints pap
theorem dp_dark {p : Addr} {d : Int} (h : H p = some (.tup [.str "dark", .int d])) : Dp K H (.ref p) (.tuple [.str "dark", .int d]) := .tup (SqT.of h) (.cons (.str _) (.cons (.int _) .nil))
theorem neD_self {K : PySem.W.Frag} {x y : V} {d : PyData} {n : Nat} {Q : VK} (hx : Dp K H x d) (hy : Dp K H y d) (ok : OkD n d) (hn : n ≤ 64) (q : Q (.bl false) H) : rNeD K x y H Q := by
  refine ⟨d, d, hx, hy, ok.sh hn, ok.sh hn, ?_⟩
  rw [eqv_self d ok.1]
  exact q
theorem eqD_self {K : PySem.W.Frag} {x y : V} {d : PyData} {n : Nat} {Q : VK} (hx : Dp K H x d) (hy : Dp K H y d) (ok : OkD n d) (hn : n ≤ 64) (q : Q (.bl true) H) : rEqD K x y H Q := by
  refine ⟨d, d, hx, hy, ok.sh hn, ok.sh hn, ?_⟩
  rw [eqv_self d ok.1]
  exact q
end

/-! ### [x for x in .. if test] of ints -/
section
variable {sl n : Nat} {tt : TT} {σ : L2.St} {H1 : Hp} {D a : Addr} {Qd : Hp → Prop}
theorem lc_sieve (f : Int → Bool) (hD : H1 D = Option.none) (hn : n < 100000) (hw : ∀ v, wipe ((wipe σ [sl]).set sl (some v)) [sl] = wipe σ [sl]) (hg : ∀ v : V, ((wipe σ [sl]).set sl (some v))[sl]? = some (some v))
    (ht : ∀ (i : Nat) (H' : Hp) (Q : Bool → Hp → Prop), i < n → Same H1 H' → Q (f i) H' → tt ((wipe σ [sl]).set sl (some (.int i))) H' Q)
    (hd : ∀ H', Same H1 H' → H' D = some (.lst ((sieve n f).map V.int)) → Qd H') :
    ∃ W : Nat → Nat → Hp → Prop, (∃ m, W 0 m (upd H1 D (.lst []))) ∧ ∀ i m H, W i m H →
      ((Itr 0 n).stop i H ∧ Qd H) ∨ ((Itr 0 n).go i H ∧ ∃ Nx : Hp → Prop, (∀ H', Nx H' → ∃ m', m' < m ∧ W (i + 1) m' H') ∧ ∀ x H', (Itr 0 n).yld i H x H' → gName sl x (wipe σ [sl]) H' fun σ2 H2 => wipe σ2 [sl] = wipe σ [sl] ∧ tt σ2 H2 fun b H3 =>
        if b = true then tVar sl σ2 H3 fun y H4 => ∃ acc, H4 D = some (.lst acc) ∧ acc.length < sizeLine ∧ Nx (upd H4 D (.lst (acc ++ [y]))) else Nx H3) := by
  have sm : ∀ {H' : Hp} {o : HO}, Same H1 H' → Same H1 (upd H' D o) := fun s b x e => by rw [upd_ne (ne_of_none e hD)]; exact s b x e
  refine lc_range (fun i H' => Same H1 H' ∧ H' D = some (.lst ((sieve i f).map V.int))) ⟨sm (Same.refl H1), upd_same⟩ (fun i H' hi ⟨s1, hl⟩ => ?_) fun H' ⟨s1, hl⟩ => hd H' s1 hl
  rw [Int.zero_add]
  refine ⟨hw _, ht i H' _ hi s1 ?_⟩
  cases e : f i with
  | true =>
    refine iteT ⟨_, hg _, _, hl, ?_, sm s1, ?_⟩
    · rw [List.length_map]
      have := sieve_len i f
      exact Nat.lt_of_lt_of_le (show (sieve i f).length < 100000 by omega) (by decide)
    · rw [upd_same, sieve_succ, e, List.map_append]
      rfl
  | false =>
    refine iteF ⟨s1, ?_⟩
    rw [hl, sieve_succ, e]
    simp
theorem lc_filter {K : PySem.W.Frag} {ns : List Int} (f : Int → Bool) (hD : H1 D = Option.none) (ha : SqL K H1 a (ns.map V.int)) (hn : ns.length < 100000) (hw : ∀ v, wipe ((wipe σ [sl]).set sl (some v)) [sl] = wipe σ [sl]) (hg : ∀ v : V, ((wipe σ [sl]).set sl (some v))[sl]? = some (some v))
    (ht : ∀ (z : Int) (H' : Hp) (Q : Bool → Hp → Prop), z ∈ ns → Same H1 H' → Q (f z) H' → tt ((wipe σ [sl]).set sl (some (.int z))) H' Q)
    (hd : ∀ H', Same H1 H' → H' D = some (.lst ((ns.filter f).map V.int)) → Qd H') :
    ∃ W : Nat → Nat → Hp → Prop, (∃ m, W 0 m (upd H1 D (.lst []))) ∧ ∀ i m H, W i m H →
      ((Itl K a).stop i H ∧ Qd H) ∨ ((Itl K a).go i H ∧ ∃ Nx : Hp → Prop, (∀ H', Nx H' → ∃ m', m' < m ∧ W (i + 1) m' H') ∧ ∀ x H', (Itl K a).yld i H x H' → gName sl x (wipe σ [sl]) H' fun σ2 H2 => wipe σ2 [sl] = wipe σ [sl] ∧ tt σ2 H2 fun b H3 =>
        if b = true then tVar sl σ2 H3 fun y H4 => ∃ acc, H4 D = some (.lst acc) ∧ acc.length < sizeLine ∧ Nx (upd H4 D (.lst (acc ++ [y]))) else Nx H3) := by
  have sm : ∀ {H' : Hp} {o : HO}, Same H1 H' → Same H1 (upd H' D o) := fun s b x e => by rw [upd_ne (ne_of_none e hD)]; exact s b x e
  refine lc_list (K := K) (a := a) (xs := ns.map V.int) (fun i H' => Same H1 H' ∧ H' D = some (.lst (((ns.take i).filter f).map V.int))) ⟨sm (Same.refl H1), upd_same⟩ (fun i H' _ ⟨s1, _⟩ => s1.seq ha) (fun i x H' hi ⟨s1, hl⟩ => ?_) fun H' ⟨s1, hl⟩ => hd H' s1 (by rw [hl, List.length_map, List.take_length])
  obtain ⟨z, hz, rfl⟩ : ∃ z, ns[i]? = some z ∧ x = V.int z := by
    rw [List.getElem?_map] at hi
    cases e : ns[i]? with
    | none => rw [e] at hi; cases hi
    | some z => rw [e] at hi; exact ⟨z, rfl, (Option.some.inj hi).symm⟩
  have et : ns.take (i + 1) = ns.take i ++ [z] := by
    rw [List.take_succ, hz]
    rfl
  refine ⟨hw _, ht z H' _ (List.mem_of_getElem? hz) s1 ?_⟩
  cases e : f z with
  | true =>
    refine iteT ⟨_, hg _, _, hl, ?_, sm s1, ?_⟩
    · rw [List.length_map]
      have h1 := List.length_filter_le f (ns.take i)
      have h2 := List.length_take_le i ns
      exact Nat.lt_of_lt_of_le (show ((ns.take i).filter f).length < 100000 by have := List.length_take_le' i ns; omega) (by decide)
    · rw [upd_same, et, List.filter_append, List.map_append]
      simp [List.filter_cons, e]
  | false =>
    refine iteF ⟨s1, ?_⟩
    rw [hl, et, List.filter_append]
    simp [List.filter_cons, e]
end

section
variable {P : Program} {w : World} {K : PySem.W.Frag} {mg : Str → Option Value} {base : Heap}
/-- what a part of a law promises: True, from a source of n draws at most, having taken k more at most -/
def spPart (k : Nat) : Sp := fun vs H Q _ => ∃ (s : Addr) (n : Nat), vs = [.ref s] ∧ Src H s n ∧ n < 100000 ∧ ∀ H', Src H' s (n + k) → Dr s H H' → Q (.bl true) H'
theorem Dr.mut {s l : Addr} {H H' : Hp} {o : HO} (d : Dr s H H') (h : H l = Option.none) : Dr s H (upd H' l o) := fun b x e hb => by
  rw [upd_ne (ne_of_none e h)]
  exact d b x e hb
theorem ne_src {H : Hp} {s l : Addr} {n : Nat} (h : Src H s n) (hl : H l = Option.none) : l ≠ s := fun e => by
  obtain ⟨_, _, _, h1, _⟩ := h
  rw [e, h1] at hl
  cases hl
theorem Src.mut {H : Hp} {s l : Addr} {n : Nat} {o : HO} (h : Src H s n) (hl : l ≠ s) : Src (upd H l o) s n := by
  obtain ⟨a, b, c, h1, h2⟩ := h
  exact ⟨a, b, c, by rw [upd_ne hl.symm]; exact h1, h2⟩
def spLaw (K : PySem.W.Frag) : Sp := fun vs H Q _ => ∃ (a : Addr) (ns : List Int), vs = [.ref a] ∧ SqL K H a (ns.map V.int) ∧ ns.length ≤ 63 ∧ ∀ H', Q (.bl true) H'
theorem Dr.back {l : Addr} {H H1 H2 : Hp} (hl : H l = Option.none) (s : Same H H1) (d : Dr l H1 H2) : Same H H2 := fun b o e => d b o (s b o e) (ne_of_none e hl)
theorem cutV_mem {xs : List V} {lo hi : Option Int} {x : V} (h : x ∈ cutV xs lo hi) : x ∈ xs := by
  unfold cutV at h
  exact List.mem_of_mem_drop (List.mem_of_mem_take h)
theorem cut_ints {ns : List Int} {z : Int} {lo hi : Option Int} : ∀ x ∈ cutV (ns.map V.int ++ [.int z]) lo hi, ∃ z : Int, x = .int z := by
  intro x hx
  have := cutV_mem hx
  simp only [List.mem_append, List.mem_map, List.mem_singleton] at this
  rcases this with ⟨z, _, rfl⟩ | rfl
  · exact ⟨z, rfl⟩
  · exact ⟨_, rfl⟩
theorem Pd.big {p b : Int} (D : Pd p b) (h : p < 2 ^ 250) : p < 2 ^ 250 := h
end

section
variable {P : Program} {w : World} {K : PySem.W.Frag} {mg : Str → Option Value} {base : Heap}
/-! ### lamps that may be None -/
def OAt (C : Addr) (H : Hp) (v : V) (k : Nat) : OLp → Prop
  | none => v = .non
  | some l => ∃ a, v = .ref a ∧ LampAt C H a l.1 l.2 ∧ 0 < l.1 ∧ 0 ≤ l.2 ∧ l.2 < l.1 ∧ l.1.natAbs < 2 ^ k
theorem OAt.same {C : Addr} {H H' : Hp} {v : V} {k : Nat} {o : OLp} (h : OAt C H v k o) (s : Same H H') : OAt C H' v k o := by
  cases o with
  | none => exact h
  | some l =>
    obtain ⟨a, e, hl, r⟩ := h
    exact ⟨a, e, hl.same s, r⟩
theorem OAt.ok {C : Addr} {H : Hp} {v : V} {k : Nat} {o : OLp} (h : OAt C H v k o) : OkL o := by
  rintro l rfl
  obtain ⟨_, _, _, h0, h1, h2, _⟩ := h
  exact ⟨h0, h1, h2⟩
theorem OAt.pd {C : Addr} {H : Hp} {v : V} {k : Nat} {l : Int × Int} (h : OAt C H v k (some l)) (hk : k ≤ 8000) : Pd l.1 l.2 := by
  obtain ⟨_, _, _, h0, h1, h2, h3⟩ := h
  exact ⟨h0, Nat.lt_of_lt_of_le h3 (Nat.pow_le_pow_right (by decide) hk), h1, h2⟩
/-- v != v', both of the same lamp or none -/
theorem neO (T : Top K mg) {H : Hp} {v v' : V} {k k' : Nat} {o : OLp} {Q : VK} {E : XK} (h : OAt T.C_Lamp H v k o) (h' : OAt T.C_Lamp H v' k' o) (q : Q (.bl false) H) :
    rOr (rNeOwn K T.C_Lamp (spLampEq K T.C_Lamp) E) rNe v v' H Q := by
  cases o with
  | none =>
    cases h
    cases h'
    refine .inr ⟨rfl, ?_⟩
    rw [decide_eq_true (show V.non = V.non from rfl)]
    exact q
  | some l =>
    obtain ⟨a, rfl, ha, _⟩ := h
    obtain ⟨c, rfl, hc, _⟩ := h'
    refine .inl (rdNe T ha hc ?_)
    rw [decide_eq_true (show l.1 = l.1 ∧ l.2 = l.2 from ⟨rfl, rfl⟩)]
    exact q
theorem OAt.non {C : Addr} {H : Hp} {v : V} {k : Nat} {o : OLp} (h : OAt C H v k o) : v = .non ↔ o = none := by
  cases o with
  | none => exact ⟨fun _ => rfl, fun _ => h⟩
  | some l =>
    obtain ⟨a, rfl, _⟩ := h
    exact ⟨fun e => (nomatch e), fun e => (nomatch e)⟩
theorem noneItem (T : Top K mg) {H : Hp} {v : V} {k : Nat} {o : OLp} {E : XK} (h : OAt T.C_Lamp H v k o) : v = .non ∨ ∃ a dx fs, v = .ref a ∧ H a = some (.ins T.C_Lamp dx fs) ∧ spLampEq K T.C_Lamp [v, .non] H (fun w H' => ∃ b, w = .bl b ∧ b = false ∧ H' = H) E := by
  cases o with
  | none => exact .inl h
  | some l =>
    obtain ⟨a, rfl, ⟨dx, ha⟩, _⟩ := h
    exact .inr ⟨a, dx, _, rfl, ha, a, _, _, _, rfl, ⟨dx, ha⟩, .inr ⟨_, .base .non, kit_no T.ic_Lamp T.tc_Lamp T.sn_Lamp, _, rfl, rfl, rfl⟩⟩
theorem bl_neO {a b : Bool} {A B : Prop} (h : a = b) (hb : B) : if (!decide (V.bl a = V.bl b)) = true then A else B := by
  subst h
  rw [decide_eq_true rfl]
  exact iteF hb
theorem anyNone {C : Addr} {H : Hp} {v1 v2 v3 vw : V} {k1 k2 k3 k : Nat} {o1 o2 o3 w : OLp} (h1 : OAt C H v1 k1 o1) (h2 : OAt C H v2 k2 o2) (h3 : OAt C H v3 k3 o3) (hw : OAt C H vw k w) (e : w = none ↔ (o1 = none ∨ o2 = none ∨ o3 = none)) :
    [v1, v2, v3].any (fun v => decide (v = .non)) = decide (vw = .non) := by
  rw [Bool.eq_iff_iff, List.any_eq_true]
  simp only [List.mem_cons, List.not_mem_nil, or_false, decide_eq_true_eq]
  rw [hw.non, e, ← h1.non, ← h2.non, ← h3.non]
  constructor
  · rintro ⟨x, rfl | rfl | rfl, h⟩
    · exact .inl h
    · exact .inr (.inl h)
    · exact .inr (.inr h)
  · rintro (h | h | h)
    · exact ⟨v1, .inl rfl, h⟩
    · exact ⟨v2, .inr (.inl rfl), h⟩
    · exact ⟨v3, .inr (.inr rfl), h⟩
theorem OAt.lamp {C : Addr} {H : Hp} {a : Addr} {k : Nat} {l : Int × Int} (h : OAt C H (.ref a) k (some l)) : LampAt C H a l.1 l.2 := by
  obtain ⟨c, e, hl, _⟩ := h
  injection e with e
  subst e
  exact hl
theorem OAt.dr {C : Addr} {H H' : Hp} {v : V} {k : Nat} {o : OLp} {s : Addr} {n : Nat} (h : OAt C H v k o) (hs : Src H s n) (d : Dr s H H') : OAt C H' v k o := by
  cases o with
  | none => exact h
  | some l =>
    obtain ⟨a, e, hl, r⟩ := h
    exact ⟨a, e, hl.dr hs d, r⟩
theorem OAt.mut {C : Addr} {H : Hp} {v : V} {k : Nat} {o : OLp} {lf : Addr} {xs ys : List V} (h : OAt C H v k o) (hl : H lf = some (.lst xs)) : OAt C (upd H lf (.lst ys)) v k o := by
  cases o with
  | none => exact h
  | some l =>
    obtain ⟨a, e, ⟨dx, ha⟩, r⟩ := h
    refine ⟨a, e, ⟨dx, ?_⟩, r⟩
    rw [upd_ne (ne_of ha hl (by intro z; cases z))]
    exact ha
theorem OAt.mono {C : Addr} {H : Hp} {v : V} {k k' : Nat} {o : OLp} (h : OAt C H v k o) (hk : k ≤ k') : OAt C H v k' o := by
  cases o with
  | none => exact h
  | some l =>
    obtain ⟨a, e, hl, h0, h1, h2, h3⟩ := h
    exact ⟨a, e, hl, h0, h1, h2, Nat.lt_of_lt_of_le h3 (Nat.pow_le_pow_right (by decide) hk)⟩
end

section
variable {P : Program} {w : World} {K : PySem.W.Frag} {mg : Str → Option Value} {base : Heap}
def spMeet (C : Addr) : Sp := fun vs H Q _ => ∃ (a c : Addr) (p1 b1 p2 b2 : Int), vs = [.ref a, .ref c] ∧ LampAt C H a p1 b1 ∧ LampAt C H c p2 b2 ∧ Pd p1 b1 ∧ Pd p2 b2 ∧
  (¬ (Int.gcd p1 p2 : Int) ∣ b2 - b1 → ∀ H', Same H H' → Q .non H') ∧
  (∀ m z, MeetIs p1 b1 p2 b2 m z → (Int.gcd p1 p2 : Int) ∣ b2 - b1 → ∀ x H', H x = none → Same H H' → LampAt C H' x m z → Q (.ref x) H')
theorem ok_meet (T : Top K mg) : FnOk P w K mg base CX0 5 T.f_meet T.d_meet ["one", "other"] (spMeet T.C_Lamp) := by
  have G_Lamp_init := ok_Lamp_init (P := P) (w := w) (base := base) T
  have G_seen_from := ok_seen_from (P := P) (w := w) (base := base) T
  refine T.F_meet.ok sc_meet (fun vs H Q E h => ?_) (fun cdv A outer s H vs Q E hr h => ?_)
  · obtain ⟨a, c, p1, b1, p2, b2, rfl, _⟩ := h; rfl
  · obtain ⟨a, c, p1, b1, p2, b2, rfl, ⟨da, ha⟩, ⟨dc, hc⟩, D1, D2, q1, q2⟩ := h
    refine ⟨_, (pss_cons (ps_set (i := 2) sc_meet.nd rfl (Or.inl rfl) (pe_call G_seen_from (hr.mono (by decide)) rfl T.g_seen_from T.F_seen_from.kp T.b_seen_from .nil pass0 (pa_cons (pv 0) (pa_cons (pv 1) pa_nil))))
      (pss_cons (ps_if (pt_cmpR op_isN (pv 2) pe_non (nomark _)) (pss_one (ps_ret pe_non)) pss_nil)
      (pss_one (ps_ret (pe_make T.mk_Lamp G_Lamp_init (hr.mono (by decide)) (by rfl) T.gC_Lamp T.b_Lamp_init .nil pass0 (pa_cons (pe_op op_mulW (pe_fld (pv 0) rfl) (pe_fld (pv 2) rfl)) (pa_cons (pe_op op_add (pe_fld (pv 0) rfl) (pe_op op_mulW (pe_fld (pv 0) rfl) (pe_fld (pv 2) rfl))) pa_nil))))))), ?_⟩
    refine ⟨_, rfl, _, rfl, a, c, p1, b1, p2, b2, rfl, ⟨da, ha⟩, ⟨dc, hc⟩, D1, D2, fun hn H1 s1 => ?_, fun q r S hg x H1 nx s1 ⟨dx, hx⟩ => ?_⟩
    · refine ⟨_, rfl, rfl, _, rfl, iteT ?_⟩
      exact q1 hn H1 s1
    · refine ⟨_, rfl, rfl, _, rfl, iteF ?_⟩
      have ha1 := s1 _ _ ha
      have q0 := S.q0
      have qb : q.natAbs < 2 ^ E8 := by
        rw [S.qe]
        exact wide_le (by rw [← S.qe]; omega) (Int.ediv_le_self _ (by have := D2.p0; omega)) D2.pb
      have rb : r.natAbs < 2 ^ E8 := wide_le S.r0 (by have := S.rq; omega) qb
      refine ⟨_, rfl, a, T.C_Lamp, da, _, _, rfl, ha1, T.cl_Lamp, T.na_Lamp_period, lf_period _ _, _, rfl, x, T.C_Lamp, dx, _, _, rfl, hx, T.cl_Lamp, T.na_Lamp_period, lf_period _ _, _, _, rfl, rfl, wide_mul D1.pb qb (by decide) (by decide) (by decide), ?_⟩
      refine ⟨_, rfl, a, T.C_Lamp, da, _, _, rfl, ha1, T.cl_Lamp, T.na_Lamp_beat, lf_beat _ _, _, rfl, a, T.C_Lamp, da, _, _, rfl, ha1, T.cl_Lamp, T.na_Lamp_period, lf_period _ _, _, rfl, x, T.C_Lamp, dx, _, _, rfl, hx, T.cl_Lamp, T.na_Lamp_beat, lf_beat _ _, _, _, rfl, rfl, wide_mul D1.pb rb (by decide) (by decide) (by decide), _, _, rfl, rfl, ?_⟩
      refine make_lamp rfl (Int.mul_pos D1.p0 q0) fun y H2 ny s2 hy => ?_
      exact q2 _ _ (meet_is D1.p0 S) hg y H2 (s1.free ny) (s1.trans s2) hy
end

section
variable {P : Program} {w : World} {K : PySem.W.Frag} {mg : Str → Option Value} {base : Heap}
theorem meetO {C : Addr} {H : Hp} {a c : Addr} {l1 l2 : Int × Int} {k1 k2 : Nat} {Q : VK} {E : XK} (hA : OAt C H (.ref a) k1 (some l1)) (hC : OAt C H (.ref c) k2 (some l2)) (n1 : k1 ≤ 8000) (n2 : k2 ≤ 8000)
    (q : ∀ o v H', Same H H' → OAt C H' v (k1 + k2) o → MeetO (some l1) (some l2) o → Q v H') : spMeet C [.ref a, .ref c] H Q E := by
  have P1 := hA.pd n1
  have P2 := hC.pd n2
  obtain ⟨a', ea, ha, _, _, _, z1⟩ := hA
  obtain ⟨c', ec, hc, _, _, _, z2⟩ := hC
  injection ea with ea
  injection ec with ec
  subst ea ec
  refine ⟨a, c, l1.1, l1.2, l2.1, l2.2, rfl, ha, hc, P1, P2, fun hn H' s => ?_, fun m z M hg x H' nx s hx => ?_⟩
  · refine q none .non H' s rfl ⟨fun _ h => (nomatch h), fun t => ⟨fun h => h.elim, fun h => seen_none hn t h.1 h.2⟩⟩
  · refine q (some (m, z)) (.ref x) H' s ⟨x, rfl, hx, M.m0, M.c0, M.cm, ?_⟩ ⟨?_, M.iff⟩
    · show m.natAbs < _
      rw [M.me, Int.natAbs_mul, Nat.pow_add]
      refine Nat.mul_lt_mul'' z1 (Nat.lt_of_le_of_lt ?_ z2)
      have := P2.p0
      have g0 := gcd_pos (a := l1.1) (b := l2.1) P1.p0
      have := Int.ediv_le_self (Int.gcd l1.1 l2.1 : Int) (show 0 ≤ l2.1 by omega)
      have := Int.ediv_nonneg (show 0 ≤ l2.1 by omega) (show (0 : Int) ≤ (Int.gcd l1.1 l2.1 : Int) by omega)
      omega
    · rintro l hl
      injection hl with hl
      subst hl
      exact ⟨M.m0, M.c0, M.cm⟩
end

section
variable {P : Program} {w : World} {K : PySem.W.Frag} {mg : Str → Option Value} {base : Heap}
theorem seenO {C : Addr} {H : Hp} {a c : Addr} {l1 l2 : Int × Int} {k1 k2 : Nat} {Q : VK} {E : XK} (hA : OAt C H (.ref a) k1 (some l1)) (hC : OAt C H (.ref c) k2 (some l2)) (n1 : k1 ≤ 8000) (n2 : k2 ≤ 8000)
    (q : ∀ o v H', Same H H' → OAt C H' v k2 o → SeesO l1 (some l2) o → Q v H') : spSeen C [.ref a, .ref c] H Q E := by
  have P1 := hA.pd n1
  have P2 := hC.pd n2
  obtain ⟨a', ea, ha, _, _, _, z1⟩ := hA
  obtain ⟨c', ec, hc, _, _, _, z2⟩ := hC
  injection ea with ea
  injection ec with ec
  subst ea ec
  refine ⟨a, c, l1.1, l1.2, l2.1, l2.2, rfl, ha, hc, P1, P2, fun hn H' s => ?_, fun m z M hg x H' nx s hx => ?_⟩
  · refine q none .non H' s rfl ⟨fun _ h => (nomatch h), fun t => ⟨fun h => h.elim, fun h => ?_⟩⟩
    refine seen_none hn (l1.2 + t * l1.1) ?_ h
    exact ⟨t, by rw [Int.mul_comm]; omega⟩
  · refine q (some (m, z)) (.ref x) H' s ⟨x, rfl, hx, M.q0, M.r0, M.rq, ?_⟩ ⟨?_, M.iff⟩
    · show m.natAbs < _
      rw [M.qe]
      refine Nat.lt_of_le_of_lt ?_ z2
      have := P2.p0
      have g0 := gcd_pos (a := l1.1) (b := l2.1) P1.p0
      have := Int.ediv_le_self (Int.gcd l1.1 l2.1 : Int) (show 0 ≤ l2.1 by omega)
      have := Int.ediv_nonneg (show 0 ≤ l2.1 by omega) (show (0 : Int) ≤ (Int.gcd l1.1 l2.1 : Int) by omega)
      omega
    · rintro l hl
      injection hl with hl
      subst hl
      exact ⟨M.q0, M.r0, M.rq⟩
end

section
variable {P : Program} {w : World} {K : PySem.W.Frag} {mg : Str → Option Value} {base : Heap}
/-- lamps, one behind another -/
def AllL (C : Addr) (H : Hp) (k : Nat) (vs : List V) (ls : List (Int × Int)) : Prop := vs.length = ls.length ∧ ∀ (i : Nat) v l, vs[i]? = some v → ls[i]? = some l → ∃ a, v = .ref a ∧ OAt C H (.ref a) k (some l)
theorem AllL.same {C : Addr} {H H' : Hp} {k : Nat} {vs : List V} {ls : List (Int × Int)} (h : AllL C H k vs ls) (s : Same H H') : AllL C H' k vs ls :=
  ⟨h.1, fun i v l e1 e2 => let ⟨a, e, o⟩ := h.2 i v l e1 e2; ⟨a, e, o.same s⟩⟩
theorem AllL.at {C : Addr} {H : Hp} {k : Nat} {vs : List V} {ls : List (Int × Int)} (h : AllL C H k vs ls) {i : Nat} {v : V} (e : vs[i]? = some v) : ∃ a l, v = .ref a ∧ ls[i]? = some l ∧ OAt C H (.ref a) k (some l) := by
  have hi : i < vs.length := by
    by_cases hh : i < vs.length
    · exact hh
    · rw [List.getElem?_eq_none (by omega)] at e; cases e
  have h2 : i < ls.length := h.1 ▸ hi
  obtain ⟨a, e', o⟩ := h.2 i v ls[i] e (List.getElem?_eq_getElem h2)
  exact ⟨a, ls[i], e', List.getElem?_eq_getElem h2, o⟩
theorem AllL.dr {C : Addr} {H H' : Hp} {k : Nat} {vs : List V} {ls : List (Int × Int)} {s : Addr} {n : Nat} (h : AllL C H k vs ls) (hs : Src H s n) (d : Dr s H H') : AllL C H' k vs ls :=
  ⟨h.1, fun i v l e1 e2 => let ⟨a, e, o⟩ := h.2 i v l e1 e2; ⟨a, e, o.dr hs d⟩⟩
theorem AllL.mut {C : Addr} {H : Hp} {k : Nat} {vs xs ys : List V} {ls : List (Int × Int)} {lf : Addr} (h : AllL C H k vs ls) (hl : H lf = some (.lst xs)) : AllL C (upd H lf (.lst ys)) k vs ls :=
  ⟨h.1, fun i v l e1 e2 => let ⟨a, e, o⟩ := h.2 i v l e1 e2; ⟨a, e, o.mut hl⟩⟩
theorem AllL.more {C : Addr} {H : Hp} {k : Nat} {vs : List V} {ls : List (Int × Int)} {a : Addr} {l : Int × Int} (h : AllL C H k vs ls) (o : OAt C H (.ref a) k (some l)) : AllL C H k (vs ++ [.ref a]) (ls ++ [l]) := by
  refine ⟨by simp [h.1], fun i v l' e1 e2 => ?_⟩
  by_cases hi : i < vs.length
  · rw [List.getElem?_append_left hi] at e1
    rw [List.getElem?_append_left (h.1 ▸ hi)] at e2
    exact h.2 i v l' e1 e2
  · rw [List.getElem?_append_right (by omega)] at e1
    rw [List.getElem?_append_right (by have := h.1; omega), ← h.1] at e2
    have e0 : i - vs.length = 0 := by
      by_cases z : i - vs.length = 0
      · exact z
      · rw [List.getElem?_eq_none (by simp; omega)] at e1; cases e1
    rw [e0] at e1 e2
    cases e1
    cases e2
    exact ⟨a, rfl, o⟩
theorem OAt.ins {C CG g dx : Addr} {H : Hp} {v : V} {k : Nat} {o : OLp} {ob : HO} (h : OAt C H v k o) (hg : H g = some (.ins CG dx [])) : OAt C (upd H g ob) v k o := by
  cases o with
  | none => exact h
  | some l =>
    obtain ⟨a, e, ⟨dx', ha⟩, r⟩ := h
    refine ⟨a, e, ⟨dx', ?_⟩, r⟩
    have ne : a ≠ g := fun z => by
      subst z
      rw [ha] at hg
      injection hg with hg
      injection hg with _ _ hg
      have := lf_period l.1 l.2
      rw [hg] at this
      cases this
    rw [upd_ne ne]
    exact ha
theorem AllL.ins {C CG g dx : Addr} {H : Hp} {k : Nat} {vs : List V} {ls : List (Int × Int)} {ob : HO} (h : AllL C H k vs ls) (hg : H g = some (.ins CG dx [])) : AllL C (upd H g ob) k vs ls :=
  ⟨h.1, fun i v l e1 e2 => let ⟨a, e, o⟩ := h.2 i v l e1 e2; ⟨a, e, o.ins hg⟩⟩
end

section
variable {P : Program} {w : World} {K : PySem.W.Frag} {mg : Str → Option Value} {base : Heap}
theorem get_map {α β : Type} {f : α → β} {xs : List α} {i : Nat} {y : β} (h : (xs.map f)[i]? = some y) : ∃ x, xs[i]? = some x ∧ y = f x := by
  rw [List.getElem?_map] at h
  cases e : xs[i]? with
  | none => rw [e] at h; cases h
  | some x => rw [e] at h; exact ⟨x, rfl, (Option.some.inj h).symm⟩
theorem same_at {H H2 : Hp} {a : Addr} {o : HO} (s : Same H H2) (h : H a = Option.none) : Same H (upd H2 a o) := fun b x e => by
  rw [upd_ne (ne_of_none e h)]
  exact s b x e
theorem back_none {H H' : Hp} {a : Addr} (s : Same H H') (e : H' a = Option.none) : H a = Option.none := by
  cases z : H a with
  | none => rfl
  | some o => rw [s a o z] at e; cases e
end

section
variable {P : Program} {w : World} {K : PySem.W.Frag} {mg : Str → Option Value} {base : Heap}
/-! ### numbered lamps, rows -/
def NumA (C : Addr) (H : Hp) (k : Nat) (ts : List Addr) (ns : List (Int × Int × Int)) : Prop :=
  ts.length = ns.length ∧ ∀ (i : Nat) T x, ts[i]? = some T → ns[i]? = some x → ∃ a, H T = some (.tup [.int x.1, .ref a]) ∧ OAt C H (.ref a) k (some x.2)
theorem NumA.same {C : Addr} {H H' : Hp} {k : Nat} {ts : List Addr} {ns : List (Int × Int × Int)} (h : NumA C H k ts ns) (s : Same H H') : NumA C H' k ts ns :=
  ⟨h.1, fun i T x e1 e2 => let ⟨a, e, o⟩ := h.2 i T x e1 e2; ⟨a, s _ _ e, o.same s⟩⟩
def RowsAt (H0 H : Hp) (R : Addr) (n : Nat) (f : Nat → List Int) : Prop := ∃ as : List Addr, H R = some (.lst (as.map V.ref)) ∧ as.length = n ∧ as.Nodup ∧ R ∉ as ∧ H0 R = none ∧ (∀ a ∈ as, H0 a = none) ∧
  ∀ (j : Nat) a, as[j]? = some a → H a = some (.lst ((f j).map V.int))
theorem RowsAt.more {H H2 : Hp} {D l : Addr} {i : Nat} {f : Nat → List Int} (h : RowsAt H H2 D i f) (s : Same H H2) (hl : H2 l = Option.none) : ∃ as : List Addr, H2 D = some (.lst (as.map V.ref)) ∧ as.length = i ∧
    Same H (upd (upd H2 l (.lst ((f i).map V.int))) D (.lst (as.map V.ref ++ [.ref l]))) ∧ RowsAt H (upd (upd H2 l (.lst ((f i).map V.int))) D (.lst (as.map V.ref ++ [.ref l]))) D (i + 1) f ∧ l ≠ D := by
  obtain ⟨as, hD, len, nd, nD, d0, n0, hr⟩ := h
  have lD : l ≠ D := fun z => by rw [z, hD] at hl; cases hl
  have h0 : H l = Option.none := by
    cases e : H l with
    | none => rfl
    | some o => rw [s l o e] at hl; cases hl
  have la : l ∉ as := fun z => by
    obtain ⟨j, hj⟩ := List.mem_iff_getElem?.mp z
    rw [hr j l hj] at hl
    cases hl
  refine ⟨as, hD, len, same_at (same_at s h0) d0, ⟨as ++ [l], ?_, by rw [List.length_append, len]; rfl, ?_, ?_, d0, ?_, ?_⟩, lD⟩
  · rw [upd_same, List.map_append]
    rfl
  · rw [List.nodup_append]
    exact ⟨nd, by simp, fun a ha b hb e => la (by rw [List.mem_singleton.mp hb] at e; rw [← e]; exact ha)⟩
  · intro hm
    rcases List.mem_append.mp hm with hm | hm
    · exact nD hm
    · exact lD (List.mem_singleton.mp hm).symm
  · intro a ha
    rcases List.mem_append.mp ha with ha | ha
    · exact n0 a ha
    · rw [List.mem_singleton.mp ha]; exact h0
  · intro j a hj
    by_cases hji : j < as.length
    · rw [List.getElem?_append_left hji] at hj
      have ma := List.mem_of_getElem? hj
      rw [upd_ne (fun z => nD (by rw [← z]; exact ma)), upd_ne (fun z => la (by rw [← z]; exact ma))]
      exact hr j a hj
    · have e : j = i := by
        by_cases z : j = as.length
        · omega
        · rw [List.getElem?_eq_none (by rw [List.length_append]; show as.length + 1 ≤ j; omega)] at hj; cases hj
      subst e
      rw [List.getElem?_append_right (by omega), len, Nat.sub_self] at hj
      cases hj
      rw [upd_ne lD, upd_same]
theorem RowsAt.nil {H : Hp} {D : Addr} {f : Nat → List Int} (hD : H D = Option.none) : RowsAt H (upd H D (.lst [])) D 0 f :=
  ⟨[], upd_same, rfl, List.nodup_nil, (fun h => nomatch h), hD, (fun _ h => nomatch h), fun j a h => by cases h⟩
theorem RowsAt.put {H H2 : Hp} {R : Addr} {n j : Nat} {f g : Nat → List Int} {z : Int} (h : RowsAt H H2 R n f) (s : Same H H2) (hj : j < n) (hg : g j = f j ++ [z]) (hn : ∀ x, x ≠ j → g x = f x) : ∃ (as : List Addr) (a : Addr), H2 R = some (.lst (as.map V.ref)) ∧ as[j]? = some a ∧ H2 a = some (.lst ((f j).map V.int)) ∧
    Same H (upd H2 a (.lst ((f j).map V.int ++ [.int z]))) ∧ RowsAt H (upd H2 a (.lst ((f j).map V.int ++ [.int z]))) R n g := by
  obtain ⟨as, hR, len, nd, nR, r0, n0, hr⟩ := h
  have hj' : j < as.length := by omega
  have ej : as[j]? = some as[j] := List.getElem?_eq_getElem hj'
  have mj := List.mem_of_getElem? ej
  refine ⟨as, as[j], hR, ej, hr j _ ej, same_at s (n0 _ mj), as, ?_, len, nd, nR, r0, n0, ?_⟩
  · rw [upd_ne (fun z => nR (by rw [z]; exact mj))]
    exact hR
  · intro x a hx
    by_cases e : x = j
    · subst e
      rw [ej] at hx
      cases hx
      rw [upd_same, hg, List.map_append]
      rfl
    · have hne : a ≠ as[j] := fun q => by
        subst q
        exact e ((List.getElem?_inj (List.getElem?_eq_some_iff.mp hx).1 nd).mp (hx.trans ej.symm))
      rw [upd_ne hne, hn x e]
      exact hr x a hx
theorem RowsAt.same {H0 H H' : Hp} {R : Addr} {n : Nat} {f : Nat → List Int} (h : RowsAt H0 H R n f) (s : Same H H') : RowsAt H0 H' R n f := by
  obtain ⟨as, hR, len, nd, nR, r0, n0, hr⟩ := h
  exact ⟨as, s _ _ hR, len, nd, nR, r0, n0, fun j a e => s _ _ (hr j a e)⟩
theorem RowsAt.ext {H0 H : Hp} {R : Addr} {n : Nat} {f g : Nat → List Int} (h : RowsAt H0 H R n f) (e : ∀ j, j < n → f j = g j) : RowsAt H0 H R n g := by
  obtain ⟨as, hR, len, nd, nR, r0, n0, hr⟩ := h
  refine ⟨as, hR, len, nd, nR, r0, n0, fun j a q => ?_⟩
  rw [← e j (by rw [← len]; exact (List.getElem?_eq_some_iff.mp q).1)]
  exact hr j a q
def spShRows (C : Addr) : Sp := fun vs H Q _ => ∃ (N : Addr) (ts : List Addr) (ns : List (Int × Int × Int)) (t : Int) (n k : Nat), vs = [.ref N, .int t, .int n] ∧ H N = some (.lst (ts.map V.ref)) ∧ NumA C H k ts ns ∧ k ≤ 8000 ∧ ns.length ≤ 1000 ∧ n ≤ 100000 ∧
  ∀ R H', Same H H' → RowsAt H H' R n (fun j => rowOf ns (t + j)) → Q (.ref R) H'
end

section
variable {P : Program} {w : World} {K : PySem.W.Frag} {mg : Str → Option Value} {base : Heap}
/-! ### lights -/
def spCopied (C : Addr) : Sp := fun vs H Q _ => ∃ (L : Addr) (xs : List V) (ls : List (Int × Int)) (k : Nat), vs = [.ref L] ∧ H L = some (.lst xs) ∧ AllL C H k xs ls ∧ ls.length ≤ 1000 ∧
  ∀ p ys H', Same H H' → H p = none → H' p = some (.lst ys) → AllL C H' k ys ls → Q (.ref p) H'
theorem ok_copied (T : Top K mg) : FnOk P w K mg base CX0 4 T.f_copied T.d_copied ["lamps"] (spCopied T.C_Lamp) := by
  have G_Lamp_init := ok_Lamp_init (P := P) (w := w) (base := base) T
  refine T.F_copied.ok sc_copied (fun vs H Q E h => ?_) (fun cdv A outer s H vs Q E hr h => ?_)
  · obtain ⟨L, xs, ls, k, rfl, _⟩ := h; rfl
  · obtain ⟨L, xs, ls, k, rfl, hL, hall, hn, q⟩ := h
    refine ⟨_, (pss_one (ps_ret (pe_lc (own := [("lamp", 1)]) (g := gName 1) (by rfl) sc_copied.nd (pi_list (pv 0)) (blkOk_by (own := [("lamp", 1)]) (N := ["lamps", "lamp"]) (sc := defScope s_copied) (by decide +kernel)) (fun _ _ _ _ _ => by exact (pg_name (i := 1) sc_copied.nd rfl (Or.inl rfl))) (fun _ _ _ _ _ => by exact (pts_nil)) (fun _ _ _ _ _ => by exact (pe_make T.mk_Lamp G_Lamp_init (hr.mono (by decide)) (by rfl) T.gC_Lamp T.b_Lamp_init .nil pass0 (pa_cons (pe_fldB (K := K) rfl (pv 1) rfl) (pa_cons (pe_fldB (K := K) rfl (pv 1) rfl) pa_nil))))))), ?_⟩
    refine ⟨_, rfl, L, rfl, ⟨_, SqL.of hL⟩, fun D hD => lc_list (K := K) (a := L) (xs := xs) (fun i H' => Same H H' ∧ ∃ ys, H' D = some (.lst ys) ∧ AllL T.C_Lamp H' k ys (ls.take i))
      ⟨same_new hD, [], upd_same, rfl, fun i v l h => by cases h⟩ (fun i H' _ ⟨s2, _⟩ => SqL.of (s2 _ _ hL)) (fun i x H' hi ⟨s2, ys, hD', ha'⟩ => ?_) (fun H' ⟨s2, ys, hD', ha'⟩ => ?_)⟩
    · obtain ⟨a, l, rfl, el, ha⟩ := hall.at hi
      have ha2 := ha.same s2
      obtain ⟨p0, b0, bp⟩ := ha2.ok _ rfl
      refine ⟨rfl, ?_⟩
      refine ⟨_, rfl, _, _, _, _, _, rfl, (ha2.lamp).choose_spec, T.cl_Lamp, T.na_Lamp_period, lf_period _ _, _, rfl, _, _, _, _, _, rfl, (ha2.lamp).choose_spec, T.cl_Lamp, T.na_Lamp_beat, lf_beat _ _, ?_⟩
      intro x dx nx ndx nex; refine ⟨x, dx, l.1, l.2, rfl, upd_same, p0, fun H3 hx kx => ⟨rfl, ?_⟩⟩; have sx := Same.made nx ndx kx; clear kx nex ndx
      have s3 := sx
      have hD3 := s3 _ _ hD'
      refine ⟨ys, hD3, ?_, same_at (s2.trans s3) hD, _, upd_same, ?_⟩
      · rw [ha'.1, List.length_take]
        exact Nat.lt_of_lt_of_le (show min i ls.length < 1001 by omega) (by decide)
      · rw [List.take_succ, el]
        refine AllL.more (AllL.mut (ha'.same s3) hD3) (OAt.mut ⟨x, rfl, ?_, p0, b0, bp, ?_⟩ hD3)
        · rw [Int.emod_eq_of_lt b0 bp] at hx
          exact hx
        · obtain ⟨_, _, _, _, _, _, z⟩ := ha
          exact z
    · rw [hall.1, List.take_length] at ha'
      exact q D ys H' s2 hD hD' ha'
def gf (L : Addr) : List (Str × V) := putF "_lamps" (.ref L) []
theorem gf_lamps (L : Addr) : (gf L).lookup ("_lamps" : Str) = some (.ref L) := by
  unfold gf
  rw [lookup_putF, if_pos rfl]
theorem gf_no (L : Addr) {m : Str} (h1 : ¬ m = "_lamps") : (gf L).lookup m = none := by
  unfold gf
  rw [lookup_putF, if_neg h1]
  rfl
/-- a Light of these lamps stands at g -/
def LightAt (C CG : Addr) (H : Hp) (g : Addr) (k : Nat) (ls : List (Int × Int)) : Prop := ∃ dx L xs, H g = some (.ins CG dx (gf L)) ∧ H L = some (.lst xs) ∧ AllL C H k xs ls
theorem LightAt.same {C CG : Addr} {H H' : Hp} {g : Addr} {k : Nat} {ls : List (Int × Int)} (h : LightAt C CG H g k ls) (s : Same H H') : LightAt C CG H' g k ls :=
  let ⟨dx, L, xs, e1, e2, e3⟩ := h; ⟨dx, L, xs, s _ _ e1, s _ _ e2, e3.same s⟩
def spLightInit (C CG : Addr) : Sp := fun vs H Q _ => ∃ (g dx L : Addr) (xs : List V) (ls : List (Int × Int)) (k : Nat), vs = [.ref g, .ref L] ∧ H g = some (.ins CG dx []) ∧ H L = some (.lst xs) ∧ AllL C H k xs ls ∧ ls.length ≤ 10 ∧
  ∀ H', LightAt C CG H' g k ls → (∀ c o, H c = some o → c ≠ g → H' c = some o) → Q .non H'
theorem ok_Light_init (T : Top K mg) : FnOk P w K mg base CX0 5 T.f_Light_init T.d_Light_init ["self", "lamps"] (spLightInit T.C_Lamp T.C_Light) := by
  have G_copied := ok_copied (P := P) (w := w) (base := base) T
  refine T.F_Light_init.ok sc_Light_init (fun vs H Q E h => ?_) (fun cdv A outer s H vs Q E hr h => ?_)
  · obtain ⟨g, dx, L, xs, ls, k, rfl, _⟩ := h; rfl
  · obtain ⟨g, dx, L, xs, ls, k, rfl, hg, hL, hall, hn, q⟩ := h
    refine ⟨_, (pss_cons (ps_if (PW.pt (pw_or (pt_not (pt_val (pe_callB call_isiT (by rfl) T.n_isinstance (by decide +kernel) (pa_cons (pv 1) (pa_cons (pe_tup (pa_cons (pe_bltn (v := .ty "list") (by rfl) T.n_list (by decide +kernel) rfl) (pa_cons (pe_bltn (v := .ty "tuple") (by rfl) T.n_tuple (by decide +kernel) rfl) pa_nil))) pa_nil))))) (pw_or1 (pt_cmpR op_gt (pe_callB call_len_seq (by rfl) T.n_len (by decide +kernel) (pa_cons (pv 1) pa_nil)) (pe_glob (v := .int 10) rfl T.c_MOST_LAMPS ⟨_, rfl⟩) (nomark _))))) (pss_one (ps_never)) pss_nil)
      (pss_cons (ps_if (pt_not (pt_val (pe_callB (cr_all rfl) (by rfl) T.n_all (by decide +kernel) (pa_cons (pe_lc (own := [("lamp", 2)]) (g := gName 2) (by rfl) sc_Light_init.nd (pi_list (pv 1)) (blkOk_by (own := [("lamp", 2)]) (N := ["self", "lamps", "lamp"]) (sc := defScope s_Light_init) (by decide +kernel)) (fun _ _ _ _ _ => by exact (pg_name (i := 2) sc_Light_init.nd rfl (Or.inl rfl))) (fun _ _ _ _ _ => by exact (pts_nil)) (fun _ _ _ _ _ => by exact (pe_callB (call_isiB (K := K) rfl) (by rfl) T.n_isinstance (by decide +kernel) (pa_cons (pv 2) (pa_cons (pe_glob (v := .ref T.C_Lamp) rfl T.gC_Lamp rfl) pa_nil))))) pa_nil)))) (pss_one (ps_never)) pss_nil)
      (pss_one (ps_fld (pv 0) (pe_call G_copied (hr.mono (by decide)) rfl T.g_copied T.F_copied.kp T.b_copied .nil pass0 (pa_cons (pv 1) pa_nil)) rfl)))), ?_⟩
    refine ⟨_, rfl, (by show 2 ≤ sizeLine; decide), fun tp htp => ?_⟩
    have s0 := same_new (o := .tup [.ty "list", .ty "tuple"]) htp
    refine ⟨_, tp, [.ty "list", .ty "tuple"], _, [.type "list", .type "tuple"], true, rfl, upd_same, .cons (.ty _) (.cons (.ty _) .nil), .base (.lst (s0 _ _ hL)), ?_, true, rfl, ?_⟩
    · unfold PySem.W.kitAny PySem.W.kitOne
      rw [if_pos (by decide)]
    refine ⟨_, rfl, L, xs, rfl, .inl (SqL.of (s0 _ _ hL)), _, _, rfl, rfl, _, rfl, ?_⟩
    show if decide (10 < (xs.length : Int)) = true then _ else _
    refine ite2 (fun c => absurd (of_decide_eq_true c) (by rw [hall.1]; omega)) fun _ => ?_
    have hL1 := s0 _ _ hL
    have hall1 := hall.same s0
    have hg1 := s0 _ _ hg
    generalize upd H tp (.tup [.ty "list", .ty "tuple"]) = H1 at *
    refine ⟨_, rfl, L, rfl, ⟨_, SqL.of hL1⟩, fun D hD => lc_list (K := K) (a := L) (xs := xs) (fun i H' => Same H1 H' ∧ H' D = some (.lst ((List.replicate i true).map V.bl)))
      ⟨same_new hD, upd_same⟩ (fun i H' _ ⟨s2, _⟩ => SqL.of (s2 _ _ hL1)) (fun i x H' hi ⟨s2, hD'⟩ => ?_) (fun H' ⟨s2, hD'⟩ => ?_)⟩
    · obtain ⟨a, l, rfl, el, ha⟩ := hall1.at hi
      have ha2 := (ha.same s2).lamp
      refine ⟨rfl, ?_⟩
      refine ⟨_, rfl, _, _, _, _, true, rfl, .own _, T.kl_Lamp.ty ha2.choose_spec, (by unfold PySem.W.kitOne; rw [if_pos (by simp)]), _, hD', ?_, ?_, ?_⟩
      · have hlt : i < xs.length := by
          by_cases hh : i < xs.length
          · exact hh
          · rw [List.getElem?_eq_none (by omega)] at hi; cases hi
        rw [List.length_map, List.length_replicate]
        exact Nat.lt_of_lt_of_le (show i < 11 by rw [hall1.1] at hlt; omega) (by decide)
      · exact same_at s2 hD
      · rw [upd_same, List.replicate_succ', List.map_append]
        rfl
    · refine ⟨D, _, rfl, SqL.of hD', ?_⟩
      rw [show (List.replicate xs.length true).all id = true by rw [List.all_eq_true]; intro x hx; exact (List.mem_replicate.mp hx).2]
      refine ⟨_, rfl, iteF ?_⟩
      have hL2 := s2 _ _ hL1
      have hall2 := hall1.same s2
      have hg2 := s2 _ _ hg1
      refine ⟨_, rfl, L, xs, ls, k, rfl, hL2, hall2, by omega, fun p ys H3 s3 hp hl ha => ?_⟩
      have hg3 := s3 _ _ hg2
      refine ⟨_, rfl, g, T.C_Light, dx, [], rfl, hg3, T.cl_Light, T.na_Light__lamps, (by show 0 < 1000; decide), ?_⟩
      refine q _ ⟨dx, p, ys, upd_same, ?_, ha.ins hg3⟩ fun c o e hc => ?_
      · rw [upd_ne (ne_of hl hg3 (by intro z; cases z))]
        exact hl
      · rw [upd_ne hc]
        exact s3 _ _ (s2 _ _ (s0 _ _ e))
end
section
variable {P : Program} {w : World} {K : PySem.W.Frag} {mg : Str → Option Value} {base : Heap}
/-- Light(list): the argument's reading ends in this -/
theorem make_light {C CG : Addr} {L : Addr} {xs : List V} {ls : List (Int × Int)} {k : Nat} {vs : List V} {H : Hp} {Q : VK} {E : XK} (hv : vs = [.ref L]) (hL : H L = some (.lst xs)) (hall : AllL C H k xs ls) (hn : ls.length ≤ 10)
    (q : ∀ g H', H g = none → Same H H' → LightAt C CG H' g k ls → Q (.ref g) H') :
    ∀ x dx, H x = none → H dx = none → dx ≠ x → spLightInit C CG (.ref x :: (vs ++ [])) (upd (upd H dx (.own x)) x (.ins CG dx [])) (fun v H2 => v = .non ∧ Q (.ref x) H2) E := by
  intro x dx nx nd ne
  have s1 : Same H (upd (upd H dx (.own x)) x (.ins CG dx [])) := fun b o e => by
    rw [upd_ne (ne_of_none e nx), upd_ne (ne_of_none e nd)]
    exact e
  subst hv
  exact ⟨x, dx, L, xs, ls, k, rfl, upd_same, s1 _ _ hL, hall.same s1, hn, fun H' h kk => ⟨rfl, q x H' nx (Same.made nx nd kk) h⟩⟩
def spLamps0 (C CG : Addr) : Sp := fun vs H Q _ => ∃ (g : Addr) (k : Nat) (ls : List (Int × Int)), vs = [.ref g] ∧ LightAt C CG H g k ls ∧ ls.length ≤ 10 ∧
  ∀ p ys H', Same H H' → H p = none → H' p = some (.lst ys) → AllL C H' k ys ls → Q (.ref p) H'
theorem ok_Light_lamps (T : Top K mg) : FnOk P w K mg base CX0 5 T.f_Light_lamps T.d_Light_lamps ["self"] (spLamps0 T.C_Lamp T.C_Light) := by
  have G_copied := ok_copied (P := P) (w := w) (base := base) T
  refine T.F_Light_lamps.ok sc_Light_lamps (fun vs H Q E h => ?_) (fun cdv A outer s H vs Q E hr h => ?_)
  · obtain ⟨g, k, ls, rfl, _⟩ := h; rfl
  · obtain ⟨g, k, ls, rfl, ⟨dx, L, xs, hg, hL, hall⟩, hn, q⟩ := h
    refine ⟨_, (pss_one (ps_ret (pe_call G_copied (hr.mono (by decide)) rfl T.g_copied T.F_copied.kp T.b_copied .nil pass0 (pa_cons (pe_fld (pv 0) rfl) pa_nil)))), ?_⟩
    refine ⟨_, rfl, g, T.C_Light, dx, _, _, rfl, hg, T.cl_Light, T.na_Light__lamps, gf_lamps _, ?_⟩
    exact ⟨L, xs, ls, k, rfl, hL, hall, by omega, q⟩
end

section
variable {P : Program} {w : World} {K : PySem.W.Frag} {mg : Str → Option Value} {base : Heap}
def spWait (C CG : Addr) : Sp := fun vs H Q _ => ∃ (g : Addr) (k : Nat) (ls : List (Int × Int)), vs = [.ref g] ∧ LightAt C CG H g k ls ∧ ls.length ≤ 1000 ∧ Q (.int (2 ^ ls.length)) H
end

section
variable {P : Program} {w : World} {K : PySem.W.Frag} {mg : Str → Option Value} {base : Heap}
theorem num_of {C : Addr} {H : Hp} {k : Nat} {ts : List Addr} {ys : List V} {ls : List (Int × Int)} (hall : AllL C H k ys ls) (pr : Paired (fun (t : Addr) (q : Key × V) => H t = some (.tup [kV q.1, q.2])) ts (enuL 0 ys)) : NumA C H k ts (numF 0 ls) := by
  have len := Paired.length pr
  rw [enuL_len] at len
  refine ⟨by rw [len, numF_len, hall.1], fun i T x e1 e2 => ?_⟩
  obtain ⟨q, g1, g2⟩ := L2.paired_get pr e1
  have hi : i < ys.length := by rw [← len]; exact (List.getElem?_eq_some_iff.mp e1).1
  have ey := List.getElem?_eq_getElem hi
  have g3 := enuL_get ys 0 i _ ey
  rw [g1] at g3
  injection g3 with g3
  subst g3
  rw [numF_get] at e2
  obtain ⟨a, l, ea, el, ho⟩ := hall.at ey
  rw [el] at e2
  cases e2
  refine ⟨a, ?_, ho⟩
  rw [g2, ea]
  show some (HO.tup [V.int ((0 + i : Nat) : Int), V.ref a]) = some (HO.tup [V.int (0 + (i : Int)), V.ref a])
  rw [show ((0 + i : Nat) : Int) = 0 + (i : Int) by omega]
/-- rows to be read -/
def RowsR (H : Hp) (R : Addr) (n : Nat) (f : Nat → List Int) : Prop := ∃ as : List Addr, H R = some (.lst (as.map V.ref)) ∧ as.length = n ∧ ∀ (j : Nat) a, as[j]? = some a → H a = some (.lst ((f j).map V.int))
theorem RowsAt.r {H0 H : Hp} {R : Addr} {n : Nat} {f : Nat → List Int} (h : RowsAt H0 H R n f) : RowsR H R n f := let ⟨as, a, b, _, _, _, _, c⟩ := h; ⟨as, a, b, c⟩
theorem RowsR.same {H H' : Hp} {R : Addr} {n : Nat} {f : Nat → List Int} (h : RowsR H R n f) (s : Same H H') : RowsR H' R n f := let ⟨as, a, b, c⟩ := h; ⟨as, s _ _ a, b, fun j x e => s _ _ (c j x e)⟩
def emptyL (n : Nat) (f : Nat → List Int) : List Nat := (List.range n).filter fun j => decide (f j = [])
def spEmpty : Sp := fun vs H Q _ => ∃ (R : Addr) (n : Nat) (f : Nat → List Int), vs = [.ref R] ∧ RowsR H R n f ∧ n ≤ 100000 ∧ ∀ p H', Same H H' → H p = none → H' p = some (.lst ((emptyL n f).map fun j => V.int (j : Nat))) → Q (.ref p) H'
def spLeast : Sp := fun vs H Q _ => ∃ (R : Addr) (n : Nat) (f : Nat → List Int), vs = [.ref R] ∧ RowsR H R n f ∧ n ≤ 100000 ∧ (∀ j, j < n → f j ≠ []) ∧
  ∀ p H', Same H H' → H p = none → H' p = some (.lst (((List.range n).map fun j => (f j).headD 0).map V.int)) → Q (.ref p) H'
end

section
variable {P : Program} {w : World} {K : PySem.W.Frag} {mg : Str → Option Value} {base : Heap}
def spRowsFrom (C CG : Addr) : Sp := fun vs H Q _ => ∃ (g : Addr) (t : Int) (k : Nat) (ls : List (Int × Int)), vs = [.ref g, .int t] ∧ LightAt C CG H g k ls ∧ ls.length ≤ 10 ∧ k ≤ 8000 ∧
  ∀ R H', Same H H' → RowsAt H H' R (2 ^ ls.length) (fun j => lrow ls (t + j)) → Q (.ref R) H'
/-- what next_dark and last_dark tell -/
def Told (H0 H : Hp) (p : Addr) (pap : List Int) : Option Int → Prop
  | some d => H p = some (.tup [.str "dark", .int d])
  | none => ∃ q, H p = some (.tup [.str "ever", .ref q]) ∧ H q = some (.lst (pap.map V.int)) ∧ H0 q = none
theorem Told.same {H0 H H' : Hp} {p : Addr} {pap : List Int} {o : Option Int} (h : Told H0 H p pap o) (s : Same H H') : Told H0 H' p pap o := by
  cases o with
  | some d => exact s _ _ h
  | none =>
    obtain ⟨q, a, b, c⟩ := h
    exact ⟨q, s _ _ a, s _ _ b, c⟩
def spNextDark (C CG : Addr) : Sp := fun vs H Q _ => ∃ (g : Addr) (t : Int) (k : Nat) (ls : List (Int × Int)), vs = [.ref g, .int t] ∧ LightAt C CG H g k ls ∧ ls.length ≤ 10 ∧ k ≤ 8000 ∧
  ∀ p H', Same H H' → H p = none → Told H H' p (paper ls t) (nextD ls t) → Q (.ref p) H'
end

section
variable {P : Program} {w : World} {K : PySem.W.Frag} {mg : Str → Option Value} {base : Heap}
/-! ### lists of pairs -/
abbrev PZ := List (Addr × (Int × Int))
def prs (zs : PZ) : List (Int × Int) := zs.map fun z => z.2
/-- pairs as they stand in a heap -/
def TupZ (H : Hp) (zs : PZ) : Prop := ∀ z ∈ zs, H z.1 = some (.tup [.int z.2.1, .int z.2.2])
def refsZ (zs : PZ) : List V := zs.map fun z => V.ref z.1
def PairsA (H : Hp) (L : Addr) (zs : PZ) : Prop := H L = some (.lst (refsZ zs)) ∧ TupZ H zs
def OkZ (zs : PZ) : Prop := ∀ z ∈ zs, 0 < z.2.1 ∧ z.2.1 < 2 ^ 250
theorem TupZ.same {H H' : Hp} {zs : PZ} (h : TupZ H zs) (s : Same H H') : TupZ H' zs := fun z hz => s _ _ (h z hz)
theorem PairsA.same {H H' : Hp} {L : Addr} {zs : PZ} (h : PairsA H L zs) (s : Same H H') : PairsA H' L zs := ⟨s _ _ h.1, h.2.same s⟩
theorem TupZ.dr {H H' : Hp} {s : Addr} {n : Nat} {zs : PZ} (h : TupZ H zs) (hs : Src H s n) (d : Dr s H H') : TupZ H' zs := fun z hz => d _ _ (h z hz) fun e => by
  obtain ⟨_, _, _, h1, _⟩ := hs
  have := h z hz
  rw [e, h1] at this
  cases this
theorem refs_ne {H : Hp} {s L : Addr} {n : Nat} {zs : PZ} (hs : Src H s n) (h : H L = some (.lst (refsZ zs))) : L ≠ s := fun e => by
  obtain ⟨_, _, _, h1, _⟩ := hs
  rw [e, h1] at h
  cases zs with
  | nil => cases h
  | cons z zs => cases h
theorem PairsA.dr {H H' : Hp} {s L : Addr} {n : Nat} {zs : PZ} (h : PairsA H L zs) (hs : Src H s n) (d : Dr s H H') : PairsA H' L zs := ⟨d _ _ h.1 (refs_ne hs h.1), h.2.dr hs d⟩
theorem TupZ.mut {H : Hp} {l : Addr} {xs : List V} {o : HO} {zs : PZ} (h : TupZ H zs) (hl : H l = some (.lst xs)) : TupZ (upd H l o) zs := fun z hz => by
  rw [upd_ne (ne_of (h z hz) hl (by intro e; cases e))]
  exact h z hz
theorem TupZ.app {H : Hp} {zs ys : PZ} (h : TupZ H zs) (h2 : TupZ H ys) : TupZ H (zs ++ ys) := fun z hz => (List.mem_append.mp hz).elim (h z) (h2 z)
theorem OkZ.app {zs ys : PZ} (h : OkZ zs) (h2 : OkZ ys) : OkZ (zs ++ ys) := fun z hz => (List.mem_append.mp hz).elim (h z) (h2 z)
theorem OkZ.perm {zs ys : PZ} (h : OkZ zs) (p : ys.Perm zs) : OkZ ys := fun z hz => h z (p.mem_iff.mp hz)
def dPairs (zs : PZ) : PyData := .list (zs.map fun z => .tuple [.int z.2.1, .int z.2.2])
theorem okD_pairs (zs : PZ) : OkD 2 (dPairs zs) := okD_list fun d hd => by
  obtain ⟨z, _, rfl⟩ := List.mem_map.mp hd
  refine okD_tup fun x hx => ?_
  simp only [List.mem_cons, List.not_mem_nil, or_false] at hx
  rcases hx with rfl | rfl
  · exact okD_int _
  · exact okD_int _
theorem dp_pairs {H : Hp} {L : Addr} {zs : PZ} (h : PairsA H L zs) : Dp K H (.ref L) (dPairs zs) := by
  refine .lst (SqL.of h.1) ?_
  have h2 := h.2
  clear h
  induction zs with
  | nil => exact .nil
  | cons z zs ih => exact .cons (.tup (SqT.of (h2 z (.head _))) (.cons (.int _) (.cons (.int _) .nil))) (ih fun y hy => h2 y (.tail _ hy))
theorem eqv_pairs_nil (zs : PZ) : PyData.eqv (dPairs zs) (.list []) = zs.isEmpty := by
  cases zs with
  | nil => unfold dPairs PyData.eqv PyData.eqvAll; rfl
  | cons z zs => unfold dPairs PyData.eqv PyData.eqvAll; rfl
end

section
variable {P : Program} {w : World} {K : PySem.W.Frag} {mg : Str → Option Value} {base : Heap}
def spMade (C CG : Addr) : Sp := fun vs H Q _ => ∃ (L : Addr) (zs : PZ), vs = [.ref L] ∧ PairsA H L zs ∧ OkZ zs ∧ zs.length ≤ 10 ∧
  ∀ g H', Same H H' → H g = none → LightAt C CG H' g 250 ((prs zs).map nrm) → Q (.ref g) H'
end

section
variable {P : Program} {w : World} {K : PySem.W.Frag} {mg : Str → Option Value} {base : Heap}
theorem cut_head {xs : List V} {z : Int} (h : 0 ≤ z) : cutV xs none (some z) = xs.take z.toNat := by
  unfold cutV
  have e1 : HT.sIx xs.length 0 none = 0 := by unfold HT.sIx; rfl
  have e2 : HT.sIx xs.length xs.length (some z) = min z.toNat xs.length := by unfold HT.sIx; simp; omega
  rw [e1, e2, List.drop_zero, Nat.sub_zero, ← List.take_eq_take_min]
theorem cut_from {xs : List V} {z : Int} (h : 0 ≤ z) : cutV xs (some z) none = xs.drop z.toNat := by
  unfold cutV
  have e1 : HT.sIx xs.length 0 (some z) = min z.toNat xs.length := by unfold HT.sIx; simp; omega
  have e2 : HT.sIx xs.length xs.length none = xs.length := by unfold HT.sIx; simp
  rw [e1, e2]
  by_cases hh : z.toNat ≤ xs.length
  · rw [Nat.min_eq_left hh]
    exact List.take_of_length_le (by rw [List.length_drop]; exact Nat.le_refl _)
  · rw [Nat.min_eq_right (by omega), List.drop_eq_nil_of_le (Nat.le_refl _), List.drop_eq_nil_of_le (by omega), List.take_nil]
theorem refsZ_app (xs ys : PZ) : refsZ xs ++ refsZ ys = refsZ (xs ++ ys) := by unfold refsZ; rw [List.map_append]
theorem refsZ_take (xs : PZ) (n : Nat) : (refsZ xs).take n = refsZ (xs.take n) := by unfold refsZ; rw [List.map_take]
theorem refsZ_len (xs : PZ) : (refsZ xs).length = xs.length := by unfold refsZ; rw [List.length_map]
theorem prs_len (xs : PZ) : (prs xs).length = xs.length := by unfold prs; rw [List.length_map]
theorem refsZ_drop (xs : PZ) (n : Nat) : (refsZ xs).drop n = refsZ (xs.drop n) := by unfold refsZ; rw [List.map_drop]
/-- a list of pairs being made out of another one -/
def CompZ (H0 : Hp) (D : Addr) (zs : PZ) (f : Int × Int → Int) (i : Nat) (H' : Hp) : Prop := Same H0 H' ∧ ∃ ws : PZ, H' D = some (.lst (refsZ ws)) ∧ TupZ H' ws ∧ ws.length = i ∧ OkZ ws ∧ prs ws = ((prs zs).take i).map fun l => (l.1, f l)
theorem CompZ.start {H0 : Hp} {D : Addr} {zs : PZ} {f : Int × Int → Int} (hD : H0 D = Option.none) : CompZ H0 D zs f 0 (upd H0 D (.lst [])) :=
  ⟨same_new hD, [], upd_same, (fun _ h => by cases h), rfl, (fun _ h => by cases h), rfl⟩
theorem CompZ.step {H0 H2 : Hp} {D T : Addr} {zs : PZ} {f : Int × Int → Int} {i : Nat} {z : Addr × (Int × Int)} {a b : Int} (h : CompZ H0 D zs f i H2) (hD : H0 D = Option.none) (hz : zs[i]? = some z) (ok : OkZ zs) (hT : H2 T = Option.none) (hi : zs.length ≤ 1000) (ea : a = z.2.1) (eb : b = f z.2) :
    ∃ acc, upd H2 T (.tup [.int a, .int b]) D = some (.lst acc) ∧ acc.length < sizeLine ∧ CompZ H0 D zs f (i + 1) (upd (upd H2 T (.tup [.int a, .int b])) D (.lst (acc ++ [.ref T]))) := by
  subst ea eb
  obtain ⟨s2, ws, h1, h2, h3, h4, h5⟩ := h
  have hlt : i < zs.length := (List.getElem?_eq_some_iff.mp hz).1
  have sT : Same H2 (upd H2 T (.tup [.int z.2.1, .int (f z.2)])) := same_new hT
  have hD2 := sT _ _ h1
  refine ⟨refsZ ws, hD2, ?_, same_at (s2.trans sT) hD, ws ++ [(T, (z.2.1, f z.2))], ?_, ?_, ?_, ?_, ?_⟩
  · rw [refsZ_len, h3]
    exact Nat.lt_of_lt_of_le (show i < 1001 by omega) (by decide)
  · rw [upd_same, ← refsZ_app]
    rfl
  · refine TupZ.mut (TupZ.app (h2.same sT) fun y hy => ?_) hD2
    rw [List.mem_singleton.mp hy]
    exact upd_same
  · rw [List.length_append, h3]
    rfl
  · refine h4.app fun y hy => ?_
    rw [List.mem_singleton.mp hy]
    exact ok z (List.mem_of_getElem? hz)
  · have e : (prs zs)[i]? = some z.2 := by unfold prs; rw [List.getElem?_map, hz]; rfl
    rw [List.take_succ, e, List.map_append, ← h5]
    unfold prs
    rw [List.map_append]
    rfl
theorem LightAt.dr {C CG : Addr} {H H' : Hp} {g s : Addr} {k n : Nat} {ls : List (Int × Int)} (h : LightAt C CG H g k ls) (hs : Src H s n) (d : Dr s H H') : LightAt C CG H' g k ls := by
  obtain ⟨dx, L, xs, h1, h2, h3⟩ := h
  have hs' := hs
  obtain ⟨u, v, w, hs1, _⟩ := hs'
  refine ⟨dx, L, xs, d _ _ h1 (fun e => ?_), d _ _ h2 (fun e => ?_), h3.dr hs d⟩
  · rw [e, hs1] at h1
    cases h1
  · rw [e, hs1] at h2
    cases h2
    obtain ⟨a, l, e, _⟩ := h3.at (i := 0) rfl
    cases e
theorem LightAt.pos {C CG : Addr} {H : Hp} {g : Addr} {k : Nat} {ls : List (Int × Int)} (h : LightAt C CG H g k ls) : ∀ x ∈ ls, 0 < x.1 := fun x hx => by
  obtain ⟨dx, L, xs, _, _, hall⟩ := h
  obtain ⟨i, hi, e⟩ := List.getElem_of_mem hx
  obtain ⟨a, _, o⟩ := hall.2 i _ x (List.getElem?_eq_getElem (show i < xs.length by rw [hall.1]; exact hi)) (by rw [List.getElem?_eq_getElem hi, e])
  exact (o.ok _ rfl).1
end

section
variable {P : Program} {w : World} {K : PySem.W.Frag} {mg : Str → Option Value} {base : Heap}
theorem mw4 {i j : Int} (h1 : -(2 ^ 400) < i) (h2 : i < 2 ^ 400) (h3 : -(2 ^ 400) < j) (h4 : j < 2 ^ 400) : CMulW i j :=
  wide_mul (a := 400) (b := 400) (by omega) (by omega) (by decide) (by decide) (by decide)
theorem lt400 {x : Int} {k : Nat} (h : x.natAbs < 2 ^ k) (hk : k ≤ 400) : -(2 ^ 400) < x ∧ x < 2 ^ 400 := by
  have h2 : (2 : Nat) ^ k ≤ 2 ^ 400 := Nat.pow_le_pow_right (by decide) hk
  have e : ((2 ^ 400 : Nat) : Int) = 2 ^ 400 := by norm_cast
  generalize (2 : Nat) ^ 400 = N at *
  rw [← e]
  omega
end

section
def oV : Option Int → V
  | some x => .int x
  | none => .non
end

/-! ### any walk, its body as one -/
section
variable {J : It} {n : Nat} {G : Hp → Prop} {Y : Nat → Hp → V → Hp → Prop}
theorem lc_any (w : Walk J n G Y) {B : V → Hp → (Hp → Prop) → Prop} {H0 : Hp} {Qd : Hp → Prop} (Pv : Nat → Hp → Prop) (h0 : Pv 0 H0) (hG : ∀ i H, i ≤ n → Pv i H → G H)
    (hs : ∀ i x H H', i < n → Pv i H → Y i H x H' → B x H' (Pv (i + 1))) (hd : ∀ H, Pv n H → Qd H) :
    ∃ W : Nat → Nat → Hp → Prop, (∃ m, W 0 m H0) ∧ ∀ i m H, W i m H →
      (J.stop i H ∧ Qd H) ∨ (J.go i H ∧ ∃ Nx : Hp → Prop, (∀ H', Nx H' → ∃ m', m' < m ∧ W (i + 1) m' H') ∧ ∀ x H', J.yld i H x H' → B x H' Nx) := by
  refine ⟨fun i m H => m = n - i ∧ i ≤ n ∧ Pv i H, ⟨n, by simp, Nat.zero_le _, h0⟩, ?_⟩
  rintro i m H ⟨rfl, hi, p⟩
  have q := hG i H hi p
  by_cases hlt : i < n
  · exact .inr ⟨w.goes i H hlt q, Pv (i + 1), fun H' p' => ⟨n - (i + 1), by omega, rfl, hlt, p'⟩, fun x H' y => hs i x H H' hlt p (w.yields i H x H' hlt q y)⟩
  · have e : i = n := by omega
    subst e
    exact .inl ⟨w.stops H q, hd H p⟩
end

section
theorem Same.of_upd {H H1 : Hp} {l : Addr} {o : HO} (h : upd H l o = H1) (hl : H l = Option.none) : Same H H1 := h ▸ same_new hl
theorem Same.two {H : Hp} {x dx : Addr} {o1 o2 : HO} (nx : H x = Option.none) (nd : H dx = Option.none) : Same H (upd (upd H dx o1) x o2) := fun b o e => by
  rw [upd_ne (ne_of_none e nx), upd_ne (ne_of_none e nd)]
  exact e
theorem upd_of {H H1 : Hp} {l : Addr} {o : HO} (h : upd H l o = H1) : H1 l = some o := h ▸ upd_same
theorem tup_ne {H : Hp} {s U : Addr} {n : Nat} {xs : List V} (hs : Src H s n) (h : H U = some (.tup xs)) : U ≠ s := fun e => by
  obtain ⟨_, _, _, h1, _⟩ := hs
  rw [e, h1] at h
  cases h
variable {K : PySem.W.Frag}
theorem eq_nilD {H : Hp} {L : Addr} {zs : PZ} {Q : VK} {l0 : Addr} (h : PairsA H L zs) (h0 : H l0 = some (.lst [])) (q : Q (.bl zs.isEmpty) H) : rEqD K (.ref L) (.ref l0) H Q := by
  refine ⟨dPairs zs, .list [], dp_pairs h, .lst (SqL.of h0) .nil, (okD_pairs zs).sh (by decide), (okD_list (n := 0) (ds := []) (fun _ hd => by cases hd)).sh (by decide), ?_⟩
  rw [eqv_pairs_nil]
  exact q
theorem alll_one {C : Addr} {H : Hp} {k : Nat} {a : Addr} {l : Int × Int} (o : OAt C H (.ref a) k (some l)) : AllL C H k [.ref a] [l] := AllL.more (vs := []) (ls := []) ⟨rfl, fun i v l h => by cases h⟩ o
theorem eq_ints {H : Hp} {L1 L2 : Addr} {ms ns : List Int} {Q : VK} (h1 : H L1 = some (.lst (ms.map V.int))) (h2 : H L2 = some (.lst (ns.map V.int))) (q : Q (.bl (decide (ms = ns))) H) : rEqD K (.ref L1) (.ref L2) H Q := by
  refine ⟨dInts ms, dInts ns, dp_ints h1, dp_ints h2, (okD_ints _).sh (by decide), (okD_ints _).sh (by decide), ?_⟩
  have q0 : PyData.eqv (dInts ms) (dInts ns) = decide (ms = ns) := by
    unfold dInts PyData.eqv
    exact eqv_ints _ _
  rw [q0]
  exact q
theorem ne_pairs {H : Hp} {L1 L2 : Addr} {zs ws : PZ} {Q : VK} (h1 : PairsA H L1 zs) (h2 : PairsA H L2 ws) (e : prs zs = prs ws) (q : Q (.bl false) H) : rNeD K (.ref L1) (.ref L2) H Q := by
  have e2 : dPairs ws = dPairs zs := by
    have : ∀ zs : PZ, dPairs zs = .list ((prs zs).map fun p => .tuple [.int p.1, .int p.2]) := fun zs => by unfold dPairs prs; rw [List.map_map]; rfl
    rw [this, this, e]
  exact neD_self (dp_pairs h1) (e2 ▸ dp_pairs h2) (okD_pairs zs) (by decide) q
/-- a pair more -/
theorem pairs_app {H : Hp} {F T0 : Addr} {zs : PZ} {x y : Int} (hp : PairsA H F zs) (hT : H T0 = some (.tup [.int x, .int y])) : PairsA (upd H F (.lst (refsZ zs ++ [.ref T0]))) F (zs ++ [(T0, (x, y))]) := by
  refine ⟨?_, ?_⟩
  · rw [upd_same, ← refsZ_app]
    rfl
  · refine TupZ.mut (TupZ.app hp.2 fun z hz => ?_) hp.1
    rw [List.mem_singleton.mp hz]
    exact hT
theorem cut_take (ns : List Int) (k : Nat) : cutV (ns.map V.int) none (some (k : Int)) = (ns.take k).map V.int := by
  rw [cut_head (by omega), List.map_take, Int.toNat_natCast]
end

section
variable {P : Program} {w : World} {K : PySem.W.Frag} {mg : Str → Option Value} {base : Heap}
def OAll (C : Addr) (H : Hp) (k : Nat) (vs : List V) (os : List OLp) : Prop := vs.length = os.length ∧ ∀ (i : Nat) v o, vs[i]? = some v → os[i]? = some o → OAt C H v k o
theorem OAll.same {C : Addr} {H H' : Hp} {k : Nat} {vs : List V} {os : List OLp} (h : OAll C H k vs os) (s : Same H H') : OAll C H' k vs os := ⟨h.1, fun i v o e1 e2 => (h.2 i v o e1 e2).same s⟩
theorem OAll.mut {C : Addr} {H : Hp} {k : Nat} {vs : List V} {os : List OLp} {D : Addr} {xs ys : List V} (h : OAll C H k vs os) (hD : H D = some (.lst xs)) : OAll C (upd H D (.lst ys)) k vs os := ⟨h.1, fun i v o e1 e2 => (h.2 i v o e1 e2).mut hD⟩
theorem OAll.more {C : Addr} {H : Hp} {k : Nat} {vs : List V} {os : List OLp} {v : V} {o : OLp} (h : OAll C H k vs os) (e : OAt C H v k o) : OAll C H k (vs ++ [v]) (os ++ [o]) := by
  refine ⟨by rw [List.length_append, List.length_append, h.1]; rfl, fun i v' o' e1 e2 => ?_⟩
  rcases snoc_at e1 with ⟨h1, g1⟩ | ⟨h1, rfl⟩ <;> rcases snoc_at e2 with ⟨h2, g2⟩ | ⟨h2, rfl⟩
  · exact h.2 i v' o' g1 g2
  · exact absurd h.1 (by omega)
  · exact absurd h.1 (by omega)
  · exact e
theorem AllL.wide {C : Addr} {H : Hp} {k k2 : Nat} {vs : List V} {ls : List (Int × Int)} (h : AllL C H k vs ls) (hk : k ≤ k2) : AllL C H k2 vs ls :=
  ⟨h.1, fun i v l e1 e2 => let ⟨a, e, b, c1, c2, c3, c4, c5, c6⟩ := h.2 i v l e1 e2; ⟨a, e, b, c1, c2, c3, c4, c5, Nat.lt_of_lt_of_le c6 (Nat.pow_le_pow_right (by decide) hk)⟩⟩
theorem AllL.app {C : Addr} {H : Hp} {k : Nat} {xs ys : List V} {ls ms : List (Int × Int)} (h : AllL C H k xs ls) (h2 : AllL C H k ys ms) : AllL C H k (xs ++ ys) (ls ++ ms) := by
  refine ⟨by rw [List.length_append, List.length_append, h.1, h2.1], fun i v l e1 e2 => ?_⟩
  by_cases hi : i < xs.length
  · rw [List.getElem?_append_left hi] at e1
    rw [List.getElem?_append_left (h.1 ▸ hi)] at e2
    exact h.2 i v l e1 e2
  · rw [List.getElem?_append_right (by omega)] at e1
    rw [List.getElem?_append_right (by have := h.1; omega), ← h.1] at e2
    exact h2.2 _ v l e1 e2
end

section
variable {P : Program} {w : World} {K : PySem.W.Frag} {mg : Str → Option Value} {base : Heap}
/-! ### counts -/
def spByTurns : Sp := fun vs H Q _ => ∃ (L : Addr) (ns : List Int), vs = [.ref L] ∧ H L = some (.lst (ns.map V.int)) ∧ ∀ H', Same H H' → Q (.int (alt ns)) H'
theorem ok_by_turns (T : Top K mg) : FnOk P w K mg base CX0 1 T.f_by_turns T.d_by_turns ["numbers"] spByTurns := by
  refine T.F_by_turns.ok sc_by_turns (fun vs H Q E h => ?_) (fun cdv A outer s H vs Q E hr h => ?_)
  · obtain ⟨L, ns, rfl, _⟩ := h; rfl
  · obtain ⟨L, ns, rfl, hL, q⟩ := h
    refine ⟨_, (pss_one (ps_ret (pe_op op_sub (pe_callB (cr_sum rfl) (by rfl) T.n_sum (by decide +kernel) (pa_cons (pe_evry (pv 0)) pa_nil)) (pe_callB (cr_sum rfl) (by rfl) T.n_sum (by decide +kernel) (pa_cons (pe_evry1 (pv 0)) pa_nil))))), ?_⟩
    refine ⟨_, rfl, L, _, rfl, SqL.of hL, fun p hp => ?_⟩
    rw [evry_map] 
    generalize hX_ : upd _ p _ = H1; have sp := Same.of_upd hX_ hp; have ep := upd_of hX_; clear hX_
    refine ⟨p, _, rfl, SqL.of ep, ?_⟩
    refine ⟨_, rfl, L, _, rfl, SqL.of (sp _ _ hL), fun p2 hp2 => ?_⟩
    rw [← List.map_drop, evry_map]
    generalize hX_ : upd _ p2 _ = H2; have sp2 := Same.of_upd hX_ hp2; have ep2 := upd_of hX_; clear hX_
    refine ⟨p2, _, rfl, SqL.of ep2, _, _, rfl, rfl, ?_⟩
    have := q H2 (sp.trans sp2)
    rw [← alt_evry] at this
    exact this
def spWithJust : Sp := fun vs H Q _ => ∃ (j n : Nat) (L : Addr) (ns : List Int), vs = [.int j, .ref L] ∧ H L = some (.lst (ns.map V.int)) ∧ ns.length = n + 1 ∧ n ≤ 10 ∧ j ≤ n ∧ (∀ z ∈ ns, z.natAbs < 2 ^ 20000) ∧
  ∀ H', Same H H' → Q (.int (alt ((List.range (n + 1 - j)).map fun i => ((chs (j + i) j : Nat) : Int) * (ns[j + i]?).getD 0))) H'
theorem ok_with_just (T : Top K mg) : FnOk P w K mg base CX0 2 T.f_with_just T.d_with_just ["just", "often"] spWithJust := by
  have G_by_turns := ok_by_turns (P := P) (w := w) (base := base) T
  refine T.F_with_just.ok sc_with_just (fun vs H Q E h => ?_) (fun cdv A outer s H vs Q E hr h => ?_)
  · obtain ⟨j, n, L, ns, rfl, _⟩ := h; rfl
  · obtain ⟨j, n, L, ns, rfl, hL, ln, hn, hj, hb, q⟩ := h
    refine ⟨_, (pss_one (ps_ret (pe_call G_by_turns (hr.mono (by decide)) rfl T.g_by_turns T.F_by_turns.kp T.b_by_turns .nil pass0 (pa_cons (pe_lc (own := [("many", 2)]) (g := gName 2) (by rfl) sc_with_just.nd (pi_range2 (by rfl) T.n_range (pa_cons (pv 0) (pa_cons (pe_callB call_len_seq (by rfl) T.n_len (by decide +kernel) (pa_cons (pv 1) pa_nil)) pa_nil))) (blkOk_by (own := [("many", 2)]) (N := ["just", "often", "many"]) (sc := defScope s_with_just) (by decide +kernel)) (fun _ _ _ _ _ => by exact (pg_name (i := 2) sc_with_just.nd rfl (Or.inl rfl))) (fun _ _ _ _ _ => by exact (pts_nil)) (fun _ _ _ _ _ => by exact (pe_op op_mulW (pe_callBfun cr_comb rfl T.i_comb (pa_cons (pv 2) (pa_cons (pv 0) pa_nil))) (pe_ix (ix_listB (K := K) rfl) (pv 1) (pv 2) (fun _ _ => rfl))))) pa_nil)))), ?_⟩
    refine ⟨_, rfl, _, rfl, L, _, rfl, .inl (SqL.of hL), j, _, rfl, ⟨by omega, by omega, by omega, by rw [List.length_map]; omega⟩, ?_⟩
    rw [show ((((ns.map V.int).length : Nat) : Int) - (j : Int)).toNat = n + 1 - j by rw [List.length_map]; omega]
    refine fun D hD => lc_range (lo := (j : Int)) (n := n + 1 - j) (fun i H' => Same H H' ∧ H' D = some (.lst (((List.range i).map fun i => ((chs (j + i) j : Nat) : Int) * (ns[j + i]?).getD 0).map V.int))) ⟨same_new hD, upd_same⟩ ?_ ?_
    · rintro i H1 hi ⟨s1, e1⟩
      obtain ⟨z, hz⟩ : ∃ z, ns[j + i]? = some z := ⟨_, List.getElem?_eq_getElem (by omega)⟩
      have hx : (ns.map V.int)[j + i]? = some (.int z) := by rw [List.getElem?_map, hz]; rfl
      have zb := hb z (List.mem_of_getElem? hz)
      have cb := (chs_small (j + i) (by omega) j (by omega)).2
      refine ⟨rfl, ?_⟩
      refine ⟨_, rfl, _, rfl, j + i, j, congrArg (fun x => [V.int x, V.int j]) (show (j : Int) + i = ((j + i : Nat) : Int) by omega), by omega, by omega, _, rfl, _, rfl, L, _, _, _, rfl, rfl, SqL.of (s1 _ _ hL), at_of (j := j + i) (by omega) hx, _, _, rfl, rfl, wide_mul (a := 10) (b := 20000) (by rw [Int.natAbs_natCast]; exact Nat.lt_of_le_of_lt cb (by decide)) zb (by decide) (by decide) (by decide), _, e1, ?_, same_at s1 hD, ?_⟩
      · rw [List.length_map, List.length_map, List.length_range]
        exact Nat.lt_of_lt_of_le (show i < 12 by omega) (by decide)
      · rw [upd_same, List.range_succ, List.map_append, List.map_append, List.map_cons, List.map_cons, hz]
        rfl
    · rintro H1 ⟨s1, e1⟩
      exact ⟨D, _, rfl, e1, fun H2 s2 => q H2 (s1.trans s2)⟩
def MeetA (C : Addr) (H : Hp) (M : Addr) (k n : Nat) (mss : Nat → List (Int × Int)) : Prop := ∃ as : List Addr, H M = some (.lst (as.map V.ref)) ∧ as.length = n + 1 ∧ ∀ (m : Nat) a, as[m]? = some a → ∃ xs, H a = some (.lst xs) ∧ AllL C H (k * m + 1) xs (mss m)
def spOften (C : Addr) : Sp := fun vs H Q _ => ∃ (M : Addr) (k n : Nat) (L : Nat) (mss : Nat → List (Int × Int)), vs = [.ref M, .int L] ∧ MeetA C H M k n mss ∧ k ≤ 700 ∧ n ≤ 10 ∧ L < 2 ^ 10000 ∧ (∀ m, (mss m).length ≤ 1000) ∧ (∀ m, Nrm (mss m)) ∧
  ∀ p H', Same H H' → H p = none → H' p = some (.lst (((List.range (n + 1)).map fun m => oftenN (mss m) L).map V.int)) → Q (.ref p) H'
theorem ok_often (T : Top K mg) : FnOk P w K mg base CX0 1 T.f_often T.d_often ["meetings", "long"] (spOften T.C_Lamp) := by
  refine T.F_often.ok sc_often (fun vs H Q E h => ?_) (fun cdv A outer s H vs Q E hr h => ?_)
  · obtain ⟨M, k, n, L, mss, rfl, _⟩ := h; rfl
  · obtain ⟨M, k, n, L, mss, rfl, hM, hk, hn, hL, hl, hN, q⟩ := h
    refine ⟨_, (pss_one (ps_ret (pe_lc (own := [("lamps", 2)]) (g := gName 2) (by rfl) sc_often.nd (pi_list (pv 0)) (blkOk_by (own := [("lamps", 2)]) (N := ["meetings", "long", "lamps", "lamp"]) (sc := defScope s_often) (by decide +kernel)) (fun _ _ _ _ _ => by exact (pg_name (i := 2) sc_often.nd rfl (Or.inl rfl))) (fun _ _ _ _ _ => by exact (pts_nil)) (fun _ _ _ _ _ => by exact (pe_callB (cr_sumB (K := K) rfl rfl) (by rfl) T.n_sum (by decide +kernel) (pa_cons (pe_lc (own := [("lamp", 3)]) (g := gName 3) (by rfl) sc_often.nd (pi_listK (K := K) rfl (pv 2)) (blkOk_by (own := [("lamp", 3)]) (N := ["meetings", "long", "lamps", "lamp"]) (by kernel_rfl)) (fun _ _ _ _ _ => by exact (pg_name (i := 3) sc_often.nd rfl (Or.inl rfl))) (fun _ _ _ _ _ => by exact (pts_nil)) (fun _ _ _ _ _ => by exact (pe_op op_add (pe_op op_fdivW (pe_op op_sub (pe_op op_sub (pv 1) pe_int) (pe_fldB (K := K) rfl (pv 3) rfl)) (pe_fldB (K := K) rfl (pv 3) rfl)) pe_int))) pa_nil)))))), ?_⟩
    obtain ⟨as, eM, la, hA⟩ := hM
    refine ⟨_, rfl, M, rfl, ⟨_, SqL.of eM⟩, fun D hD => lc_list (K := K) (a := M) (xs := as.map V.ref) (fun i H' => Same H H' ∧ H' D = some (.lst (((List.range i).map fun m => oftenN (mss m) L).map V.int))) ⟨same_new hD, upd_same⟩ (fun i H' _ ⟨s1, _⟩ => SqL.of (s1 _ _ eM)) (fun m x H1 hi ⟨s1, e1⟩ => ?_) (fun H1 ⟨s1, e1⟩ => ?_)⟩
    · obtain ⟨a, ea, rfl⟩ := get_map hi
      have hm := (List.getElem?_eq_some_iff.mp ea).1
      obtain ⟨xs, ex, hx⟩ := hA m a ea
      have ex1 := s1 _ _ ex
      have hx1 := hx.same s1
      refine ⟨rfl, ?_⟩
      refine ⟨_, rfl, a, rfl, ⟨_, SqL.of ex1⟩, fun D2 hD2 => lc_list (K := K) (a := a) (xs := xs) (fun i H' => Same H1 H' ∧ H' D2 = some (.lst ((((mss m).take i).map fun x => ((L : Int) - 1 - x.2) / x.1 + 1).map V.int))) ⟨same_new hD2, upd_same⟩ (fun i H' _ ⟨s2, _⟩ => SqL.of (s2 _ _ ex1)) (fun i x H2 hi2 ⟨s2, e2⟩ => ?_) (fun H2 ⟨s2, e2⟩ => ?_)⟩
      · obtain ⟨c, l, rfl, el, ho⟩ := hx1.at hi2
        have ho2 := ho.same s2
        obtain ⟨p0, b0, bp⟩ := ho2.ok _ rfl
        have pb : l.1.natAbs < 2 ^ 8000 := by
          obtain ⟨_, _, _, _, _, _, z⟩ := ho2
          refine Nat.lt_of_lt_of_le z (Nat.pow_le_pow_right (by decide) ?_)
          have : k * m ≤ 700 * 10 := Nat.mul_le_mul hk (by omega)
          omega
        refine ⟨rfl, ?_⟩
        refine ⟨_, rfl, _, _, rfl, rfl, _, rfl, _, _, _, _, _, rfl, (ho2.lamp).choose_spec, T.cl_Lamp, T.na_Lamp_beat, lf_beat _ _, _, _, rfl, rfl, _, rfl, _, _, _, _, _, rfl, (ho2.lamp).choose_spec, T.cl_Lamp, T.na_Lamp_period, lf_period _ _, _, _, rfl, rfl, wide_div (b := 8000) p0 pb (by decide) (by decide), _, _, rfl, rfl, _, e2, ?_, same_at s2 hD2, ?_⟩
        · have h1 := List.length_take_le' i (mss m)
          have h2 := hl m
          rw [List.length_map, List.length_map]
          exact Nat.lt_of_lt_of_le (show _ < 1001 by omega) (by decide)
        · rw [upd_same, List.take_succ, el, List.map_append, List.map_append]
          rfl
      · rw [hx.1, List.take_length] at e2
        have hD1 : H1 D ≠ none := by rw [e1]; exact fun z => nomatch z
        refine ⟨D2, _, rfl, SqL.of e2, _, s2 _ _ e1, ?_, same_at (s1.trans s2) hD, ?_⟩
        · rw [List.length_map, List.length_map, List.length_range]
          exact Nat.lt_of_lt_of_le (show m < 12 by omega) (by decide)
        · rw [upd_same, List.range_succ, List.map_append, List.map_append]
          rfl
    · rw [List.length_map, la] at e1
      exact q D H1 s1 hD e1
/-- lists of lamps, all new -/
def MeetF (C : Addr) (H0 H : Hp) (M : Addr) (k n : Nat) (mss : Nat → List (Int × Int)) : Prop := ∃ as : List Addr, H M = some (.lst (as.map V.ref)) ∧ as.length = n + 1 ∧ as.Nodup ∧ M ∉ as ∧ H0 M = none ∧ (∀ a ∈ as, H0 a = none) ∧
  ∀ (m : Nat) a, as[m]? = some a → ∃ xs, H a = some (.lst xs) ∧ AllL C H (k * m + 1) xs (mss m)
theorem MeetF.a {C : Addr} {H0 H : Hp} {M : Addr} {k n : Nat} {mss : Nat → List (Int × Int)} (h : MeetF C H0 H M k n mss) : MeetA C H M k n mss := let ⟨as, a, b, _, _, _, _, c⟩ := h; ⟨as, a, b, c⟩
theorem MeetF.same {C : Addr} {H0 H H' : Hp} {M : Addr} {k n : Nat} {mss : Nat → List (Int × Int)} (h : MeetF C H0 H M k n mss) (s : Same H H') : MeetF C H0 H' M k n mss :=
  let ⟨as, a, b, c, d, e, f, g⟩ := h; ⟨as, s _ _ a, b, c, d, e, f, fun m x hx => let ⟨xs, h1, h2⟩ := g m x hx; ⟨xs, s _ _ h1, h2.same s⟩⟩
theorem MeetF.ext {C : Addr} {H0 H : Hp} {M : Addr} {k n : Nat} {mss mss' : Nat → List (Int × Int)} (h : MeetF C H0 H M k n mss) (e : ∀ m, m ≤ n → mss m = mss' m) : MeetF C H0 H M k n mss' :=
  let ⟨as, a, b, c, d, e', f, g⟩ := h; ⟨as, a, b, c, d, e', f, fun m x hx => let ⟨xs, h1, h2⟩ := g m x hx; ⟨xs, h1, e m (by have := (List.getElem?_eq_some_iff.mp hx).1; omega) ▸ h2⟩⟩
theorem MeetF.put {C : Addr} {H0 H : Hp} {M a : Addr} {k n m0 : Nat} {mss : Nat → List (Int × Int)} {as : List Addr} {xs ys : List V} {Y : List (Int × Int)} (eM : H M = some (.lst (as.map V.ref))) (la : as.length = n + 1) (nd : as.Nodup) (nM : M ∉ as) (h0 : H0 M = none) (ha0 : ∀ a ∈ as, H0 a = none)
    (hA : ∀ (m : Nat) a, as[m]? = some a → ∃ xs, H a = some (.lst xs) ∧ AllL C H (k * m + 1) xs (mss m)) (ea : as[m0]? = some a) (ex : H a = some (.lst xs)) (hx : AllL C H (k * m0 + 1) (xs ++ ys) (mss m0 ++ Y)) :
    MeetF C H0 (upd H a (.lst (xs ++ ys))) M k n (fun m => if m = m0 then mss m0 ++ Y else mss m) := by
  have am := List.mem_of_getElem? ea
  refine ⟨as, by (rw [upd_ne (show M ≠ a from fun e => nM (by rw [e]; exact am))]; exact eM), la, nd, nM, h0, ha0, fun m c hc => ?_⟩
  by_cases hm : m = m0
  · subst hm
    rw [ea] at hc
    cases hc
    refine ⟨xs ++ ys, upd_same, ?_⟩
    dsimp only
    rw [if_pos rfl]
    exact hx.mut ex
  · obtain ⟨zs, h1, h2⟩ := hA m c hc
    have hca : c ≠ a := fun e => by
      subst e
      have i1 := List.getElem?_eq_some_iff.mp hc
      have i2 := List.getElem?_eq_some_iff.mp ea
      obtain ⟨i1, e1⟩ := i1
      obtain ⟨i2, e2⟩ := i2
      exact hm ((List.getElem_inj nd (h₀ := i1) (h₁ := i2)).mp (e1.trans e2.symm))
    refine ⟨zs, by rw [upd_ne hca]; exact h1, ?_⟩
    dsimp only
    rw [if_neg hm]
    exact h2.mut ex
def spMeetings (C CG : Addr) : Sp := fun vs H Q _ => ∃ (g : Addr) (b : Int) (lim k : Nat) (ls : List (Int × Int)), vs = [.ref g, .int b, .int lim] ∧ LightAt C CG H g k ls ∧ ls.length ≤ 10 ∧ k ≤ 700 ∧
  ∀ M mss H', Same H H' → H M = none → MeetA C H' M k ls.length mss → Tally mss ls b lim → TallyX mss ls → Q (.ref M) H'
theorem ok_meetings (T : Top K mg) : FnOk P w K mg base CX0 6 T.f_meetings T.d_meetings ["light", "begin", "long"] (spMeetings T.C_Lamp T.C_Light) := by
  have G_Lamp_init := ok_Lamp_init (P := P) (w := w) (base := base) T
  have G_Light_lamps := ok_Light_lamps (P := P) (w := w) (base := base) T
  have G_meet := ok_meet (P := P) (w := w) (base := base) T
  refine T.F_meetings.ok sc_meetings (fun vs H Q E h => ?_) (fun cdv A outer s H vs Q E hr h => ?_)
  · obtain ⟨g, b, lim, k, ls, rfl, _⟩ := h; rfl
  · obtain ⟨g, b, lim, k, ls, rfl, hg, hn, hk, q⟩ := h
    refine ⟨_, (pss_cons (ps_setLc (i := 3) (own := [("lamp", 5)]) (g := gName 5) (by rfl) sc_meetings.nd rfl rfl (sw_true rfl rfl rfl (by decide +kernel)) (pi_list (pe_meth0 (pv 0) T.cl_Light T.m_Light_lamps G_Light_lamps (hr.mono (by decide)) T.b_Light_lamps .nil pass0)) (blkOk_by (own := [("lamp", 5)]) (N := ["light", "begin", "long", "lamps", "meetings", "lamp", "many", "met", "fewer", "more"]) (sc := defScope s_meetings) (by decide +kernel)) (fun _ _ _ _ _ => by exact (pg_name (i := 5) sc_meetings.nd rfl (Or.inl rfl))) (fun _ _ _ _ _ => by exact (pts_nil)) (fun _ _ _ _ _ => by exact (pe_make T.mk_Lamp G_Lamp_init (hr.mono (by decide)) (by rfl) T.gC_Lamp T.b_Lamp_init .nil pass0 (pa_cons (pe_fldB (K := K) rfl (pv 5) rfl) (pa_cons (pe_op op_sub (pe_fldB (K := K) rfl (pv 5) rfl) (pv 1)) pa_nil)))))
      (pss_cons (ps_set (i := 4) sc_meetings.nd rfl (Or.inl rfl) (pe_op op_catS (pe_lst (pa_cons (pe_lst (pa_cons (pe_make T.mk_Lamp G_Lamp_init (hr.mono (by decide)) (by rfl) T.gC_Lamp T.b_Lamp_init .nil pass0 (pa_cons pe_int (pa_cons pe_int pa_nil))) pa_nil)) pa_nil)) (pe_lc (own := [("lamp", 5)]) (g := gName 5) (by rfl) sc_meetings.nd (pi_list (pv 3)) (blkOk_by (own := [("lamp", 5)]) (N := ["light", "begin", "long", "lamps", "meetings", "lamp", "many", "met", "fewer", "more"]) (sc := defScope s_meetings) (by decide +kernel)) (fun _ _ _ _ _ => by exact (pg_name (i := 5) sc_meetings.nd rfl (Or.inl rfl))) (fun _ _ _ _ _ => by exact (pts_nil)) (fun _ _ _ _ _ => by exact (pe_lst pa_nil)))))
      (pss_cons (ps_for PassesOwn.never rfl (pi_list (pv 3)) (pg_name (i := 5) sc_meetings.nd rfl (Or.inr rfl)) (pss_one (ps_for PassesOwn.never rfl (pi_revR (by rfl) T.n_reversed (prg_1 (by rfl) T.n_range (pe_callB call_len_seq (by rfl) T.n_len (by decide +kernel) (pa_cons (pv 3) pa_nil)))) (pg_name (i := 6) sc_meetings.nd rfl (Or.inl rfl)) (pss_cons (ps_setLc (i := 7) (own := [("fewer", 8)]) (g := gName 8) (by rfl) sc_meetings.nd rfl rfl (sw_true rfl rfl rfl (by decide +kernel)) (pi_list (pe_ix ix_list (pv 4) (pv 6) (fun _ _ => rfl))) (blkOk_by (own := [("fewer", 8)]) (N := ["light", "begin", "long", "lamps", "meetings", "lamp", "many", "met", "fewer", "more"]) (sc := defScope s_meetings) (by decide +kernel)) (fun _ _ _ _ _ => by exact (pg_name (i := 8) sc_meetings.nd rfl (Or.inl rfl))) (fun _ _ _ _ _ => by exact (pts_nil)) (fun _ _ _ _ _ => by exact (pe_call G_meet (hr.mono (by decide)) rfl T.g_meet T.F_meet.kp T.b_meet .nil pass0 (pa_cons (pv 8) (pa_cons (pv 5) pa_nil)))))
      (pss_one (ps_expr (pe_bm PySem.F.plainAttrs_list PySem.F.slot_list_extend PySem.F.type_list_extend mt_extend (pe_ix ix_list (pv 4) (pe_op op_add (pv 6) pe_int) (fun _ _ => rfl)) (pa_cons (pe_lc (own := [("more", 9)]) (g := gName 9) (tt := _) (by rfl) sc_meetings.nd (pi_list (pv 7)) (blkOk_by (own := [("more", 9)]) (N := ["light", "begin", "long", "lamps", "meetings", "lamp", "many", "met", "fewer", "more"]) (sc := defScope s_meetings) (by decide +kernel)) (fun _ _ _ _ _ => by exact (pg_name (i := 9) sc_meetings.nd rfl (Or.inl rfl))) (fun _ _ _ _ _ => by exact (pts_one (PW.pt (pw_and (pt_cmpR op_notN (pv 9) pe_non (nomark _)) (pw_and1 (pt_cmpR op_lt (pe_fldB (K := K) rfl (pv 9) rfl) (pv 2) (nomark _))))))) (fun _ _ _ _ _ => by exact ((pv 9)))) pa_nil))))))))
      (pss_one (ps_ret (pv 4)))))), ?_⟩
    obtain ⟨dx, _, _, hg0, _, _⟩ := id hg
    -- lamps
    refine ⟨_, rfl, g, dx, _, rfl, hg0, gf_no _ (by decide +kernel), g, k, ls, rfl, hg, hn, fun p ys H1 s1 hp hp1 ha1 => ?_⟩
    refine ⟨p, rfl, ⟨_, SqL.of hp1⟩, fun D hD => lc_list (K := K) (a := p) (xs := ys) (fun i H' => Same H1 H' ∧ ∃ zs, H' D = some (.lst zs) ∧ AllL T.C_Lamp H' k zs ((shL b ls).take i))
      ⟨same_new hD, [], upd_same, rfl, fun i v l h => by cases h⟩ (fun i H' _ ⟨s2, _⟩ => SqL.of (s2 _ _ hp1)) (fun i x H' hi ⟨s2, zs, hD', ha'⟩ => ?_) (fun H2 ⟨s2, zs, eD, hz⟩ => ?_)⟩
    · obtain ⟨a, l, rfl, el, ha⟩ := ha1.at hi
      have ha2 := ha.same s2
      obtain ⟨p0, b0, bp⟩ := ha2.ok _ rfl
      refine ⟨rfl, ?_⟩
      refine ⟨_, rfl, _, _, _, _, _, rfl, (ha2.lamp).choose_spec, T.cl_Lamp, T.na_Lamp_period, lf_period _ _, _, rfl, _, _, _, _, _, rfl, (ha2.lamp).choose_spec, T.cl_Lamp, T.na_Lamp_beat, lf_beat _ _, _, rfl, _, _, rfl, rfl, ?_⟩
      intro x dx nx ndx nex; refine ⟨x, dx, l.1, l.2 - b, rfl, upd_same, p0, fun H3 hx kx => ⟨rfl, ?_⟩⟩; have sx := Same.made nx ndx kx; clear kx nex ndx
      have hD3 := sx _ _ hD'
      refine ⟨zs, hD3, ?_, same_at (s2.trans sx) hD, _, upd_same, ?_⟩
      · rw [ha'.1, List.length_take]
        unfold shL
        rw [List.length_map]
        exact Nat.lt_of_lt_of_le (show min i ls.length < 11 by omega) (by decide)
      · have el2 : (shL b ls)[i]? = some (l.1, (l.2 - b) % l.1) := by unfold shL; rw [List.getElem?_map, el]; rfl
        rw [List.take_succ, el2]
        refine AllL.more (AllL.mut (ha'.same sx) hD3) (OAt.mut ⟨x, rfl, hx, p0, Int.emod_nonneg _ (by show l.1 ≠ 0; omega), Int.emod_lt_of_pos _ p0, ?_⟩ hD3)
        obtain ⟨_, _, _, _, _, _, z⟩ := ha
        exact z
    have lsh : (shL b ls).length = ls.length := by unfold shL; rw [List.length_map]
    rw [ha1.1, ← lsh, List.take_length] at hz
    have lz : zs.length = ls.length := by rw [hz.1, lsh]
    have S2 := s1.trans s2
    clear hg hg0 hp hp1 ha1 s1 s2 hD
    -- [[Lamp(1, 0)]]
    intro x0 dx0 nx0 ndx0 nex0; refine ⟨x0, dx0, 1, 0, rfl, upd_same, (by decide), fun H3 hx0 kx0 => ⟨rfl, ?_⟩⟩; have sx0 := Same.made nx0 ndx0 kx0; clear kx0 nex0 ndx0
    refine ⟨(by show 1 ≤ sizeLine; decide), fun l1 hl1 => ?_⟩
    generalize hX_ : upd _ l1 _ = H4; have sl1 := Same.of_upd hX_ hl1; have el1 := upd_of hX_; clear hX_
    refine ⟨(by show 1 ≤ sizeLine; decide), fun l2 hl2 => ?_⟩
    generalize hX_ : upd _ l2 _ = H5; have sl2 := Same.of_upd hX_ hl2; have el2 := upd_of hX_; clear hX_
    have S5 := sx0.trans (sl1.trans sl2)
    have nl1 := back_none sx0 hl1
    have eD5 := S5 _ _ eD
    refine ⟨_, rfl, D, rfl, ⟨_, SqL.of eD5⟩, fun B hB => lc_list (K := K) (a := D) (xs := zs) (fun i H' => Same H5 H' ∧ RowsAt H5 H' B i (fun _ => [])) ⟨same_new hB, RowsAt.nil hB⟩ (fun i H' _ ⟨s6, _⟩ => SqL.of (s6 _ _ eD5)) (fun i x H6 hi ⟨s6, hr⟩ => ?_) (fun H6 ⟨s6, hr⟩ => ?_)⟩
    · have hil := (List.getElem?_eq_some_iff.mp hi).1
      refine ⟨rfl, ?_⟩
      refine ⟨(by show 0 ≤ sizeLine; decide), fun l hl => ?_⟩
      obtain ⟨as, hD2, len, s3, r3, lD⟩ := hr.more s6 hl
      refine ⟨as.map V.ref, by rw [upd_ne lD.symm]; exact hD2, ?_, s3, r3⟩
      rw [List.length_map, len]
      exact Nat.lt_of_lt_of_le (show i < 12 by omega) (by decide)
    obtain ⟨as, eB, la, nd, nB, B0, as0, hr⟩ := hr
    have el2' := s6 _ _ el2
    refine ⟨l2, B, _, _, rfl, rfl, SqL.of el2', SqL.of eB, ?_, fun M hM => ?_⟩
    · rw [List.length_map, la]
      exact Nat.le_trans (show 1 + zs.length ≤ 11 by omega) (by decide)
    rw [show ([V.ref l1] : List V) ++ as.map V.ref = (l1 :: as).map V.ref from rfl]
    generalize hX_ : upd _ M _ = H7; have sM := Same.of_upd hX_ hM; have eM := upd_of hX_; clear hX_
    have S7 := S5.trans (s6.trans sM)
    have mf : MeetF T.C_Lamp H2 H7 M k ls.length (fun m => if m = 0 then [(1, 0)] else []) := by
      have e1 : H7 l1 = some (.lst [.ref x0]) := sM _ _ (s6 _ _ (sl2 _ _ el1))
      refine ⟨l1 :: as, eM, by rw [List.length_cons, la, lz], List.nodup_cons.mpr ⟨fun h => ?_, nd⟩, fun h => ?_, back_none (S5.trans s6) hM, fun a ha => ?_, fun m a ea => ?_⟩
      · have := as0 l1 h
        rw [sl2 _ _ el1] at this
        cases this
      · rcases List.mem_cons.mp h with h | h
        · rw [h, s6 _ _ (sl2 _ _ el1)] at hM
          cases hM
        · obtain ⟨j, hj⟩ := List.getElem?_of_mem h
          rw [hr j M hj] at hM
          cases hM
      · rcases List.mem_cons.mp ha with rfl | ha
        · exact nl1
        · exact back_none S5 (as0 a ha)
      · cases m with
        | zero =>
          cases ea
          refine ⟨_, e1, alll_one ⟨x0, rfl, (hx0.same (sl1.trans (sl2.trans (s6.trans sM)))), by decide, by decide, by decide, ?_⟩⟩
          show (1 : Int).natAbs < 2 ^ (k * 0 + 1)
          rw [Nat.mul_zero]
          decide
        | succ m =>
          exact ⟨[], sM _ _ (hr m a ea), rfl, fun i v l h => by cases h⟩
    have eD7 := S7 _ _ eD
    clear hr as0 B0 nB nd la eB el2' hM eM s6 sM hB eD5 S5 nl1 el1 el2 sl1 sl2 hl1 hl2 sx0
    -- lamp by lamp
    refine ⟨_, rfl, D, rfl, ⟨_, SqL.of eD7⟩, for_list (K := K) (a := D) (xs := zs) (fun i σ H' => (∃ v5 v6 v7 v8 v9, σ = [some (.ref g), some (.int b), some (.int lim), some (.ref D), some (.ref M), v5, v6, v7, v8, v9]) ∧ Same H2 H' ∧ ∃ mss, MeetF T.C_Lamp H2 H' M k ls.length mss ∧ Tally mss (ls.take i) b lim ∧ TallyX mss (ls.take i)) ⟨⟨_, _, _, _, _, rfl⟩, S7, _, mf, Tally.zero b lim, TallyX.zero⟩ (fun i σ H' _ ⟨_, s8, _⟩ => SqL.of (s8 _ _ eD)) ?_ ?_⟩
    · clear mf S7
      rintro i x σ H8 hi ⟨⟨v5, v6, v7, v8, v9, rfl⟩, s8, mss, mf, ty, tx⟩
      obtain ⟨c, l', rfl, el', hc⟩ := hz.at hi
      obtain ⟨l, el, rfl⟩ := get_map el'
      have hil := (List.getElem?_eq_some_iff.mp el).1
      have eD8 := s8 _ _ eD
      refine ⟨_, rfl, D, _, rfl, .inl (SqL.of eD8), _, rfl, by decide, by decide, by omega, by omega, ?_⟩
      rw [show (((zs.length : Nat) : Int) - 0).toNat = ls.length by omega]
      refine for_it (walk_rangeC (lo := 0 + ((ls.length : Nat) : Int) - 1) (c := -1) (n := ls.length)) (fun j σ H' => (∃ v6 v7 v8 v9, σ = [some (.ref g), some (.int b), some (.int lim), some (.ref D), some (.ref M), some (.ref c), v6, v7, v8, v9]) ∧ Same H2 H' ∧ ∃ Ys : Nat → List (Int × Int), (∀ m, ls.length - j ≤ m → m < ls.length → ExtR (l.1, (l.2 - b) % l.1) lim (mss m) (Ys m)) ∧ MeetF T.C_Lamp H2 H' M k ls.length (fun m => if ls.length - j < m then mss m ++ Ys (m - 1) else mss m)) ⟨⟨_, _, _, _, rfl⟩, s8, fun _ => [], fun m h1 h2 => absurd h1 (by omega), mf.ext fun m hm => by rw [if_neg (by omega)]⟩ (fun _ _ _ _ _ => trivial) ?_ ?_
      · clear mf s8 eD8
        rintro j x σ H9 H9' hj ⟨⟨v6, v7, v8, v9, rfl⟩, s9, Ys, hY, as, eM, la, nd, nM, M0, as0, hA⟩ ⟨hEq, rfl⟩
        subst H9'
        obtain ⟨a, ea⟩ : ∃ a, as[ls.length - 1 - j]? = some a := ⟨_, List.getElem?_eq_getElem (by omega)⟩
        obtain ⟨a1, ea1⟩ : ∃ a1, as[ls.length - 1 - j + 1]? = some a1 := ⟨_, List.getElem?_eq_getElem (by omega)⟩
        obtain ⟨xs, ex, hx⟩ := hA _ a ea
        obtain ⟨xs1, ex1, hx1⟩ := hA _ a1 ea1
        dsimp only at hx hx1
        rw [if_neg (by omega)] at hx hx1
        have hq : (as.map V.ref)[ls.length - 1 - j]? = some (.ref a) := by rw [List.getElem?_map, ea]; rfl
        have hq1 : (as.map V.ref)[ls.length - 1 - j + 1]? = some (.ref a1) := by rw [List.getElem?_map, ea1]; rfl
        have kq : k * (ls.length - 1 - j) ≤ 700 * 10 := Nat.mul_le_mul hk (by omega)
        have lq := tx.len (ls.length - 1 - j)
        have lq1 := tx.len (ls.length - 1 - j + 1)
        have c1 := chs_le (ls.take i).length (by rw [List.length_take]; omega) (ls.length - 1 - j)
        have c2 := chs_le (ls.take i).length (by rw [List.length_take]; omega) (ls.length - 1 - j + 1)
        -- met
        refine ⟨_, rfl, _, rfl, M, _, _, _, rfl, rfl, SqL.of eM, at_of (j := ls.length - 1 - j) (by omega) hq, a, rfl, ⟨_, SqL.of ex⟩, fun E hE => lc_list (K := K) (a := a) (xs := xs) (fun i2 H' => Same H9 H' ∧ ∃ vs os, H' E = some (.lst vs) ∧ OAll T.C_Lamp H' (k * (ls.length - 1 - j) + 1 + k) vs os ∧ os.length = i2 ∧ ∀ (i3 : Nat) x o, (mss (ls.length - 1 - j))[i3]? = some x → os[i3]? = some o → MeetO (some x) (some (l.1, (l.2 - b) % l.1)) o) ⟨same_new hE, [], [], upd_same, ⟨rfl, fun i v o h => by cases h⟩, rfl, fun i x o _ h => by cases h⟩ (fun i2 H' _ ⟨s2, _⟩ => SqL.of (s2 _ _ ex)) (fun i2 x H10 hi2 ⟨s10, vs, os, h1, h2, h3, h4⟩ => ?_) (fun H10 ⟨s10, vs, os, eE, hO, lo, hm⟩ => ?_)⟩
        · obtain ⟨c2, y, rfl, ey, oy⟩ := hx.at hi2
          have hi3 := (List.getElem?_eq_some_iff.mp ey).1
          refine ⟨rfl, ?_⟩
          refine ⟨_, rfl, _, rfl, ?_⟩
          dsimp only [tNil, List.append_nil]
          refine meetO (E := E0) (oy.same s10) (hc.same (s9.trans s10)) (by omega) (by omega) fun o v H11 s11 ho hmo => ?_
          have h5 := s11 _ _ h1
          refine ⟨vs, h5, Nat.lt_of_lt_of_le (show vs.length < 1001 by rw [h2.1]; omega) (by decide), same_at (s10.trans s11) hE, vs ++ [v], os ++ [o], upd_same, ((h2.same s11).more ho).mut h5, by rw [List.length_append, h3]; rfl, fun i3 x o' e1 e2 => ?_⟩
          rcases snoc_at e2 with ⟨_, g2⟩ | ⟨g2, rfl⟩
          · exact h4 i3 x o' e1 g2
          · obtain rfl : i3 = i2 := by omega
            rw [ey] at e1
            cases e1
            exact hmo
        have lvs := hO.1
        -- extend
        have eM10 := s10 _ _ eM
        have ex10 := s10 _ _ ex1
        refine ⟨_, rfl, _, rfl, _, _, rfl, rfl, M, _, _, _, rfl, rfl, SqL.of eM10, at_of (j := ls.length - 1 - j + 1) (by omega) hq1, .inl ⟨rfl, _, SqL.of ex10⟩, _, rfl, E, rfl, ⟨_, SqL.of eE⟩, fun F hF => lc_list (K := K) (a := E) (xs := vs) (fun i2 H' => Same H10 H' ∧ ∃ us, H' F = some (.lst us) ∧ AllL T.C_Lamp H' (k * (ls.length - 1 - j) + 1 + k) us ((os.take i2).filterMap fun o => o.bind fun y => if y.2 < (lim : Int) then some y else none)) ⟨same_new hF, [], upd_same, rfl, fun i v l h => by cases h⟩ (fun i2 H' _ ⟨s2, _⟩ => SqL.of (s2 _ _ eE)) (fun i2 x H11 hi2 ⟨s11, us, h1, h2⟩ => ?_) (fun H11 ⟨s11, us, eF, hU⟩ => ?_)⟩
        · have hil2 := (List.getElem?_eq_some_iff.mp hi2).1
          obtain ⟨o, ho⟩ : ∃ o, os[i2]? = some o := ⟨_, List.getElem?_eq_getElem (by rw [← lvs]; exact hil2)⟩
          have o3 := (hO.2 i2 x o hi2 ho).same s11
          have et : (os.take (i2 + 1)).filterMap (fun o => o.bind fun y => if y.2 < (lim : Int) then some y else none) = (os.take i2).filterMap (fun o => o.bind fun y => if y.2 < (lim : Int) then some y else none) ++ (o.bind fun y => if y.2 < (lim : Int) then some y else none).toList := by
            rw [List.take_succ, ho, List.filterMap_append]
            exact congrArg _ (fm_one _ o)
          have lu : us.length ≤ 1000 := by
            rw [h2.1]
            refine Nat.le_trans (List.length_filterMap_le _ _) (Nat.le_trans (List.length_take_le' _ _) ?_)
            rw [lo, hx.1]
            omega
          refine ⟨rfl, ?_⟩
          rw [et]
          cases o with
          | none =>
            cases o3
            refine ⟨_, rfl, rfl, _, rfl, iteF ⟨s11, us, h1, ?_⟩⟩
            show AllL _ _ _ _ (_ ++ [])
            rw [List.append_nil]
            exact h2
          | some z =>
            obtain ⟨c2, rfl, o4⟩ : ∃ c2, x = .ref c2 ∧ OAt T.C_Lamp H11 (.ref c2) (k * (ls.length - 1 - j) + 1 + k) (some z) := by
              obtain ⟨c2, rfl, r⟩ := o3
              exact ⟨c2, rfl, c2, rfl, r⟩
            refine ⟨_, rfl, rfl, _, rfl, iteT ⟨_, rfl, _, _, _, _, _, rfl, (o4.lamp).choose_spec, T.cl_Lamp, T.na_Lamp_beat, lf_beat _ _, _, rfl, _, _, rfl, rfl, _, rfl, ite2 (fun hlt => ?_) (fun hlt => ?_)⟩⟩
            · have hlt : z.2 < (lim : Int) := of_decide_eq_true hlt
              rw [show ((some z : OLp).bind fun y => if y.2 < (lim : Int) then some y else none) = some z from if_pos hlt]
              exact ⟨_, rfl, us, h1, Nat.lt_of_lt_of_le (show us.length < 1001 by omega) (by decide), same_at s11 hF, us ++ [.ref c2], upd_same, (h2.more o4).mut h1⟩
            · have hlt : ¬ z.2 < (lim : Int) := fun h => hlt (decide_eq_true h)
              rw [show ((some z : OLp).bind fun y => if y.2 < (lim : Int) then some y else none) = none from if_neg hlt]
              refine ⟨s11, us, h1, ?_⟩
              show AllL _ _ _ _ (_ ++ [])
              rw [List.append_nil]
              exact h2
        rw [lvs, List.take_length] at hU
        have S11 := s10.trans s11
        have lU : us.length ≤ 1000 := by
          rw [hU.1]
          refine Nat.le_trans (List.length_filterMap_le _ _) ?_
          rw [lo, hx.1]
          omega
        have a1m := List.mem_of_getElem? ea1
        have ke : k * (ls.length - 1 - j + 1) + 1 = k * (ls.length - 1 - j) + 1 + k := by rw [Nat.mul_add, Nat.mul_one]; omega
        have hx11 := hx1.same S11
        rw [ke] at hx11
        have hap := hx11.app hU
        refine ⟨a1, F, xs1, us, rfl, rfl, s11 _ _ ex10, eF, ?_, ?_⟩
        · rw [hx1.1]
          exact Nat.le_trans (show _ ≤ 2000 by omega) (by decide)
        refine ⟨⟨_, _, _, _, rfl⟩, same_at (s9.trans S11) (as0 a1 a1m), fun m => if m = ls.length - 1 - j then (os.filterMap fun o => o.bind fun y => if y.2 < (lim : Int) then some y else none) else Ys m, fun m h1 h2 => ?_, ?_⟩
        · dsimp only
          by_cases hm2 : m = ls.length - 1 - j
          · rw [if_pos hm2, hm2]
            exact ⟨os, by rw [lo, hx.1], hm, rfl⟩
          · rw [if_neg hm2]
            exact hY m (by omega) h2
        · refine (MeetF.put (mss := fun m => if ls.length - j < m then mss m ++ Ys (m - 1) else mss m) (Y := os.filterMap fun o => o.bind fun y => if y.2 < (lim : Int) then some y else none) (S11 _ _ eM) la nd nM M0 as0 (fun m x hx => let ⟨xs, h1, h2⟩ := hA m x hx; ⟨xs, S11 _ _ h1, h2.same S11⟩) ea1 (S11 _ _ ex1) ?_).ext fun m hm2 => ?_
          · try dsimp only
            rw [if_neg (by omega), ke]
            exact hap
          · try dsimp only
            by_cases h1 : m = ls.length - 1 - j + 1
            · rw [if_pos h1, if_neg (by omega), if_pos (by omega), if_pos (by omega), h1]
            · rw [if_neg h1]
              by_cases h2 : ls.length - j < m
              · rw [if_pos h2, if_pos (by omega), if_neg (by omega)]
              · rw [if_neg h2, if_neg (by omega)]
      · rintro σ H9 ⟨⟨v6, v7, v8, v9, rfl⟩, s9, Ys, hY, mf⟩
        have et : ls.take (i + 1) = ls.take i ++ [l] := by rw [List.take_succ, el]; rfl
        have hs : ∀ m, ∃ Y, ExtR (l.1, (l.2 - b) % l.1) lim (mss m) Y ∧ (fun m => if m = 0 then mss 0 else mss m ++ (if m - 1 < ls.length then Ys (m - 1) else [])) (m + 1) = mss (m + 1) ++ Y := fun m => by
          by_cases hm : m < ls.length
          · refine ⟨Ys m, hY m (by omega) hm, ?_⟩
            show (if m + 1 = 0 then mss 0 else mss (m + 1) ++ (if m + 1 - 1 < ls.length then Ys (m + 1 - 1) else [])) = _
            rw [if_neg (by omega), Nat.add_sub_cancel, if_pos hm]
          · refine ⟨[], ?_, ?_⟩
            · rw [tx.none (m := m) (by rw [List.length_take]; omega)]
              exact ⟨[], rfl, fun i x o h _ => (nomatch h), rfl⟩
            · show (if m + 1 = 0 then mss 0 else mss (m + 1) ++ (if m + 1 - 1 < ls.length then Ys (m + 1 - 1) else [])) = _
              rw [if_neg (by omega), Nat.add_sub_cancel, if_neg hm]
        refine ⟨⟨_, _, _, _, _, rfl⟩, s9, fun m => if m = 0 then mss 0 else mss m ++ (if m - 1 < ls.length then Ys (m - 1) else []), mf.ext fun m hm => ?_, ?_, ?_⟩
        · show (if ls.length - ls.length < m then mss m ++ Ys (m - 1) else mss m) = (if m = 0 then mss 0 else mss m ++ (if m - 1 < ls.length then Ys (m - 1) else []))
          by_cases h0 : m = 0
          · rw [if_neg (by omega), if_pos h0, h0]
          · rw [if_pos (by omega), if_neg h0, if_pos (by omega)]
        · rw [et]
          exact ty.step rfl hs
        · rw [et]
          exact tx.step rfl hs
    · rintro σ H8 ⟨⟨v5, v6, v7, v8, v9, rfl⟩, s8, mss, mf, ty, tx⟩
      rw [lz, List.take_length] at ty tx
      exact ⟨_, rfl, q M mss H8 (S2.trans s8) (back_none S2 (by obtain ⟨_, _, _, _, _, h, _⟩ := mf; exact h)) mf.a ty tx⟩
end

section
variable {P : Program} {w : World} {K : PySem.W.Frag} {mg : Str → Option Value} {base : Heap}
def spByMany (C CG : Addr) : Sp := fun vs H Q _ => ∃ (g : Addr) (b e : Int) (k : Nat) (ls : List (Int × Int)), vs = [.ref g, .int b, .int e] ∧ LightAt C CG H g k ls ∧ ls.length ≤ 10 ∧ k ≤ 700 ∧ (e - b).toNat < 2 ^ 10000 ∧
  ∀ p H', Same H H' → H p = none → H' p = some (.lst (((List.range (ls.length + 1)).map fun j => justN ls b (e - b).toNat j).map V.int)) → Q (.ref p) H'
theorem ok_by_many (T : Top K mg) : FnOk P w K mg base CX0 7 T.f_by_many T.d_by_many ["light", "begin", "end"] (spByMany T.C_Lamp T.C_Light) := by
  have G_check_beat := ok_check_beat (P := P) (w := w) (base := base) T
  have G_meetings := ok_meetings (P := P) (w := w) (base := base) T
  have G_often := ok_often (P := P) (w := w) (base := base) T
  have G_with_just := ok_with_just (P := P) (w := w) (base := base) T
  refine T.F_by_many.ok sc_by_many (fun vs H Q E h => ?_) (fun cdv A outer s H vs Q E hr h => ?_)
  · obtain ⟨g, b, e, k, ls, rfl, _⟩ := h; rfl
  · obtain ⟨g, b, e, k, ls, rfl, hg, hn, hk, hL, q⟩ := h
    refine ⟨_, (pss_cons (ps_expr (pe_call G_check_beat (hr.mono (by decide)) rfl T.g_check_beat T.F_check_beat.kp T.b_check_beat .nil pass0 (pa_cons (pv 1) pa_nil)))
      (pss_cons (ps_expr (pe_call G_check_beat (hr.mono (by decide)) rfl T.g_check_beat T.F_check_beat.kp T.b_check_beat .nil pass0 (pa_cons (pv 2) pa_nil)))
      (pss_cons (ps_set (i := 3) sc_by_many.nd rfl (Or.inl rfl) (pe_callB (call_max2 rfl) (by rfl) T.n_max (by decide +kernel) (pa_cons pe_int (pa_cons (pe_op op_sub (pv 2) (pv 1)) pa_nil))))
      (pss_cons (ps_set (i := 4) sc_by_many.nd rfl (Or.inr rfl) (pe_call G_often (hr.mono (by decide)) rfl T.g_often T.F_often.kp T.b_often .nil pass0 (pa_cons (pe_call G_meetings (hr.mono (by decide)) rfl T.g_meetings T.F_meetings.kp T.b_meetings .nil pass0 (pa_cons (pv 0) (pa_cons (pv 1) (pa_cons (pv 3) pa_nil)))) (pa_cons (pv 3) pa_nil))))
      (pss_one (ps_ret (pe_lc (own := [("just", 5)]) (g := gName 5) (by rfl) sc_by_many.nd (pi_range1 (by rfl) T.n_range (pa_cons (pe_callB call_len_seq (by rfl) T.n_len (by decide +kernel) (pa_cons (pv 4) pa_nil)) pa_nil)) (blkOk_by (own := [("just", 5)]) (N := ["light", "begin", "end", "long", "often", "just"]) (sc := defScope s_by_many) (by decide +kernel)) (fun _ _ _ _ _ => by exact (pg_name (i := 5) sc_by_many.nd rfl (Or.inl rfl))) (fun _ _ _ _ _ => by exact (pts_nil)) (fun _ _ _ _ _ => by exact (pe_call G_with_just (hr.mono (by decide)) rfl T.g_with_just T.F_with_just.kp T.b_with_just .nil pass0 (pa_cons (pv 5) (pa_cons (pv 4) pa_nil))))))))))), ?_⟩
    refine ⟨_, rfl, b, rfl, ?_⟩
    refine ⟨_, rfl, e, rfl, ?_⟩
    obtain ⟨L, hLe⟩ : ∃ L, L = (e - b).toNat := ⟨_, rfl⟩
    have eL : (if e - b > 0 then e - b else 0) = (L : Int) := by
      split <;> omega
    refine ⟨_, rfl, _, rfl, _, _, rfl, rfl, _, _, rfl, ?_⟩
    refine ⟨_, rfl, _, rfl, _, rfl, g, b, L, k, ls, congrArg (fun x => [V.ref g, V.int b, V.int x]) eL, hg, hn, hk, fun M mss H1 s1 hM hA ty tx => ?_⟩
    have hl : ∀ m, (mss m).length ≤ 1000 := fun m => Nat.le_trans (tx.len m) (chs_le _ hn m)
    refine ⟨_, rfl, M, k, ls.length, L, mss, congrArg (fun x => [V.ref M, V.int x]) eL, hA, hk, hn, by omega, hl, ty.nrm, fun p H2 s2 hp ep => ?_⟩
    have S2 := s1.trans s2
    have lr : (((List.range (ls.length + 1)).map fun m => oftenN (mss m) L).map V.int).length = ls.length + 1 := by rw [List.length_map, List.length_map, List.length_range]
    refine ⟨_, rfl, p, _, rfl, .inl (SqL.of ep), (ls.length + 1 : Nat), by rw [lr], by omega, by omega, fun D hD => lc_range (lo := 0) (n := ls.length + 1) (fun i H' => Same H2 H' ∧ H' D = some (.lst (((List.range i).map fun j => justN ls b L j).map V.int))) ⟨same_new hD, upd_same⟩ ?_ ?_⟩
    · rintro j H3 hj ⟨s3, e3⟩
      refine ⟨rfl, ?_⟩
      refine ⟨_, rfl, _, rfl, j, ls.length, p, _, congrArg (fun x => [V.int x, V.ref p]) (Int.zero_add _), s3 _ _ ep, by rw [List.length_map, List.length_range], hn, by omega, fun z hz => ?_, fun H4 s4 => ?_⟩
      · obtain ⟨m, _, rfl⟩ := List.mem_map.mp hz
        obtain ⟨o0, o1⟩ := often_bd (ty.nrm m) L
        have h1 : ((mss m).length : Int) * L ≤ 1000 * L := Int.mul_le_mul_of_nonneg_right (by have := hl m; omega) (by omega)
        have h2 : (oftenN (mss m) L).natAbs ≤ 1000 * L := by omega
        refine Nat.lt_of_le_of_lt h2 (Nat.lt_of_lt_of_le (Nat.mul_lt_mul'' (show 1000 < 2 ^ 10 by decide) (show L < 2 ^ 10000 by omega)) ?_)
        rw [← Nat.pow_add]
        exact Nat.pow_le_pow_right (by decide) (by decide)
      have key : alt ((List.range (ls.length + 1 - j)).map fun i => ((chs (j + i) j : Nat) : Int) * (((List.range (ls.length + 1)).map fun m => oftenN (mss m) L)[j + i]?).getD 0) = justN ls b L j := by
        rw [← ty.just (Nat.le_refl L) hn (show j ≤ ls.length by omega)]
        congr 1
        refine List.map_congr_left fun i hi => ?_
        have hi := List.mem_range.mp hi
        rw [List.getElem?_map, List.getElem?_range (by omega)]
        rfl
      rw [key]
      refine ⟨_, s4 _ _ e3, ?_, same_at (s3.trans s4) hD, ?_⟩
      · rw [List.length_map, List.length_map, List.length_range]
        exact Nat.lt_of_lt_of_le (show j < 12 by omega) (by decide)
      · rw [upd_same, List.range_succ, List.map_append, List.map_append]
        rfl
    · rintro H3 ⟨s3, e3⟩
      rw [hLe] at e3
      exact q D H3 (S2.trans s3) (back_none S2 hD) e3
def spDarkB (C CG : Addr) : Sp := fun vs H Q _ => ∃ (g : Addr) (b e : Int) (k : Nat) (ls : List (Int × Int)), vs = [.ref g, .int b, .int e] ∧ LightAt C CG H g k ls ∧ ls.length ≤ 10 ∧ k ≤ 700 ∧ (e - b).toNat < 2 ^ 10000 ∧
  ∀ H', Same H H' → Q (.int (justN ls b (e - b).toNat 0)) H'
theorem ok_dark_between (T : Top K mg) : FnOk P w K mg base CX0 8 T.f_dark_between T.d_dark_between ["light", "begin", "end"] (spDarkB T.C_Lamp T.C_Light) := by
  have G_by_many := ok_by_many (P := P) (w := w) (base := base) T
  refine T.F_dark_between.ok sc_dark_between (fun vs H Q E h => ?_) (fun cdv A outer s H vs Q E hr h => ?_)
  · obtain ⟨g, b, e, k, ls, rfl, _⟩ := h; rfl
  · obtain ⟨g, b, e, k, ls, rfl, hg, hn, hk, hL, q⟩ := h
    refine ⟨_, (pss_one (ps_ret (pe_ix ix_list (pe_call G_by_many (hr.mono (by decide)) rfl T.g_by_many T.F_by_many.kp T.b_by_many .nil pass0 (pa_cons (pv 0) (pa_cons (pv 1) (pa_cons (pv 2) pa_nil)))) pe_int (fun _ _ => rfl)))), ?_⟩
    refine ⟨_, rfl, _, rfl, _, rfl, g, b, e, k, ls, rfl, hg, hn, hk, hL, fun p H1 s1 _ ep => ⟨p, _, _, _, rfl, rfl, SqL.of ep, at_of (j := 0) (v := .int (justN ls b (e - b).toNat 0)) rfl ?_, q H1 s1⟩⟩
    rw [List.getElem?_map, List.getElem?_map, List.getElem?_range (by omega)]
    rfl
end

section
variable {P : Program} {w : World} {K : PySem.W.Frag} {mg : Str → Option Value} {base : Heap}
/-! ### moved, stretched -/
def spMoved (C CG : Addr) : Sp := fun vs H Q _ => ∃ (g : Addr) (c : Int) (k : Nat) (ls : List (Int × Int)), vs = [.ref g, .int c] ∧ LightAt C CG H g k ls ∧ ls.length ≤ 10 ∧
  ∀ g' H', Same H H' → H g' = none → LightAt C CG H' g' k (mvL c ls) → Q (.ref g') H'
theorem ok_moved (T : Top K mg) : FnOk P w K mg base CX0 7 T.f_moved T.d_moved ["light", "by"] (spMoved T.C_Lamp T.C_Light) := by
  have G_Lamp_init := ok_Lamp_init (P := P) (w := w) (base := base) T
  have G_Light_init := ok_Light_init (P := P) (w := w) (base := base) T
  have G_Light_lamps := ok_Light_lamps (P := P) (w := w) (base := base) T
  have G_check_beat := ok_check_beat (P := P) (w := w) (base := base) T
  refine T.F_moved.ok sc_moved (fun vs H Q E h => ?_) (fun cdv A outer s H vs Q E hr h => ?_)
  · obtain ⟨g, c, k, ls, rfl, _⟩ := h; rfl
  · obtain ⟨g, c, k, ls, rfl, hg, hn, q⟩ := h
    refine ⟨_, (pss_cons (ps_expr (pe_call G_check_beat (hr.mono (by decide)) rfl T.g_check_beat T.F_check_beat.kp T.b_check_beat .nil pass0 (pa_cons (pv 1) pa_nil)))
      (pss_one (ps_ret (pe_make T.mk_Light G_Light_init (hr.mono (by decide)) (by rfl) T.gC_Light T.b_Light_init .nil pass0 (pa_cons (pe_lc (own := [("lamp", 2)]) (g := gName 2) (by rfl) sc_moved.nd (pi_list (pe_meth0 (pv 0) T.cl_Light T.m_Light_lamps G_Light_lamps (hr.mono (by decide)) T.b_Light_lamps .nil pass0)) (blkOk_by (own := [("lamp", 2)]) (N := ["light", "by", "lamp"]) (sc := defScope s_moved) (by decide +kernel)) (fun _ _ _ _ _ => by exact (pg_name (i := 2) sc_moved.nd rfl (Or.inl rfl))) (fun _ _ _ _ _ => by exact (pts_nil)) (fun _ _ _ _ _ => by exact (pe_make T.mk_Lamp G_Lamp_init (hr.mono (by decide)) (by rfl) T.gC_Lamp T.b_Lamp_init .nil pass0 (pa_cons (pe_fldB (K := K) rfl (pv 2) rfl) (pa_cons (pe_op op_add (pe_fldB (K := K) rfl (pv 2) rfl) (pv 1)) pa_nil))))) pa_nil))))), ?_⟩
    obtain ⟨dx, L, xs, hg0, _, _⟩ := id hg
    refine ⟨_, rfl, c, rfl, ?_⟩
    refine ⟨_, rfl, g, dx, _, rfl, hg0, gf_no _ (by decide +kernel), g, k, ls, rfl, hg, hn, fun p ys H1 s1 hp hp1 ha1 => ?_⟩
    refine ⟨p, rfl, ⟨_, SqL.of hp1⟩, fun D hD => lc_list (K := K) (a := p) (xs := ys) (fun i H' => Same H1 H' ∧ ∃ zs, H' D = some (.lst zs) ∧ AllL T.C_Lamp H' k zs ((mvL c ls).take i))
      ⟨same_new hD, [], upd_same, rfl, fun i v l h => by cases h⟩ (fun i H' _ ⟨s2, _⟩ => SqL.of (s2 _ _ hp1)) (fun i x H' hi ⟨s2, zs, hD', ha'⟩ => ?_) (fun H' ⟨s2, zs, hD', ha'⟩ => ?_)⟩
    · obtain ⟨a, l, rfl, el, ha⟩ := ha1.at hi
      have ha2 := ha.same s2
      obtain ⟨p0, b0, bp⟩ := ha2.ok _ rfl
      refine ⟨rfl, ?_⟩
      refine ⟨_, rfl, _, _, _, _, _, rfl, (ha2.lamp).choose_spec, T.cl_Lamp, T.na_Lamp_period, lf_period _ _, _, rfl, _, _, _, _, _, rfl, ha2.lamp.choose_spec, T.cl_Lamp, T.na_Lamp_beat, lf_beat _ _, _, rfl, _, _, rfl, rfl, ?_⟩
      intro x dx nx ndx nex; refine ⟨x, dx, l.1, l.2 + c, rfl, upd_same, p0, fun H3 hx kx => ⟨rfl, ?_⟩⟩; have sx := Same.made nx ndx kx; clear kx nex ndx
      have hD3 := sx _ _ hD'
      refine ⟨zs, hD3, ?_, same_at (s2.trans sx) hD, _, upd_same, ?_⟩
      · rw [ha'.1, List.length_take]
        unfold mvL
        rw [List.length_map]
        exact Nat.lt_of_lt_of_le (show min i ls.length < 11 by omega) (by decide)
      · have el2 : (mvL c ls)[i]? = some (l.1, (l.2 + c) % l.1) := by unfold mvL; rw [List.getElem?_map, el]; rfl
        rw [List.take_succ, el2]
        refine AllL.more (AllL.mut (ha'.same sx) hD3) (OAt.mut ⟨x, rfl, hx, p0, Int.emod_nonneg _ (by show l.1 ≠ 0; omega), Int.emod_lt_of_pos _ p0, ?_⟩ hD3)
        obtain ⟨_, _, _, _, _, _, z⟩ := ha
        exact z
    · have len : ys.length = (mvL c ls).length := by rw [ha1.1]; unfold mvL; rw [List.length_map]
      rw [len, List.take_length] at ha'
      refine make_light rfl hD' ha' (by rw [← len, ha1.1]; exact hn) fun g' H3 hg' s3 hl => ?_
      exact q g' H3 (s1.trans (s2.trans s3)) (back_none (s1.trans s2) hg') hl
def spStretched (C CG : Addr) : Sp := fun vs H Q _ => ∃ (g : Addr) (c : Int) (k m : Nat) (ls : List (Int × Int)), vs = [.ref g, .int c] ∧ LightAt C CG H g k ls ∧ ls.length ≤ 10 ∧ k ≤ 400 ∧ m ≤ 400 ∧ 0 < c ∧ c.natAbs < 2 ^ m ∧
  ∀ g' H', Same H H' → H g' = none → LightAt C CG H' g' (k + m) (stL c ls) → Q (.ref g') H'
theorem ok_stretched (T : Top K mg) : FnOk P w K mg base CX0 7 T.f_stretched T.d_stretched ["light", "times"] (spStretched T.C_Lamp T.C_Light) := by
  have G_Lamp_init := ok_Lamp_init (P := P) (w := w) (base := base) T
  have G_Light_init := ok_Light_init (P := P) (w := w) (base := base) T
  have G_Light_lamps := ok_Light_lamps (P := P) (w := w) (base := base) T
  have G_is_whole := ok_is_whole (P := P) (w := w) (base := base) T
  refine T.F_stretched.ok sc_stretched (fun vs H Q E h => ?_) (fun cdv A outer s H vs Q E hr h => ?_)
  · obtain ⟨g, c, k, m, ls, rfl, _⟩ := h; rfl
  · obtain ⟨g, c, k, m, ls, rfl, hg, hn, hk, hm, c0, cm, q⟩ := h
    refine ⟨_, (pss_cons (ps_if (PW.pt (pw_or (pt_not (pt_val (pe_call G_is_whole (hr.mono (by decide)) rfl T.g_is_whole T.F_is_whole.kp T.b_is_whole .nil pass0 (pa_cons (pv 1) pa_nil)))) (pw_or1 (pt_cmpR op_lt (pv 1) pe_int (nomark _))))) (pss_one (ps_never)) pss_nil)
      (pss_one (ps_ret (pe_make T.mk_Light G_Light_init (hr.mono (by decide)) (by rfl) T.gC_Light T.b_Light_init .nil pass0 (pa_cons (pe_lc (own := [("lamp", 2)]) (g := gName 2) (by rfl) sc_stretched.nd (pi_list (pe_meth0 (pv 0) T.cl_Light T.m_Light_lamps G_Light_lamps (hr.mono (by decide)) T.b_Light_lamps .nil pass0)) (blkOk_by (own := [("lamp", 2)]) (N := ["light", "times", "lamp"]) (sc := defScope s_stretched) (by decide +kernel)) (fun _ _ _ _ _ => by exact (pg_name (i := 2) sc_stretched.nd rfl (Or.inl rfl))) (fun _ _ _ _ _ => by exact (pts_nil)) (fun _ _ _ _ _ => by exact (pe_make T.mk_Lamp G_Lamp_init (hr.mono (by decide)) (by rfl) T.gC_Lamp T.b_Lamp_init .nil pass0 (pa_cons (pe_op op_mulW (pe_fldB (K := K) rfl (pv 2) rfl) (pv 1)) (pa_cons (pe_op op_mulW (pe_fldB (K := K) rfl (pv 2) rfl) (pv 1)) pa_nil))))) pa_nil))))), ?_⟩
    obtain ⟨dx, L, xs, hg0, _, _⟩ := id hg
    obtain ⟨c1, c2⟩ := lt400 cm hm
    refine ⟨_, rfl, c, rfl, true, rfl, iteF ⟨_, rfl, _, _, rfl, rfl, _, rfl, ite2 (fun z => absurd (of_decide_eq_true z) (by omega)) (fun _ => ?_)⟩⟩
    refine ⟨_, rfl, g, dx, _, rfl, hg0, gf_no _ (by decide +kernel), g, k, ls, rfl, hg, hn, fun p ys H1 s1 hp hp1 ha1 => ?_⟩
    refine ⟨p, rfl, ⟨_, SqL.of hp1⟩, fun D hD => lc_list (K := K) (a := p) (xs := ys) (fun i H' => Same H1 H' ∧ ∃ zs, H' D = some (.lst zs) ∧ AllL T.C_Lamp H' (k + m) zs ((stL c ls).take i))
      ⟨same_new hD, [], upd_same, rfl, fun i v l h => by cases h⟩ (fun i H' _ ⟨s2, _⟩ => SqL.of (s2 _ _ hp1)) (fun i x H' hi ⟨s2, zs, hD', ha'⟩ => ?_) (fun H' ⟨s2, zs, hD', ha'⟩ => ?_)⟩
    · obtain ⟨a, l, rfl, el, ha⟩ := ha1.at hi
      have ha2 := ha.same s2
      obtain ⟨p0, b0, bp⟩ := ha2.ok _ rfl
      obtain ⟨_, _, _, _, _, _, z⟩ := ha
      obtain ⟨z1, z2⟩ := lt400 z hk
      have pc : 0 < l.1 * c := Int.mul_pos p0 c0
      have bc : 0 ≤ l.2 * c := Int.mul_nonneg b0 (by omega)
      have bpc : l.2 * c < l.1 * c := Int.mul_lt_mul_of_pos_right bp c0
      refine ⟨rfl, ?_⟩
      refine ⟨_, rfl, _, _, _, _, _, rfl, ha2.lamp.choose_spec, T.cl_Lamp, T.na_Lamp_period, lf_period _ _, _, rfl, _, _, rfl, rfl, mw4 z1 z2 c1 c2, _, rfl, _, _, _, _, _, rfl, ha2.lamp.choose_spec, T.cl_Lamp, T.na_Lamp_beat, lf_beat _ _, _, rfl, _, _, rfl, rfl, mw4 (by omega) (by omega) c1 c2, ?_⟩
      intro x dx nx ndx nex; refine ⟨x, dx, l.1 * c, l.2 * c, rfl, upd_same, pc, fun H3 hx kx => ⟨rfl, ?_⟩⟩; have sx := Same.made nx ndx kx; clear kx nex ndx
      have hD3 := sx _ _ hD'
      refine ⟨zs, hD3, ?_, same_at (s2.trans sx) hD, _, upd_same, ?_⟩
      · rw [ha'.1, List.length_take]
        unfold stL
        rw [List.length_map]
        exact Nat.lt_of_lt_of_le (show min i ls.length < 11 by omega) (by decide)
      · have el2 : (stL c ls)[i]? = some (l.1 * c, l.2 * c) := by unfold stL; rw [List.getElem?_map, el]; rfl
        rw [List.take_succ, el2]
        rw [Int.emod_eq_of_lt bc bpc] at hx
        refine AllL.more (AllL.mut (ha'.same sx) hD3) (OAt.mut ⟨x, rfl, hx, pc, bc, bpc, ?_⟩ hD3)
        show (l.1 * c).natAbs < 2 ^ (k + m)
        rw [Int.natAbs_mul, Nat.pow_add]
        exact Nat.mul_lt_mul_of_lt_of_lt z cm
    · have len : ys.length = (stL c ls).length := by rw [ha1.1]; unfold stL; rw [List.length_map]
      rw [len, List.take_length] at ha'
      refine make_light rfl hD' ha' (by rw [← len, ha1.1]; exact hn) fun g' H3 hg' s3 hl => ?_
      exact q g' H3 (s1.trans (s2.trans s3)) (back_none (s1.trans s2) hg') hl
end

section
variable {P : Program} {w : World} {K : PySem.W.Frag} {mg : Str → Option Value} {base : Heap}
/-! ### thinned, joined -/
theorem SeenOs.more {l : Int × Int} {ls : List (Int × Int)} {os : List OLp} {i : Nat} {x : Int × Int} {o : OLp} (h : SeenOs l (ls.take i) os) (e : ls[i]? = some x) (ho : SeesO l (some x) o) : SeenOs l (ls.take (i + 1)) (os ++ [o]) := by
  rw [List.take_succ, e]
  refine ⟨by rw [List.length_append, List.length_append, h.1]; rfl, fun j y p e1 e2 => ?_⟩
  rcases snoc_at e1 with ⟨h1, g1⟩ | ⟨h1, rfl⟩ <;> rcases snoc_at e2 with ⟨h2, g2⟩ | ⟨h2, rfl⟩
  · exact h.2 j y p g1 g2
  · exact absurd h.1 (by omega)
  · exact absurd h.1 (by omega)
  · exact ho
def spThinned (C CG : Addr) : Sp := fun vs H Q _ => ∃ (g a : Addr) (k1 k : Nat) (l : Int × Int) (ls : List (Int × Int)), vs = [.ref g, .ref a] ∧ OAt C H (.ref a) k1 (some l) ∧ LightAt C CG H g k ls ∧ ls.length ≤ 10 ∧ k1 ≤ 8000 ∧ k ≤ 8000 ∧
  ∀ g' os H', Same H H' → H g' = none → SeenOs l ls os → LightAt C CG H' g' k (os.filterMap id) → Q (.ref g') H'
def spLightOf (C CG : Addr) : Sp := fun vs H Q _ => ∃ (L : Addr) (xs : List V) (ls : List (Int × Int)) (k : Nat), vs = [.ref L] ∧ H L = some (.lst xs) ∧ AllL C H k xs ls ∧ ls.length ≤ 10 ∧
  ∀ g' H', Same H H' → H g' = none → LightAt C CG H' g' k ls → Q (.ref g') H'
theorem ok_light_of (T : Top K mg) : FnOk P w K mg base CX0 7 T.f_light_of T.d_light_of ["lamps"] (spLightOf T.C_Lamp T.C_Light) := by
  have G_Light_init := ok_Light_init (P := P) (w := w) (base := base) T
  refine T.F_light_of.ok sc_light_of (fun vs H Q E h => ?_) (fun cdv A outer s H vs Q E hr h => ?_)
  · obtain ⟨L, xs, ls, k, rfl, _⟩ := h; rfl
  · obtain ⟨L, xs, ls, k, rfl, hL, ha, hn, q⟩ := h
    refine ⟨_, (pss_cons (ps_if (pt_cmpR op_gt (pe_callB call_len_seq (by rfl) T.n_len (by decide +kernel) (pa_cons (pv 0) pa_nil)) (pe_glob (v := .int 10) rfl T.c_MOST_LAMPS ⟨_, rfl⟩) (nomark _)) (pss_one (ps_never)) pss_nil)
      (pss_one (ps_ret (pe_make T.mk_Light G_Light_init (hr.mono (by decide)) (by rfl) T.gC_Light T.b_Light_init .nil pass0 (pa_cons (pv 0) pa_nil))))), ?_⟩
    refine ⟨_, rfl, L, _, rfl, .inl (SqL.of hL), _, _, rfl, rfl, _, rfl, ite2 (fun z => absurd (of_decide_eq_true z) (by rw [ha.1]; omega)) (fun _ => ?_)⟩
    refine ⟨_, rfl, make_light rfl hL ha hn fun g' H4 hg' s4 hl => ?_⟩
    exact q g' H4 s4 hg' hl
def spJoined (C CG : Addr) : Sp := fun vs H Q _ => ∃ (g h : Addr) (k : Nat) (ls ms : List (Int × Int)), vs = [.ref g, .ref h] ∧ LightAt C CG H g k ls ∧ LightAt C CG H h k ms ∧ ls.length + ms.length ≤ 10 ∧
  ∀ g' H', Same H H' → H g' = none → LightAt C CG H' g' k (ls ++ ms) → Q (.ref g') H'
theorem ok_joined (T : Top K mg) : FnOk P w K mg base CX0 8 T.f_joined T.d_joined ["one", "other"] (spJoined T.C_Lamp T.C_Light) := by
  have G_Light_lamps := ok_Light_lamps (P := P) (w := w) (base := base) T
  have G_light_of := ok_light_of (P := P) (w := w) (base := base) T
  refine T.F_joined.ok sc_joined (fun vs H Q E h => ?_) (fun cdv A outer s H vs Q E hr h => ?_)
  · obtain ⟨g, g2, k, ls, ms, rfl, _⟩ := h; rfl
  · obtain ⟨g, g2, k, ls, ms, rfl, hg, hh, hn, q⟩ := h
    refine ⟨_, (pss_one (ps_ret (pe_call G_light_of (hr.mono (by decide)) rfl T.g_light_of T.F_light_of.kp T.b_light_of .nil pass0 (pa_cons (pe_op op_catS (pe_meth0 (pv 0) T.cl_Light T.m_Light_lamps G_Light_lamps (hr.mono (by decide)) T.b_Light_lamps .nil pass0) (pe_meth0 (pv 1) T.cl_Light T.m_Light_lamps G_Light_lamps (hr.mono (by decide)) T.b_Light_lamps .nil pass0)) pa_nil)))), ?_⟩
    obtain ⟨dx, _, _, hg0, _, _⟩ := id hg
    obtain ⟨dx2, _, _, hh0, _, _⟩ := id hh
    refine ⟨_, rfl, g, dx, _, rfl, hg0, gf_no _ (by decide +kernel), g, k, ls, rfl, hg, by omega, fun p ys H1 s1 hp hp1 ha1 => ?_⟩
    refine ⟨_, rfl, g2, dx2, _, rfl, s1 _ _ hh0, gf_no _ (by decide +kernel), g2, k, ms, rfl, hh.same s1, by omega, fun p2 zs H2 s2 hp2 hp21 ha2 => ?_⟩
    refine ⟨p, p2, _, _, rfl, rfl, SqL.of (s2 _ _ hp1), SqL.of hp21, ?_, fun B hB => ?_⟩
    · rw [ha1.1, ha2.1]
      exact Nat.le_trans hn (by decide)
    have s3 := same_new (o := .lst (ys ++ zs)) hB
    have S3 := (s1.trans s2).trans s3
    refine ⟨B, _, ls ++ ms, k, rfl, upd_same, ((ha1.same s2).app ha2).same s3, by rw [List.length_append]; exact hn, fun g' H4 s4 hg' hl => ?_⟩
    exact q g' H4 (S3.trans s4) (back_none S3 hg') hl
end

section
variable {P : Program} {w : World} {K : PySem.W.Frag} {mg : Str → Option Value} {base : Heap}
/-! ### both -/
def key2 (l : Int × Int) : List Int := [l.1, l.2]
theorem key2_inj {l m : Int × Int} (h : key2 l = key2 m) : l = m := by
  unfold key2 at h
  injection h with h1 h2
  injection h2 with h2
  exact Prod.ext h1 h2
structure UnL (K : PySem.W.Frag) (C : Addr) (H0 H : Hp) (S U : Addr) (k : Nat) (P : Program) (w : World) (ls : List (Int × Int)) (i : Nat) : Prop where
  same : Same H0 H
  both : ∃ (Ls : List (Addr × List Int)) (ys : List V) (ms : List (Int × Int)), H S = some (SetTO P w S Ls) ∧ (∀ p ∈ Ls, H p.1 = some (.tup (p.2.map V.int))) ∧ H U = some (.lst ys) ∧ AllL C H k ys ms ∧ Ls.length ≤ i ∧ ms.length ≤ i ∧
    (∀ q, q ∈ ms ↔ q ∈ ls.take i) ∧ ∀ q : Int × Int, key2 q ∈ Ls.map (·.2) ↔ q ∈ ls.take i
def spUnlike (C : Addr) : Sp := fun vs H Q _ => ∃ (L : Addr) (xs : List V) (ls : List (Int × Int)) (k : Nat), vs = [.ref L] ∧ H L = some (.lst xs) ∧ AllL C H k xs ls ∧ ls.length ≤ 10 ∧
  ∀ U ys ms H', Same H H' → H U = none → H' U = some (.lst ys) → AllL C H' k ys ms → ms.length ≤ ls.length → (∀ q, q ∈ ms ↔ q ∈ ls) → Q (.ref U) H'
theorem ok_unlike (T : Top K mg) : FnOk P w K mg base CX0 3 T.f_unlike T.d_unlike ["lamps"] (spUnlike T.C_Lamp) := by
  have G_Lamp_eq := ok_Lamp_eq (P := P) (w := w) (base := base) T
  refine T.F_unlike.ok sc_unlike (fun vs H Q E h => ?_) (fun cdv A outer s H vs Q E hr h => ?_)
  · obtain ⟨L, xs, ls, k, rfl, _⟩ := h; rfl
  · obtain ⟨L, xs, ls, k, rfl, hL, ha, hn, q⟩ := h
    refine ⟨_, (pss_cons (ps_set (i := 1) sc_unlike.nd rfl (Or.inl rfl) (pe_callTy0 cr_set0T (by rfl) T.n_set (by decide +kernel)))
      (pss_cons (ps_set (i := 2) sc_unlike.nd rfl (Or.inl rfl) (pe_lst pa_nil))
      (pss_cons (ps_for PassesOwn.never rfl (pi_list (pv 0)) (pg_name (i := 3) sc_unlike.nd rfl (Or.inl rfl)) (pss_one (ps_if (pt_cmpR (op_tnot (Nat.lt_of_le_of_lt (Nat.add_le_add_left (by decide) _) hr.units)) (pe_tup (pa_cons (pe_fld (pv 3) rfl) (pa_cons (pe_fld (pv 3) rfl) pa_nil))) (pv 1) (by with_unfolding_all rfl)) (pss_cons (ps_expr (pe_tadd (Nat.lt_of_le_of_lt (Nat.add_le_add_left (by decide) _) hr.units) (pv 1) (pa_cons (pe_tup (pa_cons (pe_fld (pv 3) rfl) (pa_cons (pe_fld (pv 3) rfl) pa_nil))) pa_nil)))
      (pss_one (ps_expr (pe_bm PySem.F.plainAttrs_list PySem.F.slot_list_append PySem.F.type_list_append mt_append (pv 2) (pa_cons (pv 3) pa_nil))))) pss_nil)))
      (pss_one (ps_ret (pv 2)))))), ?_⟩
    refine ⟨rfl, fun S hS => ⟨(by show 0 ≤ sizeLine; decide), fun U hU => ?_⟩⟩
    have nSU : U ≠ S := fun e => by
      rw [e, upd_same] at hU
      cases hU
    have hU0 : H U = none := by
      rw [upd_ne nSU] at hU
      exact hU
    have s2 : Same H (upd (upd H S (SetTO P w S [])) U (.lst [])) := (same_new hS).trans (same_new hU)
    refine ⟨_, rfl, L, rfl, ⟨_, SqL.of (s2 _ _ hL)⟩, for_list (K := K) (a := L) (xs := xs) (fun i σ H' => (∃ v3, σ = [some (.ref L), some (.ref S), some (.ref U), v3]) ∧ UnL K T.C_Lamp H H' S U k P w ls i)
      ⟨⟨_, rfl⟩, s2, [], [], [], (upd_ne (Ne.symm nSU)).trans upd_same, (fun p hp => by cases hp), upd_same, ⟨rfl, fun i v l h => by cases h⟩, Nat.le_refl _, Nat.le_refl _, fun q => by simp, fun q => by simp⟩ (fun i σ H' _ ⟨_, u⟩ => SqL.of (u.same _ _ hL)) ?_ ?_⟩
    · rintro i x σ H3 hi ⟨⟨v3, rfl⟩, s3, Ls, ys, ms, eS, eT, eU, hy, l1, l2, m1, m2⟩
      obtain ⟨c, l, rfl, el, ho⟩ := ha.at hi
      have ho3 := ho.same s3
      have il : i < ls.length := (List.getElem?_eq_some_iff.mp el).1
      have tk : ∀ q : Int × Int, q ∈ ls.take (i + 1) ↔ q ∈ ls.take i ∨ q = l := fun q => by
        rw [List.take_succ, el, List.mem_append]
        simp
      refine ⟨_, rfl, _, _, _, _, _, rfl, (ho3.lamp).choose_spec, T.cl_Lamp, T.na_Lamp_period, lf_period _ _, _, rfl, _, _, _, _, _, rfl, (ho3.lamp).choose_spec, T.cl_Lamp, T.na_Lamp_beat, lf_beat _ _, (by show 2 ≤ sizeLine; decide), fun t ht => ?_⟩
      generalize hX_ : upd _ t _ = H4; have st := Same.of_upd hX_ ht; have et := upd_of hX_; clear hX_
      have eS4 := st _ _ eS
      have eU4 := st _ _ eU
      have eT4 : ∀ p ∈ Ls, H4 p.1 = some (.tup (p.2.map V.int)) := fun p hp => st _ _ (eT p hp)
      have ho4 := ho3.same st
      refine ⟨_, rfl, t, S, key2 l, Ls, rfl, rfl, SqT.of et, eS4, (fun p hp => SqT.of (eT4 p hp)), _, rfl, ite2 (fun c1 => ?_) (fun c1 => ?_)⟩
      · have c2 : key2 l ∉ Ls.map (·.2) := fun z => by
          rw [decide_eq_true z] at c1
          cases c1
        refine ⟨_, rfl, ⟨S, Ls, rfl, eS4, fun p hp => SqT.of (eT4 p hp)⟩, _, rfl, _, _, _, _, _, rfl, (ho4.lamp).choose_spec, T.cl_Lamp, T.na_Lamp_period, lf_period _ _, _, rfl, _, _, _, _, _, rfl, (ho4.lamp).choose_spec, T.cl_Lamp, T.na_Lamp_beat, lf_beat _ _, (by show 2 ≤ sizeLine; decide), fun t2 ht2 => ?_⟩
        generalize hX_ : upd _ t2 _ = H5; have st2 := Same.of_upd hX_ ht2; have et2 := upd_of hX_; clear hX_
        refine ⟨S, t2, key2 l, Ls, rfl, rfl, SqT.of et2, st2 _ _ eS4, (fun p hp => SqT.of (st2 _ _ (eT4 p hp))), by omega, fun L' _ c3 => ?_⟩
        have pm := c3 c2
        have ne_of : ∀ {b : Addr} {o u : HO}, H5 b = some o → H5 S = some u → o ≠ u → b ≠ S := fun {b o u} e1 e2 ne z => by
          rw [z, e2] at e1
          exact ne (Option.some.inj e1).symm
        have eS5 := st2 _ _ eS4
        have eU5 := st2 _ _ eU4
        have tS : ∀ {b : Addr} {vs : List V}, H5 b = some (.tup vs) → b ≠ S ∧ b ≠ U := fun {b vs} e1 => ⟨fun z => by
          rw [z, eS5] at e1
          exact absurd (Option.some.inj e1) (fun z => nomatch z), fun z => by
          rw [z, eU5] at e1
          exact absurd (Option.some.inj e1) (fun z => nomatch z)⟩
        have eU6 : upd H5 S (SetTO P w S L') U = some (.lst ys) := (upd_ne nSU).trans eU5
        have ho7 : OAt T.C_Lamp (upd (upd H5 S (SetTO P w S L')) U (.lst (ys ++ [.ref c]))) (.ref c) k (some l) := by
          obtain ⟨a, ea, ⟨dx, hl⟩, r⟩ := ho
          refine ⟨a, ea, ⟨dx, ?_⟩, r⟩
          rw [upd_ne (fun z => by rw [z, hU0] at hl; cases hl), upd_ne (fun z => by rw [z, hS] at hl; cases hl)]
          exact st2 _ _ (st _ _ (s3 _ _ hl))
        have S7 : Same H (upd (upd H5 S (SetTO P w S L')) U (.lst (ys ++ [.ref c]))) := fun b o e => by
          rw [upd_ne (fun z => by rw [z, hU0] at e; cases e), upd_ne (fun z => by rw [z, hS] at e; cases e)]
          exact st2 _ _ (st _ _ (s3 _ _ e))
        have hy7 : AllL T.C_Lamp (upd (upd H5 S (SetTO P w S L')) U (.lst (ys ++ [.ref c]))) k (ys ++ [.ref c]) (ms ++ [l]) := by
          refine AllL.more ⟨hy.1, fun j v m e1 e2 => ?_⟩ ho7
          obtain ⟨a, ea, a2, ea2, ⟨dx, hl⟩, r⟩ := hy.2 j v m e1 e2
          have hl5 := st2 _ _ (st _ _ hl)
          refine ⟨a, ea, a2, ea2, ⟨dx, ?_⟩, r⟩
          rw [upd_ne (fun z => by rw [z, eU5] at hl5; cases hl5), upd_ne (fun z => by rw [z, eS5] at hl5; cases hl5)]
          exact hl5
        refine ⟨_, rfl, .inl ⟨rfl, _, SqL.of eU6⟩, _, rfl, U, ys, _, rfl, rfl, eU6, Nat.lt_of_lt_of_le (show ys.length < 11 by rw [hy.1]; omega) (by decide), ⟨_, rfl⟩, S7, L', _, _, (upd_ne (Ne.symm nSU)).trans upd_same, fun p hp => ?_, upd_same, hy7, ?_, ?_, fun q => ?_, fun q => ?_⟩
        · have e5 : H5 p.1 = some (.tup (p.2.map V.int)) := by
            rcases List.mem_cons.mp (pm.mem_iff.mp hp) with e | m
            · rw [e]
              exact et2
            · exact st2 _ _ (eT4 p m)
          obtain ⟨n1, n2⟩ := tS e5
          rw [upd_ne n2, upd_ne n1]
          exact e5
        · rw [pm.length_eq, List.length_cons]
          omega
        · rw [List.length_append]
          show ms.length + 1 ≤ i + 1
          omega
        · rw [List.mem_append, m1, tk, List.mem_singleton]
        · rw [(pm.map (·.2)).mem_iff, tk, List.map_cons, List.mem_cons, m2]
          exact ⟨fun z => z.elim (fun z => .inr (key2_inj z)) .inl, fun z => z.elim .inr (fun z => .inl (congrArg key2 z))⟩
      · have c2 : key2 l ∈ Ls.map (·.2) := by
          refine Classical.byContradiction fun z => c1 ?_
          rw [decide_eq_false z]
          rfl
        have lm := (m2 l).mp c2
        refine ⟨⟨_, rfl⟩, s3.trans st, Ls, ys, ms, eS4, eT4, eU4, hy.same st, by omega, by omega, fun q => ?_, fun q => ?_⟩
        · rw [m1, tk]
          exact ⟨.inl, fun z => z.elim id fun z => z ▸ lm⟩
        · rw [m2, tk]
          exact ⟨.inl, fun z => z.elim id fun z => z ▸ lm⟩
    · rintro σ H3 ⟨⟨v3, rfl⟩, s3, Ls, ys, ms, eS, eT, eU, hy, l1, l2, m1, m2⟩
      rw [ha.1, List.take_length] at m1
      rw [ha.1] at l2
      exact ⟨_, rfl, q U ys ms H3 s3 hU0 eU hy l2 m1⟩
end
section
variable {P : Program} {w : World} {K : PySem.W.Frag} {mg : Str → Option Value} {base : Heap}
def BothA (C : Addr) (H : Hp) (D : Addr) (k : Nat) (ls ms : List (Int × Int)) (i j : Nat) : Prop := ∃ (zs : List V) (os : List OLp), H D = some (.lst zs) ∧ OAll C H k zs os ∧ os.length = i * ms.length + j ∧
  ∀ t, (∃ o ∈ os, Shn o t) ↔ (Bright (ls.take i) t ∧ Bright ms t) ∨ ∃ l, ls[i]? = some l ∧ l.1 ∣ t - l.2 ∧ Bright (ms.take j) t
theorem bright_take {ls : List (Int × Int)} {i : Nat} {l : Int × Int} (e : ls[i]? = some l) (t : Int) : Bright (ls.take (i + 1)) t ↔ Bright (ls.take i) t ∨ l.1 ∣ t - l.2 := by
  rw [List.take_succ, e]
  exact bright_snoc
theorem BothA.row {C : Addr} {H : Hp} {D : Addr} {k : Nat} {ls ms : List (Int × Int)} {i : Nat} (h : BothA C H D k ls ms i ms.length) (hi : i < ls.length) : BothA C H D k ls ms (i + 1) 0 := by
  obtain ⟨zs, os, h1, h2, h3, h4⟩ := h
  refine ⟨zs, os, h1, h2, by rw [h3, Nat.succ_mul]; rfl, fun t => ?_⟩
  have e := List.getElem?_eq_getElem hi
  rw [h4, bright_take e, List.take_length, List.take_zero]
  constructor
  · rintro (⟨a, b⟩ | ⟨l, el, a, b⟩)
    · exact .inl ⟨.inl a, b⟩
    · rw [e] at el
      cases el
      exact .inl ⟨.inr a, b⟩
  · rintro (⟨a | a, b⟩ | ⟨l, el, a, b, hb, _⟩)
    · exact .inl ⟨a, b⟩
    · exact .inr ⟨_, e, a, b⟩
    · cases hb
theorem bright_fm {os : List OLp} {t : Int} : Bright (os.filterMap id) t ↔ ∃ o ∈ os, Shn o t := by
  constructor
  · rintro ⟨l, hl, d⟩
    obtain ⟨o, ho, e⟩ := List.mem_filterMap.mp hl
    exact ⟨o, ho, by rw [show o = some l from e]; exact d⟩
  · rintro ⟨o, ho, d⟩
    cases o with
    | none => exact d.elim
    | some l => exact ⟨l, List.mem_filterMap.mpr ⟨_, ho, rfl⟩, d⟩
def spBoth (C CG : Addr) : Sp := fun vs H Q _ => ∃ (g h : Addr) (k1 k2 : Nat) (ls ms : List (Int × Int)), vs = [.ref g, .ref h] ∧ LightAt C CG H g k1 ls ∧ LightAt C CG H h k2 ms ∧ ls.length ≤ 10 ∧ ms.length ≤ 10 ∧ ls.length * ms.length ≤ 10 ∧ k1 ≤ 4000 ∧ k2 ≤ 4000 ∧
  ∀ g' qs H', Same H H' → H g' = none → LightAt C CG H' g' (k1 + k2) qs → qs.length ≤ ls.length * ms.length → (∀ t, Bright qs t ↔ Bright ls t ∧ Bright ms t) → Q (.ref g') H'
theorem ok_both (T : Top K mg) : FnOk P w K mg base CX0 8 T.f_both T.d_both ["one", "other"] (spBoth T.C_Lamp T.C_Light) := by
  have G_Light_lamps := ok_Light_lamps (P := P) (w := w) (base := base) T
  have G_light_of := ok_light_of (P := P) (w := w) (base := base) T
  have G_meet := ok_meet (P := P) (w := w) (base := base) T
  have G_unlike := ok_unlike (P := P) (w := w) (base := base) T
  refine T.F_both.ok sc_both (fun vs H Q E h => ?_) (fun cdv A outer s H vs Q E hr h => ?_)
  · obtain ⟨g, g2, k1, k2, ls, ms, rfl, _⟩ := h; rfl
  · obtain ⟨g, g2, k1, k2, ls, ms, rfl, hg, hh, n1, n2, nn, b1, b2, q⟩ := h
    refine ⟨_, (pss_cons (ps_setLc2 (i := 2) (own := [("lamp", 3), ("beside", 4)]) (vs1 := [4]) (g := gName 3) (g1 := gName 4) (by rfl) sc_both.nd rfl rfl (sw_true rfl rfl rfl (by decide +kernel)) (pi_list (pe_meth0 (pv 0) T.cl_Light T.m_Light_lamps G_Light_lamps (hr.mono (by decide)) T.b_Light_lamps .nil pass0)) (blkOk_by (own := [("lamp", 3), ("beside", 4)]) (N := ["one", "other", "met", "lamp", "beside"]) (sc := defScope s_both) (by decide +kernel)) (by decide) (fun _ _ _ _ _ => by exact ((pg_name (i := 3) sc_both.nd rfl (Or.inl rfl)))) (fun _ _ _ _ _ => by exact (pts_nil)) (fun _ _ _ _ _ => by exact ((pi_listK (K := K) rfl (pe_meth0 (pv 1) T.cl_Light T.m_Light_lamps G_Light_lamps (hr.mono (by decide)) T.b_Light_lamps .nil pass0)))) (fun _ _ _ _ _ => by exact ((pg_name (i := 4) sc_both.nd rfl (Or.inl rfl)))) (fun _ _ _ _ _ => by exact (pts_nil)) (fun _ _ _ _ _ => by exact (pe_call G_meet (hr.mono (by decide)) rfl T.g_meet T.F_meet.kp T.b_meet .nil pass0 (pa_cons (pv 3) (pa_cons (pv 4) pa_nil)))))
      (pss_one (ps_ret (pe_call G_light_of (hr.mono (by decide)) rfl T.g_light_of T.F_light_of.kp T.b_light_of .nil pass0 (pa_cons (pe_call G_unlike (hr.mono (by decide)) rfl T.g_unlike T.F_unlike.kp T.b_unlike .nil pass0 (pa_cons (pe_lc (own := [("lamp", 3)]) (g := gName 3) (tt := _) (by rfl) sc_both.nd (pi_list (pv 2)) (blkOk_by (own := [("lamp", 3)]) (N := ["one", "other", "met", "lamp", "beside"]) (sc := defScope s_both) (by decide +kernel)) (fun _ _ _ _ _ => by exact (pg_name (i := 3) sc_both.nd rfl (Or.inl rfl))) (fun _ _ _ _ _ => by exact (pts_one (pt_cmpR op_notN (pv 3) pe_non (nomark _)))) (fun _ _ _ _ _ => by exact ((pv 3)))) pa_nil)) pa_nil))))), ?_⟩
    obtain ⟨dx, _, _, hg0, _, _⟩ := id hg
    obtain ⟨dx2, _, _, hh0, _, _⟩ := id hh
    refine ⟨_, rfl, g, dx, _, rfl, hg0, gf_no _ (by decide +kernel), g, k1, ls, rfl, hg, n1, fun p ys H1 s1 hp hp1 ha1 => ?_⟩
    have ly : ys.length = ls.length := ha1.1
    refine ⟨p, rfl, ⟨_, SqL.of hp1⟩, fun D hD => lc_any (walk_list (K := K) (a := p) (xs := ys)) (fun i H' => Same H1 H' ∧ BothA T.C_Lamp H' D (k1 + k2) ls ms i 0)
      ⟨same_new hD, [], [], upd_same, ⟨rfl, fun i v o h => by cases h⟩, by simp, fun t => ?_⟩ (fun i H' _ ⟨s2, _⟩ => SqL.of (s2 _ _ hp1)) ?_ (fun H2 ⟨s2, bA⟩ => ?_)⟩
    · constructor
      · rintro ⟨o, ho, _⟩
        cases ho
      · rintro (⟨⟨l, hl, _⟩, _⟩ | ⟨l, _, _, m, hm, _⟩)
        · rw [List.take_zero] at hl
          cases hl
        · rw [List.take_zero] at hm
          cases hm
    · rintro i x HX H2 hi ⟨s2, bA⟩ ⟨rfl, ex⟩
      obtain ⟨c, l, rfl, el, ho⟩ := ha1.at ex
      have il : i < ls.length := (List.getElem?_eq_some_iff.mp el).1
      refine ⟨rfl, ?_⟩
      have S2 := s1.trans s2
      refine ⟨_, rfl, g2, dx2, _, rfl, S2 _ _ hh0, gf_no _ (by decide +kernel), g2, k2, ms, rfl, hh.same S2, n2, fun p2 zs H3 s3 hp2 hp21 ha2 => ?_⟩
      have lz : zs.length = ms.length := ha2.1
      have b3 : BothA T.C_Lamp H3 D (k1 + k2) ls ms i 0 := by
        obtain ⟨us, os, e1, e2, e3, e4⟩ := bA
        exact ⟨us, os, s3 _ _ e1, e2.same s3, e3, e4⟩
      refine ⟨p2, rfl, ⟨_, SqL.of hp21⟩, lc_any (walk_list (K := K) (a := p2) (xs := zs)) (fun j H' => Same H1 H' ∧ H' p2 = some (.lst zs) ∧ AllL T.C_Lamp H' k2 zs ms ∧ BothA T.C_Lamp H' D (k1 + k2) ls ms i j)
        ⟨s2.trans s3, hp21, ha2, b3⟩ (fun j H' _ h => SqL.of h.2.1) ?_ fun H' h => ⟨h.1, BothA.row (lz ▸ h.2.2.2) il⟩⟩
      rintro j y HY H4 hj ⟨s4, h4, ha4, us, os, e1, e2, e3, e4⟩ ⟨rfl, ey⟩
      obtain ⟨c2, m, rfl, em, hm⟩ := ha4.at ey
      have jm : j < ms.length := (List.getElem?_eq_some_iff.mp em).1
      have nD : p2 ≠ D := fun z => by
        obtain ⟨us', os', f1, _⟩ := bA
        rw [z, f1] at hp2
        cases hp2
      refine ⟨rfl, _, rfl, _, rfl, ?_⟩
      dsimp only [tNil, List.append_nil]
      refine meetO (E := E0) (ho.same s4) hm (by omega) (by omega) fun o v H5 s5 hv ho5 => ?_
      have e15 := s5 _ _ e1
      have lu : us.length < 11 := by
        have z1 : us.length = os.length := e2.1
        have z2 : (i + 1) * ms.length ≤ ls.length * ms.length := Nat.mul_le_mul_right _ il
        rw [Nat.succ_mul] at z2
        omega
      refine ⟨us, e15, Nat.lt_of_lt_of_le lu (by decide), fun b o' e => ?_, (upd_ne nD).trans (s5 _ _ h4), (ha4.same s5).mut e15, us ++ [v], os ++ [o], upd_same, ((e2.same s5).more hv).mut e15, ?_, fun t => ?_⟩
      · rw [upd_ne (fun z => by rw [z, hD] at e; cases e)]
        exact s5 _ _ (s4 _ _ e)
      · rw [List.length_append, e3]
        rfl
      · have B2 := bright_take em t
        have B3 := ho5.2 t
        constructor
        · rintro ⟨o', ho', d⟩
          rcases List.mem_append.mp ho' with h | h
          · rcases (e4 t).mp ⟨o', h, d⟩ with h | ⟨l', el', d1, d2⟩
            · exact .inl h
            · exact .inr ⟨l', el', d1, B2.mpr (.inl d2)⟩
          · obtain rfl := List.mem_singleton.mp h
            obtain ⟨d1, d2⟩ := B3.mp d
            exact .inr ⟨l, el, d1, B2.mpr (.inr d2)⟩
        · rintro (h | ⟨l', el', d1, d2⟩)
          · obtain ⟨o', h1, h2⟩ := (e4 t).mpr (.inl h)
            exact ⟨o', List.mem_append_left _ h1, h2⟩
          · rcases B2.mp d2 with d2 | d2
            · obtain ⟨o', h1, h2⟩ := (e4 t).mpr (.inr ⟨l', el', d1, d2⟩)
              exact ⟨o', List.mem_append_left _ h1, h2⟩
            · rw [el] at el'
              cases el'
              exact ⟨o, List.mem_append_right _ (List.mem_singleton.mpr rfl), B3.mpr ⟨d1, d2⟩⟩
    rw [ly] at bA
    obtain ⟨zs, os, h1, h2, h3, h4⟩ := bA
    rw [Nat.add_zero] at h3
    have B4 : ∀ t, Bright (os.filterMap id) t ↔ Bright ls t ∧ Bright ms t := fun t => by
      rw [bright_fm, h4, List.take_length, List.getElem?_eq_none (Nat.le_refl _)]
      simp
    have S2 := s1.trans s2
    refine ⟨_, rfl, D, rfl, ⟨_, SqL.of h1⟩, fun E hE => lc_list (K := K) (a := D) (xs := zs) (fun i H' => Same H2 H' ∧ ∃ us, H' E = some (.lst us) ∧ AllL T.C_Lamp H' (k1 + k2) us ((os.take i).filterMap id))
      ⟨same_new hE, [], upd_same, rfl, fun i v l h => by cases h⟩ (fun i H' _ ⟨s3, _⟩ => SqL.of (s3 _ _ h1)) (fun i x H3 hi ⟨s3, us, g1, g3⟩ => ?_) (fun H3 ⟨s3, us, g1, g3⟩ => ?_)⟩
    · have hil : i < zs.length := (List.getElem?_eq_some_iff.mp hi).1
      obtain ⟨o, ho⟩ : ∃ o, os[i]? = some o := ⟨_, List.getElem?_eq_getElem (by rw [← h2.1]; exact hil)⟩
      have o3 := (h2.2 i x o hi ho).same s3
      have lu : us.length ≤ 10 := by
        rw [g3.1]
        refine Nat.le_trans (List.length_filterMap_le _ _) (Nat.le_trans (List.length_take_le' _ _) ?_)
        omega
      have et : (os.take (i + 1)).filterMap id = (os.take i).filterMap id ++ o.toList := by
        rw [List.take_succ, ho, List.filterMap_append]
        cases o <;> rfl
      refine ⟨rfl, ?_⟩
      cases o with
      | none =>
        cases o3
        refine ⟨_, rfl, rfl, _, rfl, iteF ⟨s3, us, g1, ?_⟩⟩
        rw [et]
        show AllL _ _ _ _ (_ ++ [])
        rw [List.append_nil]
        exact g3
      | some z =>
        obtain ⟨c, rfl, o4⟩ : ∃ c, x = .ref c ∧ OAt T.C_Lamp H3 (.ref c) (k1 + k2) (some z) := by
          obtain ⟨c, rfl, r⟩ := o3
          exact ⟨c, rfl, c, rfl, r⟩
        refine ⟨_, rfl, rfl, _, rfl, iteT ⟨_, rfl, us, g1, Nat.lt_of_lt_of_le (show us.length < 11 by omega) (by decide), same_at s3 hE, us ++ [.ref c], upd_same, ?_⟩⟩
        rw [et]
        exact (g3.more o4).mut g1
    · rw [h2.1, List.take_length] at g3
      have S3 := S2.trans s3
      have lf : (os.filterMap id).length ≤ ls.length * ms.length := by
        rw [← h3]
        exact List.length_filterMap_le _ _
      refine ⟨E, us, _, k1 + k2, rfl, g1, g3, by omega, fun U vs ns H4 s4 hU hU4 ha4 l4 m4 => ?_⟩
      refine ⟨U, vs, ns, k1 + k2, rfl, hU4, ha4, by omega, fun g' H5 s5 hg' hl => ?_⟩
      refine q g' ns H5 (S3.trans (s4.trans s5)) (back_none (S3.trans s4) hg') hl (by omega) fun t => ?_
      rw [← B4]
      exact ⟨fun ⟨l, hl, d⟩ => ⟨l, (m4 l).mp hl, d⟩, fun ⟨l, hl, d⟩ => ⟨l, (m4 l).mpr hl, d⟩⟩
end

section
/-! ### displays of pairs that are written out, at once -/
theorem pe_mono {X : Cx} {e : Expr} {t t' : TE} (h : PE X e t) (f : ∀ σ H Q, t' σ H Q → t σ H Q) : PE X e t' := ⟨fun pins s σ H Q I q => h.run pins s σ H Q I (f _ _ _ q)⟩
def litP (p : Int × Int) : TE := tTup (tCons (tC (.int p.1)) (tCons (tC (.int p.2)) tNil))
def litA : List (Int × Int) → TA
  | [] => tNil
  | p :: r => tCons (litP p) (litA r)
theorem lit_get : ∀ (ps : List (Int × Int)) {σ : L2.St} {H : Hp} {Q : List V → Hp → Prop}, (∀ zs H', Same H H' → TupZ H' zs → prs zs = ps → Q (refsZ zs) H') → litA ps σ H Q
  | [], _, H, _, q => q [] H (Same.refl H) (fun _ h => nomatch h) rfl
  | p :: r, σ, H, Q, q => by
    refine ⟨(by show 2 ≤ sizeLine; decide), fun T hT => ?_⟩
    refine lit_get r fun zs H' s h e => ?_
    have s1 := same_new (o := .tup [.int p.1, .int p.2]) hT
    refine q ((T, p) :: zs) H' (s1.trans s) (fun z hz => ?_) (by rw [← e]; rfl)
    rcases List.mem_cons.mp hz with rfl | hz
    · exact s _ _ upd_same
    · exact h z hz
/-- the reading of a list of pairs -/
def tLitP (ps : List (Int × Int)) : TE := fun _ H Q => ∀ L zs H', Same H H' → H L = none → PairsA H' L zs → prs zs = ps → Q (.ref L) H'
theorem lit_pairs {ps : List (Int × Int)} (h : ps.length ≤ 1000) (σ : L2.St) (H : Hp) (Q : VK) (q : tLitP ps σ H Q) : tLst (litA ps) σ H Q := by
  refine lit_get ps fun zs H1 s1 hz e => ⟨?_, fun L hL => ?_⟩
  · rw [show (refsZ zs).length = zs.length from List.length_map _, show zs.length = ps.length by rw [← e]; exact (List.length_map _).symm]
    exact Nat.le_trans h (by decide)
  · have s2 := same_new (o := .lst (refsZ zs)) hL
    exact q L zs _ (s1.trans s2) (back_none s1 hL) ⟨upd_same, hz.same s2⟩ e
def litL : List (List (Int × Int)) → TA
  | [] => tNil
  | ps :: r => tCons (tLst (litA ps)) (litL r)
/-- lists of pairs, each at its place -/
abbrev PZs := List (Addr × PZ)
def refsY (ys : PZs) : List V := ys.map fun y => V.ref y.1
def ListsA (H : Hp) (ys : PZs) : Prop := ∀ y ∈ ys, PairsA H y.1 y.2
theorem ListsA.same {H H' : Hp} {ys : PZs} (h : ListsA H ys) (s : Same H H') : ListsA H' ys := fun y hy => (h y hy).same s
theorem ListsA.dr {H H' : Hp} {s : Addr} {n : Nat} {ys : PZs} (h : ListsA H ys) (hs : Src H s n) (d : Dr s H H') : ListsA H' ys := fun y hy => (h y hy).dr hs d
theorem lit_getL : ∀ (pss : List (List (Int × Int))) {σ : L2.St} {H : Hp} {Q : List V → Hp → Prop}, (∀ ps ∈ pss, ps.length ≤ 1000) → (∀ ys H', Same H H' → ListsA H' ys → ys.map (fun y => prs y.2) = pss → Q (refsY ys) H') → litL pss σ H Q
  | [], _, H, _, _, q => q [] H (Same.refl H) (fun _ h => nomatch h) rfl
  | ps :: r, σ, H, Q, h, q => by
    show tLst (litA ps) σ H fun x H1 => litL r σ H1 fun xs H2 => Q (x :: xs) H2
    refine lit_pairs (h ps (.head _)) σ H _ fun L zs H1 s1 _ hp e => ?_
    refine lit_getL r (fun p hp => h p (.tail _ hp)) fun ys H2 s2 h2 e2 => ?_
    refine q ((L, zs) :: ys) H2 (s1.trans s2) (fun y hy => ?_) (by rw [List.map_cons, e2]; exact congrArg (· :: r) e)
    rcases List.mem_cons.mp hy with rfl | hy
    · exact hp.same s2
    · exact h2 y hy
/-- the reading of a list of lists of pairs -/
def tLitL (pss : List (List (Int × Int))) : TE := fun _ H Q => ∀ L ys H', Same H H' → H L = none → H' L = some (.lst (refsY ys)) → ListsA H' ys → (∀ y ∈ ys, y.1 ≠ L) → ys.map (fun y => prs y.2) = pss → Q (.ref L) H'
theorem lit_lists {pss : List (List (Int × Int))} (h : pss.length ≤ 1000) (h2 : ∀ ps ∈ pss, ps.length ≤ 1000) (σ : L2.St) (H : Hp) (Q : VK) (q : tLitL pss σ H Q) : tLst (litL pss) σ H Q := by
  refine lit_getL pss h2 fun ys H1 s1 hz e => ⟨?_, fun L hL => ?_⟩
  · rw [show (refsY ys).length = ys.length from List.length_map _, show ys.length = pss.length by rw [← e]; exact (List.length_map _).symm]
    exact Nat.le_trans h (by decide)
  · have s2 := same_new (o := .lst (refsY ys)) hL
    refine q L ys _ (s1.trans s2) (back_none s1 hL) upd_same (hz.same s2) (fun y hy z => ?_) e
    have := (hz y hy).1
    rw [z, hL] at this
    cases this
theorem PairsA.mut {H : Hp} {L l : Addr} {o : HO} {xs : List V} {zs : PZ} (h : PairsA H L zs) (hne : L ≠ l) (hl : H l = some (.lst xs)) : PairsA (upd H l o) L zs := ⟨by rw [upd_ne hne]; exact h.1, h.2.mut hl⟩
/-- a drawn one of lists of pairs -/
theorem refsY_at {ys : PZs} {x : V} (h : x ∈ refsY ys) : ∃ y ∈ ys, x = .ref y.1 := let ⟨y, hy, e⟩ := List.mem_map.mp h; ⟨y, hy, e.symm⟩
def litI : List Int → TA
  | [] => tNil
  | n :: r => tCons (tC (.int n)) (litI r)
theorem lit_int : ∀ (ns : List Int) {σ : L2.St} {H : Hp} {Q : List V → Hp → Prop}, Q (ns.map V.int) H → litI ns σ H Q
  | [], _, _, _, q => q
  | n :: r, σ, H, Q, q => lit_int r (Q := fun xs H2 => Q (V.int n :: xs) H2) q
def tLitN (ns : List Int) : TE := fun _ H Q => ∀ L H', Same H H' → H L = none → H' L = some (.lst (ns.map V.int)) → Q (.ref L) H'
theorem lit_ns {ns : List Int} (h : ns.length ≤ 1000) (σ : L2.St) (H : Hp) (Q : VK) (q : tLitN ns σ H Q) : tLst (litI ns) σ H Q := by
  refine lit_int ns ⟨?_, fun L hL => q L _ (same_new hL) hL upd_same⟩
  rw [List.length_map]
  exact Nat.le_trans h (by decide)
def litN : List (List Int) → TA
  | [] => tNil
  | ns :: r => tCons (tLst (litI ns)) (litN r)
abbrev NZs := List (Addr × List Int)
def refsN (ys : NZs) : List V := ys.map fun y => V.ref y.1
def IntsA (H : Hp) (ys : NZs) : Prop := ∀ y ∈ ys, H y.1 = some (.lst (y.2.map V.int))
theorem IntsA.same {H H' : Hp} {ys : NZs} (h : IntsA H ys) (s : Same H H') : IntsA H' ys := fun y hy => s _ _ (h y hy)
theorem lit_getN : ∀ (nss : List (List Int)) {σ : L2.St} {H : Hp} {Q : List V → Hp → Prop}, (∀ ns ∈ nss, ns.length ≤ 1000) → (∀ ys H', Same H H' → IntsA H' ys → (∀ y ∈ ys, H y.1 = none) → ys.map (·.2) = nss → Q (refsN ys) H') → litN nss σ H Q
  | [], _, H, _, _, q => q [] H (Same.refl H) (fun _ h => nomatch h) (fun _ h => nomatch h) rfl
  | ns :: r, σ, H, Q, h, q => by
    show tLst (litI ns) σ H fun x H1 => litN r σ H1 fun xs H2 => Q (x :: xs) H2
    refine lit_ns (h ns (.head _)) σ H _ fun L H1 s1 hL e1 => ?_
    refine lit_getN r (fun p hp => h p (.tail _ hp)) fun ys H2 s2 h2 f2 e2 => ?_
    refine q ((L, ns) :: ys) H2 (s1.trans s2) (fun y hy => ?_) (fun y hy => ?_) (by rw [List.map_cons, e2])
    · rcases List.mem_cons.mp hy with rfl | hy
      · exact s2 _ _ e1
      · exact h2 y hy
    · rcases List.mem_cons.mp hy with rfl | hy
      · exact hL
      · exact back_none s1 (f2 y hy)
/-- the reading of a list of lists of numbers -/
def tLitNs (nss : List (List Int)) : TE := fun _ H Q => ∀ L ys H', Same H H' → H L = none → H' L = some (.lst (refsN ys)) → IntsA H' ys → (∀ y ∈ ys, H y.1 = none) → ys.map (·.2) = nss → Q (.ref L) H'
theorem lit_nss {nss : List (List Int)} (h : nss.length ≤ 1000) (h2 : ∀ ns ∈ nss, ns.length ≤ 1000) (σ : L2.St) (H : Hp) (Q : VK) (q : tLitNs nss σ H Q) : tLst (litN nss) σ H Q := by
  refine lit_getN nss h2 fun ys H1 s1 hz f e => ⟨?_, fun L hL => ?_⟩
  · rw [show (refsN ys).length = ys.length from List.length_map _, show ys.length = nss.length by rw [← e]; exact (List.length_map _).symm]
    exact Nat.le_trans h (by decide)
  · have s2 := same_new (o := .lst (refsN ys)) hL
    exact q L ys _ (s1.trans s2) (back_none s1 hL) upd_same (hz.same s2) f e
theorem refsN_at {ys : NZs} {x : V} (h : x ∈ refsN ys) : ∃ y ∈ ys, x = .ref y.1 := let ⟨y, hy, e⟩ := List.mem_map.mp h; ⟨y, hy, e.symm⟩
end

section
variable {P : Program} {w : World} {K : PySem.W.Frag} {mg : Str → Option Value} {base : Heap}
theorem cut_sub (zs : PZ) (lo hi : Option Int) : ∃ ws : PZ, cutV (refsZ zs) lo hi = refsZ ws ∧ ws.Sublist zs := by
  unfold cutV
  exact ⟨(zs.drop (HT.sIx (refsZ zs).length 0 lo)).take (HT.sIx (refsZ zs).length (refsZ zs).length hi - HT.sIx (refsZ zs).length 0 lo), by unfold refsZ; rw [List.map_take, List.map_drop], (List.take_sublist _ _).trans (List.drop_sublist _ _)⟩
theorem cut_init (zs : PZ) : ∃ ws : PZ, cutV (refsZ zs) none (some (-1)) = refsZ ws ∧ ws.Sublist zs ∧ ws.length = zs.length - 1 := by
  obtain ⟨ws, e, sub⟩ := cut_sub zs none (some (-1))
  refine ⟨ws, e, sub, ?_⟩
  have : (cutV (refsZ zs) none (some (-1))).length = zs.length - 1 := by
    unfold cutV
    rw [List.length_take, List.length_drop, refsZ_len]
    have e1 : HT.sIx zs.length 0 none = 0 := rfl
    have e2 : HT.sIx zs.length zs.length (some (-1)) = zs.length - 1 := by
      unfold HT.sIx
      simp
      omega
    rw [e1, e2]
    omega
  rw [e, refsZ_len] at this
  exact this
theorem cut_turn (zs : PZ) (t : Int) : ∃ ws vs : PZ, cutV (refsZ zs) (some t) none = refsZ ws ∧ cutV (refsZ zs) none (some t) = refsZ vs ∧ ws.Sublist zs ∧ vs.Sublist zs ∧ ws.length + vs.length = zs.length := by
  obtain ⟨ws, e1, s1⟩ := cut_sub zs (some t) none
  obtain ⟨vs, e2, s2⟩ := cut_sub zs none (some t)
  refine ⟨ws, vs, e1, e2, s1, s2, ?_⟩
  have h1 : (cutV (refsZ zs) (some t) none).length = ws.length := by rw [e1, refsZ_len]
  have h2 : (cutV (refsZ zs) none (some t)).length = vs.length := by rw [e2, refsZ_len]
  unfold cutV at h1 h2
  rw [List.length_take, List.length_drop, refsZ_len] at h1 h2
  have a0 : HT.sIx zs.length zs.length none = zs.length := rfl
  have a1 : HT.sIx zs.length 0 none = 0 := rfl
  have a2 : HT.sIx zs.length 0 (some t) ≤ zs.length := by
    unfold HT.sIx
    dsimp only
    split <;> omega
  have a3 : HT.sIx zs.length zs.length (some t) = HT.sIx zs.length 0 (some t) := rfl
  rw [a0] at h1
  rw [a1, a3] at h2
  omega
theorem PairsA.cut {H : Hp} {L F : Addr} {zs ws : PZ} (h : PairsA H L zs) (sub : ws.Sublist zs) (e : H F = some (.lst (refsZ ws))) : PairsA H F ws := ⟨e, fun z hz => h.2 z (sub.subset hz)⟩
def OkC0 (zs : PZ) : Prop := ∀ z ∈ zs, 0 < z.2.1 ∧ z.2.1 ≤ 10 ^ 37 ∧ 0 ≤ z.2.2 ∧ z.2.2 < 10 ^ 10
def OkC (zs : PZ) : Prop := ∀ z ∈ zs, 0 < z.2.1 ∧ z.2.1 ≤ 10 ^ 37 ∧ -(10 ^ 40) < z.2.2 ∧ z.2.2 < 10 ^ 40
theorem OkC.z {zs : PZ} (h : OkC zs) : OkZ zs := fun z hz => ⟨(h z hz).1, by have := (h z hz).2.1; omega⟩
theorem OkC0.snoc {zs : PZ} {T : Addr} {p b : Int} (h : OkC0 zs) (h1 : 0 < p) (h2 : p ≤ 10 ^ 37) (h3 : 0 ≤ b) (h4 : b < 10 ^ 10) : OkC0 (zs ++ [(T, (p, b))]) := fun z hz => by
  rcases List.mem_append.mp hz with hz | hz
  · exact h z hz
  · rw [List.mem_singleton.mp hz]
    exact ⟨h1, h2, h3, h4⟩
theorem div_small (z w : Int) (z0 : 6 ≤ z) (z1 : z ≤ 12) (w0 : 0 ≤ w) (w1 : w < 3) : 0 < z / (1 + w) := by
  have : w = 0 ∨ w = 1 ∨ w = 2 := by omega
  rcases this with rfl | rfl | rfl <;> omega
theorem cstep {H0 H : Hp} {F T0 s : Addr} {n : Nat} {zs : PZ} (p b : Int) (hs : Src H s n) (D : Dr s H0 H) (hp : PairsA H F zs) (hF : H0 F = Option.none) (hT : H T0 = Option.none) :
    upd H T0 (.tup [.int p, .int b]) F = some (.lst (refsZ zs)) ∧ Src (upd (upd H T0 (.tup [.int p, .int b])) F (.lst (refsZ zs ++ [.ref T0]))) s n ∧ Dr s H0 (upd (upd H T0 (.tup [.int p, .int b])) F (.lst (refsZ zs ++ [.ref T0]))) ∧ PairsA (upd (upd H T0 (.tup [.int p, .int b])) F (.lst (refsZ zs ++ [.ref T0]))) F (zs ++ [(T0, (p, b))]) := by
  have s1 := same_new (o := .tup [.int p, .int b]) hT
  have hp1 := hp.same s1
  have hs1 := hs.same s1
  exact ⟨hp1.1, hs1.mut (refs_ne hs1 hp1.1), (D.then s1).mut hF, pairs_app hp1 upd_same⟩
def spLampsC : Sp := fun vs H Q _ => ∃ (s : Addr) (n m : Nat), vs = [.ref s, .int m] ∧ Src H s n ∧ n < 500000 ∧ m ≤ 10 ∧
  ∀ F zs H', PairsA H' F zs → H F = none → zs.length ≤ m → OkC zs → Src H' s (n + 40) → Dr s H H' → Q (.ref F) H'
theorem ok_l_lamps (T : Top K mg) : FnOk P w K mg base CX0 3 T.f_l_lamps T.d_l_lamps ["_law_source_here", "_law_most"] spLampsC := by
  have G_Lamp_eq := ok_Lamp_eq (P := P) (w := w) (base := base) T
  have G_l_take := ok_l_take (P := P) (w := w) (base := base) T
  refine T.F_l_lamps.ok sc_l_lamps (fun vs H Q E h => ?_) (fun cdv A outer s H vs Q E hr h => ?_)
  · obtain ⟨s, n, m, rfl, _⟩ := h; rfl
  · obtain ⟨s, n, m, rfl, hs, hn, hm, q⟩ := h
    refine ⟨_, (pss_cons (ps_set (i := 2) sc_l_lamps.nd rfl (Or.inl rfl) (pe_call G_l_take (hr.mono (by decide)) rfl T.g_l_take T.F_l_take.kp T.b_l_take .nil pass0 (pa_cons (pv 0) (pa_cons (pe_op op_add (pv 1) pe_int) pa_nil))))
      (pss_cons (ps_set (i := 3) sc_l_lamps.nd rfl (Or.inl rfl) (pe_call G_l_take (hr.mono (by decide)) rfl T.g_l_take T.F_l_take.kp T.b_l_take .nil pass0 (pa_cons (pv 0) (pa_cons pe_int pa_nil))))
      (pss_cons (ps_setLc (i := 4) (own := [("_law_k", 9)]) (g := gName 9) (by rfl) sc_l_lamps.nd rfl rfl (sw_true rfl rfl rfl (by decide +kernel)) (pi_range1 (by rfl) T.n_range (pa_cons (pv 2) pa_nil)) (blkOk_by (own := [("_law_k", 9)]) (N := ["_law_source_here", "_law_most", "_law_many", "_law_way", "_law_found", "_law_great", "_law_unit", "_law_by", "_law_turn", "_law_k", "_law_period", "_law_beat_here"]) (sc := defScope s_l_lamps) (by decide +kernel)) (fun _ _ _ _ _ => by exact (pg_name (i := 9) sc_l_lamps.nd rfl (Or.inl rfl))) (fun _ _ _ _ _ => by exact (pts_nil)) (fun _ _ _ _ _ => by exact (pe_tup (pa_cons (pe_op op_shlN pe_int (pv 9)) (pa_cons (pe_op op_sub (pe_op op_oneShl pe_int (pv 9)) pe_int) pa_nil)))))
      (C8.pss_cut (ps_if (PW.pt (pw_and (pt_cmpR op_eq (pv 3) pe_int (nomark _)) (pw_and1 (pt_cmpR op_gt (pv 2) pe_int (nomark _))))) (pss_one (ps_set (i := 4) sc_l_lamps.nd rfl (Or.inl rfl) (pe_op op_catS (pe_slice sl_list (pv 4) po_none (po_some (pe_un un_neg pe_int))) (pe_lst (pa_cons (pe_tup (pa_cons (pe_op op_oneShl pe_int (pe_op op_sub (pv 2) pe_int)) (pa_cons (pe_op op_sub (pe_op op_oneShl pe_int (pe_op op_sub (pv 2) pe_int)) pe_int) pa_nil))) pa_nil))))) (pss_one (ps_if (pt_cmpR op_eq (pv 3) pe_int (nomark _)) (pss_one (ps_set (i := 4) sc_l_lamps.nd rfl (Or.inl rfl) (pe_slice sl_list (pe_mono (pe_lst (pa_cons (pe_tup (pa_cons pe_int (pa_cons pe_int pa_nil))) (pa_cons (pe_tup (pa_cons pe_int (pa_cons pe_int pa_nil))) (pa_cons (pe_tup (pa_cons pe_int (pa_cons pe_int pa_nil))) (pa_cons (pe_tup (pa_cons pe_int (pa_cons pe_int pa_nil))) (pa_cons (pe_tup (pa_cons pe_int (pa_cons pe_int pa_nil))) (pa_cons (pe_tup (pa_cons pe_int (pa_cons pe_int pa_nil))) (pa_cons (pe_tup (pa_cons pe_int (pa_cons pe_int pa_nil))) (pa_cons (pe_tup (pa_cons pe_int (pa_cons pe_int pa_nil))) pa_nil))))))))) (lit_pairs (ps := [(2, 0), (3, 0), (4, 1), (6, 5), (12, 7), (5, 2), (7, 3), (9, 4)]) (by decide))) po_none (po_some (pv 2))))) (pss_one (ps_if (pt_cmpR op_eq (pv 3) pe_int (nomark _)) (pss_cons (ps_set (i := 5) sc_l_lamps.nd rfl (Or.inr rfl) (pe_lst (pa_cons (pe_op op_add (pe_op op_pow pe_int pe_int) pe_int) (pa_cons (pe_op op_sub (pe_op op_pow pe_int pe_int) pe_int) (pa_cons (pe_op op_pow pe_int pe_int) (pa_cons (pe_op op_mulW pe_int (pe_op op_pow pe_int pe_int)) (pa_cons (pe_op op_pow pe_int pe_int) (pa_cons (pe_op op_sub (pe_op op_pow pe_int pe_int) pe_int) pa_nil))))))))
      (pss_one (ps_setLc (i := 4) (own := [("_law_k", 9)]) (g := gName 9) (by rfl) sc_l_lamps.nd rfl rfl (sw_true rfl rfl rfl (by decide +kernel)) (pi_range1 (by rfl) T.n_range (pa_cons (pv 2) pa_nil)) (blkOk_by (own := [("_law_k", 9)]) (N := ["_law_source_here", "_law_most", "_law_many", "_law_way", "_law_found", "_law_great", "_law_unit", "_law_by", "_law_turn", "_law_k", "_law_period", "_law_beat_here"]) (sc := defScope s_l_lamps) (by decide +kernel)) (fun _ _ _ _ _ => by exact (pg_name (i := 9) sc_l_lamps.nd rfl (Or.inl rfl))) (fun _ _ _ _ _ => by exact (pts_nil)) (fun _ _ _ _ _ => by exact (pe_tup (pa_cons (pe_ix (ix_listB (K := K) rfl) (pv 5) (pe_call G_l_take (hr.mono (by decide)) rfl T.g_l_take T.F_l_take.kp T.b_l_take .nil pass0 (pa_cons (pv 0) (pa_cons pe_int pa_nil))) (fun _ _ => rfl)) (pa_cons (pe_call G_l_take (hr.mono (by decide)) rfl T.g_l_take T.F_l_take.kp T.b_l_take .nil pass0 (pa_cons (pv 0) (pa_cons (pe_op op_pow pe_int pe_int) pa_nil))) pa_nil))))))) (pss_one (ps_if (pt_cmpR op_eq (pv 3) pe_int (nomark _)) (pss_cons (ps_set (i := 6) sc_l_lamps.nd rfl (Or.inr rfl) (pe_ix ix_list (pe_lst (pa_cons pe_int (pa_cons pe_int (pa_cons pe_int pa_nil)))) (pe_call G_l_take (hr.mono (by decide)) rfl T.g_l_take T.F_l_take.kp T.b_l_take .nil pass0 (pa_cons (pv 0) (pa_cons pe_int pa_nil))) (fun _ _ => rfl)))
      (pss_one (ps_setLc (i := 4) (own := [("_law_k", 9)]) (g := gName 9) (by rfl) sc_l_lamps.nd rfl rfl (sw_true rfl rfl rfl (by decide +kernel)) (pi_range1 (by rfl) T.n_range (pa_cons (pv 2) pa_nil)) (blkOk_by (own := [("_law_k", 9)]) (N := ["_law_source_here", "_law_most", "_law_many", "_law_way", "_law_found", "_law_great", "_law_unit", "_law_by", "_law_turn", "_law_k", "_law_period", "_law_beat_here"]) (sc := defScope s_l_lamps) (by decide +kernel)) (fun _ _ _ _ _ => by exact (pg_name (i := 9) sc_l_lamps.nd rfl (Or.inl rfl))) (fun _ _ _ _ _ => by exact (pts_nil)) (fun _ _ _ _ _ => by exact (pe_tup (pa_cons (pe_op op_fdivW (pv 6) (pe_op op_add pe_int (pe_call G_l_take (hr.mono (by decide)) rfl T.g_l_take T.F_l_take.kp T.b_l_take .nil pass0 (pa_cons (pv 0) (pa_cons pe_int pa_nil))))) (pa_cons (pe_call G_l_take (hr.mono (by decide)) rfl T.g_l_take T.F_l_take.kp T.b_l_take .nil pass0 (pa_cons (pv 0) (pa_cons (pv 6) pa_nil))) pa_nil))))))) (pss_one (ps_if (pt_cmpR op_eq (pv 3) pe_int (nomark _)) (pss_one (ps_setLc (i := 4) (own := [("_law_k", 9)]) (g := gName 9) (by rfl) sc_l_lamps.nd rfl rfl (sw_true rfl rfl rfl (by decide +kernel)) (pi_range1 (by rfl) T.n_range (pa_cons (pv 2) pa_nil)) (blkOk_by (own := [("_law_k", 9)]) (N := ["_law_source_here", "_law_most", "_law_many", "_law_way", "_law_found", "_law_great", "_law_unit", "_law_by", "_law_turn", "_law_k", "_law_period", "_law_beat_here"]) (sc := defScope s_l_lamps) (by decide +kernel)) (fun _ _ _ _ _ => by exact (pg_name (i := 9) sc_l_lamps.nd rfl (Or.inl rfl))) (fun _ _ _ _ _ => by exact (pts_nil)) (fun _ _ _ _ _ => by exact (pe_tup (pa_cons (pe_op op_add pe_int (pe_call G_l_take (hr.mono (by decide)) rfl T.g_l_take T.F_l_take.kp T.b_l_take .nil pass0 (pa_cons (pv 0) (pa_cons pe_int pa_nil)))) (pa_cons (pe_call G_l_take (hr.mono (by decide)) rfl T.g_l_take T.F_l_take.kp T.b_l_take .nil pass0 (pa_cons (pv 0) (pa_cons pe_int pa_nil))) pa_nil)))))) pss_nil)))))))))
      (pss_cons (ps_set (i := 7) sc_l_lamps.nd rfl (Or.inr rfl) (pe_ix ix_list (pe_lst (pa_cons pe_int (pa_cons (pe_op op_sub (pe_call G_l_take (hr.mono (by decide)) rfl T.g_l_take T.F_l_take.kp T.b_l_take .nil pass0 (pa_cons (pv 0) (pa_cons pe_int pa_nil))) pe_int) (pa_cons (pe_op op_mulW (pe_op op_sub (pe_call G_l_take (hr.mono (by decide)) rfl T.g_l_take T.F_l_take.kp T.b_l_take .nil pass0 (pa_cons (pv 0) (pa_cons (pe_op op_pow pe_int pe_int) pa_nil))) (pe_op op_pow pe_int pe_int)) (pe_op op_pow pe_int pe_int)) pa_nil)))) (pe_call G_l_take (hr.mono (by decide)) rfl T.g_l_take T.F_l_take.kp T.b_l_take .nil pass0 (pa_cons (pv 0) (pa_cons pe_int pa_nil))) (fun _ _ => rfl)))
      (pss_cons (ps_set (i := 8) sc_l_lamps.nd rfl (Or.inl rfl) (pe_ifExp (pt_cmpR op_gt (pv 2) pe_int (nomark _)) (pe_call G_l_take (hr.mono (by decide)) rfl T.g_l_take T.F_l_take.kp T.b_l_take .nil pass0 (pa_cons (pv 0) (pa_cons (pv 2) pa_nil))) pe_int))
      (pss_one (ps_ret (pe_lc (own := [("_law_period", 10), ("_law_beat_here", 11)]) (g := gTup K 2 (gCons (gName 10) (gCons (gName 11) gNil))) (by rfl) sc_l_lamps.nd (pi_list (pe_op op_catS (pe_slice sl_list (pv 4) (po_some (pv 8)) po_none) (pe_slice sl_list (pv 4) po_none (po_some (pv 8))))) (blkOk_by (own := [("_law_period", 10), ("_law_beat_here", 11)]) (N := ["_law_source_here", "_law_most", "_law_many", "_law_way", "_law_found", "_law_great", "_law_unit", "_law_by", "_law_turn", "_law_k", "_law_period", "_law_beat_here"]) (sc := defScope s_l_lamps) (by decide +kernel)) (fun _ _ _ _ _ => by exact (pg_tupB (K := K) rfl (by rfl) (pgs_cons (pg_name (i := 10) sc_l_lamps.nd rfl (Or.inl rfl)) (pgs_cons (pg_name (i := 11) sc_l_lamps.nd rfl (Or.inl rfl)) pgs_nil)))) (fun _ _ _ _ _ => by exact (pts_nil)) (fun _ _ _ _ _ => by exact (pe_tup (pa_cons (pv 10) (pa_cons (pe_op op_add (pv 11) (pv 7)) pa_nil))))))))))))), ?_⟩
    have D := Dr.refl s H
    refine ⟨_, rfl, _, rfl, _, _, rfl, rfl, _, _, (m : Int) + 1, rfl, hs, by omega, by omega, by omega, fun v H1 v0 v1 hs1 d1 => ?_⟩
    obtain ⟨c, rfl⟩ : ∃ c : Nat, v = c := ⟨v.toNat, by omega⟩
    replace D := D.trans d1; replace hs := hs1; clear hs1 d1
    refine ⟨_, rfl, _, _, _, rfl, hs, by omega, by first | decide | omega, by first | decide | omega, fun y H2 y0 y1 hs1 d1 => ?_⟩
    replace D := D.trans d1; replace hs := hs1; clear hs1 d1
    have hs0 := hs
    have D0 := D
    -- the first ones
    refine ⟨_, rfl, c, rfl, by omega, by omega, fun F hF => lc_range (lo := 0) (n := c) (fun i H' => ∃ zs, Src H' s (n + 2) ∧ Dr s H H' ∧ PairsA H' F zs ∧ zs.length = i ∧ OkC0 zs) ⟨[], hs.same (same_new hF), D.then (same_new hF), ⟨upd_same, fun _ h => nomatch h⟩, rfl, fun _ h => (nomatch h)⟩ ?_ ?_⟩
    · clear hs
      rintro i H3 hi ⟨zs, hs, D, hp, lz, ok⟩
      have w0 : (0 : Int) < 2 ^ i := Int.pow_pos (by decide)
      have w1 : (2 : Int) ^ i ≤ 2 ^ 10 := by
        have : (2 : Nat) ^ i ≤ 2 ^ 10 := Nat.pow_le_pow_right (by decide) (by omega)
        exact_mod_cast this
      refine ⟨rfl, ?_⟩
      refine ⟨_, rfl, 2, i, rfl, congrArg V.int (Int.zero_add _), shl_ok (n := 2) (by decide) (by omega), _, rfl, i, rfl, congrArg V.int (Int.zero_add _), by omega, _, _, rfl, rfl, (by show 2 ≤ sizeLine; decide), fun T0 hT0 => ?_⟩
      obtain ⟨c1, c2, c3, c4⟩ := cstep (2 * 2 ^ i) (2 ^ i - 1) hs D hp (hs0.free D0 hF) hT0
      exact ⟨_, c1, by rw [refsZ_len, lz]; exact Nat.lt_of_lt_of_le (show i < 12 by omega) (by decide), _, c2, c3, c4, by rw [List.length_append, lz]; rfl, ok.snoc (by omega) (by omega) (by omega) (by omega)⟩
    rintro H3 ⟨zs, hs, D, hp, lz, ok⟩
    refine ⟨fun σ H' => ∃ F zs v5 v6 v7 v8 v9 v10 v11, σ = [some (.ref s), some (.int m), some (.int c), some (.int y), some (.ref F), v5, v6, v7, v8, v9, v10, v11] ∧ PairsA H' F zs ∧ zs.length ≤ c ∧ OkC0 zs ∧ Src H' s (n + 3 + 2 * c) ∧ Dr s H H', ?_, ?_⟩
    · refine ⟨_, rfl, rfl, _, rfl, ite2 (fun _ => ⟨_, rfl, _, _, rfl, rfl, _, rfl, ite2 (fun hc => ?x) (fun _ => ?a)⟩) (fun _ => ?b)⟩
      case x =>
        have hc : (0 : Int) < c := of_decide_eq_true hc
        obtain ⟨d, rfl⟩ : ∃ d : Nat, c = d + 1 := ⟨c - 1, by omega⟩
        have w0 : (0 : Int) < 2 ^ d := Int.pow_pos (by decide)
        have w1 : (2 : Int) ^ d ≤ 2 ^ 10 := by
          have : (2 : Nat) ^ d ≤ 2 ^ 10 := Nat.pow_le_pow_right (by decide) (by omega)
          exact_mod_cast this
        refine ⟨_, rfl, _, rfl, _, rfl, F, _, rfl, SqL.of hp.1, fun p1 hp1 => ?_⟩
        obtain ⟨ws, ew, sub, lw⟩ := cut_init zs
        generalize hX_ : upd _ p1 _ = H4; have sp1 := Same.of_upd hX_ hp1; have ep1 := upd_of hX_; clear hX_
        rw [ew] at ep1
        replace hp := hp.same (sp1); replace hs := hs.same (sp1); replace D := D.then (sp1)
        have e1 : (((d + 1 : Nat) : Int)) - 1 = ((d : Nat) : Int) := by omega
        refine ⟨_, rfl, _, _, rfl, rfl, d, rfl, congrArg V.int e1, by omega, _, rfl, _, _, rfl, rfl, d, rfl, congrArg V.int e1, by omega, _, _, rfl, rfl, (by show 2 ≤ sizeLine; decide), fun T0 hT0 => ?_⟩
        generalize hX_ : upd _ T0 _ = H5; have sT0 := Same.of_upd hX_ hT0; have eT0 := upd_of hX_; clear hX_
        replace ep1 := sT0 _ _ ep1
        replace hp := hp.same (sT0); replace hs := hs.same (sT0); replace D := D.then (sT0)
        refine ⟨(by show 1 ≤ sizeLine; decide), fun l hl => ?_⟩
        generalize hX_ : upd _ l _ = H6; have sl := Same.of_upd hX_ hl; have el := upd_of hX_; clear hX_
        replace ep1 := sl _ _ ep1
        replace eT0 := sl _ _ eT0
        replace hp := hp.same (sl); replace hs := hs.same (sl); replace D := D.then (sl)
        refine ⟨p1, l, _, _, rfl, rfl, SqL.of ep1, SqL.of el, ?_, fun p2 hp2 => ?_⟩
        · rw [refsZ_len]
          exact Nat.le_trans (show ws.length + 1 ≤ 20 by omega) (by decide)
        generalize hX_ : upd _ p2 _ = H7; have sp2 := Same.of_upd hX_ hp2; have ep2 := upd_of hX_; clear hX_
        replace eT0 := sp2 _ _ eT0
        replace hp := hp.same (sp2); replace hs := hs.same (sp2); replace D := D.then (sp2)
        refine ⟨p2, ws ++ [(T0, (2 ^ d, 2 ^ d - 1))], _, _, _, _, _, _, _, rfl, ⟨by rw [ep2, ← refsZ_app]; rfl, fun z hz => ?_⟩, by rw [List.length_append, lw]; show _ + 1 ≤ _; omega, OkC0.snoc (fun z hz => ok z (sub.subset hz)) w0 (by omega) (by omega) (by omega), hs.mono (by omega), D⟩
        rcases List.mem_append.mp hz with h | h
        · exact hp.2 z (sub.subset h)
        · rw [List.mem_singleton.mp h]
          exact eT0
      all_goals
        refine ⟨_, rfl, rfl, _, rfl, ite2 (fun _ => ?_) (fun _ => ?_)⟩
        · refine fun L ws H4 s4 hL hpw ew => ?_
          refine ⟨_, rfl, _, rfl, L, _, rfl, SqL.of hpw.1, fun p1 hp1 => ?_⟩
          have ok2 : OkC0 ws := fun z hz => by
            have : ∀ p ∈ prs ws, 0 < p.1 ∧ p.1 ≤ 10 ^ 37 ∧ 0 ≤ p.2 ∧ p.2 < 10 ^ 10 := by
              rw [ew]
              decide
            exact this z.2 (List.mem_map.mpr ⟨z, hz, rfl⟩)
          have ec : cutV (refsZ ws) none (some (c : Int)) = refsZ (ws.take c) := by rw [cut_head (by omega), Int.toNat_natCast, refsZ_take]
          rw [ec]
          generalize hX_ : upd _ p1 _ = H5; have sp1 := Same.of_upd hX_ hp1; have ep1 := upd_of hX_; clear hX_
          replace hs := hs.same (s4.trans sp1); replace D := D.then (s4.trans sp1)
          exact ⟨p1, ws.take c, _, _, _, _, _, _, _, rfl, ⟨ep1, fun z hz => sp1 _ _ (hpw.2 z (List.mem_of_mem_take hz))⟩, by rw [List.length_take]; omega, fun z hz => ok2 z (List.mem_of_mem_take hz), hs.mono (by omega), D⟩
        refine ⟨_, rfl, rfl, _, rfl, ite2 (fun _ => ?_) (fun _ => ?_)⟩
        · refine ⟨_, _, rfl, rfl, ⟨by decide, by decide, by decide⟩, _, _, rfl, rfl, _, _, rfl, rfl, ⟨by decide, by decide, by decide⟩, _, _, rfl, rfl, _, _, rfl, rfl, ⟨by decide, by decide, by decide⟩, _, _, rfl, rfl, ⟨by decide, by decide, by decide⟩, _, _, rfl, rfl, mw (by decide) (by decide) (by decide) (by decide), _, _, rfl, rfl, ⟨by decide, by decide, by decide⟩, _, _, rfl, rfl, ⟨by decide, by decide, by decide⟩, _, _, rfl, rfl, (by show 6 ≤ sizeLine; decide), fun G hG => ?_⟩
          have nG := ne_src hs hG
          generalize hX_ : upd _ G _ = H4; have sG := Same.of_upd hX_ hG; have eG := upd_of hX_; clear hX_
          replace hs := hs.same (sG); replace D := D.then (sG)
          obtain ⟨gs, hgs⟩ : ∃ gs : List V, gs = [.int (10 ^ 9 + 7), .int (2 ^ 61 - 1), .int (10 ^ 18), .int (6 * 10 ^ 17), .int (3 ^ 20), .int (10 ^ 37 - 1)] := ⟨_, rfl⟩
          have eG : H4 G = some (.lst gs) := by rw [hgs]; exact eG
          have all : ∀ x ∈ gs, Btw 1 (10 ^ 37) x := by
            rw [hgs]
            simp only [List.forall_mem_cons]
            refine ⟨⟨_, rfl, ?_, ?_⟩, ⟨_, rfl, ?_, ?_⟩, ⟨_, rfl, ?_, ?_⟩, ⟨_, rfl, ?_, ?_⟩, ⟨_, rfl, ?_, ?_⟩, ⟨_, rfl, ?_, ?_⟩, fun _ h => nomatch h⟩ <;> decide
          have lg : (gs.length : Int) = 6 := by rw [hgs]; rfl
          clear hgs
          refine ⟨_, rfl, c, rfl, by omega, by omega, fun F2 hF2 => lc_range (lo := 0) (n := c) (fun i H' => ∃ zs, Src H' s (n + 2 + 2 * i) ∧ Dr s H H' ∧ H' G = some (.lst gs) ∧ PairsA H' F2 zs ∧ zs.length = i ∧ OkC0 zs) ⟨[], hs.same (same_new hF2), D.then (same_new hF2), same_new hF2 _ _ eG, ⟨upd_same, fun _ h => nomatch h⟩, rfl, fun _ h => (nomatch h)⟩ ?_ ?_⟩
          · have hF2' := hs.free D hF2
            have nF2 : G ≠ F2 := fun e => by
              rw [e, hF2] at eG
              cases eG
            clear hs hp eG
            rintro i H5 hi ⟨zs, hs, D, eG, hp, lz, ok⟩
            refine ⟨rfl, ?_⟩
            refine ⟨_, rfl, _, rfl, _, _, _, rfl, hs, by omega, by first | decide | omega, by first | decide | omega, fun u H6 u0 u1 hs1 d1 => ?_⟩
            replace hp := hp.dr hs d1; replace eG := d1 _ _ eG nG; replace D := D.trans d1; replace hs := hs1; clear hs1 d1
            obtain ⟨x, hx, z, rfl, z0, z1⟩ := pick all u0 (by omega)
            refine ⟨G, _, _, _, rfl, rfl, SqL.of eG, hx, ?_⟩
            refine ⟨_, rfl, _, _, rfl, rfl, ⟨by decide, by decide, by decide⟩, _, _, _, rfl, hs, by omega, by first | decide | omega, by first | decide | omega, fun w H7 w0 w1 hs1 d1 => ?_⟩
            replace hp := hp.dr hs d1; replace eG := d1 _ _ eG nG; replace D := D.trans d1; replace hs := hs1; clear hs1 d1
            have w1 : w < 10 ^ 9 := w1
            refine ⟨(by show 2 ≤ sizeLine; decide), fun T0 hT0 => ?_⟩
            obtain ⟨c1, c2, c3, c4⟩ := cstep z w hs D hp hF2' hT0
            exact ⟨_, c1, by rw [refsZ_len, lz]; exact Nat.lt_of_lt_of_le (show i < 12 by omega) (by decide), _, c2.mono (by omega), c3, by rw [upd_ne nF2]; exact same_new hT0 _ _ eG, c4, by rw [List.length_append, lz]; rfl, ok.snoc (by omega) z1 w0 (by omega)⟩
          · rintro H5 ⟨zs, hs, D, _, hp, lz, ok⟩
            exact ⟨F2, zs, _, _, _, _, _, _, _, rfl, hp, by omega, ok, hs.mono (by omega), D⟩
        refine ⟨_, rfl, rfl, _, rfl, ite2 (fun _ => ?_) (fun _ => ?_)⟩
        · refine ⟨(by show 3 ≤ sizeLine; decide), fun G hG => ?_⟩
          have nG := ne_src hs hG
          generalize hX_ : upd _ G _ = H4; have sG := Same.of_upd hX_ hG; have eG := upd_of hX_; clear hX_
          replace hs := hs.same (sG); replace D := D.then (sG)
          refine ⟨_, rfl, _, _, _, rfl, hs, by omega, by first | decide | omega, by first | decide | omega, fun u H5 u0 u1 hs1 d1 => ?_⟩
          replace eG := d1 _ _ eG nG; replace D := D.trans d1; replace hs := hs1; clear hs1 d1
          obtain ⟨x, hx, z, rfl, z0, z1⟩ := pick (items := [.int 6, .int 10, .int 12]) (R := Btw 6 12) (by simp only [List.forall_mem_cons]; refine ⟨⟨_, rfl, ?_, ?_⟩, ⟨_, rfl, ?_, ?_⟩, ⟨_, rfl, ?_, ?_⟩, fun _ h => nomatch h⟩ <;> decide) u0 u1
          refine ⟨G, _, _, _, rfl, rfl, SqL.of eG, hx, ?_⟩
          refine ⟨_, rfl, c, rfl, by omega, by omega, fun F2 hF2 => lc_range (lo := 0) (n := c) (fun i H' => ∃ zs, Src H' s (n + 3 + 2 * i) ∧ Dr s H H' ∧ PairsA H' F2 zs ∧ zs.length = i ∧ OkC0 zs) ⟨[], hs.same (same_new hF2), D.then (same_new hF2), ⟨upd_same, fun _ h => nomatch h⟩, rfl, fun _ h => (nomatch h)⟩ ?_ ?_⟩
          · have hF2' := hs.free D hF2
            clear hs hp eG
            rintro i H6 hi ⟨zs, hs, D, hp, lz, ok⟩
            refine ⟨rfl, ?_⟩
            refine ⟨_, rfl, _, rfl, _, _, _, rfl, hs, by omega, by first | decide | omega, by first | decide | omega, fun w H7 w0 w1 hs1 d1 => ?_⟩
            replace hp := hp.dr hs d1; replace D := D.trans d1; replace hs := hs1; clear hs1 d1
            have q0 : 0 < z / (1 + w) := div_small z w z0 z1 w0 w1
            have q1 : z / (1 + w) ≤ z := Int.ediv_le_self _ (by omega)
            refine ⟨_, _, rfl, rfl, _, _, rfl, rfl, dvw (by omega) (by omega), _, rfl, _, rfl, _, _, z, rfl, hs, by omega, by omega, by omega, fun x H8 x0 x1 hs1 d1 => ?_⟩
            replace hp := hp.dr hs d1; replace D := D.trans d1; replace hs := hs1; clear hs1 d1
            refine ⟨(by show 2 ≤ sizeLine; decide), fun T0 hT0 => ?_⟩
            obtain ⟨c1, c2, c3, c4⟩ := cstep (z / (1 + w)) x hs D hp hF2' hT0
            exact ⟨_, c1, by rw [refsZ_len, lz]; exact Nat.lt_of_lt_of_le (show i < 12 by omega) (by decide), _, c2.mono (by omega), c3, c4, by rw [List.length_append, lz]; rfl, ok.snoc q0 (by omega) x0 (by omega)⟩
          · rintro H6 ⟨zs, hs, D, hp, lz, ok⟩
            exact ⟨F2, zs, _, _, _, _, _, _, _, rfl, hp, by omega, ok, hs, D⟩
        refine ⟨_, rfl, rfl, _, rfl, ite2 (fun _ => ?_) (fun _ => ?_)⟩
        · refine ⟨_, rfl, c, rfl, by omega, by omega, fun F2 hF2 => lc_range (lo := 0) (n := c) (fun i H' => ∃ zs, Src H' s (n + 2 + 2 * i) ∧ Dr s H H' ∧ PairsA H' F2 zs ∧ zs.length = i ∧ OkC0 zs) ⟨[], hs.same (same_new hF2), D.then (same_new hF2), ⟨upd_same, fun _ h => nomatch h⟩, rfl, fun _ h => (nomatch h)⟩ ?_ ?_⟩
          · have hF2' := hs.free D hF2
            clear hs hp
            rintro i H6 hi ⟨zs, hs, D, hp, lz, ok⟩
            refine ⟨rfl, ?_⟩
            refine ⟨_, rfl, _, _, _, rfl, hs, by omega, by first | decide | omega, by first | decide | omega, fun w H7 w0 w1 hs1 d1 => ?_⟩
            replace hp := hp.dr hs d1; replace D := D.trans d1; replace hs := hs1; clear hs1 d1
            refine ⟨_, _, rfl, rfl, _, rfl, _, _, _, rfl, hs, by omega, by first | decide | omega, by first | decide | omega, fun x H8 x0 x1 hs1 d1 => ?_⟩
            replace hp := hp.dr hs d1; replace D := D.trans d1; replace hs := hs1; clear hs1 d1
            refine ⟨(by show 2 ≤ sizeLine; decide), fun T0 hT0 => ?_⟩
            obtain ⟨c1, c2, c3, c4⟩ := cstep (1 + w) x hs D hp hF2' hT0
            exact ⟨_, c1, by rw [refsZ_len, lz]; exact Nat.lt_of_lt_of_le (show i < 12 by omega) (by decide), _, c2.mono (by omega), c3, c4, by rw [List.length_append, lz]; rfl, ok.snoc (by omega) (by omega) x0 (by omega)⟩
          · rintro H6 ⟨zs, hs, D, hp, lz, ok⟩
            exact ⟨F2, zs, _, _, _, _, _, _, _, rfl, hp, by omega, ok, hs.mono (by omega), D⟩
        exact ⟨F, zs, _, _, _, _, _, _, _, rfl, hp, by omega, ok, hs.mono (by omega), D⟩
    · clear hs hp lz ok D
      rintro σ H4 ⟨F, zs, v5, v6, v7, v8, v9, v10, v11, rfl, hp, lz, ok, hs, D⟩
      -- by
      refine ⟨_, rfl, _, _, _, rfl, hs, by omega, by first | decide | omega, by first | decide | omega, fun u H5 u0 u1 hs1 d1 => ?_⟩
      replace hp := hp.dr hs d1; replace D := D.trans d1; replace hs := hs1; clear hs1 d1
      refine ⟨_, _, rfl, rfl, _, rfl, _, _, rfl, rfl, ⟨by decide, by decide, by decide⟩, _, _, _, rfl, hs, by omega, by first | decide | omega, by first | decide | omega, fun w H6 w0 w1 hs1 d1 => ?_⟩
      replace hp := hp.dr hs d1; replace D := D.trans d1; replace hs := hs1; clear hs1 d1
      have w1 : w < 10 ^ 9 := w1
      refine ⟨_, _, rfl, rfl, ⟨by decide, by decide, by decide⟩, _, _, rfl, rfl, _, _, rfl, rfl, ⟨by decide, by decide, by decide⟩, _, _, rfl, rfl, mw (by show -(2 ^ 200) < w - 10 ^ 8; omega) (by show w - 10 ^ 8 < 2 ^ 200; omega) (by decide) (by decide), (by show 3 ≤ sizeLine; decide), fun G hG => ?_⟩
      have nG := ne_src hs hG
      generalize hX_ : upd _ G _ = H7; have sG := Same.of_upd hX_ hG; have eG := upd_of hX_; clear hX_
      replace hp := hp.same (sG); replace hs := hs.same (sG); replace D := D.then (sG)
      refine ⟨_, rfl, _, _, _, rfl, hs, by omega, by first | decide | omega, by first | decide | omega, fun t H8 t0 t1 hs1 d1 => ?_⟩
      replace hp := hp.dr hs d1; replace eG := d1 _ _ eG nG; replace D := D.trans d1; replace hs := hs1; clear hs1 d1
      obtain ⟨x, hx, by_, rfl, b0, b1⟩ := pick (items := [.int 0, .int (u - 50), .int ((w - 10 ^ 8) * 10 ^ 30)]) (R := Btw (-(10 ^ 39)) (10 ^ 39)) (by simp only [List.forall_mem_cons]; refine ⟨⟨_, rfl, ?_, ?_⟩, ⟨_, rfl, ?_, ?_⟩, ⟨_, rfl, ?_, ?_⟩, fun _ h => nomatch h⟩ <;> omega) t0 t1
      refine ⟨G, _, _, _, rfl, rfl, SqL.of eG, hx, ?_⟩
      clear hx eG nG sG hG u0 u1 w0 w1 t0 t1
      -- turn
      refine ⟨_, rfl, _, _, rfl, rfl, _, rfl, ite2 (fun hc => ?tpos) (fun _ => ?tnil)⟩
      case' tpos =>
        have hc : (0 : Int) < c := of_decide_eq_true hc
        refine ⟨_, rfl, _, rfl, _, _, (c : Int), rfl, hs, by omega, by omega, by omega, fun tv H9 tv0 tv1 hs1 d1 => ?_⟩
        replace hp := hp.dr hs d1; replace D := D.trans d1; replace hs := hs1; clear hs1 d1
        have hs := hs.mono (show _ ≤ n + 39 by omega)
        have tm : ∃ tz : Int, tz = tv := ⟨_, rfl⟩
      case' tnil =>
        have hs := hs.mono (show _ ≤ n + 39 by omega)
        have tm : ∃ tz : Int, tz = 0 := ⟨_, rfl⟩
      all_goals
        obtain ⟨tz, htz⟩ := tm
        obtain ⟨ws, vs, e1, e2, sub1, sub2, lw⟩ := cut_turn zs tz
        rw [htz] at e1 e2
        refine ⟨_, rfl, _, rfl, _, rfl, F, _, rfl, SqL.of hp.1, fun p1 hp1 => ?_⟩
        generalize hX_ : upd _ p1 _ = HA; have sp1 := Same.of_upd hX_ hp1; have ep1 := upd_of hX_; clear hX_
        rw [e1] at ep1
        replace hp := hp.same (sp1); replace hs := hs.same (sp1); replace D := D.then (sp1)
        refine ⟨_, rfl, _, rfl, _, rfl, F, _, rfl, SqL.of hp.1, fun p2 hp2 => ?_⟩
        generalize hX_ : upd _ p2 _ = HB; have sp2 := Same.of_upd hX_ hp2; have ep2 := upd_of hX_; clear hX_
        rw [e2] at ep2
        replace hp := hp.same (sp2); replace hs := hs.same (sp2); replace D := D.then (sp2); replace ep1 := (sp2) _ _ ep1
        refine ⟨p1, p2, _, _, rfl, rfl, SqL.of ep1, SqL.of ep2, ?_, fun p3 hp3 => ?_⟩
        · rw [refsZ_len, refsZ_len]
          exact Nat.le_trans (show _ ≤ 20 by omega) (by decide)
        rw [refsZ_app]
        generalize hX_ : upd _ p3 _ = HC; have sp3 := Same.of_upd hX_ hp3; have ep3 := upd_of hX_; clear hX_
        replace hp := hp.same (sp3); replace hs := hs.same (sp3); replace D := D.then (sp3)
        have lU : (ws ++ vs).length ≤ c := by rw [List.length_append]; omega
        have mU : ∀ z ∈ ws ++ vs, z ∈ zs := fun z hz => (List.mem_append.mp hz).elim (fun h => sub1.subset h) fun h => sub2.subset h
        have hU : PairsA HC p3 (ws ++ vs) := ⟨ep3, fun z hz => hp.2 z (mU z hz)⟩
        have okU : OkC0 (ws ++ vs) := fun z hz => ok z (mU z hz)
        generalize ws ++ vs = us at *
        clear hp sub1 sub2 e1 e2 ep1 ep2 ep3 sp1 sp2 sp3 hp1 hp2 hp3 mU ok
        refine ⟨p3, rfl, ⟨_, SqL.of hU.1⟩, fun B hB => lc_list (K := K) (a := p3) (xs := refsZ us) (fun i H' => Same HC H' ∧ ∃ zs, PairsA H' B zs ∧ zs.length = i ∧ OkC zs) ⟨same_new hB, [], ⟨upd_same, fun _ h => nomatch h⟩, rfl, fun _ h => (nomatch h)⟩ (fun i H' _ ⟨s2, _⟩ => SqL.of (s2 _ _ hU.1)) (fun i x HD hi ⟨s2, zs, hp, lz, ok⟩ => ?_) (fun HD ⟨s2, zs, hp, lz, ok⟩ => ?_)⟩
        · obtain ⟨z, hz, rfl⟩ := get_map hi
          have mz := List.mem_of_getElem? hz
          obtain ⟨k0, k1, k2, k3⟩ := okU z mz
          have hil := (List.getElem?_eq_some_iff.mp hz).1
          refine ⟨z.1, _, rfl, SqT.of (s2 _ _ (hU.2 z mz)), rfl, _, _, rfl, _, _, rfl, rfl, rfl, ?_⟩
          refine ⟨_, rfl, _, rfl, _, rfl, _, _, rfl, rfl, (by show 2 ≤ sizeLine; decide), fun T0 hT0 => ?_⟩
          have sT := same_new (o := .tup [.int z.2.1, .int (z.2.2 + by_)]) hT0
          have hpT := hp.same sT
          refine ⟨_, hpT.1, by rw [refsZ_len, lz]; exact Nat.lt_of_lt_of_le (show i < 20 by omega) (by decide), same_at (s2.trans sT) hB, _, pairs_app hpT upd_same, by rw [List.length_append, lz]; rfl, fun y hy => ?_⟩
          rcases List.mem_append.mp hy with h | h
          · exact ok y h
          · rw [List.mem_singleton.mp h]
            exact ⟨k0, k1, by show -(10 ^ 40) < z.2.2 + by_; omega, by show z.2.2 + by_ < 10 ^ 40; omega⟩
        · rw [refsZ_len] at lz
          exact q B zs HD hp (hs.free D hB) (by omega) ok ((hs.same s2).mono (by omega)) (D.then s2)
end

section
variable {P : Program} {w : World} {K : PySem.W.Frag} {mg : Str → Option Value} {base : Heap}
theorem OkC0.c {zs : PZ} (h : OkC0 zs) : OkC zs := fun z hz => by
  obtain ⟨a, b, c, d⟩ := h z hz
  exact ⟨a, b, by omega, by omega⟩
theorem two_big {n : Nat} (h : n < 2 ^ 7) : n < 2 ^ 10000 := Nat.lt_of_lt_of_le h (Nat.pow_le_pow_right (by decide) (by decide))
theorem big_ok {n : Nat} (h : n < 2 ^ 200) : n < 2 ^ 10000 := Nat.lt_of_lt_of_le h (Nat.pow_le_pow_right (by decide) (by decide))
theorem iteD {p : Prop} [Decidable p] {A B : Prop} (h : p) (a : A) : if decide p = true then A else B := by rw [if_pos (decide_eq_true h)]; exact a
theorem iteE {p : Prop} [Decidable p] {A B : Prop} (h : ¬ p) (b : B) : if decide p = true then A else B := by rw [if_neg (by rw [decide_eq_false h]; exact Bool.false_ne_true)]; exact b
theorem iteM {p : Prop} [Decidable p] {A B : Prop} (h : p) (b : B) : if (!decide p) = true then A else B := by rw [if_neg (by rw [decide_eq_true h]; exact Bool.false_ne_true)]; exact b
theorem ne_z {z : Int} : V.bl (!decide (V.int z = V.int z)) = V.bl false := by rw [decide_eq_true rfl]; rfl
theorem ne_f {z y : Int} (h : z = y) : V.bl (!decide (V.int z = V.int y)) = V.bl false := by rw [h]; exact ne_z
def spBeatC : Sp := fun vs H Q _ => ∃ (s : Addr) (n : Nat), vs = [.ref s] ∧ Src H s n ∧ n < 500000 ∧
  ∀ z H', z.natAbs ≤ 10 ^ 39 → Src H' s (n + 4) → Dr s H H' → Q (.int z) H'
theorem ok_l_beat (T : Top K mg) : FnOk P w K mg base CX0 3 T.f_l_beat T.d_l_beat ["_law_source_here"] spBeatC := by
  have G_l_take := ok_l_take (P := P) (w := w) (base := base) T
  refine T.F_l_beat.ok sc_l_beat (fun vs H Q E h => ?_) (fun cdv A outer s H vs Q E hr h => ?_)
  · obtain ⟨s, n, rfl, _⟩ := h; rfl
  · obtain ⟨s, n, rfl, hs, hn, q⟩ := h
    refine ⟨_, (pss_cons (ps_set (i := 1) sc_l_beat.nd rfl (Or.inl rfl) (pe_op op_sub (pe_call G_l_take (hr.mono (by decide)) rfl T.g_l_take T.F_l_take.kp T.b_l_take .nil pass0 (pa_cons (pv 0) (pa_cons pe_int pa_nil))) pe_int))
      (pss_cons (ps_set (i := 2) sc_l_beat.nd rfl (Or.inl rfl) (pe_op op_add (pe_op op_mulW (pe_call G_l_take (hr.mono (by decide)) rfl T.g_l_take T.F_l_take.kp T.b_l_take .nil pass0 (pa_cons (pv 0) (pa_cons (pe_op op_pow pe_int pe_int) pa_nil))) (pe_op op_pow pe_int pe_int)) (pe_call G_l_take (hr.mono (by decide)) rfl T.g_l_take T.F_l_take.kp T.b_l_take .nil pass0 (pa_cons (pv 0) (pa_cons (pe_op op_pow pe_int pe_int) pa_nil)))))
      (pss_one (ps_ret (pe_ix ix_list (pe_lst (pa_cons (pv 1) (pa_cons (pv 2) (pa_cons (pe_op op_sub pe_int (pv 2)) (pa_cons (pv 1) pa_nil))))) (pe_call G_l_take (hr.mono (by decide)) rfl T.g_l_take T.F_l_take.kp T.b_l_take .nil pass0 (pa_cons (pv 0) (pa_cons pe_int pa_nil))) (fun _ _ => rfl)))))), ?_⟩
    have D := Dr.refl s H
    refine ⟨_, rfl, _, _, _, rfl, hs, by omega, by first | decide | omega, by first | decide | omega, fun x H1 x0 x1 hs1 d1 => ?_⟩
    replace D := D.trans d1; replace hs := hs1; clear hs1 d1
    refine ⟨_, _, rfl, rfl, _, rfl, _, _, rfl, rfl, ⟨by decide, by decide, by decide⟩, _, _, _, rfl, hs, by omega, by first | decide | omega, by first | decide | omega, fun y H2 y0 y1 hs1 d1 => ?_⟩
    replace D := D.trans d1; replace hs := hs1; clear hs1 d1
    have y1 : y < 10 ^ 9 := y1
    refine ⟨_, _, rfl, rfl, ⟨by decide, by decide, by decide⟩, _, _, rfl, rfl, mw (by omega) (by omega) (by decide) (by decide), _, rfl, _, _, rfl, rfl, ⟨by decide, by decide, by decide⟩, _, _, _, rfl, hs, by omega, by first | decide | omega, by first | decide | omega, fun u H3 u0 u1 hs1 d1 => ?_⟩
    replace D := D.trans d1; replace hs := hs1; clear hs1 d1
    have u1 : u < 10 ^ 9 := u1
    have eM : (10 : Int) ^ (29 : Int).toNat = 10 ^ 29 := rfl
    refine ⟨_, _, rfl, rfl, _, rfl, _, rfl, _, rfl, _, _, rfl, rfl, _, rfl, (by show 4 ≤ sizeLine; decide), fun G hG => ?_⟩
    have nG := ne_src hs hG
    generalize hX_ : upd _ G _ = H4; have sG := Same.of_upd hX_ hG; have eG := upd_of hX_; clear hX_
    replace hs := hs.same (sG); replace D := D.then (sG)
    refine ⟨_, rfl, _, _, _, rfl, hs, by omega, by first | decide | omega, by first | decide | omega, fun t H5 t0 t1 hs1 d1 => ?_⟩
    replace eG := d1 _ _ eG nG; replace D := D.trans d1; replace hs := hs1; clear hs1 d1
    obtain ⟨x, hx, z, rfl, b0, b1⟩ := pick (items := [.int (x - 100), .int (y * 10 ^ 29 + u), .int (0 - (y * 10 ^ 29 + u)), .int (x - 100)]) (R := Btw (-(10 ^ 39)) (10 ^ 39)) (by simp only [List.forall_mem_cons]; refine ⟨⟨_, rfl, ?_, ?_⟩, ⟨_, rfl, ?_, ?_⟩, ⟨_, rfl, ?_, ?_⟩, ⟨_, rfl, ?_, ?_⟩, fun _ h => nomatch h⟩ <;> omega) t0 t1
    refine ⟨G, _, _, _, rfl, rfl, SqL.of eG, hx, q z H5 (by omega) hs D⟩
def spLightC (C CG : Addr) : Sp := fun vs H Q _ => ∃ (L : Addr) (zs : PZ), vs = [.ref L] ∧ PairsA H L zs ∧ OkZ zs ∧ zs.length ≤ 10 ∧
  ∀ g H', Same H H' → H g = none → LightAt C CG H' g 250 ((prs zs).map nrm) → Q (.ref g) H'
theorem ok_l_light (T : Top K mg) : FnOk P w K mg base CX0 7 T.f_l_light T.d_l_light ["_law_pairs"] (spLightC T.C_Lamp T.C_Light) := by
  have G_Lamp_init := ok_Lamp_init (P := P) (w := w) (base := base) T
  have G_Light_init := ok_Light_init (P := P) (w := w) (base := base) T
  refine T.F_l_light.ok sc_l_light (fun vs H Q E h => ?_) (fun cdv A outer s H vs Q E hr h => ?_)
  · obtain ⟨L, zs, rfl, _⟩ := h; rfl
  · obtain ⟨L, zs, rfl, ⟨hL, hT⟩, ok, hn, q⟩ := h
    refine ⟨_, (pss_one (ps_ret (pe_make T.mk_Light G_Light_init (hr.mono (by decide)) (by rfl) T.gC_Light T.b_Light_init .nil pass0 (pa_cons (pe_lc (own := [("_law_period", 1), ("_law_beat_here", 2)]) (g := gTup K 2 (gCons (gName 1) (gCons (gName 2) gNil))) (by rfl) sc_l_light.nd (pi_list (pv 0)) (blkOk_by (own := [("_law_period", 1), ("_law_beat_here", 2)]) (N := ["_law_pairs", "_law_period", "_law_beat_here"]) (sc := defScope s_l_light) (by decide +kernel)) (fun _ _ _ _ _ => by exact (pg_tupB (K := K) rfl (by rfl) (pgs_cons (pg_name (i := 1) sc_l_light.nd rfl (Or.inl rfl)) (pgs_cons (pg_name (i := 2) sc_l_light.nd rfl (Or.inl rfl)) pgs_nil)))) (fun _ _ _ _ _ => by exact (pts_nil)) (fun _ _ _ _ _ => by exact (pe_make T.mk_Lamp G_Lamp_init (hr.mono (by decide)) (by rfl) T.gC_Lamp T.b_Lamp_init .nil pass0 (pa_cons (pv 1) (pa_cons (pv 2) pa_nil))))) pa_nil)))), ?_⟩
    refine ⟨_, rfl, L, rfl, ⟨_, SqL.of hL⟩, fun D hD => lc_list (K := K) (a := L) (xs := refsZ zs) (fun i H' => Same H H' ∧ ∃ ys, H' D = some (.lst ys) ∧ AllL T.C_Lamp H' 250 ys (((prs zs).map nrm).take i))
      ⟨same_new hD, [], upd_same, rfl, fun i v l h => by cases h⟩ (fun i H' _ ⟨s2, _⟩ => SqL.of (s2 _ _ hL)) (fun i x H' hi ⟨s2, ys, hD', ha'⟩ => ?_) (fun H' ⟨s2, ys, hD', ha'⟩ => ?_)⟩
    · obtain ⟨z, hz, rfl⟩ := get_map hi
      have mz := List.mem_of_getElem? hz
      have hT2 := s2 _ _ (hT z mz)
      obtain ⟨p0, p1⟩ := ok z mz
      refine ⟨z.1, _, rfl, SqT.of hT2, rfl, _, _, rfl, _, _, rfl, rfl, rfl, ?_⟩
      refine ⟨_, rfl, _, rfl, ?_⟩
      intro x dx nx ndx nex; refine ⟨x, dx, z.2.1, z.2.2, rfl, upd_same, p0, fun H3 hx kx => ⟨rfl, ?_⟩⟩; have sx := Same.made nx ndx kx; clear kx nex ndx
      have hD3 := sx _ _ hD'
      refine ⟨ys, hD3, ?_, same_at (s2.trans sx) hD, _, upd_same, ?_⟩
      · rw [ha'.1, List.length_take, List.length_map]
        unfold prs
        rw [List.length_map]
        exact Nat.lt_of_lt_of_le (show min i zs.length < 11 by omega) (by decide)
      · have el : ((prs zs).map nrm)[i]? = some (nrm z.2) := by
          unfold prs
          rw [List.getElem?_map, List.getElem?_map, hz]
          rfl
        rw [List.take_succ, el]
        refine AllL.more (AllL.mut (ha'.same sx) hD3) (OAt.mut ⟨x, rfl, hx, p0, Int.emod_nonneg _ (by show z.2.1 ≠ 0; omega), Int.emod_lt_of_pos _ p0, ?_⟩ hD3)
        show z.2.1.natAbs < 2 ^ 250
        omega
    · have len : (refsZ zs).length = ((prs zs).map nrm).length := by unfold refsZ prs; rw [List.length_map, List.length_map, List.length_map]
      rw [len, List.take_length] at ha'
      refine make_light rfl hD' ha' (by rw [← len]; unfold refsZ; rw [List.length_map]; exact hn) fun g H3 hg s3 hl => ?_
      exact q g H3 (s2.trans s3) (back_none s2 hg) hl
end

section
variable {P : Program} {w : World} {K : PySem.W.Frag} {mg : Str → Option Value} {base : Heap}
def spBrightL (C CG : Addr) : Sp := fun vs H Q _ => ∃ (g : Addr) (b e : Int) (k : Nat) (ls : List (Int × Int)), vs = [.ref g, .int b, .int e] ∧ LightAt C CG H g k ls ∧ ls.length ≤ 10 ∧ k ≤ 700 ∧ (e - b).toNat < 2 ^ 10000 ∧
  ∀ H', Same H H' → Q (.int (e - b - justN ls b (e - b).toNat 0)) H'
theorem ok_l_bright (T : Top K mg) : FnOk P w K mg base CX0 9 T.f_l_bright T.d_l_bright ["_law_seen", "_law_start", "_law_last"] (spBrightL T.C_Lamp T.C_Light) := by
  have G_dark_between := ok_dark_between (P := P) (w := w) (base := base) T
  refine T.F_l_bright.ok sc_l_bright (fun vs H Q E h => ?_) (fun cdv A outer s H vs Q E hr h => ?_)
  · obtain ⟨g, b, e, k, ls, rfl, _⟩ := h; rfl
  · obtain ⟨g, b, e, k, ls, rfl, hg, hn, hk, hd, q⟩ := h
    refine ⟨_, (pss_one (ps_ret (pe_op op_sub (pe_op op_sub (pv 2) (pv 1)) (pe_call G_dark_between (hr.mono (by decide)) rfl T.g_dark_between T.F_dark_between.kp T.b_dark_between .nil pass0 (pa_cons (pv 0) (pa_cons (pv 1) (pa_cons (pv 2) pa_nil))))))), ?_⟩
    exact ⟨_, rfl, _, rfl, _, _, rfl, rfl, _, rfl, _, rfl, _, rfl, g, b, e, k, ls, rfl, hg, hn, hk, hd, fun H1 s1 => ⟨_, _, rfl, rfl, q H1 s1⟩⟩
theorem sum_nn : ∀ {xs : List Int}, (∀ x ∈ xs, 0 ≤ x) → 0 ≤ xs.sum
  | [], _ => Int.le_refl _
  | x :: xs, h => by
    rw [List.sum_cons]
    have := sum_nn fun y hy => h y (List.mem_cons_of_mem _ hy)
    have := h x List.mem_cons_self
    omega
theorem mem_le_sum : ∀ {xs : List Int}, (∀ x ∈ xs, 0 ≤ x) → ∀ y ∈ xs, y ≤ xs.sum
  | x :: xs, h, y, hy => by
    rw [List.sum_cons]
    have h1 := sum_nn fun y hy => h y (List.mem_cons_of_mem _ hy)
    have h0 := h x List.mem_cons_self
    rcases List.mem_cons.mp hy with rfl | hy
    · omega
    · have := mem_le_sum (fun y hy => h y (List.mem_cons_of_mem _ hy)) y hy
      omega
theorem evry_range {α : Type} (f : Nat → α) (m : Nat) : evry ((List.range (2 * m + 1)).map f) = (List.range (m + 1)).map fun j => f (2 * j) := by
  rw [← evry_pick, List.length_map, List.length_range, show (2 * m + 1 + 1) / 2 = m + 1 by omega, List.filterMap_map]
  refine (fm_congr (g := some ∘ _) fun x hx => ?_).trans (congrFun List.filterMap_eq_map _)
  have := List.mem_range.mp hx
  show ((List.range (2 * m + 1)).map f)[2 * x]? = some (f (2 * x))
  rw [List.getElem?_map, List.getElem?_range (by omega)]
  rfl
theorem evry_odd {α : Type} (f : Nat → α) (m : Nat) : evry (((List.range (2 * m + 1)).map f).drop 1) = (List.range m).map fun j => f (2 * j + 1) := by
  rw [← evry_pick, List.length_drop, List.length_map, List.length_range, show (2 * m + 1 - 1 + 1) / 2 = m by omega, List.filterMap_map]
  refine (fm_congr (g := some ∘ _) fun x hx => ?_).trans (congrFun List.filterMap_eq_map _)
  have := List.mem_range.mp hx
  show (((List.range (2 * m + 1)).map f).drop 1)[2 * x]? = some (f (2 * x + 1))
  rw [List.getElem?_drop, List.getElem?_map, List.getElem?_range (by omega), Nat.add_comm]
  rfl
theorem sum_zero {f : Nat → Int} (h : ∀ j, f j = 0) : ∀ l : List Nat, (l.map f).sum = 0
  | [] => rfl
  | j :: l => by rw [List.map_cons, List.sum_cons, h, sum_zero h l]; rfl
theorem diff_bd {b e : Int} (h1 : b.natAbs < 2 ^ 400) (h2 : e.natAbs < 2 ^ 400) : (e - b).toNat < 2 ^ 10000 := by
  refine Nat.lt_of_le_of_lt (show (e - b).toNat ≤ e.natAbs + b.natAbs by omega) (Nat.lt_of_lt_of_le (Nat.add_lt_add h2 h1) ?_)
  rw [show (2 : Nat) ^ 400 + 2 ^ 400 = 2 ^ 401 from rfl]
  exact Nat.pow_le_pow_right (by decide) (by decide)
def spShinesL : Sp := fun vs H Q _ => ∃ (L : Addr) (zs : PZ) (b e : Int), vs = [.ref L, .int b, .int e] ∧ PairsA H L zs ∧ OkC zs ∧ zs.length ≤ 10 ∧ b.natAbs < 2 ^ 400 ∧ e.natAbs < 2 ^ 400 ∧
  ∀ H', Same H H' → Q (.int ((prs zs).map fun p => (e - 1 - p.2) / p.1 - (b - 1 - p.2) / p.1).sum) H'
theorem ok_l_shines (T : Top K mg) : FnOk P w K mg base CX0 1 T.f_l_shines T.d_l_shines ["_law_pairs", "_law_start", "_law_last"] spShinesL := by
  refine T.F_l_shines.ok sc_l_shines (fun vs H Q E h => ?_) (fun cdv A outer s H vs Q E hr h => ?_)
  · obtain ⟨L, zs, b, e, rfl, _⟩ := h; rfl
  · obtain ⟨L, zs, b, e, rfl, hp, ok, hn, b1, b2, q⟩ := h
    refine ⟨_, (pss_one (ps_ret (pe_callB (cr_sum rfl) (by rfl) T.n_sum (by decide +kernel) (pa_cons (pe_lc (own := [("_law_period", 3), ("_law_beat_here", 4)]) (g := gTup K 2 (gCons (gName 3) (gCons (gName 4) gNil))) (by rfl) sc_l_shines.nd (pi_list (pv 0)) (blkOk_by (own := [("_law_period", 3), ("_law_beat_here", 4)]) (N := ["_law_pairs", "_law_start", "_law_last", "_law_period", "_law_beat_here"]) (sc := defScope s_l_shines) (by decide +kernel)) (fun _ _ _ _ _ => by exact (pg_tupB (K := K) rfl (by rfl) (pgs_cons (pg_name (i := 3) sc_l_shines.nd rfl (Or.inl rfl)) (pgs_cons (pg_name (i := 4) sc_l_shines.nd rfl (Or.inl rfl)) pgs_nil)))) (fun _ _ _ _ _ => by exact (pts_nil)) (fun _ _ _ _ _ => by exact (pe_op op_sub (pe_op op_fdivW (pe_op op_sub (pe_op op_sub (pv 2) pe_int) (pv 4)) (pv 3)) (pe_op op_fdivW (pe_op op_sub (pe_op op_sub (pv 1) pe_int) (pv 4)) (pv 3))))) pa_nil)))), ?_⟩
    have big : ∀ {z : Addr × Int × Int}, z ∈ zs → 0 < z.2.1 ∧ z.2.1.natAbs < 2 ^ 400 := fun hz => by
      obtain ⟨k0, k1, _⟩ := ok _ hz
      exact ⟨k0, Nat.lt_of_le_of_lt (show _ ≤ 10 ^ 37 by omega) (by decide +kernel)⟩
    refine ⟨_, rfl, L, rfl, ⟨_, SqL.of hp.1⟩, fun D hD => lc_list (K := K) (a := L) (xs := refsZ zs) (fun i H' => Same H H' ∧ H' D = some (.lst ((((prs zs).take i).map fun p => (e - 1 - p.2) / p.1 - (b - 1 - p.2) / p.1).map V.int))) ⟨same_new hD, upd_same⟩ (fun i H' _ ⟨s1, _⟩ => SqL.of (s1 _ _ hp.1)) (fun i x H1 hi ⟨s1, e1⟩ => ?_) (fun H1 ⟨s1, e1⟩ => ?_)⟩
    · obtain ⟨z, hz, rfl⟩ := get_map hi
      have mz := List.mem_of_getElem? hz
      obtain ⟨p0, pb⟩ := big mz
      have el : (prs zs)[i]? = some z.2 := by unfold prs; rw [List.getElem?_map, hz]; rfl
      refine ⟨z.1, _, rfl, SqT.of (s1 _ _ (hp.2 z mz)), rfl, _, _, rfl, _, _, rfl, rfl, rfl, ?_⟩
      refine ⟨_, rfl, _, _, rfl, rfl, _, rfl, _, _, rfl, rfl, _, rfl, _, _, rfl, rfl, wide_div (b := 400) p0 pb (by decide) (by decide), ?_⟩
      refine ⟨_, rfl, _, _, rfl, rfl, _, rfl, _, _, rfl, rfl, _, rfl, _, _, rfl, rfl, wide_div (b := 400) p0 pb (by decide) (by decide), _, _, rfl, rfl, _, e1, ?_, same_at s1 hD, ?_⟩
      · have h1 := List.length_take_le' i (prs zs)
        rw [List.length_map, List.length_map]
        exact Nat.lt_of_lt_of_le (show _ < 11 by unfold prs at h1 ⊢; rw [List.length_map] at h1; omega) (by decide)
      · rw [upd_same, List.take_succ, el, List.map_append, List.map_append]
        rfl
    · rw [show (refsZ zs).length = (prs zs).length by unfold prs; rw [refsZ_len, List.length_map], List.take_length] at e1
      exact ⟨D, _, rfl, SqL.of e1, q H1 s1⟩
def spSumsR : Sp := fun vs H Q _ => ∃ (L : Addr) (zs : PZ) (b e : Int), vs = [.ref L, .int b, .int e] ∧ PairsA H L zs ∧ OkC zs ∧ zs.length ≤ 10 ∧ b ≤ e ∧ b.natAbs < 2 ^ 400 ∧ e.natAbs < 2 ^ 400 ∧
  ∀ H', Same H H' → Q (.bl true) H'
theorem ok_l_sums_right (T : Top K mg) : FnOk P w K mg base CX0 8 T.f_l_sums_right T.d_l_sums_right ["_law_pairs", "_law_start", "_law_last"] spSumsR := by
  have G_Lamp_eq := ok_Lamp_eq (P := P) (w := w) (base := base) T
  have G_by_many := ok_by_many (P := P) (w := w) (base := base) T
  have G_l_light := ok_l_light (P := P) (w := w) (base := base) T
  have G_l_shines := ok_l_shines (P := P) (w := w) (base := base) T
  refine T.F_l_sums_right.ok sc_l_sums_right (fun vs H Q E h => ?_) (fun cdv A outer s H vs Q E hr h => ?_)
  · obtain ⟨L, zs, b, e, rfl, _⟩ := h; rfl
  · obtain ⟨L, zs, b, e, rfl, hp, ok, hn, be, b1, b2, q⟩ := h
    refine ⟨_, (pss_cons (ps_set (i := 3) sc_l_sums_right.nd rfl (Or.inl rfl) (pe_call G_by_many (hr.mono (by decide)) rfl T.g_by_many T.F_by_many.kp T.b_by_many .nil pass0 (pa_cons (pe_call G_l_light (hr.mono (by decide)) rfl T.g_l_light T.F_l_light.kp T.b_l_light .nil pass0 (pa_cons (pv 0) pa_nil)) (pa_cons (pv 1) (pa_cons (pv 2) pa_nil)))))
      (pss_cons (ps_if (PW.pt (pw_or (pt_cmpR op_ne (pe_callB (cr_sum rfl) (by rfl) T.n_sum (by decide +kernel) (pa_cons (pv 3) pa_nil)) (pe_op op_sub (pv 2) (pv 1)) (nomark _)) (pw_or1 (pt_cmpR op_lt (pe_callB (cr_min rfl) (by rfl) T.n_min (by decide +kernel) (pa_cons (pv 3) pa_nil)) pe_int (nomark _))))) (pss_one (ps_ret pe_bl)) pss_nil)
      (pss_one (ps_ret (pe_cmpR op_eq (pe_callB (cr_sum rfl) (by rfl) T.n_sum (by decide +kernel) (pa_cons (pe_lc (own := [("_law_many", 4), ("_law_often", 5)]) (g := gTup K 2 (gCons (gName 4) (gCons (gName 5) gNil))) (by rfl) sc_l_sums_right.nd (pi_enum (by rfl) T.n_enumerate (pa_cons (pv 3) pa_nil)) (blkOk_by (own := [("_law_many", 4), ("_law_often", 5)]) (N := ["_law_pairs", "_law_start", "_law_last", "_law_found", "_law_many", "_law_often"]) (sc := defScope s_l_sums_right) (by decide +kernel)) (fun _ _ _ _ _ => by exact (pg_tupB (K := K) rfl (by rfl) (pgs_cons (pg_name (i := 4) sc_l_sums_right.nd rfl (Or.inl rfl)) (pgs_cons (pg_name (i := 5) sc_l_sums_right.nd rfl (Or.inl rfl)) pgs_nil)))) (fun _ _ _ _ _ => by exact (pts_nil)) (fun _ _ _ _ _ => by exact (pe_op op_mulW (pv 4) (pv 5)))) pa_nil)) (pe_call G_l_shines (hr.mono (by decide)) rfl T.g_l_shines T.F_l_shines.kp T.b_l_shines .nil pass0 (pa_cons (pv 0) (pa_cons (pv 1) (pa_cons (pv 2) pa_nil)))) (nomark _)))))), ?_⟩
    have el : ((prs zs).map nrm).length = zs.length := by rw [List.length_map]; unfold prs; rw [List.length_map]
    have pos : ∀ p ∈ prs zs, 0 < p.1 := fun p hp => by
      obtain ⟨z, hz, rfl⟩ := List.mem_map.mp hp
      exact (ok z hz).1
    have hd : (e - b).toNat < 2 ^ 10000 := diff_bd b1 b2
    obtain ⟨n, hn2⟩ : ∃ n : Nat, n = (e - b).toNat := ⟨_, rfl⟩
    have e0 : e = b + n := by omega
    refine ⟨_, rfl, L, zs, rfl, hp, ok.z, hn, fun g H1 s1 _ hg => ?_⟩
    refine ⟨_, rfl, _, rfl, g, b, e, 250, (prs zs).map nrm, rfl, hg, by omega, by decide, hd, fun p H2 s2 _ ep => ?_⟩
    rw [← hn2, el] at ep
    have sm := just_sum ((prs zs).map nrm) b n
    have tm := just_times ((prs zs).map nrm) b n
    have cm := cnt_sums b n (prs zs) pos
    rw [el] at sm tm
    have hp2 := (hp.same s1).same s2
    generalize hxs : (List.range (zs.length + 1)).map (fun j => justN ((prs zs).map nrm) b n j) = xs at *
    have lx : xs.length = zs.length + 1 := by rw [← hxs, List.length_map, List.length_range]
    have nn : ∀ x ∈ xs, 0 ≤ x := fun x hx => by
      rw [← hxs] at hx
      obtain ⟨j, _, rfl⟩ := List.mem_map.mp hx
      exact just_nonneg _ _ _ _
    refine ⟨_, rfl, p, _, rfl, SqL.of ep, ?_⟩
    refine ⟨_, rfl, _, rfl, _, _, rfl, rfl, rfl, false, ne_f (by rw [sm]; omega), iteF ?_⟩
    refine ⟨_, rfl, p, _, rfl, SqL.of ep, by omega, fun m mm _ => ⟨_, _, rfl, rfl, _, rfl, ite2 (fun c => absurd (of_decide_eq_true c) (Int.not_lt.mpr (nn m mm))) (fun _ => ?_)⟩⟩
    refine ⟨_, rfl, p, _, rfl, SqL.of ep, fun D hD => lc_it (walk_enum (K := K) (a := p) (xs := xs.map V.int)) (fun i H' => Same H2 H' ∧ H' D = some (.lst (((List.range i).map fun j : Nat => (j : Int) * (xs[j]?).getD 0).map V.int))) ⟨same_new hD, upd_same⟩ (fun i H' _ ⟨s3, _⟩ => SqL.of (s3 _ _ ep)) ?_ ?_⟩
    · rintro i x H3 H4 hi ⟨s3, hD3⟩ ⟨T', x1, x2, rfl, hT', rfl, e1, e2⟩
      cases e1
      obtain ⟨y, hy, rfl⟩ := get_map e2
      have hil := (List.getElem?_eq_some_iff.mp hy).1
      have my := List.mem_of_getElem? hy
      have y0 := nn y my
      have y1 := mem_le_sum nn y my
      have s4 := same_at (o := .tup [.int (i : Nat), .int y]) s3 (back_none s3 hT')
      have s34 : Same H3 (upd H3 T' (.tup [.int (i : Nat), .int y])) := same_new hT'
      refine ⟨T', _, rfl, SqT.of upd_same, rfl, _, _, rfl, _, _, rfl, rfl, rfl, ?_⟩
      generalize upd H3 T' (.tup [.int (i : Nat), .int y]) = H4 at *
      have hD4 := s34 _ _ hD3
      refine ⟨_, rfl, _, rfl, _, _, rfl, rfl, wide_mul (a := 10) (b := 10000) (by rw [Int.natAbs_natCast]; exact Nat.lt_of_lt_of_le (show i < 12 by omega) (by decide)) (Nat.lt_of_le_of_lt (show y.natAbs ≤ (e - b).toNat by omega) hd) (by decide) (by decide) (by decide), _, hD4, ?_, same_at s4 hD, ?_⟩
      · rw [List.length_map, List.length_map, List.length_range]
        exact Nat.lt_of_lt_of_le (show i < 12 by omega) (by decide)
      · rw [upd_same, List.range_succ, List.map_append, List.map_append, List.map_cons, List.map_cons, hy]
        rfl
    · rintro H3 ⟨s3, hD3⟩
      rw [List.length_map, lx] at hD3
      refine ⟨D, _, rfl, SqL.of hD3, ?_⟩
      refine ⟨_, rfl, _, rfl, _, rfl, L, zs, b, e, rfl, hp2.same s3, ok, hn, b1, b2, fun H4 s4 => ⟨rfl, ?_⟩⟩
      have key : ((List.range (zs.length + 1)).map fun j : Nat => (j : Int) * (xs[j]?).getD 0) = (List.range (zs.length + 1)).map fun j : Nat => (j : Int) * justN ((prs zs).map nrm) b n j := List.map_congr_left fun j hj => by
        have := List.mem_range.mp hj
        rw [← hxs, List.getElem?_map, List.getElem?_range (by omega)]
        rfl
      rw [key, tm, cm, ← e0, decide_eq_true rfl]
      exact q H4 (((s1.trans s2).trans s3).trans s4)
def spTwoR : Sp := fun vs H Q _ => ∃ (L L2 : Addr) (zs ys : PZ) (b e : Int), vs = [.ref L, .ref L2, .int b, .int e] ∧ PairsA H L zs ∧ PairsA H L2 ys ∧ OkC zs ∧ OkC ys ∧ zs.length ≤ 4 ∧ ys.length ≤ 4 ∧ b ≤ e ∧ b.natAbs < 2 ^ 400 ∧ e.natAbs < 2 ^ 400 ∧
  ∀ H', Same H H' → Q (.bl true) H'
theorem ok_l_two_right (T : Top K mg) : FnOk P w K mg base CX0 10 T.f_l_two_right T.d_l_two_right ["_law_one", "_law_other", "_law_start", "_law_last"] spTwoR := by
  have G_Lamp_eq := ok_Lamp_eq (P := P) (w := w) (base := base) T
  have G_both := ok_both (P := P) (w := w) (base := base) T
  have G_joined := ok_joined (P := P) (w := w) (base := base) T
  have G_l_bright := ok_l_bright (P := P) (w := w) (base := base) T
  have G_l_light := ok_l_light (P := P) (w := w) (base := base) T
  refine T.F_l_two_right.ok sc_l_two_right (fun vs H Q E h => ?_) (fun cdv A outer s H vs Q E hr h => ?_)
  · obtain ⟨L, L2, zs, ys, b, e, rfl, _⟩ := h; rfl
  · obtain ⟨L, L2, zs, ys, b, e, rfl, hp, hp2, ok, ok2, n1, n2, be, b1, b2, q⟩ := h
    refine ⟨_, (pss_cons (ps_par (i := 4) (j := 5) (by rfl) sc_l_two_right.nd rfl rfl (by decide) rfl rfl (pa_cons (pe_call G_l_light (hr.mono (by decide)) rfl T.g_l_light T.F_l_light.kp T.b_l_light .nil pass0 (pa_cons (pv 0) pa_nil)) (pa_cons (pe_call G_l_light (hr.mono (by decide)) rfl T.g_l_light T.F_l_light.kp T.b_l_light .nil pass0 (pa_cons (pv 1) pa_nil)) pa_nil)) (by rfl))
      (pss_cons (ps_set (i := 6) sc_l_two_right.nd rfl (Or.inl rfl) pe_int)
      (pss_cons (ps_if (pt_cmpR op_le (pe_op op_mulW (pe_callB call_len_seq (by rfl) T.n_len (by decide +kernel) (pa_cons (pv 0) pa_nil)) (pe_callB call_len_seq (by rfl) T.n_len (by decide +kernel) (pa_cons (pv 1) pa_nil))) pe_int (nomark _)) (pss_cons (ps_set (i := 6) sc_l_two_right.nd rfl (Or.inl rfl) (pe_call G_l_bright (hr.mono (by decide)) rfl T.g_l_bright T.F_l_bright.kp T.b_l_bright .nil pass0 (pa_cons (pe_call G_both (hr.mono (by decide)) rfl T.g_both T.F_both.kp T.b_both .nil pass0 (pa_cons (pv 4) (pa_cons (pv 5) pa_nil))) (pa_cons (pv 2) (pa_cons (pv 3) pa_nil)))))
      (pss_cons (ps_set (i := 7) sc_l_two_right.nd rfl (Or.inl rfl) (pe_op op_add (pe_call G_l_bright (hr.mono (by decide)) rfl T.g_l_bright T.F_l_bright.kp T.b_l_bright .nil pass0 (pa_cons (pe_call G_joined (hr.mono (by decide)) rfl T.g_joined T.F_joined.kp T.b_joined .nil pass0 (pa_cons (pv 4) (pa_cons (pv 5) pa_nil))) (pa_cons (pv 2) (pa_cons (pv 3) pa_nil)))) (pv 6)))
      (pss_one (ps_ret (pe_cmpR op_eq (pv 7) (pe_op op_add (pe_call G_l_bright (hr.mono (by decide)) rfl T.g_l_bright T.F_l_bright.kp T.b_l_bright .nil pass0 (pa_cons (pv 4) (pa_cons (pv 2) (pa_cons (pv 3) pa_nil)))) (pe_call G_l_bright (hr.mono (by decide)) rfl T.g_l_bright T.F_l_bright.kp T.b_l_bright .nil pass0 (pa_cons (pv 5) (pa_cons (pv 2) (pa_cons (pv 3) pa_nil))))) (nomark _)))))) pss_nil)
      (pss_one (ps_ret (pe_cmpR op_ge (pe_call G_l_bright (hr.mono (by decide)) rfl T.g_l_bright T.F_l_bright.kp T.b_l_bright .nil pass0 (pa_cons (pe_call G_joined (hr.mono (by decide)) rfl T.g_joined T.F_joined.kp T.b_joined .nil pass0 (pa_cons (pv 4) (pa_cons (pv 5) pa_nil))) (pa_cons (pv 2) (pa_cons (pv 3) pa_nil)))) (pe_call G_l_bright (hr.mono (by decide)) rfl T.g_l_bright T.F_l_bright.kp T.b_l_bright .nil pass0 (pa_cons (pv 4) (pa_cons (pv 2) (pa_cons (pv 3) pa_nil)))) (nomark _))))))), ?_⟩
    refine ⟨_, rfl, L, zs, rfl, hp, ok.z, by omega, fun g H1 s1 _ hg => ?_⟩
    refine ⟨_, rfl, L2, ys, rfl, hp2.same s1, ok2.z, by omega, fun g2 H2 s2 _ hg2 => ⟨_, _, rfl, ?_⟩⟩
    replace hp := (hp.same s1).same s2
    replace hp2 := (hp2.same s1).same s2
    replace hg := hg.same s2
    have hd : (e - b).toNat < 2 ^ 10000 := diff_bd b1 b2
    have e1 : ((prs zs).map nrm).length = zs.length := by rw [List.length_map, prs_len]
    have e2 : ((prs ys).map nrm).length = ys.length := by rw [List.length_map, prs_len]
    generalize (prs zs).map nrm = ls at *
    generalize (prs ys).map nrm = ms at *
    have n12 : ls.length + ms.length ≤ 10 := by omega
    refine ⟨_, rfl, L, _, rfl, .inl (SqL.of hp.1), ?_⟩
    refine ⟨_, rfl, L2, _, rfl, .inl (SqL.of hp2.1), ?_⟩
    refine ⟨_, _, rfl, rfl, mw (by rw [refsZ_len]; omega) (by rw [refsZ_len]; omega) (by rw [refsZ_len]; omega) (by rw [refsZ_len]; omega), _, _, rfl, rfl, _, rfl, ite2 (fun hc => ?_) (fun _ => ?_)⟩
    · have nn : ls.length * ms.length ≤ 6 := by
        have := of_decide_eq_true hc
        rw [refsZ_len, refsZ_len, ← e1, ← e2] at this
        exact_mod_cast this
      refine ⟨_, rfl, _, rfl, g, g2, 250, 250, ls, ms, rfl, hg, hg2, by omega, by omega, by omega, by decide, by decide, fun g4 qs H3 s3 _ hg4 l4 B4 => ?_⟩
      refine ⟨_, rfl, _, rfl, g4, b, e, 500, qs, rfl, hg4, by omega, by decide, hd, fun H4 s4 => ?_⟩
      have s34 := s3.trans s4
      refine ⟨_, rfl, _, rfl, g, g2, 250, ls, ms, rfl, hg.same s34, hg2.same s34, n12, fun g3 H5 s5 _ hg3 => ?_⟩
      refine ⟨_, rfl, _, rfl, g3, b, e, 250, ls ++ ms, rfl, hg3, by rw [List.length_append]; omega, by decide, hd, fun H6 s6 => ?_⟩
      have s36 := s34.trans (s5.trans s6)
      refine ⟨_, rfl, _, _, rfl, rfl, ?_⟩
      refine ⟨_, rfl, _, rfl, _, rfl, _, rfl, g, b, e, 250, ls, rfl, hg.same s36, by omega, by decide, hd, fun H7 s7 => ?_⟩
      refine ⟨_, rfl, _, rfl, _, rfl, g2, b, e, 250, ms, rfl, (hg2.same s36).same s7, by omega, by decide, hd, fun H8 s8 => ⟨_, _, rfl, rfl, rfl, ?_⟩⟩
      have k := dk_both B4 b (e - b).toNat
      unfold dkN at k
      dsimp only
      rw [decide_eq_true (congrArg V.int (by omega))]
      exact q H8 ((s1.trans s2).trans (s36.trans (s7.trans s8)))
    · refine ⟨_, rfl, _, rfl, g, g2, 250, ls, ms, rfl, hg, hg2, n12, fun g3 H5 s5 _ hg3 => ?_⟩
      refine ⟨_, rfl, _, rfl, g3, b, e, 250, ls ++ ms, rfl, hg3, by rw [List.length_append]; omega, by decide, hd, fun H6 s6 => ?_⟩
      refine ⟨_, rfl, _, rfl, _, rfl, g, b, e, 250, ls, rfl, (hg.same s5).same s6, by omega, by decide, hd, fun H7 s7 => ⟨_, _, rfl, rfl, ?_⟩⟩
      have k := dk_sub (ls := ls ++ ms) (qs := ls) (fun t h => bright_app2.mpr (.inl h)) b (e - b).toNat
      unfold dkN at k
      dsimp only
      rw [decide_eq_true (by omega)]
      exact q H7 ((s1.trans s2).trans (s5.trans (s6.trans s7)))
end
section
variable {P : Program} {w : World} {K : PySem.W.Frag} {mg : Str → Option Value} {base : Heap}
set_option maxHeartbeats 2000000
theorem ok_l_law (T : Top K mg) : FnOk P w K mg base CX0 11 T.f_l_law T.d_l_law ["_law_script"] (spLaw K) := by
  have G_Lamp_eq := ok_Lamp_eq (P := P) (w := w) (base := base) T
  have G_by_many := ok_by_many (P := P) (w := w) (base := base) T
  have G_l_beat := ok_l_beat (P := P) (w := w) (base := base) T
  have G_l_lamps := ok_l_lamps (P := P) (w := w) (base := base) T
  have G_l_light := ok_l_light (P := P) (w := w) (base := base) T
  have G_l_source := ok_l_source (P := P) (w := w) (base := base) T
  have G_l_sums_right := ok_l_sums_right (P := P) (w := w) (base := base) T
  have G_l_take := ok_l_take (P := P) (w := w) (base := base) T
  have G_l_two_right := ok_l_two_right (P := P) (w := w) (base := base) T
  have G_moved := ok_moved (P := P) (w := w) (base := base) T
  have G_stretched := ok_stretched (P := P) (w := w) (base := base) T
  refine T.F_l_law.ok sc_l_law (fun vs H Q E h => ?_) (fun cdv A outer s H vs Q E hr h => ?_)
  · obtain ⟨a, ns, rfl, _⟩ := h; rfl
  · obtain ⟨a, ns, rfl, hS, hn, q⟩ := h
    refine ⟨_, (pss_cons (ps_for PassesOwn.never rfl (pi_list (pe_op op_catS (pe_lst (pa_cons pe_int pa_nil)) (pe_slice sl_list (pv 0) po_none (po_some pe_int)))) (pg_name (i := 1) sc_l_law.nd rfl (Or.inl rfl)) (pss_cons (ps_set (i := 2) sc_l_law.nd rfl (Or.inl rfl) (pe_call G_l_source (hr.mono (by decide)) rfl T.g_l_source T.F_l_source.kp T.b_l_source .nil pass0 (pa_cons (pv 1) pa_nil)))
      (pss_cons (ps_par (i := 3) (j := 4) (by rfl) sc_l_law.nd rfl rfl (by decide) rfl rfl (pa_cons (pe_call G_l_lamps (hr.mono (by decide)) rfl T.g_l_lamps T.F_l_lamps.kp T.b_l_lamps .nil pass0 (pa_cons (pv 2) (pa_cons pe_int pa_nil))) (pa_cons (pe_call G_l_lamps (hr.mono (by decide)) rfl T.g_l_lamps T.F_l_lamps.kp T.b_l_lamps .nil pass0 (pa_cons (pv 2) (pa_cons pe_int pa_nil))) pa_nil)) (by rfl))
      (pss_cons (ps_set (i := 5) sc_l_law.nd rfl (Or.inl rfl) (pe_call G_l_beat (hr.mono (by decide)) rfl T.g_l_beat T.F_l_beat.kp T.b_l_beat .nil pass0 (pa_cons (pv 2) pa_nil)))
      (pss_cons (ps_set (i := 6) sc_l_law.nd rfl (Or.inl rfl) (pe_ix ix_list (pe_lst (pa_cons (pe_op op_add pe_int (pe_call G_l_take (hr.mono (by decide)) rfl T.g_l_take T.F_l_take.kp T.b_l_take .nil pass0 (pa_cons (pv 2) (pa_cons pe_int pa_nil)))) (pa_cons (pe_op op_pow pe_int pe_int) (pa_cons (pe_op op_add pe_int (pe_op op_mulW (pe_call G_l_take (hr.mono (by decide)) rfl T.g_l_take T.F_l_take.kp T.b_l_take .nil pass0 (pa_cons (pv 2) (pa_cons (pe_op op_pow pe_int pe_int) pa_nil))) (pe_op op_pow pe_int pe_int))) pa_nil)))) (pe_call G_l_take (hr.mono (by decide)) rfl T.g_l_take T.F_l_take.kp T.b_l_take .nil pass0 (pa_cons (pv 2) (pa_cons pe_int pa_nil))) (fun _ _ => rfl)))
      (pss_cons (ps_set (i := 7) sc_l_law.nd rfl (Or.inl rfl) (pe_op op_add (pv 5) (pv 6)))
      (pss_cons (ps_if (PW.pt (pw_or (pt_not (pt_val (pe_call G_l_sums_right (hr.mono (by decide)) rfl T.g_l_sums_right T.F_l_sums_right.kp T.b_l_sums_right .nil pass0 (pa_cons (pe_op op_catS (pv 3) (pv 4)) (pa_cons (pv 5) (pa_cons (pv 7) pa_nil)))))) (pw_or1 (pt_not (pt_val (pe_call G_l_two_right (hr.mono (by decide)) rfl T.g_l_two_right T.F_l_two_right.kp T.b_l_two_right .nil pass0 (pa_cons (pv 3) (pa_cons (pv 4) (pa_cons (pv 5) (pa_cons (pv 7) pa_nil)))))))))) (pss_one (ps_ret pe_bl)) pss_nil)
      (pss_cons (ps_set (i := 8) sc_l_law.nd rfl (Or.inl rfl) (pe_call G_l_light (hr.mono (by decide)) rfl T.g_l_light T.F_l_light.kp T.b_l_light .nil pass0 (pa_cons (pv 3) pa_nil)))
      (pss_cons (ps_set (i := 9) sc_l_law.nd rfl (Or.inl rfl) (pe_call G_by_many (hr.mono (by decide)) rfl T.g_by_many T.F_by_many.kp T.b_by_many .nil pass0 (pa_cons (pv 8) (pa_cons (pv 5) (pa_cons (pv 7) pa_nil)))))
      (pss_cons (ps_set (i := 10) sc_l_law.nd rfl (Or.inl rfl) (pe_op op_sub (pe_call G_l_take (hr.mono (by decide)) rfl T.g_l_take T.F_l_take.kp T.b_l_take .nil pass0 (pa_cons (pv 2) (pa_cons (pe_op op_pow pe_int pe_int) pa_nil))) (pe_op op_mulW pe_int (pe_op op_pow pe_int pe_int))))
      (pss_cons (ps_if (pt_cmpR (op_neD hr.units) (pe_call G_by_many (hr.mono (by decide)) rfl T.g_by_many T.F_by_many.kp T.b_by_many .nil pass0 (pa_cons (pe_call G_moved (hr.mono (by decide)) rfl T.g_moved T.F_moved.kp T.b_moved .nil pass0 (pa_cons (pv 8) (pa_cons (pv 10) pa_nil))) (pa_cons (pe_op op_add (pv 5) (pv 10)) (pa_cons (pe_op op_add (pv 7) (pv 10)) pa_nil)))) (pv 9) (nomark _)) (pss_one (ps_ret pe_bl)) pss_nil)
      (pss_cons (ps_set (i := 11) sc_l_law.nd rfl (Or.inl rfl) (pe_op op_add pe_int (pe_call G_l_take (hr.mono (by decide)) rfl T.g_l_take T.F_l_take.kp T.b_l_take .nil pass0 (pa_cons (pv 2) (pa_cons pe_int pa_nil)))))
      (pss_cons (ps_set (i := 12) sc_l_law.nd rfl (Or.inl rfl) (pe_call G_by_many (hr.mono (by decide)) rfl T.g_by_many T.F_by_many.kp T.b_by_many .nil pass0 (pa_cons (pe_call G_stretched (hr.mono (by decide)) rfl T.g_stretched T.F_stretched.kp T.b_stretched .nil pass0 (pa_cons (pv 8) (pa_cons (pv 11) pa_nil))) (pa_cons (pe_op op_mulW (pv 5) (pv 11)) (pa_cons (pe_op op_mulW (pv 7) (pv 11)) pa_nil)))))
      (pss_cons (ps_if (PW.pt (pw_or (pt_cmpR (op_neD hr.units) (pe_slice sl_list (pv 12) (po_some pe_int) po_none) (pe_slice sl_list (pv 9) (po_some pe_int) po_none) (nomark _)) (pw_or1 (pt_cmpR op_ne (pe_callB (cr_sum rfl) (by rfl) T.n_sum (by decide +kernel) (pa_cons (pv 12) pa_nil)) (pe_op op_mulW (pv 6) (pv 11)) (nomark _))))) (pss_one (ps_ret pe_bl)) pss_nil)
      (pss_cons (ps_set (i := 13) sc_l_law.nd rfl (Or.inl rfl) (pe_slice sl_list (pv 3) po_none (po_some pe_int)))
      (pss_cons (ps_set (i := 14) sc_l_law.nd rfl (Or.inl rfl) (pe_call G_by_many (hr.mono (by decide)) rfl T.g_by_many T.F_by_many.kp T.b_by_many .nil pass0 (pa_cons (pe_call G_l_light (hr.mono (by decide)) rfl T.g_l_light T.F_l_light.kp T.b_l_light .nil pass0 (pa_cons (pe_op op_catS (pv 13) (pv 13)) pa_nil)) (pa_cons (pv 5) (pa_cons (pv 7) pa_nil)))))
      (pss_one (ps_if (PW.pt (pw_or (pt_cmpR (op_neD hr.units) (pe_evry (pv 14)) (pe_call G_by_many (hr.mono (by decide)) rfl T.g_by_many T.F_by_many.kp T.b_by_many .nil pass0 (pa_cons (pe_call G_l_light (hr.mono (by decide)) rfl T.g_l_light T.F_l_light.kp T.b_l_light .nil pass0 (pa_cons (pv 13) pa_nil)) (pa_cons (pv 5) (pa_cons (pv 7) pa_nil)))) (nomark _)) (pw_or1 (pt_cmpR op_ne (pe_callB (cr_sum rfl) (by rfl) T.n_sum (by decide +kernel) (pa_cons (pe_evry1 (pv 14)) pa_nil)) pe_int (nomark _))))) (pss_one (ps_ret pe_bl)) pss_nil))))))))))))))))))
      (pss_one (ps_ret pe_bl))), ?_⟩
    refine ⟨(by show 1 ≤ sizeLine; decide), fun l1 hl1 => ?_⟩
    generalize hX_ : upd _ l1 _ = H5; have sl1 := Same.of_upd hX_ hl1; have el1 := upd_of hX_; clear hX_
    refine ⟨_, rfl, 3, rfl, a, _, rfl, sl1.seq hS, fun p1 hp1 => ?_⟩
    generalize hX_ : upd _ p1 _ = H6; have sp1 := Same.of_upd hX_ hp1; have ep1 := upd_of hX_; clear hX_
    rw [show cutV (ns.map V.int) none (some 3) = (ns.take 3).map V.int by rw [cut_head (by decide), List.map_take]; rfl] at ep1
    refine ⟨l1, p1, _, _, rfl, rfl, SqL.of (sp1 _ _ el1), SqL.of ep1, ?_, fun p2 hp2 => ?_⟩
    · rw [List.length_map, List.length_take]
      exact Nat.le_trans (show 1 + min 3 ns.length ≤ 9 by omega) (by decide)
    rw [show [V.int 0] ++ (ns.take 3).map V.int = (0 :: ns.take 3).map V.int from rfl]
    generalize hX_ : upd _ p2 _ = H7; have sp2 := Same.of_upd hX_ hp2; have ep2 := upd_of hX_; clear hX_
    generalize 0 :: ns.take 3 = cells at *
    clear sp1 el1 hS sl1 hl1 hp1 sp2 hp2 ep1
    refine ⟨p2, rfl, ⟨_, SqL.of ep2⟩, for_list (K := K) (a := p2) (xs := cells.map V.int) (fun _ σ H' => (∃ v1 v2 v3 v4 v5 v6 v7 v8 v9 v10 v11 v12 v13 v14, σ = [some (.ref a), v1, v2, v3, v4, v5, v6, v7, v8, v9, v10, v11, v12, v13, v14]) ∧ Same H7 H') ⟨⟨_, _, _, _, _, _, _, _, _, _, _, _, _, _, rfl⟩, Same.refl _⟩ (fun _ σ H' _ ⟨_, s'⟩ => SqL.of (s' _ _ ep2)) ?_ ?_⟩
    · rintro i x σ H8 hi ⟨⟨v1, v2, v3, v4, v5, v6, v7, v8, v9, v10, v11, v12, v13, v14, rfl⟩, s8⟩
      obtain ⟨z, _, rfl⟩ := get_map hi
      refine ⟨_, rfl, z, rfl, fun s H9 nl s9 hs => ?_⟩
      have D := Dr.refl s H9
      refine ⟨_, rfl, s, 0, 4, rfl, hs, by decide, by decide, fun L zs H10 hp nL hz ok hs1 d1 => ?_⟩
      replace D := D.trans d1; replace hs := hs1; clear hs1 d1
      refine ⟨_, rfl, s, _, 4, rfl, hs, by omega, by decide, fun L2 ys H11 hp2 nL2 hy ok2 hs1 d1 => ?_⟩
      replace hp := hp.dr hs d1; replace D := D.trans d1; replace hs := hs1; clear hs1 d1
      refine ⟨_, _, rfl, ?_⟩
      refine ⟨_, rfl, s, _, rfl, hs, by omega, fun b H12 hb hs1 d1 => ?_⟩
      replace hp := hp.dr hs d1; replace hp2 := hp2.dr hs d1; replace D := D.trans d1; replace hs := hs1; clear hs1 d1
      refine ⟨_, rfl, _, _, _, rfl, hs, by omega, by first | decide | omega, by first | decide | omega, fun u H13 u0 u1 hs1 d1 => ?_⟩
      replace hp := hp.dr hs d1; replace hp2 := hp2.dr hs d1; replace D := D.trans d1; replace hs := hs1; clear hs1 d1
      refine ⟨_, _, rfl, rfl, _, _, rfl, rfl, ⟨by decide, by decide, by decide⟩, _, rfl, _, _, rfl, rfl, ⟨by decide, by decide, by decide⟩, _, _, _, rfl, hs, by omega, by first | decide | omega, by first | decide | omega, fun v H14 v0 v1 hs1 d1 => ?_⟩
      replace hp := hp.dr hs d1; replace hp2 := hp2.dr hs d1; replace D := D.trans d1; replace hs := hs1; clear hs1 d1
      have v1' : v < 10 ^ 9 := v1
      have eM : (10 : Int) ^ (25 : Int).toNat = 10 ^ 25 := rfl
      have eN : (10 : Int) ^ (38 : Int).toNat = 10 ^ 38 := rfl
      refine ⟨_, _, rfl, rfl, ⟨by decide, by decide, by decide⟩, _, _, rfl, rfl, mw (by omega) (by omega) (by decide) (by decide), _, _, rfl, rfl, (by show 3 ≤ sizeLine; decide), fun F hF => ?_⟩
      have nF := ne_src hs hF
      generalize hX_ : upd _ F _ = H15; have sF := Same.of_upd hX_ hF; have eF := upd_of hX_; clear hX_
      replace hp := hp.same (sF); replace hp2 := hp2.same (sF); replace hs := hs.same (sF); replace D := D.then (sF)
      refine ⟨_, rfl, _, _, _, rfl, hs, by omega, by first | decide | omega, by first | decide | omega, fun t H16 t0 t1 hs1 d1 => ?_⟩
      replace hp := hp.dr hs d1; replace hp2 := hp2.dr hs d1; replace eF := d1 _ _ eF nF; replace D := D.trans d1; replace hs := hs1; clear hs1 d1
      obtain ⟨x, hx, m, rfl, m0, m1⟩ := pick (items := [.int (1 + u), .int (10 ^ (38 : Int).toNat), .int (1 + v * 10 ^ (25 : Int).toNat)]) (R := Btw 1 (10 ^ 39)) (by simp only [List.forall_mem_cons]; refine ⟨⟨_, rfl, ?_, ?_⟩, ⟨_, rfl, ?_, ?_⟩, ⟨_, rfl, ?_, ?_⟩, fun _ h => nomatch h⟩ <;> first | omega | (rw [eM]; omega)) t0 t1
      refine ⟨F, _, _, _, rfl, rfl, SqL.of eF, hx, ?_⟩
      clear hx eF nF sF hF eM eN u0 u1 v0 v1 v1' t0 t1
      obtain ⟨m, rfl⟩ : ∃ k : Nat, m = k := ⟨m.toNat, by omega⟩
      refine ⟨_, rfl, _, rfl, _, _, rfl, rfl, ?_⟩
      have bb : b.natAbs < 2 ^ 400 := Nat.lt_of_le_of_lt hb (by decide +kernel)
      have eb : (b + (m : Int)).natAbs < 2 ^ 400 := Nat.lt_of_le_of_lt (show _ ≤ 10 ^ 39 + 10 ^ 39 by omega) (by decide +kernel)
      -- the sums
      refine ⟨_, rfl, _, rfl, L, L2, _, _, rfl, rfl, SqL.of hp.1, SqL.of hp2.1, ?_, fun p3 hp3 => ?_⟩
      · rw [refsZ_len, refsZ_len]
        exact Nat.le_trans (show _ ≤ 20 by omega) (by decide)
      rw [refsZ_app]
      generalize hX_ : upd _ p3 _ = H17; have sp3 := Same.of_upd hX_ hp3; have ep3 := upd_of hX_; clear hX_
      replace hp := hp.same (sp3); replace hp2 := hp2.same (sp3); replace hs := hs.same (sp3); replace D := D.then (sp3)
      have hU : PairsA H17 p3 (zs ++ ys) := ⟨ep3, fun z hz => (List.mem_append.mp hz).elim (hp.2 z) (hp2.2 z)⟩
      have okU : OkC (zs ++ ys) := fun z hz => (List.mem_append.mp hz).elim (ok z) (ok2 z)
      refine ⟨_, rfl, _, rfl, p3, zs ++ ys, b, _, rfl, hU, okU, by rw [List.length_append]; omega, by omega, bb, eb, fun H18 s18 => ⟨true, rfl, iteF ?_⟩⟩
      replace hp := hp.same (s18); replace hp2 := hp2.same (s18); replace hs := hs.same (s18); replace D := D.then (s18)
      refine ⟨_, rfl, _, rfl, _, rfl, _, rfl, L, L2, zs, ys, b, _, rfl, hp, hp2, ok, ok2, hz, hy, by omega, bb, eb, fun H19 s19 => ⟨true, rfl, iteF ?_⟩⟩
      replace hp := hp.same (s19); replace hp2 := hp2.same (s19); replace hs := hs.same (s19); replace D := D.then (s19)
      clear hU okU ep3 sp3 hp3
      -- moved and stretched
      refine ⟨_, rfl, L, zs, rfl, hp, ok.z, by omega, fun g H20 s20 _ hg => ?_⟩
      replace hp := hp.same (s20); replace hs := hs.same (s20); replace D := D.then (s20)
      have e1 : ((prs zs).map nrm).length = zs.length := by rw [List.length_map, prs_len]
      generalize hls : (prs zs).map nrm = ls at *
      have en : (b + (m : Int) - b).toNat = m := by omega
      refine ⟨_, rfl, _, rfl, _, rfl, g, b, _, 250, ls, rfl, hg, by omega, by decide, diff_bd bb eb, fun p4 H21 s21 np4 ep4 => ?_⟩
      rw [en] at ep4
      replace np4 := ne_src hs np4
      replace hg := hg.same (s21); replace hp := hp.same (s21); replace hs := hs.same (s21); replace D := D.then (s21)
      refine ⟨_, rfl, _, _, rfl, rfl, ⟨by decide, by decide, by decide⟩, _, _, _, rfl, hs, by omega, by first | decide | omega, by first | decide | omega, fun c H22 c0 c1 hs1 d1 => ?_⟩
      replace hg := hg.dr hs d1; replace hp := hp.dr hs d1; replace ep4 := d1 _ _ ep4 np4; replace D := D.trans d1; replace hs := hs1; clear hs1 d1
      have c1' : c < 10 ^ 9 := c1
      have eM : (10 : Int) ^ (8 : Int).toNat = 10 ^ 8 := rfl
      refine ⟨_, _, rfl, rfl, ⟨by decide, by decide, by decide⟩, _, _, rfl, rfl, mw (by decide) (by decide) (by decide) (by decide), _, _, rfl, rfl, ?_⟩
      dsimp only
      rw [eM]
      obtain ⟨by_, hby⟩ : ∃ y : Int, y = c - 5 * 10 ^ 8 := ⟨_, rfl⟩
      rw [← hby]
      have by0 : by_.natAbs ≤ 10 ^ 9 := by omega
      clear hby eM c0 c1 c1'
      refine ⟨_, rfl, _, rfl, g, by_, 250, ls, rfl, hg, by omega, fun g2 H23 s23 _ hg2 => ?_⟩
      have bb2 : (b + by_).natAbs < 2 ^ 400 := Nat.lt_of_le_of_lt (show _ ≤ 10 ^ 39 + 10 ^ 39 by omega) (by decide +kernel)
      have eb2 : (b + (m : Int) + by_).natAbs < 2 ^ 400 := Nat.lt_of_le_of_lt (show _ ≤ 10 ^ 39 + 10 ^ 39 + 10 ^ 39 by omega) (by decide +kernel)
      have en2 : (b + (m : Int) + by_ - (b + by_)).toNat = m := by omega
      refine ⟨_, rfl, _, rfl, _, _, rfl, rfl, _, rfl, _, rfl, _, _, rfl, rfl, g2, _, _, 250, mvL by_ ls, rfl, hg2, by rw [mv_len]; omega, by decide, diff_bd bb2 eb2, fun p5 H24 s24 _ ep5 => ?_⟩
      rw [en2, mv_len] at ep5
      simp only [just_mv] at ep5
      have s234 := s23.trans s24
      replace hg := hg.same (s234); replace hp := hp.same (s234); replace ep4 := (s234) _ _ ep4; replace hs := hs.same (s234); replace D := D.then (s234)
      refine ⟨_, rfl, neD_self (dp_ints ep5) (dp_ints ep4) (okD_ints _) (by decide) ⟨_, rfl, iteF ?_⟩⟩
      clear ep5 hg2 bb2 eb2 en2
      refine ⟨_, rfl, _, _, _, rfl, hs, by omega, by first | decide | omega, by first | decide | omega, fun c H25 c0 c1 hs1 d1 => ?_⟩
      replace hg := hg.dr hs d1; replace hp := hp.dr hs d1; replace ep4 := d1 _ _ ep4 np4; replace D := D.trans d1; replace hs := hs1; clear hs1 d1
      refine ⟨_, _, rfl, rfl, ?_⟩
      dsimp only
      obtain ⟨c, hc⟩ : ∃ y : Nat, (1 : Int) + c = y := ⟨(1 + c).toNat, by omega⟩
      rw [hc]
      have c1 : 0 < c ∧ c ≤ 9 := by omega
      clear hc c0
      refine ⟨_, rfl, _, rfl, g, c, 250, 4, ls, rfl, hg, by omega, by decide, by decide, by omega, by rw [Int.natAbs_natCast]; exact Nat.lt_of_le_of_lt c1.2 (by decide), fun g2 H26 s26 _ hg2 => ?_⟩
      have bb2 : (b * (c : Int)).natAbs < 2 ^ 400 := by
        rw [Int.natAbs_mul, Int.natAbs_natCast]
        exact Nat.lt_of_le_of_lt (Nat.mul_le_mul hb c1.2) (by decide +kernel)
      have eb2 : ((b + (m : Int)) * (c : Int)).natAbs < 2 ^ 400 := by
        rw [Int.natAbs_mul, Int.natAbs_natCast]
        exact Nat.lt_of_le_of_lt (Nat.mul_le_mul (show _ ≤ 10 ^ 39 + 10 ^ 39 by omega) c1.2) (by decide +kernel)
      have en2 : ((b + (m : Int)) * (c : Int) - b * (c : Int)).toNat = m * c := by
        rw [← Int.sub_mul, show b + (m : Int) - b = m by omega, ← Int.natCast_mul, Int.toNat_natCast]
      refine ⟨_, rfl, _, rfl, _, _, rfl, rfl, mw (by omega) (by omega) (by omega) (by omega), _, rfl, _, rfl, _, _, rfl, rfl, mw (by omega) (by omega) (by omega) (by omega), g2, _, _, 254, stL c ls, rfl, hg2, by rw [st_len]; omega, by decide, diff_bd bb2 eb2, fun p5 H27 s27 np5 ep5 => ?_⟩
      have sm := just_sum (stL c ls) (b * c) (m * c)
      rw [en2, st_len] at ep5
      rw [st_len] at sm
      have s267 := s26.trans s27
      replace hg := hg.same (s267); replace hp := hp.same (s267); replace ep4 := (s267) _ _ ep4; replace hs := hs.same (s267); replace D := D.then (s267)
      refine ⟨_, rfl, 1, rfl, p5, _, rfl, SqL.of ep5, fun p6 hp6 => ?_⟩
      generalize hX_ : upd _ p6 _ = H28; have sp6 := Same.of_upd hX_ hp6; have ep6 := upd_of hX_; clear hX_
      replace ep5 := (sp6) _ _ ep5; replace hg := hg.same (sp6); replace hp := hp.same (sp6); replace ep4 := (sp6) _ _ ep4; replace hs := hs.same (sp6); replace D := D.then (sp6)
      refine ⟨_, rfl, 1, rfl, p4, _, rfl, SqL.of ep4, fun p7 hp7 => ?_⟩
      generalize hX_ : upd _ p7 _ = H29; have sp7 := Same.of_upd hX_ hp7; have ep7 := upd_of hX_; clear hX_
      replace ep5 := (sp7) _ _ ep5; replace ep6 := (sp7) _ _ ep6; replace hg := hg.same (sp7); replace hp := hp.same (sp7); replace ep4 := (sp7) _ _ ep4; replace hs := hs.same (sp7); replace D := D.then (sp7)
      rw [cut_from (by decide), ← List.map_drop] at ep6 ep7
      have e67 : ((List.range (ls.length + 1)).map fun j => justN (stL c ls) (b * c) (m * c) j).drop 1 = ((List.range (ls.length + 1)).map fun j => justN ls b m j).drop 1 := by
        rw [List.range_succ_eq_map, List.map_cons, List.map_cons]
        show List.map _ (List.map _ _) = List.map _ (List.map _ _)
        rw [List.map_map, List.map_map]
        refine List.map_congr_left fun j _ => ?_
        exact just_st ls c1.1 b (Nat.succ_pos j) m
      rw [show ((1 : Int)).toNat = 1 from rfl, e67] at ep6
      refine neD_self (dp_ints ep6) (dp_ints ep7) (okD_ints _) (by decide) ⟨_, rfl, iteF ?_⟩
      refine ⟨_, rfl, p5, _, rfl, SqL.of ep5, _, rfl, _, rfl, _, _, rfl, rfl, mw (by omega) (by omega) (by omega) (by omega), rfl, false, ne_f (by rw [sm, Int.natCast_mul]), iteF ?_⟩
      clear ep5 ep6 ep7 ep4 hg2 bb2 eb2 en2 sm e67 hg hls e1 c1
      -- twice
      refine ⟨_, rfl, 3, rfl, L, _, rfl, SqL.of hp.1, fun F hF => ?_⟩
      have nF := ne_src hs hF
      rw [show cutV (refsZ zs) none (some 3) = refsZ (zs.take 3) by rw [cut_head (by decide)]; exact refsZ_take ..]
      generalize hX_ : upd _ F _ = H30; have sF := Same.of_upd hX_ hF; have eF := upd_of hX_; clear hX_
      have hf : PairsA H30 F (zs.take 3) := ⟨eF, fun w hw => sF _ _ (hp.2 w (List.mem_of_mem_take hw))⟩
      have okf : OkC (zs.take 3) := fun w hw => ok w (List.mem_of_mem_take hw)
      have lf : (zs.take 3).length ≤ 3 := by rw [List.length_take]; omega
      replace hs := hs.same (sF); replace D := D.then (sF)
      generalize zs.take 3 = fs at *
      refine ⟨_, rfl, _, rfl, F, F, _, _, rfl, rfl, SqL.of hf.1, SqL.of hf.1, ?_, fun p8 hp8 => ?_⟩
      · rw [refsZ_len]
        exact Nat.le_trans (show _ ≤ 20 by omega) (by decide)
      rw [refsZ_app]
      generalize hX_ : upd _ p8 _ = H31; have sp8 := Same.of_upd hX_ hp8; have ep8 := upd_of hX_; clear hX_
      replace hf := hf.same (sp8); replace hs := hs.same (sp8); replace D := D.then (sp8)
      have hU : PairsA H31 p8 (fs ++ fs) := ⟨ep8, fun z hz => (List.mem_append.mp hz).elim (hf.2 z) (hf.2 z)⟩
      have okU : OkC (fs ++ fs) := fun z hz => (List.mem_append.mp hz).elim (okf z) (okf z)
      refine ⟨p8, fs ++ fs, rfl, hU, okU.z, by rw [List.length_append]; omega, fun g3 H32 s32 _ hg3 => ?_⟩
      replace hf := hf.same (s32); replace hs := hs.same (s32); replace D := D.then (s32)
      have e2 : ((prs (fs ++ fs)).map nrm) = (prs fs).map nrm ++ (prs fs).map nrm := by unfold prs; rw [List.map_append, List.map_append]
      have e3 : ((prs fs).map nrm).length = fs.length := by rw [List.length_map, prs_len]
      rw [e2] at hg3
      generalize hms : (prs fs).map nrm = ms at *
      refine ⟨_, rfl, _, rfl, g3, b, _, 250, ms ++ ms, rfl, hg3, by rw [List.length_append]; omega, by decide, diff_bd bb eb, fun p9 H33 s33 _ ep9 => ?_⟩
      rw [en, List.length_append, show ms.length + ms.length = 2 * ms.length by omega] at ep9
      replace hf := hf.same (s33); replace hs := hs.same (s33); replace D := D.then (s33)
      refine ⟨_, rfl, p9, _, rfl, SqL.of ep9, fun p10 hp10 => ?_⟩
      rw [evry_map, evry_range]
      simp only [just_even]
      generalize hX_ : upd _ p10 _ = H34; have sp10 := Same.of_upd hX_ hp10; have ep10 := upd_of hX_; clear hX_
      replace ep9 := (sp10) _ _ ep9; replace hf := hf.same (sp10); replace hs := hs.same (sp10); replace D := D.then (sp10)
      refine ⟨_, rfl, F, fs, rfl, hf, okf.z, by omega, fun g4 H35 s35 _ hg4 => ?_⟩
      rw [hms] at hg4
      refine ⟨_, rfl, _, rfl, g4, b, _, 250, ms, rfl, hg4, by omega, by decide, diff_bd bb eb, fun p11 H36 s36 _ ep11 => ?_⟩
      rw [en] at ep11
      have s356 := s35.trans s36
      replace ep9 := (s356) _ _ ep9; replace ep10 := (s356) _ _ ep10; replace hs := hs.same (s356); replace D := D.then (s356)
      refine neD_self (dp_ints ep10) (dp_ints ep11) (okD_ints _) (by decide) ⟨_, rfl, iteF ?_⟩
      refine ⟨_, rfl, p9, _, rfl, SqL.of ep9, fun p12 hp12 => ?_⟩
      rw [← List.map_drop, evry_map, evry_odd]
      simp only [just_odd]
      generalize hX_ : upd _ p12 _ = H37; have sp12 := Same.of_upd hX_ hp12; have ep12 := upd_of hX_; clear hX_
      replace hs := hs.same (sp12); replace D := D.then (sp12)
      refine ⟨p12, _, rfl, SqL.of ep12, rfl, false, ne_f (sum_zero (fun _ => rfl) _), iteF ?_⟩
      exact ⟨⟨_, _, _, _, _, _, _, _, _, _, _, _, _, _, rfl⟩, s8.trans (Dr.back nl s9 D)⟩
    · rintro σ H' ⟨⟨v1, v2, v3, v4, v5, v6, v7, v8, v9, v10, v11, v12, v13, v14, rfl⟩, _⟩
      exact q H'
end
set_option maxHeartbeats 0 in
theorem all_mk {l : PySem.W.OpenLaw} {w : World} {K : PySem.W.Frag} {h : Heap} {mg : Str → Option Value} {fa C_Lamp C_Light f_is_whole f_check_beat f_inverse f_Lamp_init f_Lamp_eq f_seen_from f_l_mixed f_l_source f_l_take f_meet f_copied f_Light_init f_Light_lamps f_by_turns f_with_just f_often f_meetings f_by_many f_dark_between f_moved f_stretched f_light_of f_joined f_unlike f_both f_l_lamps f_l_beat f_l_light f_l_bright f_l_shines f_l_sums_right f_l_two_right f_l_law : Addr} (X : K.In h) (G : h.Ns mainGlobals mg) (hfa : mg "law" = some (.ref fa))
    {od_is_whole an_is_whole od_check_beat an_check_beat od_inverse an_inverse od_Lamp_init an_Lamp_init od_Lamp_eq an_Lamp_eq od_seen_from an_seen_from od_l_mixed an_l_mixed od_l_source an_l_source od_l_take an_l_take od_meet an_meet od_copied an_copied od_Light_init an_Light_init od_Light_lamps an_Light_lamps od_by_turns an_by_turns od_with_just an_with_just od_often an_often od_meetings an_meetings od_by_many an_by_many od_dark_between an_dark_between od_moved an_moved od_stretched an_stretched od_light_of an_light_of od_joined an_joined od_unlike an_unlike od_both an_both od_l_lamps an_l_lamps od_l_beat an_l_beat od_l_light an_l_light od_l_bright an_l_bright od_l_shines an_l_shines od_l_sums_right an_l_sums_right od_l_two_right an_l_two_right od_l_law an_l_law : Option Addr} {sl_is_whole sl_check_beat sl_inverse sl_Lamp_init sl_Lamp_eq sl_seen_from sl_l_mixed sl_l_source sl_l_take sl_meet sl_copied sl_Light_init sl_Light_lamps sl_by_turns sl_with_just sl_often sl_meetings sl_by_many sl_dark_between sl_moved sl_stretched sl_light_of sl_joined sl_unlike sl_both sl_l_lamps sl_l_beat sl_l_light sl_l_bright sl_l_shines sl_l_sums_right sl_l_two_right sl_l_law : Array (Option Value)} {oc_is_whole kV_is_whole dc_is_whole pm_is_whole cd_is_whole ct_is_whole oc_check_beat kV_check_beat dc_check_beat pm_check_beat cd_check_beat ct_check_beat oc_inverse kV_inverse dc_inverse pm_inverse cd_inverse ct_inverse oc_Lamp_init kV_Lamp_init dc_Lamp_init pm_Lamp_init cd_Lamp_init ct_Lamp_init oc_Lamp_eq kV_Lamp_eq dc_Lamp_eq pm_Lamp_eq cd_Lamp_eq ct_Lamp_eq oc_seen_from kV_seen_from dc_seen_from pm_seen_from cd_seen_from ct_seen_from oc_l_mixed kV_l_mixed dc_l_mixed pm_l_mixed cd_l_mixed ct_l_mixed oc_l_source kV_l_source dc_l_source pm_l_source cd_l_source ct_l_source oc_l_take kV_l_take dc_l_take pm_l_take cd_l_take ct_l_take oc_meet kV_meet dc_meet pm_meet cd_meet ct_meet oc_copied kV_copied dc_copied pm_copied cd_copied ct_copied oc_Light_init kV_Light_init dc_Light_init pm_Light_init cd_Light_init ct_Light_init oc_Light_lamps kV_Light_lamps dc_Light_lamps pm_Light_lamps cd_Light_lamps ct_Light_lamps oc_by_turns kV_by_turns dc_by_turns pm_by_turns cd_by_turns ct_by_turns oc_with_just kV_with_just dc_with_just pm_with_just cd_with_just ct_with_just oc_often kV_often dc_often pm_often cd_often ct_often oc_meetings kV_meetings dc_meetings pm_meetings cd_meetings ct_meetings oc_by_many kV_by_many dc_by_many pm_by_many cd_by_many ct_by_many oc_dark_between kV_dark_between dc_dark_between pm_dark_between cd_dark_between ct_dark_between oc_moved kV_moved dc_moved pm_moved cd_moved ct_moved oc_stretched kV_stretched dc_stretched pm_stretched cd_stretched ct_stretched oc_light_of kV_light_of dc_light_of pm_light_of cd_light_of ct_light_of oc_joined kV_joined dc_joined pm_joined cd_joined ct_joined oc_unlike kV_unlike dc_unlike pm_unlike cd_unlike ct_unlike oc_both kV_both dc_both pm_both cd_both ct_both oc_l_lamps kV_l_lamps dc_l_lamps pm_l_lamps cd_l_lamps ct_l_lamps oc_l_beat kV_l_beat dc_l_beat pm_l_beat cd_l_beat ct_l_beat oc_l_light kV_l_light dc_l_light pm_l_light cd_l_light ct_l_light oc_l_bright kV_l_bright dc_l_bright pm_l_bright cd_l_bright ct_l_bright oc_l_shines kV_l_shines dc_l_shines pm_l_shines cd_l_shines ct_l_shines oc_l_sums_right kV_l_sums_right dc_l_sums_right pm_l_sums_right cd_l_sums_right ct_l_sums_right oc_l_two_right kV_l_two_right dc_l_two_right pm_l_two_right cd_l_two_right ct_l_two_right oc_l_law kV_l_law dc_l_law pm_l_law cd_l_law ct_l_law : Value}
    {t_MOST_LAMPS : Tok}
    (aC_Lamp : PySem.W.nsIn K mainGlobals "Lamp" = some (some (.ref C_Lamp)))
    (pg_Lamp : PySem.W.plainGet K C_Lamp Str.empty = true)
    (hd_Lamp : PySem.W.hasDictIn K C_Lamp = true)
    (po_Lamp : PySem.W.plainOver K C_Lamp = true)
    (sa_Lamp : PySem.W.findIn K (.ref C_Lamp) "__setattr__" = some (some (.builtin "object.__setattr__")))
    (mk_Lamp : PySem.W.makesIn K C_Lamp = true)
    (kc_Lamp : PySem.W.keepIn K (.ref C_Lamp) = true)
    (kha_Lamp : PySem.W.findIn K (.ref C_Lamp) "__class__" = some (some (.builtin "object.__class__")))
    (khn_Lamp : PySem.W.specialIn K (.builtin "object.__class__") "__get__" = some (some (.builtin "getset_descriptor.__get__")))
    (kht_Lamp : PySem.W.takesIn K (.builtin "object.__class__") = some true)
    (khm_Lamp : PySem.W.mroIn K C_Lamp (.type "object") = some true)
    (na_Lamp_period : PySem.W.findIn K (.ref C_Lamp) "period" = some none)
    (na_Lamp_beat : PySem.W.findIn K (.ref C_Lamp) "beat" = some none)
    (aC_Light : PySem.W.nsIn K mainGlobals "Light" = some (some (.ref C_Light)))
    (pg_Light : PySem.W.plainGet K C_Light Str.empty = true)
    (hd_Light : PySem.W.hasDictIn K C_Light = true)
    (po_Light : PySem.W.plainOver K C_Light = true)
    (sa_Light : PySem.W.findIn K (.ref C_Light) "__setattr__" = some (some (.builtin "object.__setattr__")))
    (mk_Light : PySem.W.makesIn K C_Light = true)
    (kc_Light : PySem.W.keepIn K (.ref C_Light) = true)
    (kha_Light : PySem.W.findIn K (.ref C_Light) "__class__" = some (some (.builtin "object.__class__")))
    (khn_Light : PySem.W.specialIn K (.builtin "object.__class__") "__get__" = some (some (.builtin "getset_descriptor.__get__")))
    (kht_Light : PySem.W.takesIn K (.builtin "object.__class__") = some true)
    (khm_Light : PySem.W.mroIn K C_Light (.type "object") = some true)
    (na_Light__lamps : PySem.W.findIn K (.ref C_Light) "_lamps" = some none)
    (a_is_whole : PySem.W.nsIn K mainGlobals "is_whole" = some (some (.ref f_is_whole)))
    (l_is_whole : K.lookup f_is_whole = some ⟨oc_is_whole, od_is_whole, .func (PySem.W.fnOf "is_whole" "is_whole" (defArgs s_is_whole) (defBody s_is_whole) (defScope s_is_whole) .none kV_is_whole dc_is_whole pm_is_whole an_is_whole cd_is_whole ct_is_whole), sl_is_whole⟩)
    (c_is_whole : PySem.W.codeIn K cd_is_whole "is_whole" = true)
    (k_is_whole : PySem.W.keepIn K (.ref f_is_whole) = true)
    (a_check_beat : PySem.W.nsIn K mainGlobals "check_beat" = some (some (.ref f_check_beat)))
    (l_check_beat : K.lookup f_check_beat = some ⟨oc_check_beat, od_check_beat, .func (PySem.W.fnOf "check_beat" "check_beat" (defArgs s_check_beat) (defBody s_check_beat) (defScope s_check_beat) .none kV_check_beat dc_check_beat pm_check_beat an_check_beat cd_check_beat ct_check_beat), sl_check_beat⟩)
    (c_check_beat : PySem.W.codeIn K cd_check_beat "check_beat" = true)
    (k_check_beat : PySem.W.keepIn K (.ref f_check_beat) = true)
    (a_inverse : PySem.W.nsIn K mainGlobals "inverse" = some (some (.ref f_inverse)))
    (l_inverse : K.lookup f_inverse = some ⟨oc_inverse, od_inverse, .func (PySem.W.fnOf "inverse" "inverse" (defArgs s_inverse) (defBody s_inverse) (defScope s_inverse) .none kV_inverse dc_inverse pm_inverse an_inverse cd_inverse ct_inverse), sl_inverse⟩)
    (c_inverse : PySem.W.codeIn K cd_inverse "inverse" = true)
    (k_inverse : PySem.W.keepIn K (.ref f_inverse) = true)
    (a_Lamp_init : PySem.W.findIn K (.ref C_Lamp) "__init__" = some (some (.ref f_Lamp_init)))
    (j_Lamp_init : PySem.W.isFn K (.ref f_Lamp_init) = true)
    (l_Lamp_init : K.lookup f_Lamp_init = some ⟨oc_Lamp_init, od_Lamp_init, .func (PySem.W.fnOf "__init__" "Lamp.__init__" (defArgs s_Lamp_init) (defBody s_Lamp_init) (defScope s_Lamp_init) .none kV_Lamp_init dc_Lamp_init pm_Lamp_init an_Lamp_init cd_Lamp_init ct_Lamp_init), sl_Lamp_init⟩)
    (c_Lamp_init : PySem.W.codeIn K cd_Lamp_init "Lamp.__init__" = true)
    (k_Lamp_init : PySem.W.keepIn K (.ref f_Lamp_init) = true)
    (a_Lamp_eq : PySem.W.findIn K (.ref C_Lamp) "__eq__" = some (some (.ref f_Lamp_eq)))
    (j_Lamp_eq : PySem.W.isFn K (.ref f_Lamp_eq) = true)
    (l_Lamp_eq : K.lookup f_Lamp_eq = some ⟨oc_Lamp_eq, od_Lamp_eq, .func (PySem.W.fnOf "__eq__" "Lamp.__eq__" (defArgs s_Lamp_eq) (defBody s_Lamp_eq) (defScope s_Lamp_eq) .none kV_Lamp_eq dc_Lamp_eq pm_Lamp_eq an_Lamp_eq cd_Lamp_eq ct_Lamp_eq), sl_Lamp_eq⟩)
    (c_Lamp_eq : PySem.W.codeIn K cd_Lamp_eq "Lamp.__eq__" = true)
    (k_Lamp_eq : PySem.W.keepIn K (.ref f_Lamp_eq) = true)
    (a_seen_from : PySem.W.nsIn K mainGlobals "seen_from" = some (some (.ref f_seen_from)))
    (l_seen_from : K.lookup f_seen_from = some ⟨oc_seen_from, od_seen_from, .func (PySem.W.fnOf "seen_from" "seen_from" (defArgs s_seen_from) (defBody s_seen_from) (defScope s_seen_from) .none kV_seen_from dc_seen_from pm_seen_from an_seen_from cd_seen_from ct_seen_from), sl_seen_from⟩)
    (c_seen_from : PySem.W.codeIn K cd_seen_from "seen_from" = true)
    (k_seen_from : PySem.W.keepIn K (.ref f_seen_from) = true)
    (a_l_mixed : PySem.W.nsIn K mainGlobals "_law_mixed" = some (some (.ref f_l_mixed)))
    (l_l_mixed : K.lookup f_l_mixed = some ⟨oc_l_mixed, od_l_mixed, .func (PySem.W.fnOf "_law_mixed" "_law_mixed" (defArgs s_l_mixed) (defBody s_l_mixed) (defScope s_l_mixed) .none kV_l_mixed dc_l_mixed pm_l_mixed an_l_mixed cd_l_mixed ct_l_mixed), sl_l_mixed⟩)
    (c_l_mixed : PySem.W.codeIn K cd_l_mixed "_law_mixed" = true)
    (k_l_mixed : PySem.W.keepIn K (.ref f_l_mixed) = true)
    (a_l_source : PySem.W.nsIn K mainGlobals "_law_source" = some (some (.ref f_l_source)))
    (l_l_source : K.lookup f_l_source = some ⟨oc_l_source, od_l_source, .func (PySem.W.fnOf "_law_source" "_law_source" (defArgs s_l_source) (defBody s_l_source) (defScope s_l_source) .none kV_l_source dc_l_source pm_l_source an_l_source cd_l_source ct_l_source), sl_l_source⟩)
    (c_l_source : PySem.W.codeIn K cd_l_source "_law_source" = true)
    (k_l_source : PySem.W.keepIn K (.ref f_l_source) = true)
    (a_l_take : PySem.W.nsIn K mainGlobals "_law_take" = some (some (.ref f_l_take)))
    (l_l_take : K.lookup f_l_take = some ⟨oc_l_take, od_l_take, .func (PySem.W.fnOf "_law_take" "_law_take" (defArgs s_l_take) (defBody s_l_take) (defScope s_l_take) .none kV_l_take dc_l_take pm_l_take an_l_take cd_l_take ct_l_take), sl_l_take⟩)
    (c_l_take : PySem.W.codeIn K cd_l_take "_law_take" = true)
    (k_l_take : PySem.W.keepIn K (.ref f_l_take) = true)
    (a_meet : PySem.W.nsIn K mainGlobals "meet" = some (some (.ref f_meet)))
    (l_meet : K.lookup f_meet = some ⟨oc_meet, od_meet, .func (PySem.W.fnOf "meet" "meet" (defArgs s_meet) (defBody s_meet) (defScope s_meet) .none kV_meet dc_meet pm_meet an_meet cd_meet ct_meet), sl_meet⟩)
    (c_meet : PySem.W.codeIn K cd_meet "meet" = true)
    (k_meet : PySem.W.keepIn K (.ref f_meet) = true)
    (a_copied : PySem.W.nsIn K mainGlobals "_copied" = some (some (.ref f_copied)))
    (l_copied : K.lookup f_copied = some ⟨oc_copied, od_copied, .func (PySem.W.fnOf "_copied" "_copied" (defArgs s_copied) (defBody s_copied) (defScope s_copied) .none kV_copied dc_copied pm_copied an_copied cd_copied ct_copied), sl_copied⟩)
    (c_copied : PySem.W.codeIn K cd_copied "_copied" = true)
    (k_copied : PySem.W.keepIn K (.ref f_copied) = true)
    (a_Light_init : PySem.W.findIn K (.ref C_Light) "__init__" = some (some (.ref f_Light_init)))
    (j_Light_init : PySem.W.isFn K (.ref f_Light_init) = true)
    (l_Light_init : K.lookup f_Light_init = some ⟨oc_Light_init, od_Light_init, .func (PySem.W.fnOf "__init__" "Light.__init__" (defArgs s_Light_init) (defBody s_Light_init) (defScope s_Light_init) .none kV_Light_init dc_Light_init pm_Light_init an_Light_init cd_Light_init ct_Light_init), sl_Light_init⟩)
    (c_Light_init : PySem.W.codeIn K cd_Light_init "Light.__init__" = true)
    (k_Light_init : PySem.W.keepIn K (.ref f_Light_init) = true)
    (a_Light_lamps : PySem.W.findIn K (.ref C_Light) "lamps" = some (some (.ref f_Light_lamps)))
    (j_Light_lamps : PySem.W.isFn K (.ref f_Light_lamps) = true)
    (l_Light_lamps : K.lookup f_Light_lamps = some ⟨oc_Light_lamps, od_Light_lamps, .func (PySem.W.fnOf "lamps" "Light.lamps" (defArgs s_Light_lamps) (defBody s_Light_lamps) (defScope s_Light_lamps) .none kV_Light_lamps dc_Light_lamps pm_Light_lamps an_Light_lamps cd_Light_lamps ct_Light_lamps), sl_Light_lamps⟩)
    (c_Light_lamps : PySem.W.codeIn K cd_Light_lamps "Light.lamps" = true)
    (k_Light_lamps : PySem.W.keepIn K (.ref f_Light_lamps) = true)
    (a_by_turns : PySem.W.nsIn K mainGlobals "_by_turns" = some (some (.ref f_by_turns)))
    (l_by_turns : K.lookup f_by_turns = some ⟨oc_by_turns, od_by_turns, .func (PySem.W.fnOf "_by_turns" "_by_turns" (defArgs s_by_turns) (defBody s_by_turns) (defScope s_by_turns) .none kV_by_turns dc_by_turns pm_by_turns an_by_turns cd_by_turns ct_by_turns), sl_by_turns⟩)
    (c_by_turns : PySem.W.codeIn K cd_by_turns "_by_turns" = true)
    (k_by_turns : PySem.W.keepIn K (.ref f_by_turns) = true)
    (a_with_just : PySem.W.nsIn K mainGlobals "_with_just" = some (some (.ref f_with_just)))
    (l_with_just : K.lookup f_with_just = some ⟨oc_with_just, od_with_just, .func (PySem.W.fnOf "_with_just" "_with_just" (defArgs s_with_just) (defBody s_with_just) (defScope s_with_just) .none kV_with_just dc_with_just pm_with_just an_with_just cd_with_just ct_with_just), sl_with_just⟩)
    (c_with_just : PySem.W.codeIn K cd_with_just "_with_just" = true)
    (k_with_just : PySem.W.keepIn K (.ref f_with_just) = true)
    (a_often : PySem.W.nsIn K mainGlobals "_often" = some (some (.ref f_often)))
    (l_often : K.lookup f_often = some ⟨oc_often, od_often, .func (PySem.W.fnOf "_often" "_often" (defArgs s_often) (defBody s_often) (defScope s_often) .none kV_often dc_often pm_often an_often cd_often ct_often), sl_often⟩)
    (c_often : PySem.W.codeIn K cd_often "_often" = true)
    (k_often : PySem.W.keepIn K (.ref f_often) = true)
    (a_meetings : PySem.W.nsIn K mainGlobals "_meetings" = some (some (.ref f_meetings)))
    (l_meetings : K.lookup f_meetings = some ⟨oc_meetings, od_meetings, .func (PySem.W.fnOf "_meetings" "_meetings" (defArgs s_meetings) (defBody s_meetings) (defScope s_meetings) .none kV_meetings dc_meetings pm_meetings an_meetings cd_meetings ct_meetings), sl_meetings⟩)
    (c_meetings : PySem.W.codeIn K cd_meetings "_meetings" = true)
    (k_meetings : PySem.W.keepIn K (.ref f_meetings) = true)
    (a_by_many : PySem.W.nsIn K mainGlobals "by_many" = some (some (.ref f_by_many)))
    (l_by_many : K.lookup f_by_many = some ⟨oc_by_many, od_by_many, .func (PySem.W.fnOf "by_many" "by_many" (defArgs s_by_many) (defBody s_by_many) (defScope s_by_many) .none kV_by_many dc_by_many pm_by_many an_by_many cd_by_many ct_by_many), sl_by_many⟩)
    (c_by_many : PySem.W.codeIn K cd_by_many "by_many" = true)
    (k_by_many : PySem.W.keepIn K (.ref f_by_many) = true)
    (a_dark_between : PySem.W.nsIn K mainGlobals "dark_between" = some (some (.ref f_dark_between)))
    (l_dark_between : K.lookup f_dark_between = some ⟨oc_dark_between, od_dark_between, .func (PySem.W.fnOf "dark_between" "dark_between" (defArgs s_dark_between) (defBody s_dark_between) (defScope s_dark_between) .none kV_dark_between dc_dark_between pm_dark_between an_dark_between cd_dark_between ct_dark_between), sl_dark_between⟩)
    (c_dark_between : PySem.W.codeIn K cd_dark_between "dark_between" = true)
    (k_dark_between : PySem.W.keepIn K (.ref f_dark_between) = true)
    (a_moved : PySem.W.nsIn K mainGlobals "moved" = some (some (.ref f_moved)))
    (l_moved : K.lookup f_moved = some ⟨oc_moved, od_moved, .func (PySem.W.fnOf "moved" "moved" (defArgs s_moved) (defBody s_moved) (defScope s_moved) .none kV_moved dc_moved pm_moved an_moved cd_moved ct_moved), sl_moved⟩)
    (c_moved : PySem.W.codeIn K cd_moved "moved" = true)
    (k_moved : PySem.W.keepIn K (.ref f_moved) = true)
    (a_stretched : PySem.W.nsIn K mainGlobals "stretched" = some (some (.ref f_stretched)))
    (l_stretched : K.lookup f_stretched = some ⟨oc_stretched, od_stretched, .func (PySem.W.fnOf "stretched" "stretched" (defArgs s_stretched) (defBody s_stretched) (defScope s_stretched) .none kV_stretched dc_stretched pm_stretched an_stretched cd_stretched ct_stretched), sl_stretched⟩)
    (c_stretched : PySem.W.codeIn K cd_stretched "stretched" = true)
    (k_stretched : PySem.W.keepIn K (.ref f_stretched) = true)
    (a_light_of : PySem.W.nsIn K mainGlobals "_light_of" = some (some (.ref f_light_of)))
    (l_light_of : K.lookup f_light_of = some ⟨oc_light_of, od_light_of, .func (PySem.W.fnOf "_light_of" "_light_of" (defArgs s_light_of) (defBody s_light_of) (defScope s_light_of) .none kV_light_of dc_light_of pm_light_of an_light_of cd_light_of ct_light_of), sl_light_of⟩)
    (c_light_of : PySem.W.codeIn K cd_light_of "_light_of" = true)
    (k_light_of : PySem.W.keepIn K (.ref f_light_of) = true)
    (a_joined : PySem.W.nsIn K mainGlobals "joined" = some (some (.ref f_joined)))
    (l_joined : K.lookup f_joined = some ⟨oc_joined, od_joined, .func (PySem.W.fnOf "joined" "joined" (defArgs s_joined) (defBody s_joined) (defScope s_joined) .none kV_joined dc_joined pm_joined an_joined cd_joined ct_joined), sl_joined⟩)
    (c_joined : PySem.W.codeIn K cd_joined "joined" = true)
    (k_joined : PySem.W.keepIn K (.ref f_joined) = true)
    (a_unlike : PySem.W.nsIn K mainGlobals "_unlike" = some (some (.ref f_unlike)))
    (l_unlike : K.lookup f_unlike = some ⟨oc_unlike, od_unlike, .func (PySem.W.fnOf "_unlike" "_unlike" (defArgs s_unlike) (defBody s_unlike) (defScope s_unlike) .none kV_unlike dc_unlike pm_unlike an_unlike cd_unlike ct_unlike), sl_unlike⟩)
    (c_unlike : PySem.W.codeIn K cd_unlike "_unlike" = true)
    (k_unlike : PySem.W.keepIn K (.ref f_unlike) = true)
    (a_both : PySem.W.nsIn K mainGlobals "both" = some (some (.ref f_both)))
    (l_both : K.lookup f_both = some ⟨oc_both, od_both, .func (PySem.W.fnOf "both" "both" (defArgs s_both) (defBody s_both) (defScope s_both) .none kV_both dc_both pm_both an_both cd_both ct_both), sl_both⟩)
    (c_both : PySem.W.codeIn K cd_both "both" = true)
    (k_both : PySem.W.keepIn K (.ref f_both) = true)
    (a_l_lamps : PySem.W.nsIn K mainGlobals "_law_lamps" = some (some (.ref f_l_lamps)))
    (l_l_lamps : K.lookup f_l_lamps = some ⟨oc_l_lamps, od_l_lamps, .func (PySem.W.fnOf "_law_lamps" "_law_lamps" (defArgs s_l_lamps) (defBody s_l_lamps) (defScope s_l_lamps) .none kV_l_lamps dc_l_lamps pm_l_lamps an_l_lamps cd_l_lamps ct_l_lamps), sl_l_lamps⟩)
    (c_l_lamps : PySem.W.codeIn K cd_l_lamps "_law_lamps" = true)
    (k_l_lamps : PySem.W.keepIn K (.ref f_l_lamps) = true)
    (a_l_beat : PySem.W.nsIn K mainGlobals "_law_beat" = some (some (.ref f_l_beat)))
    (l_l_beat : K.lookup f_l_beat = some ⟨oc_l_beat, od_l_beat, .func (PySem.W.fnOf "_law_beat" "_law_beat" (defArgs s_l_beat) (defBody s_l_beat) (defScope s_l_beat) .none kV_l_beat dc_l_beat pm_l_beat an_l_beat cd_l_beat ct_l_beat), sl_l_beat⟩)
    (c_l_beat : PySem.W.codeIn K cd_l_beat "_law_beat" = true)
    (k_l_beat : PySem.W.keepIn K (.ref f_l_beat) = true)
    (a_l_light : PySem.W.nsIn K mainGlobals "_law_light" = some (some (.ref f_l_light)))
    (l_l_light : K.lookup f_l_light = some ⟨oc_l_light, od_l_light, .func (PySem.W.fnOf "_law_light" "_law_light" (defArgs s_l_light) (defBody s_l_light) (defScope s_l_light) .none kV_l_light dc_l_light pm_l_light an_l_light cd_l_light ct_l_light), sl_l_light⟩)
    (c_l_light : PySem.W.codeIn K cd_l_light "_law_light" = true)
    (k_l_light : PySem.W.keepIn K (.ref f_l_light) = true)
    (a_l_bright : PySem.W.nsIn K mainGlobals "_law_bright" = some (some (.ref f_l_bright)))
    (l_l_bright : K.lookup f_l_bright = some ⟨oc_l_bright, od_l_bright, .func (PySem.W.fnOf "_law_bright" "_law_bright" (defArgs s_l_bright) (defBody s_l_bright) (defScope s_l_bright) .none kV_l_bright dc_l_bright pm_l_bright an_l_bright cd_l_bright ct_l_bright), sl_l_bright⟩)
    (c_l_bright : PySem.W.codeIn K cd_l_bright "_law_bright" = true)
    (k_l_bright : PySem.W.keepIn K (.ref f_l_bright) = true)
    (a_l_shines : PySem.W.nsIn K mainGlobals "_law_shines" = some (some (.ref f_l_shines)))
    (l_l_shines : K.lookup f_l_shines = some ⟨oc_l_shines, od_l_shines, .func (PySem.W.fnOf "_law_shines" "_law_shines" (defArgs s_l_shines) (defBody s_l_shines) (defScope s_l_shines) .none kV_l_shines dc_l_shines pm_l_shines an_l_shines cd_l_shines ct_l_shines), sl_l_shines⟩)
    (c_l_shines : PySem.W.codeIn K cd_l_shines "_law_shines" = true)
    (k_l_shines : PySem.W.keepIn K (.ref f_l_shines) = true)
    (a_l_sums_right : PySem.W.nsIn K mainGlobals "_law_sums_right" = some (some (.ref f_l_sums_right)))
    (l_l_sums_right : K.lookup f_l_sums_right = some ⟨oc_l_sums_right, od_l_sums_right, .func (PySem.W.fnOf "_law_sums_right" "_law_sums_right" (defArgs s_l_sums_right) (defBody s_l_sums_right) (defScope s_l_sums_right) .none kV_l_sums_right dc_l_sums_right pm_l_sums_right an_l_sums_right cd_l_sums_right ct_l_sums_right), sl_l_sums_right⟩)
    (c_l_sums_right : PySem.W.codeIn K cd_l_sums_right "_law_sums_right" = true)
    (k_l_sums_right : PySem.W.keepIn K (.ref f_l_sums_right) = true)
    (a_l_two_right : PySem.W.nsIn K mainGlobals "_law_two_right" = some (some (.ref f_l_two_right)))
    (l_l_two_right : K.lookup f_l_two_right = some ⟨oc_l_two_right, od_l_two_right, .func (PySem.W.fnOf "_law_two_right" "_law_two_right" (defArgs s_l_two_right) (defBody s_l_two_right) (defScope s_l_two_right) .none kV_l_two_right dc_l_two_right pm_l_two_right an_l_two_right cd_l_two_right ct_l_two_right), sl_l_two_right⟩)
    (c_l_two_right : PySem.W.codeIn K cd_l_two_right "_law_two_right" = true)
    (k_l_two_right : PySem.W.keepIn K (.ref f_l_two_right) = true)
    (a_l_law : PySem.W.nsIn K mainGlobals "law" = some (some (.ref f_l_law)))
    (l_l_law : K.lookup f_l_law = some ⟨oc_l_law, od_l_law, .func (PySem.W.fnOf "law" "law" (defArgs s_l_law) (defBody s_l_law) (defScope s_l_law) .none kV_l_law dc_l_law pm_l_law an_l_law cd_l_law ct_l_law), sl_l_law⟩)
    (c_l_law : PySem.W.codeIn K cd_l_law "law" = true)
    (k_l_law : PySem.W.keepIn K (.ref f_l_law) = true)
    (ne1_Lamp : PySem.W.findIn K (.ref C_Lamp) "__ne__" = some (some (.builtin "object.__ne__")))
    (ne2_Lamp : PySem.W.subIn K (.ref C_Lamp) (.type "object") = some true)
    (n_isinstance : PySem.W.nsIn K mainGlobals "isinstance" = some none)
    (n_int : PySem.W.nsIn K mainGlobals "int" = some none)
    (n_bool : PySem.W.nsIn K mainGlobals "bool" = some none)
    (n_range : PySem.W.nsIn K mainGlobals "range" = some none)
    (n_len : PySem.W.nsIn K mainGlobals "len" = some none)
    (n_list : PySem.W.nsIn K mainGlobals "list" = some none)
    (n_enumerate : PySem.W.nsIn K mainGlobals "enumerate" = some none)
    (n_tuple : PySem.W.nsIn K mainGlobals "tuple" = some none)
    (n_all : PySem.W.nsIn K mainGlobals "all" = some none)
    (n_sum : PySem.W.nsIn K mainGlobals "sum" = some none)
    (n_reversed : PySem.W.nsIn K mainGlobals "reversed" = some none)
    (n_max : PySem.W.nsIn K mainGlobals "max" = some none)
    (n_set : PySem.W.nsIn K mainGlobals "set" = some none)
    (n_min : PySem.W.nsIn K mainGlobals "min" = some none)
    (c_MOST_LAMPS : PySem.W.nsIn K mainGlobals "MOST_LAMPS" = some (some (.int 10 t_MOST_LAMPS)))
    (ic_Lamp : PySem.W.isClsIn K C_Lamp = true)
    (tc_Lamp : PySem.W.typeIn K (.ref C_Lamp) = some (.type "type"))
    (sn_Lamp : PySem.W.subIn K (.type "NoneType") (.ref C_Lamp) = some false)
    (i_comb : PySem.W.nsIn K mainGlobals "comb" = some (some (.builtin "math.comb")))
    (i_gcd : PySem.W.nsIn K mainGlobals "gcd" = some (some (.builtin "math.gcd")))
    : ∃ fd : FuncData, (∀ (s : Shared) (v : Value), BindsTo s fd ⟨[v], []⟩ [("_law_script", v)]) ∧ ∀ base : Heap, K.In base → base.Ns mainGlobals mg → FnOk l.prog w K mg base CX0 11 fa fd ["_law_script"] (spLaw K) := by
  have e := hfa.symm.trans (PySem.W.mg_of X G a_l_law)
  cases e
  exact ⟨_, fun s v => .of_eq rfl, fun base _ _ => ok_l_law (T := {
    C_Lamp := C_Lamp
    cl_Lamp := ⟨pg_Lamp, hd_Lamp, po_Lamp, sa_Lamp⟩
    gC_Lamp := PySem.W.mg_of X G aC_Lamp
    kl_Lamp := ⟨⟨pg_Lamp, hd_Lamp, po_Lamp, sa_Lamp⟩, kha_Lamp, khn_Lamp, kht_Lamp, khm_Lamp⟩
    na_Lamp_period := na_Lamp_period
    na_Lamp_beat := na_Lamp_beat
    C_Light := C_Light
    cl_Light := ⟨pg_Light, hd_Light, po_Light, sa_Light⟩
    gC_Light := PySem.W.mg_of X G aC_Light
    kl_Light := ⟨⟨pg_Light, hd_Light, po_Light, sa_Light⟩, kha_Light, khn_Light, kht_Light, khm_Light⟩
    na_Light__lamps := na_Light__lamps
    f_is_whole := f_is_whole
    d_is_whole := PySem.W.fnOf "is_whole" "is_whole" (defArgs s_is_whole) (defBody s_is_whole) (defScope s_is_whole) .none kV_is_whole dc_is_whole pm_is_whole an_is_whole cd_is_whole ct_is_whole
    F_is_whole := fun_mk (st := s_is_whole) l_is_whole c_is_whole k_is_whole
    b_is_whole := (fun_mk (st := s_is_whole) l_is_whole c_is_whole k_is_whole).binds (ps := ["thing"]) fun _ _ _ _ _ _ us hl => match us, hl with | [_], _ => rfl
    g_is_whole := PySem.W.mg_of X G a_is_whole
    f_check_beat := f_check_beat
    d_check_beat := PySem.W.fnOf "check_beat" "check_beat" (defArgs s_check_beat) (defBody s_check_beat) (defScope s_check_beat) .none kV_check_beat dc_check_beat pm_check_beat an_check_beat cd_check_beat ct_check_beat
    F_check_beat := fun_mk (st := s_check_beat) l_check_beat c_check_beat k_check_beat
    b_check_beat := (fun_mk (st := s_check_beat) l_check_beat c_check_beat k_check_beat).binds (ps := ["thing"]) fun _ _ _ _ _ _ us hl => match us, hl with | [_], _ => rfl
    g_check_beat := PySem.W.mg_of X G a_check_beat
    f_inverse := f_inverse
    d_inverse := PySem.W.fnOf "inverse" "inverse" (defArgs s_inverse) (defBody s_inverse) (defScope s_inverse) .none kV_inverse dc_inverse pm_inverse an_inverse cd_inverse ct_inverse
    F_inverse := fun_mk (st := s_inverse) l_inverse c_inverse k_inverse
    b_inverse := (fun_mk (st := s_inverse) l_inverse c_inverse k_inverse).binds (ps := ["number", "modulus"]) fun _ _ _ _ _ _ us hl => match us, hl with | [_, _], _ => rfl
    g_inverse := PySem.W.mg_of X G a_inverse
    f_Lamp_init := f_Lamp_init
    d_Lamp_init := PySem.W.fnOf "__init__" "Lamp.__init__" (defArgs s_Lamp_init) (defBody s_Lamp_init) (defScope s_Lamp_init) .none kV_Lamp_init dc_Lamp_init pm_Lamp_init an_Lamp_init cd_Lamp_init ct_Lamp_init
    F_Lamp_init := fun_mk (st := s_Lamp_init) l_Lamp_init c_Lamp_init k_Lamp_init
    b_Lamp_init := (fun_mk (st := s_Lamp_init) l_Lamp_init c_Lamp_init k_Lamp_init).binds (ps := ["self", "period", "beat"]) fun _ _ _ _ _ _ us hl => match us, hl with | [_, _, _], _ => rfl
    m_Lamp_init := ⟨a_Lamp_init, j_Lamp_init, k_Lamp_init⟩
    mk_Lamp := ⟨mk_Lamp, a_Lamp_init, j_Lamp_init, kc_Lamp⟩
    f_Lamp_eq := f_Lamp_eq
    d_Lamp_eq := PySem.W.fnOf "__eq__" "Lamp.__eq__" (defArgs s_Lamp_eq) (defBody s_Lamp_eq) (defScope s_Lamp_eq) .none kV_Lamp_eq dc_Lamp_eq pm_Lamp_eq an_Lamp_eq cd_Lamp_eq ct_Lamp_eq
    F_Lamp_eq := fun_mk (st := s_Lamp_eq) l_Lamp_eq c_Lamp_eq k_Lamp_eq
    b_Lamp_eq := (fun_mk (st := s_Lamp_eq) l_Lamp_eq c_Lamp_eq k_Lamp_eq).binds (ps := ["self", "other"]) fun _ _ _ _ _ _ us hl => match us, hl with | [_, _], _ => rfl
    m_Lamp_eq := ⟨a_Lamp_eq, j_Lamp_eq, k_Lamp_eq⟩
    f_seen_from := f_seen_from
    d_seen_from := PySem.W.fnOf "seen_from" "seen_from" (defArgs s_seen_from) (defBody s_seen_from) (defScope s_seen_from) .none kV_seen_from dc_seen_from pm_seen_from an_seen_from cd_seen_from ct_seen_from
    F_seen_from := fun_mk (st := s_seen_from) l_seen_from c_seen_from k_seen_from
    b_seen_from := (fun_mk (st := s_seen_from) l_seen_from c_seen_from k_seen_from).binds (ps := ["lamp", "other"]) fun _ _ _ _ _ _ us hl => match us, hl with | [_, _], _ => rfl
    g_seen_from := PySem.W.mg_of X G a_seen_from
    f_l_mixed := f_l_mixed
    d_l_mixed := PySem.W.fnOf "_law_mixed" "_law_mixed" (defArgs s_l_mixed) (defBody s_l_mixed) (defScope s_l_mixed) .none kV_l_mixed dc_l_mixed pm_l_mixed an_l_mixed cd_l_mixed ct_l_mixed
    F_l_mixed := fun_mk (st := s_l_mixed) l_l_mixed c_l_mixed k_l_mixed
    b_l_mixed := (fun_mk (st := s_l_mixed) l_l_mixed c_l_mixed k_l_mixed).binds (ps := ["_law_cell", "_law_k"]) fun _ _ _ _ _ _ us hl => match us, hl with | [_, _], _ => rfl
    g_l_mixed := PySem.W.mg_of X G a_l_mixed
    f_l_source := f_l_source
    d_l_source := PySem.W.fnOf "_law_source" "_law_source" (defArgs s_l_source) (defBody s_l_source) (defScope s_l_source) .none kV_l_source dc_l_source pm_l_source an_l_source cd_l_source ct_l_source
    F_l_source := fun_mk (st := s_l_source) l_l_source c_l_source k_l_source
    b_l_source := (fun_mk (st := s_l_source) l_l_source c_l_source k_l_source).binds (ps := ["_law_cell"]) fun _ _ _ _ _ _ us hl => match us, hl with | [_], _ => rfl
    g_l_source := PySem.W.mg_of X G a_l_source
    f_l_take := f_l_take
    d_l_take := PySem.W.fnOf "_law_take" "_law_take" (defArgs s_l_take) (defBody s_l_take) (defScope s_l_take) .none kV_l_take dc_l_take pm_l_take an_l_take cd_l_take ct_l_take
    F_l_take := fun_mk (st := s_l_take) l_l_take c_l_take k_l_take
    b_l_take := (fun_mk (st := s_l_take) l_l_take c_l_take k_l_take).binds (ps := ["_law_source_here", "_law_many"]) fun _ _ _ _ _ _ us hl => match us, hl with | [_, _], _ => rfl
    g_l_take := PySem.W.mg_of X G a_l_take
    f_meet := f_meet
    d_meet := PySem.W.fnOf "meet" "meet" (defArgs s_meet) (defBody s_meet) (defScope s_meet) .none kV_meet dc_meet pm_meet an_meet cd_meet ct_meet
    F_meet := fun_mk (st := s_meet) l_meet c_meet k_meet
    b_meet := (fun_mk (st := s_meet) l_meet c_meet k_meet).binds (ps := ["one", "other"]) fun _ _ _ _ _ _ us hl => match us, hl with | [_, _], _ => rfl
    g_meet := PySem.W.mg_of X G a_meet
    f_copied := f_copied
    d_copied := PySem.W.fnOf "_copied" "_copied" (defArgs s_copied) (defBody s_copied) (defScope s_copied) .none kV_copied dc_copied pm_copied an_copied cd_copied ct_copied
    F_copied := fun_mk (st := s_copied) l_copied c_copied k_copied
    b_copied := (fun_mk (st := s_copied) l_copied c_copied k_copied).binds (ps := ["lamps"]) fun _ _ _ _ _ _ us hl => match us, hl with | [_], _ => rfl
    g_copied := PySem.W.mg_of X G a_copied
    f_Light_init := f_Light_init
    d_Light_init := PySem.W.fnOf "__init__" "Light.__init__" (defArgs s_Light_init) (defBody s_Light_init) (defScope s_Light_init) .none kV_Light_init dc_Light_init pm_Light_init an_Light_init cd_Light_init ct_Light_init
    F_Light_init := fun_mk (st := s_Light_init) l_Light_init c_Light_init k_Light_init
    b_Light_init := (fun_mk (st := s_Light_init) l_Light_init c_Light_init k_Light_init).binds (ps := ["self", "lamps"]) fun _ _ _ _ _ _ us hl => match us, hl with | [_, _], _ => rfl
    m_Light_init := ⟨a_Light_init, j_Light_init, k_Light_init⟩
    mk_Light := ⟨mk_Light, a_Light_init, j_Light_init, kc_Light⟩
    f_Light_lamps := f_Light_lamps
    d_Light_lamps := PySem.W.fnOf "lamps" "Light.lamps" (defArgs s_Light_lamps) (defBody s_Light_lamps) (defScope s_Light_lamps) .none kV_Light_lamps dc_Light_lamps pm_Light_lamps an_Light_lamps cd_Light_lamps ct_Light_lamps
    F_Light_lamps := fun_mk (st := s_Light_lamps) l_Light_lamps c_Light_lamps k_Light_lamps
    b_Light_lamps := (fun_mk (st := s_Light_lamps) l_Light_lamps c_Light_lamps k_Light_lamps).binds (ps := ["self"]) fun _ _ _ _ _ _ us hl => match us, hl with | [_], _ => rfl
    m_Light_lamps := ⟨a_Light_lamps, j_Light_lamps, k_Light_lamps⟩
    f_by_turns := f_by_turns
    d_by_turns := PySem.W.fnOf "_by_turns" "_by_turns" (defArgs s_by_turns) (defBody s_by_turns) (defScope s_by_turns) .none kV_by_turns dc_by_turns pm_by_turns an_by_turns cd_by_turns ct_by_turns
    F_by_turns := fun_mk (st := s_by_turns) l_by_turns c_by_turns k_by_turns
    b_by_turns := (fun_mk (st := s_by_turns) l_by_turns c_by_turns k_by_turns).binds (ps := ["numbers"]) fun _ _ _ _ _ _ us hl => match us, hl with | [_], _ => rfl
    g_by_turns := PySem.W.mg_of X G a_by_turns
    f_with_just := f_with_just
    d_with_just := PySem.W.fnOf "_with_just" "_with_just" (defArgs s_with_just) (defBody s_with_just) (defScope s_with_just) .none kV_with_just dc_with_just pm_with_just an_with_just cd_with_just ct_with_just
    F_with_just := fun_mk (st := s_with_just) l_with_just c_with_just k_with_just
    b_with_just := (fun_mk (st := s_with_just) l_with_just c_with_just k_with_just).binds (ps := ["just", "often"]) fun _ _ _ _ _ _ us hl => match us, hl with | [_, _], _ => rfl
    g_with_just := PySem.W.mg_of X G a_with_just
    f_often := f_often
    d_often := PySem.W.fnOf "_often" "_often" (defArgs s_often) (defBody s_often) (defScope s_often) .none kV_often dc_often pm_often an_often cd_often ct_often
    F_often := fun_mk (st := s_often) l_often c_often k_often
    b_often := (fun_mk (st := s_often) l_often c_often k_often).binds (ps := ["meetings", "long"]) fun _ _ _ _ _ _ us hl => match us, hl with | [_, _], _ => rfl
    g_often := PySem.W.mg_of X G a_often
    f_meetings := f_meetings
    d_meetings := PySem.W.fnOf "_meetings" "_meetings" (defArgs s_meetings) (defBody s_meetings) (defScope s_meetings) .none kV_meetings dc_meetings pm_meetings an_meetings cd_meetings ct_meetings
    F_meetings := fun_mk (st := s_meetings) l_meetings c_meetings k_meetings
    b_meetings := (fun_mk (st := s_meetings) l_meetings c_meetings k_meetings).binds (ps := ["light", "begin", "long"]) fun _ _ _ _ _ _ us hl => match us, hl with | [_, _, _], _ => rfl
    g_meetings := PySem.W.mg_of X G a_meetings
    f_by_many := f_by_many
    d_by_many := PySem.W.fnOf "by_many" "by_many" (defArgs s_by_many) (defBody s_by_many) (defScope s_by_many) .none kV_by_many dc_by_many pm_by_many an_by_many cd_by_many ct_by_many
    F_by_many := fun_mk (st := s_by_many) l_by_many c_by_many k_by_many
    b_by_many := (fun_mk (st := s_by_many) l_by_many c_by_many k_by_many).binds (ps := ["light", "begin", "end"]) fun _ _ _ _ _ _ us hl => match us, hl with | [_, _, _], _ => rfl
    g_by_many := PySem.W.mg_of X G a_by_many
    f_dark_between := f_dark_between
    d_dark_between := PySem.W.fnOf "dark_between" "dark_between" (defArgs s_dark_between) (defBody s_dark_between) (defScope s_dark_between) .none kV_dark_between dc_dark_between pm_dark_between an_dark_between cd_dark_between ct_dark_between
    F_dark_between := fun_mk (st := s_dark_between) l_dark_between c_dark_between k_dark_between
    b_dark_between := (fun_mk (st := s_dark_between) l_dark_between c_dark_between k_dark_between).binds (ps := ["light", "begin", "end"]) fun _ _ _ _ _ _ us hl => match us, hl with | [_, _, _], _ => rfl
    g_dark_between := PySem.W.mg_of X G a_dark_between
    f_moved := f_moved
    d_moved := PySem.W.fnOf "moved" "moved" (defArgs s_moved) (defBody s_moved) (defScope s_moved) .none kV_moved dc_moved pm_moved an_moved cd_moved ct_moved
    F_moved := fun_mk (st := s_moved) l_moved c_moved k_moved
    b_moved := (fun_mk (st := s_moved) l_moved c_moved k_moved).binds (ps := ["light", "by"]) fun _ _ _ _ _ _ us hl => match us, hl with | [_, _], _ => rfl
    g_moved := PySem.W.mg_of X G a_moved
    f_stretched := f_stretched
    d_stretched := PySem.W.fnOf "stretched" "stretched" (defArgs s_stretched) (defBody s_stretched) (defScope s_stretched) .none kV_stretched dc_stretched pm_stretched an_stretched cd_stretched ct_stretched
    F_stretched := fun_mk (st := s_stretched) l_stretched c_stretched k_stretched
    b_stretched := (fun_mk (st := s_stretched) l_stretched c_stretched k_stretched).binds (ps := ["light", "times"]) fun _ _ _ _ _ _ us hl => match us, hl with | [_, _], _ => rfl
    g_stretched := PySem.W.mg_of X G a_stretched
    f_light_of := f_light_of
    d_light_of := PySem.W.fnOf "_light_of" "_light_of" (defArgs s_light_of) (defBody s_light_of) (defScope s_light_of) .none kV_light_of dc_light_of pm_light_of an_light_of cd_light_of ct_light_of
    F_light_of := fun_mk (st := s_light_of) l_light_of c_light_of k_light_of
    b_light_of := (fun_mk (st := s_light_of) l_light_of c_light_of k_light_of).binds (ps := ["lamps"]) fun _ _ _ _ _ _ us hl => match us, hl with | [_], _ => rfl
    g_light_of := PySem.W.mg_of X G a_light_of
    f_joined := f_joined
    d_joined := PySem.W.fnOf "joined" "joined" (defArgs s_joined) (defBody s_joined) (defScope s_joined) .none kV_joined dc_joined pm_joined an_joined cd_joined ct_joined
    F_joined := fun_mk (st := s_joined) l_joined c_joined k_joined
    b_joined := (fun_mk (st := s_joined) l_joined c_joined k_joined).binds (ps := ["one", "other"]) fun _ _ _ _ _ _ us hl => match us, hl with | [_, _], _ => rfl
    g_joined := PySem.W.mg_of X G a_joined
    f_unlike := f_unlike
    d_unlike := PySem.W.fnOf "_unlike" "_unlike" (defArgs s_unlike) (defBody s_unlike) (defScope s_unlike) .none kV_unlike dc_unlike pm_unlike an_unlike cd_unlike ct_unlike
    F_unlike := fun_mk (st := s_unlike) l_unlike c_unlike k_unlike
    b_unlike := (fun_mk (st := s_unlike) l_unlike c_unlike k_unlike).binds (ps := ["lamps"]) fun _ _ _ _ _ _ us hl => match us, hl with | [_], _ => rfl
    g_unlike := PySem.W.mg_of X G a_unlike
    f_both := f_both
    d_both := PySem.W.fnOf "both" "both" (defArgs s_both) (defBody s_both) (defScope s_both) .none kV_both dc_both pm_both an_both cd_both ct_both
    F_both := fun_mk (st := s_both) l_both c_both k_both
    b_both := (fun_mk (st := s_both) l_both c_both k_both).binds (ps := ["one", "other"]) fun _ _ _ _ _ _ us hl => match us, hl with | [_, _], _ => rfl
    g_both := PySem.W.mg_of X G a_both
    f_l_lamps := f_l_lamps
    d_l_lamps := PySem.W.fnOf "_law_lamps" "_law_lamps" (defArgs s_l_lamps) (defBody s_l_lamps) (defScope s_l_lamps) .none kV_l_lamps dc_l_lamps pm_l_lamps an_l_lamps cd_l_lamps ct_l_lamps
    F_l_lamps := fun_mk (st := s_l_lamps) l_l_lamps c_l_lamps k_l_lamps
    b_l_lamps := (fun_mk (st := s_l_lamps) l_l_lamps c_l_lamps k_l_lamps).binds (ps := ["_law_source_here", "_law_most"]) fun _ _ _ _ _ _ us hl => match us, hl with | [_, _], _ => rfl
    g_l_lamps := PySem.W.mg_of X G a_l_lamps
    f_l_beat := f_l_beat
    d_l_beat := PySem.W.fnOf "_law_beat" "_law_beat" (defArgs s_l_beat) (defBody s_l_beat) (defScope s_l_beat) .none kV_l_beat dc_l_beat pm_l_beat an_l_beat cd_l_beat ct_l_beat
    F_l_beat := fun_mk (st := s_l_beat) l_l_beat c_l_beat k_l_beat
    b_l_beat := (fun_mk (st := s_l_beat) l_l_beat c_l_beat k_l_beat).binds (ps := ["_law_source_here"]) fun _ _ _ _ _ _ us hl => match us, hl with | [_], _ => rfl
    g_l_beat := PySem.W.mg_of X G a_l_beat
    f_l_light := f_l_light
    d_l_light := PySem.W.fnOf "_law_light" "_law_light" (defArgs s_l_light) (defBody s_l_light) (defScope s_l_light) .none kV_l_light dc_l_light pm_l_light an_l_light cd_l_light ct_l_light
    F_l_light := fun_mk (st := s_l_light) l_l_light c_l_light k_l_light
    b_l_light := (fun_mk (st := s_l_light) l_l_light c_l_light k_l_light).binds (ps := ["_law_pairs"]) fun _ _ _ _ _ _ us hl => match us, hl with | [_], _ => rfl
    g_l_light := PySem.W.mg_of X G a_l_light
    f_l_bright := f_l_bright
    d_l_bright := PySem.W.fnOf "_law_bright" "_law_bright" (defArgs s_l_bright) (defBody s_l_bright) (defScope s_l_bright) .none kV_l_bright dc_l_bright pm_l_bright an_l_bright cd_l_bright ct_l_bright
    F_l_bright := fun_mk (st := s_l_bright) l_l_bright c_l_bright k_l_bright
    b_l_bright := (fun_mk (st := s_l_bright) l_l_bright c_l_bright k_l_bright).binds (ps := ["_law_seen", "_law_start", "_law_last"]) fun _ _ _ _ _ _ us hl => match us, hl with | [_, _, _], _ => rfl
    g_l_bright := PySem.W.mg_of X G a_l_bright
    f_l_shines := f_l_shines
    d_l_shines := PySem.W.fnOf "_law_shines" "_law_shines" (defArgs s_l_shines) (defBody s_l_shines) (defScope s_l_shines) .none kV_l_shines dc_l_shines pm_l_shines an_l_shines cd_l_shines ct_l_shines
    F_l_shines := fun_mk (st := s_l_shines) l_l_shines c_l_shines k_l_shines
    b_l_shines := (fun_mk (st := s_l_shines) l_l_shines c_l_shines k_l_shines).binds (ps := ["_law_pairs", "_law_start", "_law_last"]) fun _ _ _ _ _ _ us hl => match us, hl with | [_, _, _], _ => rfl
    g_l_shines := PySem.W.mg_of X G a_l_shines
    f_l_sums_right := f_l_sums_right
    d_l_sums_right := PySem.W.fnOf "_law_sums_right" "_law_sums_right" (defArgs s_l_sums_right) (defBody s_l_sums_right) (defScope s_l_sums_right) .none kV_l_sums_right dc_l_sums_right pm_l_sums_right an_l_sums_right cd_l_sums_right ct_l_sums_right
    F_l_sums_right := fun_mk (st := s_l_sums_right) l_l_sums_right c_l_sums_right k_l_sums_right
    b_l_sums_right := (fun_mk (st := s_l_sums_right) l_l_sums_right c_l_sums_right k_l_sums_right).binds (ps := ["_law_pairs", "_law_start", "_law_last"]) fun _ _ _ _ _ _ us hl => match us, hl with | [_, _, _], _ => rfl
    g_l_sums_right := PySem.W.mg_of X G a_l_sums_right
    f_l_two_right := f_l_two_right
    d_l_two_right := PySem.W.fnOf "_law_two_right" "_law_two_right" (defArgs s_l_two_right) (defBody s_l_two_right) (defScope s_l_two_right) .none kV_l_two_right dc_l_two_right pm_l_two_right an_l_two_right cd_l_two_right ct_l_two_right
    F_l_two_right := fun_mk (st := s_l_two_right) l_l_two_right c_l_two_right k_l_two_right
    b_l_two_right := (fun_mk (st := s_l_two_right) l_l_two_right c_l_two_right k_l_two_right).binds (ps := ["_law_one", "_law_other", "_law_start", "_law_last"]) fun _ _ _ _ _ _ us hl => match us, hl with | [_, _, _, _], _ => rfl
    g_l_two_right := PySem.W.mg_of X G a_l_two_right
    f_l_law := fa
    d_l_law := PySem.W.fnOf "law" "law" (defArgs s_l_law) (defBody s_l_law) (defScope s_l_law) .none kV_l_law dc_l_law pm_l_law an_l_law cd_l_law ct_l_law
    F_l_law := fun_mk (st := s_l_law) l_l_law c_l_law k_l_law
    b_l_law := (fun_mk (st := s_l_law) l_l_law c_l_law k_l_law).binds (ps := ["_law_script"]) fun _ _ _ _ _ _ us hl => match us, hl with | [_], _ => rfl
    g_l_law := PySem.W.mg_of X G a_l_law
    ne_Lamp := ⟨ne1_Lamp, ne2_Lamp⟩
    n_isinstance := PySem.W.mg_none_of X G n_isinstance
    n_int := PySem.W.mg_none_of X G n_int
    n_bool := PySem.W.mg_none_of X G n_bool
    n_range := PySem.W.mg_none_of X G n_range
    n_len := PySem.W.mg_none_of X G n_len
    n_list := PySem.W.mg_none_of X G n_list
    n_enumerate := PySem.W.mg_none_of X G n_enumerate
    n_tuple := PySem.W.mg_none_of X G n_tuple
    n_all := PySem.W.mg_none_of X G n_all
    n_sum := PySem.W.mg_none_of X G n_sum
    n_reversed := PySem.W.mg_none_of X G n_reversed
    n_max := PySem.W.mg_none_of X G n_max
    n_set := PySem.W.mg_none_of X G n_set
    n_min := PySem.W.mg_none_of X G n_min
    t_MOST_LAMPS := t_MOST_LAMPS
    c_MOST_LAMPS := PySem.W.mg_of X G c_MOST_LAMPS
    ic_Lamp := ic_Lamp
    tc_Lamp := tc_Lamp
    sn_Lamp := sn_Lamp
    i_comb := PySem.W.mg_of X G i_comb
    i_gcd := PySem.W.mg_of X G i_gcd
    })⟩
theorem walk {l : PySem.W.OpenLaw} {q : Program} {loose : List Str} {XP : (Str → Option Value) → Heap → Prop} {YP : World → Heap → Prop} {d : DefRec} {K : Params → PySem.W.Frag} (hn : l.most = some 63) (hdf : d.params.defaults = [])
    (hY : ∀ (w : World) (h : Heap), YP w h → (K w.params).In h)
    (F : ∀ (w : World) (mg : Str → Option Value) (fa : Addr) (h : Heap), (K w.params).In h → h.Ns mainGlobals mg → mg d.name = some (.ref fa) →
      ∃ fd : FuncData, (∀ (s : Shared) (u : Value), BindsTo s fd ⟨[u], []⟩ [("_law_script", u)]) ∧ ∀ base : Heap, (K w.params).In base → base.Ns mainGlobals mg → FnOk l.prog w (K w.params) mg base CX0 11 fa fd ["_law_script"] (spLaw (K w.params))) :
    PySem.W.WalkO q loose XP YP l.row.toRowW d [] (fun f vs => PySem.call f vs) :=
  L2.walk_of (n := 63) (k := 11) (x := "_law_script") (CX := fun _ => CX0) (sp := fun w => spLaw (K w.params)) hn (by decide) hdf ⟨rfl, by decide, by decide⟩ hY F (fun _ _ a ns hl _ hS => ⟨a, ns, rfl, hS, hl, fun _ => rfl⟩) fun _ _ _ _ _ z => z
end Own
open PySem PySem.W PyProof.Rows
set_option maxRecDepth 100000 in
set_option maxHeartbeats 0 in
theorem PySem.Challenge.cw_farlamps_k47_whole_sums_of_lamps_holds : PySem.Challenge.rw_farlamps_k47_whole_sums_of_lamps.Holds := by
  w_on; o_law; k_head; (case hw => w_witness2)
  k_fill
  refine Own.walk (l := PySem.Challenge.rw_farlamps_k47_whole_sums_of_lamps) rfl rfl (fun w h Y => PySem.W.kIn_of Y) ?F
  case F =>
    intro w mg fa h KX G hmg
    refine' Own.all_mk KX G hmg ?aC_Lamp ?pg_Lamp ?hd_Lamp ?po_Lamp ?sa_Lamp ?mk_Lamp ?kc_Lamp ?kha_Lamp ?khn_Lamp ?kht_Lamp ?khm_Lamp ?na_Lamp_period ?na_Lamp_beat ?aC_Light ?pg_Light ?hd_Light ?po_Light ?sa_Light ?mk_Light ?kc_Light ?kha_Light ?khn_Light ?kht_Light ?khm_Light ?na_Light__lamps ?a_is_whole ?l_is_whole ?c_is_whole ?k_is_whole ?a_check_beat ?l_check_beat ?c_check_beat ?k_check_beat ?a_inverse ?l_inverse ?c_inverse ?k_inverse ?a_Lamp_init ?j_Lamp_init ?l_Lamp_init ?c_Lamp_init ?k_Lamp_init ?a_Lamp_eq ?j_Lamp_eq ?l_Lamp_eq ?c_Lamp_eq ?k_Lamp_eq ?a_seen_from ?l_seen_from ?c_seen_from ?k_seen_from ?a_l_mixed ?l_l_mixed ?c_l_mixed ?k_l_mixed ?a_l_source ?l_l_source ?c_l_source ?k_l_source ?a_l_take ?l_l_take ?c_l_take ?k_l_take ?a_meet ?l_meet ?c_meet ?k_meet ?a_copied ?l_copied ?c_copied ?k_copied ?a_Light_init ?j_Light_init ?l_Light_init ?c_Light_init ?k_Light_init ?a_Light_lamps ?j_Light_lamps ?l_Light_lamps ?c_Light_lamps ?k_Light_lamps ?a_by_turns ?l_by_turns ?c_by_turns ?k_by_turns ?a_with_just ?l_with_just ?c_with_just ?k_with_just ?a_often ?l_often ?c_often ?k_often ?a_meetings ?l_meetings ?c_meetings ?k_meetings ?a_by_many ?l_by_many ?c_by_many ?k_by_many ?a_dark_between ?l_dark_between ?c_dark_between ?k_dark_between ?a_moved ?l_moved ?c_moved ?k_moved ?a_stretched ?l_stretched ?c_stretched ?k_stretched ?a_light_of ?l_light_of ?c_light_of ?k_light_of ?a_joined ?l_joined ?c_joined ?k_joined ?a_unlike ?l_unlike ?c_unlike ?k_unlike ?a_both ?l_both ?c_both ?k_both ?a_l_lamps ?l_l_lamps ?c_l_lamps ?k_l_lamps ?a_l_beat ?l_l_beat ?c_l_beat ?k_l_beat ?a_l_light ?l_l_light ?c_l_light ?k_l_light ?a_l_bright ?l_l_bright ?c_l_bright ?k_l_bright ?a_l_shines ?l_l_shines ?c_l_shines ?k_l_shines ?a_l_sums_right ?l_l_sums_right ?c_l_sums_right ?k_l_sums_right ?a_l_two_right ?l_l_two_right ?c_l_two_right ?k_l_two_right ?a_l_law ?l_l_law ?c_l_law ?k_l_law ?ne1_Lamp ?ne2_Lamp ?n_isinstance ?n_int ?n_bool ?n_range ?n_len ?n_list ?n_enumerate ?n_tuple ?n_all ?n_sum ?n_reversed ?n_max ?n_set ?n_min ?c_MOST_LAMPS ?ic_Lamp ?tc_Lamp ?sn_Lamp ?i_comb ?i_gcd
    (case aC_Lamp => k_is)
    (case pg_Lamp => k_is)
    (case hd_Lamp => k_is)
    (case po_Lamp => k_is)
    (case sa_Lamp => k_is)
    (case mk_Lamp => k_is)
    (case kc_Lamp => k_is)
    (case kha_Lamp => k_is)
    (case khn_Lamp => k_is)
    (case kht_Lamp => k_is)
    (case khm_Lamp => k_is)
    (case na_Lamp_period => k_is)
    (case na_Lamp_beat => k_is)
    (case aC_Light => k_is)
    (case pg_Light => k_is)
    (case hd_Light => k_is)
    (case po_Light => k_is)
    (case sa_Light => k_is)
    (case mk_Light => k_is)
    (case kc_Light => k_is)
    (case kha_Light => k_is)
    (case khn_Light => k_is)
    (case kht_Light => k_is)
    (case khm_Light => k_is)
    (case na_Light__lamps => k_is)
    (case a_is_whole => k_is)
    (case l_is_whole => k_is)
    (case c_is_whole => k_is)
    (case k_is_whole => k_is)
    (case a_check_beat => k_is)
    (case l_check_beat => k_is)
    (case c_check_beat => k_is)
    (case k_check_beat => k_is)
    (case a_inverse => k_is)
    (case l_inverse => k_is)
    (case c_inverse => k_is)
    (case k_inverse => k_is)
    (case a_Lamp_init => k_is)
    (case j_Lamp_init => k_is)
    (case l_Lamp_init => k_is)
    (case c_Lamp_init => k_is)
    (case k_Lamp_init => k_is)
    (case a_Lamp_eq => k_is)
    (case j_Lamp_eq => k_is)
    (case l_Lamp_eq => k_is)
    (case c_Lamp_eq => k_is)
    (case k_Lamp_eq => k_is)
    (case a_seen_from => k_is)
    (case l_seen_from => k_is)
    (case c_seen_from => k_is)
    (case k_seen_from => k_is)
    (case a_l_mixed => k_is)
    (case l_l_mixed => k_is)
    (case c_l_mixed => k_is)
    (case k_l_mixed => k_is)
    (case a_l_source => k_is)
    (case l_l_source => k_is)
    (case c_l_source => k_is)
    (case k_l_source => k_is)
    (case a_l_take => k_is)
    (case l_l_take => k_is)
    (case c_l_take => k_is)
    (case k_l_take => k_is)
    (case a_meet => k_is)
    (case l_meet => k_is)
    (case c_meet => k_is)
    (case k_meet => k_is)
    (case a_copied => k_is)
    (case l_copied => k_is)
    (case c_copied => k_is)
    (case k_copied => k_is)
    (case a_Light_init => k_is)
    (case j_Light_init => k_is)
    (case l_Light_init => k_is)
    (case c_Light_init => k_is)
    (case k_Light_init => k_is)
    (case a_Light_lamps => k_is)
    (case j_Light_lamps => k_is)
    (case l_Light_lamps => k_is)
    (case c_Light_lamps => k_is)
    (case k_Light_lamps => k_is)
    (case a_by_turns => k_is)
    (case l_by_turns => k_is)
    (case c_by_turns => k_is)
    (case k_by_turns => k_is)
    (case a_with_just => k_is)
    (case l_with_just => k_is)
    (case c_with_just => k_is)
    (case k_with_just => k_is)
    (case a_often => k_is)
    (case l_often => k_is)
    (case c_often => k_is)
    (case k_often => k_is)
    (case a_meetings => k_is)
    (case l_meetings => k_is)
    (case c_meetings => k_is)
    (case k_meetings => k_is)
    (case a_by_many => k_is)
    (case l_by_many => k_is)
    (case c_by_many => k_is)
    (case k_by_many => k_is)
    (case a_dark_between => k_is)
    (case l_dark_between => k_is)
    (case c_dark_between => k_is)
    (case k_dark_between => k_is)
    (case a_moved => k_is)
    (case l_moved => k_is)
    (case c_moved => k_is)
    (case k_moved => k_is)
    (case a_stretched => k_is)
    (case l_stretched => k_is)
    (case c_stretched => k_is)
    (case k_stretched => k_is)
    (case a_light_of => k_is)
    (case l_light_of => k_is)
    (case c_light_of => k_is)
    (case k_light_of => k_is)
    (case a_joined => k_is)
    (case l_joined => k_is)
    (case c_joined => k_is)
    (case k_joined => k_is)
    (case a_unlike => k_is)
    (case l_unlike => k_is)
    (case c_unlike => k_is)
    (case k_unlike => k_is)
    (case a_both => k_is)
    (case l_both => k_is)
    (case c_both => k_is)
    (case k_both => k_is)
    (case a_l_lamps => k_is)
    (case l_l_lamps => k_is)
    (case c_l_lamps => k_is)
    (case k_l_lamps => k_is)
    (case a_l_beat => k_is)
    (case l_l_beat => k_is)
    (case c_l_beat => k_is)
    (case k_l_beat => k_is)
    (case a_l_light => k_is)
    (case l_l_light => k_is)
    (case c_l_light => k_is)
    (case k_l_light => k_is)
    (case a_l_bright => k_is)
    (case l_l_bright => k_is)
    (case c_l_bright => k_is)
    (case k_l_bright => k_is)
    (case a_l_shines => k_is)
    (case l_l_shines => k_is)
    (case c_l_shines => k_is)
    (case k_l_shines => k_is)
    (case a_l_sums_right => k_is)
    (case l_l_sums_right => k_is)
    (case c_l_sums_right => k_is)
    (case k_l_sums_right => k_is)
    (case a_l_two_right => k_is)
    (case l_l_two_right => k_is)
    (case c_l_two_right => k_is)
    (case k_l_two_right => k_is)
    (case a_l_law => k_is)
    (case l_l_law => k_is)
    (case c_l_law => k_is)
    (case k_l_law => k_is)
    (case ne1_Lamp => k_is)
    (case ne2_Lamp => k_is)
    (case n_isinstance => k_is)
    (case n_int => k_is)
    (case n_bool => k_is)
    (case n_range => k_is)
    (case n_len => k_is)
    (case n_list => k_is)
    (case n_enumerate => k_is)
    (case n_tuple => k_is)
    (case n_all => k_is)
    (case n_sum => k_is)
    (case n_reversed => k_is)
    (case n_max => k_is)
    (case n_set => k_is)
    (case n_min => k_is)
    (case c_MOST_LAMPS => k_is)
    (case ic_Lamp => k_is)
    (case tc_Lamp => k_is)
    (case sn_Lamp => k_is)
    (case i_comb => k_is)
    (case i_gcd => k_is)
