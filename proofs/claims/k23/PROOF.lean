import PyProof.Rows.All
import Wide.All
import OpenK.AllK
import Wide.FinOn
import HandS.ForMost
import HandS.OwnEq
import HandS.IsInst
import PyProof.InstEq
import HandS.Defaults
import HandS.SortInts
import PyProof.AutoSeq1
import PyProof.ListOps
import PyProof.EqKinds
import PyProof.EqAt
import PyProof.LongRange
import PyProof.Rows.Range3
import KE.KDictZip
import HandS.ListItems
import HandS.Exc
import HandS.Flow
import HandS.Wide
import HandS.WideMore
import HandS.Gcd
import HandS.WideBits
import HandS.Walk
import HandS.List
import PyProof.Rows.SortShell
import PyProof.Rows.Tup
import HandS.Iter
import PyProof.EnumMake
import PyProof.TupleIter
import KE.GoesMore
import PyProof.Draws
import HandS.Style
import HandS.Dict
import HandS.Codes
import HandS.Conv
import HandS.NoneIn
import HandS.AnyAll
import HandS.Comp
import HandS.Sort
import PySem.Challenge.RW_farlamps_k23_whole_the_last_look
set_option Elab.async false
set_option linter.all false
set_option maxRecDepth 100000
namespace Own
open PySem L2
/-! ### == by an own __eq__ that hands back a truth: both answers -/
/-- what isinstance asks of an own class -/
structure Kls (K : PySem.W.Frag) (C : Addr) : Prop where
  cl : Cls K C
  ha : PySem.W.findIn K (.ref C) "__class__" = some (some (.builtin "object.__class__"))
  hn : PySem.W.specialIn K (.builtin "object.__class__") "__get__" = some (some (.builtin "getset_descriptor.__get__"))
  htk : PySem.W.takesIn K (.builtin "object.__class__") = some true
  hm : PySem.W.mroIn K C (.type "object") = some true
theorem Kls.ty {K : PySem.W.Frag} {H : Hp} {a C dx : Addr} {fs : List (Str × V)} (k : Kls K C) (e : H a = some (.ins C dx fs)) : TyX K H (.ref a) (.ref C) := .base (.ins e k.cl k.ha k.hn k.htk k.hm)
section
variable {X : Cx} {n : Nat}
theorem looks_ty {x : V} {u t : Value} {pins : List (Addr × Obj)} {σ : St} {H : Hp} {s : Shared} (I : Inv X pins σ H s) (rx : RelV x u) (ty : TyX X.K H x t) : PySem.W.Looks (model X.prog X.w) s.heap (typeOf u) t := by
  obtain ⟨P, Z, p, _⟩ := kit_of I rx ty
  exact Z.ty (model X.prog X.w) s.heap I.kIn p
def rEqOwn (K : PySem.W.Frag) (C : Addr) (sp : Sp) (E : XK) : R2 := fun x y H Q => ∃ a dx fs t, x = .ref a ∧ H a = some (.ins C dx fs) ∧ TyX K H y t ∧ PySem.W.notFirst K C t = true ∧
  sp [x, y] H (fun v H' => ∃ b, v = .bl b ∧ Q (.bl b) H') E
theorem op_eqOwn {CX : CXT} {C f : Addr} {fd : FuncData} {ps : List Str} {sp : Sp} {E : XK} (hm : Meth X.K C "__eq__" f) (F : FnOk X.prog X.w X.K X.mg X.base CX n f fd ps sp) (hb : Binds X.K fd ps []) (hr : Room n X.A) (hx : Passes CX X E) :
    OpR X (compareOp .Eq) (rEqOwn X.K C sp E) := by
  intro pins s σ H x y v u Q I rx ry hq
  obtain ⟨a, dx, fs, t, rfl, ha, ty, nf, hsp⟩ := hq
  cases rx
  have lt := looks_ty I ry ty
  obtain ⟨mA, J, _⟩ := ins_get I.hok ha
  obtain ⟨od, J, _⟩ := J.look
  obtain ⟨m, hF⟩ := I.fr
  show wpAny (model X.prog X.w) X.A (richCompare .Eq (.ref a) u) (EP X pins σ Q) X.xe s
  refine PySem.W.cmp_K (op := .Eq) hr.units0 hF I.ok.mod.kin J lt nf hm.at_ hm.fn ?_
  have hl := F.len _ _ _ _ hsp
  have r2 : Vals [V.ref a, y] [Value.ref a, u] := .cons rfl (.cons ry .nil)
  refine wpAny_call (codeAny_mono (F.run X.A X.stack s H ⟨[.ref a, u], []⟩ [.ref a, u] [.ref a, y] _ E hr I.env0 (by
    have := hb s [.ref a, u] I.kIn (by simpa using hl)
    simpa using this) r2 hsp) fun r s' hq => ?_)
  cases r with
  | error e => exact hx pins σ H s e s' I hq
  | ok fl =>
    cases fl with
    | ret w =>
      obtain ⟨z, H', I', rz, b, ez, q⟩ := I.after hq
      subst ez
      cases rz
      exact ⟨.bl b, H', I', rfl, q⟩
    | next => exact False.elim hq
    | brk => exact False.elim hq
    | cont => exact False.elim hq
end
theorem kit_no {K : PySem.W.Frag} {C : Addr} {T : String} (h2 : PySem.W.isClsIn K C = true) (h3 : PySem.W.typeIn K (.ref C) = some (.type "type")) (h4 : PySem.W.subIn K (.type T) (.ref C) = some false) : PySem.W.kitOne K (.type T) (.ref C) = some false := by
  have e2 : ((PySem.W.clsIn K C).isSome && PySem.W.typeIn K (.ref C) == some (.type "type")) = true := by
    have h2' : (PySem.W.clsIn K C).isSome = true := h2
    rw [h2', h3] <;> rfl
  have e0 : ¬ (Value.type T == Value.ref C) = true := by simp
  unfold PySem.W.kitOne
  rw [if_neg e0]
  show (if ((PySem.W.clsIn K C).isSome && PySem.W.typeIn K (.ref C) == some (.type "type")) = true then PySem.W.subIn K (.type T) (.ref C) else none) = some false
  rw [if_pos e2]
  exact h4

/-! ### != of instances whose class has an own __eq__ and no __ne__ -/
section
open PySem.W
variable {prog : Program} {w : World} {A : Around} {E : Value → Shared → Prop} {s : Shared} {K : PySem.W.Frag} {x C L f : Addr} {h₀ : Heap} {m : Str → Option Value} {ox : Obj} {od : Option Obj} {b tb : Value}
theorem ne_entry {P : Fin → Shared → Prop} (hu : A.units < cLine) (X : K.In s.heap) (I : InstAt s.heap x ox C od) (hs : findIn K (.ref C) "__eq__" = some (some (.ref f))) (hf : isFn K (.ref f) = true)
    (h : wpAny (model prog w) A (call (.ref f) [.ref x, b]) (fun v s' => ∃ r, v = .bool r ∧ P (.done (.ret (.bool (!r)))) s') E s) :
    wpAny (model prog w) A (Builtin.«object.__ne__» ⟨[.ref x, b], []⟩) P E s := by
  unfold Builtin.«object.__ne__»
  iterate 6 (first
    | with_reducible refine wpAny_cRoomFor hu ?_
    | wp_step)
  refine wpAny_cRoomFor hu ?_
  refine wpAny_bind (ifBound_K X I hs hf (wpAny_mono h (fun v s' hv => ?_) fun _ _ e => e))
  obtain ⟨r, rfl, hp⟩ := hv
  dsimp only
  refine wpAny_bind ?_
  iterate 3 (try wp_step)
  exact wpAny_pure hp
theorem ne_check {Q : Unit → Shared → Prop} (X : K.In s.heap) (I : InstAt s.heap x ox C od) (ho : subIn K (.ref C) (.type "object") = some true) (hq : Q () s) :
    wpAny (model prog w) A (checkBuiltinCall "object.__ne__" ⟨[.ref x, b], []⟩) Q E s := by
  have LI : Looks (model prog w) s.heap (isInstance (.ref x) (.type "object")) true := I.type.andThen (looks_subIn X ho)
  simp only [checkBuiltinCall, PySem.F.cmpKind_ne, PySem.F.cmpSplit_ne]
  refine wpAny_bind (LI.here ?_)
  cases hsig : Manifest.signature? "object.__ne__" with
  | none => repeat wp_step
            all_goals exact hq
  | some sig =>
    have ha := PySem.F.cmpArgs_ne (.ref x) b
    simp only [argsOk, hsig] at ha
    have h2 : Bind.checkArgs "object.__ne__" sig ⟨.ref x :: [b], []⟩ = pure () := ha
    show wpAny _ A (Bind.checkArgs "object.__ne__" sig ⟨.ref x :: [b], []⟩) Q E _
    rw [h2]
    exact wpAny_pure hq
end
section
open PySem.W
variable {prog : Program} {w : World} {A : Around} {E : Value → Shared → Prop} {s : Shared} {K : PySem.W.Frag} {x C L f : Addr} {h₀ : Heap} {m : Str → Option Value} {ox : Obj} {od : Option Obj} {b tb : Value}
theorem ne_bound {Q : Option Value → Shared → Prop} (hu : A.units + 1 < cLine) (X : K.In s.heap) (I : InstAt s.heap x ox C od) (hs : findIn K (.ref C) "__eq__" = some (some (.ref f))) (hf : isFn K (.ref f) = true)
    (hn : findIn K (.ref C) "__ne__" = some (some (.builtin "object.__ne__"))) (ho : subIn K (.ref C) (.type "object") = some true)
    (h : wpAny (model prog w) A.in1 (call (.ref f) [.ref x, b]) (fun v s' => ∃ r, v = .bool r ∧ Q (some (.bool (!r))) s') E s) :
    wpAny (model prog w) A (callSpecialIfBound? (.ref x) "__ne__" [b]) Q E s := by
  simp only [callSpecialIfBound?, bindSpecialIfBound?]
  refine wpAny_holding (wpAny_bind (wpAny_bind (wpAny_bind (I.type.here ((looks_findIn X hn).here ?_)))))
  simp only [PySem.F.cmp_object.ne.bind]
  refine wpAny_bind (wpAny_askSetting (wpAny_ite ?_))
  have fin : wpAny (model prog w) A (call (.builtin "object.__ne__") ([.ref x] ++ [b]) >>= fun v => pure (some v)) Q E s :=
    wpAny_bind (wpAny_call (codeAny_call_builtin PySem.F.cmp_object.ne.plain PySem.F.cmpEntry_ne (ne_check X I ho (ne_entry (A := A.in1) hu X I hs hf
      (wpAny_mono h (fun v s' hv => by obtain ⟨r, rfl, hp⟩ := hv; exact ⟨r, rfl, wpAny_pure hp⟩) fun _ _ e => e)))))
  split
  · exact wpAny_bind (wpAny_pure (wpAny_pure fin))
  · exact wpAny_tryCatch (wpAny_bind (wpAny_pure (wpAny_pure fin)))
theorem ne_K {Q : Value → Shared → Prop} (hu : A.units + 1 < cLine) (F : PyProof.Rows.Fr h₀ L s.heap m) (X₀ : K.In h₀) (I : InstAt s.heap x ox C od) (hb : Looks (model prog w) s.heap (typeOf b) tb) (hnf : notFirst K C tb = true)
    (hs : findIn K (.ref C) "__eq__" = some (some (.ref f))) (hf : isFn K (.ref f) = true)
    (hn : findIn K (.ref C) "__ne__" = some (some (.builtin "object.__ne__"))) (ho : subIn K (.ref C) (.type "object") = some true)
    (h : wpAny (model prog w) A.in1 (call (.ref f) [.ref x, b]) (fun v s' => ∃ r, v = .bool r ∧ Q (.bool (!r)) s') E s) : wpAny (model prog w) A (richCompare .NotEq (.ref x) b) Q E s := by
  have X := X₀.keeps F.keep
  have one : wpAny (model prog w) A (tryCompare (.ref x) "__ne__" b) (fun r s' => ∃ v, r = some v ∧ Q v s') E s := by
    unfold tryCompare
    refine wpAny_bind (ne_bound hu X I hs hf hn ho (wpAny_mono h (fun v s' hv => ?_) fun _ _ e => e))
    obtain ⟨r, rfl, hp⟩ := hv
    exact ⟨r, rfl, wpAny_pure ⟨_, rfl, hp⟩⟩
  unfold richCompare
  simp only [oneThing_ref]
  refine wpAny_holding (wpAny_bind (wpAny_cRoomFor (by omega) ?_))
  refine wpAny_bind (I.type.here (wpAny_bind (hb.here ?_)))
  split
  · rename_i q
    have e : subIn K tb (.ref C) = some false := by
      rcases Bool.or_eq_true_iff.mp hnf with e | e
      · rw [beq_iff_eq.mp e] at q; simp at q
      · exact beq_iff_eq.mp e
    refine wpAny_bind ((looks_subIn X e).here ?_)
    simp only [Bool.false_eq_true, if_false]
    refine wpAny_bind (wpAny_mono one (fun r s' z => ?_) fun _ _ e => e)
    obtain ⟨v, rfl, hq⟩ := z
    exact wpAny_pure hq
  · refine wpAny_bind (wpAny_pure ?_)
    simp only [Bool.false_eq_true, if_false]
    refine wpAny_bind (wpAny_mono one (fun r s' z => ?_) fun _ _ e => e)
    obtain ⟨v, rfl, hq⟩ := z
    exact wpAny_pure hq
end
/-- what != by an own __eq__ asks of the class -/
structure NeK (K : PySem.W.Frag) (C : Addr) : Prop where
  ne : PySem.W.findIn K (.ref C) "__ne__" = some (some (.builtin "object.__ne__"))
  ob : PySem.W.subIn K (.ref C) (.type "object") = some true
section
variable {X : Cx} {n : Nat}
def rNeOwn (K : PySem.W.Frag) (C : Addr) (sp : Sp) (E : XK) : R2 := fun x y H Q => ∃ a dx fs t, x = .ref a ∧ H a = some (.ins C dx fs) ∧ TyX K H y t ∧ PySem.W.notFirst K C t = true ∧
  sp [x, y] H (fun v H' => ∃ b, v = .bl b ∧ Q (.bl (!b)) H') E
theorem op_neOwn {CX : CXT} {C f : Addr} {fd : FuncData} {ps : List Str} {sp : Sp} {E : XK} (hm : Meth X.K C "__eq__" f) (F : FnOk X.prog X.w X.K X.mg X.base CX n f fd ps sp) (hb : Binds X.K fd ps []) (hr : Room (n + 1) X.A) (hx : Passes CX X E) (hk : NeK X.K C) :
    OpR X (compareOp .NotEq) (rNeOwn X.K C sp E) := by
  intro pins s σ H x y v u Q I rx ry hq
  obtain ⟨a, dx, fs, t, rfl, ha, ty, nf, hsp⟩ := hq
  cases rx
  have lt := looks_ty I ry ty
  obtain ⟨mA, J, _⟩ := ins_get I.hok ha
  obtain ⟨od, J, _⟩ := J.look
  obtain ⟨m, hF⟩ := I.fr
  show wpAny (model X.prog X.w) X.A (richCompare .NotEq (.ref a) u) (EP X pins σ Q) X.xe s
  refine ne_K (by have := hr.un; omega) hF I.ok.mod.kin J lt nf hm.at_ hm.fn hk.ne hk.ob ?_
  have hl := F.len _ _ _ _ hsp
  have r2 : Vals [V.ref a, y] [Value.ref a, u] := .cons rfl (.cons ry .nil)
  refine wpAny_call (codeAny_mono (F.run X.A.in1 X.stack s H ⟨[.ref a, u], []⟩ [.ref a, u] [.ref a, y] _ E hr.in1 I.env0.in1 (by
    have := hb s [.ref a, u] I.kIn (by simpa using hl)
    simpa using this) r2 hsp) fun r s' hq => ?_)
  cases r with
  | error e => exact hx pins σ H s e s' I hq
  | ok fl =>
    cases fl with
    | ret w =>
      obtain ⟨z, H', I', rz, b, ez, q⟩ := I.after hq
      subst ez
      cases rz
      exact ⟨b, rfl, .bl (!b), H', I', rfl, q⟩
    | next => exact False.elim hq
    | brk => exact False.elim hq
    | cont => exact False.elim hq
end

/-! ### calls by keywords, no defaults -/
def permL {α : Type} (p : List Nat) (ws : List α) : List α := p.filterMap fun i => ws[i]?
theorem vals_perm {zs : List V} {ws : List Value} (r : Vals zs ws) : ∀ p : List Nat, Vals (permL p zs) (permL p ws)
  | [] => .nil
  | i :: p => by
    unfold permL
    rw [List.filterMap_cons, List.filterMap_cons]
    cases e : zs[i]? with
    | none =>
      rw [r.none_of e]
      exact vals_perm r p
    | some x =>
      obtain ⟨u, e2, ru⟩ := r.get e
      rw [e2]
      exact .cons ru (vals_perm r p)
theorem Fun.kbn {K : PySem.W.Frag} {x qual : Str} {st : Stmt} {f : Addr} {fd : FuncData} {ps : List Str} (F : L2.Fun K x qual st f fd) (n : Nat) (ks : List Str) (p : List Nat)
    (h : ∀ (kV doc pm : Value) (an : Option Addr) (cdv ct : Value) (us ws : List Value), us.length = n → ws.length = ks.length →
      bindArgs (PySem.W.fnOf x qual (defArgs st) (defBody st) (defScope st) .none kV doc pm an cdv ct) ⟨us, ks.zip ws⟩ = pure (ps.zip (us ++ permL p ws))) :
    KBn K fd ps n ks (fun us ws => us ++ permL p ws) (fun vs zs => vs ++ permL p zs) := by
  obtain ⟨oc, od, kV, doc, pm, an, cdv, ct, osl, rfl, lk, hcd⟩ := F.ex
  exact ⟨fun s us ws _ l1 l2 => BindsTo.of_eq (h kV doc pm an cdv ct us ws l1 l2), fun r rz => r.append (vals_perm rz p)⟩
section
variable {X : Cx} {CX : CXT} {k n : Nat} {f C : Addr} {fd : FuncData} {ps ks : List Str} {sp : Sp} {E : XK} {x m : Str} {p pos apos kpos : Pos} {e o : Expr} {es : List Expr} {kws : List Keyword} {te ta : TE} {t tk : TA} {nm : Option Str}
variable {g : List Value → List Value → List Value} {gV : List V → List V → List V}
/-- f(k = v, ..) -/
theorem pe_callN0 (F : FnOk X.prog X.w X.K X.mg X.base CX k f fd ps sp) (hr : Room k X.A) (hg : Gl X x) (hm : X.mg x = some (.ref f)) (hk : PySem.W.keepIn X.K (.ref f) = true) (hb : KBn X.K fd ps 0 ks g gV) (hx : Passes CX X E)
    (hkw : PK X kws tk) (hall : (backToKw pos (keywordEach kws X.env)).all (·.1.isSome) = true := by rfl) (hks : (backToKw pos (keywordEach kws X.env)).filterMap (·.1) = ks := by rfl)
    (hdb : (x == ("__debug__" : Str)) = false := by decide) 
    (hpl : ((backTo pos (starEach [] X.env)).any (·.1) || (backToKw pos (keywordEach kws X.env)).any (·.1.isNone)) = false := by rfl) :
    PE X (.Call (.Name x p) [] kws pos) (tCallN 0 ks.length sp gV E tNil tk) := by
  refine ⟨fun pins s σ H Q I h => ?_⟩
  refine wpAny_Call_Name_kw (ld_glob I hg hm ?_ hdb)
  refine PySem.W.callWith_KW0 (h₀ := X.base) I.ok.mod.kin hk hall ?_ hpl
  refine thn (hkw.run pos pins s σ H _ I h) fun ws s2 ⟨zs, H2, I2, rz, l1, l2, q2⟩ => ⟨I2.kIn, ?_⟩
  rw [hks]
  exact run_fnN (us := []) (vs := []) F hr hb hx I2 .nil rz l1 l2 q2
end
section
variable {X : Cx} {CX : CXT} {k : Nat} {f C : Addr} {fd : FuncData} {ps ks : List Str} {sp : Sp} {E : XK} {m : Str} {pos apos : Pos} {o : Expr} {kws : List Keyword} {ta : TE} {tk : TA} {g : List Value → List Value → List Value} {gV : List V → List V → List V}
/-- o.m(k = v, ..) -/
def tMethN (C : Addr) (m : Str) (n : Nat) (sp : Sp) (gV : List V → List V → List V) (E : XK) (ta : TE) (tk : TA) : TE := fun σ H Q => ta σ H fun x H1 => ∃ a dx fs, x = .ref a ∧ H1 a = some (.ins C dx fs) ∧ fs.lookup m = none ∧
  tk σ H1 fun zs H2 => zs.length = n ∧ sp (gV [x] zs) H2 Q E
theorem pe_methN0 {pl : Sem Bool} (he : PE X o ta) (c : Cls X.K C) (hm : Meth X.K C m f) (F : FnOk X.prog X.w X.K X.mg X.base CX k f fd ps sp) (hr : Room k X.A) (hb : KBn X.K fd ps 1 ks g gV) (hx : Passes CX X E) (hkw : PK X kws tk)
    (hall : (backToKw pos (keywordEach kws X.env)).all (·.1.isSome) = true := by rfl) (hks : (backToKw pos (keywordEach kws X.env)).filterMap (·.1) = ks := by rfl)
    (hpl : ((backTo pos (starEach [] X.env)).any (·.1) || (backToKw pos (keywordEach kws X.env)).any (·.1.isNone)) = false := by rfl)
    (ht : eval (.Call (.Attribute o m apos) [] kws pos) X.env = (do
      let ov ← eval o X.env
      standAt apos.atName
      let (f, first) ← holding [ov] (getMethod ov m pl)
      callWith pos f first (backTo pos (starEach [] X.env)) (backToKw pos (keywordEach kws X.env))) := by rfl) :
    PE X (.Call (.Attribute o m apos) [] kws pos) (tMethN C m ks.length sp gV E ta tk) := by
  refine ⟨fun pins s σ H Q I h => ?_⟩
  refine PySem.W.methodCall_KW (pl := pl) (thn (he.run pins s σ H _ I h) fun u s1 ⟨x, H1, I1, rx, a, dx, fs, ex, ea, l, q⟩ => ?_) ht
  subst ex
  obtain rfl : u = Value.ref a := rx
  refine getmeth_ok I1 ea c hm l ?_
  refine PySem.W.callWith_KW0 (first := [.ref a]) (h₀ := X.base) I1.ok.mod.kin hm.kp hall ?_ hpl
  refine thn (hkw.run pos pins s1 σ H1 _ I1 q) fun ws s2 ⟨zs, H2, I2, rz, l2, q2⟩ => ⟨I2.kIn, ?_⟩
  rw [hks]
  exact run_fnN (us := [.ref a] ++ []) (vs := [.ref a]) F hr hb hx I2 (show Vals [V.ref a] [Value.ref a] from .cons rfl .nil) rz rfl l2 q2
end

/-! ### a range object kept by a name, and walked -/
section
variable {X : Cx}
theorem cr_range1 : CallR X (.type "range") (fun vs H Q => ∃ i, vs = [V.int i] ∧ ∀ p, H p = none → Q (.ref p) (upd H p (.rng 0 i))) := by
  intro pins s σ H vs us Q I r h
  obtain ⟨i, rfl, q⟩ := h
  cases r with
  | cons ri rr =>
    cases rr
    obtain ⟨t, rfl⟩ := ri
    refine call_range_1 ⟨.ref s.heap.objs.size, upd H s.heap.objs.size (.rng 0 i), I.laid (t' := s.toks + 1 + 1) (fun b o e => Heap.get?_push_of_some _ e) (Nat.le_refl _) ?_, rfl, q _ (I.hok.fresh (Nat.le_refl _))⟩
    exact ⟨s.toks, t, s.toks + 1, Heap.get?_push_size _ rfl⟩
def iRngV (te : TE) : TI := fun σ H R => te σ H fun x H1 => ∃ (a : Addr) (n : Nat), x = .ref a ∧ H1 a = some (.rng 0 (n : Int)) ∧ n ≤ 100000 ∧ R (Itr 0 n) H1
theorem pi_rngV {tg e : Expr} {te : TE} (he : PE X e te) : PI X tg e (iRngV te) := by
  refine ⟨fun pins s σ H R I h => ?_⟩
  refine thn (he.run pins s σ H _ I h) fun v s1 ⟨x, H1, I1, r1, q1⟩ => ?_
  obtain ⟨a, n, e, hq, hn, q⟩ := q1
  subst e
  cases r1
  obtain ⟨t, u, w', g⟩ := I1.hok a _ hq
  refine wpAny_pyIter_range g (small_one (by omega) (by omega) (by omega) (by omega)) ?_
  refine ⟨s1.heap.objs.size, [s1.heap.objs.size], _, _, H1, rfl, I1.kept (t' := s1.toks) fun b o e => Heap.get?_push_of_some _ e, turn_range _ 0 n, ?_, fun b hb => ?_, q⟩
  · have e1 : (0 : Int) + ((0 : Nat) : Int) * 1 = 0 := by simp
    have e2 : (n : Int) - ((0 : Nat) : Int) = Builtin.Range.rangeSize 0 n 1 := by rw [rangeSize_one]; split <;> omega
    show IsRangeIter _ _ (0 + ((0 : Nat) : Int) * 1) ((n : Int) - ((0 : Nat) : Int)) 1
    rw [e1, e2]
    exact Heap.get?_push_size _ rfl
  · have e : b = s1.heap.objs.size := by simpa using hb
    subst e
    exact I1.fpOk (Nat.le_refl _) (I1.hok.fresh (Nat.le_refl _))
end
section
variable {X : Cx} {K : PySem.W.Frag}
theorem op_inK (hK : X.K = K) : OpR X (compareOp .In) (rIn K false) := by
  subst hK
  exact op_in_seq
theorem op_notInK (hK : X.K = K) : OpR X (compareOp .NotIn) (rIn K true) := by
  subst hK
  exact op_notIn_seq
theorem pi_listK {tg l : Expr} {tl : TE} (hK : X.K = K) (hl : PE X l tl) : PI X tg l (iList K tl) := by
  subst hK
  exact pi_list hl
end
section
variable {X : Cx} {K : PySem.W.Frag}
theorem call_lenB (hK : X.K = K) : CallR X (.builtin "len") (fun xs H Q => ∃ p ys, xs = [.ref p] ∧ (SqL K H p ys ∨ SqT K H p ys) ∧ Q (.int ys.length) H) := by
  subst hK
  exact call_len_seq
theorem cr_sumB (hK : X.K = K) (hc : X.calm = true) : CallR X (.builtin "sum") (rSum K) := by
  subst hK
  exact cr_sum hc
theorem sw_cell {elt : Expr} {gs : List Comprehension} {scope : Scope} {pos py : Pos} {y : Str} {l : Nat} {env : Env} (hy : env.scope.names.lookup y = some .cell) : swapsWith (.ListComp elt gs scope pos) (some (.Name y py)) l env = pure false := by
  have ky : env.kindOf y = some .cell := hy
  unfold swapsWith
  simp only [ky]
  have e : ((some NameKind.cell == some NameKind.local) = false) := rfl
  rw [e, Bool.and_false, Bool.false_and, Bool.false_and]
end
theorem inV_ints (x : Int) : ∀ ns : List Int, inV (.int x) (ns.map V.int) = decide (x ∈ ns)
  | [] => by simp [inV]
  | n :: ns => by
    have ih := inV_ints x ns
    unfold inV at ih ⊢
    rw [List.map_cons, List.any_cons, ih]
    have e : eqV (.int n) (.int x) = decide (n = x) := rfl
    rw [e]
    rw [show decide (n = x) = decide (x = n) from decide_eq_decide.mpr eq_comm]
    simp [Bool.decide_or]
theorem flat_ints (ns : List Int) : (ns.map V.int).all flatV = true := by
  rw [List.all_eq_true]
  intro v hv
  obtain ⟨z, _, rfl⟩ := List.mem_map.mp hv
  rfl

/-! ### a keyword-only parameter with a default, left out -/
theorem bd1 {K : PySem.W.Frag} {x qual : Str} {params : Arguments} {body : List Stmt} {scope : Scope} {f D : Addr} {ps : List Str} {nm : Str} {i : Int} {tk : Tok} {oc : Value} {od : Option Addr} {doc pm : Value} {an : Option Addr} {cdv ct : Value} {osl : Array (Option Value)} (n : Nat)
    (lk : K.lookup f = some ⟨oc, od, .func (PySem.W.fnOf x qual params body scope .none (.ref D) doc pm an cdv ct), osl⟩) (hc : PySem.W.codeIn K cdv qual = true) (hk : PySem.W.keepIn K (.ref f) = true) (hd : PySem.W.nsIn K D nm = some (some (.int i tk))) (hn : n + 1 = ps.length)
    (h : ∀ (D : Addr) (doc pm : Value) (an : Option Addr) (cdv ct : Value) (us ks : List Value), us.length = n → ks.length = 1 → KwChain D ([nm].zip ks) (bindArgs (PySem.W.fnOf x qual params body scope .none (.ref D) doc pm an cdv ct) ⟨us, []⟩) (ps.zip (us ++ ks))) :
    ∃ ds, Vals [V.int i] ds ∧ Binds K (PySem.W.fnOf x qual params body scope .none (.ref D) doc pm an cdv ct) ps ds :=
  (FunD.mk ⟨_, _, _, _, _, _, _, _, _, _, rfl, lk, hc, .inl ⟨rfl, rfl⟩, .inr ⟨D, rfl, fun q hq => by rw [List.mem_singleton.mp hq]; exact ⟨_, hd, tk, rfl⟩⟩⟩ hk : FunD K x qual params body scope [] [(nm, V.int i)] f _).binds0 n (by intro z; cases z) hn h

/-! ### within a comprehension: what hangs on the written part alone -/
section
variable {X : Cx} {K : PySem.W.Frag} {e : Expr} {f : Str} {pos : Pos} {ta : TE}
theorem pe_fldB (hK : X.K = K) (he : PE X e ta) (hb : attributeBase e f X.env (eval e X.env) = eval e X.env) : PE X (.Attribute e f pos) (tFld K ta f) := by
  subst hK
  exact pe_fld he hb
theorem ix_listB (hK : X.K = K) : L2.IxR X (rIxL K) := by
  subst hK
  exact ix_list
end
section
variable {X : Cx} {K : PySem.W.Frag}
theorem pg_tupB {es : List Expr} {pos : Pos} {k : Nat} {t : TGs} {n : Nat} (hK : X.K = K) (hc : X.calm = true) (h : PGs X es t)
    (hn : (assignEach es X.env).length = n := by rfl) (hst : (assignEach es X.env).findIdx? (·.1) = none := by rfl) : PG X (.Tuple es k pos) (gTup K n t) := by
  subst hK
  exact pg_tup hc h hn hst
theorem pt_truthB {a : Expr} {ta : TE} (hK : X.K = K) (ha : PE X a ta) (he : ∀ whole, isTrue a X.env whole = (do let v ← whole; standAt a.pos; holding [v] (truthy v))) :
    PT X a (fun σ H Q => ta σ H fun x H' => ∃ k, TruV K x H' k ∧ Q k H') := by
  subst hK
  exact pt_truth ha he
theorem ix_tupB (hK : X.K = K) : L2.IxR X (rIxT K) := by
  subst hK
  exact ix_tup
theorem call_isiB (hK : X.K = K) : CallR X (.builtin "isinstance") (rIsi K) := by
  subst hK
  exact call_isi
end

/-! ### list + list, where the lists are read only (the script) -/
section
open PySem.AutoSeq1 in
theorem list_add_sl (l : Addr) (items : Array Value) (n : Nat) (sl : Array (Option Value)) (b : Addr) (items2 : Array Value) (n2 : Nat) (sl2 : Array (Option Value)) (hc0 : items.size + items2.size ≤ sizeLine) :
    Meets (Builtin.«list.__add__» ⟨[.ref l, .ref b], []⟩) (fun _ R s => s.heap.get? l = some { cls := .type "list", dict := none, data := .seq items n, slots := sl } ∧ s.heap.get? b = some { cls := .type "list", dict := none, data := .seq items2 n2, slots := sl2 } ∧
      R (.ok (.ret (Value.ref s.heap.objs.size))) { s with heap := s.heap.push { cls := Value.type "list", data := Data.seq (items ++ items2) } }) :=
  .of_wp fun prog w A R s h => by
    obtain ⟨hp, g, d, tk, os⟩ := s
    obtain ⟨hl, hb, h⟩ := h
    have f1 := idx_int
    have f2 := sub_tuple_tuple
    have f3 := sub_list_list
    have f4 := sub_tuple_list
    have f5 := sub_list_tuple
    wp_walk using wpAny_loadPart' hl, wpAny_loadPart' hb
    exact ⟨_, rfl, h⟩
variable {X : Cx}
def rCatS (K : PySem.W.Frag) : R2 := fun x y H Q => ∃ l b xs zs, x = .ref l ∧ y = .ref b ∧ SqL K H l xs ∧ SqL K H b zs ∧ xs.length + zs.length ≤ sizeLine ∧ ∀ p, H p = none → Q (.ref p) (upd H p (.lst (xs ++ zs)))
theorem op_catS : OpR X (binaryOp .Add) (rCatS X.K) := by
  intro pins s σ H x y v u Q I rx ry h
  obtain ⟨l, b, xs, zs, rfl, rfl, hH, hB, hz, q⟩ := h
  cases rx
  cases ry
  obtain ⟨its, r, ⟨o, n, e, hc, hd, hs⟩, z⟩ := I.list hH
  obtain ⟨its2, r2, ⟨o2, n2, e2, hc2, hd2, hs2⟩, z2⟩ := I.list hB
  obtain ⟨oc, od, dt, sl⟩ := o
  obtain ⟨oc2, od2, dt2, sl2⟩ := o2
  simp only at hc hd hs hc2 hd2 hs2
  subst hc hd hs hc2 hd2 hs2
  have l1 := r.length
  have l2 := r2.length
  refine concat_meets ⟨_, e, rfl⟩ ⟨_, e2, rfl⟩ noFill_list_add seq_list_add PySem.F.slot_list_add PySem.F.entry_list_add (PySem.F.args_list_add_2 _ _) (list_add_sl l its.toArray n sl b its2.toArray n2 sl2 (by rw [List.size_toArray, List.size_toArray]; omega)) ⟨e, e2, ?_⟩
  have ea : its.toArray ++ its2.toArray = (its ++ its2).toArray := by simp
  rw [ea]
  exact ⟨.ref _, _, I.lnew (t' := s.toks) (r.append r2) (by rw [List.length_append]; omega), rfl, q _ I.fresh⟩
end
section
variable {X : Cx} {K : PySem.W.Frag}
theorem op_catSB (hK : X.K = K) : OpR X (binaryOp .Add) (rCatS K) := by
  subst hK
  exact op_catS
end

/-! ### None == an instance of a class with an own __eq__; two rules of one operation -/
section
open PySem.W
variable {prog : Program} {w : World} {A : Around} {E : Value → Shared → Prop} {s : Shared} {K : PySem.W.Frag} {x C L f : Addr} {h₀ : Heap} {m : Str → Option Value} {ox : Obj} {od : Option Obj}
theorem eq_none_K {Q : Value → Shared → Prop} (hu : A.units < cLine) (F : PyProof.Rows.Fr h₀ L s.heap m) (X₀ : K.In h₀) (I : InstAt s.heap x ox C od)
    (hno : subIn K (.ref C) (.type "NoneType") = some false) (hs : findIn K (.ref C) "__eq__" = some (some (.ref f))) (hf : isFn K (.ref f) = true)
    (h : wpAny (model prog w) A (call (.ref f) [.ref x, .none]) (CmpBack Q) E s) : wpAny (model prog w) A (richCompare .Eq .none (.ref x)) Q E s := by
  have X := X₀.keeps F.keep
  have two : wpAny (model prog w) A (tryCompare (.ref x) "__eq__" .none) (fun r s' => ∃ v, r = some v ∧ Q v s') E s := by
    unfold tryCompare
    refine wpAny_bind (ifBound_K X I hs hf (wpAny_mono h (fun v s' hv => ?_) fun _ _ e => e))
    cases v <;> first | exact hv.elim | exact wpAny_pure ⟨_, rfl, hv⟩
  have hN : s.TypeIs .none "NoneType" := rfl
  unfold richCompare
  simp only [hN.oneThing_none]
  refine wpAny_holding (wpAny_bind (wpAny_cRoomFor hu ?_))
  refine wpAny_bind (wpAny_typeOf hN (wpAny_bind (I.type.here ?_)))
  rw [if_pos (show (Value.type "NoneType" != Value.ref C) = true from rfl)]
  refine wpAny_bind ((looks_subIn X hno).here ?_)
  simp only [Bool.false_eq_true, if_false]
  simp only [Bool.not_false, if_true]
  refine wpAny_bind (m := tryCompare .none _ (.ref x)) (wpAny_tryCompare_declines hN PySem.F.slot_NoneType_eq (call_gives PySem.F.slot_NoneType_eq hN PySem.F.entry_NoneType_eq (PySem.F.args_NoneType_eq_2 _ _) (PySem.SeqAt.NoneType___eq___none_ref_0 x) ⟨rfl, ?_⟩))
  refine wpAny_bind (m := tryCompare (.ref x) _ .none) (wpAny_mono two (fun r s' z => ?_) fun _ _ e => e)
  obtain ⟨v, rfl, hq⟩ := z
  exact wpAny_pure hq
end
section
variable {X : Cx} {n : Nat}
/-- either rule -/
def rOr (r r' : R2) : R2 := fun x y H Q => r x y H Q ∨ r' x y H Q
theorem op_or {f : Value → Value → Sem Value} {r r' : R2} (h : OpR X f r) (h' : OpR X f r') : OpR X f (rOr r r') := fun pins s σ H x y v u Q I rx ry q => q.elim (h pins s σ H x y v u Q I rx ry) (h' pins s σ H x y v u Q I rx ry)
/-- None == an instance: its own __eq__ is asked -/
def rNoneEq (C : Addr) (sp : Sp) (E : XK) : R2 := fun x y H Q => ∃ a dx fs, x = .non ∧ y = .ref a ∧ H a = some (.ins C dx fs) ∧ sp [y, .non] H (fun v H' => ∃ b, v = .bl b ∧ Q (.bl b) H') E
theorem op_noneEq {CX : CXT} {C f : Addr} {fd : FuncData} {ps : List Str} {sp : Sp} {E : XK} (hm : Meth X.K C "__eq__" f) (F : FnOk X.prog X.w X.K X.mg X.base CX n f fd ps sp) (hb : Binds X.K fd ps []) (hr : Room n X.A) (hx : Passes CX X E)
    (hno : PySem.W.subIn X.K (.ref C) (.type "NoneType") = some false) : OpR X (compareOp .Eq) (rNoneEq C sp E) := by
  intro pins s σ H x y v u Q I rx ry hq
  obtain ⟨a, dx, fs, rfl, rfl, ha, hsp⟩ := hq
  cases rx
  cases ry
  obtain ⟨mA, J, _⟩ := ins_get I.hok ha
  obtain ⟨od, J, _⟩ := J.look
  obtain ⟨m, hF⟩ := I.fr
  show wpAny (model X.prog X.w) X.A (richCompare .Eq .none (.ref a)) (EP X pins σ Q) X.xe s
  refine eq_none_K hr.units0 hF I.ok.mod.kin J hno hm.at_ hm.fn ?_
  have hl := F.len _ _ _ _ hsp
  have r2 : Vals [V.ref a, V.non] [Value.ref a, Value.none] := .cons rfl (.cons rfl .nil)
  refine wpAny_call (codeAny_mono (F.run X.A X.stack s H ⟨[.ref a, .none], []⟩ [.ref a, .none] [.ref a, .non] _ E hr I.env0 (by
    have := hb s [.ref a, .none] I.kIn (by simpa using hl)
    simpa using this) r2 hsp) fun r s' hq => ?_)
  cases r with
  | error e => exact hx pins σ H s e s' I hq
  | ok fl =>
    cases fl with
    | ret w =>
      obtain ⟨z, H', I', rz, b, ez, q⟩ := I.after hq
      subst ez
      cases rz
      exact ⟨.bl b, H', I', rfl, q⟩
    | next => exact False.elim hq
    | brk => exact False.elim hq
    | cont => exact False.elim hq
end

/-! ### x in xs, not in, where == of the items may run an own __eq__ -/
section
open PySem.AutoSeq1 in
open PySem.MeetsSeq in
theorem in_loopG {prog : Program} {w : World} {A : Around} {R : Result → Shared → Prop} (l : Addr) (x : Value) (N : Nat) (B : Nat → Bool) (I : Nat → Shared → Prop)
    (hl : ∀ i s, I i s → ∃ (items : Array Value) (n : Nat) (dd : Option Addr) (sl : Array (Option Value)), s.heap.get? l = some { cls := .type "list", dict := dd, data := .seq items n, slots := sl } ∧ items.size = N ∧
      ∀ h1 : i < items.size, wpAny (model prog w) A.in1 (eqBool items[i] x) (fun r s' => r = B i ∧ I (i + 1) s') (fun e s' => R (.error e) s') s)
    (hT : ∀ i s, i < N → B i = true → I (i + 1) s → R (.ok (.ret (.bool true))) s) (hF : (∀ j, j < N → B j = false) → ∀ s, I N s → R (.ok (.ret (.bool false))) s) (k : Nat) :
    ∀ i : Nat, N - i = k → i ≤ N → (∀ j, j < i → B j = false) → ∀ s, I i s →
      wpAny (model prog w) A.in1 (Builtin.«list.__contains__.loop» ⟨[.ref l, x, rawInt i], []⟩) (GQ.FinOf prog w A R) (fun e s' => R (.error e) s') s := by
  induction k with
  | zero =>
    intro i hk hi hno s h
    obtain ⟨items, n, dd, sl, hl1, hs1, _⟩ := hl _ _ h
    have hi' : i = N := by omega
    have hR : R (.ok (.ret (.bool false))) s := hF (fun j hj => hno j (by omega)) s (hi' ▸ h)
    obtain ⟨hp, g, d, tk, os⟩ := s
    wp_walk using wpAny_loadPart' hl1
    have hi1 : items[((i : Nat) : Int).toNat]? = none := by simp; omega
    rw [hi1]
    wp_walk
    exact hR
  | succ k ih =>
    intro i hk hi hno s h
    obtain ⟨items, n, dd, sl, hl1, hs1, turn⟩ := hl _ _ h
    have hlt : i < items.size := by omega
    have ht := turn hlt
    obtain ⟨hp, g, d, tk, os⟩ := s
    wp_walk using wpAny_loadPart' hl1
    have hi1 : items[((i : Nat) : Int).toNat]? = some items[i] := by simp [hlt]
    have hc : ((i : Int) + 1) = ((i + 1 : Nat) : Int) := by omega
    rw [hi1]
    refine wpAny_bind (wpAny_mono ht (fun r s2 h2 => ?_) fun _ _ x => x)
    obtain ⟨hr, h2⟩ := h2
    subst hr
    obtain ⟨hp2, g2, d2, tk2, os2⟩ := s2
    cases hb : B i with
    | true =>
      have hR := hT i _ (by omega) hb h2
      wp_walk
      exact hR
    | false =>
      have hrec := ih (i + 1) (by omega) (by omega) (fun j hj => by
        by_cases e : j = i
        · rw [e]; exact hb
        · exact hno j (by omega)) _ h2
      wp_walk
      rw [hc]
      exact ⟨plainId_quiet plain_contains_loop _, codeAny_builtin entry_contains_loop (by
        rw [Around.under_plainId plain_contains_loop _]
        exact hrec)⟩
end
section
variable {X : Cx} {n : Nat} {CX : CXT} {C f : Addr} {fd : FuncData} {ps : List Str} {sp : Sp} {E : XK} {A : Around} {pins : List (Addr × Obj)} {σ : L2.St} {H : Hp} {s : Shared}
theorem rcOwn (hm : Meth X.K C "__eq__" f) (F : FnOk X.prog X.w X.K X.mg X.base CX n f fd ps sp) (hb : Binds X.K fd ps []) (hx : Passes CX X E) (sb : Sub X n A) (I : Inv X pins σ H s) {a dx : Addr} {fs : List (Str × V)} {y : V} {u t : Value} {R : Bool → Hp → Prop}
    (ry : RelV y u) (ha : H a = some (.ins C dx fs)) (ty : TyX X.K H y t) (nf : PySem.W.notFirst X.K C t = true) (hsp : sp [.ref a, y] H (fun v H' => ∃ b, v = .bl b ∧ R b H') E) :
    wpAny (model X.prog X.w) A (richCompare .Eq (.ref a) u) (fun v s' => ∃ b H', v = .bool b ∧ Inv X pins σ H' s' ∧ R b H') X.xe s := by
  have lt := looks_ty I ry ty
  obtain ⟨mA, J, _⟩ := ins_get I.hok ha
  obtain ⟨od, J, _⟩ := J.look
  obtain ⟨m, hF⟩ := I.fr
  refine PySem.W.cmp_K (op := .Eq) sb.room.units0 hF I.ok.mod.kin J lt nf hm.at_ hm.fn ?_
  have hl := F.len _ _ _ _ hsp
  have e0 : Env0 X.prog X.w X.K X.mg X.base A X.stack s H := by
    have e := I.env0
    exact ⟨by rw [sb.fr]; exact e.frames, e.mod, e.bs, e.bsz, e.funs, e.frf, e.hok, e.bare⟩
  have r2 : Vals [V.ref a, y] [Value.ref a, u] := .cons rfl (.cons ry .nil)
  refine wpAny_call (codeAny_mono (F.run A X.stack s H ⟨[.ref a, u], []⟩ [.ref a, u] [.ref a, y] _ E sb.room e0 (by
    have := hb s [.ref a, u] I.kIn (by simpa using hl)
    simpa using this) r2 hsp) fun r s' hq => ?_)
  cases r with
  | error e => exact hx pins σ H s e s' I hq
  | ok fl =>
    cases fl with
    | ret w =>
      obtain ⟨z, H', I', rz, b, ez, q⟩ := I.after hq
      subst ez
      cases rz
      exact ⟨b, H', rfl, I', q⟩
    | next => exact False.elim hq
    | brk => exact False.elim hq
    | cont => exact False.elim hq
/-- None in a list of instances and None -/
def rNoneInO (K : PySem.W.Frag) (C : Addr) (sp : Sp) (E : XK) (neg : Bool) : R2 := fun x y H Q => ∃ l xs, x = .non ∧ y = .ref l ∧ SqL K H l xs ∧
  (∀ v ∈ xs, v = .non ∨ ∃ a dx fs, v = .ref a ∧ H a = some (.ins C dx fs) ∧ sp [v, .non] H (fun w H' => ∃ b, w = .bl b ∧ b = false ∧ H' = H) E) ∧ Q (.bl (if neg then !xs.any (fun v => decide (v = .non)) else xs.any (fun v => decide (v = .non)))) H
theorem inNone (hm : Meth X.K C "__eq__" f) (F : FnOk X.prog X.w X.K X.mg X.base CX n f fd ps sp) (hb : Binds X.K fd ps []) (hr : Room (n + 1) X.A) (hx : Passes CX X E) (hnf : PySem.W.notFirst X.K C (.type "NoneType") = true)
    (I : Inv X pins σ H s) {l : Addr} {xs : List V} {R : Result → Shared → Prop} (hl : SqL X.K H l xs)
    (hv : ∀ v ∈ xs, v = .non ∨ ∃ a dx fs, v = .ref a ∧ H a = some (.ins C dx fs) ∧ sp [v, .non] H (fun w H' => ∃ b, w = .bl b ∧ b = false ∧ H' = H) E)
    (hE : ∀ e s', X.xe e s' → R (.error e) s') (h : ∀ s', Inv X pins σ H s' → R (.ok (.ret (.bool (xs.any (fun v => decide (v = .non)))))) s') :
    wpAny (model X.prog X.w) X.A.in1 (Builtin.«list.__contains__» ⟨[.ref l, .none], []⟩) (GQ.FinOf X.prog X.w X.A R) (fun e s' => R (.error e) s') s := by
  have turn : ∀ i s, Inv X pins σ H s → ∃ (items : Array Value) (m : Nat) (dd : Option Addr) (sl : Array (Option Value)), s.heap.get? l = some { cls := .type "list", dict := dd, data := .seq items m, slots := sl } ∧ items.size = xs.length ∧
      ∀ h1 : i < items.size, wpAny (model X.prog X.w) X.A.in1 (eqBool items[i] .none) (fun r s' => r = decide (xs[i]? = some .non) ∧ Inv X pins σ H s') (fun e s' => R (.error e) s') s := by
    intro i s J
    obtain ⟨its, r, ⟨⟨oc, od, dt, sl⟩, m, e, hc, hd, hs⟩, z⟩ := J.list hl
    simp only at hc hd hs
    subst hc hd hs
    have hlen := r.length
    refine ⟨its.toArray, m, none, sl, e, by rw [List.size_toArray]; omega, fun h1 => ?_⟩
    have h1' : i < its.length := by simpa using h1
    have h2' : i < xs.length := by omega
    have hx' : xs[i]? = some xs[i] := List.getElem?_eq_getElem h2'
    obtain ⟨u, hu, ru⟩ := r.get hx'
    have eu : its.toArray[i] = u := by
      have : its[i]? = some its[i] := List.getElem?_eq_getElem h1'
      rw [this] at hu
      simpa using Option.some.inj hu
    rw [eu, hx']
    rcases hv _ (List.getElem_mem h2') with hn | ⟨a, dx, fs, hn, ha, hsp⟩
    · rw [hn] at ru ⊢
      cases ru
      exact SeqAt.EqAt.same (A := X.A.in1) (s := s) .none X.prog X.w _ _ ⟨(decide_eq_true rfl).symm, J⟩
    · rw [hn] at ru hsp ⊢
      cases ru
      unfold eqBool
      refine wpAny_holding ?_
      refine wpAny_ite_split (fun hab => by cases eq_of_beq hab) (fun _ => ?_)
      refine wpAny_bind (wpAny_mono (rcOwn (R := fun b H' => b = false ∧ H' = H) hm F hb hx ⟨hr.in1, rfl⟩ J (y := .non) (u := .none) rfl ha (.base .non) hnf hsp) (fun v s' hv => ?_) hE)
      obtain ⟨b, H', rfl, J', eb, eH⟩ := hv
      subst eb eH
      exact wpAny_truthy_bool ⟨(decide_eq_false (by intro z; cases z)).symm, J'⟩
  have hfin := in_loopG (prog := X.prog) (w := X.w) (A := X.A) (R := R) l .none xs.length (fun i => decide (xs[i]? = some .non)) (fun _ s => Inv X pins σ H s) turn ?_ ?_ _ 0 rfl (Nat.zero_le _) (fun j hj => by omega) s I
  · obtain ⟨items, m, dd, sl, hl1, _, _⟩ := turn 0 s I
    obtain ⟨hp, g, d, tk, os⟩ := s
    wp_walk using PySem.AutoSeq1.wpAny_loadPart' hl1
    exact ⟨plainId_quiet MeetsSeq.plain_contains_loop _, codeAny_builtin MeetsSeq.entry_contains_loop (by
      rw [Around.under_plainId MeetsSeq.plain_contains_loop _]
      exact hfin)⟩
  · intro i s' hi hB J
    have e : xs.any (fun v => decide (v = .non)) = true := by
      rw [List.any_eq_true]
      exact ⟨.non, List.mem_of_getElem? (of_decide_eq_true hB), decide_eq_true rfl⟩
    have := h s' J
    rwa [e] at this
  · intro hno s' J
    have e : xs.any (fun v => decide (v = .non)) = false := by
      rw [List.any_eq_false]
      intro v hv' hd
      obtain ⟨j, hj, ej⟩ := List.getElem_of_mem hv'
      have hB := of_decide_eq_false (hno j hj)
      exact hB (by rw [List.getElem?_eq_getElem hj, ej, of_decide_eq_true hd])
    have := h s' J
    rwa [e] at this
theorem op_noneInO (hm : Meth X.K C "__eq__" f) (F : FnOk X.prog X.w X.K X.mg X.base CX n f fd ps sp) (hb : Binds X.K fd ps []) (hr : Room (n + 1) X.A) (hx : Passes CX X E) (hnf : PySem.W.notFirst X.K C (.type "NoneType") = true) : OpR X (compareOp .In) (rNoneInO X.K C sp E false) := by
  intro pins s σ H x y v u Q I rx ry hq
  obtain ⟨l, xs, rfl, rfl, hl, hv, q⟩ := hq
  cases rx
  cases ry
  obtain ⟨its, r, ⟨o, m, e, hc, hd, hs⟩, z⟩ := I.list hl
  show wpAny _ X.A ((do return Value.bool (← contains (.ref l) .none)) : Sem Value) _ _ s
  refine wpAny_bind (wpAny_contains_slot ⟨o, e, hc⟩ PySem.F.slot_list_contains (wpAny_mono (GQ.call_here (Q := fun v s' => ∃ b, v = .bool b ∧ EP X pins σ Q (.bool b) s') PySem.F.slot_list_contains ⟨o, e, hc⟩ PySem.F.entry_list_contains (PySem.F.args_list_contains_2 _ _) ?_) (fun v s' hv => ?_) fun _ _ e => e))
  · exact inNone hm F hb hr hx hnf I hl hv (fun e s' z => z) fun s' J => ⟨_, rfl, .bl _, H, J, rfl, q⟩
  · obtain ⟨b, rfl, hq⟩ := hv
    exact wpAny_truthy_bool (wpAny_pure hq)
theorem op_noneNotInO (hm : Meth X.K C "__eq__" f) (F : FnOk X.prog X.w X.K X.mg X.base CX n f fd ps sp) (hb : Binds X.K fd ps []) (hr : Room (n + 1) X.A) (hx : Passes CX X E) (hnf : PySem.W.notFirst X.K C (.type "NoneType") = true) : OpR X (compareOp .NotIn) (rNoneInO X.K C sp E true) := by
  intro pins s σ H x y v u Q I rx ry hq
  obtain ⟨l, xs, rfl, rfl, hl, hv, q⟩ := hq
  cases rx
  cases ry
  obtain ⟨its, r, ⟨o, m, e, hc, hd, hs⟩, z⟩ := I.list hl
  show wpAny _ X.A ((do return Value.bool (!(← contains (.ref l) .none))) : Sem Value) _ _ s
  refine wpAny_bind (wpAny_contains_slot ⟨o, e, hc⟩ PySem.F.slot_list_contains (wpAny_mono (GQ.call_here (Q := fun v s' => ∃ b, v = .bool b ∧ EP X pins σ Q (.bool (!b)) s') PySem.F.slot_list_contains ⟨o, e, hc⟩ PySem.F.entry_list_contains (PySem.F.args_list_contains_2 _ _) ?_) (fun v s' hv => ?_) fun _ _ e => e))
  · exact inNone hm F hb hr hx hnf I hl hv (fun e s' z => z) fun s' J => ⟨_, rfl, .bl _, H, J, rfl, q⟩
  · obtain ⟨b, rfl, hq⟩ := hv
    exact wpAny_truthy_bool (wpAny_pure hq)
end

/-! ### range with a step of any size (Itc says lo, lo + c, .. n of them) -/
section
open PySem.Spec PyProof.Rows
theorem turn_longC {P : Program} {w : World} {K : PySem.W.Frag} {tg : Expr} (it : Addr) (lo c : Int) (n : Nat) : Turn P w K tg (Itc lo c n) [it] it (fun i h => IsLongIter h it (lo + (i : Nat) * c) ((n : Int) - (i : Nat)) c) where
  mem := by simp
  obj := fun i h st b hb => by
    have e : b = it := by simpa using hb
    subst e
    exact ⟨_, st, fun v z => nomatch z⟩
  keep := fun i h h' st k => k it (by simp) _ st
  item := by
    intro X hP hw hK hc i pins s σ H E I hf st hg
    subst hP hw hK
    obtain ⟨f0, f1, f2, f3, f4, f5⟩ := hf it (by simp)
    have W := Walks.longrange (prog := X.prog) (w := X.w) (I.ok.hd hc) it lo c n
    refine W.item i s _ _ hg st fun v h' tk hv st' kk => ?_
    obtain ⟨t, rfl⟩ := hv
    have I1 : Inv X pins σ H { s with heap := h', toks := tk } := I.turned (fun b o hb e => kk b o (by simpa using hb) e) f0 f1 f3 f4 f5
    exact ⟨_, rfl, go_of (s := { s with heap := h', toks := tk }) (n := "longrange_iterator") st' rfl rfl (by decide) ⟨.int (lo + (i : Nat) * c), H, I1, ⟨t, rfl⟩, ⟨rfl, rfl⟩, st', fun b hb => (hf b hb).1⟩⟩
  done := by
    intro X hP hw hK hc i pins s σ H E I hf st hg
    subst hP hw hK
    obtain ⟨f0, f1, f2, f3, f4, f5⟩ := hf it (by simp)
    exact wpAny_pyNext_long_end (I.ok.hd hc) st (by have : n ≤ i := hg; omega) fun h' eb => ⟨rfl, I.turned (t' := s.toks) (fun b o hb e => eb b o hb e) f0 f1 f3 f4 f5⟩
  self := fun A i s Q E st h => wpAny_pyIter_longiter st h
def iRngW (ta : TA) : TI := fun σ H R => ta σ H fun vs H1 => ∃ (i j c : Int) (n : Nat), vs = [.int i, .int j, .int c] ∧ 0 < c ∧ c.natAbs.log2 < 9000 ∧ Builtin.Range.rangeSize i j c = n ∧ R (Itc i c n) H1
variable {X : Cx} {tg : Expr}
theorem pi_range3W {a b c : Expr} {ta : TA} {p pos : Pos} (hg : Gl X "range") (hm : X.mg "range" = none) (ha : PA X [a, b, c] ta)
    (hs : starEach [a, b, c] X.env = (false, eval a X.env) :: starEach [b, c] X.env := by rfl) (hpl : (backTo pos (starEach [b, c] X.env)).any (·.1) = false := by rfl) :
    PI X tg (.Call (.Name "range" p) [a, b, c] [] pos) (iRngW ta) := by
  refine ⟨fun pins s σ H R I h => ?_⟩
  refine Call_ (ld_blt I hg hm boot_range (PyProof.Rows.callWith_type1 (thn (ha.run pos pins s σ H _ I h) fun us s1 ⟨vs, H1, I1, r1, q1⟩ => ?_) hs hpl))
  obtain ⟨i, j, k, n, e, c0, c1, c3, q⟩ := q1
  subst e
  cases r1 with
  | cons r rr =>
    cases rr with
    | cons r' rr =>
      cases rr with
      | cons r'' rr =>
        cases rr
        obtain ⟨t, rfl⟩ := r
        obtain ⟨t', rfl⟩ := r'
        obtain ⟨t'', rfl⟩ := r''
        refine call_range_3 (by omega) ?_ (.inl (PyProof.noPylong_of_log2 c1))
        have I2 : Inv X pins σ H1 { s1 with heap := s1.heap.push { cls := .type "range", data := .fields #[.int i t, .int j t', .int k t''] } } := I1.kept (t' := s1.toks) fun b o e => Heap.get?_push_of_some _ e
        have e1 : i + ((0 : Nat) : Int) * k = i := by simp
        have e2 : (n : Int) - ((0 : Nat) : Int) = Builtin.Range.rangeSize i j k := by rw [c3]; simp
        cases c2 : Builtin.Range.small i j k with
        | true =>
          refine wpAny_pyIter_range (IsRange.new ..) c2 ?_
          refine pi_one (tk := s1.toks) I2 _ (turn_rangeC _ i k n) ?_ q
          show IsRangeIter _ _ (i + ((0 : Nat) : Int) * k) ((n : Int) - ((0 : Nat) : Int)) k
          rw [e1, e2]
          exact Heap.get?_push_size _ rfl
        | false =>
          refine wpAny_pyIter_longrange (IsRange.new ..) c2 ?_
          refine pi_one (tk := s1.toks) I2 _ (turn_longC _ i k n) ?_ q
          show IsLongIter _ _ (i + ((0 : Nat) : Int) * k) ((n : Int) - ((0 : Nat) : Int)) k
          rw [e1, e2]
          exact Heap.get?_push_size _ rfl
end
section
open PySem.Spec PyProof.Rows
variable {X : Cx} {tg : Expr}
def iRngW2 (ta : TA) : TI := fun σ H R => ta σ H fun vs H1 => ∃ i j : Int, vs = [.int i, .int j] ∧ R (Itc i 1 (j - i).toNat) H1
theorem pi_range2W {a b : Expr} {ta : TA} {p pos : Pos} (hg : Gl X "range") (hm : X.mg "range" = none) (ha : PA X [a, b] ta) (hs : starEach [a, b] X.env = [(false, eval a X.env), (false, eval b X.env)] := by rfl) (hs2 : starEach [b] X.env = [(false, eval b X.env)] := by rfl) :
    PI X tg (.Call (.Name "range" p) [a, b] [] pos) (iRngW2 ta) := by
  refine ⟨fun pins s σ H R I h => ?_⟩
  refine Call_ (ld_blt I hg hm boot_range (PyProof.Rows.callWith_type1 (thn (ha.run pos pins s σ H _ I h) fun us s1 ⟨vs, H1, I1, r1, q1⟩ => ?_) (by rw [hs, hs2]) (by rw [hs2]; rfl)))
  obtain ⟨i, j, e, q⟩ := q1
  subst e
  cases r1 with
  | cons r rr =>
    cases rr with
    | cons r' rr =>
      cases rr
      obtain ⟨t, rfl⟩ := r
      obtain ⟨t', rfl⟩ := r'
      refine call_range_2 ?_
      have I2 : Inv X pins σ H1 { s1 with heap := s1.heap.push { cls := .type "range", data := .fields #[.int i t, .int j t', .int 1 s1.toks] }, toks := s1.toks + 1 } := I1.kept (t' := s1.toks + 1) fun b o e => Heap.get?_push_of_some _ e
      have c3 : Builtin.Range.rangeSize i j 1 = ((j - i).toNat : Int) := rangeSize_nat i j
      have e1 : i + ((0 : Nat) : Int) * 1 = i := by simp
      have e2 : (((j - i).toNat : Nat) : Int) - ((0 : Nat) : Int) = Builtin.Range.rangeSize i j 1 := by rw [c3]; simp
      cases c2 : Builtin.Range.small i j 1 with
      | true =>
        refine wpAny_pyIter_range (IsRange.new ..) c2 ?_
        refine pi_one (tk := s1.toks + 1) I2 _ (turn_rangeC _ i 1 (j - i).toNat) ?_ q
        show IsRangeIter _ _ (i + ((0 : Nat) : Int) * 1) ((((j - i).toNat : Nat) : Int) - ((0 : Nat) : Int)) 1
        rw [e1, e2]
        exact Heap.get?_push_size _ rfl
      | false =>
        refine wpAny_pyIter_longrange (IsRange.new ..) c2 ?_
        refine pi_one (tk := s1.toks + 1) I2 _ (turn_longC _ i 1 (j - i).toNat) ?_ q
        show IsLongIter _ _ (i + ((0 : Nat) : Int) * 1) ((((j - i).toNat : Nat) : Int) - ((0 : Nat) : Int)) 1
        rw [e1, e2]
        exact Heap.get?_push_size _ rfl
end

/-! ### list(enumerate(xs)): a list of new pairs -/
section
open PySem.W PySem.Calls PyProof.Rows PySem.Spec
def enuL {α : Type} : Nat → List α → List (Key × α)
  | _, [] => []
  | i, x :: xs => (.inl (i : Nat), x) :: enuL (i + 1) xs
theorem enuL_len {α : Type} : ∀ (xs : List α) (i : Nat), (enuL i xs).length = xs.length
  | [], _ => rfl
  | _ :: xs, i => congrArg (· + 1) (enuL_len xs (i + 1))
theorem enuL_get {α : Type} : ∀ (xs : List α) (i j : Nat) (x : α), xs[j]? = some x → (enuL i xs)[j]? = some (.inl ((i + j : Nat) : Int), x)
  | [], _, _, _, h => by cases h
  | y :: ys, i, 0, x, h => by cases h; rfl
  | y :: ys, i, j + 1, x, h => by
    have := enuL_get ys (i + 1) j x h
    rw [show i + (j + 1) = i + 1 + j by omega]
    exact this
theorem enuL_kv : ∀ {xs : List V} {us : List Value} (i : Nat), Vals xs us → KV (enuL i xs) (enuL i us)
  | [], [], _, _ => .nil
  | [], _ :: _, _, h => nomatch h
  | _ :: _, [], _, h => nomatch h
  | _ :: _, _ :: _, i, .cons r rr => .cons ⟨rfl, r⟩ (enuL_kv (i + 1) rr)
/-- the enumerate object at e while S is being filled: nothing given out yet, or the first pair is held -/
def EnuSt (h : Heap) (e it l S : Addr) (items : Array Value) (i : Nat) : Prop :=
  h.IsListIter it l i ∧ h.IsList l items ∧ ((∃ old, IsEnum h e it i old) ∨ ∃ old T f oT, IsEnumHeld h e it i old T f ∧ h.get? T = some oT ∧ T ≠ e ∧ T ≠ it ∧ T ≠ S)
variable {prog : Program} {w : World} {A : Around} {E : Value → Shared → Prop} {s : Shared} {R : Result → Shared → Prop} {e it l S : Addr} {items : Array Value}
theorem EnuSt.keep {h h' : Heap} {i : Nat} (x : EnuSt h e it l S items i) (hk : ∀ b o, b ≠ S → h.get? b = some o → h'.get? b = some o) (he : e ≠ S) (hi : it ≠ S) (hl : l ≠ S) : EnuSt h' e it l S items i := by
  obtain ⟨a, b, c⟩ := x
  refine ⟨a.at fun o q => hk _ o hi q, b.at fun o q => hk _ o hl q, ?_⟩
  rcases c with ⟨old, c⟩ | ⟨old, T, f, oT, c, hT, r1, r2, r3⟩
  · exact .inl ⟨old, hk _ _ he c⟩
  · exact .inr ⟨old, T, f, oT, hk _ _ he c, hk _ _ r3 hT, r1, r2, r3⟩
theorem enu_next {i : Nat} {x : Value} {Q : Option Value → Shared → Prop} (hei : e ≠ it) (hle : l ≠ e) (hli : l ≠ it) (st : EnuSt s.heap e it l S items i) (hS : S < s.heap.objs.size) (hx : items[i]? = some x)
    (hQ : ∀ h', EnuSt h' e it l S items (i + 1) → h'.get? s.heap.objs.size = some { cls := .type "tuple", data := .seq #[.int i s.toks, x] } → h'.objs.size = s.heap.objs.size + 1 →
      (∀ b o, b ≠ e → b ≠ it → s.heap.get? b = some o → h'.get? b = some o) → Q (some (.ref s.heap.objs.size)) { s with heap := h', toks := s.toks + 1 }) :
    wpAny (model prog w) A (pyNext (.ref e)) Q E s := by
  obtain ⟨hit, hl, he⟩ := st
  have ec : ((i + 1 : Nat) : Int) = (i : Int) + 1 := by omega
  have nit : s.heap.objs.size ≠ it := let ⟨_, x, _⟩ := hit; Nat.ne_of_gt (Heap.lt_size x)
  rcases he with ⟨old, he⟩ | ⟨old, T, f, oT, he, hT, r1, r2, r3⟩
  · refine wpAny_pyNext_enum_item he hit hl hx hei fun h' ho hit' hT hsz hk => ?_
    exact hQ h' ⟨hit', hl.at fun o x => hk l o hle hli x, .inr ⟨_, s.heap.objs.size, false, _, (by rw [ec]; exact ho), hT, Nat.ne_of_gt (Heap.lt_size he), nit, Nat.ne_of_gt hS⟩⟩ hT hsz hk
  · refine wpAny_pyNext_enum_item_held he hT r1 r2 hit hl hx hei fun h' ho hit' hT' hsz hk => ?_
    exact hQ h' ⟨hit', hl.at fun o x => hk l o hle hli x, .inr ⟨old, T, true, oT, (by rw [ec]; exact ho), hk _ _ r1 r2 hT, r1, r2, r3⟩⟩ hT' hsz hk
theorem enu_stop {Q : Option Value → Shared → Prop} (hh : A.handled = none) (st : EnuSt s.heap e it l S items items.size) (hQ : ∀ h', Heap.ExtBut it s.heap h' → Q none { s with heap := h' }) :
    wpAny (model prog w) A (pyNext (.ref e)) Q E s := by
  obtain ⟨hit, hl, he⟩ := st
  have hx : items[items.size]? = none := Array.getElem?_eq_none (Nat.le_refl _)
  rcases he with ⟨old, he⟩ | ⟨old, T, f, oT, he, hT, r1, r2, r3⟩
  · exact wpAny_pyNext_enum_end hh he hit hl hx hQ
  · exact wpAny_pyNext_enum_end_held hh he hit hl hx hQ
theorem enu_loop (hh : A.handled = none) (heS : e < S) (hiS : it < S) (hlS : l ≠ S) (hle : l ≠ e) (hli : l ≠ it) (hei : e ≠ it) (hn : items.size ≤ sizeLine) (res : Value) {h₁ : Heap}
    (hR : ∀ h' tk acc c as, (∀ b o, b ≠ S → b ≠ e → b ≠ it → h₁.get? b = some o → h'.get? b = some o) → h'.get? S = some { cls := .type "list", dict := none, data := .seq acc c, slots := #[] } → as.length = items.size →
      KdxG (mixKind prog w) (enuL 0 items.toList) S h' as → acc.toList = as.map Value.ref → R (.ok (.ret res)) { s with heap := h', toks := tk }) :
    ∀ (k i : Nat) (h : Heap) (tk c : Nat) (acc : Array Value) (as : List Addr), items.size - i = k → i ≤ items.size → EnuSt h e it l S items i → (∀ b o, b ≠ S → b ≠ e → b ≠ it → h₁.get? b = some o → h.get? b = some o) →
      h.get? S = some { cls := .type "list", dict := none, data := .seq acc c, slots := #[] } → acc.toList = as.map Value.ref → as.length = i → KdxG (mixKind prog w) (enuL 0 items.toList) S h as →
      codeAny (model prog w) A (.builtin "list.extend.loop" ⟨[.ref S, .ref e, res], []⟩) R { s with heap := h, toks := tk } := by
  have neS : S ≠ e := Nat.ne_of_gt heS
  have niS : S ≠ it := Nat.ne_of_gt hiS
  intro k
  induction k with
  | zero =>
    intro i h tk c acc as hk hi hst hkeep hS hacc hal hG
    have hin : i = items.size := by omega
    subst hin
    refine codeAny_builtin PySem.F.entry_extend_loop ?_
    rw [Around.under_plainId PySem.F.plain_extend_loop _]
    show wpAny _ A.in1 (pyNext (.ref e) >>= _) _ _ _
    refine wpAny_bind (enu_stop (s := { s with heap := h, toks := tk }) (A := A.in1) hh hst fun h' he => ?_)
    refine wpAny_pure (hR h' tk acc c as (fun b o h1 h2 h3 q => he b o h3 (hkeep b o h1 h2 h3 q)) (he S _ niS hS) (by omega) ⟨hG.rise, hG.above, fun j a hj => ?_⟩ hacc)
    obtain ⟨key, kk, x, e1, e2, e3⟩ := hG.pairs j a hj
    have := hG.above a (List.mem_of_getElem? hj)
    exact ⟨key, kk, x, e1, e2, he a _ (Nat.ne_of_gt (Nat.lt_trans hiS this)) e3⟩
  | succ k ih =>
    intro i h tk c acc as hk hi hst hkeep hS hacc hal hG
    have hlt : i < items.size := by omega
    have hx : items[i]? = some items[i] := Array.getElem?_eq_getElem hlt
    have hsz : acc.size = i := by rw [← Array.length_toList, hacc, List.length_map, hal]
    have hSl : S < h.objs.size := Heap.lt_size hS
    refine codeAny_builtin PySem.F.entry_extend_loop ?_
    rw [Around.under_plainId PySem.F.plain_extend_loop _]
    show wpAny _ A.in1 (pyNext (.ref e) >>= _) _ _ _
    refine wpAny_bind (enu_next (s := { s with heap := h, toks := tk }) hei hle hli hst hSl hx fun h' hst' ht hz hkp => ?_)
    dsimp only at ht hz hkp ⊢
    have hS' := hkp S _ neS niS hS
    have up : ∀ b o, b ≠ S → h'.get? b = some o → (h'.update S (Obj.mapSeq (·.push (Value.ref h.objs.size)))).get? b = some o := fun b o hb q => (Heap.get?_update_other _ _ (Ne.symm hb)).trans q
    show wpAny _ A.in1 (updateSeq S (·.push (Value.ref h.objs.size)) >>= _) _ _ _
    refine wpAny_bind ?_
    refine wpAny_updateSeq hS' rfl (wpAny_pure ⟨plainId_quiet PySem.F.plain_extend_loop _, ih (i + 1) _ (tk + 1) _ (acc.push (Value.ref h.objs.size)) (as ++ [h.objs.size]) (by omega) hlt (hst'.keep up (Ne.symm neS) (Ne.symm niS) hlS)
      (fun b o h1 h2 h3 q => up b o h1 (hkp b o h2 h3 (hkeep b o h1 h2 h3 q))) (Heap.get?_update_self _ hS' rfl) (by rw [Array.toList_push, hacc, List.map_append]; rfl) (by rw [List.length_append, hal]; rfl) ⟨?_, ?_, ?_⟩⟩) (by rw [hsz]; omega) (by show (acc.push (Value.ref h.objs.size)).size ≤ sizeLine + 1; rw [Array.size_push, hsz]; omega)
    · refine List.pairwise_append.mpr ⟨hG.rise, List.pairwise_singleton _ _, fun a ha b hb => ?_⟩
      rw [List.mem_singleton.mp hb]
      exact hG.there ha
    · intro a ha
      rcases List.mem_append.mp ha with ha | ha
      · exact hG.above a ha
      · rw [List.mem_singleton.mp ha]; exact hSl
    · intro j b hj
      rcases Nat.lt_trichotomy j as.length with h1 | h1 | h1
      · rw [List.getElem?_append_left h1] at hj
        obtain ⟨key', k', x', e1, e2, e3⟩ := hG.pairs j b hj
        have hb := hG.above b (List.mem_of_getElem? hj)
        exact ⟨key', k', x', e1, e2, up b _ (Nat.ne_of_gt hb) (hkp b _ (Nat.ne_of_gt (Nat.lt_trans heS hb)) (Nat.ne_of_gt (Nat.lt_trans hiS hb)) e3)⟩
      · subst h1
        have hb : h.objs.size = b := by simpa using hj
        subst hb
        have g := enuL_get items.toList 0 as.length items[i] (by rw [hal, Array.getElem?_toList]; exact hx)
        rw [Nat.zero_add] at g
        refine ⟨.int i tk, _, _, g, ?_, up _ _ (Nat.ne_of_gt hSl) ht⟩
        rw [hal]
        exact mixKind_int prog w _ _
      · have hnone : (as ++ [h.objs.size])[j]? = none := List.getElem?_eq_none (by rw [List.length_append, List.length_singleton]; omega)
        rw [hnone] at hj; cases hj
theorem enum_no_len : typeLookup (.type "enumerate") "__len__" = pure none := am_miss_of_fast (by decide +kernel)
theorem enum_no_hint : typeLookup (.type "enumerate") "__length_hint__" = pure none := am_miss_of_fast (by decide +kernel)
theorem enu_hint (hT : s.TypeIs (.ref e) "enumerate") {Q : Bool → Shared → Prop} (h : Q true s) : wpAny (model prog w) A (Builtin.List.listLengthHint (.ref e)) Q E s := by
  unfold Builtin.List.listLengthHint
  refine wpAny_bind (wpAny_specialOf hT enum_no_len ?_)
  refine wpAny_ite_split (fun hab => absurd hab (by decide)) (fun _ => ?_)
  refine wpAny_ite_split (fun hab => absurd hab (by decide)) (fun _ => ?_)
  refine wpAny_bind (wpAny_specialOf hT enum_no_hint ?_)
  exact wpAny_pure h
theorem enu_extend {old : Value} (hh : A.handled = none) (he : IsEnum s.heap e it 0 old) (hit : s.heap.IsListIter it l 0) (hl : s.heap.IsList l items) (heS : e < S) (hiS : it < S) (hlS : l ≠ S) (hle : l ≠ e) (hli : l ≠ it) (hei : e ≠ it) (hn : items.size ≤ sizeLine) (res : Value) (c₀ : Nat)
    (hS : s.heap.get? S = some { cls := .type "list", data := .seq #[] c₀ })
    (hR : ∀ h' tk acc c as, (∀ b o, b ≠ S → b ≠ e → b ≠ it → s.heap.get? b = some o → h'.get? b = some o) → h'.get? S = some { cls := .type "list", dict := none, data := .seq acc c, slots := #[] } → as.length = items.size →
      KdxG (mixKind prog w) (enuL 0 items.toList) S h' as → acc.toList = as.map Value.ref → R (.ok (.ret res)) { s with heap := h', toks := tk }) :
    wpAny (model prog w) A.in1 (Builtin.List.listExtendWith (.ref S) (.ref e) res)
      (fun fin s' => match fin with | .done f => R (.ok f) s' | .again c' => c'.quiet = true ∧ codeAny (model prog w) A c' R s') (fun e s' => R (.error e) s') s := by
  have hSe : S ≠ e := Nat.ne_of_gt heS
  have key : ∀ (h : Heap) (c₁ tk : Nat), (∀ b o, b ≠ S → s.heap.get? b = some o → h.get? b = some o) → h.get? S = some { cls := .type "list", data := .seq #[] c₁ } →
      codeAny (model prog w) A (.builtin "list.extend.loop" ⟨[.ref S, .ref e, res], []⟩) R { s with heap := h, toks := tk } := by
    intro h c₁ tk hk hS₁
    have st : EnuSt h e it l S items 0 := EnuSt.keep (h := s.heap) ⟨hit, hl, .inl ⟨old, he⟩⟩ hk (Ne.symm hSe) (Nat.ne_of_lt hiS) hlS
    exact enu_loop (s := s) (h₁ := s.heap) hh heS hiS hlS hle hli hei hn res hR items.size 0 h tk c₁ #[] [] (Nat.sub_zero _) (Nat.zero_le _) st (fun b o h1 _ _ q => hk b o h1 q) hS₁ rfl rfl
      ⟨List.Pairwise.nil, (fun _ ha => nomatch ha), (fun j a hj => by simp at hj)⟩
  have hT : s.TypeIs (.ref e) "enumerate" := ⟨_, he, rfl⟩
  unfold Builtin.List.listExtendWith
  refine wpAny_bind (wpAny_typeOf hT ?_)
  have h1 : Builtin.List.listSameRef (.ref S) (.ref e) = false := by simp [Builtin.List.listSameRef, hSe]
  have h2 : (Value.type "enumerate" == Value.type "list") = false := by decide
  have h3 : (Value.type "enumerate" == Value.type "tuple") = false := by decide
  simp only [h1, h2, h3, Bool.or_false, Bool.false_eq_true, if_false]
  refine wpAny_bind (wpAny_pyIter_enum he ?_)
  refine wpAny_bind (wpAny_holding (enu_hint hT ?_))
  refine wpAny_ite_split (fun _ => ?_) (fun hab => absurd rfl hab)
  refine wpAny_bind (wpAny_rule ?_)
  refine wpAny_bind ?_
  show wpAny _ _ (updateSeq S (·.push .none) >>= fun _ => updateSeq S (·.pop)) _ _ _
  refine wpAny_bind (wpAny_updateSeq hS rfl ?_)
  have hS₂ := Heap.get?_update_self (Obj.mapSeq (·.push Value.none)) hS rfl
  refine wpAny_updateSeq (hz := by seq_fits) hS₂ rfl ?_
  have hS₃ := Heap.get?_update_self (Obj.mapSeq (·.pop)) hS₂ rfl
  refine wpAny_pure ⟨plainId_quiet PySem.F.plain_extend_loop _, key _ _ _ (fun b o hb q => ?_) hS₃⟩
  exact (Heap.get?_update_other _ _ (Ne.symm hb)).trans ((Heap.get?_update_other _ _ (Ne.symm hb)).trans q)
theorem enu_call {Q : Value → Shared → Prop} {old : Value} (hh : A.handled = none) (he : IsEnum s.heap e it 0 old) (hit : s.heap.IsListIter it l 0) (hl : s.heap.IsList l items) (hle : l ≠ e) (hli : l ≠ it) (hei : e ≠ it) (hn : items.size ≤ sizeLine)
    (hQ : ∀ h' tk acc c as, (∀ b o, b ≠ e → b ≠ it → s.heap.get? b = some o → h'.get? b = some o) → h'.get? s.heap.objs.size = some { cls := .type "list", dict := none, data := .seq acc c, slots := #[] } → as.length = items.size →
      KdxG (mixKind prog w) (enuL 0 items.toList) s.heap.objs.size h' as → acc.toList = as.map Value.ref → Q (.ref s.heap.objs.size) { s with heap := h', toks := tk }) :
    wpAny (model prog w) A (call (.type "list") [.ref e]) Q E s := by
  refine callType_codes (Q₁ := fun obj s₁ => obj = .ref s.heap.objs.size ∧ s₁ = { s with heap := s.heap.push { cls := .type "list", data := .seq #[] } }) PySem.F.called_list (PySem.F.typeCall_list_1 _) PySem.F.entry_list_init
    (code_list_new _ ⟨rfl, rfl⟩) fun obj s₁ h₁ => ?_
  obtain ⟨rfl, rfl⟩ := h₁
  have hS : (s.heap.push { cls := .type "list", data := .seq #[] }).get? s.heap.objs.size = some { cls := .type "list", data := .seq #[] } := Heap.get?_push_size _ rfl
  have heS : e < s.heap.objs.size := Heap.lt_size he
  have hiS : it < s.heap.objs.size := let ⟨_, q, _⟩ := hit; Heap.lt_size q
  have hlS : l < s.heap.objs.size := let ⟨_, q, _⟩ := hl; Heap.lt_size q
  have oth : ∀ b o, b ≠ s.heap.objs.size → (s.heap.push { cls := .type "list", data := .seq #[] }).get? b = some o →
      ((s.heap.push { cls := .type "list", data := .seq #[] }).update s.heap.objs.size (Obj.mapSeq (fun _ => (#[] : Array Value)))).get? b = some o :=
    fun b o hb q => (Heap.get?_update_other _ _ (Ne.symm hb)).trans q
  have up : ∀ b o, s.heap.get? b = some o → ((s.heap.push { cls := .type "list", data := .seq #[] }).update s.heap.objs.size (Obj.mapSeq (fun _ => (#[] : Array Value)))).get? b = some o :=
    fun b o q => oth b o (Nat.ne_of_lt (Heap.lt_size q)) (Heap.get?_push_of_some _ q)
  refine ⟨⟨_, hS, rfl⟩, PySem.F.args_list_init_2 _ _, ?_⟩
  show wpAny _ _ (do let old ← Builtin.List.listItems (.ref s.heap.objs.size); Builtin.List.listUpdate (.ref s.heap.objs.size) (fun _ => #[]); letGo old.toList.reverse; Builtin.List.listExtendWith (.ref s.heap.objs.size) (.ref e) .none) _ _ _
  refine wpAny_bind ?_
  unfold Builtin.List.listItems
  refine wpAny_bind (wpAny_seqItems hS rfl (wpAny_pure ?_))
  show wpAny _ _ (updateSeq s.heap.objs.size (fun _ => #[]) >>= fun _ => letGo (#[] : Array Value).toList.reverse >>= fun _ => Builtin.List.listExtendWith (.ref s.heap.objs.size) (.ref e) .none) _ _ _
  refine wpAny_bind (wpAny_updateSeq hS rfl ?_)
  have hS₂ := Heap.get?_update_self (Obj.mapSeq (fun _ => (#[] : Array Value))) hS rfl
  refine wpAny_bind (wpAny_letGo ?_)
  refine enu_extend (A := A.in1) (old := old) (it := it) (l := l) (items := items) hh (up _ _ he) (hit.at fun o q => up _ o q) (hl.at fun o q => up _ o q) heS hiS (Nat.ne_of_lt hlS) hle hli hei hn .none _ hS₂ fun h' tk acc c as hk hS' hal hG hacc => ?_
  exact ⟨rfl, hQ h' tk acc c as (fun b o h1 h2 q => hk b o (Nat.ne_of_lt (Heap.lt_size q)) h1 h2 (up b o q)) hS' hal hG hacc⟩
end
section
open PySem.W PySem.Calls PyProof.Rows PySem.Spec LiI
variable {X : Cx} {e : Expr} {te : TE} {p q pos pos2 : Pos}
theorem enu_laid {pins : List (Addr × Obj)} {σ : L2.St} {H : Hp} {s : Shared} {h' : Heap} {tk : Nat} {S : Addr} {kvs : List (Key × V)} {vs : List (Key × Value)} {acc : Array Value} {c : Nat} {as : List Addr} (I : Inv X pins σ H s) (hz : kvs.length ≤ sizeLine) (kv : KV kvs vs)
    (hk : ∀ b o, s.heap.get? b = some o → h'.get? b = some o) (lo : s.heap.objs.size ≤ S) (hS : h'.get? S = some { cls := .type "list", dict := none, data := .seq acc c, slots := #[] }) (hl : as.length = vs.length) (hG : KdxG (mixKind X.prog X.w) vs S h' as) (hacc : acc.toList = as.map Value.ref) :
    ∃ H' : Hp, (∀ b o, H b = some o → H' b = some o) ∧ H S = none ∧ (∀ t ∈ as, H t = none) ∧ S ∉ as ∧ as.Nodup ∧ H' S = some (.lst (as.map V.ref)) ∧ Paired (fun (t : Addr) (q : Key × V) => H' t = some (.tup [kV q.1, q.2])) as kvs ∧ Inv X pins σ H' { s with heap := h', toks := tk } := by
  have lk : kvs.length = vs.length := Paired.length kv
  have hSn : S ∉ as := fun z => Nat.lt_irrefl _ (hG.above _ z)
  have nd : as.Nodup := List.Pairwise.imp (fun {a b} (h : a < b) => Nat.ne_of_lt h) hG.rise
  have ab : ∀ t ∈ as, s.heap.objs.size < t := fun t ht => Nat.lt_of_le_of_lt lo (hG.above t ht)
  have new : ∀ t ∈ as, H t = none := fun t ht => I.hok.fresh (Nat.le_of_lt (ab t ht))
  have newS : H S = none := I.hok.fresh lo
  have atP := putT_at as kvs (upd H S (.lst (as.map V.ref))) (by omega) nd
  have off : ∀ b, b ∉ as → b ≠ S → putT (upd H S (.lst (as.map V.ref))) as kvs b = H b := fun b h1 h2 => by rw [putT_off as kvs _ h1, upd_ne h2]
  have low : ∀ b o, s.heap.get? b = some o → b ∉ as ∧ b ≠ S := fun b o e => ⟨fun z => absurd (Heap.lt_size e) (Nat.not_lt.mpr (Nat.le_of_lt (ab b z))), Nat.ne_of_lt (Nat.lt_of_lt_of_le (Heap.lt_size e) lo)⟩
  have kp : ∀ b u, H b = some u → (putT (upd H S (.lst (as.map V.ref))) as kvs) b = some u := fun b u e => by
    rw [off b (fun z => by rw [new b z] at e; cases e) (fun z => by rw [z, newS] at e; cases e)]
    exact e
  have eS : putT (upd H S (.lst (as.map V.ref))) as kvs S = some (.lst (as.map V.ref)) := by rw [putT_off as kvs _ hSn, upd_same]
  refine ⟨putT (upd H S (.lst (as.map V.ref))) as kvs, kp, newS, new, hSn, nd, eS, atP, ?_⟩
  refine I.call' (ch := []) rfl ⟨fun b o q _ _ _ => hk b o q, fun b o q _ _ _ => ⟨o.slots, hk b o q⟩, fun b o q n _ => ?_, fun b o q _ => ⟨o, hk b o q⟩, fun b xs q => kp b _ q, fun b o u q => kp b _ q, fun b ps q => ⟨#[], by rw [kp b _ q]; simp⟩⟩ (fun b u q => ?_) I.bare fun b z => by simp at z
  · obtain ⟨z1, z2⟩ := low b o q
    rw [off b z1 z2]
    exact n
  · by_cases hb : b ∈ as
    · obtain ⟨j, pk, e1, e2, e3⟩ := paired_ix atP hb
      rw [e3] at q
      cases q
      obtain ⟨key, k, x, f1, f2, f3⟩ := hG.pairs j b e1
      obtain ⟨qv, g1, g2, g3⟩ := LiI.paired_get kv e2
      rw [f1] at g1
      cases g1
      have rk : RelV (kV pk.1) key := by
        rw [g2]
        exact relV_key (show keyIs k key = true from f2)
      exact ⟨by show 2 ≤ sizeLine; decide, [key, x], .cons rk (.cons g3 .nil), ⟨_, f3, rfl, _, rfl⟩⟩
    · by_cases hb2 : b = S
      · rw [hb2] at q ⊢
        rw [eS] at q
        cases q
        refine ⟨by rw [List.length_map]; omega, acc.toList, c, by rw [hacc]; exact LiI.vals_refs as, ?_⟩
        rw [Array.toArray_toList]
        exact hS
      · rw [off b hb hb2] at q
        exact (I.hok b u q).stay (fun d v _ y => hk d v y) (fun d y => kp d _ y) fun d xs y => kp d _ y
/-- list(enumerate(e)) -/
def tLstEnu (K : PySem.W.Frag) (te : TE) : TE := fun σ H Q => te σ H fun x H1 => ∃ (l : Addr) (xs : List V), x = .ref l ∧ SqL K H1 l xs ∧
  ∀ (H' : Hp) (r : Addr) (ts : List Addr), (∀ b o, H1 b = some o → H' b = some o) → H1 r = none → (∀ t ∈ ts, H1 t = none) → r ∉ ts → ts.Nodup → H' r = some (.lst (ts.map V.ref)) → Paired (fun (t : Addr) (q : Key × V) => H' t = some (.tup [kV q.1, q.2])) ts (enuL 0 xs) → Q (.ref r) H'
theorem pe_listEnu (hc : X.calm = true) (he : PE X e te) (hg : Gl X "list") (hm : X.mg "list" = none) (hg2 : Gl X "enumerate") (hm2 : X.mg "enumerate" = none)
    (hs2 : starEach [e] X.env = [(false, eval e X.env)] := by rfl)
    (hs : starEach [.Call (.Name "enumerate" q) [e] [] pos2] X.env = (false, eval (.Call (.Name "enumerate" q) [e] [] pos2) X.env) :: starEach [] X.env := by rfl) :
    PE X (.Call (.Name "list" p) [.Call (.Name "enumerate" q) [e] [] pos2] [] pos) (tLstEnu X.K te) := by
  refine ⟨fun pins s σ H Q I h => ?_⟩
  refine Call_ (ld_blt I hg hm boot_list (PyProof.Rows.callWith_type1 ?_ hs rfl))
  rw [hs]
  show wpAny _ _ (spliced ((false, eval (.Call (.Name "enumerate" q) [e] [] pos2) X.env) :: backTo pos (starEach [] X.env))) _ _ s
  refine Calls.spliced_cons ?_
  refine Call_ (ld_blt I hg2 hm2 boot_enumerate (PyProof.Rows.callWith_type1 ?_ hs2 rfl))
  rw [hs2]
  show wpAny _ _ (spliced ((false, eval e X.env) :: backTo pos2 [])) _ _ s
  refine Calls.spliced_cons (thn (he.run pins s σ H _ I h) fun u s1 ⟨x, H1, I1, rx, l, xs, ex, hl, q1⟩ => ?_)
  refine Calls.spliced_nil ?_
  subst ex
  obtain rfl : u = Value.ref l := rx
  obtain ⟨its, rv, p', hz⟩ := I1.list hl
  refine call_enumerate_list p'.isList fun h2 he2 hit2 hsz2 hk2 => ?_
  refine Calls.spliced_nil ?_
  have hll : l < s1.heap.objs.size := let ⟨_, q, _⟩ := p'.isList; Heap.lt_size q
  have hlen := rv.length
  refine enu_call (A := X.A) (s := { s1 with heap := h2 }) (it := s1.heap.objs.size) (l := l) (items := its.toArray) (I1.ok.hd hc) he2 hit2 (p'.isList.at fun o q => hk2 _ o q) (Nat.ne_of_lt (Nat.lt_succ_of_lt hll)) (Nat.ne_of_lt hll) (Nat.succ_ne_self _) (by rw [List.size_toArray]; omega) fun h' tk acc c as hk hS hal hG hacc => ?_
  dsimp only at hk hS hG ⊢
  rw [hsz2] at hS hG ⊢
  have kv := enuL_kv 0 rv
  obtain ⟨H', k1, k2, k3, k4, k5, k6, k7, J⟩ := enu_laid (tk := tk) (kvs := enuL 0 xs) (vs := enuL 0 its) I1 (by rw [enuL_len]; omega) kv (fun b o q => hk b o (Nat.ne_of_lt (Nat.lt_succ_of_lt (Heap.lt_size q))) (Nat.ne_of_lt (Heap.lt_size q)) (hk2 b o q)) (Nat.le_add_right _ 2) hS (by rw [enuL_len]; simpa using hal) hG hacc
  exact ⟨.ref _, H', J, rfl, q1 H' _ as k1 k2 k3 k4 k5 k6 k7⟩
end

/-- bits of a number that a period may have -/
def E8 : Nat := 8000
/-! ### numbers: the inverse by Euclid's steps -/
structure InvI (a m o n ot nt : Int) : Prop where
  n0 : 0 ≤ n
  o0 : 0 < o
  g : Int.gcd o n = 1
  d1 : m ∣ a * ot - o
  d2 : m ∣ a * nt - n
  sz : o * nt.natAbs + n * ot.natAbs ≤ m
theorem natAbs_sub_mul (x y q : Int) (hq : 0 ≤ q) : ((x - q * y).natAbs : Int) ≤ x.natAbs + q * y.natAbs := by
  have h1 : (x - q * y).natAbs ≤ x.natAbs + (q * y).natAbs := by omega
  have h2 : ((q * y).natAbs : Int) = q * y.natAbs := by
    rw [Int.natAbs_mul]
    have : (q.natAbs : Int) = q := by omega
    rw [Int.natCast_mul, this]
  omega
theorem InvI.step {a m o n ot nt : Int} (h : InvI a m o n ot nt) (hn : 0 < n) : InvI a m n (o - o / n * n) nt (ot - o / n * nt) := by
  have hq : 0 ≤ o / n := Int.ediv_nonneg (by have := h.o0; omega) (by omega)
  have e : o - o / n * n = o % n := by
    have := Int.emod_add_mul_ediv o n
    rw [Int.mul_comm] at this
    omega
  refine ⟨?_, hn, ?_, h.d2, ?_, ?_⟩
  · rw [e]; exact Int.emod_nonneg _ (by omega)
  · have g := h.g
    rw [show o - o / n * n = o - (o / n) * n from rfl, Int.gcd_sub_mul_right_right, Int.gcd_comm]
    exact g
  · have h1 := h.d1
    have h2 := h.d2
    have : a * (ot - o / n * nt) - (o - o / n * n) = (a * ot - o) - (o / n) * (a * nt - n) := by grind
    rw [this]
    exact Int.dvd_sub h1 (Int.dvd_mul_of_dvd_right h2)
  · have b := natAbs_sub_mul ot nt (o / n) hq
    have h3 : n * ((ot - o / n * nt).natAbs : Int) ≤ n * (ot.natAbs + o / n * nt.natAbs) := Int.mul_le_mul_of_nonneg_left b (by omega)
    have := h.sz
    have e2 : n * (ot.natAbs + o / n * nt.natAbs) + (o - o / n * n) * nt.natAbs = n * (ot.natAbs : Int) + o * nt.natAbs := by grind
    omega
theorem InvI.start {a m : Int} (hm : 0 < m) (g : Int.gcd m a = 1) : InvI a m m (a % m) 0 1 := by
  refine ⟨Int.emod_nonneg _ (by omega), hm, ?_, ?_, ?_, ?_⟩
  · rw [show a % m = a - m * (a / m) by have := Int.emod_add_mul_ediv a m; omega, Int.gcd_sub_mul_left_right]; exact g
  · exact ⟨-1, by grind⟩
  · exact ⟨a / m, by have := Int.emod_add_mul_ediv a m; grind⟩
  · simp
theorem InvI.nt_le {a m o n ot nt : Int} (h : InvI a m o n ot nt) : (nt.natAbs : Int) ≤ m := by
  have h1 := h.sz
  have h2 : (1 : Int) * nt.natAbs ≤ o * nt.natAbs := Int.mul_le_mul_of_nonneg_right (by have := h.o0; omega) (by omega)
  have h3 : 0 ≤ n * (ot.natAbs : Int) := Int.mul_nonneg h.n0 (by omega)
  omega
theorem InvI.fin {a m o ot nt : Int} (h : InvI a m o 0 ot nt) (hm : 0 < m) : 0 ≤ ot % m ∧ ot % m < m ∧ m ∣ a * (ot % m) - 1 := by
  have g := h.g
  rw [Int.gcd_zero_right] at g
  have o1 : o = 1 := by have := h.o0; omega
  refine ⟨Int.emod_nonneg _ (by omega), Int.emod_lt_of_pos _ hm, ?_⟩
  have h1 := h.d1
  rw [o1] at h1
  have : a * (ot % m) - 1 = (a * ot - 1) - m * (a * (ot / m)) := by
    have := Int.emod_add_mul_ediv ot m
    grind
  rw [this]
  exact Int.dvd_sub h1 (Int.dvd_mul_right _ _)
/-- the one number from 0 below m that inverts a by m -/
theorem inv_uniq {a m r s : Int} (hm : 0 < m) (hr : 0 ≤ r ∧ r < m ∧ m ∣ a * r - 1) (hs : 0 ≤ s ∧ s < m ∧ m ∣ a * s - 1) : r = s := by
  obtain ⟨r0, r1, x, hx⟩ := hr
  obtain ⟨s0, s1, y, hy⟩ := hs
  have h : m ∣ r - s := by
    refine ⟨s * x - r * y + 0, ?_⟩
    grind
  obtain ⟨k, hk⟩ := h
  have : k = 0 := by
    by_cases h0 : k = 0
    · exact h0
    · exfalso
      by_cases h1 : 0 < k
      · have : m * 1 ≤ m * k := Int.mul_le_mul_of_nonneg_left (by omega) (by omega)
        omega
      · have : m * k ≤ m * (-1) := Int.mul_le_mul_of_nonneg_left (by omega) (by omega)
        omega
  rw [this] at hk
  omega

/-! ### numbers: lamps seen and met -/
/-- what is seen of (p2, b2) at the own beats of (p1, b1): (q, r) -/
structure SeenIs (p1 b1 p2 b2 q r : Int) : Prop where
  q0 : 0 < q
  r0 : 0 ≤ r
  rq : r < q
  qe : q = p2 / (Int.gcd p1 p2 : Int)
  iff : ∀ t : Int, q ∣ t - r ↔ p2 ∣ b1 + t * p1 - b2
/-- the meeting of (p1, b1) and (p2, b2): (m, c) -/
structure MeetIs (p1 b1 p2 b2 m c : Int) : Prop where
  m0 : 0 < m
  c0 : 0 ≤ c
  cm : c < m
  me : m = p1 * (p2 / (Int.gcd p1 p2 : Int))
  iff : ∀ x : Int, m ∣ x - c ↔ p1 ∣ x - b1 ∧ p2 ∣ x - b2
theorem dvd_iff_emod {a b : Int} : b % a = 0 ↔ a ∣ b := ⟨Int.dvd_of_emod_eq_zero, Int.emod_eq_zero_of_dvd⟩
theorem dvd_emod_sub {q x t : Int} : q ∣ t - x % q ↔ q ∣ t - x := by
  have h := Int.emod_add_mul_ediv x q
  constructor
  · rintro ⟨k, hk⟩
    exact ⟨k - x / q, by grind⟩
  · rintro ⟨k, hk⟩
    exact ⟨k + x / q, by grind⟩
theorem gcd_pos {a b : Int} (h : 0 < a) : (0 : Int) < (Int.gcd a b : Int) := by
  have := Int.gcd_pos_of_ne_zero_left b (a := a) (by omega)
  omega
theorem gcd_cop {a b : Int} (h : 0 < a) : Int.gcd (b / (Int.gcd a b : Int)) (a / (Int.gcd a b : Int)) = 1 := by
  have h0 : 0 < Int.gcd a b := Int.gcd_pos_of_ne_zero_left b (by omega)
  rw [Int.gcd_comm]
  exact Int.gcd_ediv_gcd_ediv_gcd h0
theorem seen_is {p1 b1 p2 b2 v : Int} (h1 : 0 < p1) (h2 : 0 < p2) (hg : (Int.gcd p1 p2 : Int) ∣ b2 - b1) (hv : p2 / (Int.gcd p1 p2 : Int) ∣ p1 / (Int.gcd p1 p2 : Int) * v - 1) :
    SeenIs p1 b1 p2 b2 (p2 / (Int.gcd p1 p2 : Int)) (((b2 - b1) / (Int.gcd p1 p2 : Int) * v) % (p2 / (Int.gcd p1 p2 : Int))) := by
  have g0 := gcd_pos (a := p1) (b := p2) h1
  have cop := gcd_cop (a := p1) (b := p2) h1
  obtain ⟨P, hP⟩ : (Int.gcd p1 p2 : Int) ∣ p1 := Int.gcd_dvd_left ..
  obtain ⟨q, hq⟩ : (Int.gcd p1 p2 : Int) ∣ p2 := Int.gcd_dvd_right ..
  obtain ⟨A, hA⟩ := hg
  generalize hgg : (Int.gcd p1 p2 : Int) = g at *
  have eP : p1 / g = P := by rw [hP]; exact Int.mul_ediv_cancel_left _ (by omega)
  have eq : p2 / g = q := by rw [hq]; exact Int.mul_ediv_cancel_left _ (by omega)
  have eA : (b2 - b1) / g = A := by rw [hA]; exact Int.mul_ediv_cancel_left _ (by omega)
  rw [eP, eq] at cop hv
  rw [eq, eA]
  have q0 : 0 < q := by
    by_cases hq0 : 0 < q
    · exact hq0
    · exfalso
      have : g * q ≤ g * 0 := Int.mul_le_mul_of_nonneg_left (by omega) (by omega)
      omega
  refine ⟨q0, Int.emod_nonneg _ (by omega), Int.emod_lt_of_pos _ q0, by rw [hgg, eq], fun t => ?_⟩
  rw [dvd_emod_sub]
  have e1 : b1 + t * p1 - b2 = g * (P * t - A) := by grind
  rw [e1, hq]
  have e2 : g * q ∣ g * (P * t - A) ↔ q ∣ P * t - A := Int.mul_dvd_mul_iff_left (by omega)
  rw [e2]
  obtain ⟨k, hk⟩ := hv
  constructor
  · rintro ⟨j, hj⟩
    exact ⟨P * j + A * k, by grind⟩
  · rintro ⟨j, hj⟩
    exact ⟨v * (j - A * k) - k * (t - A * v), by grind⟩
theorem seen_none {p1 b1 p2 b2 : Int} (hg : ¬ (Int.gcd p1 p2 : Int) ∣ b2 - b1) (x : Int) (h1 : p1 ∣ x - b1) (h2 : p2 ∣ x - b2) : False := by
  apply hg
  have d1 : (Int.gcd p1 p2 : Int) ∣ x - b1 := Int.dvd_trans (Int.gcd_dvd_left ..) h1
  have d2 : (Int.gcd p1 p2 : Int) ∣ x - b2 := Int.dvd_trans (Int.gcd_dvd_right ..) h2
  have : b2 - b1 = (x - b1) - (x - b2) := by omega
  rw [this]
  exact Int.dvd_sub d1 d2
theorem meet_is {p1 b1 p2 b2 q r : Int} (h1 : 0 < p1) (S : SeenIs p1 b1 p2 b2 q r) : MeetIs p1 b1 p2 b2 (p1 * q) ((b1 + p1 * r) % (p1 * q)) := by
  have q0 := S.q0
  have m0 : 0 < p1 * q := Int.mul_pos h1 q0
  refine ⟨m0, Int.emod_nonneg _ (by omega), Int.emod_lt_of_pos _ m0, by rw [S.qe], fun x => ?_⟩
  rw [dvd_emod_sub]
  constructor
  · rintro ⟨k, hk⟩
    have hx : x = b1 + (r + q * k) * p1 := by grind
    refine ⟨⟨r + q * k, by grind⟩, ?_⟩
    rw [hx]
    exact (S.iff (r + q * k)).mp ⟨k, by grind⟩
  · rintro ⟨⟨t, ht⟩, h⟩
    have hx : x = b1 + t * p1 := by grind
    rw [hx] at h
    obtain ⟨k, hk⟩ := (S.iff t).mpr h
    exact ⟨k, by grind⟩

theorem dvd_small {m x : Int} (h0 : -m < x) (h1 : x < m) (d : m ∣ x) : x = 0 := by
  obtain ⟨k, hk⟩ := d
  have m0 : 0 < m := by omega
  have : k = 0 := by
    by_cases h : k = 0
    · exact h
    · exfalso
      by_cases hp : 0 < k
      · have : m * 1 ≤ m * k := Int.mul_le_mul_of_nonneg_left (by omega) (by omega)
        omega
      · have : m * k ≤ m * (-1) := Int.mul_le_mul_of_nonneg_left (by omega) (by omega)
        omega
  rw [this] at hk
  omega
theorem MeetIs.at {p1 b1 p2 b2 m c : Int} (h : MeetIs p1 b1 p2 b2 m c) : p1 ∣ c - b1 ∧ p2 ∣ c - b2 := (h.iff c).mp ⟨0, by omega⟩
theorem MeetIs.lcm {p1 b1 p2 b2 m c : Int} (h : MeetIs p1 b1 p2 b2 m c) : m = p1 * p2 / (Int.gcd p1 p2 : Int) := by
  rw [h.me]
  exact (Int.mul_ediv_assoc p1 (Int.gcd_dvd_right ..)).symm
theorem MeetIs.swap {p1 b1 p2 b2 m c m' c' : Int} (h : MeetIs p1 b1 p2 b2 m c) (h' : MeetIs p2 b2 p1 b1 m' c') : m = m' ∧ c = c' := by
  have e : m = m' := by
    rw [h.lcm, h'.lcm, Int.gcd_comm, Int.mul_comm]
  refine ⟨e, ?_⟩
  have d := h'.at
  have d2 : m ∣ c' - c := (h.iff c').mpr ⟨d.2, d.1⟩
  have := dvd_small (by have := h.cm; have := h'.c0; have := h'.cm; omega) (by have := h.c0; have := h'.cm; omega) d2
  omega
/-- the beats from 0 below n that pass -/
def sieve (n : Nat) (f : Int → Bool) : List Int := ((List.range n).map fun (i : Nat) => (i : Int)).filter f
theorem sieve_succ (n : Nat) (f : Int → Bool) : sieve (n + 1) f = sieve n f ++ (if f n then [(n : Int)] else []) := by
  unfold sieve
  rw [List.range_succ, List.map_append, List.filter_append]
  congr 1
  simp [List.filter_cons]
theorem sieve_mem {n : Nat} {f : Int → Bool} {x : Int} : x ∈ sieve n f ↔ 0 ≤ x ∧ x < n ∧ f x = true := by
  unfold sieve
  rw [List.mem_filter, List.mem_map]
  constructor
  · rintro ⟨⟨i, hi, rfl⟩, h⟩
    have := List.mem_range.mp hi
    exact ⟨by omega, by omega, h⟩
  · rintro ⟨h0, h1, h⟩
    exact ⟨⟨x.toNat, List.mem_range.mpr (by omega), by omega⟩, h⟩
theorem sieve_len (n : Nat) (f : Int → Bool) : (sieve n f).length ≤ n := by
  unfold sieve
  exact Nat.le_trans (List.length_filter_le _ _) (by simp)
theorem sieve_none {n : Nat} {f : Int → Bool} (h : ∀ x : Int, 0 ≤ x → x < n → f x = false) : sieve n f = [] := by
  apply List.eq_nil_iff_forall_not_mem.mpr
  intro x hx
  obtain ⟨h0, h1, h2⟩ := sieve_mem.mp hx
  rw [h x h0 h1] at h2
  cases h2
theorem sieve_one {n : Nat} {f : Int → Bool} {c : Int} (c0 : 0 ≤ c) (cn : c < n) (h : ∀ x : Int, 0 ≤ x → x < n → (f x = true ↔ x = c)) : sieve n f = [c] := by
  induction n with
  | zero => omega
  | succ n ih =>
    rw [sieve_succ]
    by_cases e : c = n
    · rw [sieve_none, if_pos ((h n (by omega) (by omega)).mpr (by omega)), e]
      · rfl
      · intro x h0 h1
        have := h x h0 (by omega)
        cases hf : f x with
        | false => rfl
        | true => have := this.mp hf; omega
    · rw [ih (by omega) (fun x h0 h1 => h x h0 (by omega)), if_neg (fun hf => e ((h n (by omega) (by omega)).mp hf).symm)]
      rfl
theorem sieve_sieve (n : Nat) (f g : Int → Bool) : (sieve n f).filter g = sieve n (fun x => f x && g x) := by
  unfold sieve
  rw [List.filter_filter]
  congr 1
  funext x
  exact Bool.and_comm _ _
theorem MeetIs.self {p b m c : Int} (p0 : 0 < p) (b0 : 0 ≤ b) (bp : b < p) (h : MeetIs p b p b m c) : m = p ∧ c = b := by
  have e : m = p := by
    rw [h.lcm, Int.gcd_self]
    have : ((p.natAbs : Nat) : Int) = p := by omega
    rw [this]
    exact Int.mul_ediv_cancel_left _ (by omega)
  have d := h.at.1
  have := dvd_small (by have := h.c0; omega) (by have := h.cm; omega) d
  exact ⟨e, by omega⟩
theorem gcd_of_dvd {m p : Int} (p0 : 0 < p) (d : p ∣ m) : (Int.gcd m p : Int) = p := by
  rw [Int.gcd_eq_right_iff_dvd (by omega) |>.mpr d]
/-- the meeting of what one lamp hides and the hider -/
theorem MeetIs.within {m c p b m' c' : Int} (p0 : 0 < p) (c0 : 0 ≤ c) (cm : c < m) (d : p ∣ m) (h : MeetIs m c p b m' c') : m' = m ∧ c' = c := by
  have e : m' = m := by
    rw [h.me, gcd_of_dvd p0 d, Int.ediv_self (by omega), Int.mul_one]
  have d := h.at.1
  rw [e] at h
  have := dvd_small (by have := h.c0; omega) (by have := h.cm; omega) d
  exact ⟨e, by omega⟩
theorem dvd_sub_emod {g p x : Int} (d : g ∣ p) : g ∣ x - x % p := by
  have : x - x % p = p * (x / p) := by have := Int.emod_add_mul_ediv x p; omega
  rw [this]
  exact Int.dvd_mul_of_dvd_left d
theorem SeenIs.uniq {p1 b1 p2 b2 q r q' r' : Int} (h : SeenIs p1 b1 p2 b2 q r) (h' : SeenIs p1 b1 p2 b2 q' r') : q = q' ∧ r = r' := by
  have e : q = q' := by rw [h.qe, h'.qe]
  refine ⟨e, ?_⟩
  have d : q ∣ r' - r := (h.iff r').mpr ((h'.iff r').mp ⟨0, by omega⟩)
  have := dvd_small (by have := h.rq; have := h'.r0; omega) (by have := h.r0; have := h'.rq; omega) d
  omega
theorem SeenIs.always {p1 b1 p2 b2 q r : Int} (p10 : 0 < p1) (p20 : 0 < p2) (h : SeenIs p1 b1 p2 b2 q r) (hg : (Int.gcd p1 p2 : Int) ∣ b2 - b1) : decide (q = 1 ∧ r = 0 % 1) = (decide (p2 ∣ p1) && decide (p2 ∣ b1 - b2)) := by
  have g0 := gcd_pos (a := p1) (b := p2) p10
  have gd1 : (Int.gcd p1 p2 : Int) ∣ p1 := Int.gcd_dvd_left ..
  have gd2 : (Int.gcd p1 p2 : Int) ∣ p2 := Int.gcd_dvd_right ..
  have qe := h.qe
  have q1 : p2 = (Int.gcd p1 p2 : Int) * q := by rw [qe]; exact (Int.mul_ediv_cancel' gd2).symm
  by_cases e : q = 1
  · have r0 : r = 0 := by have := h.r0; have := h.rq; omega
    rw [e, Int.mul_one] at q1
    rw [← q1] at gd1 hg
    have d2 : p2 ∣ b1 - b2 := by
      rw [show b1 - b2 = -(b2 - b1) by omega]
      exact Int.dvd_neg.mpr hg
    simp [e, r0, gd1, d2]
  · have : ¬ p2 ∣ p1 := fun d => e (by
      have gg : (Int.gcd p1 p2 : Int) = p2 := gcd_of_dvd p20 d
      rw [qe, gg]
      exact Int.ediv_self (by omega))
    simp [e, this]
theorem seen_no_always {p1 b1 p2 b2 : Int} (p20 : 0 < p2) (hn : ¬ (Int.gcd p1 p2 : Int) ∣ b2 - b1) : (decide (p2 ∣ p1) && decide (p2 ∣ b1 - b2)) = false := by
  by_cases d : p2 ∣ p1
  · have gg : (Int.gcd p1 p2 : Int) = p2 := gcd_of_dvd p20 d
    have : ¬ p2 ∣ b1 - b2 := fun e => hn (by
      rw [gg, show b2 - b1 = -(b1 - b2) by omega]
      exact Int.dvd_neg.mpr e)
    simp [this]
  · simp [d]
theorem SeenIs.self {p b q r : Int} (p0 : 0 < p) (h : SeenIs p b p b q r) : q = 1 ∧ r = 0 := by
  have e : q = 1 := by
    rw [h.qe, Int.gcd_self]
    have : ((p.natAbs : Nat) : Int) = p := by omega
    rw [this]
    exact Int.ediv_self (by omega)
  exact ⟨e, by have := h.r0; have := h.rq; omega⟩

/-! ### numbers: three lamps -/
theorem inv_from : ∀ (k : Nat) {a m o n ot nt : Int}, n.toNat ≤ k → 0 < m → InvI a m o n ot nt → ∃ r : Int, m ∣ a * r - 1
  | 0, a, m, o, n, ot, nt, hk, hm, h => by
    have n0 : n = 0 := by have := h.n0; omega
    subst n0
    exact ⟨_, (h.fin hm).2.2⟩
  | k + 1, a, m, o, n, ot, nt, hk, hm, h => by
    by_cases hn : n = 0
    · subst hn
      exact ⟨_, (h.fin hm).2.2⟩
    · have n0 := h.n0
      have hp : 0 < n := by omega
      have J := h.step hp
      have e : o - o / n * n = o % n := by
        have := Int.emod_add_mul_ediv o n
        rw [Int.mul_comm] at this
        omega
      have := Int.emod_lt_of_pos o hp
      exact inv_from k (by omega) hm J
theorem inv_ex {a m : Int} (hm : 0 < m) (g : Int.gcd m a = 1) : ∃ r : Int, m ∣ a * r - 1 := inv_from _ (Nat.le_refl _) hm (InvI.start hm g)
theorem bezout {a b : Int} (ha : 0 < a) : ∃ x y : Int, (Int.gcd a b : Int) = a * x + b * y := by
  have g0 := gcd_pos (a := a) (b := b) ha
  have cop := gcd_cop (a := a) (b := b) ha
  obtain ⟨A, hA⟩ : (Int.gcd a b : Int) ∣ a := Int.gcd_dvd_left ..
  obtain ⟨B, hB⟩ : (Int.gcd a b : Int) ∣ b := Int.gcd_dvd_right ..
  generalize (Int.gcd a b : Int) = g at *
  have eA : a / g = A := by rw [hA]; exact Int.mul_ediv_cancel_left _ (by omega)
  have eB : b / g = B := by rw [hB]; exact Int.mul_ediv_cancel_left _ (by omega)
  rw [eA, eB, Int.gcd_comm] at cop
  have A0 : 0 < A := by
    by_cases h : 0 < A
    · exact h
    · exfalso
      have : g * A ≤ g * 0 := Int.mul_le_mul_of_nonneg_left (by omega) (by omega)
      omega
  obtain ⟨v, k, hk⟩ := inv_ex A0 cop
  exact ⟨-k, v, by grind⟩
/-- what the common parts of each with a third divide, the common part of their least multiple with it divides -/
theorem three_parts {p1 p2 p3 z : Int} (h1 : 0 < p1) (h2 : 0 < p2) (d1 : (Int.gcd p1 p3 : Int) ∣ z) (d2 : (Int.gcd p2 p3 : Int) ∣ z) : (Int.gcd (p1 * (p2 / (Int.gcd p1 p2 : Int))) p3 : Int) ∣ z := by
  have g0 := gcd_pos (a := p1) (b := p2) h1
  have gd2 : (Int.gcd p1 p2 : Int) ∣ p2 := Int.gcd_dvd_right ..
  obtain ⟨x, y, hxy⟩ := bezout (a := p1) (b := p2) h1
  obtain ⟨x1, y1, h13⟩ := bezout (a := p1) (b := p3) h1
  obtain ⟨x2, y2, h23⟩ := bezout (a := p2) (b := p3) h2
  obtain ⟨k1, e1⟩ := d1
  obtain ⟨k2, e2⟩ := d2
  obtain ⟨B, hB⟩ := gd2
  obtain ⟨A, hA⟩ : (Int.gcd p1 p2 : Int) ∣ p1 := Int.gcd_dvd_left ..
  obtain ⟨u, hu⟩ : (Int.gcd (p1 * (p2 / (Int.gcd p1 p2 : Int))) p3 : Int) ∣ p1 * (p2 / (Int.gcd p1 p2 : Int)) := Int.gcd_dvd_left ..
  obtain ⟨w, hw⟩ : (Int.gcd (p1 * (p2 / (Int.gcd p1 p2 : Int))) p3 : Int) ∣ p3 := Int.gcd_dvd_right ..
  generalize (Int.gcd (p1 * (p2 / (Int.gcd p1 p2 : Int))) p3 : Int) = g at *
  have eB : p2 / (Int.gcd p1 p2 : Int) = B := by
    conv => lhs; lhs; rw [hB]
    exact Int.mul_ediv_cancel_left _ (by omega)
  rw [eB] at hu
  generalize (Int.gcd p1 p2 : Int) = d at *
  rw [h13] at e1
  rw [h23] at e2
  -- 1 = A x + B y
  have one : A * x + B * y = 1 := by
    have : d * (A * x + B * y) = d * 1 := by grind
    exact Int.eq_of_mul_eq_mul_left (by omega) this
  -- z = z (A x + B y); A z by the second, B z by the first
  have ez : z = A * x * z + B * y * z := by grind
  have t1 : B * z = (p1 * B) * (x1 * k1) + p3 * (y1 * k1 * B) := by grind
  have t2 : A * z = (p1 * B) * (x2 * k2) + p3 * (y2 * k2 * A) := by grind
  exact ⟨u * (x1 * k1) * y + w * (y1 * k1 * B) * y + u * (x2 * k2) * x + w * (y2 * k2 * A) * x, by grind⟩
/-- where a lamp shines, or none -/
abbrev OLp := Option (Int × Int)
def Shn : OLp → Int → Prop
  | none, _ => False
  | some l, t => l.1 ∣ t - l.2
def OkL (o : OLp) : Prop := ∀ l, o = some l → 0 < l.1 ∧ 0 ≤ l.2 ∧ l.2 < l.1
theorem shn_inj {o o' : OLp} (h : OkL o) (h' : OkL o') (e : ∀ t, Shn o t ↔ Shn o' t) : o = o' := by
  cases o with
  | none =>
    cases o' with
    | none => rfl
    | some l' => exact ((e l'.2).mpr (by show l'.1 ∣ l'.2 - l'.2; rw [Int.sub_self]; exact Int.dvd_zero _)).elim
  | some l =>
    cases o' with
    | none => exact ((e l.2).mp (by show l.1 ∣ l.2 - l.2; rw [Int.sub_self]; exact Int.dvd_zero _)).elim
    | some l' =>
      obtain ⟨p, b⟩ := l
      obtain ⟨p', b'⟩ := l'
      obtain ⟨p0, b0, bp⟩ := h _ rfl
      obtain ⟨p0', b0', bp'⟩ := h' _ rfl
      dsimp only at *
      have e1 : p ∣ b' - b := (e b').mpr (by show p' ∣ b' - b'; rw [Int.sub_self]; exact Int.dvd_zero _)
      have e2 : p ∣ b' + p' - b := (e (b' + p')).mpr (by show p' ∣ b' + p' - b'; exact ⟨1, by omega⟩)
      have e3 : p' ∣ b + p - b' := (e (b + p)).mp (by show p ∣ b + p - b; exact ⟨1, by omega⟩)
      have e4 : p' ∣ b - b' := (e b).mp (by show p ∣ b - b; rw [Int.sub_self]; exact Int.dvd_zero _)
      have d1 : p ∣ p' := by
        have := Int.dvd_sub e2 e1
        rwa [show b' + p' - b - (b' - b) = p' by omega] at this
      have d2 : p' ∣ p := by
        have := Int.dvd_sub e3 e4
        rwa [show b + p - b' - (b - b') = p by omega] at this
      have pe : p = p' := Int.le_antisymm (Int.le_of_dvd p0' d1) (Int.le_of_dvd p0 d2)
      have := dvd_small (by omega) (by omega) e1
      have be : b = b' := by omega
      rw [pe, be]
/-- the lamp of both -/
def MeetO (x y o : OLp) : Prop := OkL o ∧ ∀ t, Shn o t ↔ Shn x t ∧ Shn y t
/-- what is seen of x at the own beats of l -/
def SeesO (l : Int × Int) (x o : OLp) : Prop := OkL o ∧ ∀ t, Shn o t ↔ Shn x (l.2 + t * l.1)
theorem MeetO.uniq {x y x' y' o o' : OLp} (h : MeetO x y o) (h' : MeetO x' y' o') (e : ∀ t, (Shn x t ∧ Shn y t) ↔ (Shn x' t ∧ Shn y' t)) : o = o' :=
  shn_inj h.1 h'.1 fun t => (h.2 t).trans ((e t).trans (h'.2 t).symm)
theorem MeetO.hit {x y o : OLp} (h : MeetO x y o) : o ≠ none ↔ ∃ t, Shn x t ∧ Shn y t := by
  constructor
  · intro hn
    cases e : o with
    | none => exact (hn e).elim
    | some l => exact ⟨l.2, (h.2 l.2).mp (by rw [e]; show l.1 ∣ l.2 - l.2; rw [Int.sub_self]; exact Int.dvd_zero _)⟩
  · rintro ⟨t, ht⟩ e
    have := (h.2 t).mpr ht
    rw [e] at this
    exact this

/-! ### the next beat of all -/
def AllS (ls : List (Int × Int)) (t : Int) : Prop := ∀ l ∈ ls, Shn (some l) t
def IsDue (ls : List (Int × Int)) (spot : Int) : Option Int → Prop
  | none => ∀ t, ¬ AllS ls t
  | some d => spot ≤ d ∧ AllS ls d ∧ ∀ t, spot ≤ t → AllS ls t → d ≤ t
theorem IsDue.uniq {ls : List (Int × Int)} {spot : Int} {d d' : Option Int} (h : IsDue ls spot d) (h' : IsDue ls spot d') : d = d' := by
  cases d with
  | none =>
    cases d' with
    | none => rfl
    | some e => exact (h e h'.2.1).elim
  | some e =>
    cases d' with
    | none => exact (h' e h.2.1).elim
    | some e' =>
      have h1 := h.2.2 e' h'.1 h'.2.1
      have h2 := h'.2.2 e h.1 h.2.1
      have : e = e' := by omega
      rw [this]
/-- the first beat of a lamp from t on -/
def nxt (l : Int × Int) (t : Int) : Int := t + (l.2 - t) % l.1
theorem nxt_ge {l : Int × Int} (h : 0 < l.1) (t : Int) : t ≤ nxt l t := by
  have := Int.emod_nonneg (l.2 - t) (show l.1 ≠ 0 by omega)
  unfold nxt
  omega
theorem nxt_lt {l : Int × Int} (h : 0 < l.1) (t : Int) : nxt l t < t + l.1 := by
  have := Int.emod_lt_of_pos (l.2 - t) h
  unfold nxt
  omega
theorem nxt_shn {l : Int × Int} (t : Int) : Shn (some l) (nxt l t) := by
  show l.1 ∣ nxt l t - l.2
  have := Int.emod_add_mul_ediv (l.2 - t) l.1
  refine ⟨-((l.2 - t) / l.1), ?_⟩
  unfold nxt
  rw [Int.mul_neg]
  omega
theorem nxt_le {l : Int × Int} (h : 0 < l.1) {t x : Int} (hx : t ≤ x) (hs : Shn (some l) x) : nxt l t ≤ x := by
  have h1 : l.1 ∣ x - l.2 := hs
  have h2 : l.1 ∣ nxt l t - l.2 := nxt_shn t
  have h3 := Int.dvd_sub h1 h2
  rw [show x - l.2 - (nxt l t - l.2) = x - nxt l t by omega] at h3
  have h4 := nxt_lt h t
  obtain ⟨k, hk⟩ := h3
  by_cases hz : k < 0
  · have : l.1 * k ≤ l.1 * (-1) := Int.mul_le_mul_of_nonneg_left (by omega) (by omega)
    omega
  · have : 0 ≤ l.1 * k := Int.mul_nonneg (by omega) (by omega)
    omega
theorem due_of {ls : List (Int × Int)} {u : Int × Int} (h : 0 < u.1) (hs : ∀ t, Shn (some u) t ↔ AllS ls t) (spot : Int) : IsDue ls spot (some (nxt u spot)) :=
  ⟨nxt_ge h spot, (hs _).mp (nxt_shn spot), fun _ ht ha => nxt_le h ht ((hs _).mpr ha)⟩
/-- through the own beats of the first -/
theorem due_first {ls : List (Int × Int)} {l0 u : Int × Int} (h0 : 0 < l0.1) (hu : 0 < u.1) (hm : l0 ∈ ls) (hs : ∀ t, Shn (some u) t ↔ AllS ls (l0.2 + t * l0.1)) (spot : Int) :
    IsDue ls spot (some (l0.2 + nxt u ((spot - l0.2 + l0.1 - 1) / l0.1) * l0.1)) := by
  generalize ho : (spot - l0.2 + l0.1 - 1) / l0.1 = o
  have e1 := Int.emod_add_mul_ediv (spot - l0.2 + l0.1 - 1) l0.1
  have e2 := Int.emod_lt_of_pos (spot - l0.2 + l0.1 - 1) h0
  have e3 := Int.emod_nonneg (spot - l0.2 + l0.1 - 1) (show l0.1 ≠ 0 by omega)
  rw [ho] at e1
  have g := nxt_ge hu o
  refine ⟨?_, (hs _).mp (nxt_shn o), fun t ht ha => ?_⟩
  · have : l0.1 * o ≤ l0.1 * nxt u o := Int.mul_le_mul_of_nonneg_left g (by omega)
    rw [Int.mul_comm (nxt u o)]
    omega
  · obtain ⟨k, hk⟩ : l0.1 ∣ t - l0.2 := ha l0 hm
    have et : t = l0.2 + k * l0.1 := by rw [Int.mul_comm]; omega
    have hko : o ≤ k := by
      by_cases hh : o ≤ k
      · exact hh
      · have : l0.1 * k ≤ l0.1 * (o - 1) := Int.mul_le_mul_of_nonneg_left (by omega) (by omega)
        rw [Int.mul_sub, Int.mul_one] at this
        omega
    have hk2 : Shn (some u) k := (hs k).mpr (by rw [← et]; exact ha)
    have := nxt_le hu hko hk2
    have : l0.1 * nxt u o ≤ l0.1 * k := Int.mul_le_mul_of_nonneg_left this (by omega)
    rw [et, Int.mul_comm (nxt u o), Int.mul_comm k]
    omega
theorem due_no {ls : List (Int × Int)} {l0 : Int × Int} (hm : l0 ∈ ls) (hs : ∀ t, ¬ AllS ls (l0.2 + t * l0.1)) (spot : Int) : IsDue ls spot none := by
  intro t ha
  obtain ⟨k, hk⟩ : l0.1 ∣ t - l0.2 := ha l0 hm
  exact hs k (by rw [show l0.2 + k * l0.1 = t by rw [Int.mul_comm]; omega]; exact ha)
/-- in turns -/
theorem turn_end {ls : List (Int × Int)} {spot sp : Int} (h : spot ≤ sp) (hl : ∀ t, spot ≤ t → AllS ls t → sp ≤ t) (ha : AllS ls sp) : IsDue ls spot (some sp) := ⟨h, ha, hl⟩
theorem turn_none {ls : List (Int × Int)} {spot sp : Int} (h : spot + 400 ≤ sp) (hl : ∀ t, spot ≤ t → AllS ls t → sp ≤ t) (h360 : ∀ l ∈ ls, l.1 ∣ 360) : IsDue ls spot none := by
  intro t ha
  have e1 := Int.emod_add_mul_ediv (t - spot) 360
  have e2 := Int.emod_lt_of_pos (t - spot) (show (0 : Int) < 360 by decide)
  have e3 := Int.emod_nonneg (t - spot) (show (360 : Int) ≠ 0 by decide)
  have := hl (spot + (t - spot) % 360) (by omega) (fun l hm => by
    have h1 : l.1 ∣ t - l.2 := ha l hm
    have h2 : l.1 ∣ 360 * ((t - spot) / 360) := Int.dvd_trans (h360 l hm) (Int.dvd_mul_right _ _)
    show l.1 ∣ spot + (t - spot) % 360 - l.2
    have := Int.dvd_sub h1 h2
    rwa [show t - l.2 - 360 * ((t - spot) / 360) = spot + (t - spot) % 360 - l.2 by omega] at this)
  omega
theorem turn_step {ls : List (Int × Int)} {spot sp m : Int} (hp : ∀ l ∈ ls, 0 < l.1) (hl : ∀ t, spot ≤ t → AllS ls t → sp ≤ t) (hm : ∃ l ∈ ls, m = nxt l sp) : ∀ t, spot ≤ t → AllS ls t → m ≤ t := by
  obtain ⟨l, hl', rfl⟩ := hm
  exact fun t ht ha => nxt_le (hp l hl') (hl t ht ha) (ha l hl')
theorem turn_all {ls : List (Int × Int)} {sp : Int} (hp : ∀ l ∈ ls, 0 < l.1) (h : ∀ l ∈ ls, nxt l sp ≤ sp) : AllS ls sp := by
  intro l hl
  have e : nxt l sp = sp := Int.le_antisymm (h l hl) (nxt_ge (hp l hl) sp)
  have := nxt_shn (l := l) sp
  rwa [e] at this
theorem nxt_next {l : Int × Int} (h : 0 < l.1) {d : Int} (hs : Shn (some l) d) : nxt l (d + 1) - d = l.1 := by
  have h1 := nxt_le (l := l) h (t := d + 1) (x := d + l.1) (by omega) (by
    have h2 : l.1 ∣ d - l.2 := hs
    show l.1 ∣ d + l.1 - l.2
    have := Int.dvd_add h2 (Int.dvd_refl l.1)
    rwa [show d - l.2 + l.1 = d + l.1 - l.2 by omega] at this)
  have h3 := nxt_ge (l := l) h (d + 1)
  have h4 : l.1 ∣ nxt l (d + 1) - l.2 := nxt_shn (d + 1)
  have h5 : l.1 ∣ d - l.2 := hs
  have h6 := Int.dvd_sub h4 h5
  rw [show nxt l (d + 1) - l.2 - (d - l.2) = nxt l (d + 1) - d by omega] at h6
  have := Int.le_of_dvd (by omega) h6
  omega
theorem ediv_abs {x p : Int} (h : 0 < p) : (x / p).natAbs ≤ x.natAbs := by
  by_cases hx : 0 ≤ x
  · have h1 := Int.ediv_nonneg hx (show 0 ≤ p by omega)
    have h2 := Int.ediv_le_self p hx
    omega
  · have h1 : x ≤ x / p := (Int.le_ediv_iff_mul_le h).mpr (by
      have : (-x) * 1 ≤ (-x) * p := Int.mul_le_mul_of_nonneg_left (by omega) (by omega)
      rw [Int.neg_mul, Int.neg_mul] at this
      omega)
    have h2 : x / p < 0 := Int.ediv_neg_of_neg_of_pos (by omega) h
    omega

/-! ### a light of k lamps that is bright at 2 ^ k beats in a row is bright for ever
Sequences of functions of coordinates, one coordinate a lamp; a sequence that is killed by D steps and is nought D times in a row is nought. -/
abbrev Crd := Nat → Int
abbrev Sq := Int → Crd → Int
def subC (r s : Crd) : Crd := fun k => r k - s k
def stepS (s : Crd) (f : Sq) : Sq := fun n r => f (n + 1) r - f n (subC r s)
def Kills : List Crd → Sq → Prop
  | [], f => ∀ n r, f n r = 0
  | s :: ss, f => Kills ss (stepS s f)
theorem kills_zero : ∀ (ss : List Crd) (f : Sq), (∀ n r, f n r = 0) → Kills ss f
  | [], _, h => h
  | s :: ss, f, h => kills_zero ss _ fun n r => by unfold stepS; rw [h, h]; rfl
theorem vanish : ∀ (ss : List Crd) (f : Sq) (n0 : Int), Kills ss f → (∀ i : Nat, i < ss.length → ∀ r, f (n0 + i) r = 0) → ∀ n r, f n r = 0
  | [], _, _, h, _ => h
  | s :: ss, f, n0, h, hz => by
    have g0 : ∀ n r, stepS s f n r = 0 := vanish ss (stepS s f) n0 h fun i hi r => by
      unfold stepS
      have h1 := hz (i + 1) (by simp; omega) r
      have h2 := hz i (by simp; omega) (subC r s)
      rw [show n0 + (i : Int) + 1 = n0 + ((i + 1 : Nat) : Int) by omega, h1, h2]
      rfl
    have e : ∀ n r, f (n + 1) r = f n (subC r s) := fun n r => by
      have := g0 n r
      unfold stepS at this
      omega
    have z0 : ∀ r, f n0 r = 0 := fun r => by
      have := hz 0 (by simp) r
      rwa [show n0 + ((0 : Nat) : Int) = n0 by omega] at this
    have up : ∀ (j : Nat) r, f (n0 + j) r = 0 := by
      intro j
      induction j with
      | zero => intro r; rw [show n0 + ((0 : Nat) : Int) = n0 by omega]; exact z0 r
      | succ j ih => intro r; rw [show n0 + ((j + 1 : Nat) : Int) = n0 + (j : Int) + 1 by omega, e]; exact ih _
    have down : ∀ (j : Nat) r, f (n0 - j) r = 0 := by
      intro j
      induction j with
      | zero => intro r; rw [show n0 - ((0 : Nat) : Int) = n0 by omega]; exact z0 r
      | succ j ih =>
        intro r
        have h1 := ih (fun k => r k + s k)
        rw [show n0 - (j : Int) = n0 - ((j + 1 : Nat) : Int) + 1 by omega, e] at h1
        have h2 : subC (fun k => r k + s k) s = r := by
          funext k
          unfold subC
          dsimp only
          omega
        rwa [h2] at h1
    intro n r
    by_cases hn : n0 ≤ n
    · have := up (n - n0).toNat r
      rwa [show n0 + (((n - n0).toNat : Nat) : Int) = n by omega] at this
    · have := down (n0 - n).toNat r
      rwa [show n0 - (((n0 - n).toNat : Nat) : Int) = n by omega] at this
theorem step_comm (s t : Crd) (f : Sq) : stepS s (stepS t f) = stepS t (stepS s f) := by
  funext n r
  unfold stepS
  have : subC (subC r s) t = subC (subC r t) s := by
    funext k
    unfold subC
    omega
  rw [this]
  omega
theorem kills_step : ∀ (ss : List Crd) (s : Crd) (f : Sq), Kills ss f → Kills ss (stepS s f)
  | [], s, f, h => fun n r => by unfold stepS; rw [h, h]; rfl
  | t :: ss, s, f, h => by
    show Kills ss (stepS t (stepS s f))
    rw [← step_comm]
    exact kills_step ss s _ h
theorem kills_right : ∀ (ss tt : List Crd) (f : Sq), Kills tt f → Kills (ss ++ tt) f
  | [], _, _, h => h
  | s :: ss, tt, f, h => kills_right ss tt _ (kills_step tt s f h)
theorem kills_left : ∀ (ss tt : List Crd) (f : Sq), Kills ss f → Kills (ss ++ tt) f
  | [], tt, f, h => kills_zero tt f h
  | s :: ss, tt, f, h => kills_left ss tt _ h
theorem kills_sub : ∀ (ss : List Crd) (f g : Sq), Kills ss f → Kills ss g → Kills ss (fun n r => f n r - g n r)
  | [], f, g, hf, hg => fun n r => by
    show f n r - g n r = 0
    rw [hf, hg]
    rfl
  | s :: ss, f, g, hf, hg => by
    have := kills_sub ss (stepS s f) (stepS s g) hf hg
    show Kills ss (stepS s _)
    have e : stepS s (fun n r => f n r - g n r) = fun n r => stepS s f n r - stepS s g n r := by
      funext n r
      unfold stepS
      dsimp only
      omega
    rw [e]
    exact this
theorem kills_still (k : Nat) : ∀ (ss : List Crd) (f : Sq) (c : Int → Int), (∀ s ∈ ss, s k = 0) → Kills ss f → Kills ss (fun n r => f n r * c (r k))
  | [], f, c, _, h => fun n r => by
    show f n r * c (r k) = 0
    rw [h, Int.zero_mul]
  | s :: ss, f, c, hs, h => by
    have := kills_still k ss (stepS s f) c (fun t ht => hs t (.tail _ ht)) h
    show Kills ss (stepS s _)
    have e : stepS s (fun n r => f n r * c (r k)) = fun n r => stepS s f n r * c (r k) := by
      funext n r
      unfold stepS
      dsimp only
      have : subC r s k = r k := by
        unfold subC
        rw [hs s (.head _)]
        omega
      rw [this, Int.sub_mul]
    rw [e]
    exact this
/-- the coordinate k set to 1 -/
def atOne (k : Nat) (s : Crd) : Crd := fun j => if j = k then 1 else s j
/-- f does not look at the coordinate k -/
def Blind (k : Nat) (f : Sq) : Prop := ∀ n r r', (∀ j, j ≠ k → r j = r' j) → f n r = f n r'
theorem blind_step {k : Nat} {s : Crd} {f : Sq} (h : Blind k f) : Blind k (stepS s f) := fun n r r' e => by
  unfold stepS
  rw [h (n + 1) r r' e, h n (subC r s) (subC r' s) fun j hj => by unfold subC; rw [e j hj]]
theorem kills_moves (k : Nat) : ∀ (ss : List Crd) (f : Sq) (c : Int → Int), (∀ s ∈ ss, s k = 0) → Blind k f → Kills ss f → Kills (ss.map (atOne k)) (fun n r => f n r * c (r k - n))
  | [], f, c, _, _, h => fun n r => by
    show f n r * c (r k - n) = 0
    rw [h, Int.zero_mul]
  | s :: ss, f, c, hs, hb, h => by
    have := kills_moves k ss (stepS s f) (fun x => c (x - 1)) (fun t ht => hs t (.tail _ ht)) (blind_step hb) h
    show Kills (ss.map (atOne k)) (stepS (atOne k s) _)
    have e : stepS (atOne k s) (fun n r => f n r * c (r k - n)) = fun n r => stepS s f n r * c (r k - n - 1) := by
      funext n r
      unfold stepS
      dsimp only
      have e1 : subC r (atOne k s) k = r k - 1 := by
        unfold subC atOne
        rw [if_pos rfl]
      have e2 : f n (subC r (atOne k s)) = f n (subC r s) := hb _ _ _ fun j hj => by
        unfold subC atOne
        rw [if_neg hj]
      rw [e1, e2, Int.sub_mul, show r k - (n + 1) = r k - n - 1 by omega, show r k - 1 - n = r k - n - 1 by omega]
    rw [e]
    exact this
def dlt (m x : Int) : Int := if m ∣ x then 1 else 0
def prodS : List (Int × Int) → Sq
  | [] => fun _ _ => 1
  | l :: ls => fun n r => prodS ls n r * dlt l.1 (r ls.length) - prodS ls n r * dlt l.1 (r ls.length - n + l.2)
def shiftsS : List (Int × Int) → List Crd
  | [] => [fun _ => 0]
  | _ :: ls => shiftsS ls ++ (shiftsS ls).map (atOne ls.length)
theorem shifts_len : ∀ ls : List (Int × Int), (shiftsS ls).length = 2 ^ ls.length
  | [] => rfl
  | _ :: ls => by
    show (shiftsS ls ++ (shiftsS ls).map (atOne ls.length)).length = 2 ^ (ls.length + 1)
    rw [List.length_append, List.length_map, shifts_len ls, Nat.pow_succ]
    omega
theorem shifts_far : ∀ (ls : List (Int × Int)) (k : Nat), ls.length ≤ k → ∀ s ∈ shiftsS ls, s k = 0
  | [], k, _, s, hs => by
    have : s = fun _ => 0 := by simpa [shiftsS] using hs
    rw [this]
  | _ :: ls, k, hk, s, hs => by
    have hk' : ls.length + 1 ≤ k := hk
    rcases List.mem_append.mp (show s ∈ shiftsS ls ++ (shiftsS ls).map (atOne ls.length) from hs) with h | h
    · exact shifts_far ls k (by omega) s h
    · obtain ⟨t, ht, rfl⟩ := List.mem_map.mp h
      unfold atOne
      rw [if_neg (by omega)]
      exact shifts_far ls k (by omega) t ht
theorem prod_blind : ∀ (ls : List (Int × Int)) (k : Nat), ls.length ≤ k → Blind k (prodS ls)
  | [], _, _ => fun _ _ _ _ => rfl
  | l :: ls, k, hk => fun n r r' e => by
    have hk' : ls.length + 1 ≤ k := hk
    show prodS ls n r * dlt l.1 (r ls.length) - prodS ls n r * dlt l.1 (r ls.length - n + l.2) = prodS ls n r' * dlt l.1 (r' ls.length) - prodS ls n r' * dlt l.1 (r' ls.length - n + l.2)
    rw [prod_blind ls k (by omega) n r r' e, e ls.length (by omega)]
theorem prod_killed : ∀ ls : List (Int × Int), Kills (shiftsS ls) (prodS ls)
  | [] => fun n r => by
    show (1 : Int) - 1 = 0
    rfl
  | l :: ls => by
    have ih := prod_killed ls
    have h0 := shifts_far ls ls.length (Nat.le_refl _)
    have h1 := kills_still ls.length (shiftsS ls) (prodS ls) (fun x => dlt l.1 x) h0 ih
    have h2 := kills_moves ls.length (shiftsS ls) (prodS ls) (fun x => dlt l.1 (x + l.2)) h0 (prod_blind ls _ (Nat.le_refl _)) ih
    exact kills_sub _ _ _ (kills_left _ _ _ h1) (kills_right _ _ _ h2)
theorem prod_bright : ∀ (ls : List (Int × Int)) (n : Int), (∃ l ∈ ls, l.1 ∣ n - l.2) → ∀ r, prodS ls n r = 0
  | [], _, ⟨_, h, _⟩ => nomatch h
  | l :: ls, n, ⟨l', hl, hd⟩ => fun r => by
    show prodS ls n r * dlt l.1 (r ls.length) - prodS ls n r * dlt l.1 (r ls.length - n + l.2) = 0
    rcases List.mem_cons.mp hl with rfl | hl
    · have : dlt l'.1 (r ls.length) = dlt l'.1 (r ls.length - n + l'.2) := by
        have iff : l'.1 ∣ r ls.length ↔ l'.1 ∣ r ls.length - n + l'.2 := by
          constructor
          · intro h
            rw [show r ls.length - n + l'.2 = r ls.length - (n - l'.2) by omega]
            exact Int.dvd_sub h hd
          · intro h
            have := Int.dvd_add h hd
            rwa [show r ls.length - n + l'.2 + (n - l'.2) = r ls.length by omega] at this
        unfold dlt
        by_cases h : l'.1 ∣ r ls.length
        · rw [if_pos h, if_pos (iff.mp h)]
        · rw [if_neg h, if_neg (fun z => h (iff.mpr z))]
      rw [this, Int.sub_self]
    · rw [prod_bright ls n ⟨l', hl, hd⟩ r, Int.zero_mul, Int.zero_mul]
      rfl
theorem prod_dark : ∀ (ls : List (Int × Int)) (n : Int), (∀ l ∈ ls, ¬ l.1 ∣ n - l.2) → prodS ls n (fun _ => 0) = 1
  | [], _, _ => rfl
  | l :: ls, n, h => by
    show prodS ls n (fun _ => 0) * dlt l.1 0 - prodS ls n (fun _ => 0) * dlt l.1 (0 - n + l.2) = 1
    have h1 : dlt l.1 0 = 1 := if_pos (Int.dvd_zero _)
    have h2 : dlt l.1 (0 - n + l.2) = 0 := if_neg fun z => h l (.head _) (by
      rw [show n - l.2 = -(0 - n + l.2) by omega]
      exact Int.dvd_neg.mpr z)
    rw [prod_dark ls n fun l hl => h l (.tail _ hl), h1, h2]
    rfl
/-- bright at as many beats in a row as 2 by itself for each lamp: bright for ever -/
theorem wait_all (ls : List (Int × Int)) (n0 : Int) (h : ∀ i : Nat, i < 2 ^ ls.length → ∃ l ∈ ls, l.1 ∣ n0 + i - l.2) (n : Int) : ∃ l ∈ ls, l.1 ∣ n - l.2 := by
  have hz := vanish (shiftsS ls) (prodS ls) n0 (prod_killed ls) (fun i hi r => prod_bright ls _ (h i (by rw [← shifts_len]; exact hi)) r)
  by_cases e : ∃ l ∈ ls, l.1 ∣ n - l.2
  · exact e
  · have h1 := prod_dark ls n fun l hl hd => e ⟨l, hl, hd⟩
    rw [hz] at h1
    cases h1

/-! ### lights: which lamps shine at a beat -/
def shB (l : Int × Int) (t : Int) : Bool := decide (l.1 ∣ t - l.2)
theorem shB_iff {l : Int × Int} {t : Int} : shB l t = true ↔ l.1 ∣ t - l.2 := decide_eq_true_iff
/-- numbered lamps: the numbers of those that shine -/
def rowOf (ns : List (Int × Int × Int)) (t : Int) : List Int := (ns.filter fun x => shB x.2 t).map Prod.fst
/-- lamps numbered from i on -/
def numF (i : Int) : List (Int × Int) → List (Int × Int × Int)
  | [] => []
  | l :: ls => (i, l) :: numF (i + 1) ls
theorem numF_len : ∀ (ls : List (Int × Int)) (i : Int), (numF i ls).length = ls.length
  | [], _ => rfl
  | _ :: ls, i => congrArg (· + 1) (numF_len ls (i + 1))
theorem numF_get : ∀ (ls : List (Int × Int)) (i : Int) (j : Nat), (numF i ls)[j]? = ls[j]?.map fun l => (i + j, l)
  | [], _, _ => by simp [numF]
  | l :: ls, i, 0 => by simp [numF]
  | l :: ls, i, j + 1 => by
    show (numF (i + 1) ls)[j]? = ls[j]?.map _
    rw [numF_get ls (i + 1) j, show i + 1 + (j : Int) = i + ((j + 1 : Nat) : Int) by omega]
theorem numF_mem {ls : List (Int × Int)} {i : Int} {x : Int × Int × Int} : x ∈ numF i ls ↔ ∃ j : Nat, x.1 = i + j ∧ ls[j]? = some x.2 := by
  constructor
  · intro h
    obtain ⟨j, hj⟩ := List.mem_iff_getElem?.mp h
    rw [numF_get] at hj
    cases e : ls[j]? with
    | none => rw [e] at hj; cases hj
    | some l =>
      rw [e] at hj
      cases hj
      exact ⟨j, rfl, e⟩
  · rintro ⟨j, e1, e2⟩
    refine List.mem_iff_getElem?.mpr ⟨j, ?_⟩
    rw [numF_get, e2]
    show some (i + (j : Int), x.2) = some x
    rw [← e1]
theorem rowOf_take {ns : List (Int × Int × Int)} {i : Nat} {x : Int × Int × Int} (h : ns[i]? = some x) (t : Int) : rowOf (ns.take (i + 1)) t = rowOf (ns.take i) t ++ if shB x.2 t then [x.1] else [] := by
  unfold rowOf
  rw [List.take_succ, h, List.filter_append, List.map_append]
  congr 1
  cases e : shB x.2 t <;> simp [e]
theorem rowOf_nil_iff {ns : List (Int × Int × Int)} {t : Int} : rowOf ns t = [] ↔ ∀ x ∈ ns, ¬ x.2.1 ∣ t - x.2.2 := by
  unfold rowOf
  rw [List.map_eq_nil_iff, List.filter_eq_nil_iff]
  exact ⟨fun h x hx hd => h x hx (shB_iff.mpr hd), fun h x hx hs => h x hx (shB_iff.mp hs)⟩
theorem rowOf_mem {ns : List (Int × Int × Int)} {t z : Int} : z ∈ rowOf ns t ↔ ∃ x ∈ ns, x.1 = z ∧ x.2.1 ∣ t - x.2.2 := by
  unfold rowOf
  rw [List.mem_map]
  constructor
  · rintro ⟨x, hx, e⟩
    obtain ⟨h1, h2⟩ := List.mem_filter.mp hx
    exact ⟨x, h1, e, shB_iff.mp h2⟩
  · rintro ⟨x, hx, e, hd⟩
    exact ⟨x, List.mem_filter.mpr ⟨hx, shB_iff.mpr hd⟩, e⟩
theorem rowOf_len (ns : List (Int × Int × Int)) (t : Int) : (rowOf ns t).length ≤ ns.length := by
  unfold rowOf
  rw [List.length_map]
  exact List.length_filter_le ..
/-- a light is bright -/
def Bright (ls : List (Int × Int)) (t : Int) : Prop := ∃ l ∈ ls, l.1 ∣ t - l.2
instance (ls : List (Int × Int)) (t : Int) : Decidable (Bright ls t) := inferInstanceAs (Decidable (∃ l ∈ ls, l.1 ∣ t - l.2))
/-- the row of a light -/
def lrow (ls : List (Int × Int)) (t : Int) : List Int := rowOf (numF 0 ls) t
theorem lrow_nil {ls : List (Int × Int)} {t : Int} : lrow ls t = [] ↔ ¬ Bright ls t := by
  unfold lrow
  rw [rowOf_nil_iff]
  constructor
  · rintro h ⟨l, hl, hd⟩
    obtain ⟨j, hj⟩ := List.mem_iff_getElem?.mp hl
    exact h (0 + j, l) (numF_mem.mpr ⟨j, rfl, hj⟩) hd
  · intro h x hx hd
    obtain ⟨j, _, e⟩ := numF_mem.mp hx
    exact h ⟨x.2, List.mem_of_getElem? e, hd⟩
theorem lrow_mem {ls : List (Int × Int)} {t z : Int} : z ∈ lrow ls t ↔ ∃ j : Nat, z = j ∧ ∃ l, ls[j]? = some l ∧ l.1 ∣ t - l.2 := by
  unfold lrow
  rw [rowOf_mem]
  constructor
  · rintro ⟨x, hx, e, hd⟩
    obtain ⟨j, e1, e2⟩ := numF_mem.mp hx
    exact ⟨j, by omega, x.2, e2, hd⟩
  · rintro ⟨j, e, l, hl, hd⟩
    exact ⟨(0 + j, l), numF_mem.mpr ⟨j, rfl, hl⟩, by omega, hd⟩
theorem lrow_len (ls : List (Int × Int)) (t : Int) : (lrow ls t).length ≤ ls.length := by
  have := rowOf_len (numF 0 ls) t
  rw [numF_len] at this
  exact this
/-! ### going by periods from the first shine on -/
/-- of the places lo, lo + c, .. the first m have been gone to -/
def hitB (lo c : Int) (m : Nat) (j : Int) : Bool := decide (lo ≤ j ∧ j < lo + m * c ∧ c ∣ j - lo)
theorem hit_zero (lo c j : Int) : hitB lo c 0 j = false := decide_eq_false fun h => by
  have := h.2.1
  simp at this
  omega
theorem hit_at {lo c : Int} (hc : 0 < c) (m : Nat) : hitB lo c m (lo + m * c) = false := decide_eq_false fun h => by omega
theorem hit_new {lo c : Int} (hc : 0 < c) (m : Nat) : hitB lo c (m + 1) (lo + m * c) = true := decide_eq_true (by
  have : 0 ≤ (m : Int) * c := Int.mul_nonneg (by omega) (by omega)
  refine ⟨by omega, ?_, ⟨m, by rw [Int.mul_comm c]; omega⟩⟩
  rw [show ((m + 1 : Nat) : Int) = m + 1 by omega, Int.add_mul]
  omega)
theorem hit_step {lo c : Int} (hc : 0 < c) {m : Nat} {j : Int} (h : j ≠ lo + m * c) : hitB lo c (m + 1) j = hitB lo c m j := by
  unfold hitB
  refine decide_eq_decide.mpr ⟨fun ⟨h1, h2, h3⟩ => ⟨h1, ?_, h3⟩, fun ⟨h1, h2, h3⟩ => ⟨h1, ?_, h3⟩⟩
  · obtain ⟨q, hq⟩ := h3
    rw [show ((m + 1 : Nat) : Int) = m + 1 by omega, Int.add_mul] at h2
    have e : c * q = q * c := Int.mul_comm ..
    have : q ≤ m := by
      by_cases hh : q ≤ m
      · exact hh
      · have h4 : ((m : Int) + 1) * c ≤ q * c := Int.mul_le_mul_of_nonneg_right (by omega) (by omega)
        rw [Int.add_mul] at h4
        omega
    have : q ≠ m := fun z => by
      subst z
      omega
    have h5 : (q + 1) * c ≤ (m : Int) * c := Int.mul_le_mul_of_nonneg_right (by omega) (by omega)
    rw [Int.add_mul] at h5
    omega
  · rw [show ((m + 1 : Nat) : Int) = m + 1 by omega, Int.add_mul]
    omega
theorem hit_all {p b t many j : Int} {n : Nat} (hp : 0 < p) (hn : PySem.Builtin.Range.rangeSize ((b - t) % p) many p = n) (j0 : 0 ≤ j) (j1 : j < many) : hitB ((b - t) % p) p n j = shB (p, b) (t + j) := by
  have l0 := Int.emod_nonneg (b - t) (show p ≠ 0 by omega)
  have l1 := Int.emod_lt_of_pos (b - t) hp
  unfold hitB shB
  have e0 : t + j - b = j - (b - t) % p - p * ((b - t) / p) := by
    have := Int.emod_add_mul_ediv (b - t) p
    omega
  have dv : p ∣ j - (b - t) % p ↔ p ∣ t + j - b := by
    rw [e0]
    constructor
    · intro h
      exact Int.dvd_sub h ⟨_, rfl⟩
    · intro h
      have := Int.dvd_add h (Int.dvd_mul_right p ((b - t) / p))
      rwa [Int.sub_add_cancel] at this
  refine decide_eq_decide.mpr ⟨fun h => dv.mp h.2.2, fun h => ⟨?_, ?_, dv.mpr h⟩⟩
  · by_cases hh : (b - t) % p ≤ j
    · exact hh
    · obtain ⟨q, hq⟩ := dv.mpr h
      have : q < 0 := by
        by_cases z : q < 0
        · exact z
        · have := Int.mul_nonneg (show 0 ≤ p by omega) (show 0 ≤ q by omega)
          omega
      have : p * q ≤ p * (-1) := Int.mul_le_mul_of_nonneg_left (by omega) (by omega)
      omega
  · by_cases hh : j < (b - t) % p
    · have : 0 ≤ (n : Int) * p := Int.mul_nonneg (by omega) (by omega)
      omega
    · unfold PySem.Builtin.Range.rangeSize at hn
      rw [if_pos (by omega), if_pos (by omega)] at hn
      have h1 := Int.emod_add_mul_ediv (many - (b - t) % p - 1) p
      have h2 := Int.emod_lt_of_pos (many - (b - t) % p - 1) hp
      have h3 : (n : Int) * p = p * ((many - (b - t) % p - 1) / p) + p := by
        rw [← hn, Int.add_mul, Int.one_mul, Int.mul_comm]
      omega
theorem hit_lt {lo c many : Int} {n m : Nat} (hc : 0 < c) (hn : PySem.Builtin.Range.rangeSize lo many c = n) (hm : m < n) : lo + m * c < many := by
  unfold PySem.Builtin.Range.rangeSize at hn
  rw [if_pos (by omega)] at hn
  by_cases hh : lo < many
  · rw [if_pos hh] at hn
    have h1 := Int.emod_add_mul_ediv (many - lo - 1) c
    have h2 := Int.emod_nonneg (many - lo - 1) (show c ≠ 0 by omega)
    have h3 : (m : Int) * c ≤ (many - lo - 1) / c * c := Int.mul_le_mul_of_nonneg_right (by omega) (by omega)
    rw [Int.mul_comm ((many - lo - 1) / c)] at h3
    omega
  · rw [if_neg hh] at hn
    omega
theorem range_nat {lo many c : Int} (hc : 0 < c) : ∃ n : Nat, PySem.Builtin.Range.rangeSize lo many c = n := by
  unfold PySem.Builtin.Range.rangeSize
  rw [if_pos (by omega)]
  by_cases hh : lo < many
  · rw [if_pos hh]
    have := Int.ediv_nonneg (show 0 ≤ many - lo - 1 by omega) (show 0 ≤ c by omega)
    exact ⟨((many - lo - 1) / c + 1).toNat, by omega⟩
  · rw [if_neg hh]
    exact ⟨0, rfl⟩
theorem rowOf_numF_take {ls : List (Int × Int)} {i : Nat} {l : Int × Int} (e : ls[i]? = some l) (t : Int) : rowOf ((numF 0 ls).take (i + 1)) t = rowOf ((numF 0 ls).take i) t ++ if shB l t then [(i : Int)] else [] := by
  have h : (numF 0 ls)[i]? = some ((i : Int), l) := by
    rw [numF_get, e]
    show some (0 + (i : Int), l) = _
    rw [Int.zero_add]
  exact rowOf_take h t

/-! ### the next dark beat and the last one -/
def darks (ls : List (Int × Int)) (t : Int) : List Nat := (List.range (2 ^ ls.length)).filter fun j => decide (lrow ls (t + (j : Nat)) = [])
theorem darks_mem {ls : List (Int × Int)} {t : Int} {j : Nat} : j ∈ darks ls t ↔ j < 2 ^ ls.length ∧ ¬ Bright ls (t + j) := by
  unfold darks
  rw [List.mem_filter, List.mem_range, decide_eq_true_iff, lrow_nil]
theorem darks_nil {ls : List (Int × Int)} {t : Int} : darks ls t = [] ↔ ∀ x, Bright ls x := by
  constructor
  · intro h
    refine wait_all ls t fun i hi => ?_
    by_cases hb : Bright ls (t + i)
    · exact hb
    · have := darks_mem.mpr ⟨hi, hb⟩
      rw [h] at this
      cases this
  · intro h
    cases e : darks ls t with
    | nil => rfl
    | cons j r => exact absurd (h _) (darks_mem.mp (by rw [e]; exact .head _ : j ∈ darks ls t)).2
theorem darks_rise (ls : List (Int × Int)) (t : Int) : (darks ls t).Pairwise (· < ·) := List.Pairwise.filter _ List.pairwise_lt_range
def nextD (ls : List (Int × Int)) (t : Int) : Option Int := (darks ls t).head?.map fun j => t + (j : Nat)
def firstL (ls : List (Int × Int)) (t : Int) : Int := t - 2 ^ ls.length + 1
def lastD (ls : List (Int × Int)) (t : Int) : Option Int := (darks ls (firstL ls t)).getLast?.map fun j => firstL ls t + (j : Nat)
def paper (ls : List (Int × Int)) (t : Int) : List Int := (List.range (2 ^ ls.length)).map fun j => (lrow ls (t + (j : Nat))).headD 0
theorem nextD_none {ls : List (Int × Int)} {t : Int} : nextD ls t = none ↔ ∀ x, Bright ls x := by
  unfold nextD
  rw [Option.map_eq_none_iff, List.head?_eq_none_iff, darks_nil]
theorem lastD_none {ls : List (Int × Int)} {t : Int} : lastD ls t = none ↔ ∀ x, Bright ls x := by
  unfold lastD
  rw [Option.map_eq_none_iff, List.getLast?_eq_none_iff, darks_nil]
theorem pairwise_head {R : Nat → Nat → Prop} {l : List Nat} {a b : Nat} (h : l.Pairwise R) (ha : l.head? = some a) (hb : b ∈ l) : a = b ∨ R a b := by
  cases l with
  | nil => cases ha
  | cons x r =>
    cases ha
    rcases List.mem_cons.mp hb with e | e
    · exact .inl e.symm
    · exact .inr ((List.pairwise_cons.mp h).1 b e)
theorem pairwise_last {l : List Nat} {a b : Nat} (h : l.Pairwise (· < ·)) (ha : l.getLast? = some a) (hb : b ∈ l) : b = a ∨ b < a := by
  obtain ⟨r, rfl⟩ : ∃ r, l = r ++ [a] := List.getLast?_eq_some_iff.mp ha
  rcases List.mem_append.mp hb with e | e
  · exact .inr ((List.pairwise_append.mp h).2.2 b e a (.head _))
  · exact .inl (List.mem_singleton.mp e)
theorem nextD_spec {ls : List (Int × Int)} {t d : Int} (h : nextD ls t = some d) : t ≤ d ∧ d < t + 2 ^ ls.length ∧ ¬ Bright ls d ∧ ∀ x, t ≤ x → x < d → Bright ls x := by
  unfold nextD at h
  cases e : (darks ls t).head? with
  | none => rw [e] at h; cases h
  | some j =>
    rw [e] at h
    cases h
    obtain ⟨h1, h2⟩ := darks_mem.mp (List.mem_of_mem_head? e)
    have h1' : (j : Int) < 2 ^ ls.length := by exact_mod_cast h1
    refine ⟨by show t ≤ t + (j : Int); omega, by show t + (j : Int) < _; omega, h2, fun x h3 h4 => ?_⟩
    replace h4 : x < t + (j : Int) := h4
    by_cases hb : Bright ls x
    · exact hb
    · have hx : x = t + ((x - t).toNat : Nat) := by omega
      rw [hx] at hb
      rcases pairwise_head (darks_rise ls t) e (darks_mem.mpr ⟨by omega, hb⟩) with q | q <;> omega
theorem lastD_spec {ls : List (Int × Int)} {t d : Int} (h : lastD ls t = some d) : d ≤ t ∧ t - 2 ^ ls.length < d ∧ ¬ Bright ls d ∧ ∀ x, d < x → x ≤ t → Bright ls x := by
  unfold lastD at h
  cases e : (darks ls (firstL ls t)).getLast? with
  | none => rw [e] at h; cases h
  | some j =>
    rw [e] at h
    cases h
    obtain ⟨h1, h2⟩ := darks_mem.mp (List.mem_of_mem_getLast? e)
    have h1' : (j : Int) < 2 ^ ls.length := by exact_mod_cast h1
    have ef : firstL ls t = t - 2 ^ ls.length + 1 := rfl
    refine ⟨by show firstL ls t + (j : Int) ≤ t; omega, by show _ < firstL ls t + (j : Int); omega, h2, fun x h3 h4 => ?_⟩
    replace h3 : firstL ls t + (j : Int) < x := h3
    by_cases hb : Bright ls x
    · exact hb
    · have hx : x = firstL ls t + ((x - firstL ls t).toNat : Nat) := by omega
      rw [hx] at hb
      have hlt : (x - firstL ls t).toNat < 2 ^ ls.length := by
        have : (((x - firstL ls t).toNat : Nat) : Int) < ((2 ^ ls.length : Nat) : Int) := by
          rw [show ((2 ^ ls.length : Nat) : Int) = 2 ^ ls.length by norm_cast]
          omega
        exact_mod_cast this
      rcases pairwise_last (darks_rise ls _) e (darks_mem.mpr ⟨hlt, hb⟩) with q | q <;> omega
theorem nextD_of {ls : List (Int × Int)} {t d : Int} (h1 : t ≤ d) (h2 : ¬ Bright ls d) (h3 : ∀ x, t ≤ x → x < d → Bright ls x) : nextD ls t = some d := by
  cases e : nextD ls t with
  | none => exact absurd (nextD_none.mp e d) h2
  | some d' =>
    obtain ⟨g1, _, g2, g3⟩ := nextD_spec e
    by_cases hl : d < d'
    · exact absurd (g3 d h1 hl) h2
    · by_cases hg : d' < d
      · exact absurd (h3 d' g1 hg) g2
      · rw [show d' = d by omega]
theorem lastD_of {ls : List (Int × Int)} {t d : Int} (h1 : d ≤ t) (h2 : ¬ Bright ls d) (h3 : ∀ x, d < x → x ≤ t → Bright ls x) : lastD ls t = some d := by
  cases e : lastD ls t with
  | none => exact absurd (lastD_none.mp e d) h2
  | some d' =>
    obtain ⟨g1, _, g2, g3⟩ := lastD_spec e
    by_cases hl : d' < d
    · exact absurd (g3 d hl h1) h2
    · by_cases hg : d < d'
      · exact absurd (h3 d' hg g1) g2
      · rw [show d' = d by omega]
theorem paper_len (ls : List (Int × Int)) (t : Int) : (paper ls t).length = 2 ^ ls.length := by
  unfold paper
  rw [List.length_map, List.length_range]

/-! ### lights of pairs as they are drawn -/
def nrm (l : Int × Int) : Int × Int := (l.1, l.2 % l.1)
theorem dvd_nrm (p b t : Int) : p ∣ t - b % p ↔ p ∣ t - b := by
  have e := Int.emod_add_mul_ediv b p
  have e2 : t - b % p = t - b + p * (b / p) := by omega
  rw [e2]
  constructor
  · intro h
    have := Int.dvd_sub h (Int.dvd_mul_right p (b / p))
    rwa [Int.add_sub_cancel] at this
  · intro h
    exact Int.dvd_add h (Int.dvd_mul_right ..)
theorem shB_nrm (l : Int × Int) (t : Int) : shB (nrm l) t = shB l t := decide_eq_decide.mpr (dvd_nrm l.1 l.2 t)
theorem row_nrm : ∀ (ls : List (Int × Int)) (i t : Int), rowOf (numF i (ls.map nrm)) t = rowOf (numF i ls) t
  | [], _, _ => rfl
  | l :: ls, i, t => by
    have ih := row_nrm ls (i + 1) t
    unfold rowOf at ih ⊢
    show (List.filter _ ((i, nrm l) :: numF (i + 1) (ls.map nrm))).map Prod.fst = (List.filter _ ((i, l) :: numF (i + 1) ls)).map Prod.fst
    rw [List.filter_cons, List.filter_cons]
    show (if shB (nrm l) t then _ else _ : List (Int × Int × Int)).map Prod.fst = (if shB l t then _ else _ : List (Int × Int × Int)).map Prod.fst
    rw [shB_nrm]
    cases shB l t
    · simpa using ih
    · simpa using ih
theorem lrow_nrm (ls : List (Int × Int)) (t : Int) : lrow (ls.map nrm) t = lrow ls t := row_nrm ls 0 t
theorem bright_nrm {ls : List (Int × Int)} {t : Int} : Bright (ls.map nrm) t ↔ Bright ls t := by
  have h := @lrow_nil (ls.map nrm) t
  rw [lrow_nrm, lrow_nil] at h
  constructor
  · intro h1
    by_cases h2 : Bright ls t
    · exact h2
    · exact absurd h1 (h.mp h2)
  · intro h1
    by_cases h2 : Bright (ls.map nrm) t
    · exact h2
    · exact absurd h1 (h.mpr h2)
theorem darks_nrm (ls : List (Int × Int)) (t : Int) : darks (ls.map nrm) t = darks ls t := by
  unfold darks
  rw [List.length_map]
  simp only [lrow_nrm]
theorem nextD_nrm (ls : List (Int × Int)) (t : Int) : nextD (ls.map nrm) t = nextD ls t := by
  unfold nextD
  rw [darks_nrm]
theorem firstL_nrm (ls : List (Int × Int)) (t : Int) : firstL (ls.map nrm) t = firstL ls t := by
  unfold firstL
  rw [List.length_map]
theorem lastD_nrm (ls : List (Int × Int)) (t : Int) : lastD (ls.map nrm) t = lastD ls t := by
  unfold lastD
  rw [firstL_nrm, darks_nrm]
theorem paper_nrm (ls : List (Int × Int)) (t : Int) : paper (ls.map nrm) t = paper ls t := by
  unfold paper
  rw [List.length_map]
  simp only [lrow_nrm]
theorem bright_same {ls ls' : List (Int × Int)} (h : ∀ l, l ∈ ls ↔ l ∈ ls') (t : Int) : Bright ls t ↔ Bright ls' t :=
  ⟨fun ⟨l, a, b⟩ => ⟨l, (h l).mp a, b⟩, fun ⟨l, a, b⟩ => ⟨l, (h l).mpr a, b⟩⟩
/-- the next dark beat of a light whose beats are others' -/
theorem nextD_up {ls ls' : List (Int × Int)} (c : Int) (h : ∀ x, Bright ls' (x + c) ↔ Bright ls x) (t : Int) : nextD ls' (t + c) = (nextD ls t).map (· + c) := by
  cases e : nextD ls t with
  | none =>
    rw [Option.map_none]
    refine nextD_none.mpr fun x => ?_
    have := (h (x - c)).mpr (nextD_none.mp e (x - c))
    rwa [Int.sub_add_cancel] at this
  | some d =>
    obtain ⟨g1, _, g2, g3⟩ := nextD_spec e
    refine nextD_of (by show t + c ≤ d + c; omega) (fun z => g2 ((h d).mp z)) fun x h1 h2 => ?_
    replace h2 : x < d + c := h2
    have := (h (x - c)).mpr (g3 (x - c) (by omega) (by omega))
    rwa [Int.sub_add_cancel] at this
theorem nextD_congr {ls ls' : List (Int × Int)} (h : ∀ x, Bright ls' x ↔ Bright ls x) (t : Int) : nextD ls' t = nextD ls t := by
  have := nextD_up (ls := ls) (ls' := ls') 0 (fun x => by rw [Int.add_zero]; exact h x) t
  rw [Int.add_zero] at this
  rw [this]
  cases nextD ls t <;> simp
theorem nextD_mirror {ls ls' : List (Int × Int)} (h : ∀ x, Bright ls' (0 - x) ↔ Bright ls x) (t : Int) : lastD ls' (0 - t) = (nextD ls t).map (0 - ·) := by
  cases e : nextD ls t with
  | none =>
    refine lastD_none.mpr fun x => ?_
    have := (h (0 - x)).mpr (nextD_none.mp e (0 - x))
    rwa [show 0 - (0 - x) = x by omega] at this
  | some d =>
    obtain ⟨g1, _, g2, g3⟩ := nextD_spec e
    refine lastD_of (by show 0 - d ≤ 0 - t; omega) (fun z => g2 ((h d).mp z)) fun x h1 h2 => ?_
    replace h1 : 0 - d < x := h1
    have := (h (0 - x)).mpr (g3 (0 - x) (by omega) (by omega))
    rwa [show 0 - (0 - x) = x by omega] at this
theorem lastD_mirror {ls ls' : List (Int × Int)} (h : ∀ x, Bright ls' (0 - x) ↔ Bright ls x) (t : Int) : nextD ls' (0 - t) = (lastD ls t).map (0 - ·) := by
  cases e : lastD ls t with
  | none =>
    refine nextD_none.mpr fun x => ?_
    have := (h (0 - x)).mpr (lastD_none.mp e (0 - x))
    rwa [show 0 - (0 - x) = x by omega] at this
  | some d =>
    obtain ⟨g1, _, g2, g3⟩ := lastD_spec e
    refine nextD_of (by show 0 - t ≤ 0 - d; omega) (fun z => g2 ((h d).mp z)) fun x h1 h2 => ?_
    replace h2 : x < 0 - d := h2
    have := (h (0 - x)).mpr (g3 (0 - x) (by omega) (by omega))
    rwa [show 0 - (0 - x) = x by omega] at this
def upL (c : Int) (ls : List (Int × Int)) : List (Int × Int) := ls.map fun l => (l.1, l.2 + c)
theorem bright_up (c : Int) (ls : List (Int × Int)) (x : Int) : Bright (upL c ls) (x + c) ↔ Bright ls x := by
  constructor
  · rintro ⟨l, hl, hd⟩
    obtain ⟨m, hm, rfl⟩ := List.mem_map.mp hl
    exact ⟨m, hm, by rwa [show x + c - (m.2 + c) = x - m.2 by omega] at hd⟩
  · rintro ⟨m, hm, hd⟩
    exact ⟨_, List.mem_map.mpr ⟨m, hm, rfl⟩, by show m.1 ∣ x + c - (m.2 + c); rwa [show x + c - (m.2 + c) = x - m.2 by omega]⟩
def negL (ls : List (Int × Int)) : List (Int × Int) := ls.map fun l => (l.1, 0 - l.2)
theorem bright_neg (ls : List (Int × Int)) (x : Int) : Bright (negL ls) (0 - x) ↔ Bright ls x := by
  constructor
  · rintro ⟨l, hl, hd⟩
    obtain ⟨m, hm, rfl⟩ := List.mem_map.mp hl
    exact ⟨m, hm, by rw [show (0 - x) - (0 - m.2) = -(x - m.2) by omega] at hd; exact Int.dvd_neg.mp hd⟩
  · rintro ⟨m, hm, hd⟩
    exact ⟨_, List.mem_map.mpr ⟨m, hm, rfl⟩, by show m.1 ∣ (0 - x) - (0 - m.2); rw [show (0 - x) - (0 - m.2) = -(x - m.2) by omega]; exact Int.dvd_neg.mpr hd⟩
/-- dark beats one behind another: where the search goes on -/
def goD (ls : List (Int × Int)) (t : Int) : Nat → Int
  | 0 => t
  | i + 1 => (nextD ls (goD ls t i)).getD 0 + 1
/-- the dark beat of number i -/
def dkD (ls : List (Int × Int)) (t : Int) (i : Nat) : Int := goD ls t (i + 1) - 1
theorem dk_next {ls : List (Int × Int)} {t : Int} (h : ∃ x, ¬ Bright ls x) (i : Nat) : nextD ls (goD ls t i) = some (dkD ls t i) := by
  cases e : nextD ls (goD ls t i) with
  | none => obtain ⟨x, hx⟩ := h; exact absurd (nextD_none.mp e x) hx
  | some d =>
    unfold dkD goD
    rw [e]
    show some d = some (d + 1 - 1)
    rw [Int.add_sub_cancel]
theorem goD_congr {ls ls' : List (Int × Int)} (h : ∀ x, Bright ls' x ↔ Bright ls x) (t : Int) : ∀ i, goD ls' t i = goD ls t i
  | 0 => rfl
  | i + 1 => by
    unfold goD
    rw [goD_congr h t i, nextD_congr h]
theorem goD_up {ls ls' : List (Int × Int)} {c : Int} (h : ∀ x, Bright ls' (x + c) ↔ Bright ls x) (hd : ∃ x, ¬ Bright ls x) (t : Int) : ∀ i, goD ls' (t + c) i = goD ls t i + c
  | 0 => rfl
  | i + 1 => by
    have e := dk_next hd (t := t) i
    show (nextD ls' (goD ls' (t + c) i)).getD 0 + 1 = (nextD ls (goD ls t i)).getD 0 + 1 + c
    rw [goD_up h hd t i, nextD_up c h, e]
    show dkD ls t i + c + 1 = dkD ls t i + 1 + c
    omega
theorem dk_last {ls : List (Int × Int)} {t : Int} (h : ∃ x, ¬ Bright ls x) (i : Nat) : lastD ls (dkD ls t (i + 1) - 1) = some (dkD ls t i) := by
  obtain ⟨g1, _, g2, g3⟩ := nextD_spec (dk_next h (t := t) i)
  obtain ⟨k1, _, k2, k3⟩ := nextD_spec (dk_next h (t := t) (i + 1))
  have e : goD ls t (i + 1) = dkD ls t i + 1 := by unfold dkD; omega
  refine lastD_of (by omega) g2 fun x h1 h2 => k3 x (by omega) (by omega)

/-! ### lamps that double: dark just once in 2 ^ m beats -/
theorem pow_ne {k : Nat} : (2 : Int) ^ k ≠ 0 := Int.pow_ne_zero (by decide)
theorem ruler_step (m : Nat) (y : Int) : (2 : Int) ^ (m + 1) ∣ y - 2 ^ m ↔ (2 : Int) ^ m ∣ y ∧ ¬ (2 : Int) ^ (m + 1) ∣ y := by
  have p0 : (0 : Int) < 2 ^ m := Int.pow_pos (by decide)
  have ep : (2 : Int) ^ (m + 1) = 2 ^ m * 2 := Int.pow_succ ..
  rw [ep]
  constructor
  · rintro ⟨q, hq⟩
    have e1 : y = 2 ^ m * (2 * q + 1) := by
      rw [Int.mul_add, Int.mul_one, ← Int.mul_assoc]
      omega
    refine ⟨⟨_, e1⟩, ?_⟩
    rintro ⟨r, hr⟩
    have e2 : (2 : Int) ^ m * (2 * q + 1) = 2 ^ m * (2 * r) := by
      rw [← e1, hr, Int.mul_assoc]
    have := Int.eq_of_mul_eq_mul_left (by omega) e2
    omega
  · rintro ⟨⟨q, hq⟩, h2⟩
    have ho : q % 2 = 1 := by
      by_cases z : q % 2 = 0
      · exact absurd ⟨q / 2, by rw [hq, Int.mul_assoc, show 2 * (q / 2) = q by omega]⟩ h2
      · omega
    refine ⟨q / 2, ?_⟩
    rw [Int.mul_assoc, show 2 * (q / 2) = q - 1 by omega, Int.mul_sub, Int.mul_one, hq]
theorem ruler_iff (y : Int) : ∀ m : Nat, (∃ k : Nat, k < m ∧ (2 : Int) ^ (k + 1) ∣ y - 2 ^ k) ↔ ¬ (2 : Int) ^ m ∣ y
  | 0 => by
    constructor
    · rintro ⟨_, h, _⟩
      omega
    · intro h
      exact absurd (Int.one_dvd y) (by simpa using h)
  | m + 1 => by
    have ih := ruler_iff y m
    have hs := ruler_step m y
    constructor
    · rintro ⟨k, hk, hd⟩ hall
      have hm : (2 : Int) ^ m ∣ y := Int.dvd_trans ⟨2, Int.pow_succ ..⟩ hall
      by_cases e : k = m
      · rw [e] at hd
        exact (hs.mp hd).2 hall
      · exact ih.mp ⟨k, by omega, hd⟩ hm
    · intro h
      by_cases hm : (2 : Int) ^ m ∣ y
      · exact ⟨m, by omega, hs.mpr ⟨hm, h⟩⟩
      · obtain ⟨k, hk, hd⟩ := ih.mpr hm
        exact ⟨k, by omega, hd⟩
def ruler (m : Nat) (b : Int) : List (Int × Int) := (List.range m).map fun k => ((2 : Int) * 2 ^ k, b + 2 ^ k - 1)
theorem ruler_bright {m : Nat} {b x : Int} : Bright (ruler m b) x ↔ ¬ (2 : Int) ^ m ∣ x - b + 1 := by
  rw [← ruler_iff]
  constructor
  · rintro ⟨l, hl, hd⟩
    obtain ⟨k, hk, rfl⟩ := List.mem_map.mp hl
    refine ⟨k, List.mem_range.mp hk, ?_⟩
    rw [Int.pow_succ, Int.mul_comm]
    rwa [show x - (b + 2 ^ k - 1) = x - b + 1 - 2 ^ k by omega] at hd
  · rintro ⟨k, hk, hd⟩
    refine ⟨_, List.mem_map.mpr ⟨k, List.mem_range.mpr hk, rfl⟩, ?_⟩
    show (2 : Int) * 2 ^ k ∣ x - (b + 2 ^ k - 1)
    rw [Int.pow_succ, Int.mul_comm] at hd
    rwa [show x - (b + 2 ^ k - 1) = x - b + 1 - 2 ^ k by omega]
theorem ruler_len (m : Nat) (b : Int) : (ruler m b).length = m := by unfold ruler; rw [List.length_map, List.length_range]
/-- any light that is as bright as the ruler's: its next dark beats and last ones -/
theorem ruler_next {ls : List (Int × Int)} {m : Nat} {b t d : Int} (h : ∀ x, Bright ls x ↔ Bright (ruler m b) x) (h1 : t ≤ d) (h2 : (2 : Int) ^ m ∣ d - b + 1) (h3 : d < t + 2 ^ m) : nextD ls t = some d := by
  refine nextD_of h1 (fun z => ruler_bright.mp ((h d).mp z) h2) fun x h4 h5 => (h x).mpr (ruler_bright.mpr fun h6 => ?_)
  have h7 := Int.dvd_sub h2 h6
  rw [show d - b + 1 - (x - b + 1) = d - x by omega] at h7
  have := Int.le_of_dvd (by omega) h7
  omega
theorem ruler_last {ls : List (Int × Int)} {m : Nat} {b t d : Int} (h : ∀ x, Bright ls x ↔ Bright (ruler m b) x) (h1 : d ≤ t) (h2 : (2 : Int) ^ m ∣ d - b + 1) (h3 : t < d + 2 ^ m) : lastD ls t = some d := by
  refine lastD_of h1 (fun z => ruler_bright.mp ((h d).mp z) h2) fun x h4 h5 => (h x).mpr (ruler_bright.mpr fun h6 => ?_)
  have h7 := Int.dvd_sub h6 h2
  rw [show x - b + 1 - (d - b + 1) = x - d by omega] at h7
  have := Int.le_of_dvd (by omega) h7
  omega
/-! ### a light without the lamp of number k -/
def exc (ls : List (Int × Int)) (k : Nat) : List (Int × Int) := ls.take k ++ ls.drop (k + 1)
theorem mem_exc {ls : List (Int × Int)} {k : Nat} {l : Int × Int} : l ∈ exc ls k ↔ ∃ j : Nat, j ≠ k ∧ ls[j]? = some l := by
  unfold exc
  rw [List.mem_append]
  constructor
  · rintro (h | h)
    · obtain ⟨j, hj⟩ := List.mem_iff_getElem?.mp h
      rw [List.getElem?_take] at hj
      by_cases hk : j < k
      · rw [if_pos hk] at hj
        exact ⟨j, by omega, hj⟩
      · rw [if_neg hk] at hj
        cases hj
    · obtain ⟨j, hj⟩ := List.mem_iff_getElem?.mp h
      rw [List.getElem?_drop] at hj
      exact ⟨k + 1 + j, by omega, hj⟩
  · rintro ⟨j, hjk, hj⟩
    by_cases hk : j < k
    · exact .inl (List.mem_iff_getElem?.mpr ⟨j, by rw [List.getElem?_take, if_pos hk]; exact hj⟩)
    · exact .inr (List.mem_iff_getElem?.mpr ⟨j - (k + 1), by rw [List.getElem?_drop, show k + 1 + (j - (k + 1)) = j by omega]; exact hj⟩)
theorem lrow_rise (ls : List (Int × Int)) (t : Int) : (lrow ls t).Pairwise (· < ·) := by
  unfold lrow rowOf
  refine List.Pairwise.map _ (fun a b h => h) (List.Pairwise.filter _ ?_)
  suffices h : ∀ (ls : List (Int × Int)) (i : Int), (numF i ls).Pairwise (fun a b => a.1 < b.1) ∧ ∀ x ∈ numF i ls, i ≤ x.1 from (h ls 0).1
  intro ls
  induction ls with
  | nil => exact fun i => ⟨List.Pairwise.nil, fun _ h => by cases h⟩
  | cons l ls ih =>
    intro i
    obtain ⟨h1, h2⟩ := ih (i + 1)
    refine ⟨List.pairwise_cons.mpr ⟨fun x hx => by have := h2 x hx; show i < x.1; omega, h1⟩, fun x hx => ?_⟩
    rcases List.mem_cons.mp hx with e | e
    · rw [e]; exact Int.le_refl _
    · have := h2 x e; omega
theorem alone_iff {ls : List (Int × Int)} {k : Nat} {x : Int} : (lrow ls x = [(k : Int)] ∨ lrow ls x = []) ↔ ¬ Bright (exc ls k) x := by
  constructor
  · rintro h ⟨l, hl, hd⟩
    obtain ⟨j, hjk, hj⟩ := mem_exc.mp hl
    have hm : (j : Int) ∈ lrow ls x := lrow_mem.mpr ⟨j, rfl, l, hj, hd⟩
    rcases h with h | h
    · rw [h] at hm
      have := List.mem_singleton.mp hm
      omega
    · rw [h] at hm
      cases hm
  · intro h
    have hall : ∀ z ∈ lrow ls x, z = (k : Int) := fun z hz => by
      obtain ⟨j, e, l, hj, hd⟩ := lrow_mem.mp hz
      by_cases hjk : j = k
      · rw [e, hjk]
      · exact absurd ⟨l, mem_exc.mpr ⟨j, hjk, hj⟩, hd⟩ h
    have hr := lrow_rise ls x
    cases e : lrow ls x with
    | nil => exact .inr rfl
    | cons a r =>
      refine .inl ?_
      rw [e] at hall hr
      have ea := hall a (.head _)
      cases r with
      | nil => rw [ea]
      | cons a2 r =>
        have e2 := hall a2 (.tail _ (.head _))
        have := (List.pairwise_cons.mp hr).1 a2 (.head _)
        omega
/-- the beats from b on, as many as the wait, at which lamp k shines alone, or none -/
def aloneL (ls : List (Int × Int)) (k : Nat) (b : Int) (n : Nat) : List Int := ((List.range n).filter fun j => decide (lrow ls (b + (j : Nat)) = [(k : Int)]) || decide (lrow ls (b + (j : Nat)) = [])).map fun j => b + (j : Nat)
theorem alone_head {ls : List (Int × Int)} {k : Nat} {b : Int} (hd : ∃ x, ¬ Bright ls x) : ∃ d r, aloneL ls k b (2 ^ ls.length) = d :: r ∧ nextD (exc ls k) b = some d := by
  have hx : ∃ x, ¬ Bright (exc ls k) x := by
    obtain ⟨x, hx⟩ := hd
    exact ⟨x, fun ⟨l, hl, h⟩ => hx ⟨l, (let ⟨j, _, e⟩ := mem_exc.mp hl; List.mem_of_getElem? e), h⟩⟩
  have hl : (exc ls k).length ≤ ls.length := by
    unfold exc
    rw [List.length_append, List.length_take, List.length_drop]
    omega
  cases e : nextD (exc ls k) b with
  | none =>
    obtain ⟨x, hx⟩ := hx
    exact absurd (nextD_none.mp e x) hx
  | some d =>
    obtain ⟨g1, g2, g3, g4⟩ := nextD_spec e
    have w1 : (2 : Int) ^ (exc ls k).length ≤ 2 ^ ls.length := by
      have : (2 : Nat) ^ (exc ls k).length ≤ 2 ^ ls.length := Nat.pow_le_pow_right (by decide) hl
      exact_mod_cast this
    have hj : (d - b).toNat < 2 ^ ls.length := by
      have : (((d - b).toNat : Nat) : Int) < ((2 ^ ls.length : Nat) : Int) := by
        rw [show ((2 ^ ls.length : Nat) : Int) = 2 ^ ls.length by norm_cast]
        omega
      exact_mod_cast this
    have hm : (d - b).toNat ∈ (List.range (2 ^ ls.length)).filter fun j => decide (lrow ls (b + (j : Nat)) = [(k : Int)]) || decide (lrow ls (b + (j : Nat)) = []) := by
      refine List.mem_filter.mpr ⟨List.mem_range.mpr hj, ?_⟩
      rw [show b + (((d - b).toNat : Nat) : Int) = d by omega]
      simpa using alone_iff.mpr g3
    have hr : ((List.range (2 ^ ls.length)).filter fun j => decide (lrow ls (b + (j : Nat)) = [(k : Int)]) || decide (lrow ls (b + (j : Nat)) = [])).Pairwise (· < ·) := List.Pairwise.filter _ List.pairwise_lt_range
    unfold aloneL
    cases e2 : (List.range (2 ^ ls.length)).filter fun j => decide (lrow ls (b + (j : Nat)) = [(k : Int)]) || decide (lrow ls (b + (j : Nat)) = []) with
    | nil => rw [e2] at hm; cases hm
    | cons a r =>
      rw [e2] at hm hr
      have ha : a ∈ (List.range (2 ^ ls.length)).filter fun j => decide (lrow ls (b + (j : Nat)) = [(k : Int)]) || decide (lrow ls (b + (j : Nat)) = []) := by rw [e2]; exact .head _
      have ha2 : ¬ Bright (exc ls k) (b + (a : Nat)) := alone_iff.mp (by simpa using (List.mem_filter.mp ha).2)
      have e3 : b + (a : Nat) = d := by
        by_cases q : b + (a : Nat) < d
        · exact absurd (g4 _ (by omega) q) ha2
        · rcases List.mem_cons.mp hm with q2 | q2
          · omega
          · have := (List.pairwise_cons.mp hr).1 _ q2
            omega
      exact ⟨d, _, by rw [List.map_cons, e3], rfl⟩

/-! ### lamps moved and stretched -/
def mvL (c : Int) (ls : List (Int × Int)) : List (Int × Int) := ls.map fun l => (l.1, (l.2 + c) % l.1)
def stL (c : Int) (ls : List (Int × Int)) : List (Int × Int) := ls.map fun l => (l.1 * c, l.2 * c)
def Kept (ls : List (Int × Int)) : Prop := ∀ l ∈ ls, 0 ≤ l.2 ∧ l.2 < l.1
theorem bright_mv {c : Int} {ls : List (Int × Int)} {x : Int} : Bright (mvL c ls) (x + c) ↔ Bright ls x := by
  unfold Bright mvL
  constructor
  · rintro ⟨l, hl, hd⟩
    obtain ⟨k, hk, rfl⟩ := List.mem_map.mp hl
    refine ⟨k, hk, ?_⟩
    have := (dvd_nrm k.1 (k.2 + c) (x + c)).mp hd
    rwa [show x + c - (k.2 + c) = x - k.2 by omega] at this
  · rintro ⟨k, hk, hd⟩
    refine ⟨_, List.mem_map.mpr ⟨k, hk, rfl⟩, (dvd_nrm k.1 (k.2 + c) (x + c)).mpr ?_⟩
    rwa [show x + c - (k.2 + c) = x - k.2 by omega]
theorem bright_st {c : Int} (hc : 0 < c) {ls : List (Int × Int)} {x : Int} : Bright (stL c ls) (x * c) ↔ Bright ls x := by
  have key : ∀ k : Int × Int, k.1 * c ∣ x * c - k.2 * c ↔ k.1 ∣ x - k.2 := fun k => by
    rw [← Int.sub_mul]
    exact Int.mul_dvd_mul_iff_right (by omega)
  unfold Bright stL
  constructor
  · rintro ⟨l, hl, hd⟩
    obtain ⟨k, hk, rfl⟩ := List.mem_map.mp hl
    exact ⟨k, hk, (key k).mp hd⟩
  · rintro ⟨k, hk, hd⟩
    exact ⟨_, List.mem_map.mpr ⟨k, hk, rfl⟩, (key k).mpr hd⟩
theorem dark_st {c r : Int} (hr : 0 < r) (hc : r < c) {ls : List (Int × Int)} {x : Int} : ¬ Bright (stL c ls) (x * c + r) := by
  rintro ⟨l, hl, hd⟩
  obtain ⟨k, hk, rfl⟩ := List.mem_map.mp hl
  have h1 : c ∣ x * c + r - k.2 * c := Int.dvd_trans ⟨k.1, Int.mul_comm _ _⟩ hd
  have h2 : c ∣ r := by
    have h3 : c ∣ (x - k.2) * c := ⟨x - k.2, Int.mul_comm _ _⟩
    have h4 := Int.dvd_sub h1 h3
    rwa [show x * c + r - k.2 * c - (x - k.2) * c = r by rw [Int.sub_mul]; omega] at h4
  have := Int.le_of_dvd hr h2
  omega
theorem mv_zero {ls : List (Int × Int)} (h : Kept ls) : mvL 0 ls = ls := by
  have e : mvL 0 ls = ls.map id := List.map_congr_left fun l hl => by
    obtain ⟨h0, h1⟩ := h l hl
    show (l.1, (l.2 + 0) % l.1) = l
    rw [Int.add_zero, Int.emod_eq_of_lt h0 h1]
  rw [e, List.map_id]
theorem st_one (ls : List (Int × Int)) : stL 1 ls = ls := by
  have e : stL 1 ls = ls.map id := List.map_congr_left fun l hl => by
    show (l.1 * 1, l.2 * 1) = l
    rw [Int.mul_one, Int.mul_one]
  rw [e, List.map_id]
theorem mv_mv (a b : Int) (ls : List (Int × Int)) : mvL b (mvL a ls) = mvL (a + b) ls := by
  unfold mvL
  rw [List.map_map]
  refine List.map_congr_left fun l hl => ?_
  show (l.1, ((l.2 + a) % l.1 + b) % l.1) = (l.1, (l.2 + (a + b)) % l.1)
  rw [Int.emod_add_emod, Int.add_assoc]
theorem st_st (a b : Int) (ls : List (Int × Int)) : stL b (stL a ls) = stL (a * b) ls := by
  unfold stL
  rw [List.map_map]
  refine List.map_congr_left fun l hl => ?_
  show (l.1 * a * b, l.2 * a * b) = (l.1 * (a * b), l.2 * (a * b))
  rw [Int.mul_assoc, Int.mul_assoc]
theorem st_mv {n c : Int} (hc : 0 < c) (ls : List (Int × Int)) : stL c (mvL n ls) = mvL (n * c) (stL c ls) := by
  unfold stL mvL
  rw [List.map_map, List.map_map]
  refine List.map_congr_left fun l hl => ?_
  show (l.1 * c, (l.2 + n) % l.1 * c) = (l.1 * c, (l.2 * c + n * c) % (l.1 * c))
  have e : (l.2 * c + n * c) % (l.1 * c) = (l.2 + n) % l.1 * c := by
    rw [← Int.add_mul, Int.mul_comm (l.2 + n) c, Int.mul_comm l.1 c, Int.mul_emod_mul_of_pos _ _ hc, Int.mul_comm]
  rw [e]
theorem mv_len (c : Int) (ls : List (Int × Int)) : (mvL c ls).length = ls.length := List.length_map ..
theorem st_len (c : Int) (ls : List (Int × Int)) : (stL c ls).length = ls.length := List.length_map ..

/-! ### seen from a lamp's own beats -/
theorem sees_ex {l x : Int × Int} (hl : 0 < l.1) (hx : 0 < x.1) : ∃ o, SeesO l (some x) o := by
  by_cases hg : (Int.gcd l.1 x.1 : Int) ∣ x.2 - l.2
  · have g0 := gcd_pos (a := l.1) (b := x.1) hl
    have gd : (Int.gcd l.1 x.1 : Int) ∣ x.1 := Int.gcd_dvd_right ..
    obtain ⟨v, hv⟩ := inv_ex (m := x.1 / (Int.gcd l.1 x.1 : Int)) (a := l.1 / (Int.gcd l.1 x.1 : Int)) (Int.ediv_pos_of_pos_of_dvd hx (by omega) gd) (gcd_cop hl)
    have S := seen_is hl hx hg hv
    exact ⟨some (_, _), fun q e => by cases e; exact ⟨S.q0, S.r0, S.rq⟩, S.iff⟩
  · refine ⟨none, fun _ h => (nomatch h), fun t => ⟨fun h => h.elim, fun h => ?_⟩⟩
    refine seen_none hg (l.2 + t * l.1) ?_ h
    exact ⟨t, by rw [Int.mul_comm]; omega⟩
theorem thin_ex {l : Int × Int} (hl : 0 < l.1) : ∀ {ls : List (Int × Int)}, (∀ x ∈ ls, 0 < x.1) → ∃ ms : List (Int × Int), ms.length ≤ ls.length ∧ ∀ t, Bright ms t ↔ Bright ls (l.2 + t * l.1)
  | [], _ => ⟨[], Nat.le_refl _, fun t => ⟨fun ⟨_, h, _⟩ => (nomatch h), fun ⟨_, h, _⟩ => (nomatch h)⟩⟩
  | x :: ls, h => by
    obtain ⟨ms, h1, h2⟩ := thin_ex hl (ls := ls) fun y hy => h y (.tail _ hy)
    obtain ⟨o, ok, ho⟩ := sees_ex (x := x) hl (h x (.head _))
    cases o with
    | none =>
      refine ⟨ms, Nat.le_succ_of_le h1, fun t => (h2 t).trans ⟨fun ⟨y, hy, hd⟩ => ⟨y, .tail _ hy, hd⟩, fun ⟨y, hy, hd⟩ => ?_⟩⟩
      rcases List.mem_cons.mp hy with rfl | hy
      · exact ((ho t).mpr hd).elim
      · exact ⟨y, hy, hd⟩
    | some q =>
      refine ⟨q :: ms, Nat.succ_le_succ h1, fun t => ⟨fun ⟨y, hy, hd⟩ => ?_, fun ⟨y, hy, hd⟩ => ?_⟩⟩
      · rcases List.mem_cons.mp hy with rfl | hy
        · exact ⟨x, .head _, (ho t).mp hd⟩
        · obtain ⟨z, hz, hd2⟩ := (h2 t).mp ⟨y, hy, hd⟩
          exact ⟨z, .tail _ hz, hd2⟩
      · rcases List.mem_cons.mp hy with rfl | hy
        · exact ⟨q, .head _, (ho t).mpr hd⟩
        · obtain ⟨z, hz, hd2⟩ := (h2 t).mpr ⟨y, hy, hd⟩
          exact ⟨z, .tail _ hz, hd2⟩
theorem thin_wait {l : Int × Int} {ls : List (Int × Int)} (hl : 0 < l.1) (h : ∀ x ∈ ls, 0 < x.1) (n0 : Int) (hb : ∀ i : Nat, i < 2 ^ ls.length → Bright ls (l.2 + (n0 + i) * l.1)) (t : Int) : Bright ls (l.2 + t * l.1) := by
  obtain ⟨ms, h1, h2⟩ := thin_ex hl h
  refine (h2 t).mp (wait_all ms n0 (fun i hi => (h2 _).mpr (hb i (Nat.lt_of_lt_of_le hi (Nat.pow_le_pow_right (by decide) h1)))) t)
/-- the number of a lamp's first own beat from a beat on -/
def fstN (l : Int × Int) (t : Int) : Int := (t + (l.2 - t) % l.1 - l.2) / l.1
theorem fst_at {l : Int × Int} (hl : 0 < l.1) (t : Int) : l.2 + fstN l t * l.1 = t + (l.2 - t) % l.1 := by
  have d : l.1 ∣ t + (l.2 - t) % l.1 - l.2 := by
    have := Int.emod_add_mul_ediv (l.2 - t) l.1
    exact ⟨-((l.2 - t) / l.1), by rw [Int.mul_neg]; omega⟩
  have := Int.ediv_mul_cancel d
  unfold fstN
  omega
theorem fst_ge {l : Int × Int} (hl : 0 < l.1) (t : Int) : t ≤ l.2 + fstN l t * l.1 := by
  rw [fst_at hl]
  have := Int.emod_nonneg (l.2 - t) (show l.1 ≠ 0 by omega)
  omega
theorem fst_le {l : Int × Int} (hl : 0 < l.1) {t x : Int} (h : t ≤ x) (hx : l.1 ∣ x - l.2) : ∃ n, fstN l t ≤ n ∧ x = l.2 + n * l.1 := by
  obtain ⟨n, hn⟩ := hx
  refine ⟨n, ?_, by rw [Int.mul_comm]; omega⟩
  have h1 := fst_at hl t
  have h2 := Int.emod_lt_of_pos (l.2 - t) hl
  by_cases hh : fstN l t ≤ n
  · exact hh
  · have h3 : (n + 1) * l.1 ≤ fstN l t * l.1 := Int.mul_le_mul_of_nonneg_right (by omega) (by omega)
    rw [Int.add_mul, Int.one_mul, Int.mul_comm n] at h3
    omega
/-- the first own beat of a lamp from a beat on that is dark by other lamps -/
def OutIs (l : Int × Int) (ls : List (Int × Int)) (t : Int) : Option Int → Prop
  | some b => t ≤ b ∧ l.1 ∣ b - l.2 ∧ ¬ Bright ls b ∧ ∀ x, t ≤ x → l.1 ∣ x - l.2 → ¬ Bright ls x → b ≤ x
  | none => ∀ n : Int, Bright ls (l.2 + n * l.1)
/-- places, of some from a number on, at which a lamp's own beats are dark by other lamps -/
def outsL (l : Int × Int) (ls : List (Int × Int)) (n0 : Int) : List Nat := (List.range (2 ^ ls.length)).filter fun j => decide (lrow ls (l.2 + (n0 + (j : Nat)) * l.1) = [])
theorem outs_mem {l : Int × Int} {ls : List (Int × Int)} {n0 : Int} {j : Nat} : j ∈ outsL l ls n0 ↔ j < 2 ^ ls.length ∧ ¬ Bright ls (l.2 + (n0 + j) * l.1) := by
  unfold outsL
  rw [List.mem_filter, List.mem_range, decide_eq_true_iff, lrow_nil]
theorem outs_none {l : Int × Int} {ls : List (Int × Int)} {n0 : Int} (hl : 0 < l.1) (h : ∀ x ∈ ls, 0 < x.1) (e : outsL l ls n0 = []) (n : Int) : Bright ls (l.2 + n * l.1) := by
  refine thin_wait hl h n0 (fun i hi => ?_) n
  by_cases hb : Bright ls (l.2 + (n0 + i) * l.1)
  · exact hb
  · have := outs_mem.mpr ⟨hi, hb⟩
    rw [e] at this
    cases this
theorem outs_head {l : Int × Int} {ls : List (Int × Int)} {t : Int} {j : Nat} (hl : 0 < l.1) (e : (outsL l ls (fstN l t)).head? = some j) : OutIs l ls t (some (l.2 + (fstN l t + j) * l.1)) := by
  have hm := outs_mem.mp (List.mem_of_mem_head? (by rw [e]; rfl))
  have hg := fst_ge hl t
  have hj : 0 ≤ (j : Int) * l.1 := Int.mul_nonneg (by omega) (by omega)
  refine ⟨by rw [Int.add_mul]; omega, ⟨fstN l t + j, by rw [Int.mul_comm]; omega⟩, hm.2, fun x hx hd hb => ?_⟩
  obtain ⟨n, h1, rfl⟩ := fst_le hl hx hd
  have key : fstN l t + j ≤ n := by
    by_cases hn : n < fstN l t + (2 ^ ls.length : Nat)
    · obtain ⟨i, hi⟩ : ∃ i : Nat, n = fstN l t + i := ⟨(n - fstN l t).toNat, by omega⟩
      subst hi
      have mi := outs_mem.mpr ⟨by omega, hb⟩
      rcases pairwise_head (R := (· < ·)) (List.Pairwise.filter _ List.pairwise_lt_range) e mi with rfl | hlt
      · omega
      · omega
    · have := hm.1
      omega
  have := Int.mul_le_mul_of_nonneg_right key (show 0 ≤ l.1 by omega)
  omega
/-- first beats from a beat on, bright by some lamps, dark by others: enough of them to know the first -/
structure OutsIs (bs : List Int) (ls1 ls2 : List (Int × Int)) (t : Int) : Prop where
  no : bs = [] → ∀ x, Bright ls1 x → Bright ls2 x
  at_ : ∀ b ∈ bs, t ≤ b ∧ Bright ls1 b ∧ ¬ Bright ls2 b
  le : ∀ x, t ≤ x → Bright ls1 x → ¬ Bright ls2 x → ∃ b ∈ bs, b ≤ x
theorem OutsIs.nil {ls2 : List (Int × Int)} {t : Int} : OutsIs [] [] ls2 t :=
  ⟨fun _ _ ⟨_, h, _⟩ => (nomatch h), fun _ h => (nomatch h), fun _ _ ⟨_, h, _⟩ => (nomatch h)⟩
theorem bright_snoc {ls : List (Int × Int)} {l : Int × Int} {x : Int} : Bright (ls ++ [l]) x ↔ Bright ls x ∨ l.1 ∣ x - l.2 := by
  constructor
  · rintro ⟨k, hk, hd⟩
    rcases List.mem_append.mp hk with h | h
    · exact .inl ⟨k, h, hd⟩
    · rw [List.mem_singleton.mp h] at hd
      exact .inr hd
  · rintro (⟨k, hk, hd⟩ | hd)
    · exact ⟨k, List.mem_append_left _ hk, hd⟩
    · exact ⟨l, List.mem_append_right _ (List.mem_singleton.mpr rfl), hd⟩
theorem OutsIs.more {bs : List Int} {ls1 ls2 : List (Int × Int)} {t : Int} {l : Int × Int} {o : Option Int} (h : OutsIs bs ls1 ls2 t) (hl : 0 < l.1) (ho : OutIs l ls2 t o) : OutsIs (bs ++ o.toList) (ls1 ++ [l]) ls2 t := by
  cases o with
  | none =>
    have all : ∀ x, l.1 ∣ x - l.2 → Bright ls2 x := fun x ⟨n, hn⟩ => by
      have := ho n
      rwa [show l.2 + n * l.1 = x by rw [Int.mul_comm]; omega] at this
    rw [show bs ++ (none : Option Int).toList = bs from List.append_nil bs]
    refine ⟨fun e x hx => ?_, fun b hb => ?_, fun x hx hb hd => ?_⟩
    · rcases bright_snoc.mp hx with h1 | h1
      · exact h.no e x h1
      · exact all x h1
    · obtain ⟨a1, a2, a3⟩ := h.at_ b hb
      exact ⟨a1, bright_snoc.mpr (.inl a2), a3⟩
    · rcases bright_snoc.mp hb with h1 | h1
      · exact h.le x hx h1 hd
      · exact absurd (all x h1) hd
  | some c =>
    obtain ⟨c1, c2, c3, c4⟩ := ho
    show OutsIs (bs ++ [c]) _ _ _
    refine ⟨fun e => by simp at e, fun b hb => ?_, fun x hx hb hd => ?_⟩
    · rcases List.mem_append.mp hb with h1 | h1
      · obtain ⟨a1, a2, a3⟩ := h.at_ b h1
        exact ⟨a1, bright_snoc.mpr (.inl a2), a3⟩
      · rw [List.mem_singleton.mp h1]
        exact ⟨c1, bright_snoc.mpr (.inr c2), c3⟩
    · rcases bright_snoc.mp hb with h1 | h1
      · obtain ⟨b, hb2, hle⟩ := h.le x hx h1 hd
        exact ⟨b, List.mem_append_left _ hb2, hle⟩
      · exact ⟨c, List.mem_append_right _ (List.mem_singleton.mpr rfl), c4 x hx h1 hd⟩

/-! ### a light seen from a lamp's own beats -/
def SeenOs (l : Int × Int) (ls : List (Int × Int)) (os : List OLp) : Prop := os.length = ls.length ∧ ∀ (i : Nat) x o, ls[i]? = some x → os[i]? = some o → SeesO l (some x) o
theorem SeenOs.cons {l x : Int × Int} {ls : List (Int × Int)} {o : OLp} {os : List OLp} (h : SeenOs l (x :: ls) (o :: os)) : SeesO l (some x) o ∧ SeenOs l ls os :=
  ⟨h.2 0 x o rfl rfl, by have := h.1; simpa using this, fun i y p e1 e2 => h.2 (i + 1) y p e1 e2⟩
theorem SeenOs.bright {l : Int × Int} : ∀ {ls : List (Int × Int)} {os : List OLp}, SeenOs l ls os → ∀ t, Bright (os.filterMap id) t ↔ Bright ls (l.2 + t * l.1)
  | [], [], _, t => ⟨fun ⟨_, h, _⟩ => (nomatch h), fun ⟨_, h, _⟩ => (nomatch h)⟩
  | [], _ :: _, h, _ => by have := h.1; simp at this
  | _ :: _, [], h, _ => by have := h.1; simp at this
  | x :: ls, o :: os, h, t => by
    obtain ⟨h1, h2⟩ := h.cons
    have ih := h2.bright t
    cases o with
    | none =>
      rw [show List.filterMap id (none :: os) = os.filterMap id from rfl]
      refine ih.trans ⟨fun ⟨y, hy, hd⟩ => ⟨y, .tail _ hy, hd⟩, fun ⟨y, hy, hd⟩ => ?_⟩
      rcases List.mem_cons.mp hy with rfl | hy
      · exact ((h1.2 t).mpr hd).elim
      · exact ⟨y, hy, hd⟩
    | some q =>
      rw [show List.filterMap id (some q :: os) = q :: os.filterMap id from rfl]
      refine ⟨fun ⟨y, hy, hd⟩ => ?_, fun ⟨y, hy, hd⟩ => ?_⟩
      · rcases List.mem_cons.mp hy with rfl | hy
        · exact ⟨x, .head _, (h1.2 t).mp hd⟩
        · obtain ⟨z, hz, hd2⟩ := ih.mp ⟨y, hy, hd⟩
          exact ⟨z, .tail _ hz, hd2⟩
      · rcases List.mem_cons.mp hy with rfl | hy
        · exact ⟨q, .head _, (h1.2 t).mpr hd⟩
        · obtain ⟨z, hz, hd2⟩ := ih.mpr ⟨y, hy, hd⟩
          exact ⟨z, .tail _ hz, hd2⟩
theorem SeenOs.len {l : Int × Int} {ls : List (Int × Int)} {os : List OLp} (h : SeenOs l ls os) : (os.filterMap id).length ≤ ls.length := by
  rw [← h.1]
  exact List.length_filterMap_le _ _
/-- a light's part at each so many beats, from a beat on -/
theorem bright_part {m f x : Int} (hm : 0 < m) (f0 : 0 ≤ f) (f1 : f < m) {ls ts : List (Int × Int)} (h : ∀ t, Bright ts t ↔ Bright ls (f + t * m)) : Bright (mvL f (stL m ts)) x ↔ x % m = f ∧ Bright ls x := by
  have e1 : x = (x - f) + f := by omega
  have e2 := Int.emod_add_mul_ediv (x - f) m
  have r0 := Int.emod_nonneg (x - f) (show m ≠ 0 by omega)
  have r1 := Int.emod_lt_of_pos (x - f) hm
  rw [Int.mul_comm] at e2
  have step : Bright (mvL f (stL m ts)) x ↔ Bright (stL m ts) (x - f) := by
    conv => lhs; rw [e1]
    exact bright_mv
  rw [step]
  by_cases hr : (x - f) % m = 0
  · have ex : x - f = (x - f) / m * m := by omega
    rw [ex, bright_st hm, h, ← ex]
    have hx : x % m = f := by
      have : x = f + m * ((x - f) / m) := by rw [Int.mul_comm]; omega
      rw [this, Int.add_mul_emod_self_left, Int.emod_eq_of_lt f0 f1]
    rw [show f + (x - f) = x by omega]
    exact ⟨fun z => ⟨hx, z⟩, fun z => z.2⟩
  · have ex : x - f = (x - f) / m * m + (x - f) % m := by omega
    constructor
    · intro hb
      rw [ex] at hb
      exact absurd hb (dark_st (by omega) r1)
    · rintro ⟨hx, _⟩
      have : (x - f) % m = 0 := by
        have h3 : x - f = m * (x / m) := by
          have := Int.emod_add_mul_ediv x m
          omega
        rw [h3, Int.mul_emod_right]
      exact absurd this hr
theorem bright_app2 {ls ms : List (Int × Int)} {x : Int} : Bright (ls ++ ms) x ↔ Bright ls x ∨ Bright ms x := by
  constructor
  · rintro ⟨l, hl, hd⟩
    rcases List.mem_append.mp hl with h | h
    · exact .inl ⟨l, h, hd⟩
    · exact .inr ⟨l, h, hd⟩
  · rintro (⟨l, hl, hd⟩ | ⟨l, hl, hd⟩)
    · exact ⟨l, List.mem_append_left _ hl, hd⟩
    · exact ⟨l, List.mem_append_right _ hl, hd⟩
theorem snoc_at {α : Type} {xs : List α} {x y : α} {i : Nat} (e : (xs ++ [x])[i]? = some y) : (i < xs.length ∧ xs[i]? = some y) ∨ (i = xs.length ∧ y = x) := by
  by_cases hi : i < xs.length
  · rw [List.getElem?_append_left hi] at e
    exact .inl ⟨hi, e⟩
  · rw [List.getElem?_append_right (by omega)] at e
    have e0 : i - xs.length = 0 := by
      by_cases z : i - xs.length = 0
      · exact z
      · rw [List.getElem?_eq_none (by simp; omega)] at e; cases e
    rw [e0] at e
    cases e
    exact .inr ⟨by omega, rfl⟩

/-! ### the first beats that are told of two lights -/
def FirstO (ls1 ls2 : List (Int × Int)) (t : Int) : Option Int → Prop
  | some b => t ≤ b ∧ Bright ls1 b ∧ ¬ Bright ls2 b ∧ ∀ x, t ≤ x → x < b → Bright ls1 x → Bright ls2 x
  | none => ∀ x, Bright ls1 x → Bright ls2 x
def PartO (ls1 ls2 : List (Int × Int)) (t : Int) : Option Int → Prop
  | some b => t ≤ b ∧ ¬ (Bright ls1 b ↔ Bright ls2 b) ∧ ∀ x, t ≤ x → x < b → (Bright ls1 x ↔ Bright ls2 x)
  | none => ∀ x, Bright ls1 x ↔ Bright ls2 x
theorem FirstO.uniq {ls1 ls2 : List (Int × Int)} {t : Int} {o o' : Option Int} (h : FirstO ls1 ls2 t o) (h' : FirstO ls1 ls2 t o') : o = o' := by
  cases o with
  | none =>
    cases o' with
    | none => rfl
    | some b => exact absurd (h b h'.2.1) h'.2.2.1
  | some a =>
    cases o' with
    | none => exact absurd (h' a h.2.1) h.2.2.1
    | some b =>
      obtain ⟨a0, a1, a2, a3⟩ := h
      obtain ⟨b0, b1, b2, b3⟩ := h'
      rcases Int.lt_trichotomy a b with hlt | rfl | hlt
      · exact absurd (b3 a a0 hlt a1) a2
      · rfl
      · exact absurd (a3 b b0 hlt b1) b2
theorem PartO.uniq {ls1 ls2 : List (Int × Int)} {t : Int} {o o' : Option Int} (h : PartO ls1 ls2 t o) (h' : PartO ls1 ls2 t o') : o = o' := by
  cases o with
  | none =>
    cases o' with
    | none => rfl
    | some b => exact absurd (h b) h'.2.1
  | some a =>
    cases o' with
    | none => exact absurd (h' a) h.2.1
    | some b =>
      obtain ⟨a0, a1, a3⟩ := h
      obtain ⟨b0, b1, b3⟩ := h'
      rcases Int.lt_trichotomy a b with hlt | rfl | hlt
      · exact absurd (b3 a a0 hlt) a1
      · rfl
      · exact absurd (a3 b b0 hlt) b1
def IsLeast (os : List (Option Int)) : Option Int → Prop
  | some m => some m ∈ os ∧ ∀ k, some k ∈ os → m ≤ k
  | none => ∀ x ∈ os, x = none
/-- the first beat from a beat on of which something is so -/
def LstO (P : Int → Prop) (t : Int) : Option Int → Prop
  | some x => t ≤ x ∧ P x ∧ ∀ y, t ≤ y → y < x → ¬ P y
  | none => ∀ y, ¬ P y
/-- two conditions, the least beat of either -/
theorem least_two {P Q : Int → Prop} {t : Int} {a b m : Option Int} (ha : LstO P t a) (hb : LstO Q t b) (hm : IsLeast [a, b] m) : LstO (fun x => P x ∨ Q x) t m := by
  cases m with
  | none =>
    have e1 : a = none := hm a (.head _)
    have e2 : b = none := hm b (.tail _ (.head _))
    subst e1 e2
    exact fun y z => z.elim (ha y) (hb y)
  | some x =>
    obtain ⟨hx, hle⟩ := hm
    have pa : ∀ y, t ≤ y → y < x → ¬ P y := fun y h1 h2 => by
      cases a with
      | none => exact ha y
      | some z => exact ha.2.2 y h1 (by have := hle z (.head _); omega)
    have pb : ∀ y, t ≤ y → y < x → ¬ Q y := fun y h1 h2 => by
      cases b with
      | none => exact hb y
      | some z => exact hb.2.2 y h1 (by have := hle z (.tail _ (.head _)); omega)
    simp only [List.mem_cons, List.not_mem_nil, or_false] at hx
    rcases hx with rfl | rfl
    · exact ⟨ha.1, .inl ha.2.1, fun y h1 h2 z => z.elim (pa y h1 h2) (pb y h1 h2)⟩
    · exact ⟨hb.1, .inr hb.2.1, fun y h1 h2 z => z.elim (pa y h1 h2) (pb y h1 h2)⟩
theorem FirstO.m {ls1 ls2 : List (Int × Int)} {t : Int} {a : Option Int} (h : FirstO ls1 ls2 t a) : LstO (fun x => Bright ls1 x ∧ ¬ Bright ls2 x) t a := by
  cases a with
  | none => exact fun y z => z.2 (h y z.1)
  | some x => exact ⟨h.1, ⟨h.2.1, h.2.2.1⟩, fun y h1 h2 z => z.2 (h.2.2.2 y h1 h2 z.1)⟩
theorem part_least {ls1 ls2 : List (Int × Int)} {t : Int} {a b m o : Option Int} (ha : FirstO ls1 ls2 t a) (hb : FirstO ls2 ls1 t b) (hm : IsLeast [a, b] m) (ho : PartO ls1 ls2 t o) : o = m := by
  refine ho.uniq ?_
  have key := least_two ha.m hb.m hm
  have imp : ∀ y, ¬ ((Bright ls1 y ∧ ¬ Bright ls2 y) ∨ (Bright ls2 y ∧ ¬ Bright ls1 y)) → (Bright ls1 y ↔ Bright ls2 y) := fun y z =>
    ⟨fun h => Classical.byContradiction fun n => z (.inl ⟨h, n⟩), fun h => Classical.byContradiction fun n => z (.inr ⟨h, n⟩)⟩
  cases m with
  | none => exact fun y => imp y (key y)
  | some x =>
    refine ⟨key.1, fun z => ?_, fun y h1 h2 => imp y (key.2.2 y h1 h2)⟩
    rcases key.2.1 with ⟨h1, h2⟩ | ⟨h1, h2⟩
    · exact h2 (z.mp h1)
    · exact h2 (z.mpr h1)
theorem first_app {ls1 ls2 ls3 : List (Int × Int)} {t : Int} {a b m o : Option Int} (ha : FirstO ls1 ls3 t a) (hb : FirstO ls2 ls3 t b) (hm : IsLeast [a, b] m) (ho : FirstO (ls1 ++ ls2) ls3 t o) : o = m := by
  refine ho.uniq ?_
  have key := least_two ha.m hb.m hm
  cases m with
  | none =>
    intro y hy
    refine Classical.byContradiction fun n => ?_
    rcases bright_app2.mp hy with h | h
    · exact key y (.inl ⟨h, n⟩)
    · exact key y (.inr ⟨h, n⟩)
  | some x =>
    refine ⟨key.1, ?_, ?_, fun y h1 h2 hy => ?_⟩
    · rcases key.2.1 with ⟨h, _⟩ | ⟨h, _⟩
      · exact bright_app2.mpr (.inl h)
      · exact bright_app2.mpr (.inr h)
    · rcases key.2.1 with ⟨_, h⟩ | ⟨_, h⟩ <;> exact h
    · refine Classical.byContradiction fun n => ?_
      rcases bright_app2.mp hy with h | h
      · exact key.2.2 y h1 h2 (.inl ⟨h, n⟩)
      · exact key.2.2 y h1 h2 (.inr ⟨h, n⟩)
theorem part_beside {ls1 ls2 : List (Int × Int)} {t : Int} {a o : Option Int} (ha : FirstO ls1 ls2 t a) (ho : PartO ls2 (ls2 ++ ls1) t o) : o = a := by
  refine ho.uniq ?_
  cases a with
  | none => exact fun y => ⟨fun h => bright_app2.mpr (.inl h), fun h => (bright_app2.mp h).elim id (ha y)⟩
  | some x =>
    refine ⟨ha.1, fun z => ha.2.2.1 (z.mpr (bright_app2.mpr (.inr ha.2.1))), fun y h1 h2 => ⟨fun h => bright_app2.mpr (.inl h), fun h => (bright_app2.mp h).elim id (ha.2.2.2 y h1 h2)⟩⟩
theorem part_swap {ls1 ls2 : List (Int × Int)} {t : Int} {o o' : Option Int} (h : PartO ls1 ls2 t o) (h' : PartO ls2 ls1 t o') : o = o' := by
  refine h.uniq ?_
  cases o' with
  | none => exact fun y => (h' y).symm
  | some x => exact ⟨h'.1, fun z => h'.2.1 z.symm, fun y h1 h2 => (h'.2.2 y h1 h2).symm⟩

/-! ### lamps kept when some go -/
/-- the lamps of other numbers, with their numbers -/
def keptN (ns : List Int) (ls : List (Int × Int)) : List (Int × Int × Int) := (numF 0 ls).filter fun x => decide (x.1 ∉ ns)
theorem kept_take {ns : List Int} {ls : List (Int × Int)} {i : Nat} {l : Int × Int} (e : ls[i]? = some l) : ((numF 0 ls).take (i + 1)).filter (fun x => decide (x.1 ∉ ns)) = ((numF 0 ls).take i).filter (fun x => decide (x.1 ∉ ns)) ++ (if (i : Int) ∈ ns then [] else [((i : Int), l)]) := by
  rw [List.take_succ, numF_get, e, List.filter_append]
  congr 1
  show List.filter _ [((0 + (i : Int)), l)] = _
  rw [Int.zero_add, List.filter_cons, List.filter_nil]
  by_cases h : (i : Int) ∈ ns <;> simp [h]
theorem num_all (ls : List (Int × Int)) : (numF 0 ls).take ls.length = numF 0 ls := by
  conv => lhs; rw [← numF_len ls 0, List.take_length]
theorem kept_len (ns : List Int) (ls : List (Int × Int)) : (keptN ns ls).length ≤ ls.length := by
  have := List.length_filter_le (fun x : Int × Int × Int => decide (x.1 ∉ ns)) (numF 0 ls)
  rw [numF_len] at this
  exact this
theorem keptk_len (ns : List Int) (ls : List (Int × Int)) (i : Nat) : (((numF 0 ls).take i).filter (fun x => decide (x.1 ∉ ns))).length ≤ ls.length := by
  have := List.length_filter_le (fun x : Int × Int × Int => decide (x.1 ∉ ns)) ((numF 0 ls).take i)
  have h2 := List.length_take_le' i (numF 0 ls)
  rw [numF_len] at h2
  omega
theorem kept_mem {ns : List Int} {ls : List (Int × Int)} {x : Int × Int × Int} : x ∈ keptN ns ls ↔ x.1 ∉ ns ∧ ∃ j : Nat, x.1 = j ∧ ls[j]? = some x.2 := by
  unfold keptN
  rw [List.mem_filter, numF_mem]
  constructor
  · rintro ⟨⟨j, e1, e2⟩, h⟩
    exact ⟨of_decide_eq_true h, j, by omega, e2⟩
  · rintro ⟨h, j, e1, e2⟩
    exact ⟨⟨j, by omega, e2⟩, decide_eq_true h⟩
theorem kept_bright {ns : List Int} {ls : List (Int × Int)} {t : Int} : Bright ((keptN ns ls).map (·.2)) t ↔ ∃ j : Nat, (j : Int) ∉ ns ∧ ∃ l, ls[j]? = some l ∧ l.1 ∣ t - l.2 := by
  constructor
  · rintro ⟨l, hl, hd⟩
    obtain ⟨x, hx, rfl⟩ := List.mem_map.mp hl
    obtain ⟨h, j, e1, e2⟩ := kept_mem.mp hx
    exact ⟨j, e1 ▸ h, x.2, e2, hd⟩
  · rintro ⟨j, h, l, e, hd⟩
    exact ⟨l, List.mem_map.mpr ⟨((j : Int), l), kept_mem.mpr ⟨h, j, rfl, e⟩, rfl⟩, hd⟩
theorem rowOf_dark {ks : List (Int × Int × Int)} {t : Int} : rowOf ks t = [] ↔ ¬ Bright (ks.map (·.2)) t := by
  rw [rowOf_nil_iff]
  constructor
  · rintro h ⟨l, hl, hd⟩
    obtain ⟨x, hx, rfl⟩ := List.mem_map.mp hl
    exact h x hx hd
  · intro h x hx hd
    exact h ⟨x.2, List.mem_map.mpr ⟨x, hx, rfl⟩, hd⟩
theorem fstN_0 {l : Int × Int} (h0 : 0 ≤ l.2) (h1 : l.2 < l.1) : fstN l 0 = 0 := by
  unfold fstN
  rw [Int.sub_zero, Int.emod_eq_of_lt h0 h1, Int.zero_add, Int.sub_self, Int.zero_ediv]
theorem alone_is {l : Int × Int} {ks : List (Int × Int × Int)} (h0 : 0 ≤ l.2) (h1 : l.2 < l.1) (hk : ∀ x ∈ ks, 0 < x.2.1) :
    OutIs l (ks.map (·.2)) 0 ((((List.range (2 ^ ks.length)).filter fun j => decide (rowOf ks (l.2 + (j : Nat) * l.1) = [])).head?).map fun j => l.2 + (j : Nat) * l.1) := by
  have e : ((List.range (2 ^ ks.length)).filter fun j => decide (rowOf ks (l.2 + (j : Nat) * l.1) = [])) = outsL l (ks.map (·.2)) (fstN l 0) := by
    unfold outsL
    rw [List.length_map]
    refine List.filter_congr fun j _ => decide_eq_decide.mpr ?_
    rw [rowOf_dark, lrow_nil, fstN_0 h0 h1, Int.zero_add]
  rw [e]
  have hl : 0 < l.1 := by omega
  cases h : outsL l (ks.map (·.2)) (fstN l 0) with
  | nil =>
    intro n
    refine outs_none hl (fun x hx => ?_) h n
    obtain ⟨y, hy, rfl⟩ := List.mem_map.mp hx
    exact hk y hy
  | cons j r =>
    have := outs_head (l := l) (ls := ks.map (·.2)) (t := 0) (j := j) hl (by rw [h]; rfl)
    rw [fstN_0 h0 h1, Int.zero_add] at this
    exact this
/-- what is told of the lamps, one by one -/
def AloneIs (ls : List (Int × Int)) (i : Nat) (o : Option Int) : Prop := ∃ l, ls[i]? = some l ∧ OutIs l ((keptN [(i : Int)] ls).map (·.2)) 0 o
/-- a lamp of a number shines just where others do -/
def IdleAt (ls : List (Int × Int)) (i : Nat) : Prop := ∃ l, ls[i]? = some l ∧ ∀ n : Int, Bright ((keptN [(i : Int)] ls).map (·.2)) (l.2 + n * l.1)
theorem AloneIs.none {ls : List (Int × Int)} {i : Nat} {o : Option Int} (h : AloneIs ls i o) : o = none ↔ IdleAt ls i := by
  obtain ⟨l, e, h⟩ := h
  cases o with
  | none => exact ⟨fun _ => ⟨l, e, h⟩, fun _ => rfl⟩
  | some b =>
    refine ⟨fun z => (nomatch z), fun ⟨l', e', h'⟩ => ?_⟩
    rw [e] at e'
    cases e'
    obtain ⟨_, ⟨n, hn⟩, hb, _⟩ := h
    refine absurd (h' n) ?_
    rw [show l.2 + n * l.1 = b by rw [Int.mul_comm]; omega]
    exact hb
open Classical in
noncomputable def idleT (ls : List (Int × Int)) (n : Nat) : List Int := ((List.range n).filter fun i => decide (IdleAt ls i)).map fun i : Nat => (i : Int)
noncomputable def idleL (ls : List (Int × Int)) : List Int := idleT ls ls.length
open Classical in
theorem idleT_succ (ls : List (Int × Int)) (n : Nat) : idleT ls (n + 1) = idleT ls n ++ if IdleAt ls n then [(n : Int)] else [] := by
  unfold idleT
  rw [List.range_succ, List.filter_append, List.map_append]
  congr 1
  by_cases h : IdleAt ls n <;> simp [h]
open Classical in
theorem idleT_len (ls : List (Int × Int)) (n : Nat) : (idleT ls n).length ≤ n := by
  unfold idleT
  have := List.length_filter_le (fun i => decide (IdleAt ls i)) (List.range n)
  rw [List.length_range] at this
  rw [List.length_map]
  exact this
open Classical in
theorem idle_mem {ls : List (Int × Int)} {i : Nat} : (i : Int) ∈ idleL ls ↔ IdleAt ls i := by
  unfold idleL idleT
  rw [List.mem_map]
  constructor
  · rintro ⟨j, hj, e⟩
    obtain rfl : j = i := by omega
    exact of_decide_eq_true (List.mem_filter.mp hj).2
  · intro h
    have hl := (List.getElem?_eq_some_iff.mp h.choose_spec.1).1
    exact ⟨i, List.mem_filter.mpr ⟨List.mem_range.mpr hl, decide_eq_true h⟩, rfl⟩
theorem idle_at {ls : List (Int × Int)} {z : Int} (h : z ∈ idleL ls) : ∃ i : Nat, z = i ∧ IdleAt ls i := by
  obtain ⟨j, hj, e⟩ := List.mem_map.mp (show z ∈ idleT ls ls.length from h)
  exact ⟨j, e.symm, idle_mem.mp (e ▸ h)⟩
theorem idle_lt {ls : List (Int × Int)} {i : Nat} (h : IdleAt ls i) : i < ls.length := (List.getElem?_eq_some_iff.mp h.choose_spec.1).1

theorem idle_iff {ls : List (Int × Int)} {i : Nat} : IdleAt ls i ↔ ∃ l, ls[i]? = some l ∧ ∀ t, l.1 ∣ t - l.2 → ∃ j : Nat, j ≠ i ∧ ∃ y, ls[j]? = some y ∧ y.1 ∣ t - y.2 := by
  constructor
  · rintro ⟨l, e, h⟩
    refine ⟨l, e, fun t ⟨n, hn⟩ => ?_⟩
    have := h n
    rw [show l.2 + n * l.1 = t by rw [Int.mul_comm]; omega] at this
    obtain ⟨j, hj, y, hy, hd⟩ := kept_bright.mp this
    exact ⟨j, fun z => hj (by rw [z]; exact List.mem_singleton.mpr rfl), y, hy, hd⟩
  · rintro ⟨l, e, h⟩
    refine ⟨l, e, fun n => ?_⟩
    obtain ⟨j, hj, y, hy, hd⟩ := h (l.2 + n * l.1) ⟨n, by rw [Int.mul_comm]; omega⟩
    exact kept_bright.mpr ⟨j, fun z => hj (by have := List.mem_singleton.mp z; omega), y, hy, hd⟩
theorem idle_map {ls : List (Int × Int)} {i : Nat} (f : Int × Int → Int × Int) (g : Int → Int) (h1 : ∀ l ∈ ls, ∀ u, (f l).1 ∣ g u - (f l).2 ↔ l.1 ∣ u - l.2) (h2 : ∀ l ∈ ls, ∀ t, (f l).1 ∣ t - (f l).2 → ∃ u, t = g u) : IdleAt (ls.map f) i ↔ IdleAt ls i := by
  rw [idle_iff, idle_iff]
  constructor
  · rintro ⟨l, e, h⟩
    rw [List.getElem?_map] at e
    obtain ⟨l0, e0, rfl⟩ := Option.map_eq_some_iff.mp e
    refine ⟨l0, e0, fun t ht => ?_⟩
    obtain ⟨j, hj, y, hy, hd⟩ := h (g t) ((h1 l0 (List.mem_of_getElem? e0) t).mpr ht)
    rw [List.getElem?_map] at hy
    obtain ⟨y0, hy0, rfl⟩ := Option.map_eq_some_iff.mp hy
    exact ⟨j, hj, y0, hy0, (h1 y0 (List.mem_of_getElem? hy0) t).mp hd⟩
  · rintro ⟨l, e, h⟩
    refine ⟨f l, by rw [List.getElem?_map, e]; rfl, fun t ht => ?_⟩
    obtain ⟨u, rfl⟩ := h2 l (List.mem_of_getElem? e) t ht
    obtain ⟨j, hj, y, hy, hd⟩ := h u ((h1 l (List.mem_of_getElem? e) u).mp ht)
    exact ⟨j, hj, f y, by rw [List.getElem?_map, hy]; rfl, (h1 y (List.mem_of_getElem? hy) u).mpr hd⟩
theorem idle_mv {ls : List (Int × Int)} {i : Nat} {c : Int} : IdleAt (mvL c ls) i ↔ IdleAt ls i :=
  idle_map (fun l => (l.1, (l.2 + c) % l.1)) (fun u => u + c) (fun l _ u => by
    show l.1 ∣ u + c - (l.2 + c) % l.1 ↔ _
    rw [dvd_nrm, show u + c - (l.2 + c) = u - l.2 by omega]) fun l _ t _ => ⟨t - c, by omega⟩
theorem idle_st {ls : List (Int × Int)} {i : Nat} {c : Int} (hc : 0 < c) : IdleAt (stL c ls) i ↔ IdleAt ls i :=
  idle_map (fun l => (l.1 * c, l.2 * c)) (fun u => u * c) (fun l _ u => by
    show l.1 * c ∣ u * c - l.2 * c ↔ _
    rw [← Int.sub_mul]
    exact Int.mul_dvd_mul_iff_right (by omega)) fun l _ t ⟨n, hn⟩ => ⟨l.2 + l.1 * n, by
      have hn : t - l.2 * c = l.1 * c * n := hn
      show t = (l.2 + l.1 * n) * c
      rw [Int.add_mul, Int.mul_right_comm, ← hn]
      omega⟩
theorem idle_alike {ls : List (Int × Int)} {i : Nat} (h : i < ls.length) : IdleAt ls i ↔ ∀ x, Bright ls x ↔ Bright ((keptN [(i : Int)] ls).map (·.2)) x := by
  constructor
  · intro hi x
    obtain ⟨l, e, h⟩ := idle_iff.mp hi
    constructor
    · rintro ⟨y, hy, hd⟩
      obtain ⟨j, hj⟩ := List.getElem?_of_mem hy
      by_cases hji : j = i
      · subst hji
        rw [e] at hj
        cases hj
        obtain ⟨j, hj, y, hy, hd⟩ := h x hd
        exact kept_bright.mpr ⟨j, fun z => hj (by have := List.mem_singleton.mp z; omega), y, hy, hd⟩
      · exact kept_bright.mpr ⟨j, fun z => hji (by have := List.mem_singleton.mp z; omega), y, hj, hd⟩
    · intro hb
      obtain ⟨j, _, y, hy, hd⟩ := kept_bright.mp hb
      exact ⟨y, List.mem_of_getElem? hy, hd⟩
  · intro hb
    refine ⟨ls[i], List.getElem?_eq_getElem h, fun n => (hb _).mp ⟨ls[i], List.getElem_mem h, ⟨n, by rw [Int.mul_comm]; omega⟩⟩⟩
theorem idle_snoc {ls : List (Int × Int)} {x : Int × Int} {i : Nat} (h : IdleAt ls i) : IdleAt (ls ++ [x]) i := by
  obtain ⟨l, e, h⟩ := idle_iff.mp h
  have ap : ∀ {j : Nat} {y : Int × Int}, ls[j]? = some y → (ls ++ [x])[j]? = some y := fun {j y} e => by
    rw [List.getElem?_append_left (List.getElem?_eq_some_iff.mp e).1]
    exact e
  refine idle_iff.mpr ⟨l, ap e, fun t ht => ?_⟩
  obtain ⟨j, hj, y, hy, hd⟩ := h t ht
  exact ⟨j, hj, y, ap hy, hd⟩
theorem idle_new {ls : List (Int × Int)} {x l : Int × Int} {j : Nat} (e : ls[j]? = some l) (h : ∀ t, x.1 ∣ t - x.2 → l.1 ∣ t - l.2) : IdleAt (ls ++ [x]) ls.length := by
  have hj := (List.getElem?_eq_some_iff.mp e).1
  refine idle_iff.mpr ⟨x, by simp, fun t ht => ⟨j, by omega, l, ?_, h t ht⟩⟩
  rw [List.getElem?_append_left hj]
  exact e
open Classical in
theorem idleL_congr {ls ms : List (Int × Int)} (hl : ls.length = ms.length) (h : ∀ i, IdleAt ls i ↔ IdleAt ms i) : idleL ls = idleL ms := by
  unfold idleL idleT
  rw [hl]
  congr 1
  exact List.filter_congr fun i _ => decide_eq_decide.mpr (h i)
theorem idleL_mv {ls : List (Int × Int)} {c : Int} : idleL (mvL c ls) = idleL ls := idleL_congr (by unfold mvL; rw [List.length_map]) fun _ => idle_mv
theorem idleL_st {ls : List (Int × Int)} {c : Int} (hc : 0 < c) : idleL (stL c ls) = idleL ls := idleL_congr (by unfold stL; rw [List.length_map]) fun _ => idle_st hc

theorem OutIs.uniq {l : Int × Int} {ls : List (Int × Int)} {t : Int} {o o' : Option Int} (h : OutIs l ls t o) (h' : OutIs l ls t o') : o = o' := by
  have key : ∀ {b : Int}, OutIs l ls t (some b) → OutIs l ls t none → False := fun {b} ⟨_, ⟨n, hn⟩, hb, _⟩ h2 => hb (by
    have := h2 n
    rwa [show l.2 + n * l.1 = b by rw [Int.mul_comm]; omega] at this)
  cases o with
  | none =>
    cases o' with
    | none => rfl
    | some b => exact (key h' h).elim
  | some b =>
    cases o' with
    | none => exact (key h h').elim
    | some c =>
      obtain ⟨a1, a2, a3, a4⟩ := h
      obtain ⟨b1, b2, b3, b4⟩ := h'
      have := a4 c b1 b2 b3
      have := b4 b a1 a2 a3
      rw [show b = c by omega]
def AllAlone (ls : List (Int × Int)) (os : List (Option Int)) : Prop := os.length = ls.length ∧ ∀ (i : Nat) o, os[i]? = some o → AloneIs ls i o
theorem AllAlone.uniq {ls : List (Int × Int)} {os os' : List (Option Int)} (h : AllAlone ls os) (h' : AllAlone ls os') : os = os' := by
  refine List.ext_getElem? fun i => ?_
  by_cases hi : i < ls.length
  · have e1 := List.getElem?_eq_getElem (l := os) (i := i) (by rw [h.1]; exact hi)
    have e2 := List.getElem?_eq_getElem (l := os') (i := i) (by rw [h'.1]; exact hi)
    obtain ⟨l, el, a⟩ := h.2 i _ e1
    obtain ⟨l', el', a'⟩ := h'.2 i _ e2
    rw [el] at el'
    cases el'
    rw [e1, e2, a.uniq a']
  · rw [List.getElem?_eq_none (by rw [h.1]; omega), List.getElem?_eq_none (by rw [h'.1]; omega)]
/-- numbers and first lone beats -/
def needL (i : Nat) : List (Option Int) → List (Int × Int)
  | [] => []
  | none :: r => needL (i + 1) r
  | some b :: r => ((i : Int), b) :: needL (i + 1) r
theorem need_snoc (o : Option Int) : ∀ (os : List (Option Int)) (i : Nat), needL i (os ++ [o]) = needL i os ++ (o.map fun b => (((i + os.length : Nat) : Int), b)).toList
  | [], i => by cases o <;> rfl
  | none :: r, i => by
    show needL (i + 1) (r ++ [o]) = needL (i + 1) r ++ _
    rw [need_snoc o r (i + 1), List.length_cons, show i + 1 + r.length = i + (r.length + 1) by omega]
  | some b :: r, i => by
    show ((i : Int), b) :: needL (i + 1) (r ++ [o]) = ((i : Int), b) :: needL (i + 1) r ++ _
    rw [need_snoc o r (i + 1), List.length_cons, show i + 1 + r.length = i + (r.length + 1) by omega]
    rfl
theorem need_len : ∀ (os : List (Option Int)) (i : Nat), (needL i os).length ≤ os.length
  | [], _ => Nat.le_refl _
  | none :: r, i => Nat.le_succ_of_le (need_len r (i + 1))
  | some b :: r, i => Nat.succ_le_succ (need_len r (i + 1))
theorem need_mem {x : Int × Int} : ∀ {os : List (Option Int)} {i : Nat}, x ∈ needL i os ↔ ∃ j : Nat, x.1 = ((i + j : Nat) : Int) ∧ os[j]? = some (some x.2)
  | [], i => ⟨fun h => (nomatch h), fun ⟨_, _, h⟩ => (nomatch h)⟩
  | none :: r, i => by
    show x ∈ needL (i + 1) r ↔ _
    rw [need_mem (os := r) (i := i + 1)]
    constructor
    · rintro ⟨j, e, h⟩
      exact ⟨j + 1, by omega, h⟩
    · rintro ⟨j, e, h⟩
      cases j with
      | zero => cases h
      | succ j => exact ⟨j, by omega, h⟩
  | some b :: r, i => by
    show x ∈ ((i : Int), b) :: needL (i + 1) r ↔ _
    rw [List.mem_cons, need_mem (os := r) (i := i + 1)]
    constructor
    · rintro (rfl | ⟨j, e, h⟩)
      · exact ⟨0, rfl, rfl⟩
      · exact ⟨j + 1, by omega, h⟩
    · rintro ⟨j, e, h⟩
      cases j with
      | zero =>
        left
        have h : some (some b) = some (some x.2) := h
        cases h
        exact Prod.ext e rfl
      | succ j => exact .inr ⟨j, by omega, h⟩
/-- it is the same of lamps whose beats are put into their rounds -/
theorem kept_nrm {ns : List Int} {ls : List (Int × Int)} {t : Int} : Bright ((keptN ns (ls.map nrm)).map (·.2)) t ↔ Bright ((keptN ns ls).map (·.2)) t := by
  rw [kept_bright, kept_bright]
  constructor
  · rintro ⟨j, h, l, e, hd⟩
    rw [List.getElem?_map] at e
    obtain ⟨l0, e0, rfl⟩ := Option.map_eq_some_iff.mp e
    exact ⟨j, h, l0, e0, (dvd_nrm l0.1 l0.2 t).mp hd⟩
  · rintro ⟨j, h, l, e, hd⟩
    exact ⟨j, h, nrm l, by rw [List.getElem?_map, e]; rfl, (dvd_nrm l.1 l.2 t).mpr hd⟩
theorem alone_nrm {ls : List (Int × Int)} {i : Nat} {o : Option Int} (h : AloneIs ls i o) : AloneIs (ls.map nrm) i o := by
  obtain ⟨l, e, h⟩ := h
  refine ⟨nrm l, by rw [List.getElem?_map, e]; rfl, ?_⟩
  cases o with
  | none =>
    intro n
    rw [kept_nrm]
    have d : l.1 ∣ (nrm l).2 + n * (nrm l).1 - l.2 := by
      have := Int.emod_add_mul_ediv l.2 l.1
      refine ⟨n - l.2 / l.1, ?_⟩
      show l.2 % l.1 + n * l.1 - l.2 = _
      rw [Int.mul_sub, Int.mul_comm l.1 n]
      omega
    obtain ⟨m, hm⟩ := d
    have := h m
    rwa [show l.2 + m * l.1 = (nrm l).2 + n * (nrm l).1 by rw [Int.mul_comm m]; omega] at this
  | some b =>
    obtain ⟨h1, h2, h3, h4⟩ := h
    exact ⟨h1, (dvd_nrm l.1 l.2 b).mpr h2, fun z => h3 (kept_nrm.mp z), fun x hx hd hb => h4 x hx ((dvd_nrm l.1 l.2 x).mp hd) fun z => hb (kept_nrm.mpr z)⟩
/-- a lamp shines alone at a beat -/
theorem row_one {ls : List (Int × Int)} {t : Int} {i : Nat} {l : Int × Int} (e : ls[i]? = some l) : lrow ls t = [(i : Int)] ↔ l.1 ∣ t - l.2 ∧ ¬ Bright ((keptN [(i : Int)] ls).map (·.2)) t := by
  constructor
  · intro h
    constructor
    · have : (i : Int) ∈ lrow ls t := by rw [h]; exact .head _
      obtain ⟨j, ej, y, hy, hd⟩ := lrow_mem.mp this
      obtain rfl : j = i := by omega
      rw [e] at hy
      cases hy
      exact hd
    · intro hb
      obtain ⟨j, hj, y, hy, hd⟩ := kept_bright.mp hb
      have : (j : Int) ∈ lrow ls t := lrow_mem.mpr ⟨j, rfl, y, hy, hd⟩
      rw [h] at this
      exact hj this
  · rintro ⟨hd, hb⟩
    have m1 : (i : Int) ∈ lrow ls t := lrow_mem.mpr ⟨i, rfl, l, e, hd⟩
    have all : ∀ z ∈ lrow ls t, z = (i : Int) := fun z hz => by
      obtain ⟨j, ej, y, hy, hd⟩ := lrow_mem.mp hz
      refine Classical.byContradiction fun hn => hb (kept_bright.mpr ⟨j, fun hm => hn ?_, y, hy, hd⟩)
      rw [ej]
      exact List.mem_singleton.mp hm
    have nd : (lrow ls t).Nodup := (lrow_rise ls t).imp fun h => by omega
    match h : lrow ls t, m1, all, nd with
    | [x], _, all, _ => rw [all x (.head _)]
    | x :: y :: r, _, all, nd =>
      exfalso
      have h1 := all x (.head _)
      have h2 := all y (.tail _ (.head _))
      rw [h1, h2] at nd
      exact (List.nodup_cons.mp nd).1 (.head _)
/-- all of a round looked at -/
theorem alone_round {ls : List (Int × Int)} {R : Int} (R0 : 0 < R) (R1 : R ≤ 60) (hd : ∀ l ∈ ls, l.1 ∣ R) {i : Nat} {l : Int × Int} (e : ls[i]? = some l) (h : ∀ j : Nat, j < 60 → lrow ls (j : Nat) ≠ [(i : Int)]) : AloneIs ls i none := by
  refine ⟨l, e, fun n => Classical.byContradiction fun hn => ?_⟩
  have r0 := Int.emod_nonneg (l.2 + n * l.1) (show R ≠ 0 by omega)
  have r1 := Int.emod_lt_of_pos (l.2 + n * l.1) R0
  have er := Int.emod_add_mul_ediv (l.2 + n * l.1) R
  obtain ⟨j, hj⟩ : ∃ j : Nat, (l.2 + n * l.1) % R = j := ⟨((l.2 + n * l.1) % R).toNat, by omega⟩
  have per : ∀ y ∈ ls, y.1 ∣ (j : Int) - y.2 ↔ y.1 ∣ l.2 + n * l.1 - y.2 := fun y hy => by
    rw [show (j : Int) - y.2 = l.2 + n * l.1 - y.2 - R * ((l.2 + n * l.1) / R) by omega]
    exact ⟨fun z => by
      have := Int.dvd_add z (Int.dvd_trans (hd y hy) (Int.dvd_mul_right R ((l.2 + n * l.1) / R)))
      rwa [Int.sub_add_cancel] at this, fun z => Int.dvd_sub z (Int.dvd_trans (hd y hy) (Int.dvd_mul_right R _))⟩
  refine h j (by omega) ((row_one e).mpr ⟨(per l (List.mem_of_getElem? e)).mpr ⟨n, by rw [Int.mul_comm]; omega⟩, fun hb => hn ?_⟩)
  obtain ⟨k, hk, y, hy, hdy⟩ := kept_bright.mp hb
  exact kept_bright.mpr ⟨k, hk, y, hy, (per y (List.mem_of_getElem? hy)).mp hdy⟩
theorem alone_first {ls : List (Int × Int)} {i j : Nat} {l : Int × Int} (e : ls[i]? = some l) (h : ∀ k : Nat, k < j → lrow ls (k : Nat) ≠ [(i : Int)]) (hj : lrow ls (j : Nat) = [(i : Int)]) : AloneIs ls i (some (j : Nat)) := by
  obtain ⟨h1, h2⟩ := (row_one e).mp hj
  refine ⟨l, e, by omega, h1, h2, fun x hx hd hb => Classical.byContradiction fun hn => ?_⟩
  obtain ⟨k, rfl⟩ : ∃ k : Nat, x = k := ⟨x.toNat, by omega⟩
  exact h k (by omega) ((row_one e).mpr ⟨hd, hb⟩)

theorem list_ex {α : Type} {P : Nat → α → Prop} : ∀ n : Nat, (∀ i, i < n → ∃ o, P i o) → ∃ os : List α, os.length = n ∧ ∀ (i : Nat) o, os[i]? = some o → P i o
  | 0, _ => ⟨[], rfl, fun i o h => by cases h⟩
  | n + 1, h => by
    obtain ⟨os, l1, h1⟩ := list_ex n fun i hi => h i (by omega)
    obtain ⟨o, ho⟩ := h n (by omega)
    refine ⟨os ++ [o], by rw [List.length_append, l1]; rfl, fun i x hx => ?_⟩
    rcases snoc_at hx with ⟨_, g⟩ | ⟨e, rfl⟩
    · exact h1 i x g
    · rw [e, l1]
      exact ho
theorem alone_ex {ls : List (Int × Int)} (h : ∀ l ∈ ls, 0 < l.1 ∧ 0 ≤ l.2 ∧ l.2 < l.1) : ∃ os, AllAlone ls os := by
  obtain ⟨os, l1, h1⟩ := list_ex (P := fun i o => AloneIs ls i o) ls.length fun i hi => by
    have hm := List.getElem_mem hi
    refine ⟨_, ls[i], List.getElem?_eq_getElem hi, alone_is (ks := keptN [(i : Int)] ls) (h _ hm).2.1 (h _ hm).2.2 fun x hx => ?_⟩
    obtain ⟨_, j, _, e⟩ := kept_mem.mp hx
    exact (h _ (List.mem_of_getElem? e)).1
  exact ⟨os, l1, h1⟩

/-! ### the text -/
def topS (i : Nat) : Stmt := PySem.Challenge.pw_farlamps_k23_whole_the_last_look.main.body.getD i (.Pass ⟨0, 0, 0, 0⟩)
abbrev s_is_whole : Stmt := topS 9
theorem sc_is_whole : FnScope ["thing"] ["thing"] (defScope s_is_whole) := ⟨rfl, rfl, rfl, by decide +kernel, rfl, by decide +kernel, by decide +kernel⟩
abbrev s_check_beat : Stmt := topS 10
theorem sc_check_beat : FnScope ["thing"] ["thing"] (defScope s_check_beat) := ⟨rfl, rfl, rfl, by decide +kernel, rfl, by decide +kernel, by decide +kernel⟩
abbrev s_inverse : Stmt := topS 11
theorem sc_inverse : FnScope ["number", "modulus", "older", "newer", "older_times", "newer_times", "quotient"] ["number", "modulus"] (defScope s_inverse) := ⟨rfl, rfl, rfl, by decide +kernel, rfl, by decide +kernel, by decide +kernel⟩
abbrev s_Lamp_init : Stmt := inClass (topS 13) 0
theorem sc_Lamp_init : FnScope ["self", "period", "beat"] ["self", "period", "beat"] (defScope s_Lamp_init) := ⟨rfl, rfl, rfl, by decide +kernel, rfl, by decide +kernel, by decide +kernel⟩
abbrev s_Lamp_eq : Stmt := inClass (topS 13) 1
theorem sc_Lamp_eq : FnScope ["self", "other"] ["self", "other"] (defScope s_Lamp_eq) := ⟨rfl, rfl, rfl, by decide +kernel, rfl, by decide +kernel, by decide +kernel⟩
abbrev s_Lamp_next_shine : Stmt := inClass (topS 13) 3
theorem sc_Lamp_next_shine : FnScope ["self", "begin"] ["self", "begin"] (defScope s_Lamp_next_shine) := ⟨rfl, rfl, rfl, by decide +kernel, rfl, by decide +kernel, by decide +kernel⟩
abbrev s_seen_from : Stmt := topS 14
theorem sc_seen_from : FnScope ["lamp", "other", "common", "ahead", "period"] ["lamp", "other"] (defScope s_seen_from) := ⟨rfl, rfl, rfl, by decide +kernel, rfl, by decide +kernel, by decide +kernel⟩
abbrev s_l_mixed : Stmt := topS 32
theorem sc_l_mixed : FnScope ["_law_cell", "_law_k", "_law_number"] ["_law_cell", "_law_k"] (defScope s_l_mixed) := ⟨rfl, rfl, rfl, by decide +kernel, rfl, by decide +kernel, by decide +kernel⟩
abbrev s_l_source : Stmt := topS 33
theorem sc_l_source : FnScope ["_law_cell"] ["_law_cell"] (defScope s_l_source) := ⟨rfl, rfl, rfl, by decide +kernel, rfl, by decide +kernel, by decide +kernel⟩
abbrev s_l_take : Stmt := topS 34
theorem sc_l_take : FnScope ["_law_source_here", "_law_many", "_law_found"] ["_law_source_here", "_law_many"] (defScope s_l_take) := ⟨rfl, rfl, rfl, by decide +kernel, rfl, by decide +kernel, by decide +kernel⟩
abbrev s_shining_rows : Stmt := topS 19
theorem sc_shining_rows : FnScope ["numbered", "begin", "many", "rows", "number", "lamp", "offset"] ["numbered", "begin", "many"] (defScope s_shining_rows) := ⟨rfl, rfl, rfl, by decide +kernel, rfl, by decide +kernel, by decide +kernel⟩
abbrev s_copied : Stmt := topS 23
theorem sc_copied : FnScope ["lamps", "lamp"] ["lamps"] (defScope s_copied) := ⟨rfl, rfl, rfl, by decide +kernel, rfl, by decide +kernel, by decide +kernel⟩
abbrev s_Light_init : Stmt := inClass (topS 17) 0
theorem sc_Light_init : FnScope ["self", "lamps", "lamp"] ["self", "lamps"] (defScope s_Light_init) := ⟨rfl, rfl, rfl, by decide +kernel, rfl, by decide +kernel, by decide +kernel⟩
abbrev s_Light_lamps : Stmt := inClass (topS 17) 2
theorem sc_Light_lamps : FnScope ["self"] ["self"] (defScope s_Light_lamps) := ⟨rfl, rfl, rfl, by decide +kernel, rfl, by decide +kernel, by decide +kernel⟩
abbrev s_empty_places : Stmt := topS 21
theorem sc_empty_places : FnScope ["rows", "place", "row"] ["rows"] (defScope s_empty_places) := ⟨rfl, rfl, rfl, by decide +kernel, rfl, by decide +kernel, by decide +kernel⟩
abbrev s_least_paper : Stmt := topS 22
theorem sc_least_paper : FnScope ["rows", "row"] ["rows"] (defScope s_least_paper) := ⟨rfl, rfl, rfl, by decide +kernel, rfl, by decide +kernel, by decide +kernel⟩
abbrev s_l_made : Stmt := topS 36
theorem sc_l_made : FnScope ["_law_ones", "_law_period", "_law_beat"] ["_law_ones"] (defScope s_l_made) := ⟨rfl, rfl, rfl, by decide +kernel, rfl, by decide +kernel, by decide +kernel⟩
abbrev s_seen_rows : Stmt := topS 20
theorem sc_seen_rows : FnScope ["lamp", "numbered", "first", "many", "seen", "number", "other"] ["lamp", "numbered", "first", "many"] (defScope s_seen_rows) := ⟨rfl, rfl, rfl, by decide +kernel, rfl, by decide +kernel, by decide +kernel⟩
abbrev s_l_one : Stmt := topS 35
theorem sc_l_one : FnScope ["_law_source_here", "_law_some"] ["_law_source_here", "_law_some"] (defScope s_l_one) := ⟨rfl, rfl, rfl, by decide +kernel, rfl, by decide +kernel, by decide +kernel⟩
abbrev s_check_numbers : Stmt := topS 18
theorem sc_check_numbers : FnScope ["light", "numbers", "many", "place", "thing"] ["light", "numbers"] (defScope s_check_numbers) := ⟨rfl, rfl, rfl, by decide +kernel, rfl, by decide +kernel, by decide +kernel⟩
abbrev s_going : Stmt := topS 29
theorem sc_going : FnScope ["light", "numbers", "lamps", "kept", "number", "lamp"] ["light", "numbers"] (defScope s_going) := ⟨rfl, rfl, rfl, by decide +kernel, rfl, by decide +kernel, by decide +kernel⟩
abbrev s_first_left : Stmt := topS 30
theorem sc_first_left : FnScope ["lamp", "rows", "left"] ["lamp", "rows"] (defScope s_first_left) := ⟨rfl, rfl, rfl, by decide +kernel, rfl, by decide +kernel, by decide +kernel⟩
abbrev s_beats_alone : Stmt := topS 28
theorem sc_beats_alone : FnScope ["light", "every", "number", "lamp", "rows"] ["light"] (defScope s_beats_alone) := ⟨rfl, rfl, rfl, by decide +kernel, rfl, by decide +kernel, by decide +kernel⟩
abbrev s_idle : Stmt := topS 25
theorem sc_idle : FnScope ["light", "number", "beat"] ["light"] (defScope s_idle) := ⟨rfl, rfl, rfl, by decide +kernel, rfl, by decide +kernel, by decide +kernel⟩
abbrev s_needed : Stmt := topS 26
theorem sc_needed : FnScope ["light", "number", "beat"] ["light"] (defScope s_needed) := ⟨rfl, rfl, rfl, by decide +kernel, rfl, by decide +kernel, by decide +kernel⟩
abbrev s_may_go : Stmt := topS 27
theorem sc_may_go : FnScope ["light", "numbers", "going", "beats", "lost", "lamp", "rows", "beat"] ["light", "numbers"] (defScope s_may_go) := ⟨rfl, rfl, rfl, by decide +kernel, rfl, by decide +kernel, by decide +kernel⟩
abbrev s_l_common : Stmt := topS 40
theorem sc_l_common : FnScope ["_law_one_here", "_law_other"] ["_law_one_here", "_law_other"] (defScope s_l_common) := ⟨rfl, rfl, rfl, by decide +kernel, rfl, by decide +kernel, by decide +kernel⟩
abbrev s_l_mixed_up : Stmt := topS 37
theorem sc_l_mixed_up : FnScope ["_law_source_here", "_law_some", "_law_rest", "_law_found"] ["_law_source_here", "_law_some"] (defScope s_l_mixed_up) := ⟨rfl, rfl, rfl, by decide +kernel, rfl, by decide +kernel, by decide +kernel⟩
abbrev s_l_great : Stmt := topS 38
theorem sc_l_great : FnScope ["_law_source_here", "_law_found", "_law_part"] ["_law_source_here"] (defScope s_l_great) := ⟨rfl, rfl, rfl, by decide +kernel, rfl, by decide +kernel, by decide +kernel⟩
abbrev s_l_seen_as : Stmt := topS 39
theorem sc_l_seen_as : FnScope ["_law_source_here", "_law_lamp", "_law_period", "_law_look", "_law_most", "_law_beat", "_law_part"] ["_law_source_here", "_law_lamp", "_law_period", "_law_look"] (defScope s_l_seen_as) := ⟨rfl, rfl, rfl, by decide +kernel, rfl, by decide +kernel, by decide +kernel⟩
abbrev s_l_others : Stmt := topS 41
theorem sc_l_others : FnScope ["_law_source_here", "_law_lamp", "_law_many", "_law_last", "_law_k"] ["_law_source_here", "_law_lamp", "_law_many"] (defScope s_l_others) := ⟨rfl, rfl, rfl, by decide +kernel, rfl, by decide +kernel, by decide +kernel⟩
abbrev s_l_more_right : Stmt := topS 43
theorem sc_l_more_right : FnScope ["_law_source_here", "_law_lamp", "_law_many", "_law_order", "_law_some", "_law_made_here", "_law_paper", "_law_at", "_law_apart", "_law_lit", "_law_place", "_law_rare", "_law_j", "_law_k"] ["_law_source_here", "_law_lamp", "_law_many", "_law_order", "_law_some"] (defScope s_l_more_right) := ⟨rfl, rfl, rfl, by decide +kernel, rfl, by decide +kernel, by decide +kernel⟩
abbrev s_l_right : Stmt := topS 42
theorem sc_l_right : FnScope ["_law_source_here", "_law_most", "_law_lamp", "_law_many", "_law_ones", "_law_order", "_law_some", "_law_place", "_law_made_here", "_law_beat", "_law_more", "_law_at", "_law_k"] ["_law_source_here"] (defScope s_l_right) := ⟨rfl, rfl, rfl, by decide +kernel, rfl, by decide +kernel, by decide +kernel⟩
abbrev s_l_law : Stmt := topS 44
theorem sc_l_law : FnScope ["_law_script", "_law_cell"] ["_law_script"] (defScope s_l_law) := ⟨rfl, rfl, rfl, by decide +kernel, rfl, by decide +kernel, by decide +kernel⟩
set_option maxHeartbeats 4000000 in
/-- what the top leaves: where each def stands -/
structure Top (K : PySem.W.Frag) (mg : Str → Option Value) where
  C_Lamp : Addr
  cl_Lamp : Cls K C_Lamp
  gC_Lamp : mg "Lamp" = some (.ref C_Lamp)
  kl_Lamp : Kls K C_Lamp
  na_Lamp_period : NoAttr K C_Lamp "period"
  na_Lamp_beat : NoAttr K C_Lamp "beat"
  C_Light : Addr
  cl_Light : Cls K C_Light
  gC_Light : mg "Light" = some (.ref C_Light)
  kl_Light : Kls K C_Light
  na_Light__lamps : NoAttr K C_Light "_lamps"
  f_is_whole : Addr
  d_is_whole : FuncData
  F_is_whole : Fun K "is_whole" "is_whole" s_is_whole f_is_whole d_is_whole
  g_is_whole : mg "is_whole" = some (.ref f_is_whole)
  b_is_whole : Binds K d_is_whole ["thing"] []
  f_check_beat : Addr
  d_check_beat : FuncData
  F_check_beat : Fun K "check_beat" "check_beat" s_check_beat f_check_beat d_check_beat
  g_check_beat : mg "check_beat" = some (.ref f_check_beat)
  b_check_beat : Binds K d_check_beat ["thing"] []
  f_inverse : Addr
  d_inverse : FuncData
  F_inverse : Fun K "inverse" "inverse" s_inverse f_inverse d_inverse
  g_inverse : mg "inverse" = some (.ref f_inverse)
  b_inverse : Binds K d_inverse ["number", "modulus"] []
  f_Lamp_init : Addr
  d_Lamp_init : FuncData
  F_Lamp_init : Fun K "__init__" "Lamp.__init__" s_Lamp_init f_Lamp_init d_Lamp_init
  m_Lamp_init : Meth K C_Lamp "__init__" f_Lamp_init
  mk_Lamp : Mk K C_Lamp f_Lamp_init
  b_Lamp_init : Binds K d_Lamp_init ["self", "period", "beat"] []
  f_Lamp_eq : Addr
  d_Lamp_eq : FuncData
  F_Lamp_eq : Fun K "__eq__" "Lamp.__eq__" s_Lamp_eq f_Lamp_eq d_Lamp_eq
  m_Lamp_eq : Meth K C_Lamp "__eq__" f_Lamp_eq
  b_Lamp_eq : Binds K d_Lamp_eq ["self", "other"] []
  f_Lamp_next_shine : Addr
  d_Lamp_next_shine : FuncData
  F_Lamp_next_shine : Fun K "next_shine" "Lamp.next_shine" s_Lamp_next_shine f_Lamp_next_shine d_Lamp_next_shine
  m_Lamp_next_shine : Meth K C_Lamp "next_shine" f_Lamp_next_shine
  b_Lamp_next_shine : Binds K d_Lamp_next_shine ["self", "begin"] []
  f_seen_from : Addr
  d_seen_from : FuncData
  F_seen_from : Fun K "seen_from" "seen_from" s_seen_from f_seen_from d_seen_from
  g_seen_from : mg "seen_from" = some (.ref f_seen_from)
  b_seen_from : Binds K d_seen_from ["lamp", "other"] []
  f_l_mixed : Addr
  d_l_mixed : FuncData
  F_l_mixed : Fun K "_law_mixed" "_law_mixed" s_l_mixed f_l_mixed d_l_mixed
  g_l_mixed : mg "_law_mixed" = some (.ref f_l_mixed)
  b_l_mixed : Binds K d_l_mixed ["_law_cell", "_law_k"] []
  f_l_source : Addr
  d_l_source : FuncData
  F_l_source : Fun K "_law_source" "_law_source" s_l_source f_l_source d_l_source
  g_l_source : mg "_law_source" = some (.ref f_l_source)
  b_l_source : Binds K d_l_source ["_law_cell"] []
  f_l_take : Addr
  d_l_take : FuncData
  F_l_take : Fun K "_law_take" "_law_take" s_l_take f_l_take d_l_take
  g_l_take : mg "_law_take" = some (.ref f_l_take)
  b_l_take : Binds K d_l_take ["_law_source_here", "_law_many"] []
  f_shining_rows : Addr
  d_shining_rows : FuncData
  F_shining_rows : Fun K "shining_rows" "shining_rows" s_shining_rows f_shining_rows d_shining_rows
  g_shining_rows : mg "shining_rows" = some (.ref f_shining_rows)
  b_shining_rows : Binds K d_shining_rows ["numbered", "begin", "many"] []
  f_copied : Addr
  d_copied : FuncData
  F_copied : Fun K "_copied" "_copied" s_copied f_copied d_copied
  g_copied : mg "_copied" = some (.ref f_copied)
  b_copied : Binds K d_copied ["lamps"] []
  f_Light_init : Addr
  d_Light_init : FuncData
  F_Light_init : Fun K "__init__" "Light.__init__" s_Light_init f_Light_init d_Light_init
  m_Light_init : Meth K C_Light "__init__" f_Light_init
  mk_Light : Mk K C_Light f_Light_init
  b_Light_init : Binds K d_Light_init ["self", "lamps"] []
  f_Light_lamps : Addr
  d_Light_lamps : FuncData
  F_Light_lamps : Fun K "lamps" "Light.lamps" s_Light_lamps f_Light_lamps d_Light_lamps
  m_Light_lamps : Meth K C_Light "lamps" f_Light_lamps
  b_Light_lamps : Binds K d_Light_lamps ["self"] []
  f_empty_places : Addr
  d_empty_places : FuncData
  F_empty_places : Fun K "empty_places" "empty_places" s_empty_places f_empty_places d_empty_places
  g_empty_places : mg "empty_places" = some (.ref f_empty_places)
  b_empty_places : Binds K d_empty_places ["rows"] []
  f_least_paper : Addr
  d_least_paper : FuncData
  F_least_paper : Fun K "least_paper" "least_paper" s_least_paper f_least_paper d_least_paper
  g_least_paper : mg "least_paper" = some (.ref f_least_paper)
  b_least_paper : Binds K d_least_paper ["rows"] []
  f_l_made : Addr
  d_l_made : FuncData
  F_l_made : Fun K "_law_made" "_law_made" s_l_made f_l_made d_l_made
  g_l_made : mg "_law_made" = some (.ref f_l_made)
  b_l_made : Binds K d_l_made ["_law_ones"] []
  f_seen_rows : Addr
  d_seen_rows : FuncData
  F_seen_rows : Fun K "seen_rows" "seen_rows" s_seen_rows f_seen_rows d_seen_rows
  g_seen_rows : mg "seen_rows" = some (.ref f_seen_rows)
  b_seen_rows : Binds K d_seen_rows ["lamp", "numbered", "first", "many"] []
  f_l_one : Addr
  d_l_one : FuncData
  F_l_one : Fun K "_law_one" "_law_one" s_l_one f_l_one d_l_one
  g_l_one : mg "_law_one" = some (.ref f_l_one)
  b_l_one : Binds K d_l_one ["_law_source_here", "_law_some"] []
  f_check_numbers : Addr
  d_check_numbers : FuncData
  F_check_numbers : Fun K "check_numbers" "check_numbers" s_check_numbers f_check_numbers d_check_numbers
  g_check_numbers : mg "check_numbers" = some (.ref f_check_numbers)
  b_check_numbers : Binds K d_check_numbers ["light", "numbers"] []
  f_going : Addr
  d_going : FuncData
  F_going : Fun K "_going" "_going" s_going f_going d_going
  g_going : mg "_going" = some (.ref f_going)
  b_going : Binds K d_going ["light", "numbers"] []
  f_first_left : Addr
  d_first_left : FuncData
  F_first_left : Fun K "_first_left" "_first_left" s_first_left f_first_left d_first_left
  g_first_left : mg "_first_left" = some (.ref f_first_left)
  b_first_left : Binds K d_first_left ["lamp", "rows"] []
  f_beats_alone : Addr
  d_beats_alone : FuncData
  F_beats_alone : Fun K "_beats_alone" "_beats_alone" s_beats_alone f_beats_alone d_beats_alone
  g_beats_alone : mg "_beats_alone" = some (.ref f_beats_alone)
  b_beats_alone : Binds K d_beats_alone ["light"] []
  f_idle : Addr
  d_idle : FuncData
  F_idle : Fun K "idle" "idle" s_idle f_idle d_idle
  g_idle : mg "idle" = some (.ref f_idle)
  b_idle : Binds K d_idle ["light"] []
  f_needed : Addr
  d_needed : FuncData
  F_needed : Fun K "needed" "needed" s_needed f_needed d_needed
  g_needed : mg "needed" = some (.ref f_needed)
  b_needed : Binds K d_needed ["light"] []
  f_may_go : Addr
  d_may_go : FuncData
  F_may_go : Fun K "may_go" "may_go" s_may_go f_may_go d_may_go
  g_may_go : mg "may_go" = some (.ref f_may_go)
  b_may_go : Binds K d_may_go ["light", "numbers"] []
  f_l_common : Addr
  d_l_common : FuncData
  F_l_common : Fun K "_law_common" "_law_common" s_l_common f_l_common d_l_common
  g_l_common : mg "_law_common" = some (.ref f_l_common)
  b_l_common : Binds K d_l_common ["_law_one_here", "_law_other"] []
  f_l_mixed_up : Addr
  d_l_mixed_up : FuncData
  F_l_mixed_up : Fun K "_law_mixed_up" "_law_mixed_up" s_l_mixed_up f_l_mixed_up d_l_mixed_up
  g_l_mixed_up : mg "_law_mixed_up" = some (.ref f_l_mixed_up)
  b_l_mixed_up : Binds K d_l_mixed_up ["_law_source_here", "_law_some"] []
  f_l_great : Addr
  d_l_great : FuncData
  F_l_great : Fun K "_law_great" "_law_great" s_l_great f_l_great d_l_great
  g_l_great : mg "_law_great" = some (.ref f_l_great)
  b_l_great : Binds K d_l_great ["_law_source_here"] []
  f_l_seen_as : Addr
  d_l_seen_as : FuncData
  F_l_seen_as : Fun K "_law_seen_as" "_law_seen_as" s_l_seen_as f_l_seen_as d_l_seen_as
  g_l_seen_as : mg "_law_seen_as" = some (.ref f_l_seen_as)
  b_l_seen_as : Binds K d_l_seen_as ["_law_source_here", "_law_lamp", "_law_period", "_law_look"] []
  f_l_others : Addr
  d_l_others : FuncData
  F_l_others : Fun K "_law_others" "_law_others" s_l_others f_l_others d_l_others
  g_l_others : mg "_law_others" = some (.ref f_l_others)
  b_l_others : Binds K d_l_others ["_law_source_here", "_law_lamp", "_law_many"] []
  f_l_more_right : Addr
  d_l_more_right : FuncData
  F_l_more_right : Fun K "_law_more_right" "_law_more_right" s_l_more_right f_l_more_right d_l_more_right
  g_l_more_right : mg "_law_more_right" = some (.ref f_l_more_right)
  b_l_more_right : Binds K d_l_more_right ["_law_source_here", "_law_lamp", "_law_many", "_law_order", "_law_some"] []
  f_l_right : Addr
  d_l_right : FuncData
  F_l_right : Fun K "_law_right" "_law_right" s_l_right f_l_right d_l_right
  g_l_right : mg "_law_right" = some (.ref f_l_right)
  b_l_right : Binds K d_l_right ["_law_source_here"] []
  f_l_law : Addr
  d_l_law : FuncData
  F_l_law : Fun K "law" "law" s_l_law f_l_law d_l_law
  g_l_law : mg "law" = some (.ref f_l_law)
  b_l_law : Binds K d_l_law ["_law_script"] []
  ne_Lamp : NeK K C_Lamp
  n_isinstance : mg "isinstance" = none
  n_int : mg "int" = none
  n_bool : mg "bool" = none
  n_range : mg "range" = none
  n_len : mg "len" = none
  n_list : mg "list" = none
  n_enumerate : mg "enumerate" = none
  n_tuple : mg "tuple" = none
  n_all : mg "all" = none
  n_sorted : mg "sorted" = none
  n_min : mg "min" = none
  n_dict : mg "dict" = none
  t_MOST_LAMPS : Tok
  c_MOST_LAMPS : mg "MOST_LAMPS" = some (.int 10 t_MOST_LAMPS)
  ic_Lamp : PySem.W.isClsIn K C_Lamp = true
  tc_Lamp : PySem.W.typeIn K (.ref C_Lamp) = some (.type "type")
  sn_Lamp : PySem.W.subIn K (.type "NoneType") (.ref C_Lamp) = some false
  i_gcd : mg "gcd" = some (.builtin "math.gcd")
section
variable {P : Program} {w : World} {K : PySem.W.Frag} {mg : Str → Option Value} {base : Heap}
/-! ### whole numbers -/
def spWhole : Sp := fun vs H Q _ => ∃ z : Int, vs = [.int z] ∧ Q (.bl true) H
theorem ok_is_whole (T : Top K mg) : FnOk P w K mg base CX0 1 T.f_is_whole T.d_is_whole ["thing"] spWhole := by
  refine T.F_is_whole.ok sc_is_whole (fun vs H Q E h => ?_) (fun cdv A outer s H vs Q E hr h => ?_)
  · obtain ⟨z, rfl, _⟩ := h; rfl
  · obtain ⟨z, rfl, q⟩ := h
    refine ⟨_, (pss_one (ps_ret (pe_and (pe_callB call_isi (by rfl) T.n_isinstance (by decide +kernel) (pa_cons (pv 0) (pa_cons (pe_bltn (v := .ty "int") (by rfl) T.n_int (by decide +kernel) rfl) pa_nil))) (pe_one (pe_not (pe_callB call_isi (by rfl) T.n_isinstance (by decide +kernel) (pa_cons (pv 0) (pa_cons (pe_bltn (v := .ty "bool") (by rfl) T.n_bool (by decide +kernel) rfl) pa_nil)))))))), ?_⟩
    exact ⟨_, rfl, _, _, _, _, true, rfl, .ty _, .base (.int z), kit_ty (by decide +kernel), true, rfl, iteT ⟨_, rfl, _, _, _, _, false, rfl, .ty _, .base (.int z), kit_ty (by decide +kernel), false, rfl, q⟩⟩
def spCheckBeat : Sp := fun vs H Q _ => ∃ z : Int, vs = [.int z] ∧ Q .non H
theorem ok_check_beat (T : Top K mg) : FnOk P w K mg base CX0 2 T.f_check_beat T.d_check_beat ["thing"] spCheckBeat := by
  have G_is_whole := ok_is_whole (P := P) (w := w) (base := base) T
  refine T.F_check_beat.ok sc_check_beat (fun vs H Q E h => ?_) (fun cdv A outer s H vs Q E hr h => ?_)
  · obtain ⟨z, rfl, _⟩ := h; rfl
  · obtain ⟨z, rfl, q⟩ := h
    refine ⟨_, (pss_one (ps_if (pt_not (pt_val (pe_call G_is_whole (hr.mono (by decide)) rfl T.g_is_whole T.F_is_whole.kp T.b_is_whole .nil pass0 (pa_cons (pv 0) pa_nil)))) (pss_one (ps_never)) pss_nil)), ?_⟩
    exact ⟨_, rfl, z, rfl, true, rfl, iteF q⟩
def spInverse : Sp := fun vs H Q _ => ∃ a m : Int, vs = [.int a, .int m] ∧ 0 < m ∧ m.natAbs < 2 ^ E8 ∧ Int.gcd m a = 1 ∧ ∀ r : Int, 0 ≤ r ∧ r < m ∧ m ∣ a * r - 1 → ∀ H', Same H H' → Q (.int r) H'
theorem fmod_pos {a b : Int} (h : 0 < b) : a.fmod b = a % b := Int.fmod_eq_emod_of_nonneg a (by omega)
theorem ok_inverse (T : Top K mg) : FnOk P w K mg base CX0 1 T.f_inverse T.d_inverse ["number", "modulus"] spInverse := by
  refine T.F_inverse.ok sc_inverse (fun vs H Q E h => ?_) (fun cdv A outer s H vs Q E hr h => ?_)
  · obtain ⟨a, m, rfl, _⟩ := h; rfl
  · obtain ⟨a, m, rfl, hm, hb, hg, q⟩ := h
    refine ⟨_, (pss_cons (ps_par (i := 2) (j := 3) (by rfl) sc_inverse.nd rfl rfl (by decide) rfl rfl (pa_cons (pv 1) (pa_cons (pe_op op_modN (pv 0) (pv 1)) pa_nil)) (by rfl))
      (pss_cons (ps_asg (pe_tup (pa_cons pe_int (pa_cons pe_int pa_nil))) (pg_tup (by rfl) (pgs_cons (pg_name (i := 4) sc_inverse.nd rfl (Or.inl rfl)) (pgs_cons (pg_name (i := 5) sc_inverse.nd rfl (Or.inl rfl)) pgs_nil))))
      (pss_cons (ps_while PassesOwn.never (pt_cmpR op_gt (pv 3) pe_int (nomark _)) (pss_cons (ps_set (i := 6) sc_inverse.nd rfl (Or.inl rfl) (pe_op op_fdivW (pv 2) (pv 3)))
      (pss_cons (ps_par (i := 2) (j := 3) (by rfl) sc_inverse.nd rfl rfl (by decide) rfl rfl (pa_cons (pv 3) (pa_cons (pe_op op_sub (pv 2) (pe_op op_mulW (pv 6) (pv 3))) pa_nil)) (by rfl))
      (pss_one (ps_par (i := 4) (j := 5) (by rfl) sc_inverse.nd rfl rfl (by decide) rfl rfl (pa_cons (pv 5) (pa_cons (pe_op op_sub (pv 4) (pe_op op_mulW (pv 6) (pv 5))) pa_nil)) (by rfl))))))
      (pss_one (ps_ret (pe_op op_modN (pv 4) (pv 1))))))), ?_⟩
    refine ⟨_, rfl, _, rfl, _, rfl, _, _, rfl, rfl, (by omega), _, _, rfl, ?_⟩
    refine ⟨(by show 2 ≤ sizeLine; decide), fun p hp => ?_⟩
    have s1 : Same H (upd H p (.tup [.int 0, .int 1])) := fun b o e => by rw [upd_ne (ne_of_none e hp)]; exact e
    refine ⟨p, _, rfl, SqT.of upd_same, rfl, _, _, rfl, _, _, rfl, rfl, ?_⟩
    have lt8 : ∀ z : Int, 0 ≤ z → z ≤ m → z.natAbs < 2 ^ E8 := fun z h0 h1 => Nat.lt_of_le_of_lt (by omega) hb
    refine while_by (fun σ H' => ∃ (o n ot nt : Int) (v : Option V), σ = [some (.int a), some (.int m), some (.int o), some (.int n), some (.int ot), some (.int nt), v] ∧ InvI a m o n ot nt ∧ (o ≤ m ∧ n ≤ m) ∧ Same H H')
      (fun σ _ => match σ with | [_, _, _, some (.int n), _, _, _] => n.toNat | _ => 0) ⟨m, a % m, 0, 1, none, by rw [← fmod_pos hm]; rfl, InvI.start hm hg, ⟨Int.le_refl _, Int.le_of_lt (Int.emod_lt_of_pos _ hm)⟩, s1⟩ ?_
      (fun σ H Q Q' hq ⟨v, hv, i, j, e1, e2, k, e3, h⟩ => ⟨v, hv, i, j, e1, e2, k, e3, hq _ _ h⟩)
    rintro σ H' ⟨o, n, ot, nt, v, rfl, I, ⟨hle, no⟩, s2⟩
    refine ⟨_, rfl, _, _, rfl, rfl, _, rfl, ite2 (fun c => ?_) (fun c => ?_)⟩
    · have hn : 0 < n := of_decide_eq_true c
      have o0 := I.o0
      have q0 : 0 ≤ o / n := Int.ediv_nonneg (by omega) (by omega)
      have q1 : o / n ≤ o := Int.ediv_le_self _ (by omega)
      have J := I.step hn
      have e0 : o - o / n * n = o % n := by
        have := Int.emod_add_mul_ediv o n
        rw [Int.mul_comm] at this
        omega
      have nlt : o % n < n := Int.emod_lt_of_pos _ hn
      have bn := lt8 n (by omega) no
      have bq := lt8 (o / n) q0 (by omega)
      have bt : nt.natAbs < 2 ^ E8 := Nat.lt_of_le_of_lt (by have := I.nt_le; omega) hb
      refine ⟨_, rfl, _, rfl, o, n, rfl, rfl, wide_div hn bn (by decide) (by decide), ?_⟩
      refine ⟨_, rfl, _, rfl, _, rfl, _, rfl, _, _, rfl, rfl, wide_mul bq bn (by decide) (by decide) (by decide), _, _, rfl, rfl, _, _, rfl, ?_⟩
      refine ⟨_, rfl, _, rfl, _, rfl, _, rfl, _, _, rfl, rfl, wide_mul bq bt (by decide) (by decide) (by decide), _, _, rfl, rfl, _, _, rfl, ?_⟩
      refine ⟨⟨n, o - o / n * n, nt, ot - o / n * nt, _, rfl, J, ⟨no, by omega⟩, s2⟩, ?_⟩
      show (o - o / n * n).toNat < n.toNat
      omega
    · have hn : n = 0 := by
        have := of_decide_eq_false (Bool.eq_false_iff.mpr c)
        have := I.n0
        omega
      subst hn
      refine ⟨_, rfl, _, rfl, _, _, rfl, rfl, (by omega), ?_⟩
      show Q (V.int (ot.fmod m)) H'
      rw [fmod_pos hm]
      exact q _ (I.fin hm) _ s2
end

section
variable {P : Program} {w : World} {K : PySem.W.Frag} {mg : Str → Option Value} {base : Heap}
/-! ### a lamp: its fields -/
theorem lpb : ¬ (("period" : Str) = "beat") := by decide +kernel
def lf (p b : Int) : List (Str × V) := putF "beat" (.int b) (putF "period" (.int p) [])
theorem lf_period (p b : Int) : (lf p b).lookup ("period" : Str) = some (.int p) := by
  unfold lf
  rw [lookup_putF, if_neg lpb, lookup_putF, if_pos rfl]
theorem lf_beat (p b : Int) : (lf p b).lookup ("beat" : Str) = some (.int b) := by
  unfold lf
  rw [lookup_putF, if_pos rfl]
theorem lf_no (p b : Int) {m : Str} (h1 : ¬ m = "beat") (h2 : ¬ m = "period") : (lf p b).lookup m = none := by
  unfold lf
  rw [lookup_putF, if_neg h1, lookup_putF, if_neg h2]
  all_goals rfl
/-- a Lamp of period p and beat b stands at a -/
def LampAt (C : Addr) (H : Hp) (a : Addr) (p b : Int) : Prop := ∃ dx, H a = some (.ins C dx (lf p b))
theorem LampAt.same {C : Addr} {H H' : Hp} {a : Addr} {p b : Int} (h : LampAt C H a p b) (s : Same H H') : LampAt C H' a p b := let ⟨dx, e⟩ := h; ⟨dx, s _ _ e⟩
theorem LampAt.eq {C : Addr} {H : Hp} {a : Addr} {p b p' b' : Int} (h : LampAt C H a p b) (h' : LampAt C H a p' b') : p = p' ∧ b = b' := by
  obtain ⟨dx, e⟩ := h
  obtain ⟨dx', e'⟩ := h'
  rw [e] at e'
  have e2 : lf p b = lf p' b' := by
    injection e' with e'
    injection e'
  have h1 := lf_period p b
  have h2 := lf_beat p b
  rw [e2, lf_period] at h1
  rw [e2, lf_beat] at h2
  injection h1 with h1
  injection h1 with h1
  injection h2 with h2
  injection h2 with h2
  exact ⟨h1.symm, h2.symm⟩
theorem dec_int {a b : Int} : decide (V.int a = V.int b) = decide (a = b) := by
  by_cases h : a = b
  · rw [decide_eq_true h, decide_eq_true (by rw [h])]
  · rw [decide_eq_false h, decide_eq_false (by intro e; injection e with e; exact h e)]
/-! ### made -/
def spLampInit (C : Addr) : Sp := fun vs H Q _ => ∃ (x dx : Addr) (p b : Int), vs = [.ref x, .int p, .int b] ∧ H x = some (.ins C dx []) ∧ 0 < p ∧ ∀ H', LampAt C H' x p (b % p) → (∀ c o, H c = some o → c ≠ x → H' c = some o) → Q .non H'
theorem ok_Lamp_init (T : Top K mg) : FnOk P w K mg base CX0 2 T.f_Lamp_init T.d_Lamp_init ["self", "period", "beat"] (spLampInit T.C_Lamp) := by
  have G_is_whole := ok_is_whole (P := P) (w := w) (base := base) T
  refine T.F_Lamp_init.ok sc_Lamp_init (fun vs H Q E h => ?_) (fun cdv A outer s H vs Q E hr h => ?_)
  · obtain ⟨x, dx, p, b, rfl, _⟩ := h; rfl
  · obtain ⟨x, dx, p, b, rfl, hx, hp, q⟩ := h
    refine ⟨_, (pss_cons (ps_if (PW.pt (pw_or (pt_not (pt_val (pe_call G_is_whole (hr.mono (by decide)) rfl T.g_is_whole T.F_is_whole.kp T.b_is_whole .nil pass0 (pa_cons (pv 1) pa_nil)))) (pw_or1 (pt_cmpR op_lt (pv 1) pe_int (nomark _))))) (pss_one (ps_never)) pss_nil)
      (pss_cons (ps_if (pt_not (pt_val (pe_call G_is_whole (hr.mono (by decide)) rfl T.g_is_whole T.F_is_whole.kp T.b_is_whole .nil pass0 (pa_cons (pv 2) pa_nil)))) (pss_one (ps_never)) pss_nil)
      (pss_cons (ps_fld (pv 0) (pv 1) rfl)
      (pss_one (ps_fld (pv 0) (pe_op op_modN (pv 2) (pv 1)) rfl))))), ?_⟩
    refine ⟨_, rfl, p, rfl, true, rfl, iteF ⟨_, rfl, _, _, rfl, rfl, _, rfl, ite2 (fun c => absurd (of_decide_eq_true c) (by omega)) (fun _ => ?_)⟩⟩
    refine ⟨_, rfl, b, rfl, true, rfl, iteF ?_⟩
    refine ⟨_, rfl, _, rfl, x, T.C_Lamp, dx, [], rfl, hx, T.cl_Lamp, T.na_Lamp_period, (by show 0 < 1000; decide), ?_⟩
    refine ⟨_, rfl, _, rfl, _, _, rfl, rfl, (by omega), _, rfl, x, T.C_Lamp, dx, _, rfl, upd_same, T.cl_Lamp, T.na_Lamp_beat, (by show 1 < 1000; decide), ?_⟩
    refine q _ ⟨dx, ?_⟩ fun c o e hc => by rw [upd_ne hc, upd_ne hc]; exact e
    rw [upd_same]
    show some (HO.ins T.C_Lamp dx (putF "beat" (V.int (b.fmod p)) (putF "period" (V.int p) []))) = _
    rw [fmod_pos hp]
    rfl
/-- Lamp(p, b): the arguments' reading ends in this -/
theorem make_lamp {C : Addr} {p b : Int} {vs : List V} {H : Hp} {Q : VK} {E : XK} (hv : vs = [.int p, .int b]) (hp : 0 < p) (q : ∀ a H', H a = none → Same H H' → LampAt C H' a p (b % p) → Q (.ref a) H') :
    ∀ x dx, H x = none → H dx = none → dx ≠ x → spLampInit C (.ref x :: (vs ++ [])) (upd (upd H dx (.own x)) x (.ins C dx [])) (fun v H2 => v = .non ∧ Q (.ref x) H2) E :=
  fun x dx nx nd _ => ⟨x, dx, p, b, by rw [hv]; rfl, upd_same, hp, fun H' h k => ⟨rfl, q x H' nx (Same.made nx nd k) h⟩⟩
/-! ### == -/
def spLampEq (K : PySem.W.Frag) (C : Addr) : Sp := fun vs H Q _ => ∃ (a : Addr) (p b : Int) (y : V), vs = [.ref a, y] ∧ LampAt C H a p b ∧
  ((∃ (c : Addr) (p' b' : Int), y = .ref c ∧ LampAt C H c p' b' ∧ Q (.bl (decide (p = p' ∧ b = b'))) H) ∨ (∃ t, TyX K H y t ∧ PySem.W.kitOne K t (.ref C) = some false ∧ Q (.bl false) H))
theorem ok_Lamp_eq (T : Top K mg) : FnOk P w K mg base CX0 1 T.f_Lamp_eq T.d_Lamp_eq ["self", "other"] (spLampEq K T.C_Lamp) := by
  refine T.F_Lamp_eq.ok sc_Lamp_eq (fun vs H Q E h => ?_) (fun cdv A outer s H vs Q E hr h => ?_)
  · obtain ⟨a, p, b, y, rfl, _⟩ := h; rfl
  · obtain ⟨a, p, b, y, rfl, ⟨dx, ha⟩, h⟩ := h
    refine ⟨_, (pss_one (ps_ret (pe_and (pe_callB call_isi (by rfl) T.n_isinstance (by decide +kernel) (pa_cons (pv 1) (pa_cons (pe_glob (v := .ref T.C_Lamp) rfl T.gC_Lamp rfl) pa_nil))) (pe_and (pe_cmpR op_eq (pe_fld (pv 0) rfl) (pe_fld (pv 1) rfl) (nomark _)) (pe_one (pe_cmpR op_eq (pe_fld (pv 0) rfl) (pe_fld (pv 1) rfl) (nomark _))))))), ?_⟩
    rcases h with ⟨c, p', b', rfl, ⟨dc, hc⟩, q⟩ | ⟨t, ty, kt, q⟩
    · refine ⟨_, rfl, _, _, _, _, true, rfl, .own _, T.kl_Lamp.ty hc, (by unfold PySem.W.kitOne; rw [if_pos (by simp)]), true, rfl, iteT ?_⟩
      refine ⟨_, rfl, a, T.C_Lamp, dx, _, _, rfl, ha, T.cl_Lamp, T.na_Lamp_period, lf_period _ _, _, rfl, c, T.C_Lamp, dc, _, _, rfl, hc, T.cl_Lamp, T.na_Lamp_period, lf_period _ _, rfl, _, rfl, ?_⟩
      rw [dec_int]
      refine ite2 (fun e => ?_) (fun e => ?_)
      · refine ⟨_, rfl, a, T.C_Lamp, dx, _, _, rfl, ha, T.cl_Lamp, T.na_Lamp_beat, lf_beat _ _, _, rfl, c, T.C_Lamp, dc, _, _, rfl, hc, T.cl_Lamp, T.na_Lamp_beat, lf_beat _ _, rfl, ?_⟩
        have e1 : p = p' := of_decide_eq_true e
        show Q (V.bl (decide (V.int b = V.int b'))) H
        rw [dec_int, show decide (b = b') = decide (p = p' ∧ b = b') by simp [e1]]
        exact q
      · have e1 : ¬ p = p' := fun z => e (decide_eq_true z)
        rw [show decide (p = p' ∧ b = b') = false by simp [e1]] at q
        exact q
    · exact ⟨_, rfl, _, _, _, _, false, rfl, .own _, ty, kt, false, rfl, iteF q⟩
/-! ### shines -/
def spShines (C : Addr) : Sp := fun vs H Q _ => ∃ (a : Addr) (p b t : Int), vs = [.ref a, .int t] ∧ LampAt C H a p b ∧ 0 < p ∧ Q (.bl (decide (p ∣ t - b))) H
end

section
variable {P : Program} {w : World} {K : PySem.W.Frag} {mg : Str → Option Value} {base : Heap}
def spNextShine (C : Addr) : Sp := fun vs H Q _ => ∃ (a : Addr) (p b t : Int), vs = [.ref a, .int t] ∧ LampAt C H a p b ∧ 0 < p ∧ Q (.int (t + (b - t) % p)) H
theorem ok_Lamp_next_shine (T : Top K mg) : FnOk P w K mg base CX0 3 T.f_Lamp_next_shine T.d_Lamp_next_shine ["self", "begin"] (spNextShine T.C_Lamp) := by
  have G_check_beat := ok_check_beat (P := P) (w := w) (base := base) T
  refine T.F_Lamp_next_shine.ok sc_Lamp_next_shine (fun vs H Q E h => ?_) (fun cdv A outer s H vs Q E hr h => ?_)
  · obtain ⟨a, p, b, t, rfl, _⟩ := h; rfl
  · obtain ⟨a, p, b, t, rfl, ⟨dx, ha⟩, hp, q⟩ := h
    refine ⟨_, (pss_cons (ps_expr (pe_call G_check_beat (hr.mono (by decide)) rfl T.g_check_beat T.F_check_beat.kp T.b_check_beat .nil pass0 (pa_cons (pv 1) pa_nil)))
      (pss_one (ps_ret (pe_op op_add (pv 1) (pe_op op_modN (pe_op op_sub (pe_fld (pv 0) rfl) (pv 1)) (pe_fld (pv 0) rfl)))))), ?_⟩
    refine ⟨_, rfl, t, rfl, ?_⟩
    refine ⟨_, rfl, _, rfl, a, T.C_Lamp, dx, _, _, rfl, ha, T.cl_Lamp, T.na_Lamp_beat, lf_beat _ _, _, rfl, _, _, rfl, rfl, _, rfl, a, T.C_Lamp, dx, _, _, rfl, ha, T.cl_Lamp, T.na_Lamp_period, lf_period _ _, _, _, rfl, rfl, (by omega), _, _, rfl, rfl, ?_⟩
    show Q (V.int (t + (b - t).fmod p)) H
    rw [fmod_pos hp]
    exact q
end

section
variable {P : Program} {w : World} {K : PySem.W.Frag} {mg : Str → Option Value} {base : Heap}
/-- a period as it may be handed in -/
structure Pd (p b : Int) : Prop where
  p0 : 0 < p
  pb : p.natAbs < 2 ^ E8
  b0 : 0 ≤ b
  bp : b < p
def spSeen (C : Addr) : Sp := fun vs H Q _ => ∃ (a c : Addr) (p1 b1 p2 b2 : Int), vs = [.ref a, .ref c] ∧ LampAt C H a p1 b1 ∧ LampAt C H c p2 b2 ∧ Pd p1 b1 ∧ Pd p2 b2 ∧
  (¬ (Int.gcd p1 p2 : Int) ∣ b2 - b1 → ∀ H', Same H H' → Q .non H') ∧
  (∀ q r, SeenIs p1 b1 p2 b2 q r → (Int.gcd p1 p2 : Int) ∣ b2 - b1 → ∀ x H', H x = none → Same H H' → LampAt C H' x q r → Q (.ref x) H')
theorem ok_seen_from (T : Top K mg) : FnOk P w K mg base CX0 4 T.f_seen_from T.d_seen_from ["lamp", "other"] (spSeen T.C_Lamp) := by
  have G_Lamp_init := ok_Lamp_init (P := P) (w := w) (base := base) T
  have G_Lamp_eq := ok_Lamp_eq (P := P) (w := w) (base := base) T
  have G_inverse := ok_inverse (P := P) (w := w) (base := base) T
  refine T.F_seen_from.ok sc_seen_from (fun vs H Q E h => ?_) (fun cdv A outer s H vs Q E hr h => ?_)
  · obtain ⟨a, c, p1, b1, p2, b2, rfl, _⟩ := h; rfl
  · obtain ⟨a, c, p1, b1, p2, b2, rfl, ⟨da, ha⟩, ⟨dc, hc⟩, D1, D2, q1, q2⟩ := h
    have p10 := D1.p0
    have p20 := D2.p0
    have g0 := gcd_pos (a := p1) (b := p2) p10
    refine ⟨_, (pss_cons (ps_set (i := 2) sc_seen_from.nd rfl (Or.inl rfl) (pe_callBfun cr_gcd rfl T.i_gcd (pa_cons (pe_fld (pv 0) rfl) (pa_cons (pe_fld (pv 1) rfl) pa_nil))))
      (pss_cons (ps_set (i := 3) sc_seen_from.nd rfl (Or.inl rfl) (pe_op op_sub (pe_fld (pv 1) rfl) (pe_fld (pv 0) rfl)))
      (pss_cons (ps_if (pt_cmpR op_ne (pe_op op_modN (pv 3) (pv 2)) pe_int (nomark _)) (pss_one (ps_ret pe_non)) pss_nil)
      (pss_cons (ps_set (i := 4) sc_seen_from.nd rfl (Or.inl rfl) (pe_op op_fdivW (pe_fld (pv 1) rfl) (pv 2)))
      (pss_one (ps_ret (pe_make T.mk_Lamp G_Lamp_init (hr.mono (by decide)) (by rfl) T.gC_Lamp T.b_Lamp_init .nil pass0 (pa_cons (pv 4) (pa_cons (pe_op op_mulW (pe_op op_fdivW (pv 3) (pv 2)) (pe_call G_inverse (hr.mono (by decide)) rfl T.g_inverse T.F_inverse.kp T.b_inverse .nil pass0 (pa_cons (pe_op op_fdivW (pe_fld (pv 0) rfl) (pv 2)) (pa_cons (pv 4) pa_nil)))) pa_nil))))))))), ?_⟩
    -- common = gcd(lamp.period, other.period)
    refine ⟨_, rfl, a, T.C_Lamp, da, _, _, rfl, ha, T.cl_Lamp, T.na_Lamp_period, lf_period _ _, _, rfl, c, T.C_Lamp, dc, _, _, rfl, hc, T.cl_Lamp, T.na_Lamp_period, lf_period _ _, _, _, rfl, ?_⟩
    -- ahead = other.beat - lamp.beat
    refine ⟨_, rfl, c, T.C_Lamp, dc, _, _, rfl, hc, T.cl_Lamp, T.na_Lamp_beat, lf_beat _ _, _, rfl, a, T.C_Lamp, da, _, _, rfl, ha, T.cl_Lamp, T.na_Lamp_beat, lf_beat _ _, _, _, rfl, rfl, ?_⟩
    refine ⟨_, rfl, _, rfl, _, _, rfl, rfl, (by show ((Int.gcd p1 p2 : Nat) : Int) ≠ 0; omega), rfl, _, rfl, ?_⟩
    show (if (!decide (V.int ((b2 - b1).fmod (Int.gcd p1 p2 : Int)) = V.int 0)) = true then _ else _)
    rw [dec_int, fmod_pos g0]
    by_cases hz : (b2 - b1) % (Int.gcd p1 p2 : Int) = 0
    · rw [decide_eq_true hz]
      refine iteF ?_
      have hg := dvd_iff_emod.mp hz
      have gp1 : (Int.gcd p1 p2 : Int) ∣ p1 := Int.gcd_dvd_left ..
      have gp2 : (Int.gcd p1 p2 : Int) ∣ p2 := Int.gcd_dvd_right ..
      have gle : (Int.gcd p1 p2 : Int) ≤ p1 := Int.le_of_dvd p10 gp1
      have q0 : 0 < p2 / (Int.gcd p1 p2 : Int) := Int.ediv_pos_of_pos_of_dvd p20 (by omega) gp2
      have cd : CDivW p2 (Int.gcd p1 p2 : Int) := wide_div g0 (wide_le (by omega) gle D1.pb) (by decide) (by decide)
      have qb : (p2 / (Int.gcd p1 p2 : Int)).natAbs < 2 ^ E8 := wide_le (by omega) (Int.ediv_le_self _ (by omega)) D2.pb
      -- period = other.period // common
      refine ⟨_, rfl, c, T.C_Lamp, dc, _, _, rfl, hc, T.cl_Lamp, T.na_Lamp_period, lf_period _ _, _, rfl, _, _, rfl, rfl, cd, ?_⟩
      -- Lamp(period, ahead // common * inverse(lamp.period // common, period))
      refine ⟨_, rfl, _, rfl, _, rfl, _, _, rfl, rfl, cd, _, rfl, a, T.C_Lamp, da, _, _, rfl, ha, T.cl_Lamp, T.na_Lamp_period, lf_period _ _, _, rfl, _, _, rfl, rfl, cd, _, rfl, _, _, rfl, q0, qb, gcd_cop p10, fun v hv H1 s1 => ?_⟩
      have vb : v.natAbs < 2 ^ E8 := wide_le hv.1 (Int.le_of_lt hv.2.1) qb
      have ab : ((b2 - b1) / (Int.gcd p1 p2 : Int)).natAbs < 2 ^ E8 := by
        have e1 : (b2 - b1) / (Int.gcd p1 p2 : Int) * (Int.gcd p1 p2 : Int) = b2 - b1 := Int.ediv_mul_cancel hg
        have e2 : ((b2 - b1) / (Int.gcd p1 p2 : Int)).natAbs * 1 ≤ ((b2 - b1) / (Int.gcd p1 p2 : Int)).natAbs * (Int.gcd p1 p2 : Int).natAbs := Nat.mul_le_mul_left _ (by omega)
        rw [← Int.natAbs_mul, e1] at e2
        have h1 := D1.pb
        have h2 := D2.pb
        have h3 := D1.b0
        have h4 := D1.bp
        have h5 := D2.b0
        have h6 := D2.bp
        generalize (2 : Nat) ^ 8000 = B at *
        omega
      refine ⟨_, _, rfl, rfl, wide_mul ab vb (by decide) (by decide) (by decide), ?_⟩
      refine make_lamp rfl q0 fun x H2 nx s2 hx => ?_
      exact q2 _ _ (seen_is p10 p20 hg hv.2.2) hg x H2 (s1.free nx) (s1.trans s2) hx
    · rw [decide_eq_false hz]
      refine iteT ?_
      exact q1 (fun z => hz (dvd_iff_emod.mpr z)) H (Same.refl H)
end

section
variable {P : Program} {w : World} {K : PySem.W.Frag} {mg : Str → Option Value} {base : Heap}
/-! ### readings of a lamp -/
theorem rdP (T : Top K mg) {H : Hp} {a : Addr} {p b : Int} {Q : VK} (h : LampAt T.C_Lamp H a p b) (q : Q (.int p) H) : ∃ a' C dx fs v, V.ref a = V.ref a' ∧ H a' = some (.ins C dx fs) ∧ Cls K C ∧ NoAttr K C "period" ∧ fs.lookup ("period" : Str) = some v ∧ Q v H :=
  let ⟨dx, e⟩ := h; ⟨a, T.C_Lamp, dx, _, _, rfl, e, T.cl_Lamp, T.na_Lamp_period, lf_period _ _, q⟩
theorem rdB (T : Top K mg) {H : Hp} {a : Addr} {p b : Int} {Q : VK} (h : LampAt T.C_Lamp H a p b) (q : Q (.int b) H) : ∃ a' C dx fs v, V.ref a = V.ref a' ∧ H a' = some (.ins C dx fs) ∧ Cls K C ∧ NoAttr K C "beat" ∧ fs.lookup ("beat" : Str) = some v ∧ Q v H :=
  let ⟨dx, e⟩ := h; ⟨a, T.C_Lamp, dx, _, _, rfl, e, T.cl_Lamp, T.na_Lamp_beat, lf_beat _ _, q⟩
theorem nf_self {K : PySem.W.Frag} {C : Addr} : PySem.W.notFirst K C (.ref C) = true := by unfold PySem.W.notFirst; simp
theorem rdEq (T : Top K mg) {H : Hp} {a c : Addr} {p b p' b' : Int} {Q : VK} {E : XK} (h : LampAt T.C_Lamp H a p b) (h' : LampAt T.C_Lamp H c p' b') (q : Q (.bl (decide (p = p' ∧ b = b'))) H) :
    rEqOwn K T.C_Lamp (spLampEq K T.C_Lamp) E (.ref a) (.ref c) H Q :=
  let ⟨dx, e⟩ := h; let ⟨_, e'⟩ := h'; ⟨a, dx, _, _, rfl, e, T.kl_Lamp.ty e', nf_self, a, p, b, _, rfl, h, .inl ⟨c, p', b', rfl, h', _, rfl, q⟩⟩
theorem rdNe (T : Top K mg) {H : Hp} {a c : Addr} {p b p' b' : Int} {Q : VK} {E : XK} (h : LampAt T.C_Lamp H a p b) (h' : LampAt T.C_Lamp H c p' b') (q : Q (.bl (!decide (p = p' ∧ b = b'))) H) :
    rNeOwn K T.C_Lamp (spLampEq K T.C_Lamp) E (.ref a) (.ref c) H Q :=
  let ⟨dx, e⟩ := h; let ⟨_, e'⟩ := h'; ⟨a, dx, _, _, rfl, e, T.kl_Lamp.ty e', nf_self, a, p, b, _, rfl, h, .inl ⟨c, p', b', rfl, h', _, rfl, q⟩⟩
theorem ifNeF {x y : Int} {A B : Prop} (h : x = y) (hb : B) : if (!decide (V.int x = V.int y)) = true then A else B := by
  rw [dec_int, decide_eq_true h]
  exact iteF hb
theorem ifNeT {x y : Int} {A B : Prop} (h : x ≠ y) (ha : A) : if (!decide (V.int x = V.int y)) = true then A else B := by
  rw [dec_int, decide_eq_false h]
  exact iteT ha
theorem ifEqF {x y : Int} {A B : Prop} (h : x ≠ y) (hb : B) : if decide (V.int x = V.int y) = true then A else B := by
  rw [dec_int, decide_eq_false h]
  exact iteF hb
theorem ifEqT {x y : Int} {A B : Prop} (h : x = y) (ha : A) : if decide (V.int x = V.int y) = true then A else B := by
  rw [dec_int, decide_eq_true h]
  exact iteT ha
theorem fmod0 {x p : Int} (p0 : 0 < p) (d : p ∣ x) : x.fmod p = 0 := by rw [fmod_pos p0]; exact Int.emod_eq_zero_of_dvd d
theorem fmodN {x p : Int} (p0 : 0 < p) (d : ¬ p ∣ x) : x.fmod p ≠ 0 := by rw [fmod_pos p0]; exact fun e => d (Int.dvd_of_emod_eq_zero e)
theorem pd_of {p b : Int} (p0 : 0 < p) (pb : p < 2 ^ 255) : Pd p (b % p) := by
  refine ⟨p0, ?_, Int.emod_nonneg _ (by omega), Int.emod_lt_of_pos _ p0⟩
  have h1 : p.natAbs < 2 ^ 255 := by omega
  exact Nat.lt_of_lt_of_le h1 (Nat.pow_le_pow_right (by decide) (by decide))
end

section
variable {P : Program} {w : World} {K : PySem.W.Frag} {mg : Str → Option Value} {base : Heap}
/-! ### draws -/
/-- small factors -/
theorem mw {i j : Int} (h1 : -(2 ^ 200) < i) (h2 : i < 2 ^ 200) (h3 : -(2 ^ 200) < j) (h4 : j < 2 ^ 200) : CMulW i j :=
  wide_mul (a := 200) (b := 200) (by omega) (by omega) (by decide) (by decide) (by decide)
theorem nz {j : Int} (h : j ≠ 0) : j ≠ 0 := h
theorem fm0 {a b : Int} (h : 0 < b) : 0 ≤ a.fmod b := by rw [fmod_pos h]; exact Int.emod_nonneg _ (by omega)
theorem fm1 {a b : Int} (h : 0 < b) : a.fmod b < b := by rw [fmod_pos h]; exact Int.emod_lt_of_pos _ h
theorem dvw {i j : Int} (h : 0 < j) (h2 : j < 2 ^ 200) : CDivW i j := wide_div (b := 200) h (by omega) (by decide) (by decide)
theorem same_new {H : Hp} {p : Addr} {o : HO} (h : H p = Option.none) : Same H (upd H p o) := fun b x e => by
  rw [upd_ne (ne_of_none e h)]
  exact e
/-- the heap may have more, and the object at s may be another -/
def Dr (s : Addr) (H H' : Hp) : Prop := ∀ b o, H b = some o → b ≠ s → H' b = some o
theorem Dr.of {s : Addr} {H H' : Hp} (h : Same H H') : Dr s H H' := fun b o e _ => h b o e
theorem Dr.refl (s : Addr) (H : Hp) : Dr s H H := fun _ _ e _ => e
theorem Dr.trans {s : Addr} {H H1 H2 : Hp} (a : Dr s H H1) (b : Dr s H1 H2) : Dr s H H2 := fun c o e hc => b c o (a c o e hc) hc
theorem Dr.then {s : Addr} {H H1 H2 : Hp} (a : Dr s H H1) (b : Same H1 H2) : Dr s H H2 := fun c o e hc => b c o (a c o e hc)
/-- a source of draws stands at s; n draws at most have been taken -/
def Src (H : Hp) (s : Addr) (n : Nat) : Prop := ∃ a b c : Int, H s = some (.lst [.int a, .int b, .int c]) ∧ 0 ≤ c ∧ c ≤ n
theorem Src.same {H H' : Hp} {s : Addr} {n : Nat} (h : Src H s n) (e : Same H H') : Src H' s n := let ⟨a, b, c, h1, h2⟩ := h; ⟨a, b, c, e _ _ h1, h2⟩
theorem Src.mono {H : Hp} {s : Addr} {n m : Nat} (h : Src H s n) (e : n ≤ m) : Src H s m := let ⟨a, b, c, h1, h2, h3⟩ := h; ⟨a, b, c, h1, h2, by omega⟩
theorem Src.free {H H' : Hp} {s l : Addr} {n : Nat} (h : Src H' s n) (d : Dr s H H') (hl : H' l = Option.none) : H l = Option.none := by
  obtain ⟨a, b, c, h1, _⟩ := h
  cases e : H l with
  | none => rfl
  | some o =>
    have hne : l ≠ s := fun z => by rw [z, h1] at hl; cases hl
    rw [d l o e hne] at hl
    cases hl
theorem LampAt.dr {C : Addr} {H H' : Hp} {a s : Addr} {p b : Int} {n : Nat} (h : LampAt C H a p b) (hs : Src H s n) (d : Dr s H H') : LampAt C H' a p b := by
  obtain ⟨dx, e⟩ := h
  obtain ⟨_, _, _, h1, _⟩ := hs
  exact ⟨dx, d a _ e (ne_of e h1 (by intro z; cases z))⟩
def spMixed : Sp := fun vs H Q _ => ∃ b k : Int, vs = [.int b, .int k] ∧ 0 ≤ k ∧ k < 2 ^ 41 ∧ ∀ v : Int, 0 ≤ v → v < 2147483563 → Q (.int v) H
theorem ok_l_mixed (T : Top K mg) : FnOk P w K mg base CX0 1 T.f_l_mixed T.d_l_mixed ["_law_cell", "_law_k"] spMixed := by
  refine T.F_l_mixed.ok sc_l_mixed (fun vs H Q E h => ?_) (fun cdv A outer s H vs Q E hr h => ?_)
  · obtain ⟨b, k, rfl, _⟩ := h; rfl
  · obtain ⟨b, k, rfl, k0, k1, q⟩ := h
    refine ⟨_, (pss_cons (ps_set (i := 2) sc_l_mixed.nd rfl (Or.inl rfl) (pe_op op_modN (pe_op op_mulW (pe_op op_add (pe_op op_modN (pv 0) pe_int) pe_int) (pe_op op_add (pe_op op_mulW (pv 1) pe_int) pe_int)) pe_int))
      (pss_cons (ps_set (i := 2) sc_l_mixed.nd rfl (Or.inl rfl) (pe_op op_modN (pe_op op_mulW (pe_op op_add (pv 2) (pe_op op_mulW (pe_op op_modN (pe_op op_fdivW (pv 0) pe_int) pe_int) (pe_op op_add (pv 1) pe_int))) pe_int) pe_int))
      (pss_cons (ps_set (i := 2) sc_l_mixed.nd rfl (Or.inl rfl) (pe_op op_modN (pe_op op_mulW (pv 2) (pe_op op_add (pe_op op_add (pe_op op_fdivW (pv 2) pe_int) pe_int) (pv 1))) pe_int))
      (pss_one (ps_ret (pe_op op_modN (pe_op op_mulW (pv 2) (pe_op op_add (pe_op op_fdivW (pv 2) pe_int) pe_int)) pe_int)))))), ?_⟩
    have a1 := fm0 (a := b) (b := 2147483646) (by decide)
    have a2 := fm1 (a := b) (b := 2147483646) (by decide)
    refine ⟨_, rfl, _, _, rfl, rfl, nz (by decide), _, _, rfl, rfl, _, rfl, _, _, rfl, rfl, mw (by omega) (by omega) (by decide) (by decide), _, _, rfl, rfl, _, _, rfl, rfl, mw (by omega) (by omega) (by omega) (by omega), _, _, rfl, rfl, nz (by decide), ?_⟩
    have b1 := fm0 (a := (b.fmod 2147483646 + 1) * (k * 7919 + 104729)) (b := 2147483647) (by decide)
    have b2 := fm1 (a := (b.fmod 2147483646 + 1) * (k * 7919 + 104729)) (b := 2147483647) (by decide)
    dsimp only
    generalize ((b.fmod 2147483646 + 1) * (k * 7919 + 104729)).fmod 2147483647 = n1 at *
    have c1 := fm0 (a := b / 2147483646) (b := 1000003) (by decide)
    have c2 := fm1 (a := b / 2147483646) (b := 1000003) (by decide)
    have d0 : 0 ≤ (b / 2147483646).fmod 1000003 * (k + 31) := Int.mul_nonneg c1 (by omega)
    have d1 : (b / 2147483646).fmod 1000003 * (k + 31) ≤ 1000003 * (2 ^ 42) := Int.mul_le_mul (by omega) (by omega) (by omega) (by decide)
    refine ⟨_, rfl, _, rfl, _, _, rfl, rfl, dvw (by decide) (by decide), _, _, rfl, rfl, nz (by decide), _, rfl, _, _, rfl, rfl, _, _, rfl, rfl, mw (by omega) (by omega) (by omega) (by omega), _, _, rfl, rfl, _, _, rfl, rfl, mw (by omega) (by omega) (by decide) (by decide), _, _, rfl, rfl, nz (by decide), ?_⟩
    have e1 := fm0 (a := (n1 + (b / 2147483646).fmod 1000003 * (k + 31)) * 48271) (b := 2147483629) (by decide)
    have e2 := fm1 (a := (n1 + (b / 2147483646).fmod 1000003 * (k + 31)) * 48271) (b := 2147483629) (by decide)
    dsimp only
    generalize ((n1 + (b / 2147483646).fmod 1000003 * (k + 31)) * 48271).fmod 2147483629 = n2 at *
    refine ⟨_, rfl, _, rfl, _, _, rfl, rfl, dvw (by decide) (by decide), _, _, rfl, rfl, _, rfl, _, _, rfl, rfl, _, _, rfl, rfl, mw (by omega) (by omega) (by omega) (by omega), _, _, rfl, rfl, nz (by decide), ?_⟩
    have g1 := fm0 (a := n2 * (n2 / 1013 + 69621 + k)) (b := 2147483587) (by decide)
    have g2 := fm1 (a := n2 * (n2 / 1013 + 69621 + k)) (b := 2147483587) (by decide)
    dsimp only
    generalize (n2 * (n2 / 1013 + 69621 + k)).fmod 2147483587 = n3 at *
    refine ⟨_, rfl, _, rfl, _, _, rfl, rfl, dvw (by decide) (by decide), _, _, rfl, rfl, _, _, rfl, rfl, mw (by omega) (by omega) (by omega) (by omega), _, _, rfl, rfl, nz (by decide), ?_⟩
    exact q _ (fm0 (by decide)) (fm1 (by decide))
def spSource : Sp := fun vs H Q _ => ∃ z : Int, vs = [.int z] ∧ ∀ l H', H l = none → Same H H' → Src H' l 0 → Q (.ref l) H'
theorem ok_l_source (T : Top K mg) : FnOk P w K mg base CX0 1 T.f_l_source T.d_l_source ["_law_cell"] spSource := by
  refine T.F_l_source.ok sc_l_source (fun vs H Q E h => ?_) (fun cdv A outer s H vs Q E hr h => ?_)
  · obtain ⟨z, rfl, _⟩ := h; rfl
  · obtain ⟨z, rfl, q⟩ := h
    refine ⟨_, (pss_one (ps_ret (pe_lst (pa_cons (pv 0) (pa_cons (pv 0) (pa_cons pe_int pa_nil)))))), ?_⟩
    refine ⟨_, rfl, _, rfl, (by show 3 ≤ sizeLine; decide), fun l hl => ?_⟩
    exact q l _ hl (fun b o e => by rw [upd_ne (ne_of_none e hl)]; exact e) ⟨z, z, 0, upd_same, by decide, by decide⟩
def spTake : Sp := fun vs H Q _ => ∃ (s : Addr) (n : Nat) (m : Int), vs = [.ref s, .int m] ∧ Src H s n ∧ n < 1000000 ∧ 0 < m ∧ m < 2 ^ 200 ∧ ∀ v H', 0 ≤ v → v < m → Src H' s (n + 1) → Dr s H H' → Q (.int v) H'
theorem ok_l_take (T : Top K mg) : FnOk P w K mg base CX0 2 T.f_l_take T.d_l_take ["_law_source_here", "_law_many"] spTake := by
  have G_l_mixed := ok_l_mixed (P := P) (w := w) (base := base) T
  refine T.F_l_take.ok sc_l_take (fun vs H Q E h => ?_) (fun cdv A outer s H vs Q E hr h => ?_)
  · obtain ⟨s, n, m, rfl, _⟩ := h; rfl
  · obtain ⟨s, n, m, rfl, ⟨a, b, c, hs, c0, cn⟩, hn, m0, m1, q⟩ := h
    refine ⟨_, (pss_cons (ps_if (pt_cmpR op_ge (pe_ix ix_list (pv 0) pe_int (fun _ _ => rfl)) (pe_op op_pow pe_int pe_int) (nomark _)) (pss_cons (ps_set (i := 2) sc_l_take.nd rfl (Or.inl rfl) (pe_op op_modN (pe_ix ix_list (pv 0) pe_int (fun _ _ => rfl)) (pv 1)))
      (pss_cons (ps_asg (pe_op op_fdivW (pe_ix ix_list (pv 0) pe_int (fun _ _ => rfl)) (pv 1)) (pg_sub (pv 0) pe_int set_list))
      (pss_one (ps_ret (pv 2))))) pss_nil)
      (pss_cons (ps_asg (pe_op op_add (pe_ix ix_list (pv 0) pe_int (fun _ _ => rfl)) pe_int) (pg_sub (pv 0) pe_int set_list))
      (pss_one (ps_ret (pe_op op_modN (pe_call G_l_mixed (hr.mono (by decide)) rfl T.g_l_mixed T.F_l_mixed.kp T.b_l_mixed .nil pass0 (pa_cons (pe_ix ix_list (pv 0) pe_int (fun _ _ => rfl)) (pa_cons (pe_ix ix_list (pv 0) pe_int (fun _ _ => rfl)) pa_nil))) (pv 1)))))), ?_⟩
    refine ⟨_, rfl, s, _, _, _, rfl, rfl, SqL.of hs, at_of (j := 0) rfl rfl, _, _, rfl, rfl, (by refine ⟨by decide, by decide, by decide⟩), _, _, rfl, rfl, _, rfl, ite2 (fun _ => ?_) (fun _ => ?_)⟩
    · refine ⟨_, rfl, s, _, _, _, rfl, rfl, SqL.of hs, at_of (j := 0) rfl rfl, _, rfl, _, _, rfl, rfl, (by omega), ?_⟩
      refine ⟨_, rfl, s, _, _, _, rfl, rfl, SqL.of hs, at_of (j := 0) rfl rfl, _, rfl, _, _, rfl, rfl, dvw m0 m1, _, rfl, s, _, _, _, rfl, rfl, hs, rfl, ?_⟩
      refine ⟨_, rfl, ?_⟩
      exact q _ _ (fm0 m0) (fm1 m0) ⟨a / m, b, c, upd_same, c0, by omega⟩ fun d o e hd => by rw [upd_ne hd]; exact e
    · refine ⟨_, rfl, s, _, _, _, rfl, rfl, SqL.of hs, at_of (j := 2) rfl rfl, _, _, rfl, rfl, _, rfl, s, _, _, _, rfl, rfl, hs, rfl, ?_⟩
      refine ⟨_, rfl, s, _, _, _, rfl, rfl, SqL.of upd_same, at_of (j := 1) rfl rfl, _, rfl, s, _, _, _, rfl, rfl, SqL.of upd_same, at_of (j := 2) rfl rfl, b, c + 1, rfl, by omega, by omega, fun v v0 v1 => ?_⟩
      refine ⟨_, rfl, _, _, rfl, rfl, (by omega), ?_⟩
      exact q _ _ (fm0 m0) (fm1 m0) ⟨a, b, c + 1, upd_same, by omega, by omega⟩ fun d o e hd => by rw [upd_ne hd]; exact e
/-- an item of a written list at a drawn place -/
theorem pick {items : List V} {R : V → Prop} (hR : ∀ x ∈ items, R x) {v : Int} (h0 : 0 ≤ v) (h1 : v < items.length) : ∃ x, atI items v = some x ∧ R x := by
  have hj : v.toNat < items.length := by omega
  exact ⟨items[v.toNat], at_of (j := v.toNat) (by omega) (List.getElem?_eq_getElem hj), hR _ (List.getElem_mem hj)⟩
/-- an int between -/
def Btw (lo hi : Int) (x : V) : Prop := ∃ z : Int, x = .int z ∧ lo ≤ z ∧ z ≤ hi
end

/-! ### data compared -/
section
open PySem
/-- may be compared: no dict in it, not too deep -/
def OkD (n : Nat) (d : PyData) : Prop := d.canLay0 = true ∧ d.depth ≤ n
theorem OkD.mono {n m : Nat} {d : PyData} (h : OkD n d) (hn : n ≤ m) : OkD m d := ⟨h.1, Nat.le_trans h.2 hn⟩
theorem okD_int (i : Int) : OkD 0 (.int i) := ⟨by unfold PyData.canLay0; rfl, by unfold PyData.depth; exact Nat.le_refl _⟩
theorem okD_non : OkD 0 .none := ⟨by unfold PyData.canLay0; rfl, by unfold PyData.depth; exact Nat.le_refl _⟩
theorem okD_bl (b : Bool) : OkD 0 (.bool b) := ⟨by unfold PyData.canLay0; rfl, by unfold PyData.depth; exact Nat.le_refl _⟩
theorem okD_all {n : Nat} : ∀ {ds : List PyData}, (∀ d ∈ ds, OkD n d) → PyData.canLayAll0 ds = true ∧ PyData.depthAll ds ≤ n
  | [], _ => ⟨by unfold PyData.canLayAll0; rfl, by unfold PyData.depthAll; exact Nat.zero_le _⟩
  | d :: ds, h => by
    obtain ⟨h1, h2⟩ := okD_all (ds := ds) fun e he => h e (.tail _ he)
    obtain ⟨g1, g2⟩ := h d (.head _)
    refine ⟨?_, ?_⟩
    · unfold PyData.canLayAll0
      rw [g1, h1]
      rfl
    · unfold PyData.depthAll
      omega
theorem okD_list {n : Nat} {ds : List PyData} (h : ∀ d ∈ ds, OkD n d) : OkD (n + 1) (.list ds) := by
  obtain ⟨h1, h2⟩ := okD_all h
  refine ⟨?_, ?_⟩
  · unfold PyData.canLay0
    exact h1
  · unfold PyData.depth
    omega
theorem okD_tup {n : Nat} {ds : List PyData} (h : ∀ d ∈ ds, OkD n d) : OkD (n + 1) (.tuple ds) := by
  obtain ⟨h1, h2⟩ := okD_all h
  refine ⟨?_, ?_⟩
  · unfold PyData.canLay0
    exact h1
  · unfold PyData.depth
    omega
theorem OkD.sh {n : Nat} {d : PyData} (h : OkD n d) (hn : n ≤ 64) : SeqAt.shaped d = true := by
  unfold SeqAt.shaped
  rw [h.1]
  exact decide_eq_true (Nat.le_trans h.2 hn)
mutual
theorem eqv_self : ∀ d : PyData, d.canLay0 = true → PyData.eqv d d = true
  | .none, _ => by unfold PyData.eqv; rfl
  | .bool b, _ => by unfold PyData.eqv; exact beq_self_eq_true _
  | .int i, _ => by unfold PyData.eqv; exact beq_self_eq_true _
  | .str x, _ => by unfold PyData.eqv; exact beq_self_eq_true _
  | .list xs, h => by unfold PyData.eqv; unfold PyData.canLay0 at h; exact eqv_all_self xs h
  | .tuple xs, h => by unfold PyData.eqv; unfold PyData.canLay0 at h; exact eqv_all_self xs h
  | .dict _, h => by unfold PyData.canLay0 at h; cases h
theorem eqv_all_self : ∀ ds : List PyData, PyData.canLayAll0 ds = true → PyData.eqvAll ds ds = true
  | [], _ => by unfold PyData.eqvAll; rfl
  | d :: ds, h => by
    unfold PyData.canLayAll0 at h
    obtain ⟨h1, h2⟩ := Bool.and_eq_true_iff.mp h
    unfold PyData.eqvAll
    rw [eqv_self d h1, eqv_all_self ds h2]
    rfl
end
def dInts (ns : List Int) : PyData := .list (ns.map .int)
theorem okD_ints (ns : List Int) : OkD 1 (dInts ns) := okD_list fun d hd => by
  obtain ⟨i, _, rfl⟩ := List.mem_map.mp hd
  exact okD_int i
theorem eqv_ints : ∀ (ms ns : List Int), PyData.eqvAll (ms.map .int) (ns.map .int) = decide (ms = ns)
  | [], [] => by unfold PyData.eqvAll; rfl
  | [], _ :: _ => by unfold PyData.eqvAll; rfl
  | _ :: _, [] => by unfold PyData.eqvAll; rfl
  | m :: ms, n :: ns => by
    show PyData.eqvAll (.int m :: ms.map .int) (.int n :: ns.map .int) = _
    unfold PyData.eqvAll
    rw [eqv_ints ms ns]
    unfold PyData.eqv
    by_cases h : m = n
    · subst h
      by_cases h2 : ms = ns
      · subst h2; simp
      · simp [h2]
    · simp [h]
variable {K : PySem.W.Frag} {H : Hp}
theorem dp_ints {L : Addr} {ns : List Int} (h : H L = some (.lst (ns.map V.int))) : Dp K H (.ref L) (dInts ns) := by
  refine .lst (SqL.of h) ?_
  clear h
  induction ns with
  | nil => exact .nil
  | cons n ns ih => exact .cons (.int n) ih
/-- what next_dark tells, as data -/
def tD (pap : List Int) : Option Int → PyData
  | some d => .tuple [.str "dark", .int d]
  | none => .tuple [.str "ever", dInts pap]
theorem okD_str {x : Str} (h : PyData.strOk x = true) : OkD 0 (.str x) := ⟨by unfold PyData.canLay0; exact h, by unfold PyData.depth; exact Nat.le_refl _⟩
theorem okD_dark (d : Int) : OkD 1 (.tuple [.str "dark", .int d]) := okD_tup fun x hx => by
  simp only [List.mem_cons, List.not_mem_nil, or_false] at hx
  rcases hx with rfl | rfl
  · exact okD_str (by decide +kernel)
  · exact okD_int d
theorem okD_tD (pap : List Int) : ∀ o, OkD 2 (tD pap o)
  | some d => (okD_dark d).mono (by decide)
  | none => okD_tup fun x hx => by
    simp only [List.mem_cons, List.not_mem_nil, or_false] at hx
    rcases hx with rfl | rfl
    · exact (okD_str (by decide +kernel)).mono (by decide)
    · exact okD_ints pap
theorem dp_dark {p : Addr} {d : Int} (h : H p = some (.tup [.str "dark", .int d])) : Dp K H (.ref p) (.tuple [.str "dark", .int d]) := .tup (SqT.of h) (.cons (.str _) (.cons (.int _) .nil))
theorem neD_self {K : PySem.W.Frag} {x y : V} {d : PyData} {n : Nat} {Q : VK} (hx : Dp K H x d) (hy : Dp K H y d) (ok : OkD n d) (hn : n ≤ 64) (q : Q (.bl false) H) : rNeD K x y H Q := by
  refine ⟨d, d, hx, hy, ok.sh hn, ok.sh hn, ?_⟩
  rw [eqv_self d ok.1]
  exact q
theorem eqD_self {K : PySem.W.Frag} {x y : V} {d : PyData} {n : Nat} {Q : VK} (hx : Dp K H x d) (hy : Dp K H y d) (ok : OkD n d) (hn : n ≤ 64) (q : Q (.bl true) H) : rEqD K x y H Q := by
  refine ⟨d, d, hx, hy, ok.sh hn, ok.sh hn, ?_⟩
  rw [eqv_self d ok.1]
  exact q
end

/-! ### [x for x in .. if test] of ints -/
section
variable {sl n : Nat} {tt : TT} {σ : L2.St} {H1 : Hp} {D a : Addr} {Qd : Hp → Prop}
theorem lc_sieve (f : Int → Bool) (hD : H1 D = Option.none) (hn : n < 100000) (hw : ∀ v, wipe ((wipe σ [sl]).set sl (some v)) [sl] = wipe σ [sl]) (hg : ∀ v : V, ((wipe σ [sl]).set sl (some v))[sl]? = some (some v))
    (ht : ∀ (i : Nat) (H' : Hp) (Q : Bool → Hp → Prop), i < n → Same H1 H' → Q (f i) H' → tt ((wipe σ [sl]).set sl (some (.int i))) H' Q)
    (hd : ∀ H', Same H1 H' → H' D = some (.lst ((sieve n f).map V.int)) → Qd H') :
    ∃ W : Nat → Nat → Hp → Prop, (∃ m, W 0 m (upd H1 D (.lst []))) ∧ ∀ i m H, W i m H →
      ((Itr 0 n).stop i H ∧ Qd H) ∨ ((Itr 0 n).go i H ∧ ∃ Nx : Hp → Prop, (∀ H', Nx H' → ∃ m', m' < m ∧ W (i + 1) m' H') ∧ ∀ x H', (Itr 0 n).yld i H x H' → gName sl x (wipe σ [sl]) H' fun σ2 H2 => wipe σ2 [sl] = wipe σ [sl] ∧ tt σ2 H2 fun b H3 =>
        if b = true then tVar sl σ2 H3 fun y H4 => ∃ acc, H4 D = some (.lst acc) ∧ acc.length < sizeLine ∧ Nx (upd H4 D (.lst (acc ++ [y]))) else Nx H3) := by
  have sm : ∀ {H' : Hp} {o : HO}, Same H1 H' → Same H1 (upd H' D o) := fun s b x e => by rw [upd_ne (ne_of_none e hD)]; exact s b x e
  refine lc_range (fun i H' => Same H1 H' ∧ H' D = some (.lst ((sieve i f).map V.int))) ⟨sm (Same.refl H1), upd_same⟩ (fun i H' hi ⟨s1, hl⟩ => ?_) fun H' ⟨s1, hl⟩ => hd H' s1 hl
  rw [Int.zero_add]
  refine ⟨hw _, ht i H' _ hi s1 ?_⟩
  cases e : f i with
  | true =>
    refine iteT ⟨_, hg _, _, hl, ?_, sm s1, ?_⟩
    · rw [List.length_map]
      have := sieve_len i f
      exact Nat.lt_of_lt_of_le (show (sieve i f).length < 100000 by omega) (by decide)
    · rw [upd_same, sieve_succ, e, List.map_append]
      rfl
  | false =>
    refine iteF ⟨s1, ?_⟩
    rw [hl, sieve_succ, e]
    simp
theorem lc_filter {K : PySem.W.Frag} {ns : List Int} (f : Int → Bool) (hD : H1 D = Option.none) (ha : SqL K H1 a (ns.map V.int)) (hn : ns.length < 100000) (hw : ∀ v, wipe ((wipe σ [sl]).set sl (some v)) [sl] = wipe σ [sl]) (hg : ∀ v : V, ((wipe σ [sl]).set sl (some v))[sl]? = some (some v))
    (ht : ∀ (z : Int) (H' : Hp) (Q : Bool → Hp → Prop), z ∈ ns → Same H1 H' → Q (f z) H' → tt ((wipe σ [sl]).set sl (some (.int z))) H' Q)
    (hd : ∀ H', Same H1 H' → H' D = some (.lst ((ns.filter f).map V.int)) → Qd H') :
    ∃ W : Nat → Nat → Hp → Prop, (∃ m, W 0 m (upd H1 D (.lst []))) ∧ ∀ i m H, W i m H →
      ((Itl K a).stop i H ∧ Qd H) ∨ ((Itl K a).go i H ∧ ∃ Nx : Hp → Prop, (∀ H', Nx H' → ∃ m', m' < m ∧ W (i + 1) m' H') ∧ ∀ x H', (Itl K a).yld i H x H' → gName sl x (wipe σ [sl]) H' fun σ2 H2 => wipe σ2 [sl] = wipe σ [sl] ∧ tt σ2 H2 fun b H3 =>
        if b = true then tVar sl σ2 H3 fun y H4 => ∃ acc, H4 D = some (.lst acc) ∧ acc.length < sizeLine ∧ Nx (upd H4 D (.lst (acc ++ [y]))) else Nx H3) := by
  have sm : ∀ {H' : Hp} {o : HO}, Same H1 H' → Same H1 (upd H' D o) := fun s b x e => by rw [upd_ne (ne_of_none e hD)]; exact s b x e
  refine lc_list (K := K) (a := a) (xs := ns.map V.int) (fun i H' => Same H1 H' ∧ H' D = some (.lst (((ns.take i).filter f).map V.int))) ⟨sm (Same.refl H1), upd_same⟩ (fun i H' _ ⟨s1, _⟩ => s1.seq ha) (fun i x H' hi ⟨s1, hl⟩ => ?_) fun H' ⟨s1, hl⟩ => hd H' s1 (by rw [hl, List.length_map, List.take_length])
  obtain ⟨z, hz, rfl⟩ : ∃ z, ns[i]? = some z ∧ x = V.int z := by
    rw [List.getElem?_map] at hi
    cases e : ns[i]? with
    | none => rw [e] at hi; cases hi
    | some z => rw [e] at hi; exact ⟨z, rfl, (Option.some.inj hi).symm⟩
  have et : ns.take (i + 1) = ns.take i ++ [z] := by
    rw [List.take_succ, hz]
    rfl
  refine ⟨hw _, ht z H' _ (List.mem_of_getElem? hz) s1 ?_⟩
  cases e : f z with
  | true =>
    refine iteT ⟨_, hg _, _, hl, ?_, sm s1, ?_⟩
    · rw [List.length_map]
      have h1 := List.length_filter_le f (ns.take i)
      have h2 := List.length_take_le i ns
      exact Nat.lt_of_lt_of_le (show ((ns.take i).filter f).length < 100000 by have := List.length_take_le' i ns; omega) (by decide)
    · rw [upd_same, et, List.filter_append, List.map_append]
      simp [List.filter_cons, e]
  | false =>
    refine iteF ⟨s1, ?_⟩
    rw [hl, et, List.filter_append]
    simp [List.filter_cons, e]
end

section
variable {P : Program} {w : World} {K : PySem.W.Frag} {mg : Str → Option Value} {base : Heap}
/-- what a part of a law promises: True, from a source of n draws at most, having taken k more at most -/
def spPart (k : Nat) : Sp := fun vs H Q _ => ∃ (s : Addr) (n : Nat), vs = [.ref s] ∧ Src H s n ∧ n < 100000 ∧ ∀ H', Src H' s (n + k) → Dr s H H' → Q (.bl true) H'
theorem Dr.mut {s l : Addr} {H H' : Hp} {o : HO} (d : Dr s H H') (h : H l = Option.none) : Dr s H (upd H' l o) := fun b x e hb => by
  rw [upd_ne (ne_of_none e h)]
  exact d b x e hb
theorem ne_src {H : Hp} {s l : Addr} {n : Nat} (h : Src H s n) (hl : H l = Option.none) : l ≠ s := fun e => by
  obtain ⟨_, _, _, h1, _⟩ := h
  rw [e, h1] at hl
  cases hl
theorem Src.mut {H : Hp} {s l : Addr} {n : Nat} {o : HO} (h : Src H s n) (hl : l ≠ s) : Src (upd H l o) s n := by
  obtain ⟨a, b, c, h1, h2⟩ := h
  exact ⟨a, b, c, by rw [upd_ne hl.symm]; exact h1, h2⟩
def spLaw (K : PySem.W.Frag) : Sp := fun vs H Q _ => ∃ (a : Addr) (ns : List Int), vs = [.ref a] ∧ SqL K H a (ns.map V.int) ∧ ns.length ≤ 63 ∧ ∀ H', Q (.bl true) H'
theorem Dr.back {l : Addr} {H H1 H2 : Hp} (hl : H l = Option.none) (s : Same H H1) (d : Dr l H1 H2) : Same H H2 := fun b o e => d b o (s b o e) (ne_of_none e hl)
theorem cutV_mem {xs : List V} {lo hi : Option Int} {x : V} (h : x ∈ cutV xs lo hi) : x ∈ xs := by
  unfold cutV at h
  exact List.mem_of_mem_drop (List.mem_of_mem_take h)
theorem cut_ints {ns : List Int} {z : Int} {lo hi : Option Int} : ∀ x ∈ cutV (ns.map V.int ++ [.int z]) lo hi, ∃ z : Int, x = .int z := by
  intro x hx
  have := cutV_mem hx
  simp only [List.mem_append, List.mem_map, List.mem_singleton] at this
  rcases this with ⟨z, _, rfl⟩ | rfl
  · exact ⟨z, rfl⟩
  · exact ⟨_, rfl⟩
theorem Pd.big {p b : Int} (D : Pd p b) (h : p < 2 ^ 250) : p < 2 ^ 250 := h
end

section
variable {P : Program} {w : World} {K : PySem.W.Frag} {mg : Str → Option Value} {base : Heap}
/-! ### lamps that may be None -/
def OAt (C : Addr) (H : Hp) (v : V) (k : Nat) : OLp → Prop
  | none => v = .non
  | some l => ∃ a, v = .ref a ∧ LampAt C H a l.1 l.2 ∧ 0 < l.1 ∧ 0 ≤ l.2 ∧ l.2 < l.1 ∧ l.1.natAbs < 2 ^ k
theorem OAt.same {C : Addr} {H H' : Hp} {v : V} {k : Nat} {o : OLp} (h : OAt C H v k o) (s : Same H H') : OAt C H' v k o := by
  cases o with
  | none => exact h
  | some l =>
    obtain ⟨a, e, hl, r⟩ := h
    exact ⟨a, e, hl.same s, r⟩
theorem OAt.ok {C : Addr} {H : Hp} {v : V} {k : Nat} {o : OLp} (h : OAt C H v k o) : OkL o := by
  rintro l rfl
  obtain ⟨_, _, _, h0, h1, h2, _⟩ := h
  exact ⟨h0, h1, h2⟩
theorem OAt.pd {C : Addr} {H : Hp} {v : V} {k : Nat} {l : Int × Int} (h : OAt C H v k (some l)) (hk : k ≤ 8000) : Pd l.1 l.2 := by
  obtain ⟨_, _, _, h0, h1, h2, h3⟩ := h
  exact ⟨h0, Nat.lt_of_lt_of_le h3 (Nat.pow_le_pow_right (by decide) hk), h1, h2⟩
/-- v != v', both of the same lamp or none -/
theorem neO (T : Top K mg) {H : Hp} {v v' : V} {k k' : Nat} {o : OLp} {Q : VK} {E : XK} (h : OAt T.C_Lamp H v k o) (h' : OAt T.C_Lamp H v' k' o) (q : Q (.bl false) H) :
    rOr (rNeOwn K T.C_Lamp (spLampEq K T.C_Lamp) E) rNe v v' H Q := by
  cases o with
  | none =>
    cases h
    cases h'
    refine .inr ⟨rfl, ?_⟩
    rw [decide_eq_true (show V.non = V.non from rfl)]
    exact q
  | some l =>
    obtain ⟨a, rfl, ha, _⟩ := h
    obtain ⟨c, rfl, hc, _⟩ := h'
    refine .inl (rdNe T ha hc ?_)
    rw [decide_eq_true (show l.1 = l.1 ∧ l.2 = l.2 from ⟨rfl, rfl⟩)]
    exact q
theorem OAt.non {C : Addr} {H : Hp} {v : V} {k : Nat} {o : OLp} (h : OAt C H v k o) : v = .non ↔ o = none := by
  cases o with
  | none => exact ⟨fun _ => rfl, fun _ => h⟩
  | some l =>
    obtain ⟨a, rfl, _⟩ := h
    exact ⟨fun e => (nomatch e), fun e => (nomatch e)⟩
theorem noneItem (T : Top K mg) {H : Hp} {v : V} {k : Nat} {o : OLp} {E : XK} (h : OAt T.C_Lamp H v k o) : v = .non ∨ ∃ a dx fs, v = .ref a ∧ H a = some (.ins T.C_Lamp dx fs) ∧ spLampEq K T.C_Lamp [v, .non] H (fun w H' => ∃ b, w = .bl b ∧ b = false ∧ H' = H) E := by
  cases o with
  | none => exact .inl h
  | some l =>
    obtain ⟨a, rfl, ⟨dx, ha⟩, _⟩ := h
    exact .inr ⟨a, dx, _, rfl, ha, a, _, _, _, rfl, ⟨dx, ha⟩, .inr ⟨_, .base .non, kit_no T.ic_Lamp T.tc_Lamp T.sn_Lamp, _, rfl, rfl, rfl⟩⟩
theorem bl_neO {a b : Bool} {A B : Prop} (h : a = b) (hb : B) : if (!decide (V.bl a = V.bl b)) = true then A else B := by
  subst h
  rw [decide_eq_true rfl]
  exact iteF hb
theorem anyNone {C : Addr} {H : Hp} {v1 v2 v3 vw : V} {k1 k2 k3 k : Nat} {o1 o2 o3 w : OLp} (h1 : OAt C H v1 k1 o1) (h2 : OAt C H v2 k2 o2) (h3 : OAt C H v3 k3 o3) (hw : OAt C H vw k w) (e : w = none ↔ (o1 = none ∨ o2 = none ∨ o3 = none)) :
    [v1, v2, v3].any (fun v => decide (v = .non)) = decide (vw = .non) := by
  rw [Bool.eq_iff_iff, List.any_eq_true]
  simp only [List.mem_cons, List.not_mem_nil, or_false, decide_eq_true_eq]
  rw [hw.non, e, ← h1.non, ← h2.non, ← h3.non]
  constructor
  · rintro ⟨x, rfl | rfl | rfl, h⟩
    · exact .inl h
    · exact .inr (.inl h)
    · exact .inr (.inr h)
  · rintro (h | h | h)
    · exact ⟨v1, .inl rfl, h⟩
    · exact ⟨v2, .inr (.inl rfl), h⟩
    · exact ⟨v3, .inr (.inr rfl), h⟩
theorem OAt.lamp {C : Addr} {H : Hp} {a : Addr} {k : Nat} {l : Int × Int} (h : OAt C H (.ref a) k (some l)) : LampAt C H a l.1 l.2 := by
  obtain ⟨c, e, hl, _⟩ := h
  injection e with e
  subst e
  exact hl
theorem OAt.dr {C : Addr} {H H' : Hp} {v : V} {k : Nat} {o : OLp} {s : Addr} {n : Nat} (h : OAt C H v k o) (hs : Src H s n) (d : Dr s H H') : OAt C H' v k o := by
  cases o with
  | none => exact h
  | some l =>
    obtain ⟨a, e, hl, r⟩ := h
    exact ⟨a, e, hl.dr hs d, r⟩
theorem OAt.mut {C : Addr} {H : Hp} {v : V} {k : Nat} {o : OLp} {lf : Addr} {xs ys : List V} (h : OAt C H v k o) (hl : H lf = some (.lst xs)) : OAt C (upd H lf (.lst ys)) v k o := by
  cases o with
  | none => exact h
  | some l =>
    obtain ⟨a, e, ⟨dx, ha⟩, r⟩ := h
    refine ⟨a, e, ⟨dx, ?_⟩, r⟩
    rw [upd_ne (ne_of ha hl (by intro z; cases z))]
    exact ha
theorem OAt.mono {C : Addr} {H : Hp} {v : V} {k k' : Nat} {o : OLp} (h : OAt C H v k o) (hk : k ≤ k') : OAt C H v k' o := by
  cases o with
  | none => exact h
  | some l =>
    obtain ⟨a, e, hl, h0, h1, h2, h3⟩ := h
    exact ⟨a, e, hl, h0, h1, h2, Nat.lt_of_lt_of_le h3 (Nat.pow_le_pow_right (by decide) hk)⟩
end

section
variable {P : Program} {w : World} {K : PySem.W.Frag} {mg : Str → Option Value} {base : Heap}
theorem seenO {C : Addr} {H : Hp} {a c : Addr} {l1 l2 : Int × Int} {k1 k2 : Nat} {Q : VK} {E : XK} (hA : OAt C H (.ref a) k1 (some l1)) (hC : OAt C H (.ref c) k2 (some l2)) (n1 : k1 ≤ 8000) (n2 : k2 ≤ 8000)
    (q : ∀ o v H', Same H H' → OAt C H' v k2 o → SeesO l1 (some l2) o → Q v H') : spSeen C [.ref a, .ref c] H Q E := by
  have P1 := hA.pd n1
  have P2 := hC.pd n2
  obtain ⟨a', ea, ha, _, _, _, z1⟩ := hA
  obtain ⟨c', ec, hc, _, _, _, z2⟩ := hC
  injection ea with ea
  injection ec with ec
  subst ea ec
  refine ⟨a, c, l1.1, l1.2, l2.1, l2.2, rfl, ha, hc, P1, P2, fun hn H' s => ?_, fun m z M hg x H' nx s hx => ?_⟩
  · refine q none .non H' s rfl ⟨fun _ h => (nomatch h), fun t => ⟨fun h => h.elim, fun h => ?_⟩⟩
    refine seen_none hn (l1.2 + t * l1.1) ?_ h
    exact ⟨t, by rw [Int.mul_comm]; omega⟩
  · refine q (some (m, z)) (.ref x) H' s ⟨x, rfl, hx, M.q0, M.r0, M.rq, ?_⟩ ⟨?_, M.iff⟩
    · show m.natAbs < _
      rw [M.qe]
      refine Nat.lt_of_le_of_lt ?_ z2
      have := P2.p0
      have g0 := gcd_pos (a := l1.1) (b := l2.1) P1.p0
      have := Int.ediv_le_self (Int.gcd l1.1 l2.1 : Int) (show 0 ≤ l2.1 by omega)
      have := Int.ediv_nonneg (show 0 ≤ l2.1 by omega) (show (0 : Int) ≤ (Int.gcd l1.1 l2.1 : Int) by omega)
      omega
    · rintro l hl
      injection hl with hl
      subst hl
      exact ⟨M.q0, M.r0, M.rq⟩
end

section
variable {P : Program} {w : World} {K : PySem.W.Frag} {mg : Str → Option Value} {base : Heap}
/-- lamps, one behind another -/
def AllL (C : Addr) (H : Hp) (k : Nat) (vs : List V) (ls : List (Int × Int)) : Prop := vs.length = ls.length ∧ ∀ (i : Nat) v l, vs[i]? = some v → ls[i]? = some l → ∃ a, v = .ref a ∧ OAt C H (.ref a) k (some l)
theorem AllL.same {C : Addr} {H H' : Hp} {k : Nat} {vs : List V} {ls : List (Int × Int)} (h : AllL C H k vs ls) (s : Same H H') : AllL C H' k vs ls :=
  ⟨h.1, fun i v l e1 e2 => let ⟨a, e, o⟩ := h.2 i v l e1 e2; ⟨a, e, o.same s⟩⟩
theorem AllL.at {C : Addr} {H : Hp} {k : Nat} {vs : List V} {ls : List (Int × Int)} (h : AllL C H k vs ls) {i : Nat} {v : V} (e : vs[i]? = some v) : ∃ a l, v = .ref a ∧ ls[i]? = some l ∧ OAt C H (.ref a) k (some l) := by
  have hi : i < vs.length := by
    by_cases hh : i < vs.length
    · exact hh
    · rw [List.getElem?_eq_none (by omega)] at e; cases e
  have h2 : i < ls.length := h.1 ▸ hi
  obtain ⟨a, e', o⟩ := h.2 i v ls[i] e (List.getElem?_eq_getElem h2)
  exact ⟨a, ls[i], e', List.getElem?_eq_getElem h2, o⟩
theorem AllL.dr {C : Addr} {H H' : Hp} {k : Nat} {vs : List V} {ls : List (Int × Int)} {s : Addr} {n : Nat} (h : AllL C H k vs ls) (hs : Src H s n) (d : Dr s H H') : AllL C H' k vs ls :=
  ⟨h.1, fun i v l e1 e2 => let ⟨a, e, o⟩ := h.2 i v l e1 e2; ⟨a, e, o.dr hs d⟩⟩
theorem AllL.mut {C : Addr} {H : Hp} {k : Nat} {vs xs ys : List V} {ls : List (Int × Int)} {lf : Addr} (h : AllL C H k vs ls) (hl : H lf = some (.lst xs)) : AllL C (upd H lf (.lst ys)) k vs ls :=
  ⟨h.1, fun i v l e1 e2 => let ⟨a, e, o⟩ := h.2 i v l e1 e2; ⟨a, e, o.mut hl⟩⟩
theorem AllL.more {C : Addr} {H : Hp} {k : Nat} {vs : List V} {ls : List (Int × Int)} {a : Addr} {l : Int × Int} (h : AllL C H k vs ls) (o : OAt C H (.ref a) k (some l)) : AllL C H k (vs ++ [.ref a]) (ls ++ [l]) := by
  refine ⟨by simp [h.1], fun i v l' e1 e2 => ?_⟩
  by_cases hi : i < vs.length
  · rw [List.getElem?_append_left hi] at e1
    rw [List.getElem?_append_left (h.1 ▸ hi)] at e2
    exact h.2 i v l' e1 e2
  · rw [List.getElem?_append_right (by omega)] at e1
    rw [List.getElem?_append_right (by have := h.1; omega), ← h.1] at e2
    have e0 : i - vs.length = 0 := by
      by_cases z : i - vs.length = 0
      · exact z
      · rw [List.getElem?_eq_none (by simp; omega)] at e1; cases e1
    rw [e0] at e1 e2
    cases e1
    cases e2
    exact ⟨a, rfl, o⟩
theorem OAt.ins {C CG g dx : Addr} {H : Hp} {v : V} {k : Nat} {o : OLp} {ob : HO} (h : OAt C H v k o) (hg : H g = some (.ins CG dx [])) : OAt C (upd H g ob) v k o := by
  cases o with
  | none => exact h
  | some l =>
    obtain ⟨a, e, ⟨dx', ha⟩, r⟩ := h
    refine ⟨a, e, ⟨dx', ?_⟩, r⟩
    have ne : a ≠ g := fun z => by
      subst z
      rw [ha] at hg
      injection hg with hg
      injection hg with _ _ hg
      have := lf_period l.1 l.2
      rw [hg] at this
      cases this
    rw [upd_ne ne]
    exact ha
theorem AllL.ins {C CG g dx : Addr} {H : Hp} {k : Nat} {vs : List V} {ls : List (Int × Int)} {ob : HO} (h : AllL C H k vs ls) (hg : H g = some (.ins CG dx [])) : AllL C (upd H g ob) k vs ls :=
  ⟨h.1, fun i v l e1 e2 => let ⟨a, e, o⟩ := h.2 i v l e1 e2; ⟨a, e, o.ins hg⟩⟩
end

section
variable {P : Program} {w : World} {K : PySem.W.Frag} {mg : Str → Option Value} {base : Heap}
theorem get_map {α β : Type} {f : α → β} {xs : List α} {i : Nat} {y : β} (h : (xs.map f)[i]? = some y) : ∃ x, xs[i]? = some x ∧ y = f x := by
  rw [List.getElem?_map] at h
  cases e : xs[i]? with
  | none => rw [e] at h; cases h
  | some x => rw [e] at h; exact ⟨x, rfl, (Option.some.inj h).symm⟩
theorem same_at {H H2 : Hp} {a : Addr} {o : HO} (s : Same H H2) (h : H a = Option.none) : Same H (upd H2 a o) := fun b x e => by
  rw [upd_ne (ne_of_none e h)]
  exact s b x e
theorem back_none {H H' : Hp} {a : Addr} (s : Same H H') (e : H' a = Option.none) : H a = Option.none := by
  cases z : H a with
  | none => rfl
  | some o => rw [s a o z] at e; cases e
end

section
variable {P : Program} {w : World} {K : PySem.W.Frag} {mg : Str → Option Value} {base : Heap}
/-! ### numbered lamps, rows -/
def NumA (C : Addr) (H : Hp) (k : Nat) (ts : List Addr) (ns : List (Int × Int × Int)) : Prop :=
  ts.length = ns.length ∧ ∀ (i : Nat) T x, ts[i]? = some T → ns[i]? = some x → ∃ a, H T = some (.tup [.int x.1, .ref a]) ∧ OAt C H (.ref a) k (some x.2)
theorem NumA.same {C : Addr} {H H' : Hp} {k : Nat} {ts : List Addr} {ns : List (Int × Int × Int)} (h : NumA C H k ts ns) (s : Same H H') : NumA C H' k ts ns :=
  ⟨h.1, fun i T x e1 e2 => let ⟨a, e, o⟩ := h.2 i T x e1 e2; ⟨a, s _ _ e, o.same s⟩⟩
def RowsAt (H0 H : Hp) (R : Addr) (n : Nat) (f : Nat → List Int) : Prop := ∃ as : List Addr, H R = some (.lst (as.map V.ref)) ∧ as.length = n ∧ as.Nodup ∧ R ∉ as ∧ H0 R = none ∧ (∀ a ∈ as, H0 a = none) ∧
  ∀ (j : Nat) a, as[j]? = some a → H a = some (.lst ((f j).map V.int))
theorem RowsAt.more {H H2 : Hp} {D l : Addr} {i : Nat} {f : Nat → List Int} (h : RowsAt H H2 D i f) (s : Same H H2) (hl : H2 l = Option.none) : ∃ as : List Addr, H2 D = some (.lst (as.map V.ref)) ∧ as.length = i ∧
    Same H (upd (upd H2 l (.lst ((f i).map V.int))) D (.lst (as.map V.ref ++ [.ref l]))) ∧ RowsAt H (upd (upd H2 l (.lst ((f i).map V.int))) D (.lst (as.map V.ref ++ [.ref l]))) D (i + 1) f ∧ l ≠ D := by
  obtain ⟨as, hD, len, nd, nD, d0, n0, hr⟩ := h
  have lD : l ≠ D := fun z => by rw [z, hD] at hl; cases hl
  have h0 : H l = Option.none := by
    cases e : H l with
    | none => rfl
    | some o => rw [s l o e] at hl; cases hl
  have la : l ∉ as := fun z => by
    obtain ⟨j, hj⟩ := List.mem_iff_getElem?.mp z
    rw [hr j l hj] at hl
    cases hl
  refine ⟨as, hD, len, same_at (same_at s h0) d0, ⟨as ++ [l], ?_, by rw [List.length_append, len]; rfl, ?_, ?_, d0, ?_, ?_⟩, lD⟩
  · rw [upd_same, List.map_append]
    rfl
  · rw [List.nodup_append]
    exact ⟨nd, by simp, fun a ha b hb e => la (by rw [List.mem_singleton.mp hb] at e; rw [← e]; exact ha)⟩
  · intro hm
    rcases List.mem_append.mp hm with hm | hm
    · exact nD hm
    · exact lD (List.mem_singleton.mp hm).symm
  · intro a ha
    rcases List.mem_append.mp ha with ha | ha
    · exact n0 a ha
    · rw [List.mem_singleton.mp ha]; exact h0
  · intro j a hj
    by_cases hji : j < as.length
    · rw [List.getElem?_append_left hji] at hj
      have ma := List.mem_of_getElem? hj
      rw [upd_ne (fun z => nD (by rw [← z]; exact ma)), upd_ne (fun z => la (by rw [← z]; exact ma))]
      exact hr j a hj
    · have e : j = i := by
        by_cases z : j = as.length
        · omega
        · rw [List.getElem?_eq_none (by rw [List.length_append]; show as.length + 1 ≤ j; omega)] at hj; cases hj
      subst e
      rw [List.getElem?_append_right (by omega), len, Nat.sub_self] at hj
      cases hj
      rw [upd_ne lD, upd_same]
theorem RowsAt.nil {H : Hp} {D : Addr} {f : Nat → List Int} (hD : H D = Option.none) : RowsAt H (upd H D (.lst [])) D 0 f :=
  ⟨[], upd_same, rfl, List.nodup_nil, (fun h => nomatch h), hD, (fun _ h => nomatch h), fun j a h => by cases h⟩
theorem RowsAt.put {H H2 : Hp} {R : Addr} {n j : Nat} {f g : Nat → List Int} {z : Int} (h : RowsAt H H2 R n f) (s : Same H H2) (hj : j < n) (hg : g j = f j ++ [z]) (hn : ∀ x, x ≠ j → g x = f x) : ∃ (as : List Addr) (a : Addr), H2 R = some (.lst (as.map V.ref)) ∧ as[j]? = some a ∧ H2 a = some (.lst ((f j).map V.int)) ∧
    Same H (upd H2 a (.lst ((f j).map V.int ++ [.int z]))) ∧ RowsAt H (upd H2 a (.lst ((f j).map V.int ++ [.int z]))) R n g := by
  obtain ⟨as, hR, len, nd, nR, r0, n0, hr⟩ := h
  have hj' : j < as.length := by omega
  have ej : as[j]? = some as[j] := List.getElem?_eq_getElem hj'
  have mj := List.mem_of_getElem? ej
  refine ⟨as, as[j], hR, ej, hr j _ ej, same_at s (n0 _ mj), as, ?_, len, nd, nR, r0, n0, ?_⟩
  · rw [upd_ne (fun z => nR (by rw [z]; exact mj))]
    exact hR
  · intro x a hx
    by_cases e : x = j
    · subst e
      rw [ej] at hx
      cases hx
      rw [upd_same, hg, List.map_append]
      rfl
    · have hne : a ≠ as[j] := fun q => by
        subst q
        exact e ((List.getElem?_inj (List.getElem?_eq_some_iff.mp hx).1 nd).mp (hx.trans ej.symm))
      rw [upd_ne hne, hn x e]
      exact hr x a hx
theorem RowsAt.same {H0 H H' : Hp} {R : Addr} {n : Nat} {f : Nat → List Int} (h : RowsAt H0 H R n f) (s : Same H H') : RowsAt H0 H' R n f := by
  obtain ⟨as, hR, len, nd, nR, r0, n0, hr⟩ := h
  exact ⟨as, s _ _ hR, len, nd, nR, r0, n0, fun j a e => s _ _ (hr j a e)⟩
theorem RowsAt.ext {H0 H : Hp} {R : Addr} {n : Nat} {f g : Nat → List Int} (h : RowsAt H0 H R n f) (e : ∀ j, j < n → f j = g j) : RowsAt H0 H R n g := by
  obtain ⟨as, hR, len, nd, nR, r0, n0, hr⟩ := h
  refine ⟨as, hR, len, nd, nR, r0, n0, fun j a q => ?_⟩
  rw [← e j (by rw [← len]; exact (List.getElem?_eq_some_iff.mp q).1)]
  exact hr j a q
def spShRows (C : Addr) : Sp := fun vs H Q _ => ∃ (N : Addr) (ts : List Addr) (ns : List (Int × Int × Int)) (t : Int) (n k : Nat), vs = [.ref N, .int t, .int n] ∧ H N = some (.lst (ts.map V.ref)) ∧ NumA C H k ts ns ∧ k ≤ 8000 ∧ ns.length ≤ 1000 ∧ n ≤ 100000 ∧
  ∀ R H', Same H H' → RowsAt H H' R n (fun j => rowOf ns (t + j)) → Q (.ref R) H'
theorem ok_shining_rows (T : Top K mg) : FnOk P w K mg base CX0 4 T.f_shining_rows T.d_shining_rows ["numbered", "begin", "many"] (spShRows T.C_Lamp) := by
  have G_Lamp_next_shine := ok_Lamp_next_shine (P := P) (w := w) (base := base) T
  refine T.F_shining_rows.ok sc_shining_rows (fun vs H Q E h => ?_) (fun cdv A outer s H vs Q E hr h => ?_)
  · obtain ⟨N, ts, ns, t, n, k, rfl, _⟩ := h; rfl
  · obtain ⟨N, ts, ns, t, n, k, rfl, hN, hA, k1, n1, n2, q⟩ := h
    refine ⟨_, (pss_cons (ps_setLc (i := 3) (own := [("offset", 6)]) (g := gName 6) (by rfl) sc_shining_rows.nd rfl rfl (sw_true rfl rfl rfl (by decide +kernel)) (pi_range1 (by rfl) T.n_range (pa_cons (pv 2) pa_nil)) (blkOk_by (own := [("offset", 6)]) (N := ["numbered", "begin", "many", "rows", "number", "lamp", "offset"]) (sc := defScope s_shining_rows) (by decide +kernel)) (fun _ _ _ _ _ => by exact (pg_name (i := 6) sc_shining_rows.nd rfl (Or.inl rfl))) (fun _ _ _ _ _ => by exact (pts_nil)) (fun _ _ _ _ _ => by exact (pe_lst pa_nil)))
      (pss_cons (ps_for PassesOwn.never rfl (pi_list (pv 0)) (pg_tup (by rfl) (pgs_cons (pg_name (i := 4) sc_shining_rows.nd rfl (Or.inl rfl)) (pgs_cons (pg_name (i := 5) sc_shining_rows.nd rfl (Or.inl rfl)) pgs_nil))) (pss_one (ps_for PassesOwn.never rfl (pi_range3W (by rfl) T.n_range (pa_cons (pe_op op_sub (pe_meth (pv 5) T.cl_Lamp T.m_Lamp_next_shine G_Lamp_next_shine (hr.mono (by decide)) T.b_Lamp_next_shine .nil pass0 (pa_cons (pv 1) pa_nil)) (pv 1)) (pa_cons (pv 2) (pa_cons (pe_fld (pv 5) rfl) pa_nil)))) (pg_name (i := 6) sc_shining_rows.nd rfl (Or.inl rfl)) (pss_one (ps_expr (pe_bm PySem.F.plainAttrs_list PySem.F.slot_list_append PySem.F.type_list_append mt_append (pe_ix ix_list (pv 3) (pv 6) (fun _ _ => rfl)) (pa_cons (pv 4) pa_nil)))))))
      (pss_one (ps_ret (pv 3))))), ?_⟩
    -- rows = [[] for offset in range(many)]
    refine ⟨_, rfl, n, rfl, by omega, by omega, fun D hD => lc_range (lo := 0) (n := n) (fun i H' => Same H H' ∧ RowsAt H H' D i (fun _ => [])) ⟨same_new hD, RowsAt.nil hD⟩ ?_ ?_⟩
    · rintro i H2 hi ⟨s2, hr⟩
      refine ⟨rfl, ?_⟩
      refine ⟨(by show 0 ≤ sizeLine; decide), fun l hl => ?_⟩
      obtain ⟨as, hD2, len, s3, r3, lD⟩ := hr.more s2 hl
      refine ⟨as.map V.ref, by rw [upd_ne lD.symm]; exact hD2, ?_, s3, r3⟩
      rw [List.length_map, len]
      exact Nat.lt_of_lt_of_le (show i < 100001 by omega) (by decide)
    rintro H2 ⟨s2, hr2⟩
    have hN2 := s2 _ _ hN
    refine ⟨_, rfl, N, rfl, ⟨_, SqL.of hN2⟩, for_list (K := K) (a := N) (xs := ts.map V.ref) (fun i σ H' => (∃ v4 v5 v6, σ = [some (.ref N), some (.int t), some (.int n), some (.ref D), v4, v5, v6]) ∧ Same H H' ∧ RowsAt H H' D n (fun j => rowOf (ns.take i) (t + j)))
      ⟨⟨_, _, _, rfl⟩, s2, hr2.ext fun j _ => rfl⟩ (fun _ σ H' _ ⟨_, s', _⟩ => SqL.of (s' _ _ hN)) ?_ ?_⟩
    · rintro i x σ H3 hi ⟨⟨v4, v5, v6, rfl⟩, s3, hr3⟩
      obtain ⟨T', hT, rfl⟩ := get_map hi
      obtain ⟨l, hl⟩ : ∃ l, ns[i]? = some l := ⟨_, List.getElem?_eq_getElem (by rw [← hA.1]; exact (List.getElem?_eq_some_iff.mp hT).1)⟩
      obtain ⟨a, e1, o1⟩ := hA.2 i T' l hT hl
      have e3 := s3 _ _ e1
      have o3 := o1.same s3
      obtain ⟨p0, b0, bp⟩ := o3.ok _ rfl
      refine ⟨T', _, rfl, SqT.of e3, rfl, _, _, rfl, _, _, rfl, rfl, ?_⟩
      obtain ⟨m, hm⟩ := range_nat (lo := (l.2.2 - t) % l.2.1) (many := n) p0
      have lg : l.2.1.natAbs.log2 < 9000 := by
        obtain ⟨_, _, _, _, _, _, z⟩ := o1
        exact (Nat.log2_lt (n := l.2.1.natAbs) (k := 9000) (by omega)).mpr (Nat.lt_of_lt_of_le z (Nat.pow_le_pow_right (by decide) (Nat.le_trans k1 (by decide))))
      refine ⟨_, rfl, _, _, _, rfl, o3.lamp.choose_spec, lf_no _ _ (by decide +kernel) (by decide +kernel), _, rfl, a, l.2.1, l.2.2, t, rfl, o3.lamp, p0, _, rfl, _, _, rfl, rfl, _, rfl, _, rfl, _, _, _, _, _, rfl, (o3.lamp).choose_spec, T.cl_Lamp, T.na_Lamp_period, lf_period _ _, ?_⟩
      have e0 : t + (l.2.2 - t) % l.2.1 - t = (l.2.2 - t) % l.2.1 := by omega
      have lo0 : 0 ≤ (l.2.2 - t) % l.2.1 := Int.emod_nonneg _ (by omega)
      refine ⟨_, _, _, m, (by show [V.int (t + (l.2.2 - t) % l.2.1 - t), V.int n, V.int l.2.1] = [V.int ((l.2.2 - t) % l.2.1), V.int n, V.int l.2.1]; rw [e0]), p0, lg, hm, for_rangeC (fun x σ H' => (∃ v6, σ = [some (.ref N), some (.int t), some (.int n), some (.ref D), some (.int l.1), some (.ref a), v6]) ∧ Same H H' ∧
        RowsAt H H' D n (fun j => rowOf (ns.take i) (t + j) ++ if hitB ((l.2.2 - t) % l.2.1) l.2.1 x j then [l.1] else [])) ⟨⟨_, rfl⟩, s3, hr3.ext fun j _ => by rw [hit_zero]; simp⟩ ?_ ?_⟩
      · rintro x σ H4 hx ⟨⟨v6', rfl⟩, s4, hr4⟩
        have hlt := hit_lt p0 hm hx
        have xp : 0 ≤ (x : Int) * l.2.1 := Int.mul_nonneg (by omega) (by omega)
        obtain ⟨o, ho⟩ : ∃ o : Nat, (l.2.2 - t) % l.2.1 + x * l.2.1 = o := ⟨((l.2.2 - t) % l.2.1 + x * l.2.1).toNat, by omega⟩
        obtain ⟨as, b, hR, hb, hb2, s5, r5⟩ := hr4.put (j := o) (z := l.1) (g := fun j => rowOf (ns.take i) (t + j) ++ if hitB ((l.2.2 - t) % l.2.1) l.2.1 (x + 1) j then [l.1] else []) s4 (by omega)
          (by rw [← ho, hit_at p0, hit_new p0]; simp) (fun y hy => by rw [hit_step p0 (by omega)])
        refine ⟨_, rfl, _, rfl, D, _, _, _, rfl, rfl, SqL.of hR, at_of (j := o) ho (show (as.map V.ref)[o]? = some (V.ref b) by rw [List.getElem?_map, hb]; rfl), .inl ⟨rfl, _, SqL.of hb2⟩, _, rfl, b, _, _, rfl, rfl, hb2, ?_, ?_⟩
        · have h1 := rowOf_len (ns.take i) (t + o)
          have h2 := List.length_take_le' i ns
          rw [List.length_map, List.length_append]
          refine Nat.lt_of_lt_of_le (show _ < 1002 by split <;> simp <;> omega) (by decide)
        · exact ⟨⟨_, rfl⟩, s5, r5⟩
      · rintro σ H4 ⟨⟨v6', rfl⟩, s4, hr4⟩
        refine ⟨⟨_, _, _, rfl⟩, s4, hr4.ext fun j hj => ?_⟩
        rw [rowOf_take hl, hit_all p0 hm (by omega) (by omega)]
    · rintro σ H3 ⟨⟨v4, v5, v6, rfl⟩, s3, hr3⟩
      refine ⟨_, rfl, q D H3 s3 ?_⟩
      rw [List.length_map, hA.1, List.take_length] at hr3
      exact hr3
end

section
variable {P : Program} {w : World} {K : PySem.W.Frag} {mg : Str → Option Value} {base : Heap}
/-! ### lights -/
def spCopied (C : Addr) : Sp := fun vs H Q _ => ∃ (L : Addr) (xs : List V) (ls : List (Int × Int)) (k : Nat), vs = [.ref L] ∧ H L = some (.lst xs) ∧ AllL C H k xs ls ∧ ls.length ≤ 1000 ∧
  ∀ p ys H', Same H H' → H p = none → H' p = some (.lst ys) → AllL C H' k ys ls → Q (.ref p) H'
theorem ok_copied (T : Top K mg) : FnOk P w K mg base CX0 4 T.f_copied T.d_copied ["lamps"] (spCopied T.C_Lamp) := by
  have G_Lamp_init := ok_Lamp_init (P := P) (w := w) (base := base) T
  refine T.F_copied.ok sc_copied (fun vs H Q E h => ?_) (fun cdv A outer s H vs Q E hr h => ?_)
  · obtain ⟨L, xs, ls, k, rfl, _⟩ := h; rfl
  · obtain ⟨L, xs, ls, k, rfl, hL, hall, hn, q⟩ := h
    refine ⟨_, (pss_one (ps_ret (pe_lc (own := [("lamp", 1)]) (g := gName 1) (by rfl) sc_copied.nd (pi_list (pv 0)) (blkOk_by (own := [("lamp", 1)]) (N := ["lamps", "lamp"]) (sc := defScope s_copied) (by decide +kernel)) (fun _ _ _ _ _ => by exact (pg_name (i := 1) sc_copied.nd rfl (Or.inl rfl))) (fun _ _ _ _ _ => by exact (pts_nil)) (fun _ _ _ _ _ => by exact (pe_make T.mk_Lamp G_Lamp_init (hr.mono (by decide)) (by rfl) T.gC_Lamp T.b_Lamp_init .nil pass0 (pa_cons (pe_fldB (K := K) rfl (pv 1) rfl) (pa_cons (pe_fldB (K := K) rfl (pv 1) rfl) pa_nil))))))), ?_⟩
    refine ⟨_, rfl, L, rfl, ⟨_, SqL.of hL⟩, fun D hD => lc_list (K := K) (a := L) (xs := xs) (fun i H' => Same H H' ∧ ∃ ys, H' D = some (.lst ys) ∧ AllL T.C_Lamp H' k ys (ls.take i))
      ⟨same_new hD, [], upd_same, rfl, fun i v l h => by cases h⟩ (fun i H' _ ⟨s2, _⟩ => SqL.of (s2 _ _ hL)) (fun i x H' hi ⟨s2, ys, hD', ha'⟩ => ?_) (fun H' ⟨s2, ys, hD', ha'⟩ => ?_)⟩
    · obtain ⟨a, l, rfl, el, ha⟩ := hall.at hi
      have ha2 := ha.same s2
      obtain ⟨p0, b0, bp⟩ := ha2.ok _ rfl
      refine ⟨rfl, ?_⟩
      refine ⟨_, rfl, _, _, _, _, _, rfl, (ha2.lamp).choose_spec, T.cl_Lamp, T.na_Lamp_period, lf_period _ _, _, rfl, _, _, _, _, _, rfl, (ha2.lamp).choose_spec, T.cl_Lamp, T.na_Lamp_beat, lf_beat _ _, ?_⟩
      intro x dx nx ndx nex; refine ⟨x, dx, l.1, l.2, rfl, upd_same, p0, fun H3 hx kx => ⟨rfl, ?_⟩⟩; have sx := Same.made nx ndx kx; clear kx nex ndx
      have s3 := sx
      have hD3 := s3 _ _ hD'
      refine ⟨ys, hD3, ?_, same_at (s2.trans s3) hD, _, upd_same, ?_⟩
      · rw [ha'.1, List.length_take]
        exact Nat.lt_of_lt_of_le (show min i ls.length < 1001 by omega) (by decide)
      · rw [List.take_succ, el]
        refine AllL.more (AllL.mut (ha'.same s3) hD3) (OAt.mut ⟨x, rfl, ?_, p0, b0, bp, ?_⟩ hD3)
        · rw [Int.emod_eq_of_lt b0 bp] at hx
          exact hx
        · obtain ⟨_, _, _, _, _, _, z⟩ := ha
          exact z
    · rw [hall.1, List.take_length] at ha'
      exact q D ys H' s2 hD hD' ha'
def gf (L : Addr) : List (Str × V) := putF "_lamps" (.ref L) []
theorem gf_lamps (L : Addr) : (gf L).lookup ("_lamps" : Str) = some (.ref L) := by
  unfold gf
  rw [lookup_putF, if_pos rfl]
theorem gf_no (L : Addr) {m : Str} (h1 : ¬ m = "_lamps") : (gf L).lookup m = none := by
  unfold gf
  rw [lookup_putF, if_neg h1]
  rfl
/-- a Light of these lamps stands at g -/
def LightAt (C CG : Addr) (H : Hp) (g : Addr) (k : Nat) (ls : List (Int × Int)) : Prop := ∃ dx L xs, H g = some (.ins CG dx (gf L)) ∧ H L = some (.lst xs) ∧ AllL C H k xs ls
theorem LightAt.same {C CG : Addr} {H H' : Hp} {g : Addr} {k : Nat} {ls : List (Int × Int)} (h : LightAt C CG H g k ls) (s : Same H H') : LightAt C CG H' g k ls :=
  let ⟨dx, L, xs, e1, e2, e3⟩ := h; ⟨dx, L, xs, s _ _ e1, s _ _ e2, e3.same s⟩
def spLightInit (C CG : Addr) : Sp := fun vs H Q _ => ∃ (g dx L : Addr) (xs : List V) (ls : List (Int × Int)) (k : Nat), vs = [.ref g, .ref L] ∧ H g = some (.ins CG dx []) ∧ H L = some (.lst xs) ∧ AllL C H k xs ls ∧ ls.length ≤ 10 ∧
  ∀ H', LightAt C CG H' g k ls → (∀ c o, H c = some o → c ≠ g → H' c = some o) → Q .non H'
theorem ok_Light_init (T : Top K mg) : FnOk P w K mg base CX0 5 T.f_Light_init T.d_Light_init ["self", "lamps"] (spLightInit T.C_Lamp T.C_Light) := by
  have G_copied := ok_copied (P := P) (w := w) (base := base) T
  refine T.F_Light_init.ok sc_Light_init (fun vs H Q E h => ?_) (fun cdv A outer s H vs Q E hr h => ?_)
  · obtain ⟨g, dx, L, xs, ls, k, rfl, _⟩ := h; rfl
  · obtain ⟨g, dx, L, xs, ls, k, rfl, hg, hL, hall, hn, q⟩ := h
    refine ⟨_, (pss_cons (ps_if (PW.pt (pw_or (pt_not (pt_val (pe_callB call_isiT (by rfl) T.n_isinstance (by decide +kernel) (pa_cons (pv 1) (pa_cons (pe_tup (pa_cons (pe_bltn (v := .ty "list") (by rfl) T.n_list (by decide +kernel) rfl) (pa_cons (pe_bltn (v := .ty "tuple") (by rfl) T.n_tuple (by decide +kernel) rfl) pa_nil))) pa_nil))))) (pw_or1 (pt_cmpR op_gt (pe_callB call_len_seq (by rfl) T.n_len (by decide +kernel) (pa_cons (pv 1) pa_nil)) (pe_glob (v := .int 10) rfl T.c_MOST_LAMPS ⟨_, rfl⟩) (nomark _))))) (pss_one (ps_never)) pss_nil)
      (pss_cons (ps_if (pt_not (pt_val (pe_callB (cr_all rfl) (by rfl) T.n_all (by decide +kernel) (pa_cons (pe_lc (own := [("lamp", 2)]) (g := gName 2) (by rfl) sc_Light_init.nd (pi_list (pv 1)) (blkOk_by (own := [("lamp", 2)]) (N := ["self", "lamps", "lamp"]) (sc := defScope s_Light_init) (by decide +kernel)) (fun _ _ _ _ _ => by exact (pg_name (i := 2) sc_Light_init.nd rfl (Or.inl rfl))) (fun _ _ _ _ _ => by exact (pts_nil)) (fun _ _ _ _ _ => by exact (pe_callB (call_isiB (K := K) rfl) (by rfl) T.n_isinstance (by decide +kernel) (pa_cons (pv 2) (pa_cons (pe_glob (v := .ref T.C_Lamp) rfl T.gC_Lamp rfl) pa_nil))))) pa_nil)))) (pss_one (ps_never)) pss_nil)
      (pss_one (ps_fld (pv 0) (pe_call G_copied (hr.mono (by decide)) rfl T.g_copied T.F_copied.kp T.b_copied .nil pass0 (pa_cons (pv 1) pa_nil)) rfl)))), ?_⟩
    refine ⟨_, rfl, (by show 2 ≤ sizeLine; decide), fun tp htp => ?_⟩
    have s0 := same_new (o := .tup [.ty "list", .ty "tuple"]) htp
    refine ⟨_, tp, [.ty "list", .ty "tuple"], _, [.type "list", .type "tuple"], true, rfl, upd_same, .cons (.ty _) (.cons (.ty _) .nil), .base (.lst (s0 _ _ hL)), ?_, true, rfl, ?_⟩
    · unfold PySem.W.kitAny PySem.W.kitOne
      rw [if_pos (by decide)]
    refine ⟨_, rfl, L, xs, rfl, .inl (SqL.of (s0 _ _ hL)), _, _, rfl, rfl, _, rfl, ?_⟩
    show if decide (10 < (xs.length : Int)) = true then _ else _
    refine ite2 (fun c => absurd (of_decide_eq_true c) (by rw [hall.1]; omega)) fun _ => ?_
    have hL1 := s0 _ _ hL
    have hall1 := hall.same s0
    have hg1 := s0 _ _ hg
    generalize upd H tp (.tup [.ty "list", .ty "tuple"]) = H1 at *
    refine ⟨_, rfl, L, rfl, ⟨_, SqL.of hL1⟩, fun D hD => lc_list (K := K) (a := L) (xs := xs) (fun i H' => Same H1 H' ∧ H' D = some (.lst ((List.replicate i true).map V.bl)))
      ⟨same_new hD, upd_same⟩ (fun i H' _ ⟨s2, _⟩ => SqL.of (s2 _ _ hL1)) (fun i x H' hi ⟨s2, hD'⟩ => ?_) (fun H' ⟨s2, hD'⟩ => ?_)⟩
    · obtain ⟨a, l, rfl, el, ha⟩ := hall1.at hi
      have ha2 := (ha.same s2).lamp
      refine ⟨rfl, ?_⟩
      refine ⟨_, rfl, _, _, _, _, true, rfl, .own _, T.kl_Lamp.ty ha2.choose_spec, (by unfold PySem.W.kitOne; rw [if_pos (by simp)]), _, hD', ?_, ?_, ?_⟩
      · have hlt : i < xs.length := by
          by_cases hh : i < xs.length
          · exact hh
          · rw [List.getElem?_eq_none (by omega)] at hi; cases hi
        rw [List.length_map, List.length_replicate]
        exact Nat.lt_of_lt_of_le (show i < 11 by rw [hall1.1] at hlt; omega) (by decide)
      · exact same_at s2 hD
      · rw [upd_same, List.replicate_succ', List.map_append]
        rfl
    · refine ⟨D, _, rfl, SqL.of hD', ?_⟩
      rw [show (List.replicate xs.length true).all id = true by rw [List.all_eq_true]; intro x hx; exact (List.mem_replicate.mp hx).2]
      refine ⟨_, rfl, iteF ?_⟩
      have hL2 := s2 _ _ hL1
      have hall2 := hall1.same s2
      have hg2 := s2 _ _ hg1
      refine ⟨_, rfl, L, xs, ls, k, rfl, hL2, hall2, by omega, fun p ys H3 s3 hp hl ha => ?_⟩
      have hg3 := s3 _ _ hg2
      refine ⟨_, rfl, g, T.C_Light, dx, [], rfl, hg3, T.cl_Light, T.na_Light__lamps, (by show 0 < 1000; decide), ?_⟩
      refine q _ ⟨dx, p, ys, upd_same, ?_, ha.ins hg3⟩ fun c o e hc => ?_
      · rw [upd_ne (ne_of hl hg3 (by intro z; cases z))]
        exact hl
      · rw [upd_ne hc]
        exact s3 _ _ (s2 _ _ (s0 _ _ e))
end
section
variable {P : Program} {w : World} {K : PySem.W.Frag} {mg : Str → Option Value} {base : Heap}
/-- Light(list): the argument's reading ends in this -/
theorem make_light {C CG : Addr} {L : Addr} {xs : List V} {ls : List (Int × Int)} {k : Nat} {vs : List V} {H : Hp} {Q : VK} {E : XK} (hv : vs = [.ref L]) (hL : H L = some (.lst xs)) (hall : AllL C H k xs ls) (hn : ls.length ≤ 10)
    (q : ∀ g H', H g = none → Same H H' → LightAt C CG H' g k ls → Q (.ref g) H') :
    ∀ x dx, H x = none → H dx = none → dx ≠ x → spLightInit C CG (.ref x :: (vs ++ [])) (upd (upd H dx (.own x)) x (.ins CG dx [])) (fun v H2 => v = .non ∧ Q (.ref x) H2) E := by
  intro x dx nx nd ne
  have s1 : Same H (upd (upd H dx (.own x)) x (.ins CG dx [])) := fun b o e => by
    rw [upd_ne (ne_of_none e nx), upd_ne (ne_of_none e nd)]
    exact e
  subst hv
  exact ⟨x, dx, L, xs, ls, k, rfl, upd_same, s1 _ _ hL, hall.same s1, hn, fun H' h kk => ⟨rfl, q x H' nx (Same.made nx nd kk) h⟩⟩
def spLamps0 (C CG : Addr) : Sp := fun vs H Q _ => ∃ (g : Addr) (k : Nat) (ls : List (Int × Int)), vs = [.ref g] ∧ LightAt C CG H g k ls ∧ ls.length ≤ 10 ∧
  ∀ p ys H', Same H H' → H p = none → H' p = some (.lst ys) → AllL C H' k ys ls → Q (.ref p) H'
theorem ok_Light_lamps (T : Top K mg) : FnOk P w K mg base CX0 5 T.f_Light_lamps T.d_Light_lamps ["self"] (spLamps0 T.C_Lamp T.C_Light) := by
  have G_copied := ok_copied (P := P) (w := w) (base := base) T
  refine T.F_Light_lamps.ok sc_Light_lamps (fun vs H Q E h => ?_) (fun cdv A outer s H vs Q E hr h => ?_)
  · obtain ⟨g, k, ls, rfl, _⟩ := h; rfl
  · obtain ⟨g, k, ls, rfl, ⟨dx, L, xs, hg, hL, hall⟩, hn, q⟩ := h
    refine ⟨_, (pss_one (ps_ret (pe_call G_copied (hr.mono (by decide)) rfl T.g_copied T.F_copied.kp T.b_copied .nil pass0 (pa_cons (pe_fld (pv 0) rfl) pa_nil)))), ?_⟩
    refine ⟨_, rfl, g, T.C_Light, dx, _, _, rfl, hg, T.cl_Light, T.na_Light__lamps, gf_lamps _, ?_⟩
    exact ⟨L, xs, ls, k, rfl, hL, hall, by omega, q⟩
end

section
variable {P : Program} {w : World} {K : PySem.W.Frag} {mg : Str → Option Value} {base : Heap}
def spWait (C CG : Addr) : Sp := fun vs H Q _ => ∃ (g : Addr) (k : Nat) (ls : List (Int × Int)), vs = [.ref g] ∧ LightAt C CG H g k ls ∧ ls.length ≤ 1000 ∧ Q (.int (2 ^ ls.length)) H
end

section
variable {P : Program} {w : World} {K : PySem.W.Frag} {mg : Str → Option Value} {base : Heap}
theorem num_of {C : Addr} {H : Hp} {k : Nat} {ts : List Addr} {ys : List V} {ls : List (Int × Int)} (hall : AllL C H k ys ls) (pr : Paired (fun (t : Addr) (q : Key × V) => H t = some (.tup [kV q.1, q.2])) ts (enuL 0 ys)) : NumA C H k ts (numF 0 ls) := by
  have len := Paired.length pr
  rw [enuL_len] at len
  refine ⟨by rw [len, numF_len, hall.1], fun i T x e1 e2 => ?_⟩
  obtain ⟨q, g1, g2⟩ := L2.paired_get pr e1
  have hi : i < ys.length := by rw [← len]; exact (List.getElem?_eq_some_iff.mp e1).1
  have ey := List.getElem?_eq_getElem hi
  have g3 := enuL_get ys 0 i _ ey
  rw [g1] at g3
  injection g3 with g3
  subst g3
  rw [numF_get] at e2
  obtain ⟨a, l, ea, el, ho⟩ := hall.at ey
  rw [el] at e2
  cases e2
  refine ⟨a, ?_, ho⟩
  rw [g2, ea]
  show some (HO.tup [V.int ((0 + i : Nat) : Int), V.ref a]) = some (HO.tup [V.int (0 + (i : Int)), V.ref a])
  rw [show ((0 + i : Nat) : Int) = 0 + (i : Int) by omega]
/-- rows to be read -/
def RowsR (H : Hp) (R : Addr) (n : Nat) (f : Nat → List Int) : Prop := ∃ as : List Addr, H R = some (.lst (as.map V.ref)) ∧ as.length = n ∧ ∀ (j : Nat) a, as[j]? = some a → H a = some (.lst ((f j).map V.int))
theorem RowsAt.r {H0 H : Hp} {R : Addr} {n : Nat} {f : Nat → List Int} (h : RowsAt H0 H R n f) : RowsR H R n f := let ⟨as, a, b, _, _, _, _, c⟩ := h; ⟨as, a, b, c⟩
theorem RowsR.same {H H' : Hp} {R : Addr} {n : Nat} {f : Nat → List Int} (h : RowsR H R n f) (s : Same H H') : RowsR H' R n f := let ⟨as, a, b, c⟩ := h; ⟨as, s _ _ a, b, fun j x e => s _ _ (c j x e)⟩
def emptyL (n : Nat) (f : Nat → List Int) : List Nat := (List.range n).filter fun j => decide (f j = [])
def spEmpty : Sp := fun vs H Q _ => ∃ (R : Addr) (n : Nat) (f : Nat → List Int), vs = [.ref R] ∧ RowsR H R n f ∧ n ≤ 100000 ∧ ∀ p H', Same H H' → H p = none → H' p = some (.lst ((emptyL n f).map fun j => V.int (j : Nat))) → Q (.ref p) H'
theorem ok_empty_places (T : Top K mg) : FnOk P w K mg base CX0 1 T.f_empty_places T.d_empty_places ["rows"] spEmpty := by
  refine T.F_empty_places.ok sc_empty_places (fun vs H Q E h => ?_) (fun cdv A outer s H vs Q E hr h => ?_)
  · obtain ⟨R, n, f, rfl, _⟩ := h; rfl
  · obtain ⟨R, n, f, rfl, ⟨as, hR, len, hr⟩, hn, q⟩ := h
    refine ⟨_, (pss_one (ps_ret (pe_lc (own := [("place", 1), ("row", 2)]) (g := gTup K 2 (gCons (gName 1) (gCons (gName 2) gNil))) (tt := _) (by rfl) sc_empty_places.nd (pi_enum (by rfl) T.n_enumerate (pa_cons (pv 0) pa_nil)) (blkOk_by (own := [("place", 1), ("row", 2)]) (N := ["rows", "place", "row"]) (sc := defScope s_empty_places) (by decide +kernel)) (fun _ _ _ _ _ => by exact (pg_tupB (K := K) rfl (by rfl) (pgs_cons (pg_name (i := 1) sc_empty_places.nd rfl (Or.inl rfl)) (pgs_cons (pg_name (i := 2) sc_empty_places.nd rfl (Or.inl rfl)) pgs_nil)))) (fun _ _ _ _ _ => by exact (pts_one (pt_not (pt_truthB (K := K) rfl (pv 2) (by intro _; rfl))))) (fun _ _ _ _ _ => by exact ((pv 1)))))), ?_⟩
    refine ⟨_, rfl, R, as.map V.ref, rfl, SqL.of hR, fun D hD => lc_it (walk_enum (K := K) (a := R) (xs := as.map V.ref)) (fun i H' => Same H H' ∧ H' D = some (.lst ((emptyL i f).map fun j => V.int (j : Nat)))) ⟨same_new hD, upd_same⟩ (fun i H' _ ⟨s2, _⟩ => SqL.of (s2 _ _ hR)) ?_ ?_⟩
    · rintro i x H2 H3 hi ⟨s2, hD2⟩ ⟨T', x1, x2, rfl, hT, rfl, e1, e2⟩
      cases e1
      obtain ⟨a, ea, rfl⟩ := get_map e2
      have s3 : Same H (upd H2 T' (.tup [.int (i : Nat), .ref a])) := fun b o e => by
        rw [upd_ne (ne_of_none (s2 _ _ e) hT)]
        exact s2 _ _ e
      refine ⟨T', _, rfl, SqT.of upd_same, rfl, _, _, rfl, _, _, rfl, rfl, rfl, ?_⟩
      have hD3 : upd H2 T' (.tup [.int (i : Nat), .ref a]) D = some (.lst ((emptyL i f).map fun j => V.int (j : Nat))) := by rw [upd_ne (ne_of_none hD2 hT)]; exact hD2
      have hb := s3 _ _ (hr i a ea)
      generalize upd H2 T' (.tup [.int (i : Nat), .ref a]) = H3 at *
      refine ⟨_, rfl, !((f i).map V.int).isEmpty, .inl ⟨_, SqL.of hb, rfl⟩, ?_⟩
      have hlt : i < n := by rw [List.length_map] at hi; omega
      cases e : f i with
      | nil =>
        refine ⟨_, rfl, _, hD3, ?_, same_at s3 hD, ?_⟩
        · rw [List.length_map]
          have h1 := List.length_filter_le (fun j => decide (f j = [])) (List.range i)
          rw [List.length_range] at h1
          exact Nat.lt_of_lt_of_le (show (emptyL i f).length < 100001 by unfold emptyL; omega) (by decide)
        · rw [upd_same]
          unfold emptyL
          rw [List.range_succ, List.filter_append, List.map_append]
          simp [e]
      | cons z r =>
        refine ⟨s3, ?_⟩
        rw [hD3]
        unfold emptyL
        rw [List.range_succ, List.filter_append, List.map_append]
        simp [e]
    · rintro H2 ⟨s2, hD2⟩
      rw [List.length_map, len] at hD2
      exact q D H2 s2 hD hD2
def spLeast : Sp := fun vs H Q _ => ∃ (R : Addr) (n : Nat) (f : Nat → List Int), vs = [.ref R] ∧ RowsR H R n f ∧ n ≤ 100000 ∧ (∀ j, j < n → f j ≠ []) ∧
  ∀ p H', Same H H' → H p = none → H' p = some (.lst (((List.range n).map fun j => (f j).headD 0).map V.int)) → Q (.ref p) H'
theorem ok_least_paper (T : Top K mg) : FnOk P w K mg base CX0 1 T.f_least_paper T.d_least_paper ["rows"] spLeast := by
  refine T.F_least_paper.ok sc_least_paper (fun vs H Q E h => ?_) (fun cdv A outer s H vs Q E hr h => ?_)
  · obtain ⟨R, n, f, rfl, _⟩ := h; rfl
  · obtain ⟨R, n, f, rfl, ⟨as, hR, len, hr⟩, hn, hf, q⟩ := h
    refine ⟨_, (pss_one (ps_ret (pe_lc (own := [("row", 1)]) (g := gName 1) (by rfl) sc_least_paper.nd (pi_list (pv 0)) (blkOk_by (own := [("row", 1)]) (N := ["rows", "row"]) (sc := defScope s_least_paper) (by decide +kernel)) (fun _ _ _ _ _ => by exact (pg_name (i := 1) sc_least_paper.nd rfl (Or.inl rfl))) (fun _ _ _ _ _ => by exact (pts_nil)) (fun _ _ _ _ _ => by exact (pe_ix (ix_listB (K := K) rfl) (pv 1) pe_int (fun _ _ => rfl)))))), ?_⟩
    refine ⟨_, rfl, R, rfl, ⟨_, SqL.of hR⟩, fun D hD => lc_list (K := K) (a := R) (xs := as.map V.ref) (fun i H' => Same H H' ∧ H' D = some (.lst (((List.range i).map fun j => (f j).headD 0).map V.int)))
      ⟨same_new hD, upd_same⟩ (fun i H' _ ⟨s2, _⟩ => SqL.of (s2 _ _ hR)) (fun i x H' hi ⟨s2, hD'⟩ => ?_) (fun H' ⟨s2, hD'⟩ => ?_)⟩
    · obtain ⟨a, ea, rfl⟩ := get_map hi
      have hb := s2 _ _ (hr i a ea)
      have hlt : i < n := by rw [← len]; exact (List.getElem?_eq_some_iff.mp ea).1
      have e := hf i hlt
      obtain ⟨z, r, hz⟩ := List.exists_cons_of_ne_nil e
      refine ⟨rfl, ?_⟩
      refine ⟨_, rfl, a, _, _, _, rfl, rfl, SqL.of hb, at_of (j := 0) rfl (show ((f i).map V.int)[0]? = some (V.int z) by rw [hz]; rfl), _, hD', ?_, same_at s2 hD, ?_⟩
      · rw [List.length_map, List.length_map, List.length_range]
        exact Nat.lt_of_lt_of_le (show i < 100001 by omega) (by decide)
      · rw [upd_same, List.range_succ, List.map_append, List.map_append]
        simp [hz]
    · rw [List.length_map, len] at hD'
      exact q D H' s2 hD hD'
end

section
variable {P : Program} {w : World} {K : PySem.W.Frag} {mg : Str → Option Value} {base : Heap}
/-! ### lists of pairs -/
abbrev PZ := List (Addr × (Int × Int))
def prs (zs : PZ) : List (Int × Int) := zs.map fun z => z.2
/-- pairs as they stand in a heap -/
def TupZ (H : Hp) (zs : PZ) : Prop := ∀ z ∈ zs, H z.1 = some (.tup [.int z.2.1, .int z.2.2])
def refsZ (zs : PZ) : List V := zs.map fun z => V.ref z.1
def PairsA (H : Hp) (L : Addr) (zs : PZ) : Prop := H L = some (.lst (refsZ zs)) ∧ TupZ H zs
def OkZ (zs : PZ) : Prop := ∀ z ∈ zs, 0 < z.2.1 ∧ z.2.1 < 2 ^ 250
theorem TupZ.same {H H' : Hp} {zs : PZ} (h : TupZ H zs) (s : Same H H') : TupZ H' zs := fun z hz => s _ _ (h z hz)
theorem PairsA.same {H H' : Hp} {L : Addr} {zs : PZ} (h : PairsA H L zs) (s : Same H H') : PairsA H' L zs := ⟨s _ _ h.1, h.2.same s⟩
theorem TupZ.dr {H H' : Hp} {s : Addr} {n : Nat} {zs : PZ} (h : TupZ H zs) (hs : Src H s n) (d : Dr s H H') : TupZ H' zs := fun z hz => d _ _ (h z hz) fun e => by
  obtain ⟨_, _, _, h1, _⟩ := hs
  have := h z hz
  rw [e, h1] at this
  cases this
theorem refs_ne {H : Hp} {s L : Addr} {n : Nat} {zs : PZ} (hs : Src H s n) (h : H L = some (.lst (refsZ zs))) : L ≠ s := fun e => by
  obtain ⟨_, _, _, h1, _⟩ := hs
  rw [e, h1] at h
  cases zs with
  | nil => cases h
  | cons z zs => cases h
theorem PairsA.dr {H H' : Hp} {s L : Addr} {n : Nat} {zs : PZ} (h : PairsA H L zs) (hs : Src H s n) (d : Dr s H H') : PairsA H' L zs := ⟨d _ _ h.1 (refs_ne hs h.1), h.2.dr hs d⟩
theorem TupZ.mut {H : Hp} {l : Addr} {xs : List V} {o : HO} {zs : PZ} (h : TupZ H zs) (hl : H l = some (.lst xs)) : TupZ (upd H l o) zs := fun z hz => by
  rw [upd_ne (ne_of (h z hz) hl (by intro e; cases e))]
  exact h z hz
theorem TupZ.app {H : Hp} {zs ys : PZ} (h : TupZ H zs) (h2 : TupZ H ys) : TupZ H (zs ++ ys) := fun z hz => (List.mem_append.mp hz).elim (h z) (h2 z)
theorem OkZ.app {zs ys : PZ} (h : OkZ zs) (h2 : OkZ ys) : OkZ (zs ++ ys) := fun z hz => (List.mem_append.mp hz).elim (h z) (h2 z)
theorem OkZ.perm {zs ys : PZ} (h : OkZ zs) (p : ys.Perm zs) : OkZ ys := fun z hz => h z (p.mem_iff.mp hz)
def dPairs (zs : PZ) : PyData := .list (zs.map fun z => .tuple [.int z.2.1, .int z.2.2])
theorem okD_pairs (zs : PZ) : OkD 2 (dPairs zs) := okD_list fun d hd => by
  obtain ⟨z, _, rfl⟩ := List.mem_map.mp hd
  refine okD_tup fun x hx => ?_
  simp only [List.mem_cons, List.not_mem_nil, or_false] at hx
  rcases hx with rfl | rfl
  · exact okD_int _
  · exact okD_int _
theorem dp_pairs {H : Hp} {L : Addr} {zs : PZ} (h : PairsA H L zs) : Dp K H (.ref L) (dPairs zs) := by
  refine .lst (SqL.of h.1) ?_
  have h2 := h.2
  clear h
  induction zs with
  | nil => exact .nil
  | cons z zs ih => exact .cons (.tup (SqT.of (h2 z (.head _))) (.cons (.int _) (.cons (.int _) .nil))) (ih fun y hy => h2 y (.tail _ hy))
theorem eqv_pairs_nil (zs : PZ) : PyData.eqv (dPairs zs) (.list []) = zs.isEmpty := by
  cases zs with
  | nil => unfold dPairs PyData.eqv PyData.eqvAll; rfl
  | cons z zs => unfold dPairs PyData.eqv PyData.eqvAll; rfl
end

section
variable {P : Program} {w : World} {K : PySem.W.Frag} {mg : Str → Option Value} {base : Heap}
def spMade (C CG : Addr) : Sp := fun vs H Q _ => ∃ (L : Addr) (zs : PZ), vs = [.ref L] ∧ PairsA H L zs ∧ OkZ zs ∧ zs.length ≤ 10 ∧
  ∀ g H', Same H H' → H g = none → LightAt C CG H' g 250 ((prs zs).map nrm) → Q (.ref g) H'
theorem ok_l_made (T : Top K mg) : FnOk P w K mg base CX0 7 T.f_l_made T.d_l_made ["_law_ones"] (spMade T.C_Lamp T.C_Light) := by
  have G_Lamp_init := ok_Lamp_init (P := P) (w := w) (base := base) T
  have G_Light_init := ok_Light_init (P := P) (w := w) (base := base) T
  refine T.F_l_made.ok sc_l_made (fun vs H Q E h => ?_) (fun cdv A outer s H vs Q E hr h => ?_)
  · obtain ⟨L, zs, rfl, _⟩ := h; rfl
  · obtain ⟨L, zs, rfl, ⟨hL, hT⟩, ok, hn, q⟩ := h
    refine ⟨_, (pss_one (ps_ret (pe_make T.mk_Light G_Light_init (hr.mono (by decide)) (by rfl) T.gC_Light T.b_Light_init .nil pass0 (pa_cons (pe_lc (own := [("_law_period", 1), ("_law_beat", 2)]) (g := gTup K 2 (gCons (gName 1) (gCons (gName 2) gNil))) (by rfl) sc_l_made.nd (pi_list (pv 0)) (blkOk_by (own := [("_law_period", 1), ("_law_beat", 2)]) (N := ["_law_ones", "_law_period", "_law_beat"]) (sc := defScope s_l_made) (by decide +kernel)) (fun _ _ _ _ _ => by exact (pg_tupB (K := K) rfl (by rfl) (pgs_cons (pg_name (i := 1) sc_l_made.nd rfl (Or.inl rfl)) (pgs_cons (pg_name (i := 2) sc_l_made.nd rfl (Or.inl rfl)) pgs_nil)))) (fun _ _ _ _ _ => by exact (pts_nil)) (fun _ _ _ _ _ => by exact (pe_make T.mk_Lamp G_Lamp_init (hr.mono (by decide)) (by rfl) T.gC_Lamp T.b_Lamp_init .nil pass0 (pa_cons (pv 1) (pa_cons (pv 2) pa_nil))))) pa_nil)))), ?_⟩
    refine ⟨_, rfl, L, rfl, ⟨_, SqL.of hL⟩, fun D hD => lc_list (K := K) (a := L) (xs := refsZ zs) (fun i H' => Same H H' ∧ ∃ ys, H' D = some (.lst ys) ∧ AllL T.C_Lamp H' 250 ys (((prs zs).map nrm).take i))
      ⟨same_new hD, [], upd_same, rfl, fun i v l h => by cases h⟩ (fun i H' _ ⟨s2, _⟩ => SqL.of (s2 _ _ hL)) (fun i x H' hi ⟨s2, ys, hD', ha'⟩ => ?_) (fun H' ⟨s2, ys, hD', ha'⟩ => ?_)⟩
    · obtain ⟨z, hz, rfl⟩ := get_map hi
      have mz := List.mem_of_getElem? hz
      have hT2 := s2 _ _ (hT z mz)
      obtain ⟨p0, p1⟩ := ok z mz
      refine ⟨z.1, _, rfl, SqT.of hT2, rfl, _, _, rfl, _, _, rfl, rfl, rfl, ?_⟩
      refine ⟨_, rfl, _, rfl, ?_⟩
      intro x dx nx ndx nex; refine ⟨x, dx, z.2.1, z.2.2, rfl, upd_same, p0, fun H3 hx kx => ⟨rfl, ?_⟩⟩; have sx := Same.made nx ndx kx; clear kx nex ndx
      have hD3 := sx _ _ hD'
      refine ⟨ys, hD3, ?_, same_at (s2.trans sx) hD, _, upd_same, ?_⟩
      · rw [ha'.1, List.length_take, List.length_map]
        unfold prs
        rw [List.length_map]
        exact Nat.lt_of_lt_of_le (show min i zs.length < 11 by omega) (by decide)
      · have el : ((prs zs).map nrm)[i]? = some (nrm z.2) := by
          unfold prs
          rw [List.getElem?_map, List.getElem?_map, hz]
          rfl
        rw [List.take_succ, el]
        refine AllL.more (AllL.mut (ha'.same sx) hD3) (OAt.mut ⟨x, rfl, hx, p0, Int.emod_nonneg _ (by show z.2.1 ≠ 0; omega), Int.emod_lt_of_pos _ p0, ?_⟩ hD3)
        show z.2.1.natAbs < 2 ^ 250
        omega
    · have len : (refsZ zs).length = ((prs zs).map nrm).length := by unfold refsZ prs; rw [List.length_map, List.length_map, List.length_map]
      rw [len, List.take_length] at ha'
      refine make_light rfl hD' ha' (by rw [← len]; unfold refsZ; rw [List.length_map]; exact hn) fun g H3 hg s3 hl => ?_
      exact q g H3 (s2.trans s3) (back_none s2 hg) hl
end

section
variable {P : Program} {w : World} {K : PySem.W.Frag} {mg : Str → Option Value} {base : Heap}
theorem cut_head {xs : List V} {z : Int} (h : 0 ≤ z) : cutV xs none (some z) = xs.take z.toNat := by
  unfold cutV
  have e1 : HT.sIx xs.length 0 none = 0 := by unfold HT.sIx; rfl
  have e2 : HT.sIx xs.length xs.length (some z) = min z.toNat xs.length := by unfold HT.sIx; simp; omega
  rw [e1, e2, List.drop_zero, Nat.sub_zero, ← List.take_eq_take_min]
theorem cut_from {xs : List V} {z : Int} (h : 0 ≤ z) : cutV xs (some z) none = xs.drop z.toNat := by
  unfold cutV
  have e1 : HT.sIx xs.length 0 (some z) = min z.toNat xs.length := by unfold HT.sIx; simp; omega
  have e2 : HT.sIx xs.length xs.length none = xs.length := by unfold HT.sIx; simp
  rw [e1, e2]
  by_cases hh : z.toNat ≤ xs.length
  · rw [Nat.min_eq_left hh]
    exact List.take_of_length_le (by rw [List.length_drop]; exact Nat.le_refl _)
  · rw [Nat.min_eq_right (by omega), List.drop_eq_nil_of_le (Nat.le_refl _), List.drop_eq_nil_of_le (by omega), List.take_nil]
theorem refsZ_app (xs ys : PZ) : refsZ xs ++ refsZ ys = refsZ (xs ++ ys) := by unfold refsZ; rw [List.map_append]
theorem refsZ_take (xs : PZ) (n : Nat) : (refsZ xs).take n = refsZ (xs.take n) := by unfold refsZ; rw [List.map_take]
theorem refsZ_len (xs : PZ) : (refsZ xs).length = xs.length := by unfold refsZ; rw [List.length_map]
theorem prs_len (xs : PZ) : (prs xs).length = xs.length := by unfold prs; rw [List.length_map]
theorem refsZ_drop (xs : PZ) (n : Nat) : (refsZ xs).drop n = refsZ (xs.drop n) := by unfold refsZ; rw [List.map_drop]
/-- a list of pairs being made out of another one -/
def CompZ (H0 : Hp) (D : Addr) (zs : PZ) (f : Int × Int → Int) (i : Nat) (H' : Hp) : Prop := Same H0 H' ∧ ∃ ws : PZ, H' D = some (.lst (refsZ ws)) ∧ TupZ H' ws ∧ ws.length = i ∧ OkZ ws ∧ prs ws = ((prs zs).take i).map fun l => (l.1, f l)
theorem CompZ.start {H0 : Hp} {D : Addr} {zs : PZ} {f : Int × Int → Int} (hD : H0 D = Option.none) : CompZ H0 D zs f 0 (upd H0 D (.lst [])) :=
  ⟨same_new hD, [], upd_same, (fun _ h => by cases h), rfl, (fun _ h => by cases h), rfl⟩
theorem CompZ.step {H0 H2 : Hp} {D T : Addr} {zs : PZ} {f : Int × Int → Int} {i : Nat} {z : Addr × (Int × Int)} {a b : Int} (h : CompZ H0 D zs f i H2) (hD : H0 D = Option.none) (hz : zs[i]? = some z) (ok : OkZ zs) (hT : H2 T = Option.none) (hi : zs.length ≤ 1000) (ea : a = z.2.1) (eb : b = f z.2) :
    ∃ acc, upd H2 T (.tup [.int a, .int b]) D = some (.lst acc) ∧ acc.length < sizeLine ∧ CompZ H0 D zs f (i + 1) (upd (upd H2 T (.tup [.int a, .int b])) D (.lst (acc ++ [.ref T]))) := by
  subst ea eb
  obtain ⟨s2, ws, h1, h2, h3, h4, h5⟩ := h
  have hlt : i < zs.length := (List.getElem?_eq_some_iff.mp hz).1
  have sT : Same H2 (upd H2 T (.tup [.int z.2.1, .int (f z.2)])) := same_new hT
  have hD2 := sT _ _ h1
  refine ⟨refsZ ws, hD2, ?_, same_at (s2.trans sT) hD, ws ++ [(T, (z.2.1, f z.2))], ?_, ?_, ?_, ?_, ?_⟩
  · rw [refsZ_len, h3]
    exact Nat.lt_of_lt_of_le (show i < 1001 by omega) (by decide)
  · rw [upd_same, ← refsZ_app]
    rfl
  · refine TupZ.mut (TupZ.app (h2.same sT) fun y hy => ?_) hD2
    rw [List.mem_singleton.mp hy]
    exact upd_same
  · rw [List.length_append, h3]
    rfl
  · refine h4.app fun y hy => ?_
    rw [List.mem_singleton.mp hy]
    exact ok z (List.mem_of_getElem? hz)
  · have e : (prs zs)[i]? = some z.2 := by unfold prs; rw [List.getElem?_map, hz]; rfl
    rw [List.take_succ, e, List.map_append, ← h5]
    unfold prs
    rw [List.map_append]
    rfl
theorem LightAt.dr {C CG : Addr} {H H' : Hp} {g s : Addr} {k n : Nat} {ls : List (Int × Int)} (h : LightAt C CG H g k ls) (hs : Src H s n) (d : Dr s H H') : LightAt C CG H' g k ls := by
  obtain ⟨dx, L, xs, h1, h2, h3⟩ := h
  have hs' := hs
  obtain ⟨u, v, w, hs1, _⟩ := hs'
  refine ⟨dx, L, xs, d _ _ h1 (fun e => ?_), d _ _ h2 (fun e => ?_), h3.dr hs d⟩
  · rw [e, hs1] at h1
    cases h1
  · rw [e, hs1] at h2
    cases h2
    obtain ⟨a, l, e, _⟩ := h3.at (i := 0) rfl
    cases e
theorem LightAt.pos {C CG : Addr} {H : Hp} {g : Addr} {k : Nat} {ls : List (Int × Int)} (h : LightAt C CG H g k ls) : ∀ x ∈ ls, 0 < x.1 := fun x hx => by
  obtain ⟨dx, L, xs, _, _, hall⟩ := h
  obtain ⟨i, hi, e⟩ := List.getElem_of_mem hx
  obtain ⟨a, _, o⟩ := hall.2 i _ x (List.getElem?_eq_getElem (show i < xs.length by rw [hall.1]; exact hi)) (by rw [List.getElem?_eq_getElem hi, e])
  exact (o.ok _ rfl).1
end

section
variable {P : Program} {w : World} {K : PySem.W.Frag} {mg : Str → Option Value} {base : Heap}
/-! ### rows seen from a lamp's own beats -/
/-- numbers with what is seen of their lamps -/
def SeenA (C : Addr) (H : Hp) (k : Nat) (l : Int × Int) (us : List Addr) (ns : List (Int × Int × Int)) : Prop :=
  us.length = ns.length ∧ ∀ (i : Nat) T x, us[i]? = some T → ns[i]? = some x → ∃ v o, H T = some (.tup [.int x.1, v]) ∧ OAt C H v k o ∧ SeesO l (some x.2) o
theorem SeenA.same {C : Addr} {H H' : Hp} {k : Nat} {l : Int × Int} {us : List Addr} {ns : List (Int × Int × Int)} (h : SeenA C H k l us ns) (s : Same H H') : SeenA C H' k l us ns :=
  ⟨h.1, fun i T x e1 e2 => let ⟨v, o, e, a, b⟩ := h.2 i T x e1 e2; ⟨v, o, s _ _ e, a.same s, b⟩⟩
theorem SeenA.mut {C : Addr} {H : Hp} {k : Nat} {l : Int × Int} {us : List Addr} {ns : List (Int × Int × Int)} {D : Addr} {xs ys : List V} (h : SeenA C H k l us ns) (hD : H D = some (.lst xs)) : SeenA C (upd H D (.lst ys)) k l us ns :=
  ⟨h.1, fun i T x e1 e2 => let ⟨v, o, e, a, b⟩ := h.2 i T x e1 e2; ⟨v, o, by rw [upd_ne (ne_of e hD (by intro z; cases z))]; exact e, a.mut hD, b⟩⟩
theorem SeenA.more {C : Addr} {H : Hp} {k : Nat} {l : Int × Int} {us : List Addr} {ns : List (Int × Int × Int)} {T : Addr} {x : Int × Int × Int} {v : V} {o : OLp} (h : SeenA C H k l us ns) (e : H T = some (.tup [.int x.1, v])) (a : OAt C H v k o) (b : SeesO l (some x.2) o) : SeenA C H k l (us ++ [T]) (ns ++ [x]) := by
  refine ⟨by simp [h.1], fun i T' x' e1 e2 => ?_⟩
  by_cases hi : i < us.length
  · rw [List.getElem?_append_left hi] at e1
    rw [List.getElem?_append_left (h.1 ▸ hi)] at e2
    exact h.2 i T' x' e1 e2
  · have e0 : i - us.length = 0 := by
      by_cases z : i - us.length = 0
      · exact z
      · rw [List.getElem?_append_right (by omega), List.getElem?_eq_none (by simp; omega)] at e1; cases e1
    rw [List.getElem?_append_right (by omega), e0] at e1
    rw [List.getElem?_append_right (by have := h.1; omega), ← h.1, e0] at e2
    cases e1
    cases e2
    exact ⟨v, o, e, a, b⟩
theorem NumA.mut {C : Addr} {H : Hp} {k : Nat} {ts : List Addr} {ns : List (Int × Int × Int)} {D : Addr} {xs ys : List V} (h : NumA C H k ts ns) (hD : H D = some (.lst xs)) : NumA C (upd H D (.lst ys)) k ts ns :=
  ⟨h.1, fun i T x e1 e2 => let ⟨a, e, o⟩ := h.2 i T x e1 e2; ⟨a, by rw [upd_ne (ne_of e hD (by intro z; cases z))]; exact e, o.mut hD⟩⟩
theorem NumA.more {C : Addr} {H : Hp} {k : Nat} {ts : List Addr} {ns : List (Int × Int × Int)} {T a : Addr} {x : Int × Int × Int} (h : NumA C H k ts ns) (e : H T = some (.tup [.int x.1, .ref a])) (o : OAt C H (.ref a) k (some x.2)) : NumA C H k (ts ++ [T]) (ns ++ [x]) := by
  refine ⟨by simp [h.1], fun i T' x' e1 e2 => ?_⟩
  by_cases hi : i < ts.length
  · rw [List.getElem?_append_left hi] at e1
    rw [List.getElem?_append_left (h.1 ▸ hi)] at e2
    exact h.2 i T' x' e1 e2
  · have e0 : i - ts.length = 0 := by
      by_cases z : i - ts.length = 0
      · exact z
      · rw [List.getElem?_append_right (by omega), List.getElem?_eq_none (by simp; omega)] at e1; cases e1
    rw [List.getElem?_append_right (by omega), e0] at e1
    rw [List.getElem?_append_right (by have := h.1; omega), ← h.1, e0] at e2
    cases e1
    cases e2
    exact ⟨a, e, o⟩
theorem RowsAt.back {H0 H1 H : Hp} {R : Addr} {n : Nat} {f : Nat → List Int} (h : RowsAt H1 H R n f) (s : Same H0 H1) : RowsAt H0 H R n f := by
  obtain ⟨as, hR, len, nd, nR, r0, n0, hr⟩ := h
  exact ⟨as, hR, len, nd, nR, back_none s r0, fun a ha => back_none s (n0 a ha), hr⟩
theorem rowOf_app (xs ys : List (Int × Int × Int)) (t : Int) : rowOf (xs ++ ys) t = rowOf xs t ++ rowOf ys t := by
  unfold rowOf
  rw [List.filter_append, List.map_append]
theorem rowOf_one (x : Int × Int × Int) (t : Int) : rowOf [x] t = if shB x.2 t then [x.1] else [] := by
  unfold rowOf
  rw [List.filter_cons, List.filter_nil]
  cases shB x.2 t <;> rfl
def spSeenRows (C : Addr) : Sp := fun vs H Q _ => ∃ (a N : Addr) (f : Int) (m k1 k : Nat) (l : Int × Int) (ts : List Addr) (ns : List (Int × Int × Int)), vs = [.ref a, .ref N, .int f, .int m] ∧ OAt C H (.ref a) k1 (some l) ∧ H N = some (.lst (ts.map V.ref)) ∧ NumA C H k ts ns ∧ k1 ≤ 8000 ∧ k ≤ 8000 ∧ ns.length ≤ 1000 ∧ m ≤ 100000 ∧
  ∀ R H', Same H H' → RowsAt H H' R m (fun j => rowOf ns (l.2 + (f + j) * l.1)) → Q (.ref R) H'
theorem ok_seen_rows (T : Top K mg) : FnOk P w K mg base CX0 5 T.f_seen_rows T.d_seen_rows ["lamp", "numbered", "first", "many"] (spSeenRows T.C_Lamp) := by
  have G_seen_from := ok_seen_from (P := P) (w := w) (base := base) T
  have G_shining_rows := ok_shining_rows (P := P) (w := w) (base := base) T
  refine T.F_seen_rows.ok sc_seen_rows (fun vs H Q E h => ?_) (fun cdv A outer s H vs Q E hr h => ?_)
  · obtain ⟨a, N, f, m, k1, k, l, ts, ns, rfl, _⟩ := h; rfl
  · obtain ⟨a, N, f, m, k1, k, l, ts, ns, rfl, ha, hN, hA, b1, b2, n1, n2, q⟩ := h
    refine ⟨_, (pss_cons (ps_setLc (i := 4) (own := [("number", 5), ("other", 6)]) (g := gTup K 2 (gCons (gName 5) (gCons (gName 6) gNil))) (by rfl) sc_seen_rows.nd rfl rfl (sw_true rfl rfl rfl (by decide +kernel)) (pi_list (pv 1)) (blkOk_by (own := [("number", 5), ("other", 6)]) (N := ["lamp", "numbered", "first", "many", "seen", "number", "other"]) (sc := defScope s_seen_rows) (by decide +kernel)) (fun _ _ _ _ _ => by exact (pg_tupB (K := K) rfl (by rfl) (pgs_cons (pg_name (i := 5) sc_seen_rows.nd rfl (Or.inl rfl)) (pgs_cons (pg_name (i := 6) sc_seen_rows.nd rfl (Or.inl rfl)) pgs_nil)))) (fun _ _ _ _ _ => by exact (pts_nil)) (fun _ _ _ _ _ => by exact (pe_tup (pa_cons (pv 5) (pa_cons (pe_call G_seen_from (hr.mono (by decide)) rfl T.g_seen_from T.F_seen_from.kp T.b_seen_from .nil pass0 (pa_cons (pv 0) (pa_cons (pv 6) pa_nil))) pa_nil)))))
      (pss_one (ps_ret (pe_call G_shining_rows (hr.mono (by decide)) rfl T.g_shining_rows T.F_shining_rows.kp T.b_shining_rows .nil pass0 (pa_cons (pe_lc (own := [("number", 5), ("other", 6)]) (g := gTup K 2 (gCons (gName 5) (gCons (gName 6) gNil))) (tt := _) (by rfl) sc_seen_rows.nd (pi_list (pv 4)) (blkOk_by (own := [("number", 5), ("other", 6)]) (N := ["lamp", "numbered", "first", "many", "seen", "number", "other"]) (sc := defScope s_seen_rows) (by decide +kernel)) (fun _ _ _ _ _ => by exact (pg_tupB (K := K) rfl (by rfl) (pgs_cons (pg_name (i := 5) sc_seen_rows.nd rfl (Or.inl rfl)) (pgs_cons (pg_name (i := 6) sc_seen_rows.nd rfl (Or.inl rfl)) pgs_nil)))) (fun _ _ _ _ _ => by exact (pts_one (pt_cmpR op_notN (pv 6) pe_non (nomark _)))) (fun _ _ _ _ _ => by exact (pe_tup (pa_cons (pv 5) (pa_cons (pv 6) pa_nil))))) (pa_cons (pv 2) (pa_cons (pv 3) pa_nil))))))), ?_⟩
    have lt := hA.1
    refine ⟨_, rfl, N, rfl, ⟨_, SqL.of hN⟩, fun D hD => lc_list (K := K) (a := N) (xs := ts.map V.ref) (fun i H' => Same H H' ∧ ∃ us : List Addr, H' D = some (.lst (us.map V.ref)) ∧ SeenA T.C_Lamp H' k l us (ns.take i))
      ⟨same_new hD, [], upd_same, rfl, fun i T x h => by cases h⟩ (fun i H' _ ⟨s2, _⟩ => SqL.of (s2 _ _ hN)) (fun i x H2 hi ⟨s2, us, h1, h2⟩ => ?_) (fun H2 ⟨s2, us, h1, h2⟩ => ?_)⟩
    · obtain ⟨T', hT, rfl⟩ := get_map hi
      obtain ⟨y, hy⟩ : ∃ y, ns[i]? = some y := ⟨_, List.getElem?_eq_getElem (by rw [← lt]; exact (List.getElem?_eq_some_iff.mp hT).1)⟩
      obtain ⟨c, e1, o1⟩ := hA.2 i T' y hT hy
      have e2 := s2 _ _ e1
      have o2 := o1.same s2
      refine ⟨T', _, rfl, SqT.of e2, rfl, _, _, rfl, _, _, rfl, rfl, rfl, ?_⟩
      refine ⟨_, rfl, _, rfl, _, rfl, ?_⟩
      dsimp only [tNil, List.append_nil]
      refine seenO (E := E0) (ha.same s2) o2 b1 b2 fun o v H3 s3 ho hso => ?_
      refine ⟨(by show 2 ≤ sizeLine; decide), fun U hU => ?_⟩
      have sU := same_new (o := .tup [.int y.1, v]) hU
      have h3 := sU _ _ (s3 _ _ h1)
      have lu : us.length ≤ 1000 := by
        rw [h2.1]
        exact Nat.le_trans (List.length_take_le' _ _) n1
      refine ⟨us.map V.ref, h3, ?_, same_at (s2.trans (s3.trans sU)) hD, us ++ [U], ?_, ?_⟩
      · rw [List.length_map]
        exact Nat.lt_of_lt_of_le (show us.length < 1001 by omega) (by decide)
      · rw [upd_same, List.map_append]
        rfl
      · rw [List.take_succ, hy]
        exact SeenA.mut (SeenA.more (h2.same (s3.trans sU)) upd_same (ho.same sU) hso) h3
    rw [List.length_map, lt, List.take_length] at h2
    refine ⟨_, rfl, D, rfl, ⟨_, SqL.of h1⟩, fun E hE => lc_list (K := K) (a := D) (xs := us.map V.ref) (fun i H' => Same H2 H' ∧ ∃ (ws : List Addr) (ms : List (Int × Int × Int)), H' E = some (.lst (ws.map V.ref)) ∧ NumA T.C_Lamp H' k ws ms ∧ ms.length ≤ i ∧ ∀ t, rowOf ms t = rowOf (ns.take i) (l.2 + t * l.1))
      ⟨same_new hE, [], [], upd_same, ⟨rfl, fun i T x h => by cases h⟩, Nat.le_refl _, fun t => rfl⟩ (fun i H' _ ⟨s3, _⟩ => SqL.of (s3 _ _ h1)) (fun i x H3 hi ⟨s3, ws, ms, g1, g2, g3, g4⟩ => ?_) (fun H3 ⟨s3, ws, ms, g1, g2, g3, g4⟩ => ?_)⟩
    · obtain ⟨T', hT, rfl⟩ := get_map hi
      have hil : i < us.length := (List.getElem?_eq_some_iff.mp hT).1
      obtain ⟨y, hy⟩ : ∃ y, ns[i]? = some y := ⟨_, List.getElem?_eq_getElem (by rw [← h2.1]; exact hil)⟩
      obtain ⟨v, o, e1, o1, hso⟩ := h2.2 i T' y hT hy
      have e3 := s3 _ _ e1
      have o3 := o1.same s3
      refine ⟨T', _, rfl, SqT.of e3, rfl, _, _, rfl, _, _, rfl, rfl, rfl, ?_⟩
      have hl1000 : i ≤ 1000 := by have := h2.1; omega
      cases o with
      | none =>
        cases o3
        refine ⟨_, rfl, rfl, _, rfl, iteF ⟨s3, ws, ms, g1, g2, Nat.le_succ_of_le g3, fun t => ?_⟩⟩
        rw [g4, List.take_succ, hy, rowOf_app]
        show _ = _ ++ rowOf [y] _
        rw [rowOf_one]
        have : shB y.2 (l.2 + t * l.1) = false := Bool.eq_false_iff.mpr fun z => ((hso.2 t).mpr (shB_iff.mp z)).elim
        rw [this]
        simp
      | some z =>
        obtain ⟨c, rfl, o4⟩ : ∃ c, v = .ref c ∧ OAt T.C_Lamp H3 (.ref c) k (some z) := by
          obtain ⟨c, rfl, r⟩ := o3
          exact ⟨c, rfl, c, rfl, r⟩
        refine ⟨_, rfl, rfl, _, rfl, iteT ⟨_, rfl, _, rfl, (by show 2 ≤ sizeLine; decide), fun U hU => ?_⟩⟩
        have sU := same_new (o := .tup [.int y.1, .ref c]) hU
        have h5 := sU _ _ g1
        refine ⟨ws.map V.ref, h5, ?_, same_at (s3.trans sU) hE, ws ++ [U], ms ++ [(y.1, z)], ?_, ?_, ?_, fun t => ?_⟩
        · rw [List.length_map, g2.1]
          exact Nat.lt_of_lt_of_le (show ms.length < 1001 by omega) (by decide)
        · rw [upd_same, List.map_append]
          rfl
        · exact NumA.mut (NumA.more (g2.same sU) upd_same (o4.same sU)) h5
        · rw [List.length_append]
          exact Nat.succ_le_succ g3
        · rw [List.take_succ, hy, rowOf_app, rowOf_app, g4]
          show _ ++ rowOf [(y.1, z)] t = _ ++ rowOf [y] _
          rw [rowOf_one, rowOf_one]
          have : shB z t = shB y.2 (l.2 + t * l.1) := by
            rw [Bool.eq_iff_iff, shB_iff, shB_iff]
            exact hso.2 t
          show _ ++ (if shB z t then _ else _) = _
          rw [this]
    · have lu : (us.map V.ref).length = ns.length := by rw [List.length_map]; exact h2.1
      rw [lu] at g3
      rw [lu, List.take_length] at g4
      refine ⟨_, rfl, _, rfl, E, ws, ms, f, m, k, rfl, g1, g2, b2, by omega, n2, fun R H4 s4 hR => ?_⟩
      have S3 := s2.trans s3
      refine q R H4 (S3.trans s4) ((hR.back S3).ext fun j _ => ?_)
      exact g4 _
end

section
variable {P : Program} {w : World} {K : PySem.W.Frag} {mg : Str → Option Value} {base : Heap}
def spOne : Sp := fun vs H Q _ => ∃ (s : Addr) (n : Nat) (L : Addr) (xs : List V), vs = [.ref s, .ref L] ∧ Src H s n ∧ n < 900000 ∧ L ≠ s ∧ H L = some (.lst xs) ∧ 0 < xs.length ∧ xs.length ≤ 1000 ∧ ∀ x H', x ∈ xs → Src H' s (n + 1) → Dr s H H' → Q x H'
theorem ok_l_one (T : Top K mg) : FnOk P w K mg base CX0 3 T.f_l_one T.d_l_one ["_law_source_here", "_law_some"] spOne := by
  have G_l_take := ok_l_take (P := P) (w := w) (base := base) T
  refine T.F_l_one.ok sc_l_one (fun vs H Q E h => ?_) (fun cdv A outer s H vs Q E hr h => ?_)
  · obtain ⟨s, n, L, xs, rfl, _⟩ := h; rfl
  · obtain ⟨s, n, L, xs, rfl, hs, hn, ne, hL, h0, h1, q⟩ := h
    refine ⟨_, (pss_one (ps_ret (pe_ix ix_list (pv 1) (pe_call G_l_take (hr.mono (by decide)) rfl T.g_l_take T.F_l_take.kp T.b_l_take .nil pass0 (pa_cons (pv 0) (pa_cons (pe_callB call_len_seq (by rfl) T.n_len (by decide +kernel) (pa_cons (pv 1) pa_nil)) pa_nil))) (fun _ _ => rfl)))), ?_⟩
    refine ⟨_, rfl, _, rfl, _, rfl, L, _, rfl, .inl (SqL.of hL), s, _, _, rfl, hs, by omega, by omega, by omega, fun v H1 x0 x1 hs1 d1 => ?_⟩
    obtain ⟨k, rfl⟩ : ∃ k : Nat, v = k := ⟨v.toNat, by omega⟩
    have hk : k < xs.length := by omega
    exact ⟨L, _, _, _, rfl, rfl, SqL.of (d1 _ _ hL ne), at_of (j := k) rfl (List.getElem?_eq_getElem hk), q _ H1 (List.getElem_mem hk) hs1 d1⟩
end

section
def oV : Option Int → V
  | some x => .int x
  | none => .non
end

/-! ### any walk, its body as one -/
section
variable {J : It} {n : Nat} {G : Hp → Prop} {Y : Nat → Hp → V → Hp → Prop}
theorem lc_any (w : Walk J n G Y) {B : V → Hp → (Hp → Prop) → Prop} {H0 : Hp} {Qd : Hp → Prop} (Pv : Nat → Hp → Prop) (h0 : Pv 0 H0) (hG : ∀ i H, i ≤ n → Pv i H → G H)
    (hs : ∀ i x H H', i < n → Pv i H → Y i H x H' → B x H' (Pv (i + 1))) (hd : ∀ H, Pv n H → Qd H) :
    ∃ W : Nat → Nat → Hp → Prop, (∃ m, W 0 m H0) ∧ ∀ i m H, W i m H →
      (J.stop i H ∧ Qd H) ∨ (J.go i H ∧ ∃ Nx : Hp → Prop, (∀ H', Nx H' → ∃ m', m' < m ∧ W (i + 1) m' H') ∧ ∀ x H', J.yld i H x H' → B x H' Nx) := by
  refine ⟨fun i m H => m = n - i ∧ i ≤ n ∧ Pv i H, ⟨n, by simp, Nat.zero_le _, h0⟩, ?_⟩
  rintro i m H ⟨rfl, hi, p⟩
  have q := hG i H hi p
  by_cases hlt : i < n
  · exact .inr ⟨w.goes i H hlt q, Pv (i + 1), fun H' p' => ⟨n - (i + 1), by omega, rfl, hlt, p'⟩, fun x H' y => hs i x H H' hlt p (w.yields i H x H' hlt q y)⟩
  · have e : i = n := by omega
    subst e
    exact .inl ⟨w.stops H q, hd H p⟩
end

section
theorem Same.of_upd {H H1 : Hp} {l : Addr} {o : HO} (h : upd H l o = H1) (hl : H l = Option.none) : Same H H1 := h ▸ same_new hl
theorem Same.two {H : Hp} {x dx : Addr} {o1 o2 : HO} (nx : H x = Option.none) (nd : H dx = Option.none) : Same H (upd (upd H dx o1) x o2) := fun b o e => by
  rw [upd_ne (ne_of_none e nx), upd_ne (ne_of_none e nd)]
  exact e
theorem upd_of {H H1 : Hp} {l : Addr} {o : HO} (h : upd H l o = H1) : H1 l = some o := h ▸ upd_same
theorem tup_ne {H : Hp} {s U : Addr} {n : Nat} {xs : List V} (hs : Src H s n) (h : H U = some (.tup xs)) : U ≠ s := fun e => by
  obtain ⟨_, _, _, h1, _⟩ := hs
  rw [e, h1] at h
  cases h
variable {K : PySem.W.Frag}
theorem eq_nilD {H : Hp} {L : Addr} {zs : PZ} {Q : VK} {l0 : Addr} (h : PairsA H L zs) (h0 : H l0 = some (.lst [])) (q : Q (.bl zs.isEmpty) H) : rEqD K (.ref L) (.ref l0) H Q := by
  refine ⟨dPairs zs, .list [], dp_pairs h, .lst (SqL.of h0) .nil, (okD_pairs zs).sh (by decide), (okD_list (n := 0) (ds := []) (fun _ hd => by cases hd)).sh (by decide), ?_⟩
  rw [eqv_pairs_nil]
  exact q
theorem alll_one {C : Addr} {H : Hp} {k : Nat} {a : Addr} {l : Int × Int} (o : OAt C H (.ref a) k (some l)) : AllL C H k [.ref a] [l] := AllL.more (vs := []) (ls := []) ⟨rfl, fun i v l h => by cases h⟩ o
theorem eq_ints {H : Hp} {L1 L2 : Addr} {ms ns : List Int} {Q : VK} (h1 : H L1 = some (.lst (ms.map V.int))) (h2 : H L2 = some (.lst (ns.map V.int))) (q : Q (.bl (decide (ms = ns))) H) : rEqD K (.ref L1) (.ref L2) H Q := by
  refine ⟨dInts ms, dInts ns, dp_ints h1, dp_ints h2, (okD_ints _).sh (by decide), (okD_ints _).sh (by decide), ?_⟩
  have q0 : PyData.eqv (dInts ms) (dInts ns) = decide (ms = ns) := by
    unfold dInts PyData.eqv
    exact eqv_ints _ _
  rw [q0]
  exact q
theorem ne_pairs {H : Hp} {L1 L2 : Addr} {zs ws : PZ} {Q : VK} (h1 : PairsA H L1 zs) (h2 : PairsA H L2 ws) (e : prs zs = prs ws) (q : Q (.bl false) H) : rNeD K (.ref L1) (.ref L2) H Q := by
  have e2 : dPairs ws = dPairs zs := by
    have : ∀ zs : PZ, dPairs zs = .list ((prs zs).map fun p => .tuple [.int p.1, .int p.2]) := fun zs => by unfold dPairs prs; rw [List.map_map]; rfl
    rw [this, this, e]
  exact neD_self (dp_pairs h1) (e2 ▸ dp_pairs h2) (okD_pairs zs) (by decide) q
/-- a pair more -/
theorem pairs_app {H : Hp} {F T0 : Addr} {zs : PZ} {x y : Int} (hp : PairsA H F zs) (hT : H T0 = some (.tup [.int x, .int y])) : PairsA (upd H F (.lst (refsZ zs ++ [.ref T0]))) F (zs ++ [(T0, (x, y))]) := by
  refine ⟨?_, ?_⟩
  · rw [upd_same, ← refsZ_app]
    rfl
  · refine TupZ.mut (TupZ.app hp.2 fun z hz => ?_) hp.1
    rw [List.mem_singleton.mp hz]
    exact hT
theorem cut_take (ns : List Int) (k : Nat) : cutV (ns.map V.int) none (some (k : Int)) = (ns.take k).map V.int := by
  rw [cut_head (by omega), List.map_take, Int.toNat_natCast]
end

section
/-! ### sorted of a tuple of numbers -/
open PySem PySem.Spec PyProof.Rows L2
section
variable {prog : Program} {w : World} {A : Around} {E : Value → Shared → Prop} {s : Shared}
/-- the heap with a list that takes these -/
def tupGot (h : Heap) (vs : List Value) : Heap := (h.push (seqObj "list" #[] 0)).update h.objs.size (Obj.mapSeq (· ++ vs.toArray))
theorem collect_tup {l : Addr} {vs : List Value} {Q : List Value → Shared → Prop} (ht : IsTup s.heap l vs.toArray) (hz : vs.length ≤ sizeLine) (h : Q vs { s with heap := tupGot s.heap vs }) :
    wpAny (model prog w) A (collect (.ref l)) Q E s := by
  obtain ⟨o, ho, hc, n, hd⟩ := id ht
  have e0 : (s.heap.push (seqObj "list" #[] 0)).get? s.heap.objs.size = some (seqObj "list" #[] 0) := Heap.get?_push_size _ rfl
  have e1 : (s.heap.push (seqObj "list" #[] 0)).get? l = some o := Heap.get?_push_of_some _ ho
  unfold collect
  refine wpAny_bind (wpAny_runValue (codeAny_builtin entry_proto_collect' (show wpAny _ _ (do again (.builtin "list.__iadd__" ⟨[← newList [], .ref l], []⟩)) _ _ s from ?_)))
  refine wpAny_bind (wpAny_newList (wpAny_pure ⟨Code.quiet_builtin _ (by decide +kernel), codeAny_builtin entry_list_iadd' (show wpAny _ _ (Builtin.List.listExtendWith (.ref s.heap.objs.size) (.ref l) (.ref s.heap.objs.size)) _ _ { s with heap := s.heap.push (seqObj "list" #[] 0) } from ?_)⟩))
  unfold Builtin.List.listExtendWith
  refine wpAny_bind (wpAny_typeOf (T := "tuple") ⟨o, e1, hc⟩ ?_)
  have hb : ((Value.type "tuple" == Value.type "tuple") = true) := by rfl
  rw [if_pos (by rw [hb]; simp)]
  refine wpAny_bind (listItems_at e1 hd (wpAny_bind (listItems_at (xs := #[]) (n := 0) e0 rfl ?_)))
  rw [if_neg (by simp)]
  refine wpAny_bind (listUpdate_at (xs := #[]) (n := 0) e0 rfl (wpAny_pure ?_) (Nat.zero_le _) (by show (#[] ++ vs.toArray).size ≤ sizeLine + 1; simp only [Array.size_append, List.size_toArray, List.length_nil]; omega))
  refine wpAny_bind (wpAny_load (get?_update_seq e0 _) (show wpAny _ _ (pure ((#[] : Array Value) ++ vs.toArray).toList) Q E _ from ?_))
  rw [show ((#[] : Array Value) ++ vs.toArray).toList = vs by simp]
  exact wpAny_pure h
theorem sorted_tup {l : Addr} {vs : List Value} {ns : List Int} {Q : Value → Shared → Prop} (ht : IsTup s.heap l vs.toArray) (hI : IntsAre vs ns) (h64 : vs.length < 64)
    (h : ∀ (out : Array Value) (ms : List Int), IntsAre out.toList ms → ms.Perm ns → ms.Pairwise (· ≤ ·) → Q (.ref (s.heap.objs.size + 1)) { s with heap := sortedAll s.heap vs out }) :
    wpAny (model prog w) A (call (.builtin "sorted") [.ref l]) Q E s := by
  have hz : vs.length ≤ sizeLine := Nat.le_of_lt (Nat.lt_of_lt_of_le h64 (by decide))
  have sz : (tupGot s.heap vs).objs.size = s.heap.objs.size + 1 := by unfold tupGot; rw [Heap.size_update, size_push']
  have oL : ((tupGot s.heap vs).push (seqObj "list" vs.toArray 0)).get? (s.heap.objs.size + 1) = some (seqObj "list" vs.toArray 0) := sz ▸ Heap.get?_push_size _ rfl
  refine Calls.call_function_entry kind_sorted plain_sorted entry_sorted (args_sorted1 _) (by
    unfold Builtin.«sorted»; refine wpAny_bind (m := checkCount "sorted" 1 1 _) (wpAny_pure (wpAny_bind (collect_tup ht hz (wpAny_bind (wpAny_newList ?_)))))
    show wpAny _ _ _ _ _ { s with heap := (tupGot s.heap vs).push (seqObj "list" vs.toArray 0) }
    rw [sz]; exact wpAny_bind (wpAny_holding (wpAny_call_entry slot_list_sort ⟨_, oL, rfl⟩ entry_list_sort (list_sort_tree oL hI h64 fun out ms a1 a2 a3 => ⟨_, rfl, wpAny_pure ⟨_, rfl, h out ms a1 a2 a3⟩⟩) (args_list_sort _))))
end
variable {X : Cx}
/-- sorted(xs), a list of numbers or a short tuple of such -/
def rSortedQ (K : PySem.W.Frag) : List V → Hp → VK → Prop := fun vs H Q => ∃ (a : Addr) (ns : List Int), vs = [V.ref a] ∧ (SqL K H a (ns.map V.int) ∨ SqT K H a (ns.map V.int) ∧ ns.length < 64) ∧
  ∀ (ns' : List Int) (p : Addr), ns'.Perm ns → ns'.Pairwise (· ≤ ·) → H p = none → Q (.ref p) (upd H p (.lst (ns'.map V.int)))
theorem cr_sortedQ : CallR X (.builtin "sorted") (rSortedQ X.K) := by
  intro pins s σ H vs us Q I r h
  obtain ⟨a, ns, rfl, hs, q⟩ := h
  rcases hs with hs | ⟨hs, h64⟩
  · exact cr_sortedI pins s σ H _ us Q I r ⟨a, ns, rfl, hs, q⟩
  · obtain ⟨its, rv, ht, hz⟩ := I.tuple hs
    rw [Vals.ref1 r]
    have hi := rv.ints
    have l64 : its.length < 64 := by rw [← rv.length, List.length_map]; exact h64
    refine sorted_tup ht hi l64 fun out ms h1 h2 h3 => ?_
    obtain ⟨ep, he'⟩ := sortedAll_at s.heap its out
    have lm : (ms.map V.int).length ≤ sizeLine := by
      rw [List.length_map, h2.length_eq]
      exact Nat.le_of_lt (Nat.lt_of_lt_of_le h64 (by decide))
    exact ⟨.ref _, upd H (s.heap.objs.size + 1) (.lst (ms.map V.int)), I.laid (t' := s.toks) (fun _ _ => sortedAll_old) (Nat.le_succ _) ⟨lm, out.toList, ep, vals_of_ints h1, he'⟩, rfl, q ms _ h2 h3 (I.hok.fresh (Nat.le_succ _))⟩
end

section
/-! ### for i, x in enumerate(xs), a list or a tuple -/
open PySem PySem.Spec PyProof.Rows L2
theorem et_meets (u : Addr) (us : Array Value) (m : Nat) (dd : Option Addr) (sv : Array (Option Value)) :
    Meets (Builtin.«enumerate.__new__» ⟨[.type "enumerate", .ref u], []⟩) (fun _ R s => s.heap.get? u = some { cls := .type "tuple", dict := dd, data := .seq us m, slots := sv } ∧
      R (.ok (.ret (.ref (s.heap.push { cls := .type "tuple_iterator", data := .fields #[.ref u, .int 0 0] }).objs.size)))
        { s with heap := (s.heap.push { cls := .type "tuple_iterator", data := .fields #[.ref u, .int 0 0] }).push { cls := .type "enumerate", data := .fields #[.none, .bool false, .ref s.heap.objs.size, rawInt 0, .none, .none] } }) :=
  .of_wp fun prog w A R s q => by
    obtain ⟨hp, gg, dr, tk, os⟩ := s
    obtain ⟨hu, q⟩ := q
    have hsub := sub_enumerate
    have hT : Heap.IsTuple (Shared.heap ⟨hp, gg, dr, tk, os⟩) u us := ⟨_, hu, rfl, m, rfl⟩
    wp_walk using AutoSeq1.wpAny_loadPart' hu
    refine wpAny_stack_any fun st => wpAny_pure ?_
    split
    · rename_i cc _ _ _ _ _
      cases (cc == Value.type "enumerate") <;> (wp_walk using AutoSeq1.wpAny_loadPart' hu, wpAny_pyIter_tuple hT) <;> exact ⟨_, rfl, q⟩
    · (wp_walk using AutoSeq1.wpAny_loadPart' hu, wpAny_pyIter_tuple hT) <;> exact ⟨_, rfl, q⟩
section
variable {prog : Program} {w : World} {A : Around} {E : Value → Shared → Prop} {s : Shared}
theorem et_call {u : Addr} {us : Array Value} {Q : Value → Shared → Prop} (hT : s.heap.IsTuple u us)
    (q : ∀ h', IsEnum h' (s.heap.objs.size + 1) s.heap.objs.size 0 .none → h'.IsTupleIter s.heap.objs.size u 0 → (∀ b o, s.heap.get? b = some o → h'.get? b = some o) → Q (.ref (s.heap.objs.size + 1)) { s with heap := h' }) :
    wpAny (model prog w) A (call (.type "enumerate") [.ref u]) Q E s := by
  obtain ⟨⟨c, dd, dt, sv⟩, hu, hc, m, hd⟩ := hT
  obtain rfl : c = .type "tuple" := hc
  obtain rfl : dt = .seq us m := hd
  refine callType_new F.called_enumerate (by decide) (F.typeCall_enumerate_1 _) (F.newCall_enumerate_1 _) (fun obj => F.args_object_init_2 obj _) F.entry_enumerate_new (et_meets u us m dd sv) ⟨hu, ?_⟩
  have sz : (s.heap.push { cls := .type "tuple_iterator", data := .fields #[.ref u, .int 0 0] }).objs.size = s.heap.objs.size + 1 := Heap.size_push ..
  show (_ ∧ _)
  rw [sz]
  have he : IsEnum ((s.heap.push { cls := .type "tuple_iterator", data := .fields #[.ref u, .int 0 0] }).push { cls := .type "enumerate", data := .fields #[.none, .bool false, .ref s.heap.objs.size, rawInt 0, .none, .none] }) (s.heap.objs.size + 1) s.heap.objs.size 0 .none := by
    have z := Heap.get?_push_size (s.heap.push { cls := .type "tuple_iterator", data := .fields #[.ref u, .int 0 0] }) (o := { cls := .type "enumerate", data := .fields #[.none, .bool false, .ref s.heap.objs.size, rawInt 0, .none, .none] }) rfl
    rwa [sz] at z
  exact ⟨⟨_, he, rfl⟩, q _ he ⟨_, Heap.get?_push_of_some _ (Heap.get?_push_size _ rfl), rfl, rfl⟩ fun b o x => Heap.get?_push_of_some _ (Heap.get?_push_of_some _ x)⟩
end
/-- the tuple at a, each item in a new pair -/
def IteT (K : PySem.W.Frag) (a : Addr) : It :=
  ⟨fun i H => ∃ (xs : List V) (x : V), SqT K H a xs ∧ xs[i]? = some x, fun i H v H' => ∃ T x, v = .ref T ∧ H T = none ∧ H' = upd H T (.tup [.int (i : Nat), x]) ∧ ∀ xs, SqT K H a xs → xs[i]? = some x, fun i H => ∃ xs : List V, SqT K H a xs ∧ xs.length ≤ i⟩
theorem tup_inj {X : Cx} {pins : List (Addr × Obj)} {σ : L2.St} {H : Hp} {s : Shared} {a : Addr} {xs ys : List V} (I : Inv X pins σ H s) (h : SqT X.K H a xs) (h' : SqT X.K H a ys) : xs = ys := by
  obtain ⟨its, r, ⟨o, e, _, n, d⟩, _⟩ := I.tuple h
  obtain ⟨its', r', ⟨o', e', _, n', d'⟩, _⟩ := I.tuple h'
  rw [e] at e'; cases e'
  rw [d] at d'
  injection d' with d1 _
  have : its = its' := by simpa using d1
  subst this
  exact Vals.inj r r'
theorem turn_enumT {P : Program} {w : World} {K : PySem.W.Frag} {elts : List Expr} {kk : Nat} {tpos : Pos} (a e it : Addr) :
    Turn P w K (.Tuple elts kk tpos) (IteT K a) [e, it] e (fun i h => (∃ old, IsEnum h e it ((i : Nat) : Int) old) ∧ h.IsTupleIter it a i ∧ e ≠ it) where
  mem := by simp
  obj := fun i h st b hb => by
    obtain ⟨⟨old, he⟩, ⟨o, ho, hc, hd⟩, _⟩ := st
    rcases (show b = e ∨ b = it by simpa using hb) with z | z
    · exact z ▸ ⟨_, he, fun v q => nomatch q⟩
    · exact z ▸ ⟨o, ho, fun v q => by rw [hd] at q; cases q⟩
  keep := fun i h h' st k => let ⟨⟨old, he⟩, hi, hne⟩ := st; ⟨⟨old, k e (by simp) _ he⟩, hi.at fun o q => k it (by simp) o q, hne⟩
  item := by
    intro X hP hw hK hc i pins s σ H E I hf st hg
    subst hP hw hK
    obtain ⟨⟨old, he⟩, hit, hne⟩ := st
    obtain ⟨xs, x, hq, hx⟩ := hg
    obtain ⟨its, rv, p, hz⟩ := I.tuple hq
    obtain ⟨u, hu, ru⟩ := rv.get hx
    have le_ : e < s.heap.objs.size := Heap.lt_size he
    have li_ : it < s.heap.objs.size := by obtain ⟨_, q, _⟩ := hit; exact Heap.lt_size q
    have ae : a ≠ it := fun z => by
      obtain ⟨o, h1, h2, _⟩ := p
      obtain ⟨o', h3, h4, _⟩ := hit
      rw [z, h3] at h1; cases h1
      rw [h4] at h2; injection h2 with h2; exact absurd h2 (by decide)
    have ee : e ≠ a := fun z => by
      obtain ⟨o, h1, h2, _⟩ := p
      have h3 := he
      unfold IsEnum at h3
      rw [z, h1] at h3; cases h3
      injection h2 with h2; exact absurd h2 (by decide)
    have il : i < its.toArray.size := by
      have := (List.getElem?_eq_some_iff.mp hu).1
      simpa using this
    refine wpAny_pyNext_enum_itemD (Draws.tuple (show X.A.in1.handled = none from I.ok.hd hc) it a ae its.toArray) he ⟨hit, p⟩ il hne (by simp [hne, ee]) fun x' h' tk hx' ho hst hT hsz hk => ?_
    obtain rfl : u = x' := by
      have z : its.toArray[i]? = some x' := hx'
      rw [List.getElem?_toArray, hu] at z
      exact Option.some.inj z
    refine ⟨_, rfl, wpAny_letOwnedTupleGo_enum (s := { s with heap := h', toks := tk + 1 }) ho fun h2 he' sb => ?_⟩
    have at_ : ∀ b : Addr, b ∈ [e, it] → b < s.heap.objs.size := fun b hb => (show b = e ∨ b = it by simpa using hb).elim (fun z => z ▸ le_) fun z => z ▸ li_
    have hT2 : h2.get? s.heap.objs.size = some { cls := .type "tuple", data := .seq #[.int i tk, u] } := (sb.2 _ (Nat.ne_of_gt le_)).trans hT
    have I1 : Inv X pins σ (upd H s.heap.objs.size (.tup [.int (i : Nat), x])) { s with heap := h2, toks := tk + 1 } :=
      I.turnedNew (ch := [e, it]) (fun b ob hb q => (sb.2 b fun z => hb (by simp [z])).trans (hk b ob (fun z => hb (by simp [z])) (fun z => hb (by simp [z])) q)) hf (Nat.le_refl _) ⟨by show 2 ≤ sizeLine; decide, [.int i tk, u], .cons ⟨_, rfl⟩ (.cons ru .nil), ⟨_, hT2, rfl, _, rfl⟩⟩
    have hE : IsEnum h2 e it ((i + 1 : Nat) : Int) u := (show ((i + 1 : Nat) : Int) = (i : Int) + 1 by omega) ▸ he'
    exact ⟨.ref s.heap.objs.size, _, I1, rfl, ⟨_, x, rfl, I.hok.fresh (Nat.le_refl _), rfl, fun ys hy => tup_inj I hq hy ▸ hx⟩, ⟨⟨u, hE⟩, hst.1.at fun o q => (sb.2 it (Ne.symm hne)).trans q, hne⟩, fun b hb => (upd_ne (Nat.ne_of_lt (at_ b hb))).trans (hf b hb).1⟩
  done := by
    intro X hP hw hK hc i pins s σ H E I hf st hg
    subst hP hw hK
    obtain ⟨⟨old, he⟩, hit, hne⟩ := st
    obtain ⟨xs, hq, hx⟩ := hg
    obtain ⟨its, rv, p, hz⟩ := I.tuple hq
    have ne_ : its.toArray[i]? = none := by
      rw [List.getElem?_toArray]
      exact List.getElem?_eq_none (by have := rv.length; omega)
    have D : Draws X.prog X.w X.A.in1 it [it, a] 0 (fun _ _ => True) (fun _ h => h.IsTupleIter it a i ∧ h.IsTuple a its.toArray) := {
      live := fun _ _ st => ⟨_, st.1.choose_spec.1⟩
      frame := fun _ _ _ st hk => ⟨st.1.at (hk it (by simp)), st.2.at (hk a (by simp))⟩
      item := fun _ _ _ _ h => absurd h (Nat.not_lt_zero _)
      done := fun _ _ _ st hE => wpAny_nextOf_tuple_end (show X.A.in1.handled = none from I.ok.hd hc) st.1 st.2 ne_ hE }
    obtain ⟨f0, f1, _, f3, f4, f5⟩ := hf it (by simp)
    exact wpAny_pyNext_enum_endD D he ⟨hit, p⟩ fun h' eb => ⟨rfl, I.turned (t' := s.toks) eb f0 f1 f3 f4 f5⟩
  self := fun A i s Q E st h => wpAny_pyIter_enum st.1.choose_spec h
/-- enumerate(xs) of a list or of a tuple -/
def iEnumQ (K : PySem.W.Frag) (ta : TA) : TI := fun σ H R => ta σ H fun vs H1 => ∃ a xs, vs = [.ref a] ∧ ((SqL K H1 a xs ∧ R (Ite K a) H1) ∨ (SqT K H1 a xs ∧ R (IteT K a) H1))
theorem pi_enumQ {X : Cx} {e : Expr} {ta : TA} {p pos tpos : Pos} {elts : List Expr} {kk : Nat} (hg : Gl X "enumerate") (hm : X.mg "enumerate" = none) (ha : PA X [e] ta) (hs : starEach [e] X.env = [(false, eval e X.env)] := by rfl) :
    PI X (.Tuple elts kk tpos) (.Call (.Name "enumerate" p) [e] [] pos) (iEnumQ X.K ta) := by
  refine ⟨fun pins s σ H R I h => Call_ (ld_blt I hg hm boot_enumerate (PyProof.Rows.callWith_type1 (thn (ha.run pos pins s σ H _ I h) fun us s1 ⟨vs, H1, I1, r1, a, xs, ex, q⟩ => ?_) hs rfl))⟩
  subst ex
  have new : ∀ b : Addr, b ∈ [s1.heap.objs.size + 1, s1.heap.objs.size] → s1.heap.objs.size ≤ b := fun b hb => (show b = s1.heap.objs.size + 1 ∨ b = s1.heap.objs.size by simpa using hb).elim (fun z => z ▸ Nat.le_succ _) fun z => z ▸ Nat.le_refl _
  cases r1 with
  | cons r rr =>
    cases rr
    cases r
    rcases q with ⟨hq, q⟩ | ⟨hq, q⟩
    · obtain ⟨its, rv, p', hz⟩ := I1.list hq
      refine call_enumerate_list p'.isList fun h' he hit hsz hk => wpAny_pyIter_enum he ⟨s1.heap.objs.size + 1, [s1.heap.objs.size + 1, s1.heap.objs.size], _, _, H1, rfl, I1.kept (t' := s1.toks) hk, turn_enum a _ _, ⟨⟨.none, he⟩, hit, Nat.succ_ne_self _⟩, fun b hb => I1.fpOk (new b hb) (I1.hok.fresh (new b hb)), q⟩
    · obtain ⟨its, rv, p', hz⟩ := I1.tuple hq
      refine et_call (show s1.heap.IsTuple a its.toArray from p') fun h' he hit hk => wpAny_pyIter_enum he ⟨s1.heap.objs.size + 1, [s1.heap.objs.size + 1, s1.heap.objs.size], _, _, H1, rfl, I1.kept (t' := s1.toks) hk, turn_enumT a _ _, ⟨⟨.none, he⟩, hit, Nat.succ_ne_self _⟩, fun b hb => I1.fpOk (new b hb) (I1.hok.fresh (new b hb)), q⟩
theorem walk_enumT {K : PySem.W.Frag} {a : Addr} {xs : List V} : Walk (IteT K a) xs.length (fun H => SqT K H a xs) (YPair (fun i => some (.int (i : Nat))) (fun i => xs[i]?)) := by
  refine ⟨fun i _ hi q => ⟨xs, xs[i], q, by simp [hi]⟩, fun _ q => ⟨xs, q, Nat.le_refl _⟩, fun i H v H' _ q y => ?_⟩
  obtain ⟨T, x, h1, h2, h3, h4⟩ := y
  exact ⟨T, .int (i : Nat), x, h1, h2, h3, rfl, h4 xs q⟩
end

section
variable {P : Program} {w : World} {K : PySem.W.Frag} {mg : Str → Option Value} {base : Heap}
/-! ### lamps that may go -/
theorem kit_tl {K : PySem.W.Frag} : PySem.W.kitCls K (Value.type "tuple") (Value.type "list") = some false := by
  show (if PySem.W.kitMeta "list" = true then PySem.W.subIn K (.type "tuple") (.type "list") else none) = some false
  rw [if_pos (by decide +kernel)]
  show Option.map (fun x => x.contains (Value.type "list")) (fastBuiltinMro "tuple") = some false
  decide +kernel
/-- numbers in a list or in a short tuple -/
def NumQ (H : Hp) (N : Addr) (ns : List Int) : Prop := H N = some (.lst (ns.map V.int)) ∨ (H N = some (.tup (ns.map V.int)) ∧ ns.length < 64)
theorem NumQ.same {H H' : Hp} {N : Addr} {ns : List Int} (h : NumQ H N ns) (s : Same H H') : NumQ H' N ns := h.elim (fun e => .inl (s _ _ e)) fun e => .inr ⟨s _ _ e.1, e.2⟩
theorem NumQ.io {K : PySem.W.Frag} {H : Hp} {N : Addr} {ns : List Int} (h : NumQ H N ns) : SqL K H N (ns.map V.int) ∨ SqT K H N (ns.map V.int) := h.elim (fun e => .inl (SqL.of e)) fun e => .inr (SqT.of e.1)
theorem NumQ.so {K : PySem.W.Frag} {H : Hp} {N : Addr} {ns : List Int} (h : NumQ H N ns) : SqL K H N (ns.map V.int) ∨ SqT K H N (ns.map V.int) ∧ ns.length < 64 := h.elim (fun e => .inl (SqL.of e)) fun e => .inr ⟨SqT.of e.1, e.2⟩
theorem cut_hi {n i : Nat} (h : i < n) : ¬ (HT.sIx n 0 none = 0 ∧ HT.sIx n n (some (i : Int)) = n) := fun z => by
  have e : HT.sIx n n (some (i : Int)) = min (i : Int).toNat n := by unfold HT.sIx; simp; omega
  rw [e] at z
  omega
def spCheckNum (C CG : Addr) : Sp := fun vs H Q _ => ∃ (g N : Addr) (k : Nat) (ls : List (Int × Int)) (ns : List Int), vs = [.ref g, .ref N] ∧ LightAt C CG H g k ls ∧ ls.length ≤ 10 ∧ NumQ H N ns ∧ ns.Nodup ∧ (∀ n ∈ ns, 0 ≤ n ∧ n < ls.length) ∧ ∀ H', Same H H' → Q .non H'
theorem ok_check_numbers (T : Top K mg) : FnOk P w K mg base CX0 6 T.f_check_numbers T.d_check_numbers ["light", "numbers"] (spCheckNum T.C_Lamp T.C_Light) := by
  have G_Lamp_eq := ok_Lamp_eq (P := P) (w := w) (base := base) T
  have G_Light_lamps := ok_Light_lamps (P := P) (w := w) (base := base) T
  have G_is_whole := ok_is_whole (P := P) (w := w) (base := base) T
  refine T.F_check_numbers.ok sc_check_numbers (fun vs H Q E h => ?_) (fun cdv A outer s H vs Q E hr h => ?_)
  · obtain ⟨g, N, k, ls, ns, rfl, _⟩ := h; rfl
  · obtain ⟨g, N, k, ls, ns, rfl, hg, hn, eN, nd, hb, q⟩ := h
    refine ⟨_, (pss_cons (ps_if (pt_not (pt_val (pe_callB call_isiT (by rfl) T.n_isinstance (by decide +kernel) (pa_cons (pv 1) (pa_cons (pe_tup (pa_cons (pe_bltn (v := .ty "list") (by rfl) T.n_list (by decide +kernel) rfl) (pa_cons (pe_bltn (v := .ty "tuple") (by rfl) T.n_tuple (by decide +kernel) rfl) pa_nil))) pa_nil))))) (pss_one (ps_never)) pss_nil)
      (pss_cons (ps_set (i := 2) sc_check_numbers.nd rfl (Or.inl rfl) (pe_callB call_len_seq (by rfl) T.n_len (by decide +kernel) (pa_cons (pe_meth0 (pv 0) T.cl_Light T.m_Light_lamps G_Light_lamps (hr.mono (by decide)) T.b_Light_lamps .nil pass0) pa_nil)))
      (pss_one (ps_for PassesOwn.never rfl (pi_enumQ (by rfl) T.n_enumerate (pa_cons (pv 1) pa_nil)) (pg_tup (by rfl) (pgs_cons (pg_name (i := 3) sc_check_numbers.nd rfl (Or.inl rfl)) (pgs_cons (pg_name (i := 4) sc_check_numbers.nd rfl (Or.inl rfl)) pgs_nil))) (pss_one (ps_if (PW.pt (pw_or (pt_not (pt_val (pe_call G_is_whole (hr.mono (by decide)) rfl T.g_is_whole T.F_is_whole.kp T.b_is_whole .nil pass0 (pa_cons (pv 4) pa_nil)))) (pw_or (pt_not (pt_chain op_le op_lt pe_int (pv 4) (pv 2))) (pw_or1 (pt_cmpR op_in_seq (pv 4) (pe_slice (sl_list.or sl_tup) (pv 1) po_none (po_some (pv 3))) (by with_unfolding_all rfl)))))) (pss_one (ps_never)) pss_nil)))))), ?_⟩
    rcases eN with eN | ⟨eN, l64⟩
    · refine ⟨_, rfl, (by show 2 ≤ sizeLine; decide), fun tp htp => ?_⟩
      generalize hX_ : upd _ tp _ = H1; have stp := Same.of_upd hX_ htp; have etp := upd_of hX_; clear hX_
      refine ⟨_, tp, [.ty "list", .ty "tuple"], _, [.type "list", .type "tuple"], true, rfl, etp, .cons (.ty _) (.cons (.ty _) .nil), .base (.lst (stp _ _ eN)), ?_, true, rfl, iteF ?_⟩
      · unfold PySem.W.kitAny PySem.W.kitOne
        rw [if_pos (by decide)]
      replace hg := hg.same (stp); replace eN := (stp) _ _ eN
      obtain ⟨dx, _, _, hg0, _, _⟩ := id hg
      refine ⟨_, rfl, g, dx, _, rfl, hg0, gf_no _ (by decide +kernel), g, k, ls, rfl, hg, hn, fun p ys H2 s2 hp hp1 ha1 => ⟨p, ys, rfl, .inl (SqL.of hp1), ?_⟩⟩
      replace hg := hg.same (s2); replace eN := (s2) _ _ eN
      have ly : ys.length = ls.length := ha1.1
      refine ⟨_, rfl, N, _, rfl, .inl ⟨SqL.of eN, for_it (walk_enum (K := K) (a := N) (xs := ns.map V.int)) (fun i σ H' => (∃ v3 v4, σ = [some (.ref g), some (.ref N), some (.int (ys.length : Nat)), v3, v4]) ∧ Same H2 H') ⟨⟨_, _, rfl⟩, Same.refl _⟩ (fun i σ H' _ ⟨_, s3⟩ => SqL.of (s3 _ _ eN)) ?_ ?_⟩⟩
      · rintro i x σ H3 H4 hi ⟨⟨v3, v4, rfl⟩, s3⟩ ⟨T', x1, x2, rfl, hT, rfl, e1, e2⟩
        cases e1
        obtain ⟨z, hz, rfl⟩ := get_map e2
        have s4 := same_at (o := .tup [.int (i : Nat), .int z]) s3 (back_none s3 hT)
        refine ⟨T', _, rfl, SqT.of upd_same, rfl, _, _, rfl, _, _, rfl, rfl, ?_⟩
        generalize upd H3 T' (.tup [.int (i : Nat), .int z]) = H4 at *
        obtain ⟨z0, z1⟩ := hb z (List.mem_of_getElem? hz)
        refine ⟨_, rfl, z, rfl, true, rfl, iteF ?_⟩
        refine ⟨_, rfl, _, _, rfl, rfl, _, rfl, ite2 (fun _ => ⟨_, rfl, _, _, rfl, rfl, _, rfl, ite2 (fun c => absurd c (by simp; omega)) (fun _ => ?_)⟩) (fun c => absurd (decide_eq_true z0) c)⟩
        refine ⟨_, rfl, _, rfl, _, rfl, _, rfl, .inl ⟨N, _, rfl, SqL.of (s4 _ _ eN), fun p1 hp1 => ?_⟩⟩
        have ec1 : cutV (ns.map V.int) none (some ((i : Nat) : Int)) = (ns.take i).map V.int := by rw [cut_head (by omega), Int.toNat_natCast, List.map_take]
        rw [ec1]
        generalize hX_ : upd _ p1 _ = H5; have sp1 := Same.of_upd hX_ hp1; have ep1 := upd_of hX_; clear hX_
        refine ⟨p1, _, rfl, .inl (SqL.of ep1), rfl, flat_ints _, _, rfl, ?_⟩
        have nin : z ∉ ns.take i := fun hm => by
          obtain ⟨j, hj, e⟩ := List.getElem_of_mem hm
          rw [List.length_take] at hj
          rw [List.getElem_take] at e
          have hi2 := (List.getElem?_eq_some_iff.mp hz)
          obtain ⟨h1, h2⟩ := hi2
          have := (List.getElem_inj nd (h₀ := by omega) (h₁ := h1)).mp (e.trans h2.symm)
          omega
        refine ite2 (fun c => absurd c ?_) (fun _ => ⟨⟨_, _, rfl⟩, s4.trans sp1⟩)
        show ¬ (inV (V.int z) ((ns.take i).map V.int)) = true
        rw [inV_ints]
        simp [nin]
      · rintro σ H3 ⟨⟨v3, v4, rfl⟩, s3⟩
        exact q _ (stp.trans (s2.trans s3))
    · refine ⟨_, rfl, (by show 2 ≤ sizeLine; decide), fun tp htp => ?_⟩
      generalize hX_ : upd _ tp _ = H1; have stp := Same.of_upd hX_ htp; have etp := upd_of hX_; clear hX_
      refine ⟨_, tp, [.ty "list", .ty "tuple"], _, [.type "list", .type "tuple"], true, rfl, etp, .cons (.ty _) (.cons (.ty _) .nil), .base (.tup (stp _ _ eN)), ?_, true, rfl, iteF ?_⟩
      · unfold PySem.W.kitAny PySem.W.kitOne
        rw [if_neg (by decide), kit_tl]
        show PySem.W.kitAny _ (Value.type "tuple") [Value.type "tuple"] = some true
        unfold PySem.W.kitAny PySem.W.kitOne
        rw [if_pos (by decide)]
      replace hg := hg.same (stp); replace eN := (stp) _ _ eN
      obtain ⟨dx, _, _, hg0, _, _⟩ := id hg
      refine ⟨_, rfl, g, dx, _, rfl, hg0, gf_no _ (by decide +kernel), g, k, ls, rfl, hg, hn, fun p ys H2 s2 hp hp1 ha1 => ⟨p, ys, rfl, .inl (SqL.of hp1), ?_⟩⟩
      replace hg := hg.same (s2); replace eN := (s2) _ _ eN
      have ly : ys.length = ls.length := ha1.1
      refine ⟨_, rfl, N, _, rfl, .inr ⟨SqT.of eN, for_it (walk_enumT (K := K) (a := N) (xs := ns.map V.int)) (fun i σ H' => (∃ v3 v4, σ = [some (.ref g), some (.ref N), some (.int (ys.length : Nat)), v3, v4]) ∧ Same H2 H') ⟨⟨_, _, rfl⟩, Same.refl _⟩ (fun i σ H' _ ⟨_, s3⟩ => SqT.of (s3 _ _ eN)) ?_ ?_⟩⟩
      · rintro i x σ H3 H4 hi ⟨⟨v3, v4, rfl⟩, s3⟩ ⟨T', x1, x2, rfl, hT, rfl, e1, e2⟩
        cases e1
        obtain ⟨z, hz, rfl⟩ := get_map e2
        have s4 := same_at (o := .tup [.int (i : Nat), .int z]) s3 (back_none s3 hT)
        refine ⟨T', _, rfl, SqT.of upd_same, rfl, _, _, rfl, _, _, rfl, rfl, ?_⟩
        generalize upd H3 T' (.tup [.int (i : Nat), .int z]) = H4 at *
        obtain ⟨z0, z1⟩ := hb z (List.mem_of_getElem? hz)
        refine ⟨_, rfl, z, rfl, true, rfl, iteF ?_⟩
        refine ⟨_, rfl, _, _, rfl, rfl, _, rfl, ite2 (fun _ => ⟨_, rfl, _, _, rfl, rfl, _, rfl, ite2 (fun c => absurd c (by simp; omega)) (fun _ => ?_)⟩) (fun c => absurd (decide_eq_true z0) c)⟩
        refine ⟨_, rfl, _, rfl, _, rfl, _, rfl, .inr ⟨N, _, rfl, SqT.of (s4 _ _ eN), ?_, fun p1 hp1 => ?_⟩⟩
        · rw [List.length_map]
          exact cut_hi (List.getElem?_eq_some_iff.mp hz).1
        have ec1 : cutV (ns.map V.int) none (some ((i : Nat) : Int)) = (ns.take i).map V.int := by rw [cut_head (by omega), Int.toNat_natCast, List.map_take]
        rw [ec1]
        generalize hX_ : upd _ p1 _ = H5; have sp1 := Same.of_upd hX_ hp1; have ep1 := upd_of hX_; clear hX_
        refine ⟨p1, _, rfl, .inr (SqT.of ep1), rfl, flat_ints _, _, rfl, ?_⟩
        have nin : z ∉ ns.take i := fun hm => by
          obtain ⟨j, hj, e⟩ := List.getElem_of_mem hm
          rw [List.length_take] at hj
          rw [List.getElem_take] at e
          have hi2 := (List.getElem?_eq_some_iff.mp hz)
          obtain ⟨h1, h2⟩ := hi2
          have := (List.getElem_inj nd (h₀ := by omega) (h₁ := h1)).mp (e.trans h2.symm)
          omega
        refine ite2 (fun c => absurd c ?_) (fun _ => ⟨⟨_, _, rfl⟩, s4.trans sp1⟩)
        show ¬ (inV (V.int z) ((ns.take i).map V.int)) = true
        rw [inV_ints]
        simp [nin]
      · rintro σ H3 ⟨⟨v3, v4, rfl⟩, s3⟩
        exact q _ (stp.trans (s2.trans s3))
/-- rows to be read, none of them the list at D -/
def RowsN (D : Addr) (H : Hp) (R : Addr) (n : Nat) (f : Nat → List Int) : Prop := ∃ as : List Addr, H R = some (.lst (as.map V.ref)) ∧ as.length = n ∧ (∀ (j : Nat) a, as[j]? = some a → H a = some (.lst ((f j).map V.int))) ∧ R ≠ D ∧ ∀ a ∈ as, a ≠ D
theorem RowsN.r {D : Addr} {H : Hp} {R : Addr} {n : Nat} {f : Nat → List Int} (h : RowsN D H R n f) : RowsR H R n f := let ⟨as, a, b, c, _⟩ := h; ⟨as, a, b, c⟩
theorem RowsN.same {D : Addr} {H H' : Hp} {R : Addr} {n : Nat} {f : Nat → List Int} (h : RowsN D H R n f) (s : Same H H') : RowsN D H' R n f := let ⟨as, a, b, c, d⟩ := h; ⟨as, s _ _ a, b, fun j x e => s _ _ (c j x e), d⟩
theorem RowsN.mut {D : Addr} {H : Hp} {R : Addr} {n : Nat} {f : Nat → List Int} {o : HO} (h : RowsN D H R n f) : RowsN D (upd H D o) R n f := by
  obtain ⟨as, a, b, c, d, e⟩ := h
  exact ⟨as, by rw [upd_ne d]; exact a, b, fun j x h => by rw [upd_ne (e x (List.mem_of_getElem? h))]; exact c j x h, d, e⟩
theorem RowsAt.n {D : Addr} {H0 H : Hp} {R : Addr} {n : Nat} {f : Nat → List Int} {o : HO} (h : RowsAt H0 H R n f) (hD : H0 D = some o) : RowsN D H R n f := by
  obtain ⟨as, a, b, c, d, e, g, i⟩ := h
  exact ⟨as, a, b, i, fun z => by (rw [z, hD] at e; cases e), fun x hx z => by (have := g x hx; rw [z, hD] at this; cases this)⟩
/-- pairs of a lamp and its rows -/
def GoingA (C D : Addr) (H : Hp) (ts : List Addr) (k : Nat) (os ns : List Int) (ls : List (Int × Int)) : Prop := ts.length = os.length ∧
  ∀ (j : Nat) t n, ts[j]? = some t → os[j]? = some n → ∃ (a R : Addr) (l : Int × Int), H t = some (.tup [.ref a, .ref R]) ∧ ls[n.toNat]? = some l ∧ OAt C H (.ref a) k (some l) ∧ RowsN D H R (2 ^ (keptN ns ls).length) (fun j => rowOf (keptN ns ls) (l.2 + (j : Nat) * l.1))
theorem GoingA.same {C D : Addr} {H H' : Hp} {ts : List Addr} {k : Nat} {os ns : List Int} {ls : List (Int × Int)} (h : GoingA C D H ts k os ns ls) (s : Same H H') : GoingA C D H' ts k os ns ls :=
  ⟨h.1, fun j t n e1 e2 => let ⟨a, R, l, c1, c2, c3, c4⟩ := h.2 j t n e1 e2; ⟨a, R, l, s _ _ c1, c2, c3.same s, c4.same s⟩⟩
theorem GoingA.mut {C D : Addr} {H : Hp} {ts : List Addr} {k : Nat} {os ns : List Int} {ls : List (Int × Int)} {xs ys : List V} (h : GoingA C D H ts k os ns ls) (hD : H D = some (.lst xs)) : GoingA C D (upd H D (.lst ys)) ts k os ns ls :=
  ⟨h.1, fun j t n e1 e2 => let ⟨a, R, l, c1, c2, c3, c4⟩ := h.2 j t n e1 e2; ⟨a, R, l, by rw [upd_ne (ne_of c1 hD (by intro z; cases z))]; exact c1, c2, c3.mut hD, c4.mut⟩⟩
theorem GoingA.more {C D : Addr} {H : Hp} {ts : List Addr} {k : Nat} {os ns : List Int} {ls : List (Int × Int)} {t a R : Addr} {n : Int} {l : Int × Int} (h : GoingA C D H ts k os ns ls) (c1 : H t = some (.tup [.ref a, .ref R])) (c2 : ls[n.toNat]? = some l) (c3 : OAt C H (.ref a) k (some l)) (c4 : RowsN D H R (2 ^ (keptN ns ls).length) (fun j => rowOf (keptN ns ls) (l.2 + (j : Nat) * l.1))) : GoingA C D H (ts ++ [t]) k (os ++ [n]) ns ls := by
  refine ⟨by rw [List.length_append, List.length_append, h.1]; rfl, fun j t' n' e1 e2 => ?_⟩
  rcases snoc_at e1 with ⟨h1, g1⟩ | ⟨h1, rfl⟩ <;> rcases snoc_at e2 with ⟨h2, g2⟩ | ⟨h2, rfl⟩
  · exact h.2 j t' n' g1 g2
  · exact absurd h.1 (by omega)
  · exact absurd h.1 (by omega)
  · exact ⟨a, R, l, c1, c2, c3, c4⟩
def spGoing (C CG : Addr) : Sp := fun vs H Q _ => ∃ (g N : Addr) (k : Nat) (ls : List (Int × Int)) (ns : List Int), vs = [.ref g, .ref N] ∧ LightAt C CG H g k ls ∧ ls.length ≤ 10 ∧ k ≤ 8000 ∧ NumQ H N ns ∧ ns.length ≤ 1000 ∧ (∀ n ∈ ns, 0 ≤ n ∧ n < ls.length) ∧
  ∀ p os ts H', Same H H' → H p = none → os.Perm ns → os.Pairwise (· ≤ ·) → H' p = some (.lst (ts.map V.ref)) → GoingA C p H' ts k os ns ls → Q (.ref p) H'
theorem ok_going (T : Top K mg) : FnOk P w K mg base CX0 6 T.f_going T.d_going ["light", "numbers"] (spGoing T.C_Lamp T.C_Light) := by
  have G_Lamp_eq := ok_Lamp_eq (P := P) (w := w) (base := base) T
  have G_Light_lamps := ok_Light_lamps (P := P) (w := w) (base := base) T
  have G_seen_rows := ok_seen_rows (P := P) (w := w) (base := base) T
  refine T.F_going.ok sc_going (fun vs H Q E h => ?_) (fun cdv A outer s H vs Q E hr h => ?_)
  · obtain ⟨g, N, k, ls, ns, rfl, _⟩ := h; rfl
  · obtain ⟨g, N, k, ls, ns, rfl, hg, hn, hk, hN, ln, hb, q⟩ := h
    refine ⟨_, (pss_cons (ps_set (i := 2) sc_going.nd rfl (Or.inr rfl) (pe_meth0 (pv 0) T.cl_Light T.m_Light_lamps G_Light_lamps (hr.mono (by decide)) T.b_Light_lamps .nil pass0))
      (pss_cons (ps_set (i := 3) sc_going.nd rfl (Or.inr rfl) (pe_lc (own := [("number", 4), ("lamp", 5)]) (g := gTup K 2 (gCons (gName 4) (gCons (gName 5) gNil))) (tt := _) (by rfl) sc_going.nd (pi_enum (by rfl) T.n_enumerate (pa_cons (pv 2) pa_nil)) (blkOk_by (own := [("number", 4), ("lamp", 5)]) (N := ["light", "numbers", "lamps", "kept", "number", "lamp"]) (sc := defScope s_going) (by decide +kernel)) (fun _ _ _ _ _ => by exact (pg_tupB (K := K) rfl (by rfl) (pgs_cons (pg_name (i := 4) sc_going.nd rfl (Or.inl rfl)) (pgs_cons (pg_name (i := 5) sc_going.nd rfl (Or.inl rfl)) pgs_nil)))) (fun _ _ _ _ _ => by exact (pts_one (pt_cmpR (op_notInK (K := K) rfl) (pv 4) (pv 1) (by with_unfolding_all rfl)))) (fun _ _ _ _ _ => by exact (pe_tup (pa_cons (pv 4) (pa_cons (pv 5) pa_nil))))) (sw_cell rfl))
      (pss_one (ps_ret (pe_lc (own := [("number", 4)]) (g := gName 4) (by rfl) sc_going.nd (pi_list (pe_callB cr_sortedQ (by rfl) T.n_sorted (by decide +kernel) (pa_cons (pv 1) pa_nil))) (blkOk_by (own := [("number", 4)]) (N := ["light", "numbers", "lamps", "kept", "number", "lamp"]) (sc := defScope s_going) (by decide +kernel)) (fun _ _ _ _ _ => by exact (pg_name (i := 4) sc_going.nd rfl (Or.inl rfl))) (fun _ _ _ _ _ => by exact (pts_nil)) (fun _ _ _ _ _ => by exact (pe_tup (pa_cons (pe_ix (ix_listB (K := K) rfl) (pv 2) (pv 4) (fun _ _ => rfl)) (pa_cons (pe_call G_seen_rows (hr.mono (by decide)) rfl T.g_seen_rows T.F_seen_rows.kp T.b_seen_rows .nil pass0 (pa_cons (pe_ix (ix_listB (K := K) rfl) (pv 2) (pv 4) (fun _ _ => rfl)) (pa_cons (pv 3) (pa_cons pe_int (pa_cons (pe_op op_oneShl pe_int (pe_callB (call_lenB (K := K) rfl) (by rfl) T.n_len (by decide +kernel) (pa_cons (pv 3) pa_nil))) pa_nil))))) pa_nil))))))))), ?_⟩
    obtain ⟨dx, _, _, hg0, _, _⟩ := id hg
    refine ⟨_, rfl, g, dx, _, rfl, hg0, gf_no _ (by decide +kernel), g, k, ls, rfl, hg, hn, fun p ys H2 s2 hp hp1 ha1 => ?_⟩
    replace hN := hN.same s2
    refine ⟨_, rfl, p, _, rfl, SqL.of hp1, fun D hD => lc_it (walk_enum (K := K) (a := p) (xs := ys)) (fun i H' => Same H2 H' ∧ ∃ us : List Addr, H' D = some (.lst (us.map V.ref)) ∧ NumA T.C_Lamp H' k us (((numF 0 ls).take i).filter fun x => decide (x.1 ∉ ns))) ⟨same_new hD, [], upd_same, rfl, fun i v l h => by cases h⟩ (fun i H' _ ⟨s3, _⟩ => SqL.of (s3 _ _ hp1)) ?_ ?_⟩
    · rintro i x H3 H4 hi ⟨s3, us, hD3, ha3⟩ ⟨T', x1, x2, rfl, hT', rfl, e1, e2⟩
      cases e1
      obtain ⟨a, l, rfl, el, ha⟩ := ha1.at e2
      have s4 := same_at (o := .tup [.int (i : Nat), .ref a]) s3 (back_none s3 hT')
      have s34 : Same H3 (upd H3 T' (.tup [.int (i : Nat), .ref a])) := same_new hT'
      refine ⟨T', _, rfl, SqT.of upd_same, rfl, _, _, rfl, _, _, rfl, rfl, rfl, ?_⟩
      generalize upd H3 T' (.tup [.int (i : Nat), .ref a]) = H4 at *
      have hD4 := s34 _ _ hD3
      have ha4 := ha3.same s34
      have oa := ha.same s4
      refine ⟨_, rfl, _, rfl, N, _, rfl, (hN.same s4).io, rfl, flat_ints _, _, rfl, ?_⟩
      rw [inV_ints, kept_take el]
      by_cases hm : ((i : Nat) : Int) ∈ ns
      · rw [decide_eq_true hm, if_pos hm, List.append_nil]
        exact iteF ⟨s4, us, hD4, ha4⟩
      · rw [decide_eq_false hm, if_neg hm]
        refine iteT ⟨_, rfl, _, rfl, (by show 2 ≤ sizeLine; decide), fun U hU => ?_⟩
        generalize hX_ : upd _ U _ = H5; have sU := Same.of_upd hX_ hU; have eU := upd_of hX_; clear hX_
        replace hD4 := sU _ _ hD4
        refine ⟨us.map V.ref, hD4, ?_, same_at (s4.trans sU) hD, us ++ [U], ?_, NumA.mut (NumA.more (ha4.same sU) eU (oa.same sU)) hD4⟩
        · have := keptk_len ns ls i
          rw [List.length_map, ha4.1]
          exact Nat.lt_of_lt_of_le (show _ < 11 by omega) (by decide)
        · rw [upd_same, List.map_append]
          rfl
    rintro H3 ⟨s3, us, hD3, ha3⟩
    rw [ha1.1, num_all] at ha3
    replace hN := hN.same s3
    replace hp1 := s3 _ _ hp1
    replace ha1 := ha1.same s3
    have lk := kept_len ns ls
    refine ⟨_, rfl, N, ns, rfl, hN.so, fun os p2 hperm hsort hp2 => ?_⟩
    generalize hX_ : upd _ p2 _ = H4; have sp2 := Same.of_upd hX_ hp2; have ep2 := upd_of hX_; clear hX_
    replace hD3 := sp2 _ _ hD3
    replace hp1 := sp2 _ _ hp1
    replace ha1 := ha1.same sp2
    replace ha3 := ha3.same sp2
    refine ⟨p2, rfl, ⟨_, SqL.of ep2⟩, fun B hB => lc_list (K := K) (a := p2) (xs := os.map V.int) (fun i H' => Same H4 H' ∧ ∃ ts : List Addr, H' B = some (.lst (ts.map V.ref)) ∧ GoingA T.C_Lamp B H' ts k (os.take i) ns ls)
      ⟨same_new hB, [], upd_same, rfl, fun i T x h => by cases h⟩ (fun i H' _ ⟨s5, _⟩ => SqL.of (s5 _ _ ep2)) (fun i x H5 hi ⟨s5, ts, h1, h2⟩ => ?_) (fun H5 ⟨s5, ts, h1, h2⟩ => ?_)⟩
    · obtain ⟨n, hi2, rfl⟩ := get_map hi
      have lo := hperm.length_eq
      obtain ⟨n0, n1⟩ := hb n (hperm.mem_iff.mp (List.mem_of_getElem? hi2))
      obtain ⟨l, el⟩ : ∃ l, ls[n.toNat]? = some l := ⟨_, List.getElem?_eq_getElem (by omega)⟩
      obtain ⟨x, hx⟩ : ∃ x, ys[n.toNat]? = some x := ⟨_, List.getElem?_eq_getElem (by rw [ha1.1]; omega)⟩
      obtain ⟨a, rfl, oa⟩ := ha1.2 _ _ _ hx el
      replace oa := oa.same s5
      refine ⟨rfl, ?_⟩
      refine ⟨_, rfl, _, rfl, p, _, _, _, rfl, rfl, SqL.of (s5 _ _ hp1), at_of (j := n.toNat) (by omega) hx, ?_⟩
      refine ⟨_, rfl, _, rfl, p, _, _, _, rfl, rfl, SqL.of (s5 _ _ hp1), at_of (j := n.toNat) (by omega) hx, ?_⟩
      have lu : (us.map V.ref).length = (keptN ns ls).length := by rw [List.length_map, ha3.1]; rfl
      have eN : (2 : Int) ^ (us.map V.ref).length = ((2 ^ (keptN ns ls).length : Nat) : Int) := by rw [lu]; norm_cast
      have w1 : (2 : Nat) ^ (keptN ns ls).length ≤ 2 ^ 10 := Nat.pow_le_pow_right (by decide) (by omega)
      refine ⟨_, rfl, _, rfl, D, _, rfl, .inl (SqL.of (s5 _ _ hD3)), _, rfl, rfl, by rw [lu]; omega, ?_⟩
      refine ⟨a, D, 0, 2 ^ (keptN ns ls).length, k, k, l, us, keptN ns ls, congrArg (fun x => [V.ref a, V.ref D, V.int 0, V.int x]) eN, oa, s5 _ _ hD3, ha3.same s5, hk, hk, by omega, by omega, fun R H6 s6 hR => ⟨(by show 2 ≤ sizeLine; decide), fun U hU => ?_⟩⟩
      generalize hX_ : upd _ U _ = H7; have sU := Same.of_upd hX_ hU; have eU := upd_of hX_; clear hX_
      have hRn := ((hR.ext (g := fun j => rowOf (keptN ns ls) (l.2 + (j : Nat) * l.1)) fun j _ => by rw [Int.zero_add]).n h1).same sU
      replace h1 := s6 _ _ h1
      refine ⟨ts.map V.ref, sU _ _ h1, ?_, same_at (s5.trans (s6.trans sU)) hB, ts ++ [U], ?_, ?_⟩
      · have h3 := h2.1
        rw [List.length_take] at h3
        rw [List.length_map]
        exact Nat.lt_of_lt_of_le (show ts.length < 1001 by omega) (by decide)
      · rw [upd_same, List.map_append]
        rfl
      · rw [List.take_succ, hi2]
        exact ((h2.same (s6.trans sU)).more eU el (oa.same (s6.trans sU)) hRn).mut (sU _ _ h1)
    · rw [List.length_map, List.take_length] at h2
      exact q B os ts H5 (s2.trans (s3.trans (sp2.trans s5))) (back_none (s2.trans (s3.trans sp2)) hB) hperm hsort h1 h2
def spFirstLeft (C : Addr) : Sp := fun vs H Q _ => ∃ (a R : Addr) (k n : Nat) (l : Int × Int) (f : Nat → List Int), vs = [.ref a, .ref R] ∧ OAt C H (.ref a) k (some l) ∧ RowsR H R n f ∧ k ≤ 8000 ∧ n ≤ 100000 ∧
  ∀ H', Same H H' → Q (oV ((emptyL n f).head?.map fun j => l.2 + (j : Nat) * l.1)) H'
theorem ok_first_left (T : Top K mg) : FnOk P w K mg base CX0 2 T.f_first_left T.d_first_left ["lamp", "rows"] (spFirstLeft T.C_Lamp) := by
  have G_empty_places := ok_empty_places (P := P) (w := w) (base := base) T
  refine T.F_first_left.ok sc_first_left (fun vs H Q E h => ?_) (fun cdv A outer s H vs Q E hr h => ?_)
  · obtain ⟨a, R, k, n, l, f, rfl, _⟩ := h; rfl
  · obtain ⟨a, R, k, n, l, f, rfl, ha, hR, hk, hn, q⟩ := h
    refine ⟨_, (pss_cons (ps_set (i := 2) sc_first_left.nd rfl (Or.inl rfl) (pe_call G_empty_places (hr.mono (by decide)) rfl T.g_empty_places T.F_empty_places.kp T.b_empty_places .nil pass0 (pa_cons (pv 1) pa_nil)))
      (pss_cons (ps_if (pt_not (pt_truth (pv 2) (by intro _; rfl))) (pss_one (ps_ret pe_non)) pss_nil)
      (pss_one (ps_ret (pe_op op_add (pe_fld (pv 0) rfl) (pe_op op_mulW (pe_ix ix_list (pv 2) pe_int (fun _ _ => rfl)) (pe_fld (pv 0) rfl))))))), ?_⟩
    refine ⟨_, rfl, R, n, f, rfl, hR, hn, fun D H1 s1 hD hD1 => ?_⟩
    have oa := ha.same s1
    obtain ⟨p0, b0, bp⟩ := oa.ok _ rfl
    have lt : ∀ j ∈ emptyL n f, j < n := fun j hj => List.mem_range.mp (List.mem_filter.mp hj).1
    refine ⟨_, rfl, !(((emptyL n f).map fun j => V.int (j : Nat))).isEmpty, .inl ⟨_, SqL.of hD1, rfl⟩, ?_⟩
    cases e : emptyL n f with
    | nil =>
      rw [e] at q
      exact iteT (q H1 s1)
    | cons j r =>
      rw [e] at q hD1
      have hj := lt j (by rw [e]; exact .head _)
      have pz : l.1.natAbs < 2 ^ 8000 := by
        obtain ⟨_, _, _, _, _, _, z⟩ := oa
        exact Nat.lt_of_lt_of_le z (Nat.pow_le_pow_right (by decide) hk)
      refine iteF ?_
      refine ⟨_, rfl, _, _, _, _, _, rfl, (oa.lamp).choose_spec, T.cl_Lamp, T.na_Lamp_beat, lf_beat _ _, _, rfl, D, _, _, _, rfl, rfl, SqL.of hD1, at_of (j := 0) rfl rfl, _, rfl, _, _, _, _, _, rfl, (oa.lamp).choose_spec, T.cl_Lamp, T.na_Lamp_period, lf_period _ _, _, _, rfl, rfl, wide_mul (a := 20) (b := 8000) ?_ pz (by decide) (by decide) (by decide), _, _, rfl, rfl, q H1 s1⟩
      exact Nat.lt_of_lt_of_le (show ((j : Nat) : Int).natAbs < 2 ^ 20 by omega) (Nat.le_refl _)
def spBeatsAlone (C CG : Addr) : Sp := fun vs H Q _ => ∃ (g : Addr) (k : Nat) (ls : List (Int × Int)), vs = [.ref g] ∧ LightAt C CG H g k ls ∧ ls.length ≤ 10 ∧ k ≤ 8000 ∧
  ∀ p (os : List (Option Int)) H', Same H H' → H p = none → H' p = some (.lst (os.map oV)) → os.length = ls.length → (∀ (i : Nat) o, os[i]? = some o → AloneIs ls i o) → Q (.ref p) H'
theorem ok_beats_alone (T : Top K mg) : FnOk P w K mg base CX0 7 T.f_beats_alone T.d_beats_alone ["light"] (spBeatsAlone T.C_Lamp T.C_Light) := by
  have G_Light_lamps := ok_Light_lamps (P := P) (w := w) (base := base) T
  have G_first_left := ok_first_left (P := P) (w := w) (base := base) T
  have G_going := ok_going (P := P) (w := w) (base := base) T
  refine T.F_beats_alone.ok sc_beats_alone (fun vs H Q E h => ?_) (fun cdv A outer s H vs Q E hr h => ?_)
  · obtain ⟨g, k, ls, rfl, _⟩ := h; rfl
  · obtain ⟨g, k, ls, rfl, hg, hn, hk, q⟩ := h
    refine ⟨_, (pss_cons (ps_set (i := 1) sc_beats_alone.nd rfl (Or.inl rfl) (pe_callTy cr_range1 (by rfl) T.n_range (by decide +kernel) (pa_cons (pe_callB call_len_seq (by rfl) T.n_len (by decide +kernel) (pa_cons (pe_meth0 (pv 0) T.cl_Light T.m_Light_lamps G_Light_lamps (hr.mono (by decide)) T.b_Light_lamps .nil pass0) pa_nil)) pa_nil)))
      (pss_one (ps_ret (pe_lc2 (own := [("number", 2), ("lamp", 3), ("rows", 4)]) (vs1 := [3, 4]) (g := gName 2) (g1 := gTup K 2 (gCons (gName 3) (gCons (gName 4) gNil))) (by rfl) sc_beats_alone.nd (pi_rngV (pv 1)) (blkOk_by (own := [("number", 2), ("lamp", 3), ("rows", 4)]) (N := ["light", "every", "number", "lamp", "rows"]) (sc := defScope s_beats_alone) (by decide +kernel)) (by decide) (fun _ _ _ _ _ => by exact ((pg_name (i := 2) sc_beats_alone.nd rfl (Or.inl rfl)))) (fun _ _ _ _ _ => by exact (pts_nil)) (fun _ _ _ _ _ => by exact ((pi_listK (K := K) rfl (pe_call G_going (hr.mono (by decide)) rfl T.g_going T.F_going.kp T.b_going .nil pass0 (pa_cons (pv 0) (pa_cons (pe_lst (pa_cons (pv 2) pa_nil)) pa_nil)))))) (fun _ _ _ _ _ => by exact ((pg_tupB (K := K) rfl (by rfl) (pgs_cons (pg_name (i := 3) sc_beats_alone.nd rfl (Or.inl rfl)) (pgs_cons (pg_name (i := 4) sc_beats_alone.nd rfl (Or.inl rfl)) pgs_nil))))) (fun _ _ _ _ _ => by exact (pts_nil)) (fun _ _ _ _ _ => by exact (pe_call G_first_left (hr.mono (by decide)) rfl T.g_first_left T.F_first_left.kp T.b_first_left .nil pass0 (pa_cons (pv 3) (pa_cons (pv 4) pa_nil)))))))), ?_⟩
    obtain ⟨dx, _, _, hg0, _, _⟩ := id hg
    refine ⟨_, rfl, g, dx, _, rfl, hg0, gf_no _ (by decide +kernel), g, k, ls, rfl, hg, hn, fun p ys H1 s1 hp hp1 ha1 => ⟨p, ys, rfl, .inl (SqL.of hp1), _, rfl, fun R hR => ?_⟩⟩
    generalize hX_ : upd _ R _ = H2; have sR := Same.of_upd hX_ hR; have eR := upd_of hX_; clear hX_
    replace hg := hg.same (s1.trans sR)
    have ly : ys.length = ls.length := ha1.1
    rw [ly] at eR
    refine ⟨_, rfl, R, ls.length, rfl, eR, by omega, fun D hD => lc_any (walk_range (lo := 0) (n := ls.length)) (fun i H' => Same H2 H' ∧ ∃ os : List (Option Int), H' D = some (.lst (os.map oV)) ∧ os.length = i ∧ ∀ (j : Nat) o, os[j]? = some o → AloneIs ls j o)
      ⟨same_new hD, [], upd_same, rfl, fun j o h => by cases h⟩ (fun _ _ _ _ => trivial) ?_ ?_⟩
    · rintro i x H3 H4 hi ⟨s3, os, hD3, lo, hA⟩ ⟨rfl, rfl⟩
      refine ⟨rfl, ?_⟩
      refine ⟨_, rfl, _, rfl, (by show 1 ≤ sizeLine; decide), fun l1 hl1 => ?_⟩
      generalize hX_ : upd _ l1 _ = H5; have sl1 := Same.of_upd hX_ hl1; have el1 := upd_of hX_; clear hX_
      have el1' : H5 l1 = some (.lst (([(i : Int)] : List Int).map V.int)) := by
        rw [el1]
        show some (HO.lst [V.int (0 + (i : Int))]) = _
        rw [Int.zero_add]
        rfl
      refine ⟨g, l1, k, ls, [(i : Int)], rfl, hg.same (s3.trans sl1), hn, hk, .inl el1', (by show 1 ≤ 1000; decide), fun z hz => by (rw [List.mem_singleton.mp hz]; omega), fun p2 os2 ts H6 s6 hp2 hperm _ e6 hG => ?_⟩
      obtain rfl : os2 = [(i : Int)] := List.perm_singleton.mp hperm
      obtain ⟨t, rfl⟩ : ∃ t, ts = [t] := List.length_eq_one_iff.mp hG.1
      obtain ⟨a, B, l, c1, c2, c3, c4⟩ := hG.2 0 t i rfl rfl
      rw [Int.toNat_natCast] at c2
      have S6 := s3.trans (sl1.trans s6)
      have hD6 := s6 _ _ (sl1 _ _ hD3)
      have lk := kept_len [(i : Int)] ls
      have w1 : (2 : Nat) ^ (keptN [(i : Int)] ls).length ≤ 2 ^ 10 := Nat.pow_le_pow_right (by decide) (by omega)
      have nD : p2 ≠ D := fun e => by
        rw [e, sl1 _ _ hD3] at hp2
        cases hp2
      refine ⟨p2, rfl, ⟨_, SqL.of e6⟩, lc_any (walk_list (K := K) (a := p2) (xs := [V.ref t])) (fun j H' => H' p2 = some (.lst [V.ref t]) ∧ (j = 0 → H' = H6) ∧ (j = 1 → Same H2 H' ∧ ∃ os : List (Option Int), H' D = some (.lst (os.map oV)) ∧ os.length = i + 1 ∧ ∀ (j : Nat) o, os[j]? = some o → AloneIs ls j o)) ⟨e6, fun _ => rfl, fun h => nomatch h⟩ (fun _ H' _ h => SqL.of h.1) ?_ fun H' h => h.2.2 rfl⟩
      rintro j x H7 H8 hj ⟨h7, h0, _⟩ ⟨rfl, ex⟩
      obtain rfl : j = 0 := by
        have : j < 1 := hj
        omega
      obtain rfl := h0 rfl
      cases ex
      obtain ⟨q0, q1, q2⟩ := c3.ok _ rfl
      refine ⟨t, _, rfl, SqT.of c1, rfl, _, _, rfl, _, _, rfl, rfl, rfl, ?_⟩
      refine ⟨_, rfl, _, rfl, a, B, k, _, l, _, rfl, c3, c4.r, hk, by omega, fun H9 s9 => ⟨os.map oV, s9 _ _ hD6, ?_, ?_, fun h => (nomatch h), fun _ => ⟨same_at (S6.trans s9) hD, os ++ [Option.map (fun j : Nat => l.2 + (j : Nat) * l.1) (emptyL (2 ^ (keptN [(i : Int)] ls).length) fun j => rowOf (keptN [(i : Int)] ls) (l.2 + (j : Nat) * l.1)).head?], ?_, by rw [List.length_append, lo]; rfl, fun j o ho => ?_⟩⟩⟩
      · rw [List.length_map, lo]
        exact Nat.lt_of_lt_of_le (show i < 11 by omega) (by decide)
      · rw [upd_ne nD]
        exact s9 _ _ e6
      · rw [upd_same, List.map_append]
        rfl
      · rcases snoc_at ho with ⟨_, h⟩ | ⟨h, rfl⟩
        · exact hA j o h
        · obtain rfl : j = i := by omega
          refine ⟨l, c2, alone_is q1 q2 fun x hx => ?_⟩
          obtain ⟨_, j2, _, e2⟩ := kept_mem.mp hx
          exact hg.pos _ (List.mem_of_getElem? e2)
    · rintro H3 ⟨s3, os, hD3, lo, hA⟩
      exact q D os H3 (s1.trans (sR.trans s3)) (back_none (s1.trans sR) hD) hD3 lo hA
def spIdle (C CG : Addr) : Sp := fun vs H Q _ => ∃ (g : Addr) (k : Nat) (ls : List (Int × Int)), vs = [.ref g] ∧ LightAt C CG H g k ls ∧ ls.length ≤ 10 ∧ k ≤ 8000 ∧
  ∀ p H', Same H H' → H p = none → H' p = some (.lst ((idleL ls).map V.int)) → Q (.ref p) H'
theorem ok_idle (T : Top K mg) : FnOk P w K mg base CX0 8 T.f_idle T.d_idle ["light"] (spIdle T.C_Lamp T.C_Light) := by
  have G_beats_alone := ok_beats_alone (P := P) (w := w) (base := base) T
  refine T.F_idle.ok sc_idle (fun vs H Q E h => ?_) (fun cdv A outer s H vs Q E hr h => ?_)
  · obtain ⟨g, k, ls, rfl, _⟩ := h; rfl
  · obtain ⟨g, k, ls, rfl, hg, hn, hk, q⟩ := h
    refine ⟨_, (pss_one (ps_ret (pe_lc (own := [("number", 1), ("beat", 2)]) (g := gTup K 2 (gCons (gName 1) (gCons (gName 2) gNil))) (tt := _) (by rfl) sc_idle.nd (pi_enum (by rfl) T.n_enumerate (pa_cons (pe_call G_beats_alone (hr.mono (by decide)) rfl T.g_beats_alone T.F_beats_alone.kp T.b_beats_alone .nil pass0 (pa_cons (pv 0) pa_nil)) pa_nil)) (blkOk_by (own := [("number", 1), ("beat", 2)]) (N := ["light", "number", "beat"]) (sc := defScope s_idle) (by decide +kernel)) (fun _ _ _ _ _ => by exact (pg_tupB (K := K) rfl (by rfl) (pgs_cons (pg_name (i := 1) sc_idle.nd rfl (Or.inl rfl)) (pgs_cons (pg_name (i := 2) sc_idle.nd rfl (Or.inl rfl)) pgs_nil)))) (fun _ _ _ _ _ => by exact (pts_one (pt_cmpR op_isN (pv 2) pe_non (nomark _)))) (fun _ _ _ _ _ => by exact ((pv 1)))))), ?_⟩
    refine ⟨_, rfl, g, k, ls, rfl, hg, hn, hk, fun p os H1 s1 hp hp1 lo hA => ⟨p, _, rfl, SqL.of hp1, fun D hD => lc_it (walk_enum (K := K) (a := p) (xs := os.map oV)) (fun i H' => Same H1 H' ∧ H' D = some (.lst ((idleT ls i).map V.int))) ⟨same_new hD, upd_same⟩ (fun i H' _ ⟨s3, _⟩ => SqL.of (s3 _ _ hp1)) ?_ ?_⟩⟩
    · rintro i x H3 H4 hi ⟨s3, hD3⟩ ⟨T', x1, x2, rfl, hT', rfl, e1, e2⟩
      cases e1
      obtain ⟨o, ho, rfl⟩ := get_map e2
      have s4 := same_at (o := .tup [.int (i : Nat), oV o]) s3 (back_none s3 hT')
      have s34 : Same H3 (upd H3 T' (.tup [.int (i : Nat), oV o])) := same_new hT'
      refine ⟨T', _, rfl, SqT.of upd_same, rfl, _, _, rfl, _, _, rfl, rfl, rfl, ?_⟩
      generalize upd H3 T' (.tup [.int (i : Nat), oV o]) = H4 at *
      have hD4 := s34 _ _ hD3
      have hal := (hA i o ho).none
      have hil := (List.getElem?_eq_some_iff.mp ho).1
      refine ⟨_, rfl, rfl, _, rfl, ?_⟩
      cases o with
      | none =>
        refine iteT ⟨_, rfl, _, hD4, ?_, same_at s4 hD, ?_⟩
        · have := idleT_len ls i
          rw [List.length_map]
          exact Nat.lt_of_lt_of_le (show _ < 11 by omega) (by decide)
        · rw [upd_same, idleT_succ, if_pos (hal.mp rfl), List.map_append]
          rfl
      | some b =>
        refine iteF ⟨s4, ?_⟩
        rw [hD4, idleT_succ, if_neg (fun z => nomatch hal.mpr z), List.append_nil]
    · rintro H3 ⟨s3, hD3⟩
      rw [List.length_map, lo] at hD3
      exact q D H3 (s1.trans s3) (back_none s1 hD) hD3
end

section
variable {P : Program} {w : World} {K : PySem.W.Frag} {mg : Str → Option Value} {base : Heap}
def spNeeded (C CG : Addr) : Sp := fun vs H Q _ => ∃ (g : Addr) (k : Nat) (ls : List (Int × Int)) (os : List (Option Int)), vs = [.ref g] ∧ LightAt C CG H g k ls ∧ ls.length ≤ 10 ∧ k ≤ 8000 ∧ AllAlone ls os ∧
  ∀ p zs H', Same H H' → H p = none → PairsA H' p zs → prs zs = needL 0 os → Q (.ref p) H'
theorem ok_needed (T : Top K mg) : FnOk P w K mg base CX0 8 T.f_needed T.d_needed ["light"] (spNeeded T.C_Lamp T.C_Light) := by
  have G_beats_alone := ok_beats_alone (P := P) (w := w) (base := base) T
  refine T.F_needed.ok sc_needed (fun vs H Q E h => ?_) (fun cdv A outer s H vs Q E hr h => ?_)
  · obtain ⟨g, k, ls, os, rfl, _⟩ := h; rfl
  · obtain ⟨g, k, ls, os, rfl, hg, hn, hk, ha, q⟩ := h
    refine ⟨_, (pss_one (ps_ret (pe_lc (own := [("number", 1), ("beat", 2)]) (g := gTup K 2 (gCons (gName 1) (gCons (gName 2) gNil))) (tt := _) (by rfl) sc_needed.nd (pi_enum (by rfl) T.n_enumerate (pa_cons (pe_call G_beats_alone (hr.mono (by decide)) rfl T.g_beats_alone T.F_beats_alone.kp T.b_beats_alone .nil pass0 (pa_cons (pv 0) pa_nil)) pa_nil)) (blkOk_by (own := [("number", 1), ("beat", 2)]) (N := ["light", "number", "beat"]) (sc := defScope s_needed) (by decide +kernel)) (fun _ _ _ _ _ => by exact (pg_tupB (K := K) rfl (by rfl) (pgs_cons (pg_name (i := 1) sc_needed.nd rfl (Or.inl rfl)) (pgs_cons (pg_name (i := 2) sc_needed.nd rfl (Or.inl rfl)) pgs_nil)))) (fun _ _ _ _ _ => by exact (pts_one (pt_cmpR op_notN (pv 2) pe_non (nomark _)))) (fun _ _ _ _ _ => by exact (pe_tup (pa_cons (pv 1) (pa_cons (pv 2) pa_nil))))))), ?_⟩
    refine ⟨_, rfl, g, k, ls, rfl, hg, hn, hk, fun p os' H1 s1 hp hp1 lo hA => ?_⟩
    obtain rfl := AllAlone.uniq ha ⟨lo, hA⟩
    refine ⟨p, _, rfl, SqL.of hp1, fun D hD => lc_it (walk_enum (K := K) (a := p) (xs := os.map oV)) (fun i H' => Same H1 H' ∧ ∃ zs, PairsA H' D zs ∧ prs zs = needL 0 (os.take i)) ⟨same_new hD, [], ⟨upd_same, fun _ h => nomatch h⟩, rfl⟩ (fun i H' _ ⟨s3, _⟩ => SqL.of (s3 _ _ hp1)) ?_ ?_⟩
    · rintro i x H3 H4 hi ⟨s3, zs, hD3, ez⟩ ⟨T', x1, x2, rfl, hT', rfl, e1, e2⟩
      cases e1
      obtain ⟨o, ho, rfl⟩ := get_map e2
      have s4 := same_at (o := .tup [.int (i : Nat), oV o]) s3 (back_none s3 hT')
      have s34 : Same H3 (upd H3 T' (.tup [.int (i : Nat), oV o])) := same_new hT'
      refine ⟨T', _, rfl, SqT.of upd_same, rfl, _, _, rfl, _, _, rfl, rfl, rfl, ?_⟩
      generalize upd H3 T' (.tup [.int (i : Nat), oV o]) = H4 at *
      have hD4 := hD3.same s34
      have hil := (List.getElem?_eq_some_iff.mp ho).1
      have et : needL 0 (os.take (i + 1)) = needL 0 (os.take i) ++ (o.map fun b => ((i : Int), b)).toList := by
        rw [List.take_succ, ho]
        show needL 0 (os.take i ++ [o]) = _
        rw [need_snoc, List.length_take, show 0 + min i os.length = i by omega]
      refine ⟨_, rfl, rfl, _, rfl, ?_⟩
      cases o with
      | none =>
        refine iteF ⟨s4, zs, hD4, ?_⟩
        rw [et, ez]
        exact (List.append_nil _).symm
      | some b =>
        refine iteT ⟨_, rfl, _, rfl, (by show 2 ≤ sizeLine; decide), fun U hU => ?_⟩
        generalize hX_ : upd _ U _ = H5; have sU := Same.of_upd hX_ hU; have eU := upd_of hX_; clear hX_
        replace hD4 := hD4.same sU
        refine ⟨_, hD4.1, ?_, same_at (s4.trans sU) hD, _, pairs_app hD4 eU, ?_⟩
        · have h1 := need_len (os.take i) 0
          have h2 := List.length_take_le' i os
          rw [refsZ_len, ← prs_len, ez]
          exact Nat.lt_of_lt_of_le (show _ < 11 by omega) (by decide)
        · rw [et, ← ez]
          unfold prs
          rw [List.map_append]
          rfl
    · rintro H3 ⟨s3, zs, hD3, ez⟩
      rw [List.length_map, List.take_length] at ez
      exact q D zs H3 (s1.trans s3) (back_none s1 hD) hD3 ez
end

section
/-! ### displays of pairs that are written out, at once -/
theorem pe_mono {X : Cx} {e : Expr} {t t' : TE} (h : PE X e t) (f : ∀ σ H Q, t' σ H Q → t σ H Q) : PE X e t' := ⟨fun pins s σ H Q I q => h.run pins s σ H Q I (f _ _ _ q)⟩
def litP (p : Int × Int) : TE := tTup (tCons (tC (.int p.1)) (tCons (tC (.int p.2)) tNil))
def litA : List (Int × Int) → TA
  | [] => tNil
  | p :: r => tCons (litP p) (litA r)
theorem lit_get : ∀ (ps : List (Int × Int)) {σ : L2.St} {H : Hp} {Q : List V → Hp → Prop}, (∀ zs H', Same H H' → TupZ H' zs → prs zs = ps → Q (refsZ zs) H') → litA ps σ H Q
  | [], _, H, _, q => q [] H (Same.refl H) (fun _ h => nomatch h) rfl
  | p :: r, σ, H, Q, q => by
    refine ⟨(by show 2 ≤ sizeLine; decide), fun T hT => ?_⟩
    refine lit_get r fun zs H' s h e => ?_
    have s1 := same_new (o := .tup [.int p.1, .int p.2]) hT
    refine q ((T, p) :: zs) H' (s1.trans s) (fun z hz => ?_) (by rw [← e]; rfl)
    rcases List.mem_cons.mp hz with rfl | hz
    · exact s _ _ upd_same
    · exact h z hz
/-- the reading of a list of pairs -/
def tLitP (ps : List (Int × Int)) : TE := fun _ H Q => ∀ L zs H', Same H H' → H L = none → PairsA H' L zs → prs zs = ps → Q (.ref L) H'
theorem lit_pairs {ps : List (Int × Int)} (h : ps.length ≤ 1000) (σ : L2.St) (H : Hp) (Q : VK) (q : tLitP ps σ H Q) : tLst (litA ps) σ H Q := by
  refine lit_get ps fun zs H1 s1 hz e => ⟨?_, fun L hL => ?_⟩
  · rw [show (refsZ zs).length = zs.length from List.length_map _, show zs.length = ps.length by rw [← e]; exact (List.length_map _).symm]
    exact Nat.le_trans h (by decide)
  · have s2 := same_new (o := .lst (refsZ zs)) hL
    exact q L zs _ (s1.trans s2) (back_none s1 hL) ⟨upd_same, hz.same s2⟩ e
def litL : List (List (Int × Int)) → TA
  | [] => tNil
  | ps :: r => tCons (tLst (litA ps)) (litL r)
/-- lists of pairs, each at its place -/
abbrev PZs := List (Addr × PZ)
def refsY (ys : PZs) : List V := ys.map fun y => V.ref y.1
def ListsA (H : Hp) (ys : PZs) : Prop := ∀ y ∈ ys, PairsA H y.1 y.2
theorem ListsA.same {H H' : Hp} {ys : PZs} (h : ListsA H ys) (s : Same H H') : ListsA H' ys := fun y hy => (h y hy).same s
theorem ListsA.dr {H H' : Hp} {s : Addr} {n : Nat} {ys : PZs} (h : ListsA H ys) (hs : Src H s n) (d : Dr s H H') : ListsA H' ys := fun y hy => (h y hy).dr hs d
theorem lit_getL : ∀ (pss : List (List (Int × Int))) {σ : L2.St} {H : Hp} {Q : List V → Hp → Prop}, (∀ ps ∈ pss, ps.length ≤ 1000) → (∀ ys H', Same H H' → ListsA H' ys → ys.map (fun y => prs y.2) = pss → Q (refsY ys) H') → litL pss σ H Q
  | [], _, H, _, _, q => q [] H (Same.refl H) (fun _ h => nomatch h) rfl
  | ps :: r, σ, H, Q, h, q => by
    show tLst (litA ps) σ H fun x H1 => litL r σ H1 fun xs H2 => Q (x :: xs) H2
    refine lit_pairs (h ps (.head _)) σ H _ fun L zs H1 s1 _ hp e => ?_
    refine lit_getL r (fun p hp => h p (.tail _ hp)) fun ys H2 s2 h2 e2 => ?_
    refine q ((L, zs) :: ys) H2 (s1.trans s2) (fun y hy => ?_) (by rw [List.map_cons, e2]; exact congrArg (· :: r) e)
    rcases List.mem_cons.mp hy with rfl | hy
    · exact hp.same s2
    · exact h2 y hy
/-- the reading of a list of lists of pairs -/
def tLitL (pss : List (List (Int × Int))) : TE := fun _ H Q => ∀ L ys H', Same H H' → H L = none → H' L = some (.lst (refsY ys)) → ListsA H' ys → (∀ y ∈ ys, y.1 ≠ L) → ys.map (fun y => prs y.2) = pss → Q (.ref L) H'
theorem lit_lists {pss : List (List (Int × Int))} (h : pss.length ≤ 1000) (h2 : ∀ ps ∈ pss, ps.length ≤ 1000) (σ : L2.St) (H : Hp) (Q : VK) (q : tLitL pss σ H Q) : tLst (litL pss) σ H Q := by
  refine lit_getL pss h2 fun ys H1 s1 hz e => ⟨?_, fun L hL => ?_⟩
  · rw [show (refsY ys).length = ys.length from List.length_map _, show ys.length = pss.length by rw [← e]; exact (List.length_map _).symm]
    exact Nat.le_trans h (by decide)
  · have s2 := same_new (o := .lst (refsY ys)) hL
    refine q L ys _ (s1.trans s2) (back_none s1 hL) upd_same (hz.same s2) (fun y hy z => ?_) e
    have := (hz y hy).1
    rw [z, hL] at this
    cases this
theorem PairsA.mut {H : Hp} {L l : Addr} {o : HO} {xs : List V} {zs : PZ} (h : PairsA H L zs) (hne : L ≠ l) (hl : H l = some (.lst xs)) : PairsA (upd H l o) L zs := ⟨by rw [upd_ne hne]; exact h.1, h.2.mut hl⟩
/-- a drawn one of lists of pairs -/
theorem refsY_at {ys : PZs} {x : V} (h : x ∈ refsY ys) : ∃ y ∈ ys, x = .ref y.1 := let ⟨y, hy, e⟩ := List.mem_map.mp h; ⟨y, hy, e.symm⟩
def litI : List Int → TA
  | [] => tNil
  | n :: r => tCons (tC (.int n)) (litI r)
theorem lit_int : ∀ (ns : List Int) {σ : L2.St} {H : Hp} {Q : List V → Hp → Prop}, Q (ns.map V.int) H → litI ns σ H Q
  | [], _, _, _, q => q
  | n :: r, σ, H, Q, q => lit_int r (Q := fun xs H2 => Q (V.int n :: xs) H2) q
def tLitN (ns : List Int) : TE := fun _ H Q => ∀ L H', Same H H' → H L = none → H' L = some (.lst (ns.map V.int)) → Q (.ref L) H'
theorem lit_ns {ns : List Int} (h : ns.length ≤ 1000) (σ : L2.St) (H : Hp) (Q : VK) (q : tLitN ns σ H Q) : tLst (litI ns) σ H Q := by
  refine lit_int ns ⟨?_, fun L hL => q L _ (same_new hL) hL upd_same⟩
  rw [List.length_map]
  exact Nat.le_trans h (by decide)
def litN : List (List Int) → TA
  | [] => tNil
  | ns :: r => tCons (tLst (litI ns)) (litN r)
abbrev NZs := List (Addr × List Int)
def refsN (ys : NZs) : List V := ys.map fun y => V.ref y.1
def IntsA (H : Hp) (ys : NZs) : Prop := ∀ y ∈ ys, H y.1 = some (.lst (y.2.map V.int))
theorem IntsA.same {H H' : Hp} {ys : NZs} (h : IntsA H ys) (s : Same H H') : IntsA H' ys := fun y hy => s _ _ (h y hy)
theorem lit_getN : ∀ (nss : List (List Int)) {σ : L2.St} {H : Hp} {Q : List V → Hp → Prop}, (∀ ns ∈ nss, ns.length ≤ 1000) → (∀ ys H', Same H H' → IntsA H' ys → (∀ y ∈ ys, H y.1 = none) → ys.map (·.2) = nss → Q (refsN ys) H') → litN nss σ H Q
  | [], _, H, _, _, q => q [] H (Same.refl H) (fun _ h => nomatch h) (fun _ h => nomatch h) rfl
  | ns :: r, σ, H, Q, h, q => by
    show tLst (litI ns) σ H fun x H1 => litN r σ H1 fun xs H2 => Q (x :: xs) H2
    refine lit_ns (h ns (.head _)) σ H _ fun L H1 s1 hL e1 => ?_
    refine lit_getN r (fun p hp => h p (.tail _ hp)) fun ys H2 s2 h2 f2 e2 => ?_
    refine q ((L, ns) :: ys) H2 (s1.trans s2) (fun y hy => ?_) (fun y hy => ?_) (by rw [List.map_cons, e2])
    · rcases List.mem_cons.mp hy with rfl | hy
      · exact s2 _ _ e1
      · exact h2 y hy
    · rcases List.mem_cons.mp hy with rfl | hy
      · exact hL
      · exact back_none s1 (f2 y hy)
/-- the reading of a list of lists of numbers -/
def tLitNs (nss : List (List Int)) : TE := fun _ H Q => ∀ L ys H', Same H H' → H L = none → H' L = some (.lst (refsN ys)) → IntsA H' ys → (∀ y ∈ ys, H y.1 = none) → ys.map (·.2) = nss → Q (.ref L) H'
theorem lit_nss {nss : List (List Int)} (h : nss.length ≤ 1000) (h2 : ∀ ns ∈ nss, ns.length ≤ 1000) (σ : L2.St) (H : Hp) (Q : VK) (q : tLitNs nss σ H Q) : tLst (litN nss) σ H Q := by
  refine lit_getN nss h2 fun ys H1 s1 hz f e => ⟨?_, fun L hL => ?_⟩
  · rw [show (refsN ys).length = ys.length from List.length_map _, show ys.length = nss.length by rw [← e]; exact (List.length_map _).symm]
    exact Nat.le_trans h (by decide)
  · have s2 := same_new (o := .lst (refsN ys)) hL
    exact q L ys _ (s1.trans s2) (back_none s1 hL) upd_same (hz.same s2) f e
theorem refsN_at {ys : NZs} {x : V} (h : x ∈ refsN ys) : ∃ y ∈ ys, x = .ref y.1 := let ⟨y, hy, e⟩ := List.mem_map.mp h; ⟨y, hy, e.symm⟩
end

section
variable {P : Program} {w : World} {K : PySem.W.Frag} {mg : Str → Option Value} {base : Heap}
/-- lamps of small periods, with a round of sixty beats at most -/
def OnesZ (zs : PZ) : Prop := (∃ R : Int, 0 < R ∧ R ≤ 60 ∧ ∀ z ∈ zs, z.2.1 ∣ R) ∧ ∀ z ∈ zs, 0 < z.2.1 ∧ z.2.1 ≤ 16 ∧ -16 ≤ z.2.2 ∧ z.2.2 < 16
theorem OnesZ.z {zs : PZ} (h : OnesZ zs) : OkZ zs := fun z hz => ⟨(h.2 z hz).1, by have := (h.2 z hz).2.1; omega⟩
def spOnes : Sp := fun vs H Q _ => ∃ (s : Addr) (n m : Nat), vs = [.ref s, .int m] ∧ Src H s n ∧ n < 500000 ∧ m ≤ 10 ∧
  ∀ F zs H', PairsA H' F zs → H F = none → zs.length ≤ m → OnesZ zs → Src H' s (n + 2 + 3 * m) → Dr s H H' → Q (.ref F) H'
end

section
variable {P : Program} {w : World} {K : PySem.W.Frag} {mg : Str → Option Value} {base : Heap}
def spLitO : Sp := fun vs H Q _ => ∃ (L : Addr) (t : Int) (zs : PZ), vs = [.ref L, .int t] ∧ PairsA H L zs ∧ OkZ zs ∧ zs.length ≤ 1000 ∧
  ∀ p H', Same H H' → H p = none → H' p = some (.lst ((lrow (prs zs) t).map V.int)) → Q (.ref p) H'
end

section
/-! ### a dict of pairs of numbers -/
def dkv (ps : List (Int × Int)) : List (Key × V) := ps.map fun p => (.inl p.1, .int p.2)
theorem merge_snoc (kvs more : List (Key × V)) (kv : Key × V) : mergeK kvs (more ++ [kv]) = putK (mergeK kvs more) kv.1 kv.2 := by
  unfold mergeK
  rw [List.foldl_append]
  rfl
theorem need_get : ∀ (os : List (Option Int)) (i : Nat), valV (mergeK [] (dkv (needL 0 os))) (.inl (i : Int)) = (os[i]?.join).map V.int := by
  intro os
  have key : ∀ (n : Nat) (os : List (Option Int)), os.length = n → ∀ i : Nat, valV (mergeK [] (dkv (needL 0 os))) (.inl (i : Int)) = (os[i]?.join).map V.int := by
    intro n
    induction n with
    | zero =>
      intro os h i
      rw [List.length_eq_zero_iff.mp h]
      rfl
    | succ n ih =>
      intro os h i
      rcases List.eq_nil_or_concat os with e | ⟨os', o, e⟩
      · rw [e] at h
        cases h
      · rw [List.concat_eq_append] at e
        subst e
        rw [List.length_append] at h
        have h' : os'.length = n := by have : [o].length = 1 := rfl; omega
        have ih := ih os' h' i
        rw [need_snoc]
        cases o with
        | none =>
          show valV (mergeK [] (dkv (needL 0 os' ++ []))) _ = _
          rw [List.append_nil, ih]
          by_cases hi : i < os'.length
          · rw [List.getElem?_append_left hi]
          · rw [List.getElem?_append_right (by omega), List.getElem?_eq_none (by omega)]
            cases hj : i - os'.length with
            | zero => rfl
            | succ j => rfl
        | some b =>
          show valV (mergeK [] (dkv (needL 0 os' ++ [(((0 + os'.length : Nat) : Int), b)]))) _ = _
          unfold dkv at ih ⊢
          rw [List.map_append, List.map_cons, List.map_nil, merge_snoc, valV_put, ih]
          by_cases hi : i = os'.length
          · subst hi
            rw [if_pos (by rw [Nat.zero_add]), List.getElem?_append_right (Nat.le_refl _), Nat.sub_self]
            rfl
          · rw [if_neg (fun z => hi (by injection z with z; omega))]
            by_cases hlt : i < os'.length
            · rw [List.getElem?_append_left hlt]
            · rw [List.getElem?_append_right (by omega), List.getElem?_eq_none (by omega)]
              have : i - os'.length = (i - os'.length - 1) + 1 := by omega
              rw [this]
              rfl
  exact key os.length os rfl
end

section
variable {P : Program} {w : World} {K : PySem.W.Frag} {mg : Str → Option Value} {base : Heap}
/-! ### two lights -/
def spRows (C CG : Addr) : Sp := fun vs H Q _ => ∃ (a g : Addr) (f : Int) (k1 k : Nat) (l : Int × Int) (ls : List (Int × Int)), vs = [.ref a, .ref g, .int f] ∧ OAt C H (.ref a) k1 (some l) ∧ LightAt C CG H g k ls ∧ ls.length ≤ 10 ∧ k1 ≤ 8000 ∧ k ≤ 8000 ∧
  ∀ R H', Same H H' → RowsAt H H' R (2 ^ ls.length) (fun j => lrow ls (l.2 + (f + j) * l.1)) → Q (.ref R) H'
/-- lists of numbers -/
def PapersAt (H : Hp) (p : Addr) (pss : List (List Int)) : Prop := ∃ as : List Addr, H p = some (.lst (as.map V.ref)) ∧ as.length = pss.length ∧ ∀ (j : Nat) a ns, as[j]? = some a → pss[j]? = some ns → H a = some (.lst (ns.map V.int))
theorem PapersAt.same {H H' : Hp} {p : Addr} {pss : List (List Int)} (h : PapersAt H p pss) (s : Same H H') : PapersAt H' p pss := let ⟨as, a, b, c⟩ := h; ⟨as, s _ _ a, b, fun j x ns e1 e2 => s _ _ (c j x ns e1 e2)⟩
/-- what stands in a paper for one lamp -/
def paperL (ls : List (Int × Int)) (l : Int × Int) : List Int := (List.range (2 ^ ls.length)).map fun j => (lrow ls (l.2 + (0 + (j : Nat)) * l.1)).headD 0
def spPapers (C CG : Addr) : Sp := fun vs H Q _ => ∃ (g h : Addr) (k1 k2 : Nat) (ls1 ls2 : List (Int × Int)), vs = [.ref g, .ref h] ∧ LightAt C CG H g k1 ls1 ∧ LightAt C CG H h k2 ls2 ∧ ls1.length ≤ 10 ∧ ls2.length ≤ 10 ∧ k1 ≤ 8000 ∧ k2 ≤ 8000 ∧ (∀ x, Bright ls1 x → Bright ls2 x) ∧
  ∀ p H', Same H H' → H p = none → PapersAt H' p (ls1.map (paperL ls2)) → Q (.ref p) H'
theorem fst_lt {l : Int × Int} {t : Int} (hl : 0 < l.1) (l1 : l.1 < 2 ^ 400) (b0 : 0 ≤ l.2) (b1 : l.2 < l.1) (t0 : -(2 ^ 400) < t) (t1 : t < 2 ^ 400) : -(2 ^ 402) < fstN l t ∧ fstN l t < 2 ^ 402 := by
  have h1 := fst_at hl t
  have h2 := Int.emod_nonneg (l.2 - t) (show l.1 ≠ 0 by omega)
  have h3 := Int.emod_lt_of_pos (l.2 - t) hl
  generalize fstN l t = F at *
  generalize (l.2 - t) % l.1 = R at *
  constructor
  · by_cases h : F ≤ -(2 ^ 402)
    · have : F * l.1 ≤ F * 1 := Int.mul_le_mul_of_nonpos_left (by omega) (by omega)
      omega
    · omega
  · by_cases h : 2 ^ 402 ≤ F
    · have : F * 1 ≤ F * l.1 := Int.mul_le_mul_of_nonneg_left (by omega) (by omega)
      omega
    · omega
def spFirstBeats (C CG : Addr) : Sp := fun vs H Q _ => ∃ (g h : Addr) (t : Int) (k1 k2 : Nat) (ls1 ls2 : List (Int × Int)), vs = [.ref g, .ref h, .int t] ∧ LightAt C CG H g k1 ls1 ∧ LightAt C CG H h k2 ls2 ∧ ls1.length ≤ 10 ∧ ls2.length ≤ 10 ∧ k1 ≤ 400 ∧ k2 ≤ 8000 ∧ -(2 ^ 400) < t ∧ t < 2 ^ 400 ∧
  ∀ p bs H', Same H H' → H p = none → H' p = some (.lst (bs.map V.int)) → bs.length ≤ 10 → OutsIs bs ls1 ls2 t → Q (.ref p) H'
end

section
variable {P : Program} {w : World} {K : PySem.W.Frag} {mg : Str → Option Value} {base : Heap}
/-! ### may_go -/
def keptL (ns : List Int) (ls : List (Int × Int)) : List (Int × Int) := (keptN ns ls).map (·.2)
def goP (ls : List (Int × Int)) (ns : List Int) (n : Int) : List Int := (List.range (2 ^ (keptN ns ls).length)).map fun j => (rowOf (keptN ns ls) ((ls.getD n.toNat (1, 0)).2 + (j : Nat) * (ls.getD n.toNat (1, 0)).1)).headD 0
/-- what may_go tells -/
def GoTold (H : Hp) (p : Addr) (ls : List (Int × Int)) (ns : List Int) : Prop :=
  (∃ b, H p = some (.tup [.str "dark", .int b]) ∧ FirstO ls (keptL ns ls) 0 (some b)) ∨
  (∃ (q : Addr) (os : List Int), H p = some (.tup [.str "go", .ref q]) ∧ os.Perm ns ∧ os.Pairwise (· ≤ ·) ∧ PapersAt H q (os.map (goP ls ns)) ∧ FirstO ls (keptL ns ls) 0 none)
theorem out_none {l : Int × Int} {ks : List (Int × Int)} {x : Int} (h : OutIs l ks 0 none) (d : l.1 ∣ x - l.2) : Bright ks x := by
  obtain ⟨n, hn⟩ := d
  have := h n
  rwa [show l.2 + n * l.1 = x by rw [Int.mul_comm]; omega] at this
/-- of each lamp that goes the first beat that is left dark: together the first beat lost -/
theorem first_lost {ls : List (Int × Int)} {ns : List Int} {bs : List (Option Int)} {os : List Int} (pm : ∀ n, n ∈ os ↔ n ∈ ns) (lb : bs.length = os.length)
    (h : ∀ (j : Nat) o n, bs[j]? = some o → os[j]? = some n → 0 ≤ n ∧ ∃ l, ls[n.toNat]? = some l ∧ OutIs l (keptL ns ls) 0 o) :
    (bs.filterMap id = [] → FirstO ls (keptL ns ls) 0 none) ∧ ∀ m ∈ bs.filterMap id, (∀ y ∈ bs.filterMap id, m ≤ y) → FirstO ls (keptL ns ls) 0 (some m) := by
  have find : ∀ x : Int, Bright ls x → ¬ Bright (keptL ns ls) x → ∃ (j : Nat) (n : Int) (l : Int × Int), os[j]? = some n ∧ ls[n.toNat]? = some l ∧ l.1 ∣ x - l.2 := fun x ⟨l, hl, d⟩ hx => by
    obtain ⟨i, hi⟩ := List.getElem?_of_mem hl
    by_cases hm : (i : Int) ∈ ns
    · obtain ⟨j, hj⟩ := List.getElem?_of_mem ((pm _).mpr hm)
      exact ⟨j, i, l, hj, by rw [Int.toNat_natCast]; exact hi, d⟩
    · exact absurd (kept_bright.mpr ⟨i, hm, l, hi, d⟩) hx
  have val : ∀ {j : Nat} {n : Int} {l : Int × Int}, os[j]? = some n → ls[n.toNat]? = some l → ∃ o, bs[j]? = some o ∧ OutIs l (keptL ns ls) 0 o := fun {j n l} e1 e2 => by
    obtain ⟨o, ho⟩ : ∃ o, bs[j]? = some o := ⟨_, List.getElem?_eq_getElem (by rw [lb]; exact (List.getElem?_eq_some_iff.mp e1).1)⟩
    obtain ⟨_, l', e3, h3⟩ := h j o n ho e1
    rw [e2] at e3
    cases e3
    exact ⟨o, ho, h3⟩
  constructor
  · intro e x b
    refine Classical.byContradiction fun nb => ?_
    obtain ⟨j, n, l, e1, e2, d⟩ := find x b nb
    obtain ⟨o, ho, h3⟩ := val e1 e2
    cases o with
    | none => exact nb (out_none h3 d)
    | some c =>
      have : c ∈ bs.filterMap id := List.mem_filterMap.mpr ⟨some c, List.mem_of_getElem? ho, rfl⟩
      rw [e] at this
      cases this
  · intro m hm hle
    obtain ⟨o, ho, eo⟩ := List.mem_filterMap.mp hm
    obtain rfl : o = some m := eo
    obtain ⟨j, hj⟩ := List.getElem?_of_mem ho
    obtain ⟨n, hn⟩ : ∃ n, os[j]? = some n := ⟨_, List.getElem?_eq_getElem (by rw [← lb]; exact (List.getElem?_eq_some_iff.mp hj).1)⟩
    obtain ⟨_, l, el, m0, md, mk, _⟩ := h j _ n hj hn
    refine ⟨m0, ⟨l, List.mem_of_getElem? el, md⟩, mk, fun x x0 xm b => Classical.byContradiction fun nb => ?_⟩
    obtain ⟨j2, n2, l2, e1, e2, d⟩ := find x b nb
    obtain ⟨o, ho, h3⟩ := val e1 e2
    cases o with
    | none => exact nb (out_none h3 d)
    | some c =>
      have h4 := h3.2.2.2 x x0 d nb
      have := hle c (List.mem_filterMap.mpr ⟨some c, List.mem_of_getElem? ho, rfl⟩)
      omega
def spMayGo (C CG : Addr) : Sp := fun vs H Q _ => ∃ (g N : Addr) (k : Nat) (ls : List (Int × Int)) (ns : List Int), vs = [.ref g, .ref N] ∧ LightAt C CG H g k ls ∧ ls.length ≤ 10 ∧ k ≤ 8000 ∧ NumQ H N ns ∧ ns.length ≤ 1000 ∧ ns.Nodup ∧ (∀ n ∈ ns, 0 ≤ n ∧ n < ls.length) ∧
  ∀ p H', Same H H' → H p = none → GoTold H' p ls ns → Q (.ref p) H'
theorem ok_may_go (T : Top K mg) : FnOk P w K mg base CX0 7 T.f_may_go T.d_may_go ["light", "numbers"] (spMayGo T.C_Lamp T.C_Light) := by
  have G_check_numbers := ok_check_numbers (P := P) (w := w) (base := base) T
  have G_first_left := ok_first_left (P := P) (w := w) (base := base) T
  have G_going := ok_going (P := P) (w := w) (base := base) T
  have G_least_paper := ok_least_paper (P := P) (w := w) (base := base) T
  refine T.F_may_go.ok sc_may_go (fun vs H Q E h => ?_) (fun cdv A outer s H vs Q E hr h => ?_)
  · obtain ⟨g, N, k, ls, ns, rfl, _⟩ := h; rfl
  · obtain ⟨g, N, k, ls, ns, rfl, hg, hn, hk, hN, lns, nd, hb, q⟩ := h
    refine ⟨_, (pss_cons (ps_expr (pe_call G_check_numbers (hr.mono (by decide)) rfl T.g_check_numbers T.F_check_numbers.kp T.b_check_numbers .nil pass0 (pa_cons (pv 0) (pa_cons (pv 1) pa_nil))))
      (pss_cons (ps_set (i := 2) sc_may_go.nd rfl (Or.inl rfl) (pe_call G_going (hr.mono (by decide)) rfl T.g_going T.F_going.kp T.b_going .nil pass0 (pa_cons (pv 0) (pa_cons (pv 1) pa_nil))))
      (pss_cons (ps_setLc (i := 3) (own := [("lamp", 5), ("rows", 6)]) (g := gTup K 2 (gCons (gName 5) (gCons (gName 6) gNil))) (by rfl) sc_may_go.nd rfl rfl (sw_true rfl rfl rfl (by decide +kernel)) (pi_list (pv 2)) (blkOk_by (own := [("lamp", 5), ("rows", 6)]) (N := ["light", "numbers", "going", "beats", "lost", "lamp", "rows", "beat"]) (sc := defScope s_may_go) (by decide +kernel)) (fun _ _ _ _ _ => by exact (pg_tupB (K := K) rfl (by rfl) (pgs_cons (pg_name (i := 5) sc_may_go.nd rfl (Or.inl rfl)) (pgs_cons (pg_name (i := 6) sc_may_go.nd rfl (Or.inl rfl)) pgs_nil)))) (fun _ _ _ _ _ => by exact (pts_nil)) (fun _ _ _ _ _ => by exact (pe_call G_first_left (hr.mono (by decide)) rfl T.g_first_left T.F_first_left.kp T.b_first_left .nil pass0 (pa_cons (pv 5) (pa_cons (pv 6) pa_nil)))))
      (pss_cons (ps_setLc (i := 4) (own := [("beat", 7)]) (g := gName 7) (tt := _) (by rfl) sc_may_go.nd rfl rfl (sw_true rfl rfl rfl (by decide +kernel)) (pi_list (pv 3)) (blkOk_by (own := [("beat", 7)]) (N := ["light", "numbers", "going", "beats", "lost", "lamp", "rows", "beat"]) (sc := defScope s_may_go) (by decide +kernel)) (fun _ _ _ _ _ => by exact (pg_name (i := 7) sc_may_go.nd rfl (Or.inl rfl))) (fun _ _ _ _ _ => by exact (pts_one (pt_cmpR op_notN (pv 7) pe_non (nomark _)))) (fun _ _ _ _ _ => by exact ((pv 7))))
      (pss_cons (ps_if (pt_truth (pv 4) (by intro _; rfl)) (pss_one (ps_ret (pe_tup (pa_cons pe_str (pa_cons (pe_callB (cr_min rfl) (by rfl) T.n_min (by decide +kernel) (pa_cons (pv 4) pa_nil)) pa_nil))))) pss_nil)
      (pss_one (ps_ret (pe_tup (pa_cons pe_str (pa_cons (pe_lc (own := [("lamp", 5), ("rows", 6)]) (g := gTup K 2 (gCons (gName 5) (gCons (gName 6) gNil))) (by rfl) sc_may_go.nd (pi_list (pv 2)) (blkOk_by (own := [("lamp", 5), ("rows", 6)]) (N := ["light", "numbers", "going", "beats", "lost", "lamp", "rows", "beat"]) (sc := defScope s_may_go) (by decide +kernel)) (fun _ _ _ _ _ => by exact (pg_tupB (K := K) rfl (by rfl) (pgs_cons (pg_name (i := 5) sc_may_go.nd rfl (Or.inl rfl)) (pgs_cons (pg_name (i := 6) sc_may_go.nd rfl (Or.inl rfl)) pgs_nil)))) (fun _ _ _ _ _ => by exact (pts_nil)) (fun _ _ _ _ _ => by exact (pe_call G_least_paper (hr.mono (by decide)) rfl T.g_least_paper T.F_least_paper.kp T.b_least_paper .nil pass0 (pa_cons (pv 6) pa_nil)))) pa_nil)))))))))), ?_⟩
    refine ⟨_, rfl, _, rfl, g, N, k, ls, ns, rfl, hg, hn, hN, nd, hb, fun H1 s1 => ?_⟩
    replace hg := hg.same s1
    replace hN := hN.same s1
    refine ⟨_, rfl, _, rfl, g, N, k, ls, ns, rfl, hg, hn, hk, hN, lns, hb, fun p os ts H2 s2 hp hperm hsort hp2 hG => ?_⟩
    have lo : os.length ≤ 1000 := by rw [hperm.length_eq]; exact lns
    have lt : ts.length = os.length := hG.1
    have lk := kept_len ns ls
    have w1 : (2 : Nat) ^ (keptN ns ls).length ≤ 2 ^ 10 := Nat.pow_le_pow_right (by decide) (by omega)
    have S2 := s1.trans s2
    have posK : ∀ x ∈ keptN ns ls, 0 < x.2.1 := fun x hx => by
      obtain ⟨_, j2, _, e2⟩ := kept_mem.mp hx
      exact hg.pos _ (List.mem_of_getElem? e2)
    have at2 : ∀ {j : Nat} {t : Addr}, ts[j]? = some t → ∃ n, os[j]? = some n := fun e => ⟨_, List.getElem?_eq_getElem (by rw [← lt]; exact (List.getElem?_eq_some_iff.mp e).1)⟩
    refine ⟨_, rfl, p, rfl, ⟨_, SqL.of hp2⟩, fun D hD => lc_list (K := K) (a := p) (xs := ts.map V.ref) (fun i H' => Same H2 H' ∧ ∃ bs : List (Option Int), H' D = some (.lst (bs.map oV)) ∧ bs.length = i ∧ ∀ (j : Nat) o n, bs[j]? = some o → os[j]? = some n → 0 ≤ n ∧ ∃ l, ls[n.toNat]? = some l ∧ OutIs l (keptL ns ls) 0 o)
      ⟨same_new hD, [], upd_same, rfl, fun j o n h => by cases h⟩ (fun i H' _ ⟨s3, _⟩ => SqL.of (s3 _ _ hp2)) (fun i x H3 hi ⟨s3, bs, e3, lb, hB⟩ => ?_) (fun H3 ⟨s3, bs, e3, lb, hB⟩ => ?_)⟩
    · obtain ⟨t, et, rfl⟩ := get_map hi
      obtain ⟨n, en⟩ := at2 et
      obtain ⟨a, R, l, c1, c2, c3, c4⟩ := hG.2 i t n et en
      obtain ⟨q0, q1, q2⟩ := c3.ok _ rfl
      refine ⟨t, _, rfl, SqT.of (s3 _ _ c1), rfl, _, _, rfl, _, _, rfl, rfl, rfl, ?_⟩
      refine ⟨_, rfl, _, rfl, a, R, k, _, l, _, rfl, c3.same s3, (c4.same s3).r, hk, by omega, fun H4 s4 => ⟨bs.map oV, s4 _ _ e3, ?_, same_at (s3.trans s4) hD, _, by rw [upd_same]; exact congrArg (fun x => some (HO.lst x)) (List.map_append (l₁ := bs) (l₂ := [_])).symm, by rw [List.length_append, lb]; rfl, fun j o n' ho hn' => ?_⟩⟩
      · rw [List.length_map, lb]
        exact Nat.lt_of_lt_of_le (show i < 1001 by have := (List.getElem?_eq_some_iff.mp et).1; omega) (by decide)
      · rcases snoc_at ho with ⟨_, h⟩ | ⟨h, rfl⟩
        · exact hB j o n' h hn'
        · obtain rfl : j = i := by omega
          rw [en] at hn'
          cases hn'
          exact ⟨(hb n (hperm.mem_iff.mp (List.mem_of_getElem? en))).1, l, c2, alone_is q1 q2 posK⟩
    · rw [List.length_map] at lb
      obtain ⟨f1, f2⟩ := first_lost (ls := ls) (ns := ns) (bs := bs) (os := os) (fun n => hperm.mem_iff) (by omega) hB
      refine ⟨_, rfl, D, rfl, ⟨_, SqL.of e3⟩, fun B hB' => lc_list (K := K) (a := D) (xs := bs.map oV) (fun i H' => Same H3 H' ∧ H' B = some (.lst (((bs.take i).filterMap id).map V.int))) ⟨same_new hB', upd_same⟩ (fun i H' _ ⟨s4, _⟩ => SqL.of (s4 _ _ e3)) (fun i x H4 hi ⟨s4, e4⟩ => ?_) (fun H4 ⟨s4, e4⟩ => ?_)⟩
      · obtain ⟨o, ho, rfl⟩ := get_map hi
        have et : (bs.take (i + 1)).filterMap id = (bs.take i).filterMap id ++ o.toList := by
          rw [List.take_succ, ho, List.filterMap_append]
          cases o <;> rfl
        refine ⟨rfl, ?_⟩
        refine ⟨_, rfl, rfl, _, rfl, ?_⟩
        cases o with
        | none =>
          refine iteF ⟨s4, ?_⟩
          rw [e4, et]
          simp
        | some b =>
          refine iteT ⟨_, rfl, _, e4, ?_, same_at s4 hB', ?_⟩
          · have h1 := List.length_filterMap_le id (bs.take i)
            have h2 := List.length_take_le' i bs
            rw [List.length_map]
            exact Nat.lt_of_lt_of_le (show _ < 1002 by omega) (by decide)
          · rw [upd_same, et, List.map_append]
            rfl
      · rw [List.length_map, List.take_length] at e4
        refine ⟨_, rfl, !((bs.filterMap id).map V.int).isEmpty, .inl ⟨_, SqL.of e4, rfl⟩, ?_⟩
        cases eb : bs.filterMap id with
        | cons z zs =>
          rw [eb] at e4 f2
          refine iteT ⟨_, rfl, B, z :: zs, rfl, SqL.of e4, Nat.succ_pos _, fun m hm hle => ⟨(by show 2 ≤ sizeLine; decide), fun p2 hp2 => ?_⟩⟩
          have s5 := same_new (o := .tup [.str "dark", .int m]) hp2
          have S5 := S2.trans (s3.trans s4)
          exact q p2 _ (S5.trans s5) (back_none S5 hp2) (.inl ⟨m, upd_same, f2 m hm hle⟩)
        | nil =>
          refine iteF ?_
          have allN : ∀ (j : Nat) o, bs[j]? = some o → o = none := fun j o ho => by
            cases o with
            | none => rfl
            | some c =>
              have : c ∈ bs.filterMap id := List.mem_filterMap.mpr ⟨some c, List.mem_of_getElem? ho, rfl⟩
              rw [eb] at this
              cases this
          have s34 := s3.trans s4
          refine ⟨_, rfl, p, rfl, ⟨_, SqL.of (s34 _ _ hp2)⟩, fun E' hE => lc_list (K := K) (a := p) (xs := ts.map V.ref) (fun i H' => Same H4 H' ∧ PapersAt H' E' ((os.map (goP ls ns)).take i)) ⟨same_new hE, [], upd_same, rfl, fun j a ns h => by cases h⟩ (fun i H' _ ⟨s5, _⟩ => SqL.of (s5 _ _ (s34 _ _ hp2))) (fun i x H5 hi ⟨s5, as, h1, h2, h3⟩ => ?_) (fun H5 ⟨s5, hpp⟩ => ?_)⟩
          · obtain ⟨t, et, rfl⟩ := get_map hi
            obtain ⟨n, en⟩ := at2 et
            obtain ⟨a, R, l, c1, c2, c3, c4⟩ := hG.2 i t n et en
            obtain ⟨o, ho⟩ : ∃ o, bs[i]? = some o := ⟨_, List.getElem?_eq_getElem (by rw [lb]; exact (List.getElem?_eq_some_iff.mp et).1)⟩
            obtain ⟨_, l', el', hO⟩ := hB i o n ho en
            rw [c2] at el'
            cases el'
            obtain rfl := allN i o ho
            have s35 := s34.trans s5
            refine ⟨t, _, rfl, SqT.of (s35 _ _ c1), rfl, _, _, rfl, _, _, rfl, rfl, rfl, ?_⟩
            refine ⟨_, rfl, R, _, _, rfl, (c4.same s35).r, by omega, fun j hj z => rowOf_dark.mp z (hO j), fun q2 H6 s6 nq eq => ?_⟩
            have h5 := s6 _ _ h1
            have nD : q2 ≠ E' := fun z => by rw [z, h1] at nq; cases nq
            have il : i < os.length := (List.getElem?_eq_some_iff.mp en).1
            refine ⟨as.map V.ref, h5, ?_, same_at (s5.trans s6) hE, as ++ [q2], ?_, ?_, fun j a' ms e1 e2 => ?_⟩
            · rw [List.length_map, h2, List.length_take, List.length_map]
              exact Nat.lt_of_lt_of_le (show min i os.length < 1001 by omega) (by decide)
            · rw [upd_same, List.map_append]
              rfl
            · rw [List.length_append, h2, List.length_take, List.length_take, List.length_map]
              show min i _ + 1 = min (i + 1) _
              omega
            · have el2 : (os.map (goP ls ns))[i]? = some (goP ls ns n) := by rw [List.getElem?_map, en]; rfl
              have la : as.length = i := by rw [h2, List.length_take, List.length_map]; omega
              rw [List.take_succ, el2] at e2
              rcases snoc_at e1 with ⟨g1, h⟩ | ⟨g1, rfl⟩ <;> rcases snoc_at e2 with ⟨g2, h'⟩ | ⟨g2, rfl⟩
              · have := h3 j a' ms h h'
                have nj : a' ≠ E' := fun z => by
                  rw [z, h1] at this
                  injection this with this
                  injection this with this
                  cases as with
                  | nil => cases h
                  | cons x xs =>
                    cases ms with
                    | nil => cases this
                    | cons y ys => cases this
                rw [upd_ne nj]
                exact s6 _ _ this
              · rw [List.length_take, List.length_map] at g2
                omega
              · rw [List.length_take, List.length_map] at g2
                omega
              · rw [upd_ne nD, eq]
                unfold goP
                rw [List.getD_eq_getElem?_getD, c2]
                rfl
          · rw [List.length_map, lt, ← List.length_map (f := goP ls ns), List.take_length] at hpp
            refine ⟨(by show 2 ≤ sizeLine; decide), fun p2 hp2 => ?_⟩
            have s6 := same_new (o := .tup [.str "go", .ref E']) hp2
            have S5 := S2.trans (s34.trans s5)
            exact q p2 _ (S5.trans s6) (back_none S5 hp2) (.inr ⟨E', os, upd_same, hperm, hsort, hpp.same s6, f1 eb⟩)
end

section
variable {P : Program} {w : World} {K : PySem.W.Frag} {mg : Str → Option Value} {base : Heap}
/-! ### what the laws of idle lamps share -/
def spCommonI : Sp := fun vs H Q _ => ∃ a b : Int, vs = [.int a, .int b] ∧ 0 ≤ a ∧ 0 ≤ b ∧ Q (.int (Int.gcd a b : Nat)) H
theorem ok_l_common (T : Top K mg) : FnOk P w K mg base CX0 3 T.f_l_common T.d_l_common ["_law_one_here", "_law_other"] spCommonI := by
  have G_Lamp_eq := ok_Lamp_eq (P := P) (w := w) (base := base) T
  refine T.F_l_common.ok sc_l_common (fun vs H Q E h => ?_) (fun cdv A outer s H vs Q E hr h => ?_)
  · obtain ⟨a, b, rfl, _⟩ := h; rfl
  · obtain ⟨a, b, rfl, a0, b0, q⟩ := h
    refine ⟨_, (pss_cons (ps_while PassesOwn.never (pt_cmpR op_ne (pv 1) pe_int (nomark _)) (pss_one (ps_par (i := 0) (j := 1) (by rfl) sc_l_common.nd rfl rfl (by decide) rfl rfl (pa_cons (pv 1) (pa_cons (pe_op op_modN (pv 0) (pv 1)) pa_nil)) (by rfl))))
      (pss_one (ps_ret (pv 0)))), ?_⟩
    refine while_by (fun σ H' => ∃ x y : Int, σ = [some (.int x), some (.int y)] ∧ Int.gcd x y = Int.gcd a b ∧ 0 ≤ x ∧ 0 ≤ y ∧ H' = H)
      (fun σ _ => match σ with | [_, some (.int y)] => y.toNat | _ => 0) ⟨a, b, rfl, rfl, a0, b0, rfl⟩ ?_
      (fun σ H Q Q' hq ⟨v, hv, hs, k, e, h⟩ => ⟨v, hv, hs, k, e, hq _ _ h⟩)
    rintro σ H' ⟨x, y, rfl, hg, x0, y0, rfl⟩
    refine ⟨_, rfl, rfl, !decide (y = 0), ?_, ?_⟩
    · rw [dec_int]
    by_cases hy : y = 0
    · rw [decide_eq_true hy]
      refine iteF ⟨_, rfl, ?_⟩
      rw [hy, Int.gcd_zero_right] at hg
      show Q (V.int x) H'
      rw [show x = ((Int.gcd a b : Nat) : Int) by omega]
      exact q
    · rw [decide_eq_false hy]
      refine iteT ⟨_, rfl, _, rfl, _, rfl, _, _, rfl, rfl, hy, _, _, rfl, ⟨y, x.fmod y, rfl, ?_, y0, fm0 (by omega), rfl⟩, ?_⟩
      · rw [← hg, fmod_pos (by omega), show x % y = x - y * (x / y) by have := Int.emod_add_mul_ediv x y; omega, Int.gcd_sub_mul_left_right, Int.gcd_comm]
      · show (x.fmod y).toNat < y.toNat
        have := fm0 (a := x) (b := y) (by omega)
        have := fm1 (a := x) (b := y) (by omega)
        omega
theorem perm_pop {α : Type} : ∀ {xs : List α} {k : Nat} {x : α}, xs[k]? = some x → (x :: xs.eraseIdx k).Perm xs
  | y :: ys, 0, x, h => by cases h; exact List.Perm.refl _
  | y :: ys, k + 1, x, h => (List.Perm.swap y x _).trans ((perm_pop (xs := ys) (k := k) h).cons y)
theorem erase_len {α : Type} {xs : List α} {k : Nat} (h : k < xs.length) : (xs.eraseIdx k).length = xs.length - 1 := List.length_eraseIdx_of_lt h
theorem seq_nat {k n : Nat} (h : k < n) : seqIndex? (k : Int) n = some k := by
  have h1 : ¬ ((k : Int) < 0) := by omega
  have h2 : (k : Int) < n := by omega
  unfold seqIndex?
  simp [h1, h2]
theorem perm_back {α β : Type} {f : α → β} {ys : List β} {xs : List α} (h : ys.Perm (xs.map f)) : ∃ ms : List α, ms.Perm xs ∧ ms.map f = ys := by
  generalize e : xs.map f = zs at h
  induction h generalizing xs with
  | nil => exact ⟨[], by rw [List.map_eq_nil_iff.mp e], rfl⟩
  | cons x p ih =>
    obtain ⟨a, as, rfl, rfl, e2⟩ := List.map_eq_cons_iff.mp e
    obtain ⟨ms, h1, h2⟩ := ih e2
    exact ⟨a :: ms, h1.cons a, by rw [List.map_cons, h2]⟩
  | swap x y l =>
    obtain ⟨a, as, rfl, rfl, e2⟩ := List.map_eq_cons_iff.mp e
    obtain ⟨b, bs, rfl, rfl, rfl⟩ := List.map_eq_cons_iff.mp e2
    exact ⟨b :: a :: bs, List.Perm.swap .., rfl⟩
  | trans p1 p2 ih1 ih2 =>
    obtain ⟨ms, h1, rfl⟩ := ih2 e
    obtain ⟨ns, h3, h4⟩ := ih1 rfl
    exact ⟨ns, h3.trans h1, h4⟩
/-- things of which a list may be held against the empty one -/
structure MixG (K : PySem.W.Frag) (G : Hp → List V → Prop) : Prop where
  nil : ∀ {H : Hp} {L l0 : Addr} {xs : List V} {Q : VK}, G H xs → H L = some (.lst xs) → H l0 = some (.lst []) → Q (.bl (!xs.isEmpty)) H → rNeD K (.ref L) (.ref l0) H Q
  same : ∀ {H H' : Hp} {xs : List V}, G H xs → Same H H' → G H' xs
  dr : ∀ {H H' : Hp} {xs : List V} {s : Addr} {n : Nat}, G H xs → Src H s n → Dr s H H' → G H' xs
  mt : ∀ {H : Hp} {xs ys zs : List V} {l : Addr}, G H xs → H l = some (.lst ys) → G (upd H l (.lst zs)) xs
  sub : ∀ {H : Hp} {xs ys : List V}, G H xs → (∀ y ∈ ys, y ∈ xs) → G H ys
theorem mix_ints : MixG K fun _ xs => ∃ ns : List Int, xs = ns.map V.int := {
  nil := fun {H L l0 xs Q} ⟨ns, e⟩ h h0 q => by
    subst e
    refine ⟨.list (ns.map PyData.int), .list [], dp_ints h, .lst (SqL.of h0) .nil, (okD_ints ns).sh (by decide), (okD_list (n := 0) (ds := []) (fun _ hd => by cases hd)).sh (by decide), ?_⟩
    cases ns with
    | nil => exact q
    | cons z zs => exact q
  same := fun h _ => h
  dr := fun h _ _ => h
  mt := fun h _ => h
  sub := fun {H xs ys} ⟨ns, e⟩ h => by
    subst e
    refine ⟨ys.map fun v => match v with | .int z => z | _ => 0, ?_⟩
    rw [List.map_map]
    refine (List.map_id ys).symm.trans (List.map_congr_left fun y hy => ?_)
    obtain ⟨z, _, rfl⟩ := List.mem_map.mp (h y hy)
    rfl }
theorem mix_pairs : MixG K fun H xs => ∃ zs : PZ, xs = refsZ zs ∧ TupZ H zs := {
  nil := fun {H L l0 xs Q} ⟨zs, e, t⟩ h h0 q => by
    subst e
    refine ⟨dPairs zs, .list [], dp_pairs ⟨h, t⟩, .lst (SqL.of h0) .nil, (okD_pairs zs).sh (by decide), (okD_list (n := 0) (ds := []) (fun _ hd => by cases hd)).sh (by decide), ?_⟩
    rw [eqv_pairs_nil]
    cases zs with
    | nil => exact q
    | cons z zs => exact q
  same := fun ⟨zs, e, t⟩ s => ⟨zs, e, t.same s⟩
  dr := fun ⟨zs, e, t⟩ hs d => ⟨zs, e, t.dr hs d⟩
  mt := fun ⟨zs, e, t⟩ h => ⟨zs, e, t.mut h⟩
  sub := fun {H xs ys} ⟨zs, e, t⟩ h => by
    subst e
    have key : ∀ ys : List V, (∀ y ∈ ys, y ∈ refsZ zs) → ∃ ws : PZ, ys = refsZ ws ∧ TupZ H ws := by
      intro ys
      induction ys with
      | nil => exact fun _ => ⟨[], rfl, fun _ h => nomatch h⟩
      | cons y ys ih =>
        intro h
        obtain ⟨ws, e, t2⟩ := ih fun y hy => h y (List.mem_cons_of_mem _ hy)
        obtain ⟨z, hz, rfl⟩ := List.mem_map.mp (h y List.mem_cons_self)
        exact ⟨z :: ws, by rw [e]; rfl, fun w hw => (List.mem_cons.mp hw).elim (fun e => by rw [e]; exact t z hz) (t2 w)⟩
    exact key ys h }
def spMixUp (K : PySem.W.Frag) : Sp := fun vs H Q _ => ∃ (s : Addr) (n : Nat) (L : Addr) (xs : List V) (G : Hp → List V → Prop), vs = [.ref s, .ref L] ∧ Src H s n ∧ n < 100000 ∧ MixG K G ∧ G H xs ∧ H L = some (.lst xs) ∧ L ≠ s ∧ xs.length ≤ 100 ∧
  ∀ F ys H', ys.Perm xs → H' F = some (.lst ys) → H F = none → F ≠ s → Src H' s (n + xs.length) → Dr s H H' → Q (.ref F) H'
theorem ok_l_mixed_up (T : Top K mg) : FnOk P w K mg base CX0 3 T.f_l_mixed_up T.d_l_mixed_up ["_law_source_here", "_law_some"] (spMixUp K) := by
  have G_Lamp_eq := ok_Lamp_eq (P := P) (w := w) (base := base) T
  have G_l_take := ok_l_take (P := P) (w := w) (base := base) T
  refine T.F_l_mixed_up.ok sc_l_mixed_up (fun vs H Q E h => ?_) (fun cdv A outer s H vs Q E hr h => ?_)
  · obtain ⟨s, n, L, xs, G, rfl, _⟩ := h; rfl
  · obtain ⟨s, n, L, xs, G, rfl, hs, hn, mx, hG, hL, nL, lx, q⟩ := h
    refine ⟨_, (pss_cons (ps_set (i := 2) sc_l_mixed_up.nd rfl (Or.inl rfl) (pe_callTy call_list_of (by rfl) T.n_list (by decide +kernel) (pa_cons (pv 1) pa_nil)))
      (pss_cons (ps_set (i := 3) sc_l_mixed_up.nd rfl (Or.inl rfl) (pe_lst pa_nil))
      (pss_cons (ps_while PassesOwn.never (pt_cmpR (op_neD hr.units) (pv 2) (pe_lst pa_nil) (nomark _)) (pss_one (ps_expr (pe_bm PySem.F.plainAttrs_list PySem.F.slot_list_append PySem.F.type_list_append mt_append (pv 3) (pa_cons (pe_bm PySem.F.plainAttrs_list PySem.F.slot_list_pop PySem.F.type_list_pop mt_popAt (pv 2) (pa_cons (pe_call G_l_take (hr.mono (by decide)) rfl T.g_l_take T.F_l_take.kp T.b_l_take .nil pass0 (pa_cons (pv 0) (pa_cons (pe_callB call_len_seq (by rfl) T.n_len (by decide +kernel) (pa_cons (pv 2) pa_nil)) pa_nil))) pa_nil)) pa_nil)))))
      (pss_one (ps_ret (pv 3)))))), ?_⟩
    refine ⟨_, rfl, L, _, rfl, .inl (SqL.of hL), fun l hl => ?_⟩
    have nl := ne_src hs hl
    have s1 := same_new (o := .lst xs) hl
    refine ⟨(by show 0 ≤ sizeLine; decide), fun F hF => ?_⟩
    have s2 := same_new (o := .lst []) hF
    have s12 : Same H _ := s1.trans s2
    have hF0 : H F = none := back_none s1 hF
    have nF := ne_src hs hF0
    have lF : l ≠ F := fun e => by rw [← e, upd_same] at hF; cases hF
    refine ⟨fun m σ H' => σ = [some (.ref s), some (.ref L), some (.ref l), some (.ref F)] ∧ ∃ zl zf : List V, H' l = some (.lst zl) ∧ H' F = some (.lst zf) ∧ G H' (zf ++ zl) ∧ (zf ++ zl).Perm xs ∧ zl.length = m ∧ Src H' s (n + zf.length) ∧ Dr s H H',
      ⟨_, rfl, xs, [], by rw [upd_ne lF]; exact upd_same, upd_same, mx.same hG s12, List.Perm.refl _, rfl, hs.same s12, Dr.of s12⟩, ?_⟩
    rintro m σ H1 ⟨rfl, zl, zf, h1, h2, hT, pm, hm, hs1, d1⟩
    have hT2 : G H1 zl := mx.sub hT fun y hy => List.mem_append_right _ hy
    have hlen := pm.length_eq
    rw [List.length_append] at hlen
    refine ⟨_, rfl, (by show 0 ≤ sizeLine; decide), fun l0 h0 => ?_⟩
    have s3 := same_new (o := .lst []) h0
    refine mx.nil (mx.same hT2 s3) (s3 _ _ h1) upd_same ⟨_, rfl, ?_⟩
    cases zl with
    | nil =>
      refine iteF ?_
      have es : zf.length = xs.length := by simpa using hlen
      rw [List.append_nil] at pm
      exact ⟨_, rfl, q F zf _ pm (s3 _ _ h2) hF0 nF (by rw [← es]; exact hs1.same s3) (d1.then s3)⟩
    | cons z0 zr =>
      refine iteT ?_
      generalize hzl : z0 :: zr = zl at *
      have l1 : 0 < zl.length := by rw [← hzl]; exact Nat.succ_pos _
      have hl3 := s3 _ _ h1
      have hF3 := s3 _ _ h2
      have hT3 := mx.same hT s3
      have hs3 := hs1.same s3
      have d3 := d1.then s3
      generalize upd H1 l0 (.lst []) = H3 at *
      refine ⟨_, fun σ' H' p => p, ?_⟩
      refine ⟨_, rfl, .inl ⟨rfl, _, SqL.of hF3⟩, _, rfl, .inl ⟨rfl, _, SqL.of hl3⟩, _, rfl, _, rfl, l, _, rfl, .inl (SqL.of hl3), s, _, _, rfl, hs3, by omega, by omega, by omega, fun v H4 v0 v1 hs4 d4 => ?_⟩
      have hl4 := d4 _ _ hl3 nl
      have hF4 := d4 _ _ hF3 nF
      have hT4 := mx.dr hT3 hs3 d4
      obtain ⟨k, rfl⟩ : ∃ k : Nat, v = k := ⟨v.toNat, by omega⟩
      have hk : k < zl.length := by omega
      obtain ⟨z, hz⟩ : ∃ z, zl[k]? = some z := ⟨_, List.getElem?_eq_getElem hk⟩
      refine ⟨l, zl, _, k, z, rfl, rfl, hl4, by omega, by omega, seq_nat hk, hz, F, zf, z, rfl, rfl, by rw [upd_ne lF.symm]; exact hF4, Nat.lt_of_lt_of_le (show zf.length < 101 by omega) (by decide), ?_⟩
      have hF5 : upd H4 l (.lst (zl.eraseIdx k)) F = some (.lst zf) := by rw [upd_ne lF.symm]; exact hF4
      refine ⟨zl.length - 1, by omega, rfl, zl.eraseIdx k, zf ++ [z], ?_, upd_same, ?_, ?_, erase_len hk, ?_, ?_⟩
      · rw [upd_ne lF, upd_same]
      · refine mx.mt (mx.mt (mx.sub hT4 fun y hy => ?_) hl4) hF5
        rcases List.mem_append.mp hy with hy | hy
        · rcases List.mem_append.mp hy with hy | hy
          · exact List.mem_append_left _ hy
          · rw [List.mem_singleton.mp hy]
            exact List.mem_append_right _ (List.mem_of_getElem? hz)
        · exact List.mem_append_right _ (List.mem_of_mem_eraseIdx hy)
      · refine List.Perm.trans ?_ pm
        rw [List.append_assoc]
        exact (perm_pop hz).append_left zf
      · have e : n + (zf ++ [z]).length = n + zf.length + 1 := by rw [List.length_append]; rfl
        rw [e]
        exact (hs4.mut nl).mut nF
      · exact ((d3.trans d4).mut hl).mut hF0
def Grt (m : Int) : Prop := 0 < m ∧ m < 10 ^ 41 ∧ Nat.Coprime m.natAbs 30
theorem Grt.mul {m k : Int} (h : 0 < m) (hm : Nat.Coprime m.natAbs 30) (k0 : 0 < k) (hk : Nat.Coprime k.natAbs 30) : 0 < m * k ∧ Nat.Coprime (m * k).natAbs 30 := ⟨Int.mul_pos h k0, by rw [Int.natAbs_mul]; exact Nat.Coprime.mul_left hm hk⟩
def spGrt : Sp := fun vs H Q _ => ∃ (s : Addr) (n : Nat), vs = [.ref s] ∧ Src H s n ∧ n < 800000 ∧ ∀ m H', Grt m → Src H' s (n + 4) → Dr s H H' → Q (.int m) H'
theorem ok_l_great (T : Top K mg) : FnOk P w K mg base CX0 4 T.f_l_great T.d_l_great ["_law_source_here"] spGrt := by
  have G_l_one := ok_l_one (P := P) (w := w) (base := base) T
  have G_l_take := ok_l_take (P := P) (w := w) (base := base) T
  refine T.F_l_great.ok sc_l_great (fun vs H Q E h => ?_) (fun cdv A outer s H vs Q E hr h => ?_)
  · obtain ⟨s, n, rfl, _⟩ := h; rfl
  · obtain ⟨s, n, rfl, hs, hn, q⟩ := h
    refine ⟨_, (pss_cons (ps_set (i := 1) sc_l_great.nd rfl (Or.inl rfl) (pe_call G_l_one (hr.mono (by decide)) rfl T.g_l_one T.F_l_one.kp T.b_l_one .nil pass0 (pa_cons (pv 0) (pa_cons (pe_lst (pa_cons pe_int (pa_cons pe_int (pa_cons (pe_op op_add (pe_op op_pow pe_int pe_int) pe_int) (pa_cons (pe_op op_mulW (pe_op op_add (pe_op op_pow pe_int pe_int) pe_int) (pe_op op_add (pe_op op_pow pe_int pe_int) pe_int)) (pa_cons (pe_op op_mulW (pe_op op_mulW pe_int pe_int) pe_int) pa_nil)))))) pa_nil))))
      (pss_cons (ps_for PassesOwn.never rfl (pi_list (pe_lst (pa_cons pe_int (pa_cons pe_int (pa_cons (pe_op op_add (pe_op op_pow pe_int pe_int) pe_int) pa_nil))))) (pg_name (i := 2) sc_l_great.nd rfl (Or.inl rfl)) (pss_one (ps_set (i := 1) sc_l_great.nd rfl (Or.inl rfl) (pe_op op_mulW (pv 1) (pe_ix ix_list (pe_lst (pa_cons pe_int (pa_cons (pv 2) pa_nil))) (pe_call G_l_take (hr.mono (by decide)) rfl T.g_l_take T.F_l_take.kp T.b_l_take .nil pass0 (pa_cons (pv 0) (pa_cons pe_int pa_nil))) (fun _ _ => rfl))))))
      (pss_one (ps_ret (pv 1))))), ?_⟩
    have D := Dr.refl s H
    refine ⟨_, rfl, _, _, rfl, rfl, ⟨by decide, by decide, by decide⟩, _, _, rfl, rfl, _, _, rfl, rfl, ⟨by decide, by decide, by decide⟩, _, _, rfl, rfl, _, _, rfl, rfl, ⟨by decide, by decide, by decide⟩, _, _, rfl, rfl, _, _, rfl, rfl, mw (by decide) (by decide) (by decide) (by decide), _, _, rfl, rfl, mw (by decide) (by decide) (by decide) (by decide), _, _, rfl, rfl, mw (by decide) (by decide) (by decide) (by decide), (by show 5 ≤ sizeLine; decide), fun l_ hl_ => ?_⟩; have s_ : ∀ o, Same _ (upd _ l_ o) := fun o => same_new hl_; refine ⟨_, _, l_, _, rfl, hs.same (s_ _), by omega, ne_src hs hl_, upd_same, by show 0 < 5; decide, by show 5 ≤ 1000; decide, fun x H1 hx hs1 d1 => ?_⟩; replace d1 := (Dr.of (s_ _)).trans d1; clear s_
    obtain ⟨m, rfl, m0, m1, mc⟩ : ∃ m : Int, x = .int m ∧ 0 < m ∧ m < 10 ^ 19 ∧ Nat.Coprime m.natAbs 30 := by
      simp only [List.mem_cons, List.not_mem_nil, or_false] at hx
      rcases hx with rfl | rfl | rfl | rfl | rfl <;> exact ⟨_, rfl, by decide +kernel, by decide +kernel, by decide +kernel⟩
    replace D := D.trans d1; replace hs := hs1; clear hs1 d1
    clear hx
    refine ⟨_, _, rfl, rfl, ⟨by decide, by decide, by decide⟩, _, _, rfl, rfl, (by show 3 ≤ sizeLine; decide), fun M hM => ?_⟩
    have nM := ne_src hs hM
    generalize hX_ : upd _ M _ = H2; have sM := Same.of_upd hX_ hM; have eM := upd_of hX_; clear hX_
    replace hs := hs.same (sM); replace D := D.then (sM)
    obtain ⟨xs, hxs⟩ : ∃ xs : List V, xs = [.int 7, .int 101, .int (10 ^ (6 : Int).toNat + 3)] := ⟨_, rfl⟩
    have eM : H2 M = some (.lst xs) := by rw [hxs]; exact eM
    have all : ∀ x ∈ xs, ∃ p : Int, x = .int p ∧ 0 < p ∧ p < 10 ^ 7 ∧ Nat.Coprime p.natAbs 30 := by
      rw [hxs]
      simp only [List.forall_mem_cons]
      exact ⟨⟨_, rfl, by decide +kernel, by decide +kernel, by decide +kernel⟩, ⟨_, rfl, by decide +kernel, by decide +kernel, by decide +kernel⟩, ⟨_, rfl, by decide +kernel, by decide +kernel, by decide +kernel⟩, fun _ h => nomatch h⟩
    have lx : xs.length = 3 := by rw [hxs]; rfl
    clear hxs
    refine ⟨M, rfl, ⟨_, SqL.of eM⟩, for_list (K := K) (a := M) (xs := xs) (fun i σ H' => (∃ m v2, σ = [some (.ref s), some (.int m), v2] ∧ 0 < m ∧ m < 10 ^ 19 * 10 ^ (7 * i) ∧ Nat.Coprime m.natAbs 30) ∧ Src H' s (n + 1 + i) ∧ Dr s H H' ∧ H' M = some (.lst xs))
      ⟨⟨m, _, rfl, m0, by simpa using m1, mc⟩, hs, D, eM⟩ (fun i σ H' _ ⟨_, _, _, h⟩ => SqL.of h) ?_ ?_⟩
    · clear hs D eM m0 m1 mc
      rintro i x σ H3 hi ⟨⟨m, v2, rfl, m0, m1, mc⟩, hs, D, eM⟩
      have il : i < 3 := by rw [← lx]; exact (List.getElem?_eq_some_iff.mp hi).1
      obtain ⟨p, rfl, p0, p1, pc⟩ := all _ (List.mem_of_getElem? hi)
      have w1 : (10 : Int) ^ (7 * i) ≤ 10 ^ 14 := by
        have : (10 : Nat) ^ (7 * i) ≤ 10 ^ 14 := Nat.pow_le_pow_right (by decide) (by omega)
        exact_mod_cast this
      refine ⟨_, rfl, _, rfl, (by show 2 ≤ sizeLine; decide), fun G hG => ?_⟩
      have nG := ne_src hs hG
      generalize hX_ : upd _ G _ = H4; have sG := Same.of_upd hX_ hG; have eG := upd_of hX_; clear hX_
      replace hs := hs.same (sG); replace D := D.then (sG); replace eM := (sG) _ _ eM
      refine ⟨_, rfl, _, _, _, rfl, hs, by omega, by first | decide | omega, by first | decide | omega, fun t H5 t0 t1 hs1 d1 => ?_⟩
      replace eG := d1 _ _ eG nG; replace eM := d1 _ _ eM nM; replace D := D.trans d1; replace hs := hs1; clear hs1 d1
      obtain ⟨x, hx, f, rfl, f0, f1, fc⟩ := pick (items := [.int 1, .int p]) (R := fun x => ∃ p : Int, x = .int p ∧ 0 < p ∧ p < 10 ^ 7 ∧ Nat.Coprime p.natAbs 30) (by
        simp only [List.forall_mem_cons]
        exact ⟨⟨1, rfl, by decide, by decide, by decide⟩, ⟨p, rfl, p0, p1, pc⟩, fun _ h => nomatch h⟩) t0 t1
      refine ⟨G, _, _, _, rfl, rfl, SqL.of eG, hx, ?_⟩
      obtain ⟨k0, kc⟩ := Grt.mul m0 mc f0 fc
      refine ⟨_, _, rfl, rfl, mw (by omega) (by omega) (by omega) (by omega), ⟨_, _, rfl, k0, ?_, kc⟩, hs, D, eM⟩
      have h1 : m * f < (10 ^ 19 * 10 ^ (7 * i)) * 10 ^ 7 := Int.lt_of_lt_of_le (Int.mul_lt_mul_of_pos_right m1 f0) (Int.mul_le_mul_of_nonneg_left (Int.le_of_lt f1) (by omega))
      rwa [Int.mul_assoc, ← Int.pow_add, show 7 * i + 7 = 7 * (i + 1) by omega] at h1
    · rintro σ H3 ⟨⟨m, v2, rfl, m0, m1, mc⟩, hs, D, _⟩
      rw [lx] at m1 hs
      exact ⟨_, rfl, q m H3 ⟨m0, Int.lt_of_lt_of_le m1 (by decide), mc⟩ hs D⟩
def spSeenAs : Sp := fun vs H Q _ => ∃ (s : Addr) (n : Nat) (W : Addr) (m b p o : Int), vs = [.ref s, .ref W, .int p, .int o] ∧ Src H s n ∧ n < 800000 ∧ W ≠ s ∧ H W = some (.tup [.int m, .int b]) ∧ 0 < m ∧ m < 10 ^ 41 ∧ 0 < p ∧ p < 10 ^ 9 ∧ 0 ≤ o ∧ o < 10 ^ 9 ∧
  ∀ U (d : Int) H', 0 < d → d ∣ m → H' U = some (.tup [.int (p * d), .int ((b + o * m) % (p * d))]) → H U = none → Src H' s (n + 1) → Dr s H H' → Q (.ref U) H'
theorem ok_l_seen_as (T : Top K mg) : FnOk P w K mg base CX0 4 T.f_l_seen_as T.d_l_seen_as ["_law_source_here", "_law_lamp", "_law_period", "_law_look"] spSeenAs := by
  have G_l_common := ok_l_common (P := P) (w := w) (base := base) T
  have G_l_one := ok_l_one (P := P) (w := w) (base := base) T
  refine T.F_l_seen_as.ok sc_l_seen_as (fun vs H Q E h => ?_) (fun cdv A outer s H vs Q E hr h => ?_)
  · obtain ⟨s, n, W, m, b, p, o, rfl, _⟩ := h; rfl
  · obtain ⟨s, n, W, m, b, p, o, rfl, hs, hn, nW, eW, m0, m1, p0, p1, o0, o1, q⟩ := h
    refine ⟨_, (pss_cons (ps_asg (pv 1) (pg_tup (by rfl) (pgs_cons (pg_name (i := 4) sc_l_seen_as.nd rfl (Or.inl rfl)) (pgs_cons (pg_name (i := 5) sc_l_seen_as.nd rfl (Or.inl rfl)) pgs_nil))))
      (pss_cons (ps_set (i := 6) sc_l_seen_as.nd rfl (Or.inl rfl) (pe_call G_l_one (hr.mono (by decide)) rfl T.g_l_one T.F_l_one.kp T.b_l_one .nil pass0 (pa_cons (pv 0) (pa_cons (pe_lst (pa_cons pe_int (pa_cons (pv 4) (pa_cons (pv 4) (pa_cons (pe_call G_l_common (hr.mono (by decide)) rfl T.g_l_common T.F_l_common.kp T.b_l_common .nil pass0 (pa_cons (pv 4) (pa_cons (pe_op op_mulW pe_int pe_int) pa_nil))) (pa_cons (pe_call G_l_common (hr.mono (by decide)) rfl T.g_l_common T.F_l_common.kp T.b_l_common .nil pass0 (pa_cons (pv 4) (pa_cons (pe_op op_add (pe_op op_pow pe_int pe_int) pe_int) pa_nil))) pa_nil)))))) pa_nil))))
      (pss_one (ps_ret (pe_tup (pa_cons (pe_op op_mulW (pv 2) (pv 6)) (pa_cons (pe_op op_modN (pe_op op_add (pv 5) (pe_op op_mulW (pv 3) (pv 4))) (pe_op op_mulW (pv 2) (pv 6))) pa_nil))))))), ?_⟩
    have D := Dr.refl s H
    refine ⟨_, rfl, W, _, rfl, SqT.of eW, rfl, _, _, rfl, _, _, rfl, rfl, ?_⟩
    refine ⟨_, rfl, _, rfl, _, rfl, _, rfl, _, _, rfl, rfl, mw (by decide) (by decide) (by decide) (by decide), m, _, rfl, by omega, by decide, ?_⟩
    refine ⟨_, rfl, _, _, rfl, rfl, ⟨by decide, by decide, by decide⟩, _, _, rfl, rfl, m, _, rfl, by omega, by decide, (by show 5 ≤ sizeLine; decide), fun l_ hl_ => ?_⟩; have s_ : ∀ o, Same _ (upd _ l_ o) := fun o => same_new hl_; refine ⟨_, _, l_, _, rfl, hs.same (s_ _), by omega, ne_src hs hl_, upd_same, by show 0 < 5; decide, by show 5 ≤ 1000; decide, fun x H1 hx hs1 d1 => ?_⟩; replace d1 := (Dr.of (s_ _)).trans d1; clear s_
    obtain ⟨d, rfl, d0, dm⟩ : ∃ d : Int, x = .int d ∧ 0 < d ∧ d ∣ m := by
      simp only [List.mem_cons, List.not_mem_nil, or_false] at hx
      have gc : ∀ y : Int, 0 < ((Int.gcd m y : Nat) : Int) ∧ ((Int.gcd m y : Nat) : Int) ∣ m := fun y => ⟨by have := Int.gcd_pos_of_ne_zero_left y (show m ≠ 0 by omega); omega, Int.gcd_dvd_left ..⟩
      rcases hx with rfl | rfl | rfl | rfl | rfl
      · exact ⟨_, rfl, by decide, Int.one_dvd _⟩
      · exact ⟨_, rfl, m0, Int.dvd_refl _⟩
      · exact ⟨_, rfl, m0, Int.dvd_refl _⟩
      · exact ⟨_, rfl, gc _⟩
      · exact ⟨_, rfl, gc _⟩
    replace D := D.trans d1; replace hs := hs1; clear hs1 d1
    have dl : d ≤ m := Int.le_of_dvd m0 dm
    have pd : 0 < p * d := Int.mul_pos p0 d0
    refine ⟨_, rfl, _, rfl, _, _, rfl, rfl, mw (by omega) (by omega) (by omega) (by omega), ?_⟩
    refine ⟨_, rfl, _, rfl, _, rfl, _, _, rfl, rfl, mw (by omega) (by omega) (by omega) (by omega), _, _, rfl, rfl, ?_⟩
    refine ⟨_, rfl, _, rfl, _, _, rfl, rfl, mw (by omega) (by omega) (by omega) (by omega), _, _, rfl, rfl, by show p * d ≠ 0; omega, (by show 2 ≤ sizeLine; decide), fun U hU => ?_⟩
    have hU0 := hs.free D hU
    generalize hX_ : upd _ U _ = H2; have sU := Same.of_upd hX_ hU; have eU := upd_of hX_; clear hX_
    refine q U d H2 d0 dm ?_ hU0 (hs.same sU) (D.then sU)
    rw [eU]
    show some (HO.tup [.int (p * d), .int ((b + o * m).fmod (p * d))]) = _
    rw [fmod_pos pd]
def OkAny (zs : PZ) : Prop := ∀ z ∈ zs, 0 < z.2.1 ∧ z.2.1 < 10 ^ 51 ∧ -16 ≤ z.2.2 ∧ z.2.2 < 10 ^ 51
theorem OkAny.z {zs : PZ} (h : OkAny zs) : OkZ zs := fun z hz => ⟨(h z hz).1, by have := (h z hz).2.1; omega⟩
theorem OnesZ.any {zs : PZ} (h : OnesZ zs) : OkAny zs := fun z hz => by
  obtain ⟨a, b, c, d⟩ := h.2 z hz
  exact ⟨a, by omega, c, by omega⟩
theorem OkAny.snoc {zs : PZ} {U : Addr} {p b : Int} (h : OkAny zs) (h1 : 0 < p) (h2 : p < 10 ^ 51) (h3 : -16 ≤ b) (h4 : b < 10 ^ 51) : OkAny (zs ++ [(U, (p, b))]) := fun z hz => by
  rcases List.mem_append.mp hz with hz | hz
  · exact h z hz
  · rw [List.mem_singleton.mp hz]
    exact ⟨h1, h2, h3, h4⟩
def spAnyI : Sp := fun vs H Q _ => ∃ (s : Addr) (n m : Nat), vs = [.ref s, .int m] ∧ Src H s n ∧ n < 40000 ∧ 1 ≤ m ∧ m ≤ 9 ∧
  ∀ F zs H', PairsA H' F zs → H F = none → zs.length ≤ m → OkAny zs → Src H' s (n + 200) → Dr s H H' → Q (.ref F) H'
end

/-! ### a list's method within a comprehension -/
section
theorem pe_bmB {X : Cx} {K : PySem.W.Frag} {o e : Expr} {es : List Expr} {to : TE} {t : TA} {name : Str} {apos cpos : Pos} {T id : String} {r : V → List V → Hp → VK → Prop} (hK : X.K = K)
    (pa : PlainAttrs T) (slot : Slot T name id) (hty : typeOf (Value.builtin id) = pure (Value.type "method_descriptor")) (hm : MtR X id r) (ho : PE X o to) (ha : PA X (e :: es) t)
    (hbase : attributeBase o name X.env (eval o X.env) = eval o X.env := by rfl)
    (hfew : ((backTo cpos (starEach (e :: es) X.env)).all (fun x => !x.1) && (backToKw cpos (keywordEach [] X.env)).all (fun x => x.1.isSome)
      && decide ((e :: es).length + ([] : List Keyword).length + (if ([] : List Keyword).isEmpty then 0 else 1) < 30)) = true := by rfl)
    (hline : (apos.endLine == cpos.line) = true := by rfl) (hs : starEach (e :: es) X.env = (false, eval e X.env) :: starEach es X.env := by rfl) (hplain : (backTo cpos (starEach es X.env)).any (·.1) = false := by rfl) :
    PE X (.Call (.Attribute o name apos) (e :: es) [] cpos) (tBM K T r to t) := by
  subst hK
  exact pe_bm pa slot hty hm ho ha hbase hfew hline hs hplain
end

section
/-! ### a list's index within a comprehension -/
theorem mt_indexB {X : Cx} {K : PySem.W.Frag} (hK : X.K = K) : MtR X "list.index" (rIndex K) := by
  subst hK
  exact mt_index
end

section
/-! ### the fewest kept -/
/-- the lamps of these numbers -/
def stayN (is : List Nat) (ls : List (Int × Int)) : List (Int × Int) := is.filterMap fun j => ls[j]?
theorem stayN_len (is : List Nat) (ls : List (Int × Int)) : (stayN is ls).length ≤ is.length := List.length_filterMap_le _ _
theorem stayN_bright {is : List Nat} {ls : List (Int × Int)} {x : Int} : Bright (stayN is ls) x ↔ ∃ j ∈ is, ∃ l, ls[j]? = some l ∧ l.1 ∣ x - l.2 := by
  constructor
  · rintro ⟨l, hl, hd⟩
    obtain ⟨j, hj, e⟩ := List.mem_filterMap.mp hl
    exact ⟨j, hj, l, e, hd⟩
  · rintro ⟨j, hj, l, e, hd⟩
    exact ⟨l, List.mem_filterMap.mpr ⟨j, hj, e⟩, hd⟩
theorem stayN_sub {is : List Nat} {ls : List (Int × Int)} {x : Int} (h : Bright (stayN is ls) x) : Bright ls x := by
  obtain ⟨j, _, l, e, hd⟩ := stayN_bright.mp h
  exact ⟨l, List.mem_of_getElem? e, hd⟩
/-- all that is bright is bright by these alone -/
def Enough (is : List Nat) (ls : List (Int × Int)) : Prop := ∀ x, Bright ls x → Bright (stayN is ls) x
/-- what the rows tell of it -/
def EnoughR (is : List Nat) (ls : List (Int × Int)) : Prop := ∀ l ∈ ls, ∀ j : Nat, j < 2 ^ is.length → ∃ m ∈ lrow ls (l.2 + (0 + (j : Int)) * l.1), m ∈ is.map fun (i : Nat) => (i : Int)
theorem enough_rows {is : List Nat} {ls : List (Int × Int)} (hp : ∀ l ∈ ls, 0 < l.1) : EnoughR is ls ↔ Enough is ls := by
  have row : ∀ t : Int, (∃ m ∈ lrow ls t, m ∈ is.map fun (i : Nat) => (i : Int)) ↔ Bright (stayN is ls) t := fun t => by
    rw [stayN_bright]
    constructor
    · rintro ⟨m, hm, hi⟩
      obtain ⟨j, e, l, hl, hd⟩ := lrow_mem.mp hm
      obtain ⟨i, hi, e2⟩ := List.mem_map.mp hi
      have : i = j := by omega
      subst this
      exact ⟨i, hi, l, hl, hd⟩
    · rintro ⟨j, hj, l, hl, hd⟩
      exact ⟨(j : Int), lrow_mem.mpr ⟨j, rfl, l, hl, hd⟩, List.mem_map.mpr ⟨j, hj, rfl⟩⟩
  constructor
  · intro h x hx
    obtain ⟨l, hl, u, hu⟩ := hx
    have := thin_wait (l := l) (ls := stayN is ls) (hp l hl) (fun y hy => by
      obtain ⟨j, _, e⟩ := List.mem_filterMap.mp hy
      exact hp y (List.mem_of_getElem? e)) 0 (fun i hi => (row _).mp (h l hl i (Nat.lt_of_lt_of_le hi (Nat.pow_le_pow_right (by decide) (stayN_len is ls))))) u
    rw [show l.2 + u * l.1 = x by rw [Int.mul_comm]; omega] at this
    exact this
  · intro h l hl j _
    refine (row _).mpr (h _ ⟨l, hl, 0 + (j : Int), ?_⟩)
    rw [Int.mul_comm]; omega
theorem enough_all (ls : List (Int × Int)) : Enough (List.range ls.length) ls := fun x ⟨l, hl, hd⟩ => by
  obtain ⟨j, hj, e⟩ := List.getElem_of_mem hl
  exact stayN_bright.mpr ⟨j, List.mem_range.mpr hj, l, by rw [← e]; exact List.getElem?_eq_getElem hj, hd⟩
end

section
/-! ### some may go: numbers kept, numbers left, papers turned -/
theorem fm_congr {α β : Type} {f g : α → Option β} : ∀ {xs : List α}, (∀ x ∈ xs, f x = g x) → xs.filterMap f = xs.filterMap g
  | [], _ => rfl
  | x :: xs, h => by
    rw [List.filterMap_cons, List.filterMap_cons, h x (.head _), fm_congr fun y hy => h y (.tail _ hy)]
theorem numF_range : ∀ (ls : List (Int × Int)) (i : Int), numF i ls = (List.range ls.length).filterMap fun j : Nat => (ls[j]?).map fun l => (i + (j : Int), l)
  | [], _ => rfl
  | l :: ls, i => by
    rw [List.length_cons, List.range_succ_eq_map, List.filterMap_cons, List.filterMap_map]
    show (i, l) :: numF (i + 1) ls = (i + ((0 : Nat) : Int), l) :: _
    rw [numF_range ls (i + 1)]
    congr 1
    · rw [show i + ((0 : Nat) : Int) = i by omega]
    · refine fm_congr fun j _ => ?_
      show _ = ((l :: ls)[j + 1]?).map _
      rw [List.getElem?_cons_succ]
      cases ls[j]? with
      | none => rfl
      | some x => exact congrArg some (Prod.ext (by show i + 1 + (j : Int) = i + ((j + 1 : Nat) : Int); omega) rfl)
/-- the numbers that stay -/
def leftN (ns : List Nat) (n : Nat) : List Nat := (List.range n).filter fun j => decide (j ∉ ns)
theorem leftN_mem {ns : List Nat} {n j : Nat} : j ∈ leftN ns n ↔ j < n ∧ j ∉ ns := by
  unfold leftN
  rw [List.mem_filter, List.mem_range]
  exact ⟨fun h => ⟨h.1, of_decide_eq_true h.2⟩, fun h => ⟨h.1, decide_eq_true h.2⟩⟩
theorem leftN_succ (ns : List Nat) (n : Nat) : leftN ns (n + 1) = leftN ns n ++ if n ∈ ns then [] else [n] := by
  unfold leftN
  rw [List.range_succ, List.filter_append]
  congr 1
  by_cases h : n ∈ ns <;> simp [h]
theorem leftN_len (ns : List Nat) (n : Nat) : (leftN ns n).length ≤ n := by
  have := List.length_filter_le (fun j => decide (j ∉ ns)) (List.range n)
  rw [List.length_range] at this
  exact this
theorem pickN_len {α : Type} (is : List Nat) (xs : List α) : (is.filterMap fun j => xs[j]?).length ≤ is.length := List.length_filterMap_le _ _
theorem mem_cast {ns : List Nat} {j : Nat} : (j : Int) ∈ ns.map (fun i : Nat => (i : Int)) ↔ j ∈ ns := by
  rw [List.mem_map]
  exact ⟨fun ⟨i, h, e⟩ => by rwa [show i = j by omega] at h, fun h => ⟨j, h, rfl⟩⟩
theorem kept_left (ns : List Nat) (ls : List (Int × Int)) : keptN (ns.map fun i : Nat => (i : Int)) ls = (leftN ns ls.length).filterMap fun j : Nat => (ls[j]?).map fun l => ((j : Int), l) := by
  unfold keptN leftN
  rw [numF_range, List.filter_filterMap, List.filterMap_filter]
  refine fm_congr fun j _ => ?_
  cases ls[j]? with
  | none => simp
  | some l =>
    show Option.filter _ (some (0 + (j : Int), l)) = _
    rw [Int.zero_add]
    by_cases h : j ∈ ns
    · have hm := mem_cast.mpr h
      rw [Option.filter_some, if_neg (by rw [decide_eq_true_eq]; exact fun z => z hm), if_neg (by rw [decide_eq_true_eq]; exact fun z => z h)]
    · have : (j : Int) ∉ ns.map fun i : Nat => (i : Int) := fun z => h (mem_cast.mp z)
      rw [Option.filter_some, if_pos (decide_eq_true this), if_pos (decide_eq_true h)]
      rfl
theorem keptL_left (ns : List Nat) (ls : List (Int × Int)) : keptL (ns.map fun i : Nat => (i : Int)) ls = stayN (leftN ns ls.length) ls := by
  unfold keptL stayN
  rw [kept_left, List.map_filterMap]
  refine fm_congr fun j _ => ?_
  cases ls[j]? <;> rfl
theorem kept_num (ns : List Nat) (ls : List (Int × Int)) : (keptN (ns.map fun i : Nat => (i : Int)) ls).map (·.1) = (leftN ns ls.length).map fun i : Nat => (i : Int) := by
  rw [kept_left, List.map_filterMap, ← List.filterMap_eq_map]
  refine fm_congr fun j hj => ?_
  rw [List.getElem?_eq_getElem (leftN_mem.mp hj).1]
  rfl
theorem row_turn (t : Int) : ∀ (ks : List (Int × Int × Int)) (pre : List Int), rowOf ks t = (rowOf (numF (pre.length : Nat) (ks.map (·.2))) t).map fun m => (pre ++ ks.map (·.1)).getD m.toNat 0
  | [], _ => rfl
  | k :: r, pre => by
    have ih := row_turn t r (pre ++ [k.1])
    rw [List.length_append, List.length_singleton, List.append_assoc, List.singleton_append] at ih
    have e1 : rowOf (k :: r) t = (if shB k.2 t then [k.1] else []) ++ rowOf r t := by
      unfold rowOf
      rw [List.filter_cons]
      split <;> rfl
    have e2 : rowOf (numF (pre.length : Nat) ((k :: r).map (·.2))) t = (if shB k.2 t then [(pre.length : Int)] else []) ++ rowOf (numF ((pre.length + 1 : Nat) : Int) (r.map (·.2))) t := by
      show rowOf (((pre.length : Int), k.2) :: numF ((pre.length : Int) + 1) (r.map (·.2))) t = _
      unfold rowOf
      rw [List.filter_cons]
      show List.map _ (if shB k.2 t = true then _ else _) = _
      split <;> rfl
    rw [e1, e2, List.map_append, ih]
    congr 1
    split
    · show [k.1] = [(pre ++ k.1 :: r.map (·.1)).getD ((pre.length : Int)).toNat 0]
      rw [Int.toNat_natCast, List.getD_eq_getElem?_getD, List.getElem?_append_right (Nat.le_refl _), Nat.sub_self]
      rfl
    · rfl
/-- a paper's number turned back into the light's own -/
def backN (js : List Nat) (m : Int) : Int := (js.map fun i : Nat => (i : Int)).getD m.toNat 0
theorem go_paper {ns : List Nat} {ls : List (Int × Int)} {n : Nat} {l : Int × Int} (hl : ls[n]? = some l) (hb : ∀ x, l.1 ∣ x - l.2 → Bright (stayN (leftN ns ls.length) ls) x) :
    goP ls (ns.map fun i : Nat => (i : Int)) n = (paperL (stayN (leftN ns ls.length) ls) l).map (backN (leftN ns ls.length)) := by
  unfold goP paperL
  rw [List.map_map, List.getD_eq_getElem?_getD, Int.toNat_natCast, hl]
  have e : (keptN (ns.map fun i : Nat => (i : Int)) ls).length = (stayN (leftN ns ls.length) ls).length := by
    rw [← keptL_left]
    unfold keptL
    rw [List.length_map]
  rw [e]
  refine List.map_congr_left fun j _ => ?_
  show (rowOf (keptN (ns.map fun i : Nat => (i : Int)) ls) (l.2 + (j : Int) * l.1)).headD 0 = backN (leftN ns ls.length) ((lrow (stayN (leftN ns ls.length) ls) (l.2 + (0 + (j : Int)) * l.1)).headD 0)
  have h1 := row_turn (l.2 + (j : Int) * l.1) (keptN (ns.map fun i : Nat => (i : Int)) ls) []
  rw [h1, List.nil_append, kept_num, Int.zero_add]
  have h2 : (keptN (ns.map fun i : Nat => (i : Int)) ls).map (·.2) = stayN (leftN ns ls.length) ls := by
    rw [← keptL_left]
    rfl
  rw [h2]
  show (List.map _ (lrow (stayN (leftN ns ls.length) ls) (l.2 + (j : Int) * l.1))).headD 0 = _
  cases h3 : lrow (stayN (leftN ns ls.length) ls) (l.2 + (j : Int) * l.1) with
  | nil => exact absurd (hb _ ⟨(j : Int), by rw [Int.mul_comm]; omega⟩) (lrow_nil.mp h3)
  | cons m r => rfl
theorem paper_bd {ls : List (Int × Int)} {l : Int × Int} (hb : ∀ x, l.1 ∣ x - l.2 → Bright ls x) {m : Int} (h : m ∈ paperL ls l) : ∃ j : Nat, m = j ∧ j < ls.length := by
  unfold paperL at h
  obtain ⟨j, _, rfl⟩ := List.mem_map.mp h
  cases h3 : lrow ls (l.2 + (0 + (j : Int)) * l.1) with
  | nil => exact absurd (hb _ ⟨0 + (j : Int), by rw [Int.mul_comm]; omega⟩) (lrow_nil.mp h3)
  | cons m r =>
    obtain ⟨i, e, l', h4, _⟩ := lrow_mem.mp (show m ∈ lrow ls (l.2 + (0 + (j : Int)) * l.1) by rw [h3]; exact .head _)
    exact ⟨i, e, (List.getElem?_eq_some_iff.mp h4).1⟩
/-- things of these numbers -/
def pickN {α : Type} (is : List Nat) (xs : List α) : List α := is.filterMap fun j => xs[j]?
theorem pick_len {α : Type} {is : List Nat} {xs : List α} (h : ∀ j ∈ is, j < xs.length) : (pickN is xs).length = is.length := by
  induction is with
  | nil => rfl
  | cons i r ih =>
    unfold pickN at ih ⊢
    rw [List.filterMap_cons, List.getElem?_eq_getElem (h i (.head _))]
    exact congrArg Nat.succ (ih fun j hj => h j (.tail _ hj))
theorem pick_map {α β : Type} (f : α → β) (is : List Nat) (xs : List α) : (pickN is xs).map f = pickN is (xs.map f) := by
  unfold pickN
  rw [List.map_filterMap]
  refine fm_congr fun j _ => ?_
  rw [List.getElem?_map]
theorem pick_mem {α : Type} {is : List Nat} {xs : List α} {x : α} (h : x ∈ pickN is xs) : x ∈ xs := by
  obtain ⟨j, _, e⟩ := List.mem_filterMap.mp h
  exact List.mem_of_getElem? e
theorem pick_snoc {α : Type} {is : List Nat} {i : Nat} {xs : List α} {x : α} (e : xs[i]? = some x) : pickN (is ++ [i]) xs = pickN is xs ++ [x] := by
  unfold pickN
  rw [List.filterMap_append, List.filterMap_cons, e]
  rfl
theorem pick_take {α : Type} {is : List Nat} {i k : Nat} {xs : List α} {x : α} (h : is[k]? = some i) (e : xs[i]? = some x) : pickN (is.take (k + 1)) xs = pickN (is.take k) xs ++ [x] := by
  rw [List.take_succ, h]
  exact pick_snoc e
/-- what may_go tells as a beat is what parts the two lights -/
theorem first_part {ls : List (Int × Int)} {is : List Nat} {o o' : Option Int} (h : FirstO ls (stayN is ls) 0 o) (h' : PartO (stayN is ls) ls 0 o') : o = o' := by
  refine PartO.uniq (ls1 := stayN is ls) (ls2 := ls) (t := 0) ?_ h'
  cases o with
  | none => exact fun x => ⟨stayN_sub, h x⟩
  | some b => exact ⟨h.1, fun z => h.2.2.1 (z.mpr h.2.1), fun x h1 h2 => ⟨stayN_sub, h.2.2.2 x h1 h2⟩⟩
theorem enough_part {ls : List (Int × Int)} {is : List Nat} {o : Option Int} (h' : PartO (stayN is ls) ls 0 o) : o = none ↔ Enough is ls := by
  constructor
  · rintro rfl x hx
    exact (h' x).mpr hx
  · intro h
    exact PartO.uniq h' (show PartO (stayN is ls) ls 0 none from fun x => ⟨stayN_sub, h x⟩)
theorem cut_sub {is : List Nat} {n k : Nat} (h : is.Sublist (List.range n)) : (is.take k ++ is.drop (k + 1)).Sublist (List.range n) := by
  refine List.Sublist.trans ?_ h
  have : is.take k ++ is.drop (k + 1) = is.eraseIdx k := (List.eraseIdx_eq_take_drop_succ ..).symm
  rw [this]
  exact List.eraseIdx_sublist ..
theorem pick_cut {α : Type} {is : List Nat} {xs : List α} (k : Nat) (h : ∀ j ∈ is, j < xs.length) : (pickN is xs).take k ++ (pickN is xs).drop (k + 1) = pickN (is.take k ++ is.drop (k + 1)) xs := by
  have key : ∀ (is : List Nat) (m : Nat), (∀ j ∈ is, j < xs.length) → (pickN is xs).take m = pickN (is.take m) xs ∧ (pickN is xs).drop m = pickN (is.drop m) xs := by
    intro is
    induction is with
    | nil => intro m _; simp [pickN]
    | cons i r ih =>
      intro m h
      have e : pickN (i :: r) xs = xs[i]'(h i (.head _)) :: pickN r xs := by
        unfold pickN
        rw [List.filterMap_cons, List.getElem?_eq_getElem (h i (.head _))]
      cases m with
      | zero => exact ⟨by rfl, by rfl⟩
      | succ m =>
        obtain ⟨h1, h2⟩ := ih m fun j hj => h j (.tail _ hj)
        rw [e]
        refine ⟨?_, ?_⟩
        · rw [List.take_succ_cons, List.take_succ_cons, h1]
          unfold pickN
          rw [List.filterMap_cons, List.getElem?_eq_getElem (h i (.head _))]
        · rw [List.drop_succ_cons, List.drop_succ_cons, h2]
  rw [(key is k h).1, (key is (k + 1) h).2]
  unfold pickN
  rw [List.filterMap_append]
end

section
/-! ### the last look -/
/-- from a lamp's own beats another one is seen so -/
def Sees (m b : Int) (z : Int × Int) (φ : Int → Prop) : Prop := 0 < z.1 ∧ ∀ t : Int, z.1 ∣ b + t * m - z.2 ↔ φ t
end
section
theorem fewer_at3 {ls : List (Int × Int)} {k : Nat} {x : Int} : Bright (ls.take k ++ ls.drop (k + 1)) x ↔ ∃ j : Nat, j ≠ k ∧ ∃ y, ls[j]? = some y ∧ y.1 ∣ x - y.2 := by
  rw [bright_app2]
  constructor
  · rintro (⟨y, hy, hd⟩ | ⟨y, hy, hd⟩)
    · obtain ⟨j, hj, e⟩ := List.getElem_of_mem hy
      rw [List.length_take] at hj
      refine ⟨j, by omega, y, ?_, hd⟩
      rw [List.getElem_take] at e
      rw [← e]
      exact List.getElem?_eq_getElem (by omega)
    · obtain ⟨j, hj, e⟩ := List.getElem_of_mem hy
      rw [List.length_drop] at hj
      refine ⟨k + 1 + j, by omega, y, ?_, hd⟩
      rw [List.getElem_drop] at e
      rw [← e]
      exact List.getElem?_eq_getElem (by omega)
  · rintro ⟨j, hj, y, e, hd⟩
    by_cases h : j < k
    · exact .inl ⟨y, List.mem_of_getElem? (i := j) (by rw [List.getElem?_take_of_lt h]; exact e), hd⟩
    · refine .inr ⟨y, List.mem_of_getElem? (i := j - (k + 1)) ?_, hd⟩
      rw [List.getElem?_drop, show k + 1 + (j - (k + 1)) = j by omega]
      exact e
theorem kept_fewer3 {ls : List (Int × Int)} {k : Nat} {x : Int} : Bright ((keptN [(k : Int)] ls).map (·.2)) x ↔ Bright (ls.take k ++ ls.drop (k + 1)) x := by
  rw [fewer_at3]
  constructor
  · rintro ⟨y, hy, hd⟩
    obtain ⟨z, hz, rfl⟩ := List.mem_map.mp hy
    obtain ⟨h1, j, h2, h3⟩ := kept_mem.mp hz
    refine ⟨j, fun e => h1 ?_, z.2, h3, hd⟩
    rw [h2, e]
    exact List.mem_singleton.mpr rfl
  · rintro ⟨j, hj, y, e, hd⟩
    refine ⟨y, List.mem_map.mpr ⟨((j : Int), y), kept_mem.mpr ⟨fun h => hj ?_, j, rfl, e⟩, rfl⟩, hd⟩
    have : (j : Int) = (k : Int) := List.mem_singleton.mp h
    omega
theorem two_ne (k : Nat) : (2 : Int) ^ k ≠ 0 := by
  have : (0 : Int) < 2 ^ k := Int.pow_pos (by decide)
  omega
theorem pow_dvd {k n : Nat} (h : k ≤ n) : (2 : Int) ^ k ∣ 2 ^ n := ⟨2 ^ (n - k), by rw [← Int.pow_add, Nat.add_sub_cancel' h]⟩
/-- a number without the part 2 takes no power of 2 away -/
theorem odd_dvd {m : Int} (hm : Nat.Coprime m.natAbs 30) {k : Nat} {x : Int} (h : (2 : Int) ^ k ∣ x * m) : (2 : Int) ^ k ∣ x := by
  have h2 : Nat.Coprime m.natAbs 2 := Nat.Coprime.coprime_dvd_right (by decide) hm
  have h3 : Nat.Coprime (2 ^ k) m.natAbs := (Nat.Coprime.pow_right k h2).symm
  have h4 : 2 ^ k ∣ x.natAbs * m.natAbs := by
    have := Int.natAbs_dvd_natAbs.mpr h
    rwa [Int.natAbs_mul, Int.natAbs_pow] at this
  have h5 := h3.dvd_of_dvd_mul_right h4
  refine Int.natAbs_dvd_natAbs.mp ?_
  rw [Int.natAbs_pow]
  exact h5
theorem sees_of {m b : Int} (hm : Nat.Coprime m.natAbs 30) {k : Nat} {d o : Int} (d0 : 0 < d) (dm : d ∣ m) : Sees m b (2 ^ k * d, (b + o * m) % (2 ^ k * d)) (fun t => (2 : Int) ^ k ∣ t - o) := by
  have p0 : (0 : Int) < 2 ^ k * d := Int.mul_pos (Int.pow_pos (by decide)) d0
  refine ⟨p0, fun t => ?_⟩
  show 2 ^ k * d ∣ b + t * m - (b + o * m) % (2 ^ k * d) ↔ _
  have e1 : b + t * m - (b + o * m) % (2 ^ k * d) = (t - o) * m + 2 ^ k * d * ((b + o * m) / (2 ^ k * d)) := by
    have := Int.emod_add_mul_ediv (b + o * m) (2 ^ k * d)
    rw [Int.sub_mul]
    omega
  rw [e1, Int.dvd_add_left (Int.dvd_mul_right ..)]
  constructor
  · intro h
    exact odd_dvd hm (Int.dvd_trans (Int.dvd_mul_right ..) h)
  · rintro ⟨c, hc⟩
    obtain ⟨e, he⟩ := dm
    exact ⟨c * e, by rw [hc, he]; grind⟩
theorem Sees.nrm {m b : Int} {z : Int × Int} {φ : Int → Prop} (h : Sees m b z φ) : Sees m b (nrm z) φ := ⟨h.1, fun t => by
  rw [← h.2 t]
  show z.1 ∣ b + t * m - z.2 % z.1 ↔ _
  have e : b + t * m - z.2 % z.1 = b + t * m - z.2 + z.1 * (z.2 / z.1) := by have := Int.emod_add_mul_ediv z.2 z.1; omega
  rw [e, Int.dvd_add_left (Int.dvd_mul_right ..)]⟩
theorem Sees.iff {m b : Int} {z : Int × Int} {φ ψ : Int → Prop} (h : Sees m b z φ) (e : ∀ t, φ t ↔ ψ t) : Sees m b z ψ := ⟨h.1, fun t => (h.2 t).trans (e t)⟩
/-- a look is lit by the lamp of this number -/
def Lit (n k : Nat) (t : Int) : Prop := if k ≤ n then (t + 1) % 2 ^ k = 2 ^ (k - 1) else (t + 1) % 2 ^ n = 0
instance (n k : Nat) (t : Int) : Decidable (Lit n k t) := by unfold Lit; infer_instance
theorem half_mod {k : Nat} (hk : 1 ≤ k) {x : Int} : (2 : Int) ^ k ∣ x - 2 ^ (k - 1) ↔ x % 2 ^ k = 2 ^ (k - 1) := by
  have e : (2 : Int) ^ k = 2 ^ (k - 1) * 2 := by
    rw [← Int.pow_succ, show (k - 1).succ = k by omega]
  have p : (0 : Int) < 2 ^ (k - 1) := Int.pow_pos (by decide)
  generalize (2 : Int) ^ (k - 1) = h at *
  rw [e]
  constructor
  · rintro ⟨c, hc⟩
    have : x = h + h * 2 * c := by omega
    rw [this, Int.add_mul_emod_self_left]
    exact Int.emod_eq_of_lt (by omega) (by omega)
  · intro hx
    have := Int.emod_add_mul_ediv x (h * 2)
    exact ⟨x / (h * 2), by omega⟩
theorem lit_lo {n k : Nat} (hk : 1 ≤ k) (hn : k ≤ n) {t : Int} : (2 : Int) ^ k ∣ t - (2 ^ n - 1 + 2 ^ (k - 1)) ↔ Lit n k t := by
  unfold Lit
  rw [if_pos hn, ← half_mod hk]
  have e : t - (2 ^ n - 1 + 2 ^ (k - 1)) = t + 1 - 2 ^ (k - 1) + -(2 ^ n) := by omega
  rw [e, Int.dvd_add_left (Int.dvd_neg.mpr (pow_dvd hn))]
theorem lit_hi {n : Nat} {t : Int} : (2 : Int) ^ n ∣ t - (2 ^ n - 1) ↔ Lit n (n + 1) t := by
  unfold Lit
  rw [if_neg (by omega)]
  have e : t - (2 ^ n - 1) = t + 1 + -(2 ^ n) := by omega
  rw [e, Int.dvd_add_left (Int.dvd_neg.mpr (Int.dvd_refl _))]
  exact Int.dvd_iff_emod_eq_zero
/-- lit by one of the first n just where no multiple of 2 ^ n is next -/
theorem lit_any {t : Int} : ∀ n : Nat, (∃ k, 1 ≤ k ∧ k ≤ n ∧ (t + 1) % 2 ^ k = 2 ^ (k - 1)) ↔ ¬ (2 : Int) ^ n ∣ t + 1
  | 0 => ⟨fun ⟨k, h1, h2, _⟩ => by omega, fun h => absurd (Int.one_dvd _) h⟩
  | n + 1 => by
    constructor
    · rintro ⟨k, h1, h2, h3⟩ hd
      have := Int.emod_eq_zero_of_dvd (Int.dvd_trans (pow_dvd h2) hd)
      rw [this] at h3
      exact two_ne _ h3.symm
    · intro h
      by_cases hn : (2 : Int) ^ n ∣ t + 1
      · refine ⟨n + 1, by omega, Nat.le_refl _, ?_⟩
        rw [← half_mod (by omega)]
        obtain ⟨c, hc⟩ := hn
        show (2 : Int) ^ (n + 1) ∣ t + 1 - 2 ^ n
        rcases Int.emod_two_eq c with e | e
        · exact absurd ⟨c / 2, by rw [hc, Int.pow_succ]; have := Int.emod_add_mul_ediv c 2; rw [e] at this; grind⟩ h
        · exact ⟨c / 2, by rw [hc, Int.pow_succ]; have := Int.emod_add_mul_ediv c 2; rw [e] at this; grind⟩
      · obtain ⟨k, h1, h2, h3⟩ := (lit_any n).mpr hn
        exact ⟨k, h1, by omega, h3⟩
/-- lamps that are seen so, by their numbers -/
def RulerS (m b : Int) (n : Nat) (zs : List (Int × Int)) (ks : List Nat) : Prop := zs.length = ks.length ∧ ∀ (i : Nat) z k, zs[i]? = some z → ks[i]? = some k → Sees m b z (Lit n k)
theorem RulerS.bright {m b : Int} {n : Nat} {zs : List (Int × Int)} {ks : List Nat} (h : RulerS m b n zs ks) {t : Int} : Bright zs (b + t * m) ↔ ∃ k ∈ ks, Lit n k t := by
  constructor
  · rintro ⟨z, hz, hd⟩
    obtain ⟨i, hi⟩ := List.getElem?_of_mem hz
    obtain ⟨k, hk⟩ : ∃ k, ks[i]? = some k := ⟨_, List.getElem?_eq_getElem (by rw [← h.1]; exact (List.getElem?_eq_some_iff.mp hi).1)⟩
    exact ⟨k, List.mem_of_getElem? hk, ((h.2 i z k hi hk).2 t).mp hd⟩
  · rintro ⟨k, hk, hl⟩
    obtain ⟨i, hi⟩ := List.getElem?_of_mem hk
    obtain ⟨z, hz⟩ : ∃ z, zs[i]? = some z := ⟨_, List.getElem?_eq_getElem (by rw [h.1]; exact (List.getElem?_eq_some_iff.mp hi).1)⟩
    exact ⟨z, List.mem_of_getElem? hz, ((h.2 i z k hz hi).2 t).mpr hl⟩
/-- of the lamp itself: the first look that is dark by the others -/
theorem ruler_alone {ls S : List (Int × Int)} {i : Nat} {m b T : Int} (b0 : 0 ≤ b) (bm : b < m) (hl : ls[i]? = some (m, b)) (hS : ∀ x, Bright (ls.take i ++ ls.drop (i + 1)) x ↔ Bright S x)
    (T0 : 0 ≤ T) (hT : ¬ Bright S (b + T * m)) (hlt : ∀ t, 0 ≤ t → t < T → Bright S (b + t * m)) : AloneIs ls i (some (b + T * m)) := by
  have e : ∀ x, Bright ((keptN [(i : Int)] ls).map (·.2)) x ↔ Bright S x := fun x => kept_fewer3.trans (hS x)
  refine ⟨(m, b), hl, ?_, ⟨T, ?_⟩, fun z => hT ((e _).mp z), fun x x0 hd hn => ?_⟩
  · have := Int.mul_nonneg T0 (show 0 ≤ m by omega)
    omega
  · show b + T * m - b = m * T
    rw [Int.mul_comm]; omega
  · obtain ⟨t, ht⟩ := hd
    have ht : x = b + t * m := by
      have : x - b = m * t := ht
      rw [Int.mul_comm] at this; omega
    refine Int.not_lt.mp fun hx => hn ((e x).mpr ?_)
    rw [ht] at x0 hx ⊢
    have t0 : 0 ≤ t := Int.not_lt.mp fun z => by
      have : t * m ≤ -1 * m := Int.mul_le_mul_of_nonneg_right (by omega) (by omega)
      omega
    refine hlt t t0 (Int.not_le.mp fun z => ?_)
    have : T * m ≤ t * m := Int.mul_le_mul_of_nonneg_right z (by omega)
    omega
theorem ruler_idle {ls S : List (Int × Int)} {i : Nat} {m b : Int} (hl : ls[i]? = some (m, b)) (hS : ∀ x, Bright (ls.take i ++ ls.drop (i + 1)) x ↔ Bright S x) (hT : ∀ t : Int, Bright S (b + t * m)) : IdleAt ls i :=
  ⟨(m, b), hl, fun t => kept_fewer3.mpr ((hS _).mpr (hT t))⟩
/-- a single lamp may go: its first beat lost is the one at which it is needed -/
theorem single_go {ls : List (Int × Int)} {i : Nat} {o o' : Option Int} (ha : AloneIs ls i o) (f : FirstO ls (keptL [(i : Int)] ls) 0 o') : o' = o := by
  obtain ⟨l, el, h⟩ := ha
  have spl : ∀ x, Bright ls x → l.1 ∣ x - l.2 ∨ Bright ((keptN [(i : Int)] ls).map (·.2)) x := fun x ⟨l', hl, hd⟩ => by
    obtain ⟨j, hj⟩ := List.getElem?_of_mem hl
    by_cases e : j = i
    · rw [e, el] at hj
      cases hj
      exact .inl hd
    · exact .inr (kept_bright.mpr ⟨j, fun z => e (by have := List.mem_singleton.mp z; omega), l', hj, hd⟩)
  refine FirstO.uniq f ?_
  cases o with
  | none =>
    intro x hx
    rcases spl x hx with ⟨n, hn⟩ | h1
    · have := h n
      rwa [show l.2 + n * l.1 = x by rw [Int.mul_comm]; omega] at this
    · exact h1
  | some b =>
    obtain ⟨h1, h2, h3, h4⟩ := h
    refine ⟨h1, ⟨l, List.mem_of_getElem? el, h2⟩, h3, fun x x0 xb hx => Classical.byContradiction fun hn => ?_⟩
    rcases spl x hx with h5 | h5
    · have := h4 x x0 h5 hn
      omega
    · exact hn h5
/-- the numbers that are lit at a look -/
def litK (n : Nat) (ks : List Nat) (t : Int) (i : Nat) : List Int := ((List.range i).filter fun j => decide (Lit n (ks.getD j 0) t)).map fun j : Nat => (j : Int)
theorem litK_succ {n : Nat} {ks : List Nat} {t : Int} {i k : Nat} (h : ks[i]? = some k) : litK n ks t (i + 1) = litK n ks t i ++ if Lit n k t then [(i : Int)] else [] := by
  unfold litK
  rw [List.range_succ, List.filter_append, List.map_append]
  congr 1
  have e : ks.getD i 0 = k := by rw [List.getD_eq_getElem?_getD, h]; rfl
  by_cases hl : Lit n k t
  · rw [if_pos hl, List.filter_cons, e, if_pos (decide_eq_true hl)]
    rfl
  · rw [if_neg hl, List.filter_cons, e, if_neg (fun z => hl (of_decide_eq_true z))]
    rfl
theorem RulerS.row {m b : Int} {n : Nat} {zs : List (Int × Int)} {ks : List Nat} (h : RulerS m b n zs ks) (t : Int) : lrow zs (b + t * m) = litK n ks t ks.length := by
  have key : ∀ i, i ≤ ks.length → rowOf ((numF 0 zs).take i) (b + t * m) = litK n ks t i := by
    intro i
    induction i with
    | zero => exact fun _ => rfl
    | succ i ih =>
      intro hi
      obtain ⟨k, hk⟩ : ∃ k, ks[i]? = some k := ⟨_, List.getElem?_eq_getElem (by omega)⟩
      obtain ⟨z, hz⟩ : ∃ z, zs[i]? = some z := ⟨_, List.getElem?_eq_getElem (by rw [h.1]; omega)⟩
      rw [rowOf_numF_take hz, ih (by omega), litK_succ hk]
      congr 1
      have e := (h.2 i z k hz hk).2 t
      by_cases hl : Lit n k t
      · rw [if_pos hl, if_pos (shB_iff.mpr (e.mpr hl))]
      · rw [if_neg hl, if_neg (fun q => hl (e.mp (shB_iff.mp q)))]
  have := key ks.length (Nat.le_refl _)
  rw [← h.1, num_all] at this
  rw [← h.1]
  exact this
theorem RulerS.more {m b : Int} {n : Nat} {zs : List (Int × Int)} {ks : List Nat} {z : Int × Int} {k : Nat} (h : RulerS m b n zs ks) (hz : Sees m b z (Lit n k)) : RulerS m b n (zs ++ [z]) (ks ++ [k]) := by
  refine ⟨by rw [List.length_append, List.length_append, h.1]; rfl, fun i z' k' e1 e2 => ?_⟩
  by_cases hi : i < zs.length
  · rw [List.getElem?_append_left hi] at e1
    rw [List.getElem?_append_left (h.1 ▸ hi)] at e2
    exact h.2 i z' k' e1 e2
  · have l1 := (List.getElem?_eq_some_iff.mp e1).1
    have e3 : [z].length = 1 := rfl
    rw [List.length_append] at l1
    have e4 : i = zs.length := by omega
    subst e4
    rw [List.getElem?_append_right (Nat.le_refl _), Nat.sub_self] at e1
    rw [h.1, List.getElem?_append_right (Nat.le_refl _), Nat.sub_self] at e2
    cases e1
    cases e2
    exact hz
theorem RulerS.pick {m b : Int} {n c : Nat} {zs : List (Int × Int)} (h : RulerS m b n zs ((List.range c).map (· + 1))) : ∀ ks : List Nat, (∀ k ∈ ks, 1 ≤ k ∧ k ≤ c) → RulerS m b n (pickN (ks.map (· - 1)) zs) ks := by
  intro ks
  induction ks with
  | nil => exact fun _ => ⟨rfl, fun i z k e => by cases e⟩
  | cons k r ih =>
    intro hk
    obtain ⟨h1, h2⟩ := hk k (.head _)
    obtain ⟨l1, l2⟩ := ih fun k' hk' => hk k' (.tail _ hk')
    have lz : zs.length = c := by rw [h.1, List.length_map, List.length_range]
    obtain ⟨z, hz⟩ : ∃ z, zs[k - 1]? = some z := ⟨_, List.getElem?_eq_getElem (by omega)⟩
    have e1 : pickN ((k :: r).map (· - 1)) zs = z :: pickN (r.map (· - 1)) zs := by
      unfold pickN
      rw [List.map_cons, List.filterMap_cons, hz]
    rw [e1]
    refine ⟨congrArg Nat.succ l1, fun i z' k' e2 e3 => ?_⟩
    cases i with
    | zero =>
      cases e2
      cases e3
      refine h.2 (k - 1) z k hz ?_
      rw [List.getElem?_map, List.getElem?_range (by omega)]
      exact congrArg some (show k - 1 + 1 = k by omega)
    | succ i => exact l2 i z' k' e2 e3
theorem RulerS.take {m b : Int} {n : Nat} {zs : List (Int × Int)} {ks : List Nat} (h : RulerS m b n zs ks) (i : Nat) : RulerS m b n (zs.take i) (ks.take i) := ⟨by rw [List.length_take, List.length_take, h.1], fun j z k e1 e2 => by
  by_cases hj : j < i
  · rw [List.getElem?_take_of_lt hj] at e1 e2
    exact h.2 j z k e1 e2
  · rw [List.getElem?_eq_none (by rw [List.length_take]; omega)] at e1
    cases e1⟩
theorem RulerS.drop {m b : Int} {n : Nat} {zs : List (Int × Int)} {ks : List Nat} (h : RulerS m b n zs ks) (i : Nat) : RulerS m b n (zs.drop i) (ks.drop i) := ⟨by rw [List.length_drop, List.length_drop, h.1], fun j z k e1 e2 => by
  rw [List.getElem?_drop] at e1 e2
  exact h.2 (i + j) z k e1 e2⟩
theorem RulerS.app {m b : Int} {n : Nat} {zs ws : List (Int × Int)} {ks js : List Nat} (h : RulerS m b n zs ks) (h2 : RulerS m b n ws js) : RulerS m b n (zs ++ ws) (ks ++ js) := ⟨by rw [List.length_append, List.length_append, h.1, h2.1], fun j z k e1 e2 => by
  by_cases hj : j < zs.length
  · rw [List.getElem?_append_left hj] at e1
    rw [List.getElem?_append_left (h.1 ▸ hj)] at e2
    exact h.2 j z k e1 e2
  · rw [List.getElem?_append_right (by omega)] at e1
    rw [List.getElem?_append_right (by have := h.1; omega), ← h.1] at e2
    exact h2.2 _ z k e1 e2⟩
theorem RulerS.nrms {m b : Int} {n : Nat} {zs : List (Int × Int)} {ks : List Nat} (h : RulerS m b n zs ks) : RulerS m b n (zs.map nrm) ks := ⟨by rw [List.length_map]; exact h.1, fun j z k e1 e2 => by
  rw [List.getElem?_map] at e1
  obtain ⟨z', e3, rfl⟩ := Option.map_eq_some_iff.mp e1
  exact (h.2 j z' k e3 e2).nrm⟩
/-- by the first n numbers all looks are lit but those ahead of a multiple of 2 ^ n -/
theorem RulerS.first {m b : Int} {n : Nat} {zs : List (Int × Int)} {ks : List Nat} (h : RulerS m b n zs ks) (hk : ∀ k, k ∈ ks ↔ 1 ≤ k ∧ k ≤ n) {t : Int} : Bright zs (b + t * m) ↔ ¬ (2 : Int) ^ n ∣ t + 1 := by
  rw [h.bright, ← lit_any]
  constructor
  · rintro ⟨k, h1, h2⟩
    obtain ⟨h3, h4⟩ := (hk k).mp h1
    unfold Lit at h2
    rw [if_pos h4] at h2
    exact ⟨k, h3, h4, h2⟩
  · rintro ⟨k, h3, h4, h2⟩
    refine ⟨k, (hk k).mpr ⟨h3, h4⟩, ?_⟩
    unfold Lit
    rw [if_pos h4]
    exact h2
theorem pow_first {n : Nat} {t : Int} (t0 : 0 ≤ t) (ht : t < 2 ^ n - 1) : ¬ (2 : Int) ^ n ∣ t + 1 := fun h => by
  have := Int.le_of_dvd (by omega) h
  omega
theorem one_taken {α : Type} {xs ys : List α} {w : α} {i : Nat} (hi : xs.length = i) : (xs ++ [w] ++ ys).take i ++ (xs ++ [w] ++ ys).drop (i + 1) = xs ++ ys ∧ (xs ++ [w] ++ ys)[i]? = some w := by
  subst hi
  refine ⟨?_, ?_⟩
  · rw [List.append_assoc, List.take_left]
    congr 1
    rw [List.drop_append, List.drop_eq_nil_of_le (by omega), Nat.add_sub_cancel_left]
    rfl
  · rw [List.append_assoc, List.getElem?_append_right (Nat.le_refl _), Nat.sub_self]
    rfl
theorem keptN_last {S : List (Int × Int)} {w : Int × Int} : keptN [(S.length : Int)] (S ++ [w]) = numF 0 S := by
  have h := kept_left [S.length] (S ++ [w])
  have e : leftN [S.length] (S ++ [w]).length = List.range S.length := by
    rw [List.length_append]
    show leftN [S.length] (S.length + 1) = _
    rw [leftN_succ, if_pos (List.mem_singleton.mpr rfl), List.append_nil]
    unfold leftN
    refine List.filter_eq_self.mpr fun j hj => ?_
    have := List.mem_range.mp hj
    exact decide_eq_true fun z => by have := List.mem_singleton.mp z; omega
  rw [e] at h
  show keptN ([S.length].map fun i : Nat => (i : Int)) (S ++ [w]) = _
  rw [h, numF_range]
  refine fm_congr fun j hj => ?_
  rw [List.getElem?_append_left (List.mem_range.mp hj)]
  cases S[j]? with
  | none => rfl
  | some l => exact congrArg some (Prod.ext (by show (j : Int) = 0 + (j : Int); omega) rfl)
/-- the paper of the last look's lamp -/
theorem RulerS.paper {m b : Int} {n : Nat} {S : List (Int × Int)} {ks : List Nat} (h : RulerS m b n S ks) (lk : ks.length = n + 1) : goP (S ++ [(m, b)]) [((n + 1 : Nat) : Int)] ((n + 1 : Nat) : Int) = (List.range (2 ^ (n + 1))).map fun t : Nat => (litK n ks (t : Int) (n + 1)).headD 0 := by
  have lS : S.length = n + 1 := by rw [h.1, lk]
  have e1 := keptN_last (S := S) (w := (m, b))
  rw [lS] at e1
  unfold goP
  rw [e1, numF_len, lS, Int.toNat_natCast]
  have e2 : (S ++ [(m, b)]).getD (n + 1) (1, 0) = (m, b) := by
    rw [List.getD_eq_getElem?_getD, List.getElem?_append_right (by omega), lS, Nat.sub_self]
    rfl
  rw [e2]
  refine List.map_congr_left fun t _ => ?_
  have := h.row (t : Int)
  rw [lk] at this
  show (lrow S (b + (t : Int) * m)).headD 0 = _
  rw [this]
theorem RulerS.all {m b : Int} {n : Nat} {S : List (Int × Int)} {ks : List Nat} (h : RulerS m b n S ks) (mem : ∀ k, k ∈ ks ↔ 1 ≤ k ∧ k ≤ n + 1) (t : Int) : ∃ k ∈ ks, Lit n k t := by
  by_cases hd : (2 : Int) ^ n ∣ t + 1
  · refine ⟨n + 1, (mem _).mpr ⟨by omega, by omega⟩, ?_⟩
    unfold Lit
    rw [if_neg (by omega)]
    exact Int.emod_eq_zero_of_dvd hd
  · obtain ⟨k, h1, h2, h3⟩ := (lit_any n).mpr hd
    refine ⟨k, (mem _).mpr ⟨h1, by omega⟩, ?_⟩
    unfold Lit
    rw [if_pos h2]
    exact h3
theorem RulerS.lit {m b : Int} {n : Nat} {S : List (Int × Int)} {ks : List Nat} (h : RulerS m b n S ks) (mem : ∀ k, k ∈ ks ↔ 1 ≤ k ∧ k ≤ n + 1) (t : Int) : ∃ z r, litK n ks t ks.length = z :: r := by
  obtain ⟨k, hk, hl⟩ := h.all mem t
  obtain ⟨i, hi⟩ := List.getElem?_of_mem hk
  have : (i : Int) ∈ litK n ks t ks.length := by
    unfold litK
    refine List.mem_map.mpr ⟨i, List.mem_filter.mpr ⟨List.mem_range.mpr (List.getElem?_eq_some_iff.mp hi).1, decide_eq_true ?_⟩, rfl⟩
    rw [List.getD_eq_getElem?_getD, hi]
    exact hl
  cases e : litK n ks t ks.length with
  | nil => rw [e] at this; cases this
  | cons z r => exact ⟨z, r, rfl⟩
/-- with one that is half as often -/
theorem rare_bright {m b : Int} {n : Nat} {A B : List (Int × Int)} {r : Int × Int} {js : List Nat} (h : RulerS m b n (A ++ B) js) (mem : ∀ k, k ∈ js ↔ 1 ≤ k ∧ k ≤ n) (hr : Sees m b r (fun t => (2 : Int) ^ (n + 1) ∣ t - (2 ^ n - 1))) {t : Int} :
    Bright (A ++ [r] ++ B) (b + t * m) ↔ ¬ (2 : Int) ^ (n + 1) ∣ t + 1 := by
  have e1 : Bright (A ++ [r] ++ B) (b + t * m) ↔ Bright (A ++ B) (b + t * m) ∨ (2 : Int) ^ (n + 1) ∣ t - (2 ^ n - 1) := by
    rw [bright_app2, bright_app2, bright_app2]
    have e2 : Bright [r] (b + t * m) ↔ (2 : Int) ^ (n + 1) ∣ t - (2 ^ n - 1) := by
      exact Iff.trans ⟨fun ⟨l, hl, hd⟩ => by rw [List.mem_singleton.mp hl] at hd; exact hd, fun hd => ⟨r, List.mem_singleton.mpr rfl, hd⟩⟩ (hr.2 t)
    rw [e2]
    constructor
    · rintro ((h1 | h1) | h1)
      · exact .inl (.inl h1)
      · exact .inr h1
      · exact .inl (.inr h1)
    · rintro ((h1 | h1) | h1)
      · exact .inl (.inl h1)
      · exact .inr h1
      · exact .inl (.inr h1)
  rw [e1, h.first mem]
  have e3 : t - (2 ^ n - 1) = t + 1 - 2 ^ n := by omega
  rw [e3]
  have p2 : (2 : Int) ^ (n + 1) = 2 ^ n * 2 := Int.pow_succ ..
  have p0 : (0 : Int) < 2 ^ n := Int.pow_pos (by decide)
  rw [p2]
  generalize (2 : Int) ^ n = w at *
  constructor
  · rintro (h1 | ⟨c, hc⟩) ⟨d, hd⟩
    · exact h1 ⟨2 * d, by rw [hd, Int.mul_assoc]⟩
    · have e4 : w * (2 * d - 2 * c) = w * 1 := by
        rw [Int.mul_sub, ← Int.mul_assoc, ← Int.mul_assoc, ← hc, ← hd]; omega
      have := Int.eq_of_mul_eq_mul_left (by omega) e4
      omega
  · intro hn
    by_cases hw : w ∣ t + 1
    · obtain ⟨c, hc⟩ := hw
      rcases Int.emod_two_eq c with e | e
      · exact absurd ⟨c / 2, by rw [hc, Int.mul_assoc]; congr 1; omega⟩ hn
      · refine .inr ⟨c / 2, ?_⟩
        rw [hc, Int.mul_assoc, show 2 * (c / 2) = c - 1 by omega, Int.mul_sub, Int.mul_one]
    · exact .inl hw
theorem erase_mem {n : Nat} {ks : List Nat} {pl : Nat} (nd : ks.Nodup) (hp : ks[pl]? = some (n + 1)) (mem : ∀ k, k ∈ ks ↔ 1 ≤ k ∧ k ≤ n + 1) (k : Nat) : k ∈ ks.take pl ++ ks.drop (pl + 1) ↔ 1 ≤ k ∧ k ≤ n := by
  rw [← List.eraseIdx_eq_take_drop_succ, List.mem_eraseIdx_iff_getElem?]
  constructor
  · rintro ⟨i, h1, h2⟩
    have h3 := (mem k).mp (List.mem_of_getElem? h2)
    have : k ≠ n + 1 := by
      rintro rfl
      exact h1 ((List.getElem?_inj (List.getElem?_eq_some_iff.mp h2).1 nd).mp (h2.trans hp.symm))
    omega
  · rintro ⟨h1, h2⟩
    obtain ⟨i, hi⟩ := List.getElem?_of_mem ((mem k).mpr ⟨h1, by omega⟩)
    refine ⟨i, ?_, hi⟩
    rintro rfl
    rw [hp] at hi
    injection hi
    omega
end

section
set_option maxHeartbeats 4000000
variable {P : Program} {w : World} {K : PySem.W.Frag} {mg : Str → Option Value} {base : Heap}
/-- numbers in a list -/
def NumsK (H : Hp) (N : Addr) (ns : List Nat) : Prop := H N = some (.lst ((ns.map fun i : Nat => (i : Int)).map V.int))
theorem prs_pick (is : List Nat) (zs : List (Addr × (Int × Int))) : prs (pickN is zs) = pickN is (prs zs) := by
  unfold prs
  rw [pick_map]
def spOthers : Sp := fun vs H Q _ => ∃ (s : Addr) (n : Nat) (W : Addr) (m b : Int) (c : Nat), vs = [.ref s, .ref W, .int c] ∧ Src H s n ∧ n < 50000 ∧ W ≠ s ∧ H W = some (.tup [.int m, .int b]) ∧ Grt m ∧ 0 ≤ b ∧ b < m ∧ 1 ≤ c ∧ c ≤ 8 ∧
  ∀ F zs H', PairsA H' F zs → H F = none → zs.length = c → OkZ zs → RulerS m b c (prs zs) ((List.range c).map (· + 1)) → Src H' s (n + 10) → Dr s H H' → Q (.ref F) H'
theorem ok_l_others (T : Top K mg) : FnOk P w K mg base CX0 5 T.f_l_others T.d_l_others ["_law_source_here", "_law_lamp", "_law_many"] spOthers := by
  have G_l_seen_as := ok_l_seen_as (P := P) (w := w) (base := base) T
  refine T.F_l_others.ok sc_l_others (fun vs H Q E h => ?_) (fun cdv A outer s H vs Q E hr h => ?_)
  · obtain ⟨s, n, W, m, b, c, rfl, _⟩ := h; rfl
  · obtain ⟨s, n, W, m, b, c, rfl, hs, hn, nW, eW, hm, b0, b1, c1, c8, q⟩ := h
    refine ⟨_, (pss_cons (ps_set (i := 3) sc_l_others.nd rfl (Or.inr rfl) (pe_op op_sub (pe_op op_oneShl pe_int (pv 2)) pe_int))
      (pss_one (ps_ret (pe_lc (own := [("_law_k", 4)]) (g := gName 4) (by rfl) sc_l_others.nd (pi_range2 (by rfl) T.n_range (pa_cons pe_int (pa_cons (pe_op op_add (pv 2) pe_int) pa_nil))) (blkOk_by (own := [("_law_k", 4)]) (N := ["_law_source_here", "_law_lamp", "_law_many", "_law_last", "_law_k"]) (sc := defScope s_l_others) (by decide +kernel)) (fun _ _ _ _ _ => by exact (pg_name (i := 4) sc_l_others.nd rfl (Or.inl rfl))) (fun _ _ _ _ _ => by exact (pts_nil)) (fun _ _ _ _ _ => by exact (pe_call G_l_seen_as (hr.mono (by decide)) rfl T.g_l_seen_as T.F_l_seen_as.kp T.b_l_seen_as .nil pass0 (pa_cons (pv 0) (pa_cons (pv 1) (pa_cons (pe_op op_oneShl pe_int (pv 4)) (pa_cons (pe_op op_add (pv 3) (pe_op op_oneShl pe_int (pe_op op_sub (pv 4) pe_int))) pa_nil)))))))))), ?_⟩
    obtain ⟨m0, m1, mc⟩ := hm
    refine ⟨_, rfl, c, rfl, rfl, by omega, _, _, rfl, rfl, ?_⟩
    refine ⟨_, rfl, _, _, rfl, rfl, 1, _, rfl, ⟨by omega, by omega, by omega, by omega⟩, ?_⟩
    rw [show (((c : Nat) : Int) + 1 - 1).toNat = c by omega]
    have w8 : (2 : Int) ^ c ≤ 2 ^ 8 := by
      have : (2 : Nat) ^ c ≤ 2 ^ 8 := Nat.pow_le_pow_right (by decide) c8
      exact_mod_cast this
    have wc : (0 : Int) < 2 ^ c := Int.pow_pos (by decide)
    refine fun F hF => lc_range (lo := 1) (n := c) (fun i H' => ∃ zs : PZ, PairsA H' F zs ∧ zs.length = i ∧ OkZ zs ∧ RulerS m b c (prs zs) ((List.range i).map (· + 1)) ∧ Src H' s (n + i) ∧ Dr s H H') ⟨[], ⟨upd_same, fun _ h => nomatch h⟩, rfl, (fun _ h => nomatch h), ⟨rfl, fun i z k h => by cases h⟩, hs.same (same_new hF), Dr.of (same_new hF)⟩ ?_ ?_
    · rintro i H1 hi ⟨zs, hp, lz, ok, rs, hs1, D⟩
      have nF := ne_src hs hF
      have eW1 := D _ _ eW nW
      have wi : (2 : Int) ^ (i + 1) ≤ 2 ^ 8 := by
        have : (2 : Nat) ^ (i + 1) ≤ 2 ^ 8 := Nat.pow_le_pow_right (by decide) (by omega)
        exact_mod_cast this
      have wp : (0 : Int) < 2 ^ (i + 1) := Int.pow_pos (by decide)
      have wh : (0 : Int) < 2 ^ i := Int.pow_pos (by decide)
      have whi : (2 : Int) ^ i ≤ 2 ^ (i + 1) := by rw [Int.pow_succ]; omega
      refine ⟨rfl, ?_⟩
      refine ⟨_, rfl, _, rfl, _, rfl, i + 1, rfl, congrArg V.int (by omega), by omega, _, rfl, _, rfl, _, _, rfl, rfl, i, rfl, congrArg V.int (by omega), by omega, _, _, rfl, rfl, ?_⟩
      refine ⟨s, _, W, m, b, 2 ^ (i + 1), 2 ^ c - 1 + 2 ^ i, rfl, hs1, by omega, nW, eW1, m0, m1, wp, by omega, by omega, by omega, fun U d H2 d0 dm eU hU hs2 d2 => ?_⟩
      have hp2 := hp.dr hs1 d2
      have D2 := D.trans d2
      have dl : d ≤ m := Int.le_of_dvd m0 dm
      have pd : (0 : Int) < 2 ^ (i + 1) * d := Int.mul_pos wp d0
      have pu : (2 : Int) ^ (i + 1) * d ≤ 2 ^ 8 * 10 ^ 41 := Int.mul_le_mul wi (by omega) (by omega) (by decide)
      refine ⟨_, hp2.1, ?_, zs ++ [(U, (2 ^ (i + 1) * d, (b + (2 ^ c - 1 + 2 ^ i) * m) % (2 ^ (i + 1) * d)))], pairs_app hp2 eU, by rw [List.length_append, lz]; rfl, fun y hy => ?_, ?_, (hs2.mut nF).mono (by omega), D2.mut hF⟩
      · rw [refsZ_len, lz]
        exact Nat.lt_of_lt_of_le (show i < 11 by omega) (by decide)
      · rcases List.mem_append.mp hy with h | h
        · exact ok y h
        · rw [List.mem_singleton.mp h]
          exact ⟨pd, by show 2 ^ (i + 1) * d < 2 ^ 250; omega⟩
      · rw [List.range_succ, List.map_append]
        unfold prs
        rw [List.map_append]
        exact rs.more ((sees_of mc d0 dm).iff fun t => lit_lo (n := c) (k := i + 1) (by omega) (by omega))
    · rintro H1 ⟨zs, hp, lz, ok, rs, hs1, D⟩
      exact q F zs H1 hp hF lz ok rs (hs1.mono (by omega)) D
theorem lit_test {c k j : Nat} (h1 : 1 ≤ k) : (V.int (((j : Int) + 1).fmod (2 ^ (min k c))) = V.int (2 ^ (k - 1) * if decide ((k : Int) ≤ (c : Int)) = true then 1 else 0)) ↔ Lit c k (j : Int) := by
  rw [V.int.injEq, Int.fmod_eq_emod_of_nonneg _ (Int.le_of_lt (Int.pow_pos (by decide)))]
  unfold Lit
  by_cases h : k ≤ c
  · rw [if_pos h, Nat.min_eq_left h, if_pos (decide_eq_true (by omega)), Int.mul_one]
  · rw [if_neg h, Nat.min_eq_right (by omega), if_neg (by rw [decide_eq_true_eq]; omega), Int.mul_zero]
theorem dp_papersH {H : Hp} {p : Addr} {pss : List (List Int)} (h : PapersAt H p pss) : Dp K H (.ref p) (.list (pss.map dInts)) := by
  obtain ⟨as, e, hl, ha⟩ := h
  refine .lst (SqL.of e) ?_
  clear e
  induction as generalizing pss with
  | nil =>
    cases pss with
    | nil => exact .nil
    | cons x xs => cases hl
  | cons a as ih =>
    cases pss with
    | nil => cases hl
    | cons x xs => exact .cons (dp_ints (ha 0 a x rfl rfl)) (ih (by simpa using hl) fun j b ns e1 e2 => ha (j + 1) b ns e1 e2)
theorem okD_papersH (pss : List (List Int)) : OkD 2 (.list (pss.map dInts)) := okD_list fun d hd => by
  obtain ⟨x, _, rfl⟩ := List.mem_map.mp hd
  exact okD_ints x
def spMoreRt : Sp := fun vs H Q _ => ∃ (s : Addr) (n : Nat) (W O S : Addr) (m b : Int) (c : Nat) (zs : PZ) (ks : List Nat), vs = [.ref s, .ref W, .int c, .ref O, .ref S] ∧ Src H s n ∧ n < 45000 ∧ W ≠ s ∧ H W = some (.tup [.int m, .int b]) ∧ Grt m ∧ 0 ≤ b ∧ b < m ∧ 1 ≤ c ∧ c ≤ 8 ∧
  NumsK H O ks ∧ O ≠ s ∧ PairsA H S zs ∧ OkZ zs ∧ RulerS m b c (prs zs) ks ∧ ks.length = c + 1 ∧ (∀ k, k ∈ ks ↔ 1 ≤ k ∧ k ≤ c + 1) ∧ ks.Nodup ∧ ∀ H', Src H' s (n + 10) → Dr s H H' → Q (.bl true) H'
theorem ok_l_more_right (T : Top K mg) : FnOk P w K mg base CX0 9 T.f_l_more_right T.d_l_more_right ["_law_source_here", "_law_lamp", "_law_many", "_law_order", "_law_some"] spMoreRt := by
  have G_Lamp_eq := ok_Lamp_eq (P := P) (w := w) (base := base) T
  have G_idle := ok_idle (P := P) (w := w) (base := base) T
  have G_l_made := ok_l_made (P := P) (w := w) (base := base) T
  have G_l_seen_as := ok_l_seen_as (P := P) (w := w) (base := base) T
  have G_may_go := ok_may_go (P := P) (w := w) (base := base) T
  refine T.F_l_more_right.ok sc_l_more_right (fun vs H Q E h => ?_) (fun cdv A outer s H vs Q E hr h => ?_)
  · obtain ⟨s, n, W, O, S, m, b, c, zs, ks, rfl, _⟩ := h; rfl
  · obtain ⟨s, n, W, O, S, m, b, c, zs, ks, rfl, hs, hn, nW, eW, hm, b0, b1, c1, c8, eO, nO, hp, ok, rs, lk, mem, nd, q⟩ := h
    refine ⟨_, (pss_cons (ps_set (i := 5) sc_l_more_right.nd rfl (Or.inl rfl) (pe_call G_l_made (hr.mono (by decide)) rfl T.g_l_made T.F_l_made.kp T.b_l_made .nil pass0 (pa_cons (pe_op op_catS (pv 4) (pe_lst (pa_cons (pv 1) pa_nil))) pa_nil)))
      (pss_cons (ps_if (pt_cmpR op_notIn_seq (pe_op op_add (pv 2) pe_int) (pe_call G_idle (hr.mono (by decide)) rfl T.g_idle T.F_idle.kp T.b_idle .nil pass0 (pa_cons (pv 5) pa_nil)) (by with_unfolding_all rfl)) (pss_one (ps_ret pe_bl)) pss_nil)
      (pss_cons (ps_set (i := 6) sc_l_more_right.nd rfl (Or.inl rfl) (pe_lst pa_nil))
      (pss_cons (ps_for PassesOwn.never rfl (pi_range1 (by rfl) T.n_range (pa_cons (pe_op op_oneShl pe_int (pe_op op_add (pv 2) pe_int)) pa_nil)) (pg_name (i := 7) sc_l_more_right.nd rfl (Or.inl rfl)) (pss_cons (ps_set (i := 8) sc_l_more_right.nd rfl (Or.inr rfl) (pe_op op_add (pv 7) pe_int))
      (pss_cons (ps_setLc (i := 9) (own := [("_law_j", 12), ("_law_k", 13)]) (g := gTup K 2 (gCons (gName 12) (gCons (gName 13) gNil))) (tt := _) (by rfl) sc_l_more_right.nd rfl rfl (sw_true rfl rfl rfl (by decide +kernel)) (pi_enum (by rfl) T.n_enumerate (pa_cons (pv 3) pa_nil)) (blkOk_by (own := [("_law_j", 12), ("_law_k", 13)]) (N := ["_law_source_here", "_law_lamp", "_law_many", "_law_order", "_law_some", "_law_made_here", "_law_paper", "_law_at", "_law_apart", "_law_lit", "_law_place", "_law_rare", "_law_j", "_law_k"]) (sc := defScope s_l_more_right) (by decide +kernel)) (fun _ _ _ _ _ => by exact (pg_tupB (K := K) rfl (by rfl) (pgs_cons (pg_name (i := 12) sc_l_more_right.nd rfl (Or.inl rfl)) (pgs_cons (pg_name (i := 13) sc_l_more_right.nd rfl (Or.inl rfl)) pgs_nil)))) (fun _ _ _ _ _ => by exact (pts_one (pt_cmpR op_eq (pe_op op_modN (pv 8) (pe_op op_oneShl pe_int (pe_callB (call_min2 rfl) (by rfl) T.n_min (by decide +kernel) (pa_cons (pv 13) (pa_cons (pv 2) pa_nil))))) (pe_op op_mulW (pe_op op_oneShl pe_int (pe_op op_sub (pv 13) pe_int)) (pe_callTy call_int1 (by rfl) T.n_int (by decide +kernel) (pa_cons (pe_cmpR op_le (pv 13) (pv 2) (nomark _)) pa_nil))) (nomark _)))) (fun _ _ _ _ _ => by exact ((pv 12))))
      (pss_one (ps_expr (pe_bm PySem.F.plainAttrs_list PySem.F.slot_list_append PySem.F.type_list_append mt_append (pv 6) (pa_cons (pe_ix ix_list (pv 9) pe_int (fun _ _ => rfl)) pa_nil)))))))
      (pss_cons (ps_if (pt_cmpR (op_neD hr.units) (pe_call G_may_go (hr.mono (by decide)) rfl T.g_may_go T.F_may_go.kp T.b_may_go .nil pass0 (pa_cons (pv 5) (pa_cons (pe_tup (pa_cons (pe_op op_add (pv 2) pe_int) pa_nil)) pa_nil))) (pe_tup (pa_cons pe_str (pa_cons (pe_lst (pa_cons (pv 6) pa_nil)) pa_nil))) (nomark _)) (pss_one (ps_ret pe_bl)) pss_nil)
      (pss_cons (ps_set (i := 10) sc_l_more_right.nd rfl (Or.inl rfl) (pe_bm PySem.F.plainAttrs_list PySem.F.slot_list_index PySem.F.type_list_index mt_index (pv 3) (pa_cons (pe_op op_add (pv 2) pe_int) pa_nil)))
      (pss_cons (ps_set (i := 11) sc_l_more_right.nd rfl (Or.inl rfl) (pe_call G_l_seen_as (hr.mono (by decide)) rfl T.g_l_seen_as T.F_l_seen_as.kp T.b_l_seen_as .nil pass0 (pa_cons (pv 0) (pa_cons (pv 1) (pa_cons (pe_op op_oneShl pe_int (pe_op op_add (pv 2) pe_int)) (pa_cons (pe_op op_sub (pe_op op_oneShl pe_int (pv 2)) pe_int) pa_nil))))))
      (pss_cons (ps_set (i := 5) sc_l_more_right.nd rfl (Or.inl rfl) (pe_call G_l_made (hr.mono (by decide)) rfl T.g_l_made T.F_l_made.kp T.b_l_made .nil pass0 (pa_cons (pe_op op_catS (pe_op op_catS (pe_op op_catS (pe_slice sl_list (pv 4) po_none (po_some (pv 10))) (pe_lst (pa_cons (pv 11) pa_nil))) (pe_slice sl_list (pv 4) (po_some (pe_op op_add (pv 10) pe_int)) po_none)) (pe_lst (pa_cons (pv 1) pa_nil))) pa_nil)))
      (pss_one (ps_ret (pe_cmpR (op_eqD hr.units) (pe_call G_may_go (hr.mono (by decide)) rfl T.g_may_go T.F_may_go.kp T.b_may_go .nil pass0 (pa_cons (pv 5) (pa_cons (pe_lst (pa_cons (pe_op op_add (pv 2) pe_int) pa_nil)) pa_nil))) (pe_tup (pa_cons pe_str (pa_cons (pe_op op_add (pe_ix ix_tup (pv 1) pe_int (fun _ _ => rfl)) (pe_op op_mulW (pe_op op_sub (pe_op op_oneShl pe_int (pe_op op_add (pv 2) pe_int)) pe_int) (pe_ix ix_tup (pv 1) pe_int (fun _ _ => rfl)))) pa_nil))) (nomark _)))))))))))), ?_⟩
    obtain ⟨m0, m1, mc⟩ := id hm
    have D := Dr.refl s H
    have lz : zs.length = c + 1 := by rw [← prs_len, rs.1, lk]
    refine ⟨_, rfl, _, rfl, (by show 1 ≤ sizeLine; decide), fun l hl => ?_⟩
    generalize hX_ : upd _ l _ = H1; have sl := Same.of_upd hX_ hl; have el := upd_of hX_; clear hX_
    replace eW := sl _ _ eW
    replace eO : NumsK H1 O ks := sl _ _ eO
    replace hp := hp.same (sl); replace hs := hs.same (sl); replace D := D.then (sl)
    refine ⟨S, l, _, _, rfl, rfl, SqL.of hp.1, SqL.of el, ?_, fun G hG => ?_⟩
    · rw [refsZ_len]
      exact Nat.le_trans (show zs.length + 1 ≤ 20 by omega) (by decide)
    rw [show refsZ zs ++ [V.ref W] = refsZ (zs ++ [(W, (m, b))]) from refsZ_app _ [(W, (m, b))]]
    generalize hX_ : upd _ G _ = H2; have sG := Same.of_upd hX_ hG; have eG := upd_of hX_; clear hX_
    replace eW := sG _ _ eW
    replace eO : NumsK H2 O ks := sG _ _ eO
    replace hp := hp.same (sG); replace hs := hs.same (sG); replace D := D.then (sG)
    have hpG : PairsA H2 G (zs ++ [(W, (m, b))]) := ⟨eG, fun y hy => (List.mem_append.mp hy).elim (hp.2 y) fun h => List.mem_singleton.mp h ▸ eW⟩
    have okG : OkZ (zs ++ [(W, (m, b))]) := fun y hy => (List.mem_append.mp hy).elim (ok y) fun h => List.mem_singleton.mp h ▸ ⟨m0, by show m < 2 ^ 250; omega⟩
    have nW1 : nrm (m, b) = (m, b) := Prod.ext rfl (Int.emod_eq_of_lt b0 b1)
    have eZ : (prs (zs ++ [(W, (m, b))])).map nrm = (prs zs).map nrm ++ [(m, b)] := by
      unfold prs
      rw [List.map_append, List.map_append]
      show _ ++ [nrm (m, b)] = _
      rw [nW1]
    have rN := rs.nrms
    have lS1 : ((prs zs).map nrm).length = c + 1 := by rw [List.length_map, prs_len]; exact lz
    refine ⟨G, _, rfl, hpG, okG, by rw [List.length_append]; show zs.length + 1 ≤ 10; omega, fun g H3 s3 _ hg => ?_⟩
    rw [eZ] at hg
    replace eW := s3 _ _ eW
    replace eO : NumsK H3 O ks := s3 _ _ eO
    replace hp := hp.same (s3); replace hs := hs.same (s3); replace D := D.then (s3)
    clear hl el sl hG eG sG hpG okG eZ
    generalize hS1 : (prs zs).map nrm = S1 at *
    have lL : (S1 ++ [(m, b)]).length = c + 2 := by rw [List.length_append, lS1]; rfl
    have t2 : (S1 ++ [(m, b)])[c + 1]? = some (m, b) := by rw [List.getElem?_append_right (by omega), lS1, Nat.sub_self]; rfl
    have t1 : (S1 ++ [(m, b)]).take (c + 1) ++ (S1 ++ [(m, b)]).drop (c + 1 + 1) = S1 := by
      rw [List.take_append_of_le_length (by omega), List.take_of_length_le (by omega), List.drop_eq_nil_of_le (by omega), List.append_nil]
    have hid : IdleAt (S1 ++ [(m, b)]) (c + 1) := ruler_idle t2 (S := S1) (fun x => by rw [t1]) fun t => rN.bright.mpr (rN.all mem t)
    -- idle
    refine ⟨_, rfl, _, _, rfl, rfl, _, rfl, g, 250, _, rfl, hg, by omega, by decide, fun I H4 s4 _ eI => ⟨I, _, rfl, .inl (SqL.of eI), rfl, flat_ints _, _, rfl, ?_⟩⟩
    rw [inV_ints, decide_eq_true (show (c : Int) + 1 ∈ idleL (S1 ++ [(m, b)]) from idle_mem (i := c + 1) |>.mpr hid)]
    refine iteF ?_
    replace eW := s4 _ _ eW
    replace eO : NumsK H4 O ks := s4 _ _ eO
    replace hp := hp.same (s4); replace hg := hg.same (s4); replace hs := hs.same (s4); replace D := D.then (s4)
    clear eI
    -- the paper
    refine ⟨(by show 0 ≤ sizeLine; decide), fun Q0 hQ0 => ?_⟩
    have nQ := ne_src hs hQ0
    generalize hX_ : upd _ Q0 _ = H5; have sQ0 := Same.of_upd hX_ hQ0; have eQ0 := upd_of hX_; clear hX_
    have w9 : (2 : Nat) ^ (c + 1) ≤ 2 ^ 9 := Nat.pow_le_pow_right (by decide) (by omega)
    refine ⟨_, rfl, _, _, rfl, rfl, c + 1, rfl, rfl, by omega, ((2 ^ (c + 1) : Nat) : Int), congrArg (fun x => [V.int x]) (show (2 : Int) ^ (c + 1) = ((2 ^ (c + 1) : Nat) : Int) by norm_cast), Int.le_trans (by decide) (Int.natCast_nonneg _), Int.lt_of_le_of_lt (Int.ofNat_le.mpr w9) (by decide), for_range (lo := 0) (n := 2 ^ (c + 1)) (fun j σ H' => (∃ v7 v8 v9 v10 v11 v12 v13, σ = [some (.ref s), some (.ref W), some (.int c), some (.ref O), some (.ref S), some (.ref g), some (.ref Q0), v7, v8, v9, v10, v11, v12, v13]) ∧ Same H4 H' ∧ H' Q0 = some (.lst (((List.range j).map fun t : Nat => (litK c ks (t : Int) (c + 1)).headD 0).map V.int))) ⟨⟨_, _, _, _, _, _, _, rfl⟩, sQ0, eQ0⟩ ?_ ?_⟩
    · rintro j σ H6 hj ⟨⟨v7, v8, v9, v10, v11, v12, v13, rfl⟩, s6, eQ⟩
      have eO6 : NumsK H6 O ks := s6 _ _ eO
      refine ⟨_, rfl, _, _, rfl, rfl, ?_⟩
      dsimp only
      rw [Int.zero_add]
      refine ⟨_, rfl, O, _, rfl, SqL.of eO6, fun D9 hD9 => lc_it (walk_enum (K := K) (a := O) (xs := (ks.map fun i : Nat => (i : Int)).map V.int)) (fun i H' => Same H6 H' ∧ H' D9 = some (.lst ((litK c ks (j : Int) i).map V.int))) ⟨same_new hD9, upd_same⟩ (fun i H' _ ⟨s3, _⟩ => SqL.of (s3 _ _ eO6)) ?_ ?_⟩
      · rintro i x H7 H8 hi ⟨s3, hD3⟩ ⟨T', x1, x2, rfl, hT', rfl, e1, e2⟩
        cases e1
        obtain ⟨y, hy, rfl⟩ := get_map e2
        obtain ⟨k, hk, rfl⟩ := get_map hy
        have s4 := same_at (o := .tup [.int (i : Nat), .int (k : Nat)]) s3 (back_none s3 hT')
        have s34 : Same H7 (upd H7 T' (.tup [.int (i : Nat), .int (k : Nat)])) := same_new hT'
        refine ⟨T', _, rfl, SqT.of upd_same, rfl, _, _, rfl, _, _, rfl, rfl, rfl, ?_⟩
        generalize upd H7 T' (.tup [.int (i : Nat), .int (k : Nat)]) = H8 at *
        have hD4 := s34 _ _ hD3
        have kb := (mem k).mp (List.mem_of_getElem? hk)
        have wk : (2 : Int) ^ (k - 1) ≤ 2 ^ 8 := by
          have : (2 : Nat) ^ (k - 1) ≤ 2 ^ 8 := Nat.pow_le_pow_right (by decide) (by omega)
          exact_mod_cast this
        have wk0 : (0 : Int) < 2 ^ (k - 1) := Int.pow_pos (by decide)
        refine ⟨_, rfl, _, rfl, _, rfl, _, _, rfl, min k c, rfl, congrArg V.int (by split <;> omega), by omega, _, _, rfl, rfl, two_ne _, _, rfl, _, _, rfl, rfl, k - 1, rfl, congrArg V.int (by omega), by omega, _, rfl, _, rfl, _, _, rfl, rfl, .inr ⟨_, rfl, _, _, rfl, rfl, mw (by omega) (by omega) (by split <;> omega) (by split <;> omega), rfl, _, rfl, ?_⟩⟩
        by_cases hl : Lit c k (j : Int)
        · rw [decide_eq_true ((lit_test kb.1).mpr hl)]
          refine iteT ⟨_, rfl, _, hD4, ?_, same_at (s3.trans s34) hD9, ?_⟩
          · rw [List.length_map]
            unfold litK
            rw [List.length_map]
            have h1 := List.length_filter_le (fun q => decide (Lit c (ks.getD q 0) (j : Int))) (List.range i)
            rw [List.length_range] at h1
            have h2 := (List.getElem?_eq_some_iff.mp hk).1
            exact Nat.lt_of_le_of_lt h1 (Nat.lt_of_lt_of_le (show i < 11 by omega) (by decide))
          · rw [upd_same, litK_succ hk, if_pos hl, List.map_append]
            rfl
        · rw [decide_eq_false (fun z => hl ((lit_test kb.1).mp z))]
          refine iteF ⟨s3.trans s34, ?_⟩
          rw [litK_succ hk, if_neg hl, List.append_nil]
          exact hD4
      · rintro H7 ⟨s3, hD3⟩
        obtain ⟨z, r, er⟩ := rN.lit mem (j : Int)
        rw [lk] at er
        rw [List.length_map, List.length_map, lk, er] at hD3
        have eQ7 := s3 _ _ eQ
        refine ⟨_, rfl, .inl ⟨rfl, _, SqL.of eQ7⟩, _, rfl, D9, _, _, _, rfl, rfl, SqL.of hD3, at_of (j := 0) rfl rfl, Q0, _, _, rfl, rfl, eQ7, ?_, ⟨_, _, _, _, _, _, _, rfl⟩, same_at (s6.trans s3) hQ0, ?_⟩
        · rw [List.length_map, List.length_map, List.length_range]
          exact Nat.lt_of_lt_of_le (show j < 513 by omega) (by decide)
        · rw [upd_same, List.range_succ, List.map_append, List.map_append]
          show _ = some (HO.lst (_ ++ [V.int ((litK c ks (j : Int) (c + 1)).headD 0)]))
          rw [er]
          rfl
    · rintro σ H6 ⟨⟨v7, v8, v9, v10, v11, v12, v13, rfl⟩, s6, eQ⟩
      replace eW := s6 _ _ eW
      replace eO : NumsK H6 O ks := s6 _ _ eO
      replace hp := hp.same (s6); replace hg := hg.same (s6); replace hs := hs.same (s6); replace D := D.then (s6)
      rw [← rN.paper (S := S1) lk] at eQ
      clear hQ0 sQ0 eQ0
      -- may it go
      refine ⟨_, rfl, _, rfl, _, _, rfl, rfl, (by show 1 ≤ sizeLine; decide), fun T1 hT1 => ?_⟩
      generalize hX_ : upd _ T1 _ = H7; have sT1 := Same.of_upd hX_ hT1; have eT1 := upd_of hX_; clear hX_
      have ha : AloneIs (S1 ++ [(m, b)]) (c + 1) none := hid
      replace hg7 := hg.same sT1
      refine ⟨g, T1, 250, S1 ++ [(m, b)], [((c + 1 : Nat) : Int)], rfl, hg7, by omega, by decide, .inr ⟨eT1, by show 1 < 64; decide⟩, by show 1 ≤ 1000; decide, by simp, fun z hz => by (rw [List.mem_singleton.mp hz]; omega), fun p HL sL _ hT => ?_⟩
      obtain ⟨q0, os, ep, pm, _, hP, _⟩ : ∃ (q : Addr) (os : List Int), HL p = some (.tup [.str "go", .ref q]) ∧ os.Perm [((c + 1 : Nat) : Int)] ∧ os.Pairwise (· ≤ ·) ∧ PapersAt HL q (os.map (goP (S1 ++ [(m, b)]) [((c + 1 : Nat) : Int)])) ∧ FirstO (S1 ++ [(m, b)]) (keptL [((c + 1 : Nat) : Int)] (S1 ++ [(m, b)])) 0 none := by
        rcases hT with ⟨b', e, f⟩ | h
        · exact absurd (single_go ha f) (by intro z; cases z)
        · exact h
      rw [List.perm_singleton.mp pm] at hP
      replace eQ := sL _ _ (sT1 _ _ eQ)
      refine ⟨_, rfl, (by show 1 ≤ sizeLine; decide), fun l hl => ?_⟩
      have s8 := same_new (o := .lst [.ref Q0]) hl
      have eQ8 := s8 _ _ eQ
      have el : upd HL l (.lst [.ref Q0]) l = some (.lst [.ref Q0]) := upd_same
      generalize upd HL l (.lst [.ref Q0]) = H8 at *
      refine ⟨(by show 2 ≤ sizeLine; decide), fun U hU => ?_⟩
      have s9 := same_new (o := .tup [.str "go", .ref l]) hU
      refine neD_self (d := .tuple [.str "go", .list ([goP (S1 ++ [(m, b)]) [((c + 1 : Nat) : Int)] ((c + 1 : Nat) : Int)].map dInts)]) (n := 3) (.tup (SqT.of (s9 _ _ (s8 _ _ ep))) (.cons (.str _) (.cons (dp_papersH (hP.same (s8.trans s9))) .nil))) (.tup (SqT.of upd_same) (.cons (.str _) (.cons (.lst (SqL.of (s9 _ _ el)) (.cons (dp_ints (s9 _ _ eQ8)) .nil)) .nil))) (okD_tup fun x hx => by
        simp only [List.mem_cons, List.not_mem_nil, or_false] at hx
        rcases hx with rfl | rfl
        · exact (okD_str (by decide +kernel)).mono (by decide)
        · exact okD_papersH _) (by decide) ⟨_, rfl, iteF ?_⟩
      have sJ := sT1.trans (sL.trans (s8.trans s9))
      generalize upd H8 U (.tup [.str "go", .ref l]) = H9 at *
      replace eW := sJ _ _ eW
      replace eO : NumsK H9 O ks := sJ _ _ eO
      replace hp := hp.same (sJ); replace hs := hs.same (sJ); replace D := D.then (sJ)
      clear hg hg7 hT1 eT1 sT1 sL hT ep pm hP eQ hl s8 eQ8 el hU s9 sJ ha hid
      -- its place, and one half as often
      obtain ⟨pl, hpl⟩ := List.getElem?_of_mem ((mem (c + 1)).mpr ⟨by omega, Nat.le_refl _⟩)
      have pll := (List.getElem?_eq_some_iff.mp hpl).1
      refine ⟨_, rfl, .inl ⟨rfl, _, SqL.of eO⟩, _, rfl, _, _, rfl, rfl, O, _, _, pl, .int ((c : Int) + 1), rfl, rfl, SqL.of eO, rfl, flat_ints _, by rw [List.getElem?_map, List.getElem?_map, hpl]; rfl, by show ((c : Int) + 1 == (c : Int) + 1) = true; exact beq_self_eq_true _, fun k z' hk ez => ?_, ?_⟩
      · obtain ⟨z, ez1, rfl⟩ := get_map ez
        obtain ⟨y, ey, rfl⟩ := get_map ez1
        have : y ≠ c + 1 := by
          rintro rfl
          have := (List.getElem?_inj (List.getElem?_eq_some_iff.mp ey).1 nd).mp (ey.trans hpl.symm)
          omega
        show ((y : Int) == (c : Int) + 1) = false
        exact beq_false_of_ne (by omega)
      have w9i : (2 : Int) ^ (c + 1) ≤ 2 ^ 9 := by exact_mod_cast w9
      have wc9 : (0 : Int) < 2 ^ (c + 1) := Int.pow_pos (by decide)
      have wc : (0 : Int) < 2 ^ c := Int.pow_pos (by decide)
      have wcc : (2 : Int) ^ (c + 1) = 2 ^ c * 2 := Int.pow_succ ..
      refine ⟨_, rfl, _, rfl, _, rfl, _, _, rfl, rfl, c + 1, rfl, rfl, by omega, _, rfl, c, rfl, rfl, by omega, _, _, rfl, rfl, s, _, W, m, b, 2 ^ (c + 1), 2 ^ c - 1, rfl, hs, by omega, nW, eW, m0, m1, wc9, by omega, by omega, by omega, fun U d HN d0 dm eU _ hs1 d1 => ?_⟩
      replace eW := d1 _ _ eW nW
      replace hp := hp.dr hs d1; replace D := D.trans d1; replace hs := hs1; clear hs1 d1
      have dl : d ≤ m := Int.le_of_dvd m0 dm
      have pu : (2 : Int) ^ (c + 1) * d ≤ 2 ^ 9 * 10 ^ 41 := Int.mul_le_mul w9i (by omega) (by omega) (by decide)
      have pd : (0 : Int) < 2 ^ (c + 1) * d := Int.mul_pos wc9 d0
      have seeU : Sees m b (2 ^ (c + 1) * d, (b + (2 ^ c - 1) * m) % (2 ^ (c + 1) * d)) (fun t => (2 : Int) ^ (c + 1) ∣ t - (2 ^ c - 1)) := sees_of mc d0 dm
      generalize hzU : ((2 : Int) ^ (c + 1) * d, (b + (2 ^ c - 1) * m) % (2 ^ (c + 1) * d)) = zU at *
      have eU : HN U = some (.tup [.int zU.1, .int zU.2]) := by rw [← hzU]; exact eU
      have okU : 0 < zU.1 ∧ zU.1 < 2 ^ 250 := by rw [← hzU]; exact ⟨pd, by show 2 ^ (c + 1) * d < 2 ^ 250; omega⟩
      clear hzU pd pu dl eO
      -- the light with it
      refine ⟨_, rfl, _, rfl, _, rfl, S, _, rfl, SqL.of hp.1, fun p1 hp1 => ?_⟩
      rw [show cutV (refsZ zs) none (some ((pl : Nat) : Int)) = refsZ (zs.take pl) by rw [cut_head (by omega), Int.toNat_natCast, refsZ_take]]
      generalize hX_ : upd _ p1 _ = HB; have sp1 := Same.of_upd hX_ hp1; have ep1 := upd_of hX_; clear hX_
      replace eW := sp1 _ _ eW
      replace eU := sp1 _ _ eU
      replace hp := hp.same (sp1); replace hs := hs.same (sp1); replace D := D.then (sp1)
      refine ⟨_, rfl, (by show 1 ≤ sizeLine; decide), fun l hl => ?_⟩
      generalize hX_ : upd _ l _ = HC; have sl := Same.of_upd hX_ hl; have el := upd_of hX_; clear hX_
      replace ep1 := sl _ _ ep1
      replace eW := sl _ _ eW
      replace eU := sl _ _ eU
      replace hp := hp.same (sl); replace hs := hs.same (sl); replace D := D.then (sl)
      refine ⟨p1, l, _, _, rfl, rfl, SqL.of ep1, SqL.of el, ?_, fun G1 hG1 => ?_⟩
      · rw [refsZ_len, List.length_take]
        exact Nat.le_trans (show _ + 1 ≤ 20 by omega) (by decide)
      rw [show refsZ (zs.take pl) ++ [V.ref U] = refsZ (zs.take pl ++ [(U, zU)]) from refsZ_app _ [(U, zU)]]
      generalize hX_ : upd _ G1 _ = HD; have sG1 := Same.of_upd hX_ hG1; have eG1 := upd_of hX_; clear hX_
      replace eW := sG1 _ _ eW
      replace eU := sG1 _ _ eU
      replace hp := hp.same (sG1); replace hs := hs.same (sG1); replace D := D.then (sG1)
      refine ⟨_, rfl, _, rfl, _, _, rfl, rfl, _, rfl, S, _, rfl, SqL.of hp.1, fun p2 hp2 => ?_⟩
      rw [show cutV (refsZ zs) (some ((pl : Nat) + 1 : Int)) none = refsZ (zs.drop (pl + 1)) by rw [cut_from (by omega), show ((pl : Int) + 1).toNat = pl + 1 by omega, refsZ_drop]]
      generalize hX_ : upd _ p2 _ = HE; have sp2 := Same.of_upd hX_ hp2; have ep2 := upd_of hX_; clear hX_
      replace eG1 := sp2 _ _ eG1
      replace eW := sp2 _ _ eW
      replace eU := sp2 _ _ eU
      replace hp := hp.same (sp2); replace hs := hs.same (sp2); replace D := D.then (sp2)
      refine ⟨G1, p2, _, _, rfl, rfl, SqL.of eG1, SqL.of ep2, ?_, fun G2 hG2 => ?_⟩
      · rw [refsZ_len, refsZ_len, List.length_append, List.length_take, List.length_drop]
        exact Nat.le_trans (show _ ≤ 20 by show min pl zs.length + 1 + (zs.length - (pl + 1)) ≤ 20; omega) (by decide)
      rw [refsZ_app]
      generalize hX_ : upd _ G2 _ = HF; have sG2 := Same.of_upd hX_ hG2; have eG2 := upd_of hX_; clear hX_
      replace eW := sG2 _ _ eW
      replace eU := sG2 _ _ eU
      replace hp := hp.same (sG2); replace hs := hs.same (sG2); replace D := D.then (sG2)
      refine ⟨_, rfl, (by show 1 ≤ sizeLine; decide), fun l2 hl2 => ?_⟩
      generalize hX_ : upd _ l2 _ = HG2; have sl2 := Same.of_upd hX_ hl2; have el2 := upd_of hX_; clear hX_
      replace eG2 := sl2 _ _ eG2
      replace eW := sl2 _ _ eW
      replace eU := sl2 _ _ eU
      replace hp := hp.same (sl2); replace hs := hs.same (sl2); replace D := D.then (sl2)
      refine ⟨G2, l2, _, _, rfl, rfl, SqL.of eG2, SqL.of el2, ?_, fun G3 hG3 => ?_⟩
      · rw [refsZ_len, List.length_append, List.length_append, List.length_take, List.length_drop]
        exact Nat.le_trans (show _ ≤ 20 by show min pl zs.length + 1 + (zs.length - (pl + 1)) + 1 ≤ 20; omega) (by decide)
      rw [show refsZ (zs.take pl ++ [(U, zU)] ++ zs.drop (pl + 1)) ++ [V.ref W] = refsZ (zs.take pl ++ [(U, zU)] ++ zs.drop (pl + 1) ++ [(W, (m, b))]) from refsZ_app _ [(W, (m, b))]]
      generalize hX_ : upd _ G3 _ = HK; have sG3 := Same.of_upd hX_ hG3; have eG3 := upd_of hX_; clear hX_
      replace eW := sG3 _ _ eW
      replace eU := sG3 _ _ eU
      replace hp := hp.same (sG3); replace hs := hs.same (sG3); replace D := D.then (sG3)
      clear hp1 ep1 sp1 hl sl hG1 eG1 sG1 hp2 ep2 sp2 hG2 eG2 sG2 hl2 el2 sl2 hG3 sG3
      have mZ : ∀ y ∈ zs.take pl ++ [(U, zU)] ++ zs.drop (pl + 1) ++ [(W, (m, b))], y ∈ zs ∨ y = (U, zU) ∨ y = (W, (m, b)) := fun y hy => by
        rcases List.mem_append.mp hy with h | h
        · rcases List.mem_append.mp h with h | h
          · rcases List.mem_append.mp h with h | h
            · exact .inl (List.mem_of_mem_take h)
            · exact .inr (.inl (List.mem_singleton.mp h))
          · exact .inl (List.mem_of_mem_drop h)
        · exact .inr (.inr (List.mem_singleton.mp h))
      have hpZ : PairsA HK G3 (zs.take pl ++ [(U, zU)] ++ zs.drop (pl + 1) ++ [(W, (m, b))]) := ⟨eG3, fun y hy => by
        rcases mZ y hy with h | rfl | rfl
        · exact hp.2 y h
        · exact eU
        · exact eW⟩
      have okZ : OkZ (zs.take pl ++ [(U, zU)] ++ zs.drop (pl + 1) ++ [(W, (m, b))]) := fun y hy => by
        rcases mZ y hy with h | rfl | rfl
        · exact ok y h
        · exact okU
        · exact ⟨m0, by show m < 2 ^ 250; omega⟩
      have lZ : (zs.take pl ++ [(U, zU)] ++ zs.drop (pl + 1) ++ [(W, (m, b))]).length = c + 2 := by
        rw [List.length_append, List.length_append, List.length_append, List.length_take, List.length_drop]
        show min pl zs.length + 1 + (zs.length - (pl + 1)) + 1 = c + 2
        omega
      have eZ : (prs (zs.take pl ++ [(U, zU)] ++ zs.drop (pl + 1) ++ [(W, (m, b))])).map nrm = (S1.take pl ++ [nrm zU] ++ S1.drop (pl + 1)) ++ [(m, b)] := by
        rw [← hS1]
        unfold prs
        rw [List.map_append, List.map_append, List.map_append, List.map_append, List.map_append, List.map_append, List.map_take, List.map_take, List.map_drop, List.map_drop]
        show _ ++ [nrm zU] ++ _ ++ [nrm (m, b)] = _
        rw [nW1]
      refine ⟨G3, _, rfl, hpZ, okZ, by omega, fun g2 HM s3 _ hg => ?_⟩
      rw [eZ] at hg
      replace eW := s3 _ _ eW
      replace hp := hp.same (s3); replace hs := hs.same (s3); replace D := D.then (s3)
      clear hpZ okZ lZ eZ mZ eG3
      have lU : (S1.take pl ++ [nrm zU] ++ S1.drop (pl + 1)).length = c + 1 := by
        rw [List.length_append, List.length_append, List.length_take, List.length_drop]
        show min pl S1.length + 1 + (S1.length - (pl + 1)) = c + 1
        omega
      have rB : RulerS m b c (S1.take pl ++ S1.drop (pl + 1)) (ks.take pl ++ ks.drop (pl + 1)) := (rN.take pl).app (rN.drop (pl + 1))
      have brt : ∀ {t : Int}, Bright (S1.take pl ++ [nrm zU] ++ S1.drop (pl + 1)) (b + t * m) ↔ ¬ (2 : Int) ^ (c + 1) ∣ t + 1 := fun {t} => rare_bright rB (fun k => erase_mem nd hpl mem k) seeU.nrm
      generalize S1.take pl ++ [nrm zU] ++ S1.drop (pl + 1) = S2 at *
      have q2 : (S2 ++ [(m, b)])[c + 1]? = some (m, b) := by rw [List.getElem?_append_right (by omega), lU, Nat.sub_self]; rfl
      have q1 : (S2 ++ [(m, b)]).take (c + 1) ++ (S2 ++ [(m, b)]).drop (c + 1 + 1) = S2 := by
        rw [List.take_append_of_le_length (by omega), List.take_of_length_le (by omega), List.drop_eq_nil_of_le (by rw [List.length_append, lU]; exact Nat.le_refl _), List.append_nil]
      have hal : AloneIs (S2 ++ [(m, b)]) (c + 1) (some (b + (2 ^ (c + 1) - 1) * m)) := ruler_alone b0 b1 q2 (S := S2) (fun x => by rw [q1]) (by omega) (by rw [brt]; exact fun z => z ⟨1, by omega⟩) (fun t h1 h2 => brt.mpr (pow_first h1 h2))
      have l2 : (S2 ++ [(m, b)]).length = c + 2 := by rw [List.length_append, lU]; rfl
      -- what it tells
      refine ⟨_, rfl, _, rfl, _, _, rfl, rfl, (by show 1 ≤ sizeLine; decide), fun l hl => ?_⟩
      generalize hX_ : upd _ l _ = HP; have sl := Same.of_upd hX_ hl; have el := upd_of hX_; clear hX_
      refine ⟨g2, l, 250, S2 ++ [(m, b)], [((c + 1 : Nat) : Int)], rfl, hg.same sl, by omega, by decide, .inl el, by show 1 ≤ 1000; decide, by simp, fun z hz => by (rw [List.mem_singleton.mp hz]; omega), fun p HR sR _ hT => ?_⟩
      obtain ⟨B, hB⟩ : ∃ B : Int, B = b + (2 ^ (c + 1) - 1) * m := ⟨_, rfl⟩
      rw [← hB] at hal
      have ep : HR p = some (.tup [.str "dark", .int B]) := by
        rcases hT with ⟨b', e, f⟩ | ⟨_, _, _, _, _, _, f⟩
        · have := single_go hal f
          cases this
          exact e
        · exact absurd (single_go hal f) (by intro z; cases z)
      have sJ := sl.trans sR
      replace eW := sJ _ _ eW
      replace hs := hs.same (sJ); replace D := D.then (sJ)
      have pb : (2 ^ (c + 1) - 1) * m < 2 ^ 9 * 10 ^ 41 := Int.lt_of_lt_of_le (Int.mul_lt_mul_of_pos_right (show (2 : Int) ^ (c + 1) - 1 < 2 ^ 9 by omega) m0) (Int.mul_le_mul_of_nonneg_left (Int.le_of_lt m1) (by decide))
      refine ⟨_, rfl, W, _, _, _, rfl, rfl, SqT.of eW, at_of (j := 1) rfl rfl, ?_⟩
      have pb0 : 0 ≤ (2 ^ (c + 1) - 1) * m := Int.mul_nonneg (by omega) (by omega)
      refine ⟨_, rfl, _, _, rfl, rfl, c + 1, rfl, rfl, by omega, _, _, rfl, rfl, _, rfl, W, _, _, _, rfl, rfl, SqT.of eW, at_of (j := 0) rfl rfl, _, _, rfl, rfl, mw (by omega) (by omega) (by omega) (by omega), _, _, rfl, rfl, ?_⟩
      dsimp only
      rw [← hB]
      refine ⟨(by show 2 ≤ sizeLine; decide), fun U9 hU9 => ?_⟩
      have s9 := same_new (o := .tup [.str "dark", .int B]) hU9
      refine eqD_self (dp_dark (s9 _ _ ep)) (dp_dark upd_same) (okD_dark B) (by decide) ?_
      exact q _ ((hs.same s9).mono (by omega)) (D.trans (Dr.of s9))
def spRightL : Sp := fun vs H Q _ => ∃ (s : Addr) (n : Nat), vs = [.ref s] ∧ Src H s n ∧ n < 40000 ∧ ∀ H', Src H' s (n + 100) → Dr s H H' → Q (.bl true) H'
theorem ok_l_right (T : Top K mg) : FnOk P w K mg base CX0 10 T.f_l_right T.d_l_right ["_law_source_here"] spRightL := by
  have G_Lamp_eq := ok_Lamp_eq (P := P) (w := w) (base := base) T
  have G_idle := ok_idle (P := P) (w := w) (base := base) T
  have G_l_great := ok_l_great (P := P) (w := w) (base := base) T
  have G_l_made := ok_l_made (P := P) (w := w) (base := base) T
  have G_l_mixed_up := ok_l_mixed_up (P := P) (w := w) (base := base) T
  have G_l_more_right := ok_l_more_right (P := P) (w := w) (base := base) T
  have G_l_others := ok_l_others (P := P) (w := w) (base := base) T
  have G_l_seen_as := ok_l_seen_as (P := P) (w := w) (base := base) T
  have G_l_take := ok_l_take (P := P) (w := w) (base := base) T
  have G_may_go := ok_may_go (P := P) (w := w) (base := base) T
  have G_needed := ok_needed (P := P) (w := w) (base := base) T
  refine T.F_l_right.ok sc_l_right (fun vs H Q E h => ?_) (fun cdv A outer s H vs Q E hr h => ?_)
  · obtain ⟨s, n, rfl, _⟩ := h; rfl
  · obtain ⟨s, n, rfl, hs, hn, q⟩ := h
    refine ⟨_, (pss_cons (ps_set (i := 1) sc_l_right.nd rfl (Or.inl rfl) (pe_call G_l_great (hr.mono (by decide)) rfl T.g_l_great T.F_l_great.kp T.b_l_great .nil pass0 (pa_cons (pv 0) pa_nil)))
      (pss_cons (ps_set (i := 2) sc_l_right.nd rfl (Or.inl rfl) (pe_tup (pa_cons (pv 1) (pa_cons (pe_call G_l_take (hr.mono (by decide)) rfl T.g_l_take T.F_l_take.kp T.b_l_take .nil pass0 (pa_cons (pv 0) (pa_cons (pv 1) pa_nil))) pa_nil))))
      (pss_cons (ps_set (i := 3) sc_l_right.nd rfl (Or.inl rfl) (pe_op op_add pe_int (pe_call G_l_take (hr.mono (by decide)) rfl T.g_l_take T.F_l_take.kp T.b_l_take .nil pass0 (pa_cons (pv 0) (pa_cons pe_int pa_nil)))))
      (pss_cons (ps_set (i := 4) sc_l_right.nd rfl (Or.inr rfl) (pe_call G_l_others (hr.mono (by decide)) rfl T.g_l_others T.F_l_others.kp T.b_l_others .nil pass0 (pa_cons (pv 0) (pa_cons (pv 2) (pa_cons (pv 3) pa_nil)))))
      (pss_cons (ps_set (i := 5) sc_l_right.nd rfl (Or.inl rfl) (pe_call G_l_mixed_up (hr.mono (by decide)) rfl T.g_l_mixed_up T.F_l_mixed_up.kp T.b_l_mixed_up .nil pass0 (pa_cons (pv 0) (pa_cons (pe_listRg (by rfl) (by rfl) T.n_list (prg_2 (by rfl) T.n_range pe_int (pe_op op_add (pv 3) pe_int))) pa_nil))))
      (pss_cons (ps_setLc (i := 6) (own := [("_law_k", 12)]) (g := gName 12) (by rfl) sc_l_right.nd rfl rfl (sw_true rfl rfl rfl (by decide +kernel)) (pi_list (pv 5)) (blkOk_by (own := [("_law_k", 12)]) (N := ["_law_source_here", "_law_most", "_law_lamp", "_law_many", "_law_ones", "_law_order", "_law_some", "_law_place", "_law_made_here", "_law_beat", "_law_more", "_law_at", "_law_k"]) (sc := defScope s_l_right) (by decide +kernel)) (fun _ _ _ _ _ => by exact (pg_name (i := 12) sc_l_right.nd rfl (Or.inl rfl))) (fun _ _ _ _ _ => by exact (pts_nil)) (fun _ _ _ _ _ => by exact (pe_ix (ix_listB (K := K) rfl) (pv 4) (pe_op op_sub (pv 12) pe_int) (fun _ _ => rfl))))
      (pss_cons (ps_set (i := 7) sc_l_right.nd rfl (Or.inl rfl) (pe_call G_l_take (hr.mono (by decide)) rfl T.g_l_take T.F_l_take.kp T.b_l_take .nil pass0 (pa_cons (pv 0) (pa_cons (pe_op op_add (pv 3) pe_int) pa_nil))))
      (pss_cons (ps_set (i := 8) sc_l_right.nd rfl (Or.inl rfl) (pe_call G_l_made (hr.mono (by decide)) rfl T.g_l_made T.F_l_made.kp T.b_l_made .nil pass0 (pa_cons (pe_op op_catS (pe_op op_catS (pe_slice sl_list (pv 6) po_none (po_some (pv 7))) (pe_lst (pa_cons (pv 2) pa_nil))) (pe_slice sl_list (pv 6) (po_some (pv 7)) po_none)) pa_nil)))
      (pss_cons (ps_set (i := 9) sc_l_right.nd rfl (Or.inl rfl) (pe_op op_add (pe_ix ix_tup (pv 2) pe_int (fun _ _ => rfl)) (pe_op op_mulW (pe_op op_sub (pe_op op_oneShl pe_int (pv 3)) pe_int) (pv 1))))
      (pss_cons (ps_if (PW.pt (pw_or (pt_cmpR op_in_seq (pv 7) (pe_call G_idle (hr.mono (by decide)) rfl T.g_idle T.F_idle.kp T.b_idle .nil pass0 (pa_cons (pv 8) pa_nil)) (by with_unfolding_all rfl)) (pw_or (pt_cmpR op_ne (pe_dget (Nat.lt_of_le_of_lt (Nat.add_le_add_left (by decide) _) hr.units) (pe_callTy (call_dictP rfl) (by rfl) T.n_dict (by decide +kernel) (pa_cons (pe_call G_needed (hr.mono (by decide)) rfl T.g_needed T.F_needed.kp T.b_needed .nil pass0 (pa_cons (pv 8) pa_nil)) pa_nil)) (pv 7) (fun _ _ => rfl)) (pv 9) (nomark _)) (pw_or1 (pt_cmpR (op_neD hr.units) (pe_call G_may_go (hr.mono (by decide)) rfl T.g_may_go T.F_may_go.kp T.b_may_go .nil pass0 (pa_cons (pv 8) (pa_cons (pe_lst (pa_cons (pv 7) pa_nil)) pa_nil))) (pe_tup (pa_cons pe_str (pa_cons (pv 9) pa_nil))) (nomark _)))))) (pss_one (ps_ret pe_bl)) pss_nil)
      (pss_cons (ps_set (i := 10) sc_l_right.nd rfl (Or.inl rfl) (pe_call G_l_seen_as (hr.mono (by decide)) rfl T.g_l_seen_as T.F_l_seen_as.kp T.b_l_seen_as .nil pass0 (pa_cons (pv 0) (pa_cons (pv 2) (pa_cons (pe_op op_oneShl pe_int (pv 3)) (pa_cons (pe_op op_sub (pe_op op_oneShl pe_int (pv 3)) pe_int) pa_nil))))))
      (pss_cons (ps_set (i := 11) sc_l_right.nd rfl (Or.inl rfl) (pe_call G_l_take (hr.mono (by decide)) rfl T.g_l_take T.F_l_take.kp T.b_l_take .nil pass0 (pa_cons (pv 0) (pa_cons (pe_op op_add (pv 3) pe_int) pa_nil))))
      (pss_cons (ps_set (i := 5) sc_l_right.nd rfl (Or.inl rfl) (pe_op op_catS (pe_op op_catS (pe_slice sl_list (pv 5) po_none (po_some (pv 11))) (pe_lst (pa_cons (pe_op op_add (pv 3) pe_int) pa_nil))) (pe_slice sl_list (pv 5) (po_some (pv 11)) po_none)))
      (pss_cons (ps_set (i := 6) sc_l_right.nd rfl (Or.inl rfl) (pe_op op_catS (pe_op op_catS (pe_slice sl_list (pv 6) po_none (po_some (pv 11))) (pe_lst (pa_cons (pv 10) pa_nil))) (pe_slice sl_list (pv 6) (po_some (pv 11)) po_none)))
      (pss_one (ps_ret (pe_call G_l_more_right (hr.mono (by decide)) rfl T.g_l_more_right T.F_l_more_right.kp T.b_l_more_right .nil pass0 (pa_cons (pv 0) (pa_cons (pv 2) (pa_cons (pv 3) (pa_cons (pv 5) (pa_cons (pv 6) pa_nil)))))))))))))))))))))), ?_⟩
    have D := Dr.refl s H
    refine ⟨_, rfl, s, n, rfl, hs, by omega, fun m H1 hm hs1 d1 => ?_⟩
    replace D := D.trans d1; replace hs := hs1; clear hs1 d1
    obtain ⟨m0, m1, mc⟩ := id hm
    refine ⟨_, rfl, _, rfl, _, rfl, _, _, m, rfl, hs, by omega, m0, by omega, fun b H2 b0 b1 hs1 d1 => ?_⟩
    replace D := D.trans d1; replace hs := hs1; clear hs1 d1
    refine ⟨(by show 2 ≤ sizeLine; decide), fun W hW => ?_⟩
    have nW := ne_src hs hW
    generalize hX_ : upd _ W _ = H3; have sW := Same.of_upd hX_ hW; have eW := upd_of hX_; clear hX_
    replace hs := hs.same (sW); replace D := D.then (sW)
    refine ⟨_, rfl, s, _, _, rfl, hs, by omega, by decide, by decide, fun u H4 u0 u1 hs1 d1 => ?_⟩
    replace eW := d1 _ _ eW nW
    replace D := D.trans d1; replace hs := hs1; clear hs1 d1
    refine ⟨_, _, rfl, rfl, ?_⟩
    dsimp only
    obtain ⟨c, hc⟩ : ∃ c : Nat, 1 + u = c := ⟨(1 + u).toNat, by omega⟩
    rw [hc]
    have c1 : 1 ≤ c := by omega
    have c8 : c ≤ 8 := by omega
    clear hc u0 u1
    refine ⟨_, rfl, _, rfl, _, rfl, s, _, W, m, b, c, rfl, hs, by omega, nW, eW, hm, b0, b1, c1, c8, fun F zs H5 hp hF lz ok rs hs1 d1 => ?_⟩
    replace eW := d1 _ _ eW nW
    replace D := D.trans d1; replace hs := hs1; clear hs1 d1
    -- the order
    refine ⟨_, rfl, _, rfl, _, _, rfl, rfl, _, _, rfl, rfl, ⟨by omega, by omega⟩, fun R hR => ?_⟩
    have nR := ne_src hs hR
    generalize hX_ : upd _ R _ = H6; have sR := Same.of_upd hX_ hR; have eR := upd_of hX_; clear hX_
    have rn : rgV 1 ((c : Int) + 1) = (((List.range c).map (· + 1)).map fun i : Nat => (i : Int)).map V.int := by
      unfold rgV
      rw [List.map_map, List.map_map, show ((c : Int) + 1 - 1).toNat = c by omega]
      exact List.map_congr_left fun i _ => congrArg V.int (by show 1 + (i : Int) = ((i + 1 : Nat) : Int); omega)
    rw [rn] at eR
    replace eW := sR _ _ eW
    replace hp := hp.same (sR); replace hs := hs.same (sR); replace D := D.then (sR)
    have lrg : ((((List.range c).map (· + 1)).map fun i : Nat => (i : Int)).map V.int).length = c := by rw [List.length_map, List.length_map, List.length_map, List.length_range]
    refine ⟨s, _, R, _, _, rfl, hs, by omega, mix_ints, ⟨_, rfl⟩, eR, nR, by rw [lrg]; omega, fun O ys H7 pmO eO _ nO hs1 d1 => ?_⟩
    rw [lrg] at hs1
    replace eW := d1 _ _ eW nW
    replace hp := hp.dr hs d1; replace D := D.trans d1; replace hs := hs1; clear hs1 d1
    obtain ⟨os1, pm1, rfl⟩ := perm_back pmO
    obtain ⟨ord, pm, rfl⟩ := perm_back pm1
    clear pmO pm1 eR hR lrg rn
    have eO : NumsK H7 O ord := eO
    have lo : ord.length = c := by rw [pm.length_eq, List.length_map, List.length_range]
    have mem : ∀ k, k ∈ ord ↔ 1 ≤ k ∧ k ≤ c := fun k => by
      rw [pm.mem_iff, List.mem_map]
      exact ⟨fun ⟨i, h1, h2⟩ => by have := List.mem_range.mp h1; omega, fun ⟨h1, h2⟩ => ⟨k - 1, List.mem_range.mpr (by omega), by omega⟩⟩
    have lti : ∀ j ∈ ord.map (· - 1), j < zs.length := fun j hj => by
      obtain ⟨k, hk, rfl⟩ := List.mem_map.mp hj
      have := (mem k).mp hk
      omega
    -- the lamps in this order
    refine ⟨_, rfl, O, rfl, ⟨_, SqL.of eO⟩, fun S hS => lc_list (K := K) (a := O) (xs := (ord.map fun i : Nat => (i : Int)).map V.int) (fun i H' => Same H7 H' ∧ H' S = some (.lst (refsZ (pickN ((ord.map (· - 1)).take i) zs)))) ⟨same_new hS, upd_same⟩ (fun _ H' _ ⟨s9, _⟩ => SqL.of (s9 _ _ eO)) (fun i x H9 hi ⟨s9, e9⟩ => ?_) (fun H9 ⟨s9, e9⟩ => ?_)⟩
    · obtain ⟨z, hz2, rfl⟩ := get_map hi
      obtain ⟨k, hk, rfl⟩ := get_map hz2
      have hk1 : (ord.map (· - 1))[i]? = some (k - 1) := by rw [List.getElem?_map, hk]; rfl
      have kb := (mem k).mp (List.mem_of_getElem? hk)
      obtain ⟨y, hy⟩ : ∃ y, zs[k - 1]? = some y := ⟨_, List.getElem?_eq_getElem (by omega)⟩
      have my : (refsZ zs)[k - 1]? = some (.ref y.1) := by unfold refsZ; rw [List.getElem?_map, hy]; rfl
      have hil := (List.getElem?_eq_some_iff.mp hk).1
      refine ⟨rfl, ?_⟩
      refine ⟨_, rfl, _, rfl, _, _, rfl, rfl, F, _, _, _, rfl, rfl, SqL.of (s9 _ _ hp.1), at_of (j := k - 1) (by omega) my, _, e9, ?_, same_at s9 hS, ?_⟩
      · have h1 := pickN_len ((ord.map (· - 1)).take i) zs
        have h2 := List.length_take_le' i (ord.map (· - 1))
        rw [List.length_map] at h2
        rw [refsZ_len]
        unfold pickN
        exact Nat.lt_of_lt_of_le (show _ < 11 by omega) (by decide)
      · rw [upd_same, pick_take hk1 hy, ← refsZ_app]
        rfl
    · have lq : ((ord.map fun i : Nat => (i : Int)).map V.int).length = (ord.map (· - 1)).length := by rw [List.length_map, List.length_map, List.length_map]
      rw [lq, List.take_length] at e9
      have hp9 := hp.same s9
      have hpS : PairsA H9 S (pickN (ord.map (· - 1)) zs) := ⟨e9, fun y hy => hp9.2 y (pick_mem hy)⟩
      have okS : OkZ (pickN (ord.map (· - 1)) zs) := fun y hy => ok y (pick_mem hy)
      have lS : (pickN (ord.map (· - 1)) zs).length = c := by rw [pick_len lti, List.length_map, lo]
      have rS : RulerS m b c (prs (pickN (ord.map (· - 1)) zs)) ord := by
        rw [prs_pick]
        exact rs.pick ord fun k hk => (mem k).mp hk
      replace eW := s9 _ _ eW
      replace eO : NumsK H9 O ord := s9 _ _ eO
      replace hs := hs.same (s9); replace D := D.then (s9)
      generalize pickN (ord.map (· - 1)) zs = ss at *
      clear hp hp9 hF hS e9 lti rs ok
      refine ⟨_, rfl, _, rfl, _, _, rfl, rfl, s, _, (c : Int) + 1, rfl, hs, by omega, by omega, by omega, fun pl HA pl0 pl1 hs1 d1 => ?_⟩
      replace eW := d1 _ _ eW nW
      replace eO : NumsK HA O ord := d1 _ _ eO nO
      replace hpS := hpS.dr hs d1; replace D := D.trans d1; replace hs := hs1; clear hs1 d1
      obtain ⟨pl, rfl⟩ : ∃ k : Nat, pl = k := ⟨pl.toNat, by omega⟩
      -- the light with the lamp put in
      refine ⟨_, rfl, _, rfl, _, rfl, S, _, rfl, SqL.of hpS.1, fun p1 hp1 => ?_⟩
      rw [show cutV (refsZ ss) none (some ((pl : Nat) : Int)) = refsZ (ss.take pl) by rw [cut_head (by omega), Int.toNat_natCast, refsZ_take]]
      generalize hX_ : upd _ p1 _ = HB; have sp1 := Same.of_upd hX_ hp1; have ep1 := upd_of hX_; clear hX_
      replace eW := sp1 _ _ eW
      replace eO : NumsK HB O ord := sp1 _ _ eO
      replace hpS := hpS.same (sp1); replace hs := hs.same (sp1); replace D := D.then (sp1)
      refine ⟨_, rfl, (by show 1 ≤ sizeLine; decide), fun l hl => ?_⟩
      generalize hX_ : upd _ l _ = HC; have sl := Same.of_upd hX_ hl; have el := upd_of hX_; clear hX_
      replace ep1 := sl _ _ ep1
      replace eW := sl _ _ eW
      replace eO : NumsK HC O ord := sl _ _ eO
      replace hpS := hpS.same (sl); replace hs := hs.same (sl); replace D := D.then (sl)
      refine ⟨p1, l, _, _, rfl, rfl, SqL.of ep1, SqL.of el, ?_, fun G1 hG1 => ?_⟩
      · rw [refsZ_len, List.length_take]
        exact Nat.le_trans (show _ + 1 ≤ 20 by omega) (by decide)
      rw [show refsZ (ss.take pl) ++ [V.ref W] = refsZ (ss.take pl ++ [(W, (m, b))]) from refsZ_app _ [(W, (m, b))]]
      generalize hX_ : upd _ G1 _ = HD; have sG1 := Same.of_upd hX_ hG1; have eG1 := upd_of hX_; clear hX_
      replace eW := sG1 _ _ eW
      replace eO : NumsK HD O ord := sG1 _ _ eO
      replace hpS := hpS.same (sG1); replace hs := hs.same (sG1); replace D := D.then (sG1)
      refine ⟨_, rfl, _, rfl, _, rfl, S, _, rfl, SqL.of hpS.1, fun p2 hp2 => ?_⟩
      rw [show cutV (refsZ ss) (some ((pl : Nat) : Int)) none = refsZ (ss.drop pl) by rw [cut_from (by omega), Int.toNat_natCast, refsZ_drop]]
      generalize hX_ : upd _ p2 _ = HE; have sp2 := Same.of_upd hX_ hp2; have ep2 := upd_of hX_; clear hX_
      replace eG1 := sp2 _ _ eG1
      replace eW := sp2 _ _ eW
      replace eO : NumsK HE O ord := sp2 _ _ eO
      replace hpS := hpS.same (sp2); replace hs := hs.same (sp2); replace D := D.then (sp2)
      refine ⟨G1, p2, _, _, rfl, rfl, SqL.of eG1, SqL.of ep2, ?_, fun G2 hG2 => ?_⟩
      · rw [refsZ_len, refsZ_len, List.length_append, List.length_take, List.length_drop]
        exact Nat.le_trans (show _ ≤ 20 by show min pl ss.length + 1 + (ss.length - pl) ≤ 20; omega) (by decide)
      rw [refsZ_app]
      generalize hX_ : upd _ G2 _ = HF; have sG2 := Same.of_upd hX_ hG2; have eG2 := upd_of hX_; clear hX_
      replace eW := sG2 _ _ eW
      replace eO : NumsK HF O ord := sG2 _ _ eO
      replace hpS := hpS.same (sG2); replace hs := hs.same (sG2); replace D := D.then (sG2)
      clear hp1 ep1 sp1 hl el sl hG1 eG1 sG1 hp2 ep2 sp2 hG2 sG2
      have lS2 : ss.length = c := lS
      have mZ : ∀ y ∈ ss.take pl ++ [(W, (m, b))] ++ ss.drop pl, y ∈ ss ∨ y = (W, (m, b)) := fun y hy => by
        rcases List.mem_append.mp hy with h | h
        · rcases List.mem_append.mp h with h | h
          · exact .inl (List.mem_of_mem_take h)
          · exact .inr (List.mem_singleton.mp h)
        · exact .inl (List.mem_of_mem_drop h)
      have hpZ : PairsA HF G2 (ss.take pl ++ [(W, (m, b))] ++ ss.drop pl) := ⟨eG2, fun y hy => (mZ y hy).elim (fun h => hpS.2 y h) fun h => h ▸ eW⟩
      have okZ : OkZ (ss.take pl ++ [(W, (m, b))] ++ ss.drop pl) := fun y hy => (mZ y hy).elim (fun h => okS y h) fun h => h ▸ ⟨m0, by show m < 2 ^ 250; omega⟩
      have lZ : (ss.take pl ++ [(W, (m, b))] ++ ss.drop pl).length = c + 1 := by
        rw [List.length_append, List.length_append, List.length_take, List.length_drop]
        show min pl ss.length + 1 + (ss.length - pl) = c + 1
        omega
      have nW1 : nrm (m, b) = (m, b) := Prod.ext rfl (Int.emod_eq_of_lt b0 b1)
      have eZ : (prs (ss.take pl ++ [(W, (m, b))] ++ ss.drop pl)).map nrm = ((prs ss).map nrm).take pl ++ [(m, b)] ++ ((prs ss).map nrm).drop pl := by
        unfold prs
        rw [List.map_append, List.map_append, List.map_append, List.map_append, List.map_take, List.map_take, List.map_drop, List.map_drop]
        show _ ++ [nrm (m, b)] ++ _ = _
        rw [nW1]
      have lss : ((prs ss).map nrm).length = c := by rw [List.length_map, prs_len]; exact lS
      have rN := rS.nrms
      refine ⟨G2, _, rfl, hpZ, okZ, by omega, fun g HG sG _ hg => ?_⟩
      rw [eZ] at hg
      replace eW := sG _ _ eW
      replace eO : NumsK HG O ord := sG _ _ eO
      replace hpS := hpS.same (sG); replace hs := hs.same (sG); replace D := D.then (sG)
      generalize hS1 : (prs ss).map nrm = S1 at *
      obtain ⟨t1, t2⟩ := one_taken (xs := S1.take pl) (ys := S1.drop pl) (w := (m, b)) (i := pl) (by rw [List.length_take]; omega)
      rw [List.take_append_drop] at t1
      have w8 : (2 : Int) ^ c ≤ 2 ^ 8 := by
        have : (2 : Nat) ^ c ≤ 2 ^ 8 := Nat.pow_le_pow_right (by decide) c8
        exact_mod_cast this
      have wc : (0 : Int) < 2 ^ c := Int.pow_pos (by decide)
      have hal : AloneIs (S1.take pl ++ [(m, b)] ++ S1.drop pl) pl (some (b + (2 ^ c - 1) * m)) := ruler_alone b0 b1 t2 (S := S1) (fun x => by rw [t1]) (by omega) (by rw [rN.first mem]; exact fun z => z ⟨1, by omega⟩) (fun t h1 h2 => (rN.first mem).mpr (pow_first h1 h2))
      have l1 : (S1.take pl ++ [(m, b)] ++ S1.drop pl).length = c + 1 := by
        rw [List.length_append, List.length_append, List.length_take, List.length_drop]
        show min pl S1.length + 1 + (S1.length - pl) = c + 1
        omega
      have okl : ∀ l ∈ S1.take pl ++ [(m, b)] ++ S1.drop pl, 0 < l.1 ∧ 0 ≤ l.2 ∧ l.2 < l.1 := fun l hl => by
        rw [← eZ] at hl
        obtain ⟨x, hx, rfl⟩ := List.mem_map.mp hl
        obtain ⟨y, hy, rfl⟩ := List.mem_map.mp hx
        have := (okZ y hy).1
        exact ⟨this, Int.emod_nonneg _ (by show y.2.1 ≠ 0; omega), Int.emod_lt_of_pos _ this⟩
      generalize S1.take pl ++ [(m, b)] ++ S1.drop pl = L1 at *
      clear hpZ okZ lZ eZ t1 t2 mZ eG2
      -- the beat
      refine ⟨_, rfl, W, _, _, _, rfl, rfl, SqT.of eW, at_of (j := 1) rfl rfl, ?_⟩
      have pb : (2 ^ c - 1) * m < 2 ^ 8 * 10 ^ 41 := Int.lt_of_lt_of_le (Int.mul_lt_mul_of_pos_right (show (2 : Int) ^ c - 1 < 2 ^ 8 by omega) m0) (Int.mul_le_mul_of_nonneg_left (Int.le_of_lt m1) (by decide))
      have pb0 : 0 ≤ (2 ^ c - 1) * m := Int.mul_nonneg (by omega) (by omega)
      refine ⟨_, rfl, c, rfl, rfl, by omega, _, _, rfl, rfl, _, rfl, _, _, rfl, rfl, mw (by omega) (by omega) (by omega) (by omega), _, _, rfl, rfl, ?_⟩
      dsimp only
      obtain ⟨os, hos⟩ := alone_ex okl
      obtain ⟨o, ho⟩ : ∃ o, os[pl]? = some o := ⟨_, List.getElem?_eq_getElem (by rw [hos.1]; omega)⟩
      have eo : o = some (b + (2 ^ c - 1) * m) := by
        obtain ⟨l', q1, q2⟩ := hos.2 pl o ho
        obtain ⟨l2, q3, q4⟩ := hal
        rw [q1] at q3
        cases q3
        exact q2.uniq q4
      subst eo
      have pr : ∀ {H : Hp} {zN : PZ}, TupZ H zN → Paired (fun p kv => SqT K H p [kV kv.1, kv.2]) (zN.map (·.1)) (dkv (prs zN)) := fun {H zN} h => by
        unfold dkv prs
        rw [List.map_map]
        induction zN with
        | nil => exact .nil
        | cons z zs ih => exact .cons (SqT.of (h z (.head _))) (ih fun y hy => h y (.tail _ hy))
      obtain ⟨B, hB⟩ : ∃ B : Int, B = b + (2 ^ c - 1) * m := ⟨_, rfl⟩
      rw [← hB] at hal ho ⊢
      refine ⟨_, rfl, _, rfl, g, 250, L1, rfl, hg, by omega, by decide, fun I HH sH _ eI => ⟨I, _, rfl, .inl (SqL.of eI), rfl, flat_ints _, _, rfl, ?_⟩⟩
      rw [inV_ints, decide_eq_false (fun z => absurd (hal.none.mpr (idle_mem.mp z)) (by intro z; cases z))]
      replace eW := sH _ _ eW
      replace eO : NumsK HH O ord := sH _ _ eO
      replace hpS := hpS.same (sH); replace hg := hg.same (sH); replace hs := hs.same (sH); replace D := D.then (sH)
      refine iteF ⟨_, rfl, g, 250, L1, os, rfl, hg, by omega, by decide, hos, fun p3 z3 HI sI _ hp3 e3 => ⟨p3, z3.map (·.1), dkv (prs z3), rfl, SqL.of (by rw [hp3.1]; unfold refsZ; rw [List.map_map]; rfl), by exact pr hp3.2, fun A hA => ?_⟩⟩
      generalize hX_ : upd _ A _ = HJ; have sA := Same.of_upd hX_ hA; have eA := upd_of hX_; clear hX_
      rw [e3] at eA
      have sIJ := sI.trans sA
      replace eW := sIJ _ _ eW
      replace eO : NumsK HJ O ord := sIJ _ _ eO
      replace hpS := hpS.same (sIJ); replace hg := hg.same (sIJ); replace hs := hs.same (sIJ); replace D := D.then (sIJ)
      clear hp3 e3 hA sA sI eI
      have dg : DGet HJ A (V.int (pl : Nat)) (some (V.int B)) := by
        have e : some (V.int B) = valV (mergeK [] (dkv (needL 0 os))) (.inl (pl : Int)) := by
          rw [need_get os pl, ho]
          rfl
        rw [e]
        exact .inl ⟨_, .inl (pl : Int), .inl eA, rfl, rfl⟩
      refine ⟨_, rfl, A, _, rfl, dg, _, rfl, rfl, false, by rw [decide_eq_true rfl]; rfl, iteF ?_⟩
      refine ⟨_, rfl, _, rfl, (by show 1 ≤ sizeLine; decide), fun l hl => ?_⟩
      generalize hX_ : upd _ l _ = HK; have sl := Same.of_upd hX_ hl; have el := upd_of hX_; clear hX_
      refine ⟨g, l, 250, L1, [(pl : Int)], rfl, hg.same sl, by omega, by decide, .inl el, by show 1 ≤ 1000; decide, by simp, fun z hz => by (rw [List.mem_singleton.mp hz]; omega), fun p HL sL _ hT => ?_⟩
      have ep : HL p = some (.tup [.str "dark", .int B]) := by
        rcases hT with ⟨b', e, f⟩ | ⟨_, _, _, _, _, _, f⟩
        · have := single_go hal f
          cases this
          exact e
        · exact absurd (single_go hal f) (by intro z; cases z)
      refine ⟨_, rfl, (by show 2 ≤ sizeLine; decide), fun U9 hU9 => ?_⟩
      have s9 := same_new (o := .tup [.str "dark", .int B]) hU9
      refine neD_self (dp_dark (s9 _ _ ep)) (dp_dark upd_same) (okD_dark B) (by decide) ⟨_, rfl, iteF ?_⟩
      have sJ := sl.trans (sL.trans s9)
      generalize upd HL U9 (.tup [.str "dark", .int B]) = HM at *
      replace eW := sJ _ _ eW
      replace eO : NumsK HM O ord := sJ _ _ eO
      replace hpS := hpS.same (sJ); replace hs := hs.same (sJ); replace D := D.then (sJ)
      clear hg dg eA hos ho os okl hal pb pb0 hT ep s9 sL sl el hl hU9 sJ hB
      -- one more
      refine ⟨_, rfl, _, rfl, _, rfl, c, rfl, rfl, by omega, _, rfl, c, rfl, rfl, by omega, _, _, rfl, rfl, s, _, W, m, b, 2 ^ c, 2 ^ c - 1, rfl, hs, by omega, nW, eW, m0, m1, wc, by omega, by omega, by omega, fun U d HN d0 dm eU _ hs1 d1 => ?_⟩
      replace eW := d1 _ _ eW nW
      replace eO : NumsK HN O ord := d1 _ _ eO nO
      replace hpS := hpS.dr hs d1; replace D := D.trans d1; replace hs := hs1; clear hs1 d1
      have nU := tup_ne hs eU
      have dl : d ≤ m := Int.le_of_dvd m0 dm
      have pu : (2 : Int) ^ c * d ≤ 2 ^ 8 * 10 ^ 41 := Int.mul_le_mul w8 (by omega) (by omega) (by decide)
      have pd : (0 : Int) < 2 ^ c * d := Int.mul_pos wc d0
      have seeU : Sees m b (2 ^ c * d, (b + (2 ^ c - 1) * m) % (2 ^ c * d)) (Lit c (c + 1)) := (sees_of mc d0 dm).iff fun t => lit_hi
      generalize hzU : ((2 : Int) ^ c * d, (b + (2 ^ c - 1) * m) % (2 ^ c * d)) = zU at *
      have eU : HN U = some (.tup [.int zU.1, .int zU.2]) := by rw [← hzU]; exact eU
      have okU : 0 < zU.1 ∧ zU.1 < 2 ^ 250 := by rw [← hzU]; exact ⟨pd, by show 2 ^ c * d < 2 ^ 250; omega⟩
      clear hzU pd pu dl
      refine ⟨_, rfl, _, rfl, _, _, rfl, rfl, s, _, (c : Int) + 1, rfl, hs, by omega, by omega, by omega, fun at_ HO at0 at1 hs1 d1 => ?_⟩
      replace eW := d1 _ _ eW nW
      replace eO : NumsK HO O ord := d1 _ _ eO nO
      replace eU := d1 _ _ eU nU
      replace hpS := hpS.dr hs d1; replace D := D.trans d1; replace hs := hs1; clear hs1 d1
      obtain ⟨a, rfl⟩ : ∃ k : Nat, at_ = k := ⟨at_.toNat, by omega⟩
      -- its number put in
      refine ⟨_, rfl, _, rfl, _, rfl, O, _, rfl, SqL.of eO, fun p1 hp1 => ?_⟩
      rw [show cutV ((ord.map fun i : Nat => (i : Int)).map V.int) none (some ((a : Nat) : Int)) = ((ord.take a).map fun i : Nat => (i : Int)).map V.int by rw [cut_take, List.map_take, List.map_take, List.map_take]]
      have n1 := ne_src hs hp1
      generalize hX_ : upd _ p1 _ = HP; have sp1 := Same.of_upd hX_ hp1; have ep1 := upd_of hX_; clear hX_
      replace eW := sp1 _ _ eW
      replace eU := sp1 _ _ eU
      replace eO : NumsK HP O ord := sp1 _ _ eO
      replace hpS := hpS.same (sp1); replace hs := hs.same (sp1); replace D := D.then (sp1)
      refine ⟨_, rfl, _, _, rfl, rfl, (by show 1 ≤ sizeLine; decide), fun l hl => ?_⟩
      generalize hX_ : upd _ l _ = HQ; have sl := Same.of_upd hX_ hl; have el := upd_of hX_; clear hX_
      replace ep1 := sl _ _ ep1
      replace eW := sl _ _ eW
      replace eU := sl _ _ eU
      replace eO : NumsK HQ O ord := sl _ _ eO
      replace hpS := hpS.same (sl); replace hs := hs.same (sl); replace D := D.then (sl)
      refine ⟨p1, l, _, _, rfl, rfl, SqL.of ep1, SqL.of el, ?_, fun G1 hG1 => ?_⟩
      · rw [List.length_map, List.length_map, List.length_take]
        exact Nat.le_trans (show _ + 1 ≤ 20 by omega) (by decide)
      rw [show ((ord.take a).map fun i : Nat => (i : Int)).map V.int ++ [V.int ((c : Int) + 1)] = ((ord.take a ++ [c + 1]).map fun i : Nat => (i : Int)).map V.int by rw [List.map_append, List.map_append]; rfl]
      generalize hX_ : upd _ G1 _ = HR; have sG1 := Same.of_upd hX_ hG1; have eG1 := upd_of hX_; clear hX_
      replace eW := sG1 _ _ eW
      replace eU := sG1 _ _ eU
      replace eO : NumsK HR O ord := sG1 _ _ eO
      replace hpS := hpS.same (sG1); replace hs := hs.same (sG1); replace D := D.then (sG1)
      refine ⟨_, rfl, _, rfl, _, rfl, O, _, rfl, SqL.of eO, fun p2 hp2 => ?_⟩
      rw [show cutV ((ord.map fun i : Nat => (i : Int)).map V.int) (some ((a : Nat) : Int)) none = ((ord.drop a).map fun i : Nat => (i : Int)).map V.int by rw [cut_from (by omega), Int.toNat_natCast, List.map_drop, List.map_drop]]
      generalize hX_ : upd _ p2 _ = HS; have sp2 := Same.of_upd hX_ hp2; have ep2 := upd_of hX_; clear hX_
      replace eG1 := sp2 _ _ eG1
      replace eW := sp2 _ _ eW
      replace eU := sp2 _ _ eU
      replace hpS := hpS.same (sp2); replace hs := hs.same (sp2); replace D := D.then (sp2)
      refine ⟨G1, p2, _, _, rfl, rfl, SqL.of eG1, SqL.of ep2, ?_, fun G2 hG2 => ?_⟩
      · rw [List.length_map, List.length_map, List.length_map, List.length_map, List.length_append, List.length_take, List.length_drop]
        exact Nat.le_trans (show _ ≤ 20 by show min a ord.length + 1 + (ord.length - a) ≤ 20; omega) (by decide)
      rw [← List.map_append, ← List.map_append]
      have nG2 := ne_src hs hG2
      generalize hX_ : upd _ G2 _ = HT; have sG2 := Same.of_upd hX_ hG2; have eG2 := upd_of hX_; clear hX_
      replace eW := sG2 _ _ eW
      replace eU := sG2 _ _ eU
      replace hpS := hpS.same (sG2); replace hs := hs.same (sG2); replace D := D.then (sG2)
      clear hp1 ep1 sp1 hl el sl hG1 eG1 sG1 hp2 ep2 sp2 hG2 sG2 eO
      have eO2 : NumsK HT G2 (ord.take a ++ [c + 1] ++ ord.drop a) := eG2
      clear eG2
      -- the lamp put in
      refine ⟨_, rfl, _, rfl, _, rfl, S, _, rfl, SqL.of hpS.1, fun p1 hp1 => ?_⟩
      rw [show cutV (refsZ ss) none (some ((a : Nat) : Int)) = refsZ (ss.take a) by rw [cut_head (by omega), Int.toNat_natCast, refsZ_take]]
      generalize hX_ : upd _ p1 _ = HP2; have sp1 := Same.of_upd hX_ hp1; have ep1 := upd_of hX_; clear hX_
      replace eW := sp1 _ _ eW
      replace eU := sp1 _ _ eU
      replace eO2 : NumsK HP2 G2 _ := sp1 _ _ eO2
      replace hpS := hpS.same (sp1); replace hs := hs.same (sp1); replace D := D.then (sp1)
      refine ⟨_, rfl, (by show 1 ≤ sizeLine; decide), fun l hl => ?_⟩
      generalize hX_ : upd _ l _ = HQ2; have sl := Same.of_upd hX_ hl; have el := upd_of hX_; clear hX_
      replace ep1 := sl _ _ ep1
      replace eW := sl _ _ eW
      replace eU := sl _ _ eU
      replace eO2 : NumsK HQ2 G2 _ := sl _ _ eO2
      replace hpS := hpS.same (sl); replace hs := hs.same (sl); replace D := D.then (sl)
      refine ⟨p1, l, _, _, rfl, rfl, SqL.of ep1, SqL.of el, ?_, fun G1 hG1 => ?_⟩
      · rw [refsZ_len, List.length_take]
        exact Nat.le_trans (show _ + 1 ≤ 20 by omega) (by decide)
      rw [show refsZ (ss.take a) ++ [V.ref U] = refsZ (ss.take a ++ [(U, zU)]) from refsZ_app _ [(U, zU)]]
      generalize hX_ : upd _ G1 _ = HR2; have sG1 := Same.of_upd hX_ hG1; have eG1 := upd_of hX_; clear hX_
      replace eW := sG1 _ _ eW
      replace eU := sG1 _ _ eU
      replace eO2 : NumsK HR2 G2 _ := sG1 _ _ eO2
      replace hpS := hpS.same (sG1); replace hs := hs.same (sG1); replace D := D.then (sG1)
      refine ⟨_, rfl, _, rfl, _, rfl, S, _, rfl, SqL.of hpS.1, fun p2 hp2 => ?_⟩
      rw [show cutV (refsZ ss) (some ((a : Nat) : Int)) none = refsZ (ss.drop a) by rw [cut_from (by omega), Int.toNat_natCast, refsZ_drop]]
      generalize hX_ : upd _ p2 _ = HS2; have sp2 := Same.of_upd hX_ hp2; have ep2 := upd_of hX_; clear hX_
      replace eG1 := sp2 _ _ eG1
      replace eW := sp2 _ _ eW
      replace eU := sp2 _ _ eU
      replace eO2 : NumsK HS2 G2 _ := sp2 _ _ eO2
      replace hpS := hpS.same (sp2); replace hs := hs.same (sp2); replace D := D.then (sp2)
      refine ⟨G1, p2, _, _, rfl, rfl, SqL.of eG1, SqL.of ep2, ?_, fun G3 hG3 => ?_⟩
      · rw [refsZ_len, refsZ_len, List.length_append, List.length_take, List.length_drop]
        exact Nat.le_trans (show _ ≤ 20 by show min a ss.length + 1 + (ss.length - a) ≤ 20; omega) (by decide)
      rw [refsZ_app]
      generalize hX_ : upd _ G3 _ = HT2; have sG3 := Same.of_upd hX_ hG3; have eG3 := upd_of hX_; clear hX_
      replace eW := sG3 _ _ eW
      replace eU := sG3 _ _ eU
      replace eO2 : NumsK HT2 G2 _ := sG3 _ _ eO2
      replace hpS := hpS.same (sG3); replace hs := hs.same (sG3); replace D := D.then (sG3)
      clear hp1 ep1 sp1 hl el sl hG1 eG1 sG1 hp2 ep2 sp2 hG3 sG3
      have mZ : ∀ y ∈ ss.take a ++ [(U, zU)] ++ ss.drop a, y ∈ ss ∨ y = (U, zU) := fun y hy => by
        rcases List.mem_append.mp hy with h | h
        · rcases List.mem_append.mp h with h | h
          · exact .inl (List.mem_of_mem_take h)
          · exact .inr (List.mem_singleton.mp h)
        · exact .inl (List.mem_of_mem_drop h)
      have hpZ : PairsA HT2 G3 (ss.take a ++ [(U, zU)] ++ ss.drop a) := ⟨eG3, fun y hy => (mZ y hy).elim (fun h => hpS.2 y h) fun h => h ▸ eU⟩
      have okZ : OkZ (ss.take a ++ [(U, zU)] ++ ss.drop a) := fun y hy => (mZ y hy).elim (fun h => okS y h) fun h => h ▸ okU
      have rZ : RulerS m b c (prs (ss.take a ++ [(U, zU)] ++ ss.drop a)) (ord.take a ++ [c + 1] ++ ord.drop a) := by
        have e : prs (ss.take a ++ [(U, zU)] ++ ss.drop a) = (prs ss).take a ++ [zU] ++ (prs ss).drop a := by
          unfold prs
          rw [List.map_append, List.map_append, List.map_take, List.map_drop]
          rfl
        rw [e]
        exact ((rS.take a).more seeU).app (rS.drop a)
      have pk : (ord.take a ++ [c + 1] ++ ord.drop a).Perm ((c + 1) :: ord) := by
        have h1 : (ord.take a ++ [c + 1]).Perm ([c + 1] ++ ord.take a) := List.perm_append_comm
        have h2 := h1.append_right (ord.drop a)
        rw [List.append_assoc [c + 1], List.take_append_drop] at h2
        exact h2
      refine ⟨_, rfl, _, rfl, _, rfl, _, rfl, _, rfl, s, _, W, G2, G3, m, b, c, _, _, rfl, hs, by omega, nW, eW, hm, b0, b1, c1, c8, eO2, nG2, hpZ, okZ, rZ, by rw [pk.length_eq]; show ord.length + 1 = c + 1; omega, fun k => ?_, ?_, fun HZ hsZ dZ => q HZ (hsZ.mono (by omega)) (D.trans dZ)⟩
      · rw [pk.mem_iff, List.mem_cons, mem k]
        omega
      · rw [pk.nodup_iff, List.nodup_cons]
        refine ⟨fun z => by have := (mem _).mp z; omega, ?_⟩
        rw [pm.nodup_iff, List.nodup_iff_pairwise_ne, List.pairwise_map]
        exact List.Pairwise.imp (fun {a b} h e => h (by omega)) (List.nodup_iff_pairwise_ne.mp List.nodup_range)
theorem ok_l_law (T : Top K mg) : FnOk P w K mg base CX0 11 T.f_l_law T.d_l_law ["_law_script"] (spLaw K) := by
  have G_l_right := ok_l_right (P := P) (w := w) (base := base) T
  have G_l_source := ok_l_source (P := P) (w := w) (base := base) T
  refine T.F_l_law.ok sc_l_law (fun vs H Q E h => ?_) (fun cdv A outer s H vs Q E hr h => ?_)
  · obtain ⟨a, ns, rfl, _⟩ := h; rfl
  · obtain ⟨a, ns, rfl, hS, hn, q⟩ := h
    refine ⟨_, (pss_cons (ps_for PassesOwn.never rfl (pi_list (pe_slice sl_list (pe_op op_catS (pv 0) (pe_lst (pa_cons pe_int pa_nil))) po_none (po_some pe_int))) (pg_name (i := 1) sc_l_law.nd rfl (Or.inl rfl)) (pss_one (ps_if (pt_not (pt_val (pe_call G_l_right (hr.mono (by decide)) rfl T.g_l_right T.F_l_right.kp T.b_l_right .nil pass0 (pa_cons (pe_call G_l_source (hr.mono (by decide)) rfl T.g_l_source T.F_l_source.kp T.b_l_source .nil pass0 (pa_cons (pv 1) pa_nil)) pa_nil)))) (pss_one (ps_ret pe_bl)) pss_nil)))
      (pss_one (ps_ret pe_bl))), ?_⟩
    refine ⟨_, rfl, (by show 1 ≤ sizeLine; decide), fun l1 hl1 => ?_⟩
    generalize hX_ : upd _ l1 _ = H1; have sl1 := Same.of_upd hX_ hl1; have el1 := upd_of hX_; clear hX_
    refine ⟨a, l1, _, _, rfl, rfl, sl1.seq hS, SqL.of el1, ?_, fun p1 hp1 => ?_⟩
    · rw [List.length_map]
      exact Nat.le_trans (show ns.length + 1 ≤ 100 by omega) (by decide)
    rw [show ns.map V.int ++ [V.int 0] = (ns ++ [0]).map V.int by rw [List.map_append]; rfl]
    generalize hX_ : upd _ p1 _ = H2; have sp1 := Same.of_upd hX_ hp1; have ep1 := upd_of hX_; clear hX_
    refine ⟨3, rfl, p1, _, rfl, SqL.of ep1, fun p2 hp2 => ?_⟩
    generalize hX_ : upd _ p2 _ = H3; have sp2 := Same.of_upd hX_ hp2; have ep2 := upd_of hX_; clear hX_
    have ec : cutV ((ns ++ [0]).map V.int) none (some (3 : Int)) = ((ns ++ [0]).take 3).map V.int := cut_take _ 3
    rw [ec] at ep2
    generalize (ns ++ [0]).take 3 = cells at *
    refine ⟨p2, rfl, ⟨_, SqL.of ep2⟩, for_list (K := K) (a := p2) (xs := cells.map V.int) (fun _ σ H' => (∃ v1, σ = [some (.ref a), v1]) ∧ Same H3 H') ⟨⟨_, rfl⟩, Same.refl _⟩ (fun _ σ H' _ ⟨_, s'⟩ => SqL.of (s' _ _ ep2)) ?_ ?_⟩
    · rintro i x σ H' hi ⟨⟨v1, rfl⟩, s2'⟩
      obtain ⟨z, _, rfl⟩ := get_map hi
      refine ⟨_, rfl, z, rfl, fun s H4 nl s3 hs => ⟨s, 0, rfl, hs, by decide, fun H5 _ D => ⟨true, rfl, iteF ?_⟩⟩⟩
      exact ⟨⟨_, rfl⟩, s2'.trans (Dr.back nl s3 D)⟩
    · rintro σ H' ⟨⟨v1, rfl⟩, _⟩
      exact q H'
end
set_option maxHeartbeats 0 in
theorem all_mk {l : PySem.W.OpenLaw} {w : World} {K : PySem.W.Frag} {h : Heap} {mg : Str → Option Value} {fa C_Lamp C_Light f_is_whole f_check_beat f_inverse f_Lamp_init f_Lamp_eq f_Lamp_next_shine f_seen_from f_l_mixed f_l_source f_l_take f_shining_rows f_copied f_Light_init f_Light_lamps f_empty_places f_least_paper f_l_made f_seen_rows f_l_one f_check_numbers f_going f_first_left f_beats_alone f_idle f_needed f_may_go f_l_common f_l_mixed_up f_l_great f_l_seen_as f_l_others f_l_more_right f_l_right f_l_law : Addr} (X : K.In h) (G : h.Ns mainGlobals mg) (hfa : mg "law" = some (.ref fa))
    {od_is_whole an_is_whole od_check_beat an_check_beat od_inverse an_inverse od_Lamp_init an_Lamp_init od_Lamp_eq an_Lamp_eq od_Lamp_next_shine an_Lamp_next_shine od_seen_from an_seen_from od_l_mixed an_l_mixed od_l_source an_l_source od_l_take an_l_take od_shining_rows an_shining_rows od_copied an_copied od_Light_init an_Light_init od_Light_lamps an_Light_lamps od_empty_places an_empty_places od_least_paper an_least_paper od_l_made an_l_made od_seen_rows an_seen_rows od_l_one an_l_one od_check_numbers an_check_numbers od_going an_going od_first_left an_first_left od_beats_alone an_beats_alone od_idle an_idle od_needed an_needed od_may_go an_may_go od_l_common an_l_common od_l_mixed_up an_l_mixed_up od_l_great an_l_great od_l_seen_as an_l_seen_as od_l_others an_l_others od_l_more_right an_l_more_right od_l_right an_l_right od_l_law an_l_law : Option Addr} {sl_is_whole sl_check_beat sl_inverse sl_Lamp_init sl_Lamp_eq sl_Lamp_next_shine sl_seen_from sl_l_mixed sl_l_source sl_l_take sl_shining_rows sl_copied sl_Light_init sl_Light_lamps sl_empty_places sl_least_paper sl_l_made sl_seen_rows sl_l_one sl_check_numbers sl_going sl_first_left sl_beats_alone sl_idle sl_needed sl_may_go sl_l_common sl_l_mixed_up sl_l_great sl_l_seen_as sl_l_others sl_l_more_right sl_l_right sl_l_law : Array (Option Value)} {oc_is_whole kV_is_whole dc_is_whole pm_is_whole cd_is_whole ct_is_whole oc_check_beat kV_check_beat dc_check_beat pm_check_beat cd_check_beat ct_check_beat oc_inverse kV_inverse dc_inverse pm_inverse cd_inverse ct_inverse oc_Lamp_init kV_Lamp_init dc_Lamp_init pm_Lamp_init cd_Lamp_init ct_Lamp_init oc_Lamp_eq kV_Lamp_eq dc_Lamp_eq pm_Lamp_eq cd_Lamp_eq ct_Lamp_eq oc_Lamp_next_shine kV_Lamp_next_shine dc_Lamp_next_shine pm_Lamp_next_shine cd_Lamp_next_shine ct_Lamp_next_shine oc_seen_from kV_seen_from dc_seen_from pm_seen_from cd_seen_from ct_seen_from oc_l_mixed kV_l_mixed dc_l_mixed pm_l_mixed cd_l_mixed ct_l_mixed oc_l_source kV_l_source dc_l_source pm_l_source cd_l_source ct_l_source oc_l_take kV_l_take dc_l_take pm_l_take cd_l_take ct_l_take oc_shining_rows kV_shining_rows dc_shining_rows pm_shining_rows cd_shining_rows ct_shining_rows oc_copied kV_copied dc_copied pm_copied cd_copied ct_copied oc_Light_init kV_Light_init dc_Light_init pm_Light_init cd_Light_init ct_Light_init oc_Light_lamps kV_Light_lamps dc_Light_lamps pm_Light_lamps cd_Light_lamps ct_Light_lamps oc_empty_places kV_empty_places dc_empty_places pm_empty_places cd_empty_places ct_empty_places oc_least_paper kV_least_paper dc_least_paper pm_least_paper cd_least_paper ct_least_paper oc_l_made kV_l_made dc_l_made pm_l_made cd_l_made ct_l_made oc_seen_rows kV_seen_rows dc_seen_rows pm_seen_rows cd_seen_rows ct_seen_rows oc_l_one kV_l_one dc_l_one pm_l_one cd_l_one ct_l_one oc_check_numbers kV_check_numbers dc_check_numbers pm_check_numbers cd_check_numbers ct_check_numbers oc_going kV_going dc_going pm_going cd_going ct_going oc_first_left kV_first_left dc_first_left pm_first_left cd_first_left ct_first_left oc_beats_alone kV_beats_alone dc_beats_alone pm_beats_alone cd_beats_alone ct_beats_alone oc_idle kV_idle dc_idle pm_idle cd_idle ct_idle oc_needed kV_needed dc_needed pm_needed cd_needed ct_needed oc_may_go kV_may_go dc_may_go pm_may_go cd_may_go ct_may_go oc_l_common kV_l_common dc_l_common pm_l_common cd_l_common ct_l_common oc_l_mixed_up kV_l_mixed_up dc_l_mixed_up pm_l_mixed_up cd_l_mixed_up ct_l_mixed_up oc_l_great kV_l_great dc_l_great pm_l_great cd_l_great ct_l_great oc_l_seen_as kV_l_seen_as dc_l_seen_as pm_l_seen_as cd_l_seen_as ct_l_seen_as oc_l_others kV_l_others dc_l_others pm_l_others cd_l_others ct_l_others oc_l_more_right kV_l_more_right dc_l_more_right pm_l_more_right cd_l_more_right ct_l_more_right oc_l_right kV_l_right dc_l_right pm_l_right cd_l_right ct_l_right oc_l_law kV_l_law dc_l_law pm_l_law cd_l_law ct_l_law : Value}
    {t_MOST_LAMPS : Tok}
    (aC_Lamp : PySem.W.nsIn K mainGlobals "Lamp" = some (some (.ref C_Lamp)))
    (pg_Lamp : PySem.W.plainGet K C_Lamp Str.empty = true)
    (hd_Lamp : PySem.W.hasDictIn K C_Lamp = true)
    (po_Lamp : PySem.W.plainOver K C_Lamp = true)
    (sa_Lamp : PySem.W.findIn K (.ref C_Lamp) "__setattr__" = some (some (.builtin "object.__setattr__")))
    (mk_Lamp : PySem.W.makesIn K C_Lamp = true)
    (kc_Lamp : PySem.W.keepIn K (.ref C_Lamp) = true)
    (kha_Lamp : PySem.W.findIn K (.ref C_Lamp) "__class__" = some (some (.builtin "object.__class__")))
    (khn_Lamp : PySem.W.specialIn K (.builtin "object.__class__") "__get__" = some (some (.builtin "getset_descriptor.__get__")))
    (kht_Lamp : PySem.W.takesIn K (.builtin "object.__class__") = some true)
    (khm_Lamp : PySem.W.mroIn K C_Lamp (.type "object") = some true)
    (na_Lamp_period : PySem.W.findIn K (.ref C_Lamp) "period" = some none)
    (na_Lamp_beat : PySem.W.findIn K (.ref C_Lamp) "beat" = some none)
    (aC_Light : PySem.W.nsIn K mainGlobals "Light" = some (some (.ref C_Light)))
    (pg_Light : PySem.W.plainGet K C_Light Str.empty = true)
    (hd_Light : PySem.W.hasDictIn K C_Light = true)
    (po_Light : PySem.W.plainOver K C_Light = true)
    (sa_Light : PySem.W.findIn K (.ref C_Light) "__setattr__" = some (some (.builtin "object.__setattr__")))
    (mk_Light : PySem.W.makesIn K C_Light = true)
    (kc_Light : PySem.W.keepIn K (.ref C_Light) = true)
    (kha_Light : PySem.W.findIn K (.ref C_Light) "__class__" = some (some (.builtin "object.__class__")))
    (khn_Light : PySem.W.specialIn K (.builtin "object.__class__") "__get__" = some (some (.builtin "getset_descriptor.__get__")))
    (kht_Light : PySem.W.takesIn K (.builtin "object.__class__") = some true)
    (khm_Light : PySem.W.mroIn K C_Light (.type "object") = some true)
    (na_Light__lamps : PySem.W.findIn K (.ref C_Light) "_lamps" = some none)
    (a_is_whole : PySem.W.nsIn K mainGlobals "is_whole" = some (some (.ref f_is_whole)))
    (l_is_whole : K.lookup f_is_whole = some ⟨oc_is_whole, od_is_whole, .func (PySem.W.fnOf "is_whole" "is_whole" (defArgs s_is_whole) (defBody s_is_whole) (defScope s_is_whole) .none kV_is_whole dc_is_whole pm_is_whole an_is_whole cd_is_whole ct_is_whole), sl_is_whole⟩)
    (c_is_whole : PySem.W.codeIn K cd_is_whole "is_whole" = true)
    (k_is_whole : PySem.W.keepIn K (.ref f_is_whole) = true)
    (a_check_beat : PySem.W.nsIn K mainGlobals "check_beat" = some (some (.ref f_check_beat)))
    (l_check_beat : K.lookup f_check_beat = some ⟨oc_check_beat, od_check_beat, .func (PySem.W.fnOf "check_beat" "check_beat" (defArgs s_check_beat) (defBody s_check_beat) (defScope s_check_beat) .none kV_check_beat dc_check_beat pm_check_beat an_check_beat cd_check_beat ct_check_beat), sl_check_beat⟩)
    (c_check_beat : PySem.W.codeIn K cd_check_beat "check_beat" = true)
    (k_check_beat : PySem.W.keepIn K (.ref f_check_beat) = true)
    (a_inverse : PySem.W.nsIn K mainGlobals "inverse" = some (some (.ref f_inverse)))
    (l_inverse : K.lookup f_inverse = some ⟨oc_inverse, od_inverse, .func (PySem.W.fnOf "inverse" "inverse" (defArgs s_inverse) (defBody s_inverse) (defScope s_inverse) .none kV_inverse dc_inverse pm_inverse an_inverse cd_inverse ct_inverse), sl_inverse⟩)
    (c_inverse : PySem.W.codeIn K cd_inverse "inverse" = true)
    (k_inverse : PySem.W.keepIn K (.ref f_inverse) = true)
    (a_Lamp_init : PySem.W.findIn K (.ref C_Lamp) "__init__" = some (some (.ref f_Lamp_init)))
    (j_Lamp_init : PySem.W.isFn K (.ref f_Lamp_init) = true)
    (l_Lamp_init : K.lookup f_Lamp_init = some ⟨oc_Lamp_init, od_Lamp_init, .func (PySem.W.fnOf "__init__" "Lamp.__init__" (defArgs s_Lamp_init) (defBody s_Lamp_init) (defScope s_Lamp_init) .none kV_Lamp_init dc_Lamp_init pm_Lamp_init an_Lamp_init cd_Lamp_init ct_Lamp_init), sl_Lamp_init⟩)
    (c_Lamp_init : PySem.W.codeIn K cd_Lamp_init "Lamp.__init__" = true)
    (k_Lamp_init : PySem.W.keepIn K (.ref f_Lamp_init) = true)
    (a_Lamp_eq : PySem.W.findIn K (.ref C_Lamp) "__eq__" = some (some (.ref f_Lamp_eq)))
    (j_Lamp_eq : PySem.W.isFn K (.ref f_Lamp_eq) = true)
    (l_Lamp_eq : K.lookup f_Lamp_eq = some ⟨oc_Lamp_eq, od_Lamp_eq, .func (PySem.W.fnOf "__eq__" "Lamp.__eq__" (defArgs s_Lamp_eq) (defBody s_Lamp_eq) (defScope s_Lamp_eq) .none kV_Lamp_eq dc_Lamp_eq pm_Lamp_eq an_Lamp_eq cd_Lamp_eq ct_Lamp_eq), sl_Lamp_eq⟩)
    (c_Lamp_eq : PySem.W.codeIn K cd_Lamp_eq "Lamp.__eq__" = true)
    (k_Lamp_eq : PySem.W.keepIn K (.ref f_Lamp_eq) = true)
    (a_Lamp_next_shine : PySem.W.findIn K (.ref C_Lamp) "next_shine" = some (some (.ref f_Lamp_next_shine)))
    (j_Lamp_next_shine : PySem.W.isFn K (.ref f_Lamp_next_shine) = true)
    (l_Lamp_next_shine : K.lookup f_Lamp_next_shine = some ⟨oc_Lamp_next_shine, od_Lamp_next_shine, .func (PySem.W.fnOf "next_shine" "Lamp.next_shine" (defArgs s_Lamp_next_shine) (defBody s_Lamp_next_shine) (defScope s_Lamp_next_shine) .none kV_Lamp_next_shine dc_Lamp_next_shine pm_Lamp_next_shine an_Lamp_next_shine cd_Lamp_next_shine ct_Lamp_next_shine), sl_Lamp_next_shine⟩)
    (c_Lamp_next_shine : PySem.W.codeIn K cd_Lamp_next_shine "Lamp.next_shine" = true)
    (k_Lamp_next_shine : PySem.W.keepIn K (.ref f_Lamp_next_shine) = true)
    (a_seen_from : PySem.W.nsIn K mainGlobals "seen_from" = some (some (.ref f_seen_from)))
    (l_seen_from : K.lookup f_seen_from = some ⟨oc_seen_from, od_seen_from, .func (PySem.W.fnOf "seen_from" "seen_from" (defArgs s_seen_from) (defBody s_seen_from) (defScope s_seen_from) .none kV_seen_from dc_seen_from pm_seen_from an_seen_from cd_seen_from ct_seen_from), sl_seen_from⟩)
    (c_seen_from : PySem.W.codeIn K cd_seen_from "seen_from" = true)
    (k_seen_from : PySem.W.keepIn K (.ref f_seen_from) = true)
    (a_l_mixed : PySem.W.nsIn K mainGlobals "_law_mixed" = some (some (.ref f_l_mixed)))
    (l_l_mixed : K.lookup f_l_mixed = some ⟨oc_l_mixed, od_l_mixed, .func (PySem.W.fnOf "_law_mixed" "_law_mixed" (defArgs s_l_mixed) (defBody s_l_mixed) (defScope s_l_mixed) .none kV_l_mixed dc_l_mixed pm_l_mixed an_l_mixed cd_l_mixed ct_l_mixed), sl_l_mixed⟩)
    (c_l_mixed : PySem.W.codeIn K cd_l_mixed "_law_mixed" = true)
    (k_l_mixed : PySem.W.keepIn K (.ref f_l_mixed) = true)
    (a_l_source : PySem.W.nsIn K mainGlobals "_law_source" = some (some (.ref f_l_source)))
    (l_l_source : K.lookup f_l_source = some ⟨oc_l_source, od_l_source, .func (PySem.W.fnOf "_law_source" "_law_source" (defArgs s_l_source) (defBody s_l_source) (defScope s_l_source) .none kV_l_source dc_l_source pm_l_source an_l_source cd_l_source ct_l_source), sl_l_source⟩)
    (c_l_source : PySem.W.codeIn K cd_l_source "_law_source" = true)
    (k_l_source : PySem.W.keepIn K (.ref f_l_source) = true)
    (a_l_take : PySem.W.nsIn K mainGlobals "_law_take" = some (some (.ref f_l_take)))
    (l_l_take : K.lookup f_l_take = some ⟨oc_l_take, od_l_take, .func (PySem.W.fnOf "_law_take" "_law_take" (defArgs s_l_take) (defBody s_l_take) (defScope s_l_take) .none kV_l_take dc_l_take pm_l_take an_l_take cd_l_take ct_l_take), sl_l_take⟩)
    (c_l_take : PySem.W.codeIn K cd_l_take "_law_take" = true)
    (k_l_take : PySem.W.keepIn K (.ref f_l_take) = true)
    (a_shining_rows : PySem.W.nsIn K mainGlobals "shining_rows" = some (some (.ref f_shining_rows)))
    (l_shining_rows : K.lookup f_shining_rows = some ⟨oc_shining_rows, od_shining_rows, .func (PySem.W.fnOf "shining_rows" "shining_rows" (defArgs s_shining_rows) (defBody s_shining_rows) (defScope s_shining_rows) .none kV_shining_rows dc_shining_rows pm_shining_rows an_shining_rows cd_shining_rows ct_shining_rows), sl_shining_rows⟩)
    (c_shining_rows : PySem.W.codeIn K cd_shining_rows "shining_rows" = true)
    (k_shining_rows : PySem.W.keepIn K (.ref f_shining_rows) = true)
    (a_copied : PySem.W.nsIn K mainGlobals "_copied" = some (some (.ref f_copied)))
    (l_copied : K.lookup f_copied = some ⟨oc_copied, od_copied, .func (PySem.W.fnOf "_copied" "_copied" (defArgs s_copied) (defBody s_copied) (defScope s_copied) .none kV_copied dc_copied pm_copied an_copied cd_copied ct_copied), sl_copied⟩)
    (c_copied : PySem.W.codeIn K cd_copied "_copied" = true)
    (k_copied : PySem.W.keepIn K (.ref f_copied) = true)
    (a_Light_init : PySem.W.findIn K (.ref C_Light) "__init__" = some (some (.ref f_Light_init)))
    (j_Light_init : PySem.W.isFn K (.ref f_Light_init) = true)
    (l_Light_init : K.lookup f_Light_init = some ⟨oc_Light_init, od_Light_init, .func (PySem.W.fnOf "__init__" "Light.__init__" (defArgs s_Light_init) (defBody s_Light_init) (defScope s_Light_init) .none kV_Light_init dc_Light_init pm_Light_init an_Light_init cd_Light_init ct_Light_init), sl_Light_init⟩)
    (c_Light_init : PySem.W.codeIn K cd_Light_init "Light.__init__" = true)
    (k_Light_init : PySem.W.keepIn K (.ref f_Light_init) = true)
    (a_Light_lamps : PySem.W.findIn K (.ref C_Light) "lamps" = some (some (.ref f_Light_lamps)))
    (j_Light_lamps : PySem.W.isFn K (.ref f_Light_lamps) = true)
    (l_Light_lamps : K.lookup f_Light_lamps = some ⟨oc_Light_lamps, od_Light_lamps, .func (PySem.W.fnOf "lamps" "Light.lamps" (defArgs s_Light_lamps) (defBody s_Light_lamps) (defScope s_Light_lamps) .none kV_Light_lamps dc_Light_lamps pm_Light_lamps an_Light_lamps cd_Light_lamps ct_Light_lamps), sl_Light_lamps⟩)
    (c_Light_lamps : PySem.W.codeIn K cd_Light_lamps "Light.lamps" = true)
    (k_Light_lamps : PySem.W.keepIn K (.ref f_Light_lamps) = true)
    (a_empty_places : PySem.W.nsIn K mainGlobals "empty_places" = some (some (.ref f_empty_places)))
    (l_empty_places : K.lookup f_empty_places = some ⟨oc_empty_places, od_empty_places, .func (PySem.W.fnOf "empty_places" "empty_places" (defArgs s_empty_places) (defBody s_empty_places) (defScope s_empty_places) .none kV_empty_places dc_empty_places pm_empty_places an_empty_places cd_empty_places ct_empty_places), sl_empty_places⟩)
    (c_empty_places : PySem.W.codeIn K cd_empty_places "empty_places" = true)
    (k_empty_places : PySem.W.keepIn K (.ref f_empty_places) = true)
    (a_least_paper : PySem.W.nsIn K mainGlobals "least_paper" = some (some (.ref f_least_paper)))
    (l_least_paper : K.lookup f_least_paper = some ⟨oc_least_paper, od_least_paper, .func (PySem.W.fnOf "least_paper" "least_paper" (defArgs s_least_paper) (defBody s_least_paper) (defScope s_least_paper) .none kV_least_paper dc_least_paper pm_least_paper an_least_paper cd_least_paper ct_least_paper), sl_least_paper⟩)
    (c_least_paper : PySem.W.codeIn K cd_least_paper "least_paper" = true)
    (k_least_paper : PySem.W.keepIn K (.ref f_least_paper) = true)
    (a_l_made : PySem.W.nsIn K mainGlobals "_law_made" = some (some (.ref f_l_made)))
    (l_l_made : K.lookup f_l_made = some ⟨oc_l_made, od_l_made, .func (PySem.W.fnOf "_law_made" "_law_made" (defArgs s_l_made) (defBody s_l_made) (defScope s_l_made) .none kV_l_made dc_l_made pm_l_made an_l_made cd_l_made ct_l_made), sl_l_made⟩)
    (c_l_made : PySem.W.codeIn K cd_l_made "_law_made" = true)
    (k_l_made : PySem.W.keepIn K (.ref f_l_made) = true)
    (a_seen_rows : PySem.W.nsIn K mainGlobals "seen_rows" = some (some (.ref f_seen_rows)))
    (l_seen_rows : K.lookup f_seen_rows = some ⟨oc_seen_rows, od_seen_rows, .func (PySem.W.fnOf "seen_rows" "seen_rows" (defArgs s_seen_rows) (defBody s_seen_rows) (defScope s_seen_rows) .none kV_seen_rows dc_seen_rows pm_seen_rows an_seen_rows cd_seen_rows ct_seen_rows), sl_seen_rows⟩)
    (c_seen_rows : PySem.W.codeIn K cd_seen_rows "seen_rows" = true)
    (k_seen_rows : PySem.W.keepIn K (.ref f_seen_rows) = true)
    (a_l_one : PySem.W.nsIn K mainGlobals "_law_one" = some (some (.ref f_l_one)))
    (l_l_one : K.lookup f_l_one = some ⟨oc_l_one, od_l_one, .func (PySem.W.fnOf "_law_one" "_law_one" (defArgs s_l_one) (defBody s_l_one) (defScope s_l_one) .none kV_l_one dc_l_one pm_l_one an_l_one cd_l_one ct_l_one), sl_l_one⟩)
    (c_l_one : PySem.W.codeIn K cd_l_one "_law_one" = true)
    (k_l_one : PySem.W.keepIn K (.ref f_l_one) = true)
    (a_check_numbers : PySem.W.nsIn K mainGlobals "check_numbers" = some (some (.ref f_check_numbers)))
    (l_check_numbers : K.lookup f_check_numbers = some ⟨oc_check_numbers, od_check_numbers, .func (PySem.W.fnOf "check_numbers" "check_numbers" (defArgs s_check_numbers) (defBody s_check_numbers) (defScope s_check_numbers) .none kV_check_numbers dc_check_numbers pm_check_numbers an_check_numbers cd_check_numbers ct_check_numbers), sl_check_numbers⟩)
    (c_check_numbers : PySem.W.codeIn K cd_check_numbers "check_numbers" = true)
    (k_check_numbers : PySem.W.keepIn K (.ref f_check_numbers) = true)
    (a_going : PySem.W.nsIn K mainGlobals "_going" = some (some (.ref f_going)))
    (l_going : K.lookup f_going = some ⟨oc_going, od_going, .func (PySem.W.fnOf "_going" "_going" (defArgs s_going) (defBody s_going) (defScope s_going) .none kV_going dc_going pm_going an_going cd_going ct_going), sl_going⟩)
    (c_going : PySem.W.codeIn K cd_going "_going" = true)
    (k_going : PySem.W.keepIn K (.ref f_going) = true)
    (a_first_left : PySem.W.nsIn K mainGlobals "_first_left" = some (some (.ref f_first_left)))
    (l_first_left : K.lookup f_first_left = some ⟨oc_first_left, od_first_left, .func (PySem.W.fnOf "_first_left" "_first_left" (defArgs s_first_left) (defBody s_first_left) (defScope s_first_left) .none kV_first_left dc_first_left pm_first_left an_first_left cd_first_left ct_first_left), sl_first_left⟩)
    (c_first_left : PySem.W.codeIn K cd_first_left "_first_left" = true)
    (k_first_left : PySem.W.keepIn K (.ref f_first_left) = true)
    (a_beats_alone : PySem.W.nsIn K mainGlobals "_beats_alone" = some (some (.ref f_beats_alone)))
    (l_beats_alone : K.lookup f_beats_alone = some ⟨oc_beats_alone, od_beats_alone, .func (PySem.W.fnOf "_beats_alone" "_beats_alone" (defArgs s_beats_alone) (defBody s_beats_alone) (defScope s_beats_alone) .none kV_beats_alone dc_beats_alone pm_beats_alone an_beats_alone cd_beats_alone ct_beats_alone), sl_beats_alone⟩)
    (c_beats_alone : PySem.W.codeIn K cd_beats_alone "_beats_alone" = true)
    (k_beats_alone : PySem.W.keepIn K (.ref f_beats_alone) = true)
    (a_idle : PySem.W.nsIn K mainGlobals "idle" = some (some (.ref f_idle)))
    (l_idle : K.lookup f_idle = some ⟨oc_idle, od_idle, .func (PySem.W.fnOf "idle" "idle" (defArgs s_idle) (defBody s_idle) (defScope s_idle) .none kV_idle dc_idle pm_idle an_idle cd_idle ct_idle), sl_idle⟩)
    (c_idle : PySem.W.codeIn K cd_idle "idle" = true)
    (k_idle : PySem.W.keepIn K (.ref f_idle) = true)
    (a_needed : PySem.W.nsIn K mainGlobals "needed" = some (some (.ref f_needed)))
    (l_needed : K.lookup f_needed = some ⟨oc_needed, od_needed, .func (PySem.W.fnOf "needed" "needed" (defArgs s_needed) (defBody s_needed) (defScope s_needed) .none kV_needed dc_needed pm_needed an_needed cd_needed ct_needed), sl_needed⟩)
    (c_needed : PySem.W.codeIn K cd_needed "needed" = true)
    (k_needed : PySem.W.keepIn K (.ref f_needed) = true)
    (a_may_go : PySem.W.nsIn K mainGlobals "may_go" = some (some (.ref f_may_go)))
    (l_may_go : K.lookup f_may_go = some ⟨oc_may_go, od_may_go, .func (PySem.W.fnOf "may_go" "may_go" (defArgs s_may_go) (defBody s_may_go) (defScope s_may_go) .none kV_may_go dc_may_go pm_may_go an_may_go cd_may_go ct_may_go), sl_may_go⟩)
    (c_may_go : PySem.W.codeIn K cd_may_go "may_go" = true)
    (k_may_go : PySem.W.keepIn K (.ref f_may_go) = true)
    (a_l_common : PySem.W.nsIn K mainGlobals "_law_common" = some (some (.ref f_l_common)))
    (l_l_common : K.lookup f_l_common = some ⟨oc_l_common, od_l_common, .func (PySem.W.fnOf "_law_common" "_law_common" (defArgs s_l_common) (defBody s_l_common) (defScope s_l_common) .none kV_l_common dc_l_common pm_l_common an_l_common cd_l_common ct_l_common), sl_l_common⟩)
    (c_l_common : PySem.W.codeIn K cd_l_common "_law_common" = true)
    (k_l_common : PySem.W.keepIn K (.ref f_l_common) = true)
    (a_l_mixed_up : PySem.W.nsIn K mainGlobals "_law_mixed_up" = some (some (.ref f_l_mixed_up)))
    (l_l_mixed_up : K.lookup f_l_mixed_up = some ⟨oc_l_mixed_up, od_l_mixed_up, .func (PySem.W.fnOf "_law_mixed_up" "_law_mixed_up" (defArgs s_l_mixed_up) (defBody s_l_mixed_up) (defScope s_l_mixed_up) .none kV_l_mixed_up dc_l_mixed_up pm_l_mixed_up an_l_mixed_up cd_l_mixed_up ct_l_mixed_up), sl_l_mixed_up⟩)
    (c_l_mixed_up : PySem.W.codeIn K cd_l_mixed_up "_law_mixed_up" = true)
    (k_l_mixed_up : PySem.W.keepIn K (.ref f_l_mixed_up) = true)
    (a_l_great : PySem.W.nsIn K mainGlobals "_law_great" = some (some (.ref f_l_great)))
    (l_l_great : K.lookup f_l_great = some ⟨oc_l_great, od_l_great, .func (PySem.W.fnOf "_law_great" "_law_great" (defArgs s_l_great) (defBody s_l_great) (defScope s_l_great) .none kV_l_great dc_l_great pm_l_great an_l_great cd_l_great ct_l_great), sl_l_great⟩)
    (c_l_great : PySem.W.codeIn K cd_l_great "_law_great" = true)
    (k_l_great : PySem.W.keepIn K (.ref f_l_great) = true)
    (a_l_seen_as : PySem.W.nsIn K mainGlobals "_law_seen_as" = some (some (.ref f_l_seen_as)))
    (l_l_seen_as : K.lookup f_l_seen_as = some ⟨oc_l_seen_as, od_l_seen_as, .func (PySem.W.fnOf "_law_seen_as" "_law_seen_as" (defArgs s_l_seen_as) (defBody s_l_seen_as) (defScope s_l_seen_as) .none kV_l_seen_as dc_l_seen_as pm_l_seen_as an_l_seen_as cd_l_seen_as ct_l_seen_as), sl_l_seen_as⟩)
    (c_l_seen_as : PySem.W.codeIn K cd_l_seen_as "_law_seen_as" = true)
    (k_l_seen_as : PySem.W.keepIn K (.ref f_l_seen_as) = true)
    (a_l_others : PySem.W.nsIn K mainGlobals "_law_others" = some (some (.ref f_l_others)))
    (l_l_others : K.lookup f_l_others = some ⟨oc_l_others, od_l_others, .func (PySem.W.fnOf "_law_others" "_law_others" (defArgs s_l_others) (defBody s_l_others) (defScope s_l_others) .none kV_l_others dc_l_others pm_l_others an_l_others cd_l_others ct_l_others), sl_l_others⟩)
    (c_l_others : PySem.W.codeIn K cd_l_others "_law_others" = true)
    (k_l_others : PySem.W.keepIn K (.ref f_l_others) = true)
    (a_l_more_right : PySem.W.nsIn K mainGlobals "_law_more_right" = some (some (.ref f_l_more_right)))
    (l_l_more_right : K.lookup f_l_more_right = some ⟨oc_l_more_right, od_l_more_right, .func (PySem.W.fnOf "_law_more_right" "_law_more_right" (defArgs s_l_more_right) (defBody s_l_more_right) (defScope s_l_more_right) .none kV_l_more_right dc_l_more_right pm_l_more_right an_l_more_right cd_l_more_right ct_l_more_right), sl_l_more_right⟩)
    (c_l_more_right : PySem.W.codeIn K cd_l_more_right "_law_more_right" = true)
    (k_l_more_right : PySem.W.keepIn K (.ref f_l_more_right) = true)
    (a_l_right : PySem.W.nsIn K mainGlobals "_law_right" = some (some (.ref f_l_right)))
    (l_l_right : K.lookup f_l_right = some ⟨oc_l_right, od_l_right, .func (PySem.W.fnOf "_law_right" "_law_right" (defArgs s_l_right) (defBody s_l_right) (defScope s_l_right) .none kV_l_right dc_l_right pm_l_right an_l_right cd_l_right ct_l_right), sl_l_right⟩)
    (c_l_right : PySem.W.codeIn K cd_l_right "_law_right" = true)
    (k_l_right : PySem.W.keepIn K (.ref f_l_right) = true)
    (a_l_law : PySem.W.nsIn K mainGlobals "law" = some (some (.ref f_l_law)))
    (l_l_law : K.lookup f_l_law = some ⟨oc_l_law, od_l_law, .func (PySem.W.fnOf "law" "law" (defArgs s_l_law) (defBody s_l_law) (defScope s_l_law) .none kV_l_law dc_l_law pm_l_law an_l_law cd_l_law ct_l_law), sl_l_law⟩)
    (c_l_law : PySem.W.codeIn K cd_l_law "law" = true)
    (k_l_law : PySem.W.keepIn K (.ref f_l_law) = true)
    (ne1_Lamp : PySem.W.findIn K (.ref C_Lamp) "__ne__" = some (some (.builtin "object.__ne__")))
    (ne2_Lamp : PySem.W.subIn K (.ref C_Lamp) (.type "object") = some true)
    (n_isinstance : PySem.W.nsIn K mainGlobals "isinstance" = some none)
    (n_int : PySem.W.nsIn K mainGlobals "int" = some none)
    (n_bool : PySem.W.nsIn K mainGlobals "bool" = some none)
    (n_range : PySem.W.nsIn K mainGlobals "range" = some none)
    (n_len : PySem.W.nsIn K mainGlobals "len" = some none)
    (n_list : PySem.W.nsIn K mainGlobals "list" = some none)
    (n_enumerate : PySem.W.nsIn K mainGlobals "enumerate" = some none)
    (n_tuple : PySem.W.nsIn K mainGlobals "tuple" = some none)
    (n_all : PySem.W.nsIn K mainGlobals "all" = some none)
    (n_sorted : PySem.W.nsIn K mainGlobals "sorted" = some none)
    (n_min : PySem.W.nsIn K mainGlobals "min" = some none)
    (n_dict : PySem.W.nsIn K mainGlobals "dict" = some none)
    (c_MOST_LAMPS : PySem.W.nsIn K mainGlobals "MOST_LAMPS" = some (some (.int 10 t_MOST_LAMPS)))
    (ic_Lamp : PySem.W.isClsIn K C_Lamp = true)
    (tc_Lamp : PySem.W.typeIn K (.ref C_Lamp) = some (.type "type"))
    (sn_Lamp : PySem.W.subIn K (.type "NoneType") (.ref C_Lamp) = some false)
    (i_gcd : PySem.W.nsIn K mainGlobals "gcd" = some (some (.builtin "math.gcd")))
    : ∃ fd : FuncData, (∀ (s : Shared) (v : Value), BindsTo s fd ⟨[v], []⟩ [("_law_script", v)]) ∧ ∀ base : Heap, K.In base → base.Ns mainGlobals mg → FnOk l.prog w K mg base CX0 11 fa fd ["_law_script"] (spLaw K) := by
  have e := hfa.symm.trans (PySem.W.mg_of X G a_l_law)
  cases e
  exact ⟨_, fun s v => .of_eq rfl, fun base _ _ => ok_l_law (T := {
    C_Lamp := C_Lamp
    cl_Lamp := ⟨pg_Lamp, hd_Lamp, po_Lamp, sa_Lamp⟩
    gC_Lamp := PySem.W.mg_of X G aC_Lamp
    kl_Lamp := ⟨⟨pg_Lamp, hd_Lamp, po_Lamp, sa_Lamp⟩, kha_Lamp, khn_Lamp, kht_Lamp, khm_Lamp⟩
    na_Lamp_period := na_Lamp_period
    na_Lamp_beat := na_Lamp_beat
    C_Light := C_Light
    cl_Light := ⟨pg_Light, hd_Light, po_Light, sa_Light⟩
    gC_Light := PySem.W.mg_of X G aC_Light
    kl_Light := ⟨⟨pg_Light, hd_Light, po_Light, sa_Light⟩, kha_Light, khn_Light, kht_Light, khm_Light⟩
    na_Light__lamps := na_Light__lamps
    f_is_whole := f_is_whole
    d_is_whole := PySem.W.fnOf "is_whole" "is_whole" (defArgs s_is_whole) (defBody s_is_whole) (defScope s_is_whole) .none kV_is_whole dc_is_whole pm_is_whole an_is_whole cd_is_whole ct_is_whole
    F_is_whole := fun_mk (st := s_is_whole) l_is_whole c_is_whole k_is_whole
    b_is_whole := (fun_mk (st := s_is_whole) l_is_whole c_is_whole k_is_whole).binds (ps := ["thing"]) fun _ _ _ _ _ _ us hl => match us, hl with | [_], _ => rfl
    g_is_whole := PySem.W.mg_of X G a_is_whole
    f_check_beat := f_check_beat
    d_check_beat := PySem.W.fnOf "check_beat" "check_beat" (defArgs s_check_beat) (defBody s_check_beat) (defScope s_check_beat) .none kV_check_beat dc_check_beat pm_check_beat an_check_beat cd_check_beat ct_check_beat
    F_check_beat := fun_mk (st := s_check_beat) l_check_beat c_check_beat k_check_beat
    b_check_beat := (fun_mk (st := s_check_beat) l_check_beat c_check_beat k_check_beat).binds (ps := ["thing"]) fun _ _ _ _ _ _ us hl => match us, hl with | [_], _ => rfl
    g_check_beat := PySem.W.mg_of X G a_check_beat
    f_inverse := f_inverse
    d_inverse := PySem.W.fnOf "inverse" "inverse" (defArgs s_inverse) (defBody s_inverse) (defScope s_inverse) .none kV_inverse dc_inverse pm_inverse an_inverse cd_inverse ct_inverse
    F_inverse := fun_mk (st := s_inverse) l_inverse c_inverse k_inverse
    b_inverse := (fun_mk (st := s_inverse) l_inverse c_inverse k_inverse).binds (ps := ["number", "modulus"]) fun _ _ _ _ _ _ us hl => match us, hl with | [_, _], _ => rfl
    g_inverse := PySem.W.mg_of X G a_inverse
    f_Lamp_init := f_Lamp_init
    d_Lamp_init := PySem.W.fnOf "__init__" "Lamp.__init__" (defArgs s_Lamp_init) (defBody s_Lamp_init) (defScope s_Lamp_init) .none kV_Lamp_init dc_Lamp_init pm_Lamp_init an_Lamp_init cd_Lamp_init ct_Lamp_init
    F_Lamp_init := fun_mk (st := s_Lamp_init) l_Lamp_init c_Lamp_init k_Lamp_init
    b_Lamp_init := (fun_mk (st := s_Lamp_init) l_Lamp_init c_Lamp_init k_Lamp_init).binds (ps := ["self", "period", "beat"]) fun _ _ _ _ _ _ us hl => match us, hl with | [_, _, _], _ => rfl
    m_Lamp_init := ⟨a_Lamp_init, j_Lamp_init, k_Lamp_init⟩
    mk_Lamp := ⟨mk_Lamp, a_Lamp_init, j_Lamp_init, kc_Lamp⟩
    f_Lamp_eq := f_Lamp_eq
    d_Lamp_eq := PySem.W.fnOf "__eq__" "Lamp.__eq__" (defArgs s_Lamp_eq) (defBody s_Lamp_eq) (defScope s_Lamp_eq) .none kV_Lamp_eq dc_Lamp_eq pm_Lamp_eq an_Lamp_eq cd_Lamp_eq ct_Lamp_eq
    F_Lamp_eq := fun_mk (st := s_Lamp_eq) l_Lamp_eq c_Lamp_eq k_Lamp_eq
    b_Lamp_eq := (fun_mk (st := s_Lamp_eq) l_Lamp_eq c_Lamp_eq k_Lamp_eq).binds (ps := ["self", "other"]) fun _ _ _ _ _ _ us hl => match us, hl with | [_, _], _ => rfl
    m_Lamp_eq := ⟨a_Lamp_eq, j_Lamp_eq, k_Lamp_eq⟩
    f_Lamp_next_shine := f_Lamp_next_shine
    d_Lamp_next_shine := PySem.W.fnOf "next_shine" "Lamp.next_shine" (defArgs s_Lamp_next_shine) (defBody s_Lamp_next_shine) (defScope s_Lamp_next_shine) .none kV_Lamp_next_shine dc_Lamp_next_shine pm_Lamp_next_shine an_Lamp_next_shine cd_Lamp_next_shine ct_Lamp_next_shine
    F_Lamp_next_shine := fun_mk (st := s_Lamp_next_shine) l_Lamp_next_shine c_Lamp_next_shine k_Lamp_next_shine
    b_Lamp_next_shine := (fun_mk (st := s_Lamp_next_shine) l_Lamp_next_shine c_Lamp_next_shine k_Lamp_next_shine).binds (ps := ["self", "begin"]) fun _ _ _ _ _ _ us hl => match us, hl with | [_, _], _ => rfl
    m_Lamp_next_shine := ⟨a_Lamp_next_shine, j_Lamp_next_shine, k_Lamp_next_shine⟩
    f_seen_from := f_seen_from
    d_seen_from := PySem.W.fnOf "seen_from" "seen_from" (defArgs s_seen_from) (defBody s_seen_from) (defScope s_seen_from) .none kV_seen_from dc_seen_from pm_seen_from an_seen_from cd_seen_from ct_seen_from
    F_seen_from := fun_mk (st := s_seen_from) l_seen_from c_seen_from k_seen_from
    b_seen_from := (fun_mk (st := s_seen_from) l_seen_from c_seen_from k_seen_from).binds (ps := ["lamp", "other"]) fun _ _ _ _ _ _ us hl => match us, hl with | [_, _], _ => rfl
    g_seen_from := PySem.W.mg_of X G a_seen_from
    f_l_mixed := f_l_mixed
    d_l_mixed := PySem.W.fnOf "_law_mixed" "_law_mixed" (defArgs s_l_mixed) (defBody s_l_mixed) (defScope s_l_mixed) .none kV_l_mixed dc_l_mixed pm_l_mixed an_l_mixed cd_l_mixed ct_l_mixed
    F_l_mixed := fun_mk (st := s_l_mixed) l_l_mixed c_l_mixed k_l_mixed
    b_l_mixed := (fun_mk (st := s_l_mixed) l_l_mixed c_l_mixed k_l_mixed).binds (ps := ["_law_cell", "_law_k"]) fun _ _ _ _ _ _ us hl => match us, hl with | [_, _], _ => rfl
    g_l_mixed := PySem.W.mg_of X G a_l_mixed
    f_l_source := f_l_source
    d_l_source := PySem.W.fnOf "_law_source" "_law_source" (defArgs s_l_source) (defBody s_l_source) (defScope s_l_source) .none kV_l_source dc_l_source pm_l_source an_l_source cd_l_source ct_l_source
    F_l_source := fun_mk (st := s_l_source) l_l_source c_l_source k_l_source
    b_l_source := (fun_mk (st := s_l_source) l_l_source c_l_source k_l_source).binds (ps := ["_law_cell"]) fun _ _ _ _ _ _ us hl => match us, hl with | [_], _ => rfl
    g_l_source := PySem.W.mg_of X G a_l_source
    f_l_take := f_l_take
    d_l_take := PySem.W.fnOf "_law_take" "_law_take" (defArgs s_l_take) (defBody s_l_take) (defScope s_l_take) .none kV_l_take dc_l_take pm_l_take an_l_take cd_l_take ct_l_take
    F_l_take := fun_mk (st := s_l_take) l_l_take c_l_take k_l_take
    b_l_take := (fun_mk (st := s_l_take) l_l_take c_l_take k_l_take).binds (ps := ["_law_source_here", "_law_many"]) fun _ _ _ _ _ _ us hl => match us, hl with | [_, _], _ => rfl
    g_l_take := PySem.W.mg_of X G a_l_take
    f_shining_rows := f_shining_rows
    d_shining_rows := PySem.W.fnOf "shining_rows" "shining_rows" (defArgs s_shining_rows) (defBody s_shining_rows) (defScope s_shining_rows) .none kV_shining_rows dc_shining_rows pm_shining_rows an_shining_rows cd_shining_rows ct_shining_rows
    F_shining_rows := fun_mk (st := s_shining_rows) l_shining_rows c_shining_rows k_shining_rows
    b_shining_rows := (fun_mk (st := s_shining_rows) l_shining_rows c_shining_rows k_shining_rows).binds (ps := ["numbered", "begin", "many"]) fun _ _ _ _ _ _ us hl => match us, hl with | [_, _, _], _ => rfl
    g_shining_rows := PySem.W.mg_of X G a_shining_rows
    f_copied := f_copied
    d_copied := PySem.W.fnOf "_copied" "_copied" (defArgs s_copied) (defBody s_copied) (defScope s_copied) .none kV_copied dc_copied pm_copied an_copied cd_copied ct_copied
    F_copied := fun_mk (st := s_copied) l_copied c_copied k_copied
    b_copied := (fun_mk (st := s_copied) l_copied c_copied k_copied).binds (ps := ["lamps"]) fun _ _ _ _ _ _ us hl => match us, hl with | [_], _ => rfl
    g_copied := PySem.W.mg_of X G a_copied
    f_Light_init := f_Light_init
    d_Light_init := PySem.W.fnOf "__init__" "Light.__init__" (defArgs s_Light_init) (defBody s_Light_init) (defScope s_Light_init) .none kV_Light_init dc_Light_init pm_Light_init an_Light_init cd_Light_init ct_Light_init
    F_Light_init := fun_mk (st := s_Light_init) l_Light_init c_Light_init k_Light_init
    b_Light_init := (fun_mk (st := s_Light_init) l_Light_init c_Light_init k_Light_init).binds (ps := ["self", "lamps"]) fun _ _ _ _ _ _ us hl => match us, hl with | [_, _], _ => rfl
    m_Light_init := ⟨a_Light_init, j_Light_init, k_Light_init⟩
    mk_Light := ⟨mk_Light, a_Light_init, j_Light_init, kc_Light⟩
    f_Light_lamps := f_Light_lamps
    d_Light_lamps := PySem.W.fnOf "lamps" "Light.lamps" (defArgs s_Light_lamps) (defBody s_Light_lamps) (defScope s_Light_lamps) .none kV_Light_lamps dc_Light_lamps pm_Light_lamps an_Light_lamps cd_Light_lamps ct_Light_lamps
    F_Light_lamps := fun_mk (st := s_Light_lamps) l_Light_lamps c_Light_lamps k_Light_lamps
    b_Light_lamps := (fun_mk (st := s_Light_lamps) l_Light_lamps c_Light_lamps k_Light_lamps).binds (ps := ["self"]) fun _ _ _ _ _ _ us hl => match us, hl with | [_], _ => rfl
    m_Light_lamps := ⟨a_Light_lamps, j_Light_lamps, k_Light_lamps⟩
    f_empty_places := f_empty_places
    d_empty_places := PySem.W.fnOf "empty_places" "empty_places" (defArgs s_empty_places) (defBody s_empty_places) (defScope s_empty_places) .none kV_empty_places dc_empty_places pm_empty_places an_empty_places cd_empty_places ct_empty_places
    F_empty_places := fun_mk (st := s_empty_places) l_empty_places c_empty_places k_empty_places
    b_empty_places := (fun_mk (st := s_empty_places) l_empty_places c_empty_places k_empty_places).binds (ps := ["rows"]) fun _ _ _ _ _ _ us hl => match us, hl with | [_], _ => rfl
    g_empty_places := PySem.W.mg_of X G a_empty_places
    f_least_paper := f_least_paper
    d_least_paper := PySem.W.fnOf "least_paper" "least_paper" (defArgs s_least_paper) (defBody s_least_paper) (defScope s_least_paper) .none kV_least_paper dc_least_paper pm_least_paper an_least_paper cd_least_paper ct_least_paper
    F_least_paper := fun_mk (st := s_least_paper) l_least_paper c_least_paper k_least_paper
    b_least_paper := (fun_mk (st := s_least_paper) l_least_paper c_least_paper k_least_paper).binds (ps := ["rows"]) fun _ _ _ _ _ _ us hl => match us, hl with | [_], _ => rfl
    g_least_paper := PySem.W.mg_of X G a_least_paper
    f_l_made := f_l_made
    d_l_made := PySem.W.fnOf "_law_made" "_law_made" (defArgs s_l_made) (defBody s_l_made) (defScope s_l_made) .none kV_l_made dc_l_made pm_l_made an_l_made cd_l_made ct_l_made
    F_l_made := fun_mk (st := s_l_made) l_l_made c_l_made k_l_made
    b_l_made := (fun_mk (st := s_l_made) l_l_made c_l_made k_l_made).binds (ps := ["_law_ones"]) fun _ _ _ _ _ _ us hl => match us, hl with | [_], _ => rfl
    g_l_made := PySem.W.mg_of X G a_l_made
    f_seen_rows := f_seen_rows
    d_seen_rows := PySem.W.fnOf "seen_rows" "seen_rows" (defArgs s_seen_rows) (defBody s_seen_rows) (defScope s_seen_rows) .none kV_seen_rows dc_seen_rows pm_seen_rows an_seen_rows cd_seen_rows ct_seen_rows
    F_seen_rows := fun_mk (st := s_seen_rows) l_seen_rows c_seen_rows k_seen_rows
    b_seen_rows := (fun_mk (st := s_seen_rows) l_seen_rows c_seen_rows k_seen_rows).binds (ps := ["lamp", "numbered", "first", "many"]) fun _ _ _ _ _ _ us hl => match us, hl with | [_, _, _, _], _ => rfl
    g_seen_rows := PySem.W.mg_of X G a_seen_rows
    f_l_one := f_l_one
    d_l_one := PySem.W.fnOf "_law_one" "_law_one" (defArgs s_l_one) (defBody s_l_one) (defScope s_l_one) .none kV_l_one dc_l_one pm_l_one an_l_one cd_l_one ct_l_one
    F_l_one := fun_mk (st := s_l_one) l_l_one c_l_one k_l_one
    b_l_one := (fun_mk (st := s_l_one) l_l_one c_l_one k_l_one).binds (ps := ["_law_source_here", "_law_some"]) fun _ _ _ _ _ _ us hl => match us, hl with | [_, _], _ => rfl
    g_l_one := PySem.W.mg_of X G a_l_one
    f_check_numbers := f_check_numbers
    d_check_numbers := PySem.W.fnOf "check_numbers" "check_numbers" (defArgs s_check_numbers) (defBody s_check_numbers) (defScope s_check_numbers) .none kV_check_numbers dc_check_numbers pm_check_numbers an_check_numbers cd_check_numbers ct_check_numbers
    F_check_numbers := fun_mk (st := s_check_numbers) l_check_numbers c_check_numbers k_check_numbers
    b_check_numbers := (fun_mk (st := s_check_numbers) l_check_numbers c_check_numbers k_check_numbers).binds (ps := ["light", "numbers"]) fun _ _ _ _ _ _ us hl => match us, hl with | [_, _], _ => rfl
    g_check_numbers := PySem.W.mg_of X G a_check_numbers
    f_going := f_going
    d_going := PySem.W.fnOf "_going" "_going" (defArgs s_going) (defBody s_going) (defScope s_going) .none kV_going dc_going pm_going an_going cd_going ct_going
    F_going := fun_mk (st := s_going) l_going c_going k_going
    b_going := (fun_mk (st := s_going) l_going c_going k_going).binds (ps := ["light", "numbers"]) fun _ _ _ _ _ _ us hl => match us, hl with | [_, _], _ => rfl
    g_going := PySem.W.mg_of X G a_going
    f_first_left := f_first_left
    d_first_left := PySem.W.fnOf "_first_left" "_first_left" (defArgs s_first_left) (defBody s_first_left) (defScope s_first_left) .none kV_first_left dc_first_left pm_first_left an_first_left cd_first_left ct_first_left
    F_first_left := fun_mk (st := s_first_left) l_first_left c_first_left k_first_left
    b_first_left := (fun_mk (st := s_first_left) l_first_left c_first_left k_first_left).binds (ps := ["lamp", "rows"]) fun _ _ _ _ _ _ us hl => match us, hl with | [_, _], _ => rfl
    g_first_left := PySem.W.mg_of X G a_first_left
    f_beats_alone := f_beats_alone
    d_beats_alone := PySem.W.fnOf "_beats_alone" "_beats_alone" (defArgs s_beats_alone) (defBody s_beats_alone) (defScope s_beats_alone) .none kV_beats_alone dc_beats_alone pm_beats_alone an_beats_alone cd_beats_alone ct_beats_alone
    F_beats_alone := fun_mk (st := s_beats_alone) l_beats_alone c_beats_alone k_beats_alone
    b_beats_alone := (fun_mk (st := s_beats_alone) l_beats_alone c_beats_alone k_beats_alone).binds (ps := ["light"]) fun _ _ _ _ _ _ us hl => match us, hl with | [_], _ => rfl
    g_beats_alone := PySem.W.mg_of X G a_beats_alone
    f_idle := f_idle
    d_idle := PySem.W.fnOf "idle" "idle" (defArgs s_idle) (defBody s_idle) (defScope s_idle) .none kV_idle dc_idle pm_idle an_idle cd_idle ct_idle
    F_idle := fun_mk (st := s_idle) l_idle c_idle k_idle
    b_idle := (fun_mk (st := s_idle) l_idle c_idle k_idle).binds (ps := ["light"]) fun _ _ _ _ _ _ us hl => match us, hl with | [_], _ => rfl
    g_idle := PySem.W.mg_of X G a_idle
    f_needed := f_needed
    d_needed := PySem.W.fnOf "needed" "needed" (defArgs s_needed) (defBody s_needed) (defScope s_needed) .none kV_needed dc_needed pm_needed an_needed cd_needed ct_needed
    F_needed := fun_mk (st := s_needed) l_needed c_needed k_needed
    b_needed := (fun_mk (st := s_needed) l_needed c_needed k_needed).binds (ps := ["light"]) fun _ _ _ _ _ _ us hl => match us, hl with | [_], _ => rfl
    g_needed := PySem.W.mg_of X G a_needed
    f_may_go := f_may_go
    d_may_go := PySem.W.fnOf "may_go" "may_go" (defArgs s_may_go) (defBody s_may_go) (defScope s_may_go) .none kV_may_go dc_may_go pm_may_go an_may_go cd_may_go ct_may_go
    F_may_go := fun_mk (st := s_may_go) l_may_go c_may_go k_may_go
    b_may_go := (fun_mk (st := s_may_go) l_may_go c_may_go k_may_go).binds (ps := ["light", "numbers"]) fun _ _ _ _ _ _ us hl => match us, hl with | [_, _], _ => rfl
    g_may_go := PySem.W.mg_of X G a_may_go
    f_l_common := f_l_common
    d_l_common := PySem.W.fnOf "_law_common" "_law_common" (defArgs s_l_common) (defBody s_l_common) (defScope s_l_common) .none kV_l_common dc_l_common pm_l_common an_l_common cd_l_common ct_l_common
    F_l_common := fun_mk (st := s_l_common) l_l_common c_l_common k_l_common
    b_l_common := (fun_mk (st := s_l_common) l_l_common c_l_common k_l_common).binds (ps := ["_law_one_here", "_law_other"]) fun _ _ _ _ _ _ us hl => match us, hl with | [_, _], _ => rfl
    g_l_common := PySem.W.mg_of X G a_l_common
    f_l_mixed_up := f_l_mixed_up
    d_l_mixed_up := PySem.W.fnOf "_law_mixed_up" "_law_mixed_up" (defArgs s_l_mixed_up) (defBody s_l_mixed_up) (defScope s_l_mixed_up) .none kV_l_mixed_up dc_l_mixed_up pm_l_mixed_up an_l_mixed_up cd_l_mixed_up ct_l_mixed_up
    F_l_mixed_up := fun_mk (st := s_l_mixed_up) l_l_mixed_up c_l_mixed_up k_l_mixed_up
    b_l_mixed_up := (fun_mk (st := s_l_mixed_up) l_l_mixed_up c_l_mixed_up k_l_mixed_up).binds (ps := ["_law_source_here", "_law_some"]) fun _ _ _ _ _ _ us hl => match us, hl with | [_, _], _ => rfl
    g_l_mixed_up := PySem.W.mg_of X G a_l_mixed_up
    f_l_great := f_l_great
    d_l_great := PySem.W.fnOf "_law_great" "_law_great" (defArgs s_l_great) (defBody s_l_great) (defScope s_l_great) .none kV_l_great dc_l_great pm_l_great an_l_great cd_l_great ct_l_great
    F_l_great := fun_mk (st := s_l_great) l_l_great c_l_great k_l_great
    b_l_great := (fun_mk (st := s_l_great) l_l_great c_l_great k_l_great).binds (ps := ["_law_source_here"]) fun _ _ _ _ _ _ us hl => match us, hl with | [_], _ => rfl
    g_l_great := PySem.W.mg_of X G a_l_great
    f_l_seen_as := f_l_seen_as
    d_l_seen_as := PySem.W.fnOf "_law_seen_as" "_law_seen_as" (defArgs s_l_seen_as) (defBody s_l_seen_as) (defScope s_l_seen_as) .none kV_l_seen_as dc_l_seen_as pm_l_seen_as an_l_seen_as cd_l_seen_as ct_l_seen_as
    F_l_seen_as := fun_mk (st := s_l_seen_as) l_l_seen_as c_l_seen_as k_l_seen_as
    b_l_seen_as := (fun_mk (st := s_l_seen_as) l_l_seen_as c_l_seen_as k_l_seen_as).binds (ps := ["_law_source_here", "_law_lamp", "_law_period", "_law_look"]) fun _ _ _ _ _ _ us hl => match us, hl with | [_, _, _, _], _ => rfl
    g_l_seen_as := PySem.W.mg_of X G a_l_seen_as
    f_l_others := f_l_others
    d_l_others := PySem.W.fnOf "_law_others" "_law_others" (defArgs s_l_others) (defBody s_l_others) (defScope s_l_others) .none kV_l_others dc_l_others pm_l_others an_l_others cd_l_others ct_l_others
    F_l_others := fun_mk (st := s_l_others) l_l_others c_l_others k_l_others
    b_l_others := (fun_mk (st := s_l_others) l_l_others c_l_others k_l_others).binds (ps := ["_law_source_here", "_law_lamp", "_law_many"]) fun _ _ _ _ _ _ us hl => match us, hl with | [_, _, _], _ => rfl
    g_l_others := PySem.W.mg_of X G a_l_others
    f_l_more_right := f_l_more_right
    d_l_more_right := PySem.W.fnOf "_law_more_right" "_law_more_right" (defArgs s_l_more_right) (defBody s_l_more_right) (defScope s_l_more_right) .none kV_l_more_right dc_l_more_right pm_l_more_right an_l_more_right cd_l_more_right ct_l_more_right
    F_l_more_right := fun_mk (st := s_l_more_right) l_l_more_right c_l_more_right k_l_more_right
    b_l_more_right := (fun_mk (st := s_l_more_right) l_l_more_right c_l_more_right k_l_more_right).binds (ps := ["_law_source_here", "_law_lamp", "_law_many", "_law_order", "_law_some"]) fun _ _ _ _ _ _ us hl => match us, hl with | [_, _, _, _, _], _ => rfl
    g_l_more_right := PySem.W.mg_of X G a_l_more_right
    f_l_right := f_l_right
    d_l_right := PySem.W.fnOf "_law_right" "_law_right" (defArgs s_l_right) (defBody s_l_right) (defScope s_l_right) .none kV_l_right dc_l_right pm_l_right an_l_right cd_l_right ct_l_right
    F_l_right := fun_mk (st := s_l_right) l_l_right c_l_right k_l_right
    b_l_right := (fun_mk (st := s_l_right) l_l_right c_l_right k_l_right).binds (ps := ["_law_source_here"]) fun _ _ _ _ _ _ us hl => match us, hl with | [_], _ => rfl
    g_l_right := PySem.W.mg_of X G a_l_right
    f_l_law := fa
    d_l_law := PySem.W.fnOf "law" "law" (defArgs s_l_law) (defBody s_l_law) (defScope s_l_law) .none kV_l_law dc_l_law pm_l_law an_l_law cd_l_law ct_l_law
    F_l_law := fun_mk (st := s_l_law) l_l_law c_l_law k_l_law
    b_l_law := (fun_mk (st := s_l_law) l_l_law c_l_law k_l_law).binds (ps := ["_law_script"]) fun _ _ _ _ _ _ us hl => match us, hl with | [_], _ => rfl
    g_l_law := PySem.W.mg_of X G a_l_law
    ne_Lamp := ⟨ne1_Lamp, ne2_Lamp⟩
    n_isinstance := PySem.W.mg_none_of X G n_isinstance
    n_int := PySem.W.mg_none_of X G n_int
    n_bool := PySem.W.mg_none_of X G n_bool
    n_range := PySem.W.mg_none_of X G n_range
    n_len := PySem.W.mg_none_of X G n_len
    n_list := PySem.W.mg_none_of X G n_list
    n_enumerate := PySem.W.mg_none_of X G n_enumerate
    n_tuple := PySem.W.mg_none_of X G n_tuple
    n_all := PySem.W.mg_none_of X G n_all
    n_sorted := PySem.W.mg_none_of X G n_sorted
    n_min := PySem.W.mg_none_of X G n_min
    n_dict := PySem.W.mg_none_of X G n_dict
    t_MOST_LAMPS := t_MOST_LAMPS
    c_MOST_LAMPS := PySem.W.mg_of X G c_MOST_LAMPS
    ic_Lamp := ic_Lamp
    tc_Lamp := tc_Lamp
    sn_Lamp := sn_Lamp
    i_gcd := PySem.W.mg_of X G i_gcd
    })⟩
theorem walk {l : PySem.W.OpenLaw} {q : Program} {loose : List Str} {XP : (Str → Option Value) → Heap → Prop} {YP : World → Heap → Prop} {d : DefRec} {K : Params → PySem.W.Frag} (hn : l.most = some 63) (hdf : d.params.defaults = [])
    (hY : ∀ (w : World) (h : Heap), YP w h → (K w.params).In h)
    (F : ∀ (w : World) (mg : Str → Option Value) (fa : Addr) (h : Heap), (K w.params).In h → h.Ns mainGlobals mg → mg d.name = some (.ref fa) →
      ∃ fd : FuncData, (∀ (s : Shared) (u : Value), BindsTo s fd ⟨[u], []⟩ [("_law_script", u)]) ∧ ∀ base : Heap, (K w.params).In base → base.Ns mainGlobals mg → FnOk l.prog w (K w.params) mg base CX0 11 fa fd ["_law_script"] (spLaw (K w.params))) :
    PySem.W.WalkO q loose XP YP l.row.toRowW d [] (fun f vs => PySem.call f vs) :=
  L2.walk_of (n := 63) (k := 11) (x := "_law_script") (CX := fun _ => CX0) (sp := fun w => spLaw (K w.params)) hn (by decide) hdf ⟨rfl, by decide, by decide⟩ hY F (fun _ _ a ns hl _ hS => ⟨a, ns, rfl, hS, hl, fun _ => rfl⟩) fun _ _ _ _ _ z => z
end Own
open PySem PySem.W PyProof.Rows
set_option maxRecDepth 100000 in
set_option maxHeartbeats 0 in
theorem PySem.Challenge.cw_farlamps_k23_whole_the_last_look_holds : PySem.Challenge.rw_farlamps_k23_whole_the_last_look.Holds := by
  w_on; o_law; k_head; (case hw => w_witness2)
  k_fill
  refine Own.walk (l := PySem.Challenge.rw_farlamps_k23_whole_the_last_look) rfl rfl (fun w h Y => PySem.W.kIn_of Y) ?F
  case F =>
    intro w mg fa h KX G hmg
    refine' Own.all_mk KX G hmg ?aC_Lamp ?pg_Lamp ?hd_Lamp ?po_Lamp ?sa_Lamp ?mk_Lamp ?kc_Lamp ?kha_Lamp ?khn_Lamp ?kht_Lamp ?khm_Lamp ?na_Lamp_period ?na_Lamp_beat ?aC_Light ?pg_Light ?hd_Light ?po_Light ?sa_Light ?mk_Light ?kc_Light ?kha_Light ?khn_Light ?kht_Light ?khm_Light ?na_Light__lamps ?a_is_whole ?l_is_whole ?c_is_whole ?k_is_whole ?a_check_beat ?l_check_beat ?c_check_beat ?k_check_beat ?a_inverse ?l_inverse ?c_inverse ?k_inverse ?a_Lamp_init ?j_Lamp_init ?l_Lamp_init ?c_Lamp_init ?k_Lamp_init ?a_Lamp_eq ?j_Lamp_eq ?l_Lamp_eq ?c_Lamp_eq ?k_Lamp_eq ?a_Lamp_next_shine ?j_Lamp_next_shine ?l_Lamp_next_shine ?c_Lamp_next_shine ?k_Lamp_next_shine ?a_seen_from ?l_seen_from ?c_seen_from ?k_seen_from ?a_l_mixed ?l_l_mixed ?c_l_mixed ?k_l_mixed ?a_l_source ?l_l_source ?c_l_source ?k_l_source ?a_l_take ?l_l_take ?c_l_take ?k_l_take ?a_shining_rows ?l_shining_rows ?c_shining_rows ?k_shining_rows ?a_copied ?l_copied ?c_copied ?k_copied ?a_Light_init ?j_Light_init ?l_Light_init ?c_Light_init ?k_Light_init ?a_Light_lamps ?j_Light_lamps ?l_Light_lamps ?c_Light_lamps ?k_Light_lamps ?a_empty_places ?l_empty_places ?c_empty_places ?k_empty_places ?a_least_paper ?l_least_paper ?c_least_paper ?k_least_paper ?a_l_made ?l_l_made ?c_l_made ?k_l_made ?a_seen_rows ?l_seen_rows ?c_seen_rows ?k_seen_rows ?a_l_one ?l_l_one ?c_l_one ?k_l_one ?a_check_numbers ?l_check_numbers ?c_check_numbers ?k_check_numbers ?a_going ?l_going ?c_going ?k_going ?a_first_left ?l_first_left ?c_first_left ?k_first_left ?a_beats_alone ?l_beats_alone ?c_beats_alone ?k_beats_alone ?a_idle ?l_idle ?c_idle ?k_idle ?a_needed ?l_needed ?c_needed ?k_needed ?a_may_go ?l_may_go ?c_may_go ?k_may_go ?a_l_common ?l_l_common ?c_l_common ?k_l_common ?a_l_mixed_up ?l_l_mixed_up ?c_l_mixed_up ?k_l_mixed_up ?a_l_great ?l_l_great ?c_l_great ?k_l_great ?a_l_seen_as ?l_l_seen_as ?c_l_seen_as ?k_l_seen_as ?a_l_others ?l_l_others ?c_l_others ?k_l_others ?a_l_more_right ?l_l_more_right ?c_l_more_right ?k_l_more_right ?a_l_right ?l_l_right ?c_l_right ?k_l_right ?a_l_law ?l_l_law ?c_l_law ?k_l_law ?ne1_Lamp ?ne2_Lamp ?n_isinstance ?n_int ?n_bool ?n_range ?n_len ?n_list ?n_enumerate ?n_tuple ?n_all ?n_sorted ?n_min ?n_dict ?c_MOST_LAMPS ?ic_Lamp ?tc_Lamp ?sn_Lamp ?i_gcd
    (case aC_Lamp => k_is)
    (case pg_Lamp => k_is)
    (case hd_Lamp => k_is)
    (case po_Lamp => k_is)
    (case sa_Lamp => k_is)
    (case mk_Lamp => k_is)
    (case kc_Lamp => k_is)
    (case kha_Lamp => k_is)
    (case khn_Lamp => k_is)
    (case kht_Lamp => k_is)
    (case khm_Lamp => k_is)
    (case na_Lamp_period => k_is)
    (case na_Lamp_beat => k_is)
    (case aC_Light => k_is)
    (case pg_Light => k_is)
    (case hd_Light => k_is)
    (case po_Light => k_is)
    (case sa_Light => k_is)
    (case mk_Light => k_is)
    (case kc_Light => k_is)
    (case kha_Light => k_is)
    (case khn_Light => k_is)
    (case kht_Light => k_is)
    (case khm_Light => k_is)
    (case na_Light__lamps => k_is)
    (case a_is_whole => k_is)
    (case l_is_whole => k_is)
    (case c_is_whole => k_is)
    (case k_is_whole => k_is)
    (case a_check_beat => k_is)
    (case l_check_beat => k_is)
    (case c_check_beat => k_is)
    (case k_check_beat => k_is)
    (case a_inverse => k_is)
    (case l_inverse => k_is)
    (case c_inverse => k_is)
    (case k_inverse => k_is)
    (case a_Lamp_init => k_is)
    (case j_Lamp_init => k_is)
    (case l_Lamp_init => k_is)
    (case c_Lamp_init => k_is)
    (case k_Lamp_init => k_is)
    (case a_Lamp_eq => k_is)
    (case j_Lamp_eq => k_is)
    (case l_Lamp_eq => k_is)
    (case c_Lamp_eq => k_is)
    (case k_Lamp_eq => k_is)
    (case a_Lamp_next_shine => k_is)
    (case j_Lamp_next_shine => k_is)
    (case l_Lamp_next_shine => k_is)
    (case c_Lamp_next_shine => k_is)
    (case k_Lamp_next_shine => k_is)
    (case a_seen_from => k_is)
    (case l_seen_from => k_is)
    (case c_seen_from => k_is)
    (case k_seen_from => k_is)
    (case a_l_mixed => k_is)
    (case l_l_mixed => k_is)
    (case c_l_mixed => k_is)
    (case k_l_mixed => k_is)
    (case a_l_source => k_is)
    (case l_l_source => k_is)
    (case c_l_source => k_is)
    (case k_l_source => k_is)
    (case a_l_take => k_is)
    (case l_l_take => k_is)
    (case c_l_take => k_is)
    (case k_l_take => k_is)
    (case a_shining_rows => k_is)
    (case l_shining_rows => k_is)
    (case c_shining_rows => k_is)
    (case k_shining_rows => k_is)
    (case a_copied => k_is)
    (case l_copied => k_is)
    (case c_copied => k_is)
    (case k_copied => k_is)
    (case a_Light_init => k_is)
    (case j_Light_init => k_is)
    (case l_Light_init => k_is)
    (case c_Light_init => k_is)
    (case k_Light_init => k_is)
    (case a_Light_lamps => k_is)
    (case j_Light_lamps => k_is)
    (case l_Light_lamps => k_is)
    (case c_Light_lamps => k_is)
    (case k_Light_lamps => k_is)
    (case a_empty_places => k_is)
    (case l_empty_places => k_is)
    (case c_empty_places => k_is)
    (case k_empty_places => k_is)
    (case a_least_paper => k_is)
    (case l_least_paper => k_is)
    (case c_least_paper => k_is)
    (case k_least_paper => k_is)
    (case a_l_made => k_is)
    (case l_l_made => k_is)
    (case c_l_made => k_is)
    (case k_l_made => k_is)
    (case a_seen_rows => k_is)
    (case l_seen_rows => k_is)
    (case c_seen_rows => k_is)
    (case k_seen_rows => k_is)
    (case a_l_one => k_is)
    (case l_l_one => k_is)
    (case c_l_one => k_is)
    (case k_l_one => k_is)
    (case a_check_numbers => k_is)
    (case l_check_numbers => k_is)
    (case c_check_numbers => k_is)
    (case k_check_numbers => k_is)
    (case a_going => k_is)
    (case l_going => k_is)
    (case c_going => k_is)
    (case k_going => k_is)
    (case a_first_left => k_is)
    (case l_first_left => k_is)
    (case c_first_left => k_is)
    (case k_first_left => k_is)
    (case a_beats_alone => k_is)
    (case l_beats_alone => k_is)
    (case c_beats_alone => k_is)
    (case k_beats_alone => k_is)
    (case a_idle => k_is)
    (case l_idle => k_is)
    (case c_idle => k_is)
    (case k_idle => k_is)
    (case a_needed => k_is)
    (case l_needed => k_is)
    (case c_needed => k_is)
    (case k_needed => k_is)
    (case a_may_go => k_is)
    (case l_may_go => k_is)
    (case c_may_go => k_is)
    (case k_may_go => k_is)
    (case a_l_common => k_is)
    (case l_l_common => k_is)
    (case c_l_common => k_is)
    (case k_l_common => k_is)
    (case a_l_mixed_up => k_is)
    (case l_l_mixed_up => k_is)
    (case c_l_mixed_up => k_is)
    (case k_l_mixed_up => k_is)
    (case a_l_great => k_is)
    (case l_l_great => k_is)
    (case c_l_great => k_is)
    (case k_l_great => k_is)
    (case a_l_seen_as => k_is)
    (case l_l_seen_as => k_is)
    (case c_l_seen_as => k_is)
    (case k_l_seen_as => k_is)
    (case a_l_others => k_is)
    (case l_l_others => k_is)
    (case c_l_others => k_is)
    (case k_l_others => k_is)
    (case a_l_more_right => k_is)
    (case l_l_more_right => k_is)
    (case c_l_more_right => k_is)
    (case k_l_more_right => k_is)
    (case a_l_right => k_is)
    (case l_l_right => k_is)
    (case c_l_right => k_is)
    (case k_l_right => k_is)
    (case a_l_law => k_is)
    (case l_l_law => k_is)
    (case c_l_law => k_is)
    (case k_l_law => k_is)
    (case ne1_Lamp => k_is)
    (case ne2_Lamp => k_is)
    (case n_isinstance => k_is)
    (case n_int => k_is)
    (case n_bool => k_is)
    (case n_range => k_is)
    (case n_len => k_is)
    (case n_list => k_is)
    (case n_enumerate => k_is)
    (case n_tuple => k_is)
    (case n_all => k_is)
    (case n_sorted => k_is)
    (case n_min => k_is)
    (case n_dict => k_is)
    (case c_MOST_LAMPS => k_is)
    (case ic_Lamp => k_is)
    (case tc_Lamp => k_is)
    (case sn_Lamp => k_is)
    (case i_gcd => k_is)
