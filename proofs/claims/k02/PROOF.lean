import PyProof.Rows.All
import Wide.All
import OpenK.AllK
import Wide.FinOn
import PyProof.EqAt
import PyProof.EqKinds
import PyProof.TupleCall
import HandS.ForMost
import HandS.ForExc
import HandS.Style
import HandS.IsInst
import HandS.TupAny
import HandS.TupMul
import HandS.Defaults
import HandS.Wide
import HandS.Set
import HandS.Strs
import HandS.SetFor
import HandS.RaiseMore
import HandS.FStr
import HandS.SlotsOwn
import HandS.NoneIn
import PyProof.Rows.Range3
import HandS.OwnEq
import HandS.More
import HandS.Star
import KE.KIsAll
import KE.KTryMore
import HandS.ExcIs
import HandS.CallLocal
import HandS.ClsMeth
import HandS.TryOnly
import KE.GoesEnumKw
import KE.GoesZip
import KE.KExcInit
import KE.KOpsOwn
import HandS.ExcOwn
import HandS.WrittenGet
import HandS.Small
import HandS.Property
import HandS.DictComp
import PyProof.Rows.ReprR
import HandS.Dict
import PySem.Challenge.RW_wakesafe_k02_formulas_made
set_option Elab.async false
set_option linter.all false
set_option maxRecDepth 100000
set_option maxHeartbeats 4000000
namespace L2.Wk
open PySem PySem.Spec PyProof.Rows
/-! ### heaps -/
theorem Same.upd_new {H : Hp} {p : Addr} {o : HO} (h : H p = none) : Same H (upd H p o) := fun b u e => by
  rw [upd_ne (ne_of_none e h)]; exact e
theorem Same.of_upd {H H' : Hp} {p : Addr} {o : HO} (h : Same (upd H p o) H') (hp : H p = none) : Same H H' := fun b u e => h b u (Same.upd_new hp b u e)
theorem Same.sqT {K : PySem.W.Frag} {H H' : Hp} {a : Addr} {xs : List V} (e : Same H H') (h : SqT K H a xs) : SqT K H' a xs := by
  rcases h with (h | ⟨o, h⟩) | h
  · exact .inl (.inl (e _ _ h))
  · exact .inl (.inr ⟨o, e _ _ h⟩)
  · exact .inr h
/-- a comprehension over the signs of a text -/
theorem lc_str {z : Str} {g : TG} {tt : TT} {te : TE} {vs : List Nat} {σ : St} {H1 : Hp} {D : Addr} {Qd : Hp → Prop} (Pv : Nat → Hp → Prop) (h0 : Pv 0 (upd H1 D (.lst [])))
    (hs : ∀ i c H, z.cps[i]? = some c → Pv i H → g (.str ⟨#[c]⟩) (wipe σ vs) H fun σ2 H2 => wipe σ2 vs = wipe σ vs ∧ tt σ2 H2 fun b H3 =>
      if b = true then te σ2 H3 fun y H4 => ∃ acc, H4 D = some (.lst acc) ∧ acc.length < sizeLine ∧ Pv (i + 1) (upd H4 D (.lst (acc ++ [y]))) else Pv (i + 1) H3) (hd : ∀ H, Pv z.cps.size H → Qd H) :
    ∃ W : Nat → Nat → Hp → Prop, (∃ m, W 0 m (upd H1 D (.lst []))) ∧ ∀ i m H, W i m H →
      ((Its z).stop i H ∧ Qd H) ∨ ((Its z).go i H ∧ ∃ Nx : Hp → Prop, (∀ H', Nx H' → ∃ m', m' < m ∧ W (i + 1) m' H') ∧ ∀ x H', (Its z).yld i H x H' → g x (wipe σ vs) H' fun σ2 H2 => wipe σ2 vs = wipe σ vs ∧ tt σ2 H2 fun b H3 =>
        if b = true then te σ2 H3 fun y H4 => ∃ acc, H4 D = some (.lst acc) ∧ acc.length < sizeLine ∧ Nx (upd H4 D (.lst (acc ++ [y]))) else Nx H3) := by
  refine ⟨fun i m H => m = z.cps.size - i ∧ i ≤ z.cps.size ∧ Pv i H, ⟨z.cps.size, by simp, Nat.zero_le _, h0⟩, ?_⟩
  rintro i m H ⟨rfl, hi, p⟩
  by_cases hlt : i < z.cps.size
  · refine .inr ⟨hlt, Pv (i + 1), fun H' p' => ⟨z.cps.size - (i + 1), by omega, rfl, hlt, p'⟩, fun x H' y => ?_⟩
    obtain ⟨e, c, hc, ex⟩ := y
    subst e
    subst ex
    exact hs i c _ hc p
  · have e : i = z.cps.size := by omega
    subst e
    exact .inl ⟨Nat.le_refl _, hd H p⟩
theorem take_succ_map {α β : Type} {l : List α} {i : Nat} {x : α} (f : α → β) (h : l[i]? = some x) : (l.take (i + 1)).map f = (l.take i).map f ++ [f x] := by
  rw [List.take_add_one, h]
  simp
theorem arr_list {c : Nat} {a : Array Nat} {i : Nat} (h : a[i]? = some c) : a.toList[i]? = some c := by simpa using h
/-! ### names of the module, by kind -/
section
variable {X : Cx} {x : Str} {pos : Pos}
theorem pe_gr {a : Addr} (hg : Gl X x) (hm : X.mg x = some (.ref a)) (hd : (x == ("__debug__" : Str)) = false := by decide) : PE X (.Name x pos) (tC (.ref a)) := pe_glob hg hm rfl hd
theorem pe_gs {z : Str} {t : Tok} (hg : Gl X x) (hm : X.mg x = some (.str z t)) (hd : (x == ("__debug__" : Str)) = false := by decide) : PE X (.Name x pos) (tC (.str z)) := pe_glob hg hm ⟨_, rfl⟩ hd
theorem pe_gi {z : Int} {t : Tok} (hg : Gl X x) (hm : X.mg x = some (.int z t)) (hd : (x == ("__debug__" : Str)) = false := by decide) : PE X (.Name x pos) (tC (.int z)) := pe_glob hg hm ⟨_, rfl⟩ hd
theorem pe_tyB {T : String} (hg : Gl X x) (hm : X.mg x = none) (hv : bootBuiltins x = some (.type T)) (hn : x ≠ "__name__" := by decide) (hd : (x == ("__debug__" : Str)) = false := by decide) : PE X (.Name x pos) (tC (.ty T)) := pe_bltn hg hm hv rfl hn hd
end
/-! ### within a comprehension: K named -/
section
variable {X : Cx} {K : PySem.W.Frag}
theorem ix_listK (h : X.K = K) : IxR X (rIxL K) := h ▸ ix_list
theorem op_in_seqK (h : X.K = K) : OpR X (compareOp .In) (rIn K false) := h ▸ op_in_seq
theorem op_notIn_seqK (h : X.K = K) : OpR X (compareOp .NotIn) (rIn K true) := h ▸ op_notIn_seq
theorem call_lenK (h : X.K = K) : CallR X (.builtin "len") (fun xs H Q => ∃ x n, xs = [x] ∧ LenV K x H n ∧ Q (.int n) H) := h ▸ call_len
theorem sl_listK (h : X.K = K) : SlR X (rSlL K) := h ▸ sl_list
end
/-! ### C(..) in a try: what is raised is wished for at the slots -/
section
variable {X : Cx} {CX : CXT} {k : Nat} {f C : Addr} {fd : FuncData} {ps : List Str} {sp : Sp} {dvs : List V} {ds : List Value} {E : St → XK} {x m : Str} {p pos apos : Pos} {e o : Expr} {es : List Expr} {ta : TE} {t : TA}
def tMakeS (C : Addr) (sp : Sp) (dvs : List V) (E : St → XK) (t : TA) : TE := fun σ H Q => t σ H fun vs H1 => ∀ x dx, H1 x = none → H1 dx = none → dx ≠ x →
  sp (.ref x :: (vs ++ dvs)) (upd (upd H1 dx (.own x)) x (.ins C dx [])) (fun v H2 => v = .non ∧ Q (.ref x) H2) (E σ)
theorem run_makeS {pins : List (Addr × Obj)} {σ : St} {H : Hp} {s : Shared} {Q : VK} {us : List Value} {vs : List V} (M : Mk X.K C f) (F : FnOk X.prog X.w X.K X.mg X.base CX k f fd ps sp) (hr : Room (k + 1) X.A) (hb : Binds X.K fd ps ds) (hd : Vals dvs ds)
    (hx : PassesAt CX X σ (E σ)) (I : Inv X pins σ H s) (r : Vals vs us)
    (h : ∀ x dx, H x = none → H dx = none → dx ≠ x → sp (.ref x :: (vs ++ dvs)) (upd (upd H dx (.own x)) x (.ins C dx [])) (fun v H2 => v = .non ∧ Q (.ref x) H2) (E σ)) :
    wpAny (model X.prog X.w) X.A (call (.ref C) us) (EP X pins σ Q) X.xe s := by
  have hq := h (s.heap.objs.size + 1) s.heap.objs.size (I.hok.fresh (Nat.le_succ _)) (I.hok.fresh (Nat.le_refl _)) (Nat.ne_of_lt (Nat.lt_succ_self _))
  have I2 := Inv.made (C := C) I
  have r2 : Vals (V.ref (s.heap.objs.size + 1) :: (vs ++ dvs)) (Value.ref (s.heap.objs.size + 1) :: (us ++ ds)) := .cons rfl (r.append hd)
  have hl : (Value.ref (s.heap.objs.size + 1) :: us ++ ds).length = ps.length := by
    have e := r2.length
    rw [F.len _ _ _ _ hq] at e
    exact e.symm
  refine wpAny_call (make_map (f := f) I.kIn M.makes M.init (beq_iff_eq.mp M.fn) (codeAny_mono (F.run _ X.stack _ _ ⟨Value.ref (s.heap.objs.size + 1) :: us, []⟩ (Value.ref (s.heap.objs.size + 1) :: (us ++ ds)) _ _ (E σ) (hr.make C us [])
    (I2.env0.make C us []) (hb _ (Value.ref (s.heap.objs.size + 1) :: us) I2.kIn hl) r2 hq) fun r s' hq' => ?_))
  cases r with
  | error e => exact hx pins _ _ e s' I2 hq'
  | ok fl =>
    cases fl with
    | ret u =>
      obtain ⟨v, H', I3, rv, ev, q3⟩ := I2.after hq'
      subst ev
      exact ⟨rv, ⟨V.ref (s.heap.objs.size + 1), H', I3, rfl, q3⟩⟩
    | next => exact False.elim hq'
    | brk => exact False.elim hq'
    | cont => exact False.elim hq'
theorem pe_makeS (M : Mk X.K C f) (F : FnOk X.prog X.w X.K X.mg X.base CX k f fd ps sp) (hr : Room (k + 1) X.A) (hg : Gl X x) (hm : X.mg x = some (.ref C)) (hb : Binds X.K fd ps ds) (hd : Vals dvs ds) (hx : ∀ σ, PassesAt CX X σ (E σ))
    (ha : PA X (e :: es) t) (hdb : (x == ("__debug__" : Str)) = false := by decide) (he : starEach (e :: es) X.env = (false, eval e X.env) :: starEach es X.env := by rfl) (hpl : (backTo pos (starEach es X.env)).any (·.1) = false := by rfl) :
    PE X (.Call (.Name x p) (e :: es) [] pos) (tMakeS C sp dvs E t) := by
  refine ⟨fun pins s σ H Q I h => ?_⟩
  refine wpAny_Call_Name_kw (ld_glob I hg hm ?_ hdb)
  refine PySem.W.callWith_K (h₀ := X.base) I.ok.mod.kin M.kp (thn (ha.run pos pins s σ H _ I h) fun us s1 ⟨vs, H1, I1, r, q⟩ => ⟨I1.kIn, ?_⟩) he hpl
  exact run_makeS M F hr hb hd (hx σ) I1 r q
end
/-! ### the draws: a list of what is left of the great cells, and a number that is stirred -/
structure DealAt (H : Hp) (d l : Addr) : Prop where
  ex : ∃ (cs : List Int) (b : Int), H d = some (.lst [.ref l, .int b]) ∧ H l = some (.lst (cs.map V.int)) ∧ (∀ c ∈ cs, 0 ≤ c) ∧ cs.length ≤ 63 ∧ 0 ≤ b ∧ b < 2147483647
/-- all but the deal stands as before -/
def Keep (d l : Addr) (H H' : Hp) : Prop := ∀ p o, H p = some o → p ≠ d → p ≠ l → H' p = some o
theorem Keep.refl (d l : Addr) (H : Hp) : Keep d l H H := fun _ _ e _ _ => e
theorem Keep.trans {d l : Addr} {H H1 H2 : Hp} (a : Keep d l H H1) (b : Keep d l H1 H2) : Keep d l H H2 := fun p o e h1 h2 => b p o (a p o e h1 h2) h1 h2
theorem Keep.same {d l : Addr} {H H' : Hp} (s : Same H H') : Keep d l H H' := fun p o e _ _ => s p o e
theorem DealAt.same {d l : Addr} {H H' : Hp} (D : DealAt H d l) (s : Same H H') : DealAt H' d l := by
  obtain ⟨cs, b, h1, h2, h3⟩ := D.ex
  exact ⟨⟨cs, b, s _ _ h1, s _ _ h2, h3⟩⟩
theorem DealAt.ne {d l : Addr} {H : Hp} (D : DealAt H d l) : d ≠ l := by
  obtain ⟨cs, b, h1, h2, _⟩ := D.ex
  refine ne_of h1 h2 fun e => ?_
  cases cs with
  | nil => cases e
  | cons c cs => cases e
theorem DealAt.nd {d l p : Addr} {H : Hp} (D : DealAt H d l) (h : H p = none) : p ≠ d := by
  obtain ⟨cs, b, h1, h2, _⟩ := D.ex
  exact (ne_of_none h1 h).symm
theorem DealAt.nl {d l p : Addr} {H : Hp} (D : DealAt H d l) (h : H p = none) : p ≠ l := by
  obtain ⟨cs, b, h1, h2, _⟩ := D.ex
  exact (ne_of_none h2 h).symm
/-- no tracked address is lost -/
theorem Keep.free {d l p : Addr} {H H' : Hp} (k : Keep d l H H') (D : DealAt H d l) (D' : DealAt H' d l) (h : H' p = none) : H p = none := by
  cases q : H p with
  | none => rfl
  | some o =>
    have e1 : p ≠ d := D'.nd h
    have e2 : p ≠ l := D'.nl h
    rw [k p o q e1 e2] at h
    cases h
end L2.Wk
namespace L2.Wk
open PySem PySem.Spec PyProof.Rows
/-! ### what a set of ints is -/
def keyS (e : Int × Value) : Str := match e.2 with | .str k _ => k | _ => Str.empty
def GoodS (w : World) (e : Int × Value) : Prop := ∃ k tk, e.2 = Value.str k tk ∧ e.1 = hashStr w k

/-- the set of ints at a: S its members, n their number; its table rises and can be walked -/
def SetS (w : World) (h : Heap) (a : Addr) (S : Str → Bool) (n : Nat) : Prop :=
  ∃ o es ep t, h.get? a = some o ∧ o.ExactSet ∧ o.data = .set es ep t ∧ (∀ e ∈ es.toList, GoodS w e) ∧ (es.toList.map keyS).Nodup ∧ (∀ k, S k = true ↔ k ∈ es.toList.map keyS) ∧
    es.size < scanBound ∧ t.fits es.size = true ∧ es.size = n ∧ Ris t.place.toList ∧ (w.params.followText "set-order" = true ∨ t.led = true)

section
variable {P : Program} {w : World} {h h' : Heap} {a : Addr} {S : Str → Bool} {n : Nat}

theorem SetS.at (R : SetS w h a S n) (k : ∀ o, h.get? a = some o → h'.get? a = some o) : SetS w h' a S n := by
  obtain ⟨o, es, ep, t, ho, r⟩ := R
  exact ⟨o, es, ep, t, k o ho, r⟩
theorem SetS.lt (R : SetS w h a S n) : a < h.objs.size := by
  obtain ⟨o, es, ep, t, ho, r⟩ := R
  exact Heap.lt_size ho
theorem SetS.congr {S' : Str → Bool} (R : SetS w h a S n) (e : ∀ k, S' k = S k) : SetS w h a S' n := by
  have q : S' = S := funext e
  rw [q]; exact R
theorem goodS_elems {l : List (Int × Value)} (g : ∀ e ∈ l, GoodS w e) : ElemsOf (PySem.strKind P w) l := fun e he => by
  obtain ⟨k, tk, h1, h2⟩ := g e he
  exact ⟨⟨k, by rw [h1]; exact PySem.strKind_is P w k tk, h2⟩, by rw [h1] <;> rfl⟩
theorem goodS_is {e : Int × Value} (g : GoodS w e) (k : Str) : (PySem.strKind P w).is k e.2 = true ↔ keyS e = k := by
  obtain ⟨k0, tk, h1, _⟩ := g
  unfold keyS
  rw [h1]
  show ((k0 == k) = true) ↔ k0 = k
  exact beq_iff_eq
theorem goodS_mem {l : List (Int × Value)} (g : ∀ e ∈ l, GoodS w e) (k : Str) : k ∈ l.map keyS ↔ ∃ e ∈ l, (PySem.strKind P w).is k e.2 = true := by
  rw [List.mem_map]
  constructor
  · rintro ⟨e, he, q⟩
    exact ⟨e, he, (goodS_is (g e he) k).2 q⟩
  · rintro ⟨e, he, q⟩
    exact ⟨e, he, (goodS_is (g e he) k).1 q⟩
theorem SetS.setOf (R : SetS w h a S n) : h.SetOf (PySem.strKind P w) a S n := by
  obtain ⟨o, es, ep, t, ho, hx, hd, g, nd, hm, hb, hf, hn, _⟩ := R
  exact ⟨o, es, ep, t, ho, hx, hd, goodS_elems g, fun k => (hm k).trans (goodS_mem g k), hb, hf, hn⟩
end

section
variable {P : Program} {w : World} {A : Around} {E : Value → Shared → Prop} {s : Shared} {a : Addr} {S : Str → Bool} {n : Nat}

/-! ### add -/
theorem setS_add_tail {g : Bool → Sem Unit} (hg : ∀ (b : Bool) (s₁ : Shared) (Q' : Unit → Shared → Prop), Q' () s₁ → wpAny (model P w) A (g b) Q' E s₁)
    {o : Obj} {es : Array (Int × Value)} {ep : Nat} {t : SetTable} (ho : s.heap.get? a = some o) (hex : o.ExactSet) (hd : o.data = .set es ep t)
    {es1 : Array (Int × Value)} {t2 : SetTable} {S' : Str → Bool} (g1 : ∀ e ∈ es1.toList, GoodS w e) (nd1 : (es1.toList.map keyS).Nodup) (m1 : ∀ k, S' k = true ↔ k ∈ es1.toList.map keyS)
    (hb1 : es1.size < scanBound) (hf2 : t2.fits es1.size = true) (hr : Ris t2.place.toList) (hl : w.params.followText "set-order" = true ∨ t2.led = true) {wasDummy : Bool} {R : Option Bool → Shared → Prop}
    (hR : ∀ h', Heap.SameBut a s.heap h' → SetS w h' a S' es1.size → R (some true) { s with heap := h' }) :
    wpAny (model P w) A (do
        storeSet a es1 t2
        if (!wasDummy && t2.tooFull) = true then do
            g (relayAll t2 es1 (SetTable.grown es1.size)).2.2
            storeSet a (relayAll t2 es1 (SetTable.grown es1.size)).1 (relayAll t2 es1 (SetTable.grown es1.size)).2.1
            pure (some true)
          else pure (some true)) R E s := by
  refine wpAny_bind (wpAny_storeSet_of ho hd ?_ (fits_of_scanBound hb1))
  have ho1 := store_at (es' := es1) (t' := t2) ho hd
  have sb1 := Heap.SameBut.update s.heap a (Obj.putSet es1 t2)
  split
  · have pm := relayAll_perm t2 es1 (SetTable.grown es1.size)
    have hf3 := relayAll_fits t2 es1 (SetTable.grown es1.size)
    have hr3 := relayAll_ris t2 es1 (SetTable.grown es1.size)
    have hl3 := relayAll_led t2 es1 (SetTable.grown es1.size)
    generalize relayAll t2 es1 (SetTable.grown es1.size) = Z at pm hf3 hr3 hl3 ⊢
    obtain ⟨es2, t3, gave⟩ := Z
    dsimp only at pm hf3 hr3 hl3 ⊢
    have hsz : es2.size = es1.size := by rw [← Array.length_toList, pm.length_eq, Array.length_toList]
    have hb2 : es2.size < scanBound := by rw [hsz]; exact hb1
    refine wpAny_bind (hg _ _ _ ?_)
    refine wpAny_bind (wpAny_storeSet_of ho1 rfl ?_ (fits_of_scanBound hb2))
    have ho2 := store_at (es' := es2) (t' := t3) ho1 rfl
    refine wpAny_pure (hR _ (sb1.trans (Heap.SameBut.update _ a _)) ?_)
    exact ⟨_, es2, _, t3, ho2, hex, rfl, fun e he => g1 e (pm.mem_iff.mp he), (pm.map keyS).nodup_iff.mpr nd1, fun k => (m1 k).trans (pm.map keyS).mem_iff.symm, hb2, hf3, hsz, hr3,
      hl.imp id fun z => by rw [hl3]; exact z⟩
  · exact wpAny_pure (hR _ sb1 ⟨_, es1, _, t2, ho1, hex, rfl, g1, nd1, m1, hb1, hf2, rfl, hr, hl⟩)

theorem setS_add_hashed {k : Str} {tk : Tok} {Q : Bool → Shared → Prop} (R : SetS w s.heap a S n) (room : n + 1 < scanBound)
    (hQ : ∀ h', Heap.SameBut a s.heap h' → SetS w h' a (fun j => S j || decide (j = k)) (if S k = true then n else n + 1) → Q (!S k) { s with heap := h' }) :
    wpAny (model P w) A (setAddHashed a (.str k tk) ((PySem.strKind P w).hash k)) Q E s := by
  obtain ⟨o, es, ep, t, ho, hex, hd, g, nd, hm, hb, hf, hn, hr, hl⟩ := R
  have hkey : (PySem.strKind P w).is k (.str k tk) = true := PySem.strKind_is P w k tk
  have hsc : (Value.str k tk).scannable = true := rfl
  have hel : ElemsOf (PySem.strKind P w) es.toList := goodS_elems g
  unfold setAddHashed setAddHashedIn
  refine wpAny_holding (wpAny_bind (wpAny_setState_of ho hd hf ?_))
  dsimp only
  rw [byScan_of hsc hb hel]
  simp only [↓reduceIte]
  unfold setAddByScan
  refine wpAny_bind ?_
  refine wpAny_bind (wpAny_rule ?_)
  refine wpAny_bind (wpAny_setScan_of hkey ho hd hf hel ?_)
  cases hfi : List.findIdx? (fun e => (PySem.strKind P w).is k e.2) es.toList with
  | some j =>
    dsimp only
    obtain ⟨hj, pj, _⟩ := List.findIdx?_eq_some_iff_getElem.mp hfi
    have hSk : S k = true := (hm k).2 ((goodS_mem (P := P) (w := w) g k).2 ⟨es.toList[j], List.getElem_mem hj, pj⟩)
    refine wpAny_pure (wpAny_pure ?_)
    have q := hQ s.heap (Heap.SameBut.refl a s.heap) ⟨o, es, ep, t, ho, hex, hd, g, nd, fun i => by
      rw [Bool.or_eq_true, decide_eq_true_eq, ← hm i]
      exact ⟨fun z => z.elim id (fun e => e ▸ hSk), .inl⟩, hb, hf, by rw [if_pos hSk]; exact hn, hr, hl⟩
    rw [hSk] at q
    exact q
  | none =>
    dsimp only
    have hnk : k ∉ es.toList.map keyS := fun z => by
      obtain ⟨e, he, q⟩ := (goodS_mem (P := P) (w := w) g k).1 z
      have c := List.findIdx?_eq_none_iff.mp hfi e he
      rw [q] at c
      cases c
    have hSk : S k = false := by
      cases q : S k with
      | false => rfl
      | true => exact absurd ((hm k).1 q) hnk
    have hgw : ∀ (b : Bool) {s₁ : Shared} {Q' : Unit → Shared → Prop}, Q' () s₁ → wpAny (model P w) A (match b with | true => rule "set.scan.the-table-gave-way" | false => pure ()) Q' E s₁ :=
      fun b s₁ Q' q => by cases b <;> first | exact wpAny_pure q | exact wpAny_rule q
    have pm := layNew_perm t es ((PySem.strKind P w).hash k) (.str k tk)
    have hf1 := layNew_fits t es ((PySem.strKind P w).hash k) (.str k tk)
    have hr1 := layNew_ris t es ((PySem.strKind P w).hash k) (.str k tk) hr
    have hl1 := layNew_led t es ((PySem.strKind P w).hash k) (.str k tk)
    generalize layNew t es ((PySem.strKind P w).hash k) (.str k tk) = Z at pm hf1 hr1 hl1 ⊢
    obtain ⟨es1, t1, wasDummy, gave⟩ := Z
    dsimp only at pm hf1 hr1 hl1 ⊢
    rw [Array.toList_push] at pm
    have pc : es1.toList.Perm (((PySem.strKind P w).hash k, Value.str k tk) :: es.toList) := pm.trans (List.perm_append_singleton _ _)
    have pk : (es1.toList.map keyS).Perm (k :: es.toList.map keyS) := pc.map keyS
    have g1 : ∀ e ∈ es1.toList, GoodS w e := fun e he => by
      rcases List.mem_cons.mp (pc.mem_iff.mp he) with z | z
      · rw [z]; exact ⟨k, tk, rfl, rfl⟩
      · exact g e z
    have nd1 : (es1.toList.map keyS).Nodup := pk.nodup_iff.mpr (List.nodup_cons.mpr ⟨hnk, nd⟩)
    have m1 : ∀ i, (S i || decide (i = k)) = true ↔ i ∈ es1.toList.map keyS := fun i => by
      rw [Bool.or_eq_true, decide_eq_true_eq, hm i, pk.mem_iff, List.mem_cons]
      exact Or.comm
    have hsz : es1.size = n + 1 := by rw [← Array.length_toList, pc.length_eq, List.length_cons, Array.length_toList, hn]
    have hb1 : es1.size < scanBound := by rw [hsz]; exact room
    have hled : w.params.followText "set-order" = true ∨ t1.led = true := hl.imp id fun z => by rw [hl1]; exact z
    have fin : ∀ h', Heap.SameBut a s.heap h' → SetS w h' a (fun j => S j || decide (j = k)) es1.size → Q true { s with heap := h' } := fun h' sb r => by
      have q := hQ h' sb
      rw [hSk] at q
      rw [hsz] at r
      exact q r
    refine wpAny_bind (hgw _ ?_)
    split
    · refine wpAny_bind ?_
      rw [hashByValue_scannable 8 hsc]
      refine wpAny_pure ?_
      refine setS_add_tail ?_ ho hex hd g1 nd1 m1 hb1 ?_ ?_ ?_ ?_
      · intro b s₁ Q' q; cases b <;> first | exact wpAny_pure q | exact wpAny_rule q
      · first | (split <;> first | exact hf1 | exact SetTable.fits_plain_off hf1) | exact hf1
      · first | (split <;> exact hr1) | exact hr1
      · first | (split <;> exact hled) | exact hled
      · intro h' sb r; dsimp only; exact wpAny_pure (fin h' sb r)
    · refine wpAny_bind (wpAny_pure ?_)
      simp only [↓reduceIte]
      refine setS_add_tail ?_ ho hex hd g1 nd1 m1 hb1 hf1 hr1 hled ?_
      · intro b s₁ Q' q; cases b <;> first | exact wpAny_pure q | exact wpAny_rule q
      · intro h' sb r; dsimp only; exact wpAny_pure (fin h' sb r)

end
/-! ### set(t) of a tuple of ints -/
theorem setS_new_at {w : World} {h : Heap} {a : Addr} {ns : List Str} (ho : h.get? a = some { cls := .type "set", dict := none, data := .set #[] 0 (.fresh 0 0 (!w.params.followText "set-order")) }) : SetS w h a (fun j => decide (j ∈ ns.take 0)) 0 :=
  ⟨_, #[], 0, _, ho, ⟨rfl, rfl, rfl⟩, rfl, (fun e he => by simp at he), (by simp), (fun k => by simp), (by decide), (by rfl), rfl, List.Pairwise.nil, by
    show _ ∨ (!w.params.followText "set-order") = true
    cases w.params.followText "set-order"
    · exact .inr rfl
    · exact .inl rfl⟩
section
variable {P : Program} {w : World} {A : Around} {E : Value → Shared → Prop} {s : Shared}
theorem set_update_strs {I : Addr} {fp wr : List Addr} {G : Array GenState → Array GenState → Prop} {n : Nat} {Pv : Nat → Value → Prop} {St : Nat → Shared → Prop} {R : Result → Shared → Prop}
    (W : WalksS P w A.in1 I fp wr G n Pv St) (S : Addr) (hSf : S ∉ fp) (ns : List Str) (hn : n = ns.length) (hb : ns.length + 1 < scanBound) (hval : ∀ i v, Pv i v → ∃ k t, ns[i]? = some k ∧ v = .str k t) :
    ∀ (k i : Nat) (s : Shared), n - i = k → i ≤ n → St i s → (∃ c, c ≤ i ∧ SetS w s.heap S (fun j => decide (j ∈ ns.take i)) c) →
      (∀ s' c, Moved (S :: wr) G s s' → c ≤ n → SetS w s'.heap S (fun j => decide (j ∈ ns)) c → R (.ok (.ret .none)) s') →
      codeAny (model P w) A (.builtin "set.update.loop" ⟨[.ref S, .ref I], []⟩) R s := by
  have hSw : S ∉ wr := fun h => hSf (W.sub _ h)
  have hsub : ∀ b ∈ wr, b ∈ S :: wr := fun b hb => List.mem_cons_of_mem _ hb
  intro k
  induction k with
  | zero =>
    intro i s hk' hi hst ⟨c, hc, hS⟩ hR
    have hin : i = n := by omega
    subst hin
    refine codeAny_builtin F.entry_set_update_loop ?_
    rw [Around.under_plainId F.plain_set_update_loop _]
    show wpAny _ A.in1 (pyNext (.ref I) >>= _) _ _ s
    refine wpAny_bind (W.done s _ _ hst fun s' hm => ?_)
    show wpAny _ A.in1 (ret Value.none) _ _ s'
    have e : ns.take i = ns := List.take_of_length_le (by omega)
    rw [e] at hS
    exact wpAny_pure (hR s' c (hm.mono hsub) hc (hS.at fun o e => hm.heap S o hSw e))
  | succ k ih =>
    intro i s hk' hi hst ⟨c, hc, hS⟩ hR
    have hlt : i < n := by omega
    refine codeAny_builtin F.entry_set_update_loop ?_
    rw [Around.under_plainId F.plain_set_update_loop _]
    show wpAny _ A.in1 (pyNext (.ref I) >>= _) _ _ s
    refine wpAny_bind (W.item i s _ _ hlt hst fun v s' hP hst' hm => ?_)
    obtain ⟨z, t, hz, rfl⟩ := hval i v hP
    have hS' : SetS w s'.heap S (fun j => decide (j ∈ ns.take i)) c := hS.at fun o e => hm.heap S o hSw e
    show wpAny _ A.in1 (holding [Value.str z t] (setAdd S (.str z t)) >>= _) _ _ s'
    refine wpAny_bind (wpAny_holding ?_)
    unfold setAdd
    refine wpAny_holding ?_
    refine wpAny_bind ((PySem.strKind P w).pyHash (k := z) (PySem.strKind_is _ _ _ _) ?_)
    refine setS_add_hashed (s := { s' with toks := s'.toks + 1 }) hS' (by omega) fun h' hsb hS2 => ?_
    have hS3 : SetS w h' S (fun j => decide (j ∈ ns.take (i + 1))) (if decide (z ∈ ns.take i) = true then c else c + 1) := hS2.congr fun j => by
      rw [List.take_add_one, hz]
      simp [List.mem_append]
    have hc3 : (if decide (z ∈ ns.take i) = true then c else c + 1) ≤ i + 1 := by
      split <;> omega
    refine wpAny_pure ⟨plainId_quiet F.plain_set_update_loop _, ih (i + 1) _ (by omega) hlt (W.frame _ s' _ _ hst' (Nat.le_succ _) fun b hb o e => ?_) ⟨_, hc3, hS3⟩ fun s'' c2 hm'' hc'' hS'' => ?_⟩
    · rw [hsb.2 b (fun h : b = S => hSf (by rw [← h]; exact hb))]; exact e
    · refine hR s'' c2 (Moved.trans W.gtrans ((hm.mono hsub).then_heap (Nat.le_succ _) fun b o hb e => ?_) hm'') hc'' hS''
      rw [hsb.2 b (fun h : b = S => hb (by rw [h]; exact List.mem_cons_self))]; exact e

set_option maxRecDepth 100000 in
set_option maxHeartbeats 3200000 in
theorem call_set_lstS {l : Addr} {items : Array Value} (ns : List Str) {Q : Value → Shared → Prop} (hh : A.handled = none) (hl : s.heap.IsList l items) (hit : StrsAre items.toList ns) (hb : ns.length + 1 < scanBound)
    (h : ∀ (h' : Heap) (tk c : Nat), SetS w h' s.heap.objs.size (fun j => decide (j ∈ ns)) c → c ≤ ns.length → (∀ b o, s.heap.get? b = some o → h'.get? b = some o) → Q (.ref s.heap.objs.size) { s with heap := h', toks := tk }) :
    wpAny (model P w) A (call (.type "set") [.ref l]) Q E s := by
  have hisz : items.size = ns.length := by
    have q := StrsAre.length hit
    rw [Array.length_toList] at q
    exact q
  obtain ⟨c, tl, hmro⟩ := F.called_set.mro
  have hmade := F.called_set.made
  have hsub := F.called_set.sub
  refine wpAny_call (codeAny_of_tree ?_)
  show wpAny _ _ (callAny (.type "set") _) _ _ _
  refine wpAny_pure ⟨Code.quiet_builtin _ (by decide +kernel), codeAny_builtin F.entry_type_call ?_⟩
  rw [Around.under_plain (weight_type_call_type "set" [.ref l] []) rfl]
  have h1 := F.called_set.notType
  have h2 := F.called_set.canCreate
  have hct := F.typeCall_set_1 (.ref l)
  repeat (any_goals (first | assumption | wp_step))

  refine codeAny_mono (code_set_led1 (.ref l) (E := E) (Q₁ := fun obj s₁ => obj = .ref s.heap.objs.size ∧ s₁ = { s with heap := s.heap.push { cls := .type "set", dict := none, data := .set #[] 0 (.fresh 0 0 (!w.params.followText "set-order")) } }) ⟨rfl, rfl⟩) fun r s₁ hr => ?_
  cases r with
  | error e => exact hr
  | ok fl =>
    cases fl with
    | ret obj =>
      obtain ⟨rfl, rfl⟩ := hr
      have hS : (s.heap.push { cls := .type "set", dict := none, data := .set #[] 0 (.fresh 0 0 (!w.params.followText "set-order")) }).get? s.heap.objs.size = some { cls := .type "set", dict := none, data := .set #[] 0 (.fresh 0 0 (!w.params.followText "set-order")) } := Heap.get?_push_size _ rfl
      have hT : Shared.TypeIs { s with heap := s.heap.push { cls := .type "set", dict := none, data := .set #[] 0 (.fresh 0 0 (!w.params.followText "set-order")) } } (.ref s.heap.objs.size) "set" := ⟨_, hS, rfl⟩
      have hli := F.called_set.init.lookup
      have hbi := F.called_set.init.bind (.ref s.heap.objs.size)
      repeat (any_goals (first | assumption | wp_step))

      refine codeAny_mono (codeAny_call_builtin (R := wants (fun r s₂ => r = .none ∧ ∃ h' tk c, s₂ = { s with heap := h', toks := tk } ∧ SetS w h' s.heap.objs.size (fun j => decide (j ∈ ns)) c ∧ c ≤ ns.length ∧
          (∀ b o, s.heap.get? b = some o → h'.get? b = some o)) E) F.called_set.init.plain F.entry_set_init (check_set_init_1 hT ?_)) fun r₂ s₂ hr₂ => ?_
      · obtain ⟨ol, hol, hcl, nl, hdl⟩ := hl
        obtain ⟨ocls, odict, odata, oslots⟩ := ol
        simp only at hcl hdl
        subst hcl; subst hdl
        have hol' : (s.heap.push { cls := .type "set", dict := none, data := .set #[] 0 (.fresh 0 0 (!w.params.followText "set-order")) }).get? l = some { cls := .type "list", dict := odict, data := .seq items nl, slots := oslots } := Heap.get?_push_of_some _ hol
        have hsls := F.sub_list_set
        have hslf := F.sub_list_frozenset
        have hne : (Value.type "list" == Value.type "dict") = false := by decide
        have hl1 : (s.heap.push { cls := .type "set", dict := none, data := .set #[] 0 (.fresh 0 0 (!w.params.followText "set-order")) }).IsList l items := ⟨_, hol', rfl, nl, rfl⟩
        unfold Builtin.«set.__init__» noKeywords Builtin.Frozenset.updateFrom
        generalize hPI : pyIter = PI
        wp_walk
        subst hPI

        refine wpAny_pyIter_list hl1 ?_
        refine wpAny_bind (wpAny_runValue ?_)
        have hlS : l < s.heap.objs.size := Heap.lt_size hol
        have hh3 : A.in1.in1.in1.handled = none := by simp [hh]
        have hz1 : (s.heap.push { cls := .type "set", dict := none, data := .set #[] 0 (.fresh 0 0 (!w.params.followText "set-order")) }).objs.size = s.heap.objs.size + 1 := Heap.size_push ..
        have hneI : l ≠ (s.heap.push { cls := .type "set", dict := none, data := .set #[] 0 (.fresh 0 0 (!w.params.followText "set-order")) }).objs.size := by
          rw [Heap.size_push]; exact Nat.ne_of_lt (Nat.lt_succ_of_lt hlS)
        have hSf : s.heap.objs.size ∉ [(s.heap.push { cls := .type "set", dict := none, data := .set #[] 0 (.fresh 0 0 (!w.params.followText "set-order")) }).objs.size, l] := by
          rw [Heap.size_push]; simp only [List.mem_cons, List.mem_singleton, List.not_mem_nil, or_false, not_or]
          exact ⟨Nat.ne_of_lt (Nat.lt_succ_self _), Nat.ne_of_gt hlS⟩
        have hval : ∀ (i : Nat) (v : Value), items[i]? = some v → ∃ k t, ns[i]? = some k ∧ v = .str k t := fun i v hv => by
          have hi : i < ns.length := by rw [← hisz]; exact (Array.getElem?_eq_some_iff.mp hv).1
          obtain ⟨t, e⟩ := SS.strs_at hit i v (by rw [Array.getElem?_toList]; exact hv)
          refine ⟨ns[i], t, List.getElem?_eq_getElem hi, ?_⟩
          rw [e, List.getD_eq_getElem?_getD, List.getElem?_eq_getElem hi] <;> rfl
        refine set_update_strs ((Walks.list hh3 _ l hneI items).toS) s.heap.objs.size
          hSf ns hisz hb hval (items.size - 0) 0 _ (by omega) (Nat.zero_le _)
          ⟨⟨_, Heap.get?_push_size _ rfl, rfl, rfl⟩, (hl1.push _)⟩ ?hS0 ?hR
        case hS0 =>
          have hget : ((s.heap.push { cls := .type "set", dict := none, data := .set #[] 0 (.fresh 0 0 (!w.params.followText "set-order")) }).push { cls := .type "list_iterator", data := .fields #[.ref l, .int 0 0] }).get? s.heap.objs.size
              = some { cls := .type "set", dict := none, data := .set #[] 0 (.fresh 0 0 (!w.params.followText "set-order")) } := Heap.get?_push_of_some _ hS
          exact ⟨0, Nat.le_refl 0, setS_new_at hget⟩
        case hR =>
          intro s' c' hm hc' hS'
          obtain ⟨h', g2, d', tk', os'⟩ := s'
          have eg : g2 = s.gens := hm.gens
          have ed : d' = s.drawn := hm.drawn
          have eo : os' = s.os := hm.os
          subst eg; subst ed; subst eo
          show wpAny _ _ _ _ _ _
          refine wpAny_pure ?_
          show wpAny _ _ (ret Value.none) _ _ _
          rw [hisz] at hc'
          refine wpAny_pure ⟨rfl, h', tk', c', rfl, hS', hc', fun b o e => ?_⟩
          have hb0 : b < s.heap.objs.size := Heap.lt_size e
          have hb1 : b ≠ s.heap.objs.size := Nat.ne_of_lt hb0
          have hb2 : b ≠ (s.heap.push { cls := .type "set", dict := none, data := .set #[] 0 (.fresh 0 0 (!w.params.followText "set-order")) }).objs.size := by
            rw [Heap.size_push]; exact Nat.ne_of_lt (Nat.lt_succ_of_lt hb0)
          exact hm.heap b o (by simp only [List.mem_cons, List.mem_singleton, List.not_mem_nil, or_false, not_or]; exact ⟨hb1, hb2⟩) (Heap.get?_push_of_some _ (Heap.get?_push_of_some _ e))

      · cases r₂ with
        | error e => exact hr₂
        | ok fl₂ =>
          cases fl₂ with
          | ret r =>
            obtain ⟨rfl, h', tk, c', rfl, hS', hc', hk'⟩ := hr₂
            repeat (any_goals (first | assumption | wp_step))
            exact h _ _ _ hS' hc' hk'
          | _ => exact hr₂.elim
    | _ => exact hr.elim

end

section
variable {P : Program} {w : World} {A : Around} {E : Value → Shared → Prop} {s : Shared} {a : Addr} {S : Str → Bool} {n : Nat}
theorem strs_of : ∀ (l : List Value), (∀ v ∈ l, ∃ k tk, v = Value.str k tk) → StrsAre l (l.map strOf) := fun l h => strsAre_map l h
/-- sorted(set of texts), fewer than 64: its members, each once, ascending -/
theorem sorted_setS {Q : Value → Shared → Prop} (R : SetS w s.heap a S n) (hh : A.handled = none) (h64 : n < 64)
    (hQ : ∀ s' p (out : Array Value) (c : Nat) (ys : List Str), (∀ b o, s.heap.get? b = some o → s'.heap.get? b = some o) → s'.gens = s.gens → s'.os = s.os → s.heap.objs.size ≤ p →
      s'.heap.get? p = some (seqObj "list" out c) → StrsAre out.toList ys → sortedS ys = true → ys.Nodup → (∀ k, k ∈ ys ↔ S k = true) → ys.length = n → Q (.ref p) s') :
    wpAny (model P w) A (call (.builtin "sorted") [.ref a]) Q E s := by
  obtain ⟨o, es, ep, t, ho, hex, hd, g, nd, hm, hb, hf, hn, hr, hl⟩ := R
  refine Calls.call_function_entry kind_sorted plain_sorted entry_sorted (args_sorted1 _) ?_
  unfold Builtin.«sorted»
  refine wpAny_bind (m := checkCount "sorted" 1 1 _) (wpAny_pure ?_)
  refine wpAny_bind (collect_set (A := A.in1) hh ⟨o, ho, hex.1, hd⟩ hf hb hr hl fun s1 vs k1 hz g1 o1 pm => ?_)
  have hvl : vs.length = n := by rw [pm.length_eq, List.length_map, Array.length_toList]; exact hn
  have hI : StrsAre vs (vs.map strOf) := strs_of vs fun v hv => by
    obtain ⟨e, he, q⟩ := List.mem_map.mp (pm.mem_iff.mp hv)
    obtain ⟨k, tk, h1, _⟩ := g e he
    exact ⟨k, tk, by rw [← q]; exact h1⟩
  have pk : (vs.map strOf).Perm (es.toList.map keyS) := by
    have q := pm.map strOf
    rw [List.map_map] at q
    refine q.trans (List.Perm.of_eq (List.map_congr_left fun e he => ?_))
    obtain ⟨k, tk, h1, _⟩ := g e he
    show strOf e.2 = keyS e
    unfold keyS
    rw [h1]
    rfl
  refine wpAny_bind (wpAny_newList ?_ (by rw [hvl, sizeLine_eq]; omega))
  have hoL : (s1.heap.push (seqObj "list" vs.toArray 0)).get? s1.heap.objs.size = some (seqObj "list" vs.toArray 0) := Heap.get?_push_size _ rfl
  refine wpAny_bind (wpAny_holding (wpAny_call_entry slot_list_sort ⟨_, hoL, rfl⟩ entry_list_sort (list_sort_treeK strKind_oneLt hoL hI.keysOf (fun v₁ v₂ rest e => keyKind_strs (by rw [← e]; exact hI)) (by rw [hvl]; exact h64) fun st' b1 b2 => ⟨_, rfl, ?_⟩) (args_list_sort _)))
  obtain ⟨ys, a1, a2, a3⟩ := sorted_out_str hI b1 b2
  obtain ⟨c, hc⟩ := sortedHeap_at (vs := vs) (out := (arrOf st').map (·.2)) hoL
  have pn : ys.Perm (es.toList.map keyS) := a2.trans pk
  refine wpAny_pure ⟨_, rfl, hQ _ s1.heap.objs.size _ c ys (fun b u e => ?_) g1 o1 hz hc a1 a3 (pn.nodup_iff.mpr nd) (fun k => by rw [pn.mem_iff, ← hm k]) ?_⟩
  · have q := k1 b u e
    have hlt := Heap.lt_size q
    show (sortedHeap (s1.heap.push (seqObj "list" vs.toArray 0)) s1.heap.objs.size vs ((arrOf st').map (·.2))).get? b = some u
    rw [sortedHeap_old (Nat.ne_of_lt hlt) (by rw [size_push']; exact Nat.lt_succ_of_lt hlt)]
    exact Heap.get?_push_of_some _ q
  · rw [pn.length_eq, List.length_map, Array.length_toList]; exact hn
end
/-! ### over the layer -/
def SetT (w : World) (a : Addr) (S : Str → Bool) (n : Nat) : HO := .ext fun h => SetS w h a S n
section
variable {X : Cx}
/-- set(a list of texts) -/
def rSetL (K : PySem.W.Frag) (w : World) : List V → Hp → VK → Prop := fun vs H Q => ∃ (l : Addr) (xs : List Str), vs = [V.ref l] ∧ SqL K H l (xs.map V.str) ∧ xs.length ≤ 63 ∧
  ∀ (p : Addr) (n : Nat), n ≤ xs.length → H p = none → Q (.ref p) (upd H p (SetT w p (fun k => decide (k ∈ xs)) n))
theorem cr_setL (hc : X.calm = true) : CallR X (.type "set") (rSetL X.K X.w) := by
  intro pins s σ H vs us Q I r h
  obtain ⟨l, xs, rfl, hs, h64, q⟩ := h
  obtain ⟨its, rv, hl, _⟩ := I.list hs
  rw [Vals.ref1 r]
  refine call_set_lstS xs (I.ok.hd hc) hl.isList (by simpa using strsAre_of rv) (by unfold scanBound; omega) fun h' tk c hS hn hk => ?_
  have ob : ObjOk X.prog X.w (upd H s.heap.objs.size (SetT X.w s.heap.objs.size (fun k => decide (k ∈ xs)) c)) h' s.heap.objs.size (SetT X.w s.heap.objs.size (fun k => decide (k ∈ xs)) c) := by
    obtain ⟨o, _, _, _, ho, _⟩ := id hS
    exact ⟨hS, ⟨o, ho⟩, fun h1 h2 p k => SetS.at p k⟩
  exact ⟨.ref _, _, I.laid (t' := tk) hk (Nat.le_refl _) ob, rfl, q _ c hn (I.hok.fresh (Nat.le_refl _))⟩
/-- sorted(a set of texts) -/
def rSortT (w : World) : List V → Hp → VK → Prop := fun vs H Q => ∃ (a : Addr) (S : Str → Bool) (n : Nat), vs = [V.ref a] ∧ H a = some (SetT w a S n) ∧ n < 64 ∧
  ∀ (ys : List Str) (p : Addr), sortedS ys = true → ys.Nodup → (∀ k, k ∈ ys ↔ S k = true) → ys.length = n → H p = none → Q (.ref p) (upd H p (.lst (ys.map V.str)))
theorem cr_sortT (hc : X.calm = true) : CallR X (.builtin "sorted") (rSortT X.w) := by
  intro pins s σ H vs us Q I r h
  obtain ⟨a, S, n, rfl, ha, h64, q⟩ := h
  have R : SetS X.w s.heap a S n := (I.hok a _ ha).1
  rw [Vals.ref1 r]
  refine sorted_setS R (I.ok.hd hc) h64 fun s' p out c ys k g o hp hg hi hs nd hm hl => ?_
  have hlen : (ys.map V.str).length ≤ sizeLine := by rw [List.length_map, hl, sizeLine_eq]; omega
  have hn : H p = none := I.hok.fresh hp
  have J : Inv X pins σ (upd H p (.lst (ys.map V.str))) { s with heap := s'.heap, gens := s'.gens, drawn := s'.drawn, toks := s'.toks } :=
    I.call (ch := []) (Un.laid k hp hn) (I.hok.laid k hp ⟨hlen, out.toList, c, vals_of_strs hi, hg⟩) (by rw [g]; exact I.bare) (fun _ z => nomatch z)
  have e : s' = { s with heap := s'.heap, gens := s'.gens, drawn := s'.drawn, toks := s'.toks } := by
    cases s'
    cases s
    cases o
    rfl
  rw [e]
  exact ⟨.ref p, _, J, rfl, q ys p hs nd hm hl hn⟩
end
end L2.Wk
namespace L2.Wk
open PySem PySem.Spec PyProof.Rows
section
variable {X : Cx} {K : PySem.W.Frag}
theorem ix_tupK (h : X.K = K) : IxR X (rIxT K) := h ▸ ix_tup
end
theorem ite_bool {b : Bool} {A B : Prop} (h1 : b = true → A) (h2 : b = false → B) : if b = true then A else B := by
  cases b with
  | true => exact iteT (h1 rfl)
  | false => exact iteF (h2 rfl)
theorem get_map_str {zs : List Str} {i : Nat} {x : V} (h : (zs.map V.str)[i]? = some x) : ∃ z, z ∈ zs ∧ zs[i]? = some z ∧ x = V.str z := by
  rw [List.getElem?_map] at h
  cases e : zs[i]? with
  | none => rw [e] at h; cases h
  | some z => rw [e] at h; exact ⟨z, List.mem_of_getElem? e, rfl, (Option.some.inj h).symm⟩
theorem get_map_ref {zs : List Addr} {i : Nat} {x : V} (h : (zs.map V.ref)[i]? = some x) : ∃ z, zs[i]? = some z ∧ x = V.ref z := by
  rw [List.getElem?_map] at h
  cases e : zs[i]? with
  | none => rw [e] at h; cases h
  | some z => rw [e] at h; exact ⟨z, rfl, (Option.some.inj h).symm⟩
/-- xs[i:j] within the list -/
theorem cut_mid (xs : List V) (i j : Nat) : cutV xs (some (i : Int)) (some (j : Int)) = (xs.drop (min i xs.length)).take (min j xs.length - min i xs.length) := by
  unfold cutV
  rw [HT.sIx_nat, HT.sIx_nat]
theorem cut_from (xs : List V) (i : Nat) : cutV xs (some (i : Int)) none = xs.drop i := by
  unfold cutV
  rw [HT.sIx_nat, HT.sIx_none]
  by_cases h : i ≤ xs.length
  · have e : min i xs.length = i := by omega
    rw [e, List.take_of_length_le (by rw [List.length_drop]; omega)]
  · have e : min i xs.length = xs.length := by omega
    rw [e, List.drop_of_length_le (by omega), List.drop_of_length_le (by omega)]
    simp
theorem cut_to (xs : List V) (j : Nat) : cutV xs none (some (j : Int)) = xs.take j := by
  unfold cutV
  rw [HT.sIx_nat, HT.sIx_none]
  simp [List.take_eq_take_iff]
theorem cut_mem {xs : List V} {lo hi : Option Int} {x : V} (h : x ∈ cutV xs lo hi) : x ∈ xs := List.mem_of_mem_drop (List.mem_of_mem_take h)
theorem app_len (a b : Str) : (a ++ b).length = a.length + b.length := by
  show (Str.append a b).cps.size = a.cps.size + b.cps.size
  exact Array.size_append
theorem snoc_ind {α : Type} {P : List α → Prop} (h0 : P []) (h1 : ∀ xs x, P xs → P (xs ++ [x])) : ∀ l, P l := fun l => by
  have : ∀ (n : Nat) (l : List α), l.length = n → P l := by
    intro n
    induction n with
    | zero => intro l hl; rw [List.eq_nil_of_length_eq_zero hl]; exact h0
    | succ n ih =>
      intro l hl
      have hne : l ≠ [] := by intro e; rw [e] at hl; cases hl
      have e := List.dropLast_concat_getLast hne
      rw [← e]
      exact h1 _ _ (ih _ (by rw [List.length_dropLast]; omega))
  exact this l.length l rfl
/-- a slice, of any items -/
def cutL {α : Type} (xs : List α) (lo hi : Option Int) : List α := (xs.drop (HT.sIx xs.length 0 lo)).take (HT.sIx xs.length xs.length hi - HT.sIx xs.length 0 lo)
theorem cut_map {α : Type} (f : α → V) (xs : List α) (lo hi : Option Int) : cutV (xs.map f) lo hi = (cutL xs lo hi).map f := by
  unfold cutV cutL
  rw [List.length_map, List.map_take, List.map_drop]
theorem cutL_mem {α : Type} {xs : List α} {lo hi : Option Int} {x : α} (h : x ∈ cutL xs lo hi) : x ∈ xs := List.mem_of_mem_drop (List.mem_of_mem_take h)
theorem cutL_len {α : Type} (xs : List α) (i j : Nat) : (cutL xs (some (i : Int)) (some (j : Int))).length = min j xs.length - min i xs.length := by
  unfold cutL
  rw [HT.sIx_nat, HT.sIx_nat, List.length_take, List.length_drop]
  omega
theorem cutL_len0 {α : Type} (xs : List α) (j : Nat) : (cutL xs none (some (j : Int))).length = min j xs.length := by
  unfold cutL
  rw [HT.sIx_nat, HT.sIx_none, List.length_take, List.length_drop]
  omega
/-- pairs of what stands and what it says -/
def AllAt {α : Type} (R : V → α → Prop) : List V → List α → Prop
  | [], [] => True
  | v :: vs, x :: xs => R v x ∧ AllAt R vs xs
  | [], _ :: _ => False
  | _ :: _, [] => False
theorem AllAt.len {α : Type} {R : V → α → Prop} : ∀ {vs : List V} {xs : List α}, AllAt R vs xs → vs.length = xs.length
  | [], [], _ => rfl
  | _ :: _, _ :: _, h => congrArg Nat.succ (AllAt.len h.2)
  | [], _ :: _, h => h.elim
  | _ :: _, [], h => h.elim
theorem AllAt.imp {α : Type} {R S : V → α → Prop} (f : ∀ v x, R v x → S v x) : ∀ {vs : List V} {xs : List α}, AllAt R vs xs → AllAt S vs xs
  | [], [], _ => True.intro
  | _ :: _, _ :: _, h => ⟨f _ _ h.1, AllAt.imp f h.2⟩
  | [], _ :: _, h => h.elim
  | _ :: _, [], h => h.elim
theorem AllAt.app {α : Type} {R : V → α → Prop} : ∀ {vs ws : List V} {xs ys : List α}, AllAt R vs xs → AllAt R ws ys → AllAt R (vs ++ ws) (xs ++ ys)
  | [], _, [], _, _, h => h
  | _ :: _, _, _ :: _, _, h, h' => ⟨h.1, AllAt.app h.2 h'⟩
  | [], _, _ :: _, _, h, _ => h.elim
  | _ :: _, _, [], _, h, _ => h.elim
theorem AllAt.get {α : Type} {R : V → α → Prop} : ∀ {vs : List V} {xs : List α} {i : Nat} {v : V}, AllAt R vs xs → vs[i]? = some v → ∃ x, xs[i]? = some x ∧ R v x
  | _ :: _, _ :: _, 0, _, h, e => by
    cases (Option.some.inj e)
    exact ⟨_, rfl, h.1⟩
  | _ :: _, _ :: _, i + 1, _, h, e => AllAt.get (i := i) h.2 e
  | [], _, _, _, _, e => by cases e
  | _ :: _, [], _, _, h, _ => h.elim
end L2.Wk
namespace L2.Wk
open PySem PySem.Spec PyProof.Rows
section
variable {prog : Program} {w : World} {A : Around} {E : Value → Shared → Prop} {s : Shared} {K : PySem.W.Frag} {x C f : Addr} {ox : Obj} {odd : Option Obj}
theorem str_from {Q : Value → Shared → Prop} (hu : A.units < cLine) (X : K.In s.heap) (I : PySem.W.InstAt s.heap x ox C odd) (hs : PySem.W.findIn K (.ref C) "__str__" = some (some (.ref f))) (hf : PySem.W.isFn K (.ref f) = true)
    (h : wpAny (model prog w) A (call (.ref f) [.ref x]) (fun r s₁ => ∃ z t, r = Value.str z t ∧ Q r s₁) E s) : wpAny (model prog w) A (Builtin.Str.strOf (.ref x)) Q E s := by
  unfold Builtin.Str.strOf
  refine PySem.W.KFB.if_not rfl ?_
  refine wpAny_bind (wpAny_cRoomFor hu ?_)
  refine wpAny_bind (m := callSpecial? (.ref x) (Str.ofString "__str__")) (PySem.W.special_fn X I hs (beq_iff_eq.mp hf) (wpAny_mono h (fun r s' hr => ?_) fun _ _ y => y))
  obtain ⟨z, t, rfl, hq⟩ := hr
  exact wpAny_pure hq
theorem str_own {Q : Value → Shared → Prop} (hu : A.in1.in1.units < cLine) (X : K.In s.heap) (I : PySem.W.InstAt s.heap x ox C odd) (hs : PySem.W.findIn K (.ref C) "__str__" = some (some (.ref f))) (hf : PySem.W.isFn K (.ref f) = true)
    (h : wpAny (model prog w) A.in1.in1 (call (.ref f) [.ref x]) (fun r s₁ => ∃ z t, r = Value.str z t ∧ Q r s₁) E s) : wpAny (model prog w) A (call (.type "str") [.ref x]) Q E s := by
  refine callType_newIn (S := fun A' R s' => wpAny (model prog w) A'.in1 (Builtin.Str.strOf (.ref x)) (fun r s'' => R (.ok (.ret r)) s'') (fun e s'' => R (.error e) s'') s') F.called_str (by decide) (F.typeCall_str_1 _) (F.newCall_str_1 _) (fun obj => F.args_object_init_2 obj _) F.entry_str_new (.of_wp fun A' R s' h' => ?_) ?_
  · rw [str_new_tree]
    refine wpAny_bind (wpAny_pure ?_)
    refine wpAny_bind (wpAny_of_eq isSubtype_str_str ?_)
    exact wpAny_bind (wpAny_mono h' (fun r s' h' => wpAny_pure ⟨_, rfl, h'⟩) fun _ _ e => e)
  · refine str_from hu X I hs hf (wpAny_mono h (fun r s₁ hr => ?_) fun _ _ y => y)
    obtain ⟨z, t, rfl, hq⟩ := hr
    exact ⟨z, t, rfl, typeIs_str _ _ _, hq⟩
end
section
variable {X : Cx} {CX : CXT} {pins : List (Addr × Obj)} {σ : L2.St} {H : Hp} {s : Shared} {C f : Addr} {fd : FuncData} {ps : List Str} {n : Nat} {sp : Sp} {E : XK}
/-- the callee runs below the running body -/
theorem run_ok {A : Around} {Q : VK} {us : List Value} {ws : List V} (F : FnOk X.prog X.w X.K X.mg X.base CX n f fd ps sp) (hb : Binds X.K fd ps []) (hr : Room n A) (e0 : Env0 X.prog X.w X.K X.mg X.base A X.stack s H) (hx : Passes CX X E) (I : Inv X pins σ H s) (r : Vals ws us) (h : sp ws H Q E) :
    codeAny (model X.prog X.w) A (.call (.ref f) ⟨us, []⟩) (fun r s' => match r with | .ok (.ret v) => EP X pins σ Q v s' | .ok _ => False | .error e => X.xe e s') s := by
  have hl := F.len _ _ _ _ h
  refine codeAny_mono (F.run A X.stack s H ⟨us, []⟩ us ws Q E hr e0 (by
    have := hb s us I.kIn (by rw [List.append_nil, ← r.length]; exact hl)
    simpa using this) r h) fun r s' hq => ?_
  cases r with
  | error e => exact hx pins σ H s e s' I hq
  | ok fl =>
    cases fl with
    | ret u => exact I.after hq
    | next => exact False.elim hq
    | brk => exact False.elim hq
    | cont => exact False.elim hq
/-- str(x) of an instance by its own __str__ -/
def rStrOwn (C : Addr) (sp : Sp) (E : XK) : List V → Hp → VK → Prop := fun xs H Q => ∃ a dx fs, xs = [V.ref a] ∧ H a = some (.ins C dx fs) ∧ sp [.ref a] H (fun z H' => ∃ y, z = .str y ∧ Q z H') E
theorem call_strOwn (hs : PySem.W.findIn X.K (.ref C) "__str__" = some (some (.ref f))) (hf : PySem.W.isFn X.K (.ref f) = true) (F : FnOk X.prog X.w X.K X.mg X.base CX n f fd ps sp) (hb : Binds X.K fd ps []) (hr : Room (n + 2) X.A) (hx : Passes CX X E) : CallR X (.type "str") (rStrOwn C sp E) := by
  intro pins s σ H xs us Q I r h
  obtain ⟨a, dx, fs, rfl, ha, q⟩ := h
  obtain ⟨u, rfl, ru⟩ := r.one
  cases (show u = Value.ref a from ru)
  obtain ⟨mA, J, _⟩ := ins_get I.hok ha
  obtain ⟨od, J, _⟩ := J.look
  have hr2 : Room n X.A.in1.in1 := (show Room (n + 1) X.A.in1 from Room.in1 hr).in1
  refine str_own hr2.units0 I.kIn J hs hf (wpAny_mono (wpAny_call (run_ok (us := [.ref a]) (ws := [.ref a]) F hb hr2 I.env0.in1.in1 hx I (.cons rfl .nil) q)) (fun w s' z => ?_) fun _ _ x => x)
  obtain ⟨z', H', I', rz, i, ei, qz⟩ := z
  subst ei
  obtain ⟨t, e⟩ := (show ∃ t, w = Value.str i t from rz)
  cases e
  exact ⟨i, t, rfl, .str i, H', I', ⟨t, rfl⟩, qz⟩
/-- what stands on the right of an own ==, and its type -/
inductive RgtOf (K : PySem.W.Frag) (H : Hp) (C : Addr) : V → Value → Prop where
  | str (z : Str) : RgtOf K H C (.str z) (.type "str")
  | non : RgtOf K H C .non (.type "NoneType")
  | int (i : Int) : RgtOf K H C (.int i) (.type "int")
  | ins {a D dx : Addr} {fs : List (Str × V)} (e : H a = some (.ins D dx fs)) : RgtOf K H C (.ref a) (.ref D)
  | lst {a : Addr} {xs : List V} (e : H a = some (.lst xs)) : RgtOf K H C (.ref a) (.type "list")
  | tup {a : Addr} {xs : List V} (e : H a = some (.tup xs)) : RgtOf K H C (.ref a) (.type "tuple")
  | bl (b : Bool) : RgtOf K H C (.bl b) (.type "bool")
  | fTup {a : Addr} {o : Obj} {xs : List V} (e : H a = some (.frz o (.tup xs))) : RgtOf K H C (.ref a) (.type "tuple")
  | kTup {a : Addr} {o : Obj} (e : K.lookup a = some o) (c : o.cls = .type "tuple") : RgtOf K H C (.ref a) (.type "tuple")
/-- x == y, x an instance of the class at C by its own == at f -/
def rEqOwn (K : PySem.W.Frag) (C : Addr) (sp : Sp) (E : XK) : R2 := fun x y H Q => ∃ a dx fs tb, x = .ref a ∧ H a = some (.ins C dx fs) ∧ RgtOf K H C y tb ∧ PySem.W.notFirst K C tb = true ∧ sp [.ref a, y] H Q E
theorem op_eqOwn (hs : PySem.W.findIn X.K (.ref C) "__eq__" = some (some (.ref f))) (hf : PySem.W.isFn X.K (.ref f) = true) (F : FnOk X.prog X.w X.K X.mg X.base CX n f fd ps sp) (hb : Binds X.K fd ps []) (hr : Room n X.A) (hx : Passes CX X E) :
    OpR X (compareOp .Eq) (rEqOwn X.K C sp E) := by
  intro pins s σ H x y v u Q I rx ry h
  obtain ⟨a, dx, fs, tb, rfl, ha, hy, hn, q⟩ := h
  cases (show v = Value.ref a from rx)
  obtain ⟨mA, J, _⟩ := ins_get I.hok ha
  obtain ⟨od, J, _⟩ := J.look
  obtain ⟨m, hF⟩ := I.fr
  have lk : PySem.W.Looks (model X.prog X.w) s.heap (typeOf u) tb := by
    cases hy with
    | str z => obtain ⟨t, e⟩ := (show ∃ t, u = Value.str z t from ry); cases e; exact PySem.W.Looks.of_pure rfl
    | non => cases (show u = Value.none from ry); exact PySem.W.Looks.of_pure rfl
    | int i => obtain ⟨t, e⟩ := (show ∃ t, u = Value.int i t from ry); cases e; exact PySem.W.Looks.of_pure rfl
    | bl b => cases (show u = Value.bool b from ry); exact PySem.W.Looks.of_pure rfl
    | @ins b D dy gs e =>
      cases (show u = Value.ref b from ry)
      obtain ⟨mB, J', _⟩ := ins_get I.hok e
      obtain ⟨od', J', _⟩ := J'.look
      exact J'.type
    | @lst b xs e =>
      cases (show u = Value.ref b from ry)
      obtain ⟨_, _, n, _, h1⟩ := (show ObjOk X.prog X.w H s.heap b (.lst xs) from I.hok b _ e)
      exact (PySem.W.Looks.ld h1).andThen .now
    | @tup b xs e =>
      cases (show u = Value.ref b from ry)
      obtain ⟨_, _, _, o, h1, h2, _⟩ := (show ObjOk X.prog X.w H s.heap b (.tup xs) from I.hok b _ e)
      exact h2 ▸ (PySem.W.Looks.ld h1).andThen .now
    | @kTup b o e c =>
      cases (show u = Value.ref b from ry)
      exact c ▸ (PySem.W.Looks.ld (I.kIn _ _ e)).andThen .now
    | @fTup b ob xs e =>
      cases (show u = Value.ref b from ry)
      obtain ⟨_, _, _, _, o, h1, h2, _⟩ := (show ObjOk X.prog X.w H s.heap b (.frz ob (.tup xs)) from I.hok b _ e)
      exact h2 ▸ (PySem.W.Looks.ld h1).andThen .now
  show wpAny (model X.prog X.w) X.A (richCompare .Eq (.ref a) u) (EP X pins σ Q) X.xe s
  refine PySem.W.cmp_K (op := .Eq) (tb := tb) hr.units0 hF I.ok.mod.kin J lk hn hs hf ?_
  refine wpAny_mono (wpAny_call (run_ok (us := [.ref a, u]) (ws := [.ref a, y]) F hb hr I.env0 hx I (.cons rfl (.cons ry .nil)) q)) (fun w s' z => ?_) fun _ _ x => x
  obtain ⟨z', H', I', rz, qz⟩ := z
  exact SlX.cmpback rz ⟨z', H', I', rz, qz⟩
/-- a walk over what is a list or a tuple -/
def iSeq (K : PySem.W.Frag) (tl : TE) : TI := fun σ H R => tl σ H fun x H1 => ∃ a, x = .ref a ∧ (((∃ xs, SqL K H1 a xs) ∧ R (Itl K a) H1) ∨ ((∃ xs, SqT K H1 a xs) ∧ R (Itt K a) H1))
theorem pi_seq {tg l : Expr} {tl : TE} (hl : PE X l tl) : PI X tg l (iSeq X.K tl) := by
  refine ⟨fun pins s σ H R I h => ?_⟩
  refine thn (hl.run pins s σ H _ I h) fun v s1 ⟨x, H1, I1, r1, q1⟩ => ?_
  obtain ⟨a, e, ⟨⟨xs, hq⟩, q⟩ | ⟨⟨xs, hq⟩, q⟩⟩ := q1
  · subst e
    cases r1
    obtain ⟨its, rv, p, hz⟩ := I1.list hq
    refine wpAny_pyIter_list p.isList ?_
    refine ⟨s1.heap.objs.size, [s1.heap.objs.size], _, _, H1, rfl, I1.kept (t' := s1.toks) fun b o e => Heap.get?_push_of_some _ e, turn_list a _, ⟨_, Heap.get?_push_size _ rfl, rfl, rfl⟩, fun b hb => ?_, q⟩
    have e : b = s1.heap.objs.size := by simpa using hb
    subst e
    exact I1.fpOk (Nat.le_refl _) (I1.hok.fresh (Nat.le_refl _))
  · subst e
    cases r1
    obtain ⟨its, rv, p, hz⟩ := I1.tuple hq
    refine wpAny_pyIter_tuple (show s1.heap.IsTuple a its.toArray from p) ?_
    refine ⟨s1.heap.objs.size, [s1.heap.objs.size], _, _, H1, rfl, I1.kept (t' := s1.toks) fun b o e => Heap.get?_push_of_some _ e, turn_tuple a _, ⟨_, Heap.get?_push_size _ rfl, rfl, rfl⟩, fun b hb => ?_, q⟩
    have e : b = s1.heap.objs.size := by simpa using hb
    subst e
    exact I1.fpOk (Nat.le_refl _) (I1.hok.fresh (Nat.le_refl _))
end
/-! ### a list or a tuple -/
section
variable {K : PySem.W.Frag} {H H' : Hp} {a : Addr} {xs : List V}
def Sq (K : PySem.W.Frag) (H : Hp) (a : Addr) (xs : List V) : Prop := SqL K H a xs ∨ SqT K H a xs
theorem Same.sqL (s : Same H H') (h : SqL K H a xs) : SqL K H' a xs := by
  rcases h with (h | ⟨o, h⟩) | h
  · exact .inl (.inl (s _ _ h))
  · exact .inl (.inr ⟨o, s _ _ h⟩)
  · exact .inr h
theorem Same.sq (s : Same H H') (h : Sq K H a xs) : Sq K H' a xs := h.elim (fun h => .inl (Same.sqL s h)) fun h => .inr (Same.sqT s h)
theorem tyx_L (h : SqL K H a xs) : TyX K H (.ref a) (.type "list") := by
  rcases h with (h | ⟨o, h⟩) | ⟨o, its, n, e, c, _⟩
  · exact .base (.lst h)
  · exact .base (.frz h)
  · exact .kList e c
theorem tyx_T (h : SqT K H a xs) : TyX K H (.ref a) (.type "tuple") := by
  rcases h with (h | ⟨o, h⟩) | ⟨o, its, n, e, c, _⟩
  · exact .base (.tup h)
  · exact .fTuple h
  · exact .kTuple e c
theorem rgt_T {C : Addr} (h : SqT K H a xs) : RgtOf K H C (.ref a) (.type "tuple") := by
  rcases h with (h | ⟨o, h⟩) | ⟨o, its, n, e, c, _⟩
  · exact .tup h
  · exact .fTup h
  · exact .kTup e c
/-- tuple(xs) -/
theorem tup_of {Q : VK} (h : Sq K H a xs) (k : ∀ t H1, SqT K H1 t xs → Same H H1 → Q (.ref t) H1) : (SqL K H a xs ∧ ∀ l, H l = none → Q (.ref l) (upd H l (.tup xs))) ∨ (SqT K H a xs ∧ Q (.ref a) H) :=
  h.elim (fun h => .inl ⟨h, fun l hl => k l _ (.inl (.inl upd_same)) (Same.upd_new hl)⟩) fun h => .inr ⟨h, k a H h (Same.refl _)⟩
def rTup (K : PySem.W.Frag) : List V → Hp → VK → Prop := fun xs H Q => ∃ p ys, xs = [.ref p] ∧ ((SqL K H p ys ∧ ∀ l, H l = none → Q (.ref l) (upd H l (.tup ys))) ∨ (SqT K H p ys ∧ Q (.ref p) H))
theorem call_tupS {X : Cx} : CallR X (.type "tuple") (rTup X.K) := call_tuple_of
theorem rTup_of {Q : VK} (h : Sq K H a xs) (k : ∀ t H1, SqT K H1 t xs → Same H H1 → Q (.ref t) H1) : rTup K [.ref a] H Q := ⟨a, xs, rfl, tup_of h k⟩
/-- a block over a list or a tuple that was there ahead -/
theorem seq_lc {g : TG} {tt : TT} {te : TE} {vs : List Nat} {σ : L2.St} {Qd : Addr → Hp → Prop} (h : Sq K H a xs) (hs : ∀ D, H D = none → ∃ Pv : Nat → Hp → Prop, Pv 0 (upd H D (.lst [])) ∧ (∀ i H', i ≤ xs.length → Pv i H' → ∀ o, H a = some o → H' a = some o) ∧
      (∀ i x H', xs[i]? = some x → Pv i H' → g x (wipe σ vs) H' fun σ2 H2 => wipe σ2 vs = wipe σ vs ∧ tt σ2 H2 fun b H3 =>
        if b = true then te σ2 H3 fun y H4 => ∃ acc, H4 D = some (.lst acc) ∧ acc.length < sizeLine ∧ Pv (i + 1) (upd H4 D (.lst (acc ++ [y]))) else Pv (i + 1) H3) ∧ ∀ H', Pv xs.length H' → Qd D H') :
    ((∃ xs, SqL K H a xs) ∧ ∀ D, H D = none → ∃ W : Nat → Nat → Hp → Prop, (∃ m, W 0 m (upd H D (.lst []))) ∧ ∀ i m H, W i m H →
      ((Itl K a).stop i H ∧ Qd D H) ∨ ((Itl K a).go i H ∧ ∃ Nx : Hp → Prop, (∀ H', Nx H' → ∃ m', m' < m ∧ W (i + 1) m' H') ∧ ∀ x H', (Itl K a).yld i H x H' → g x (wipe σ vs) H' fun σ2 H2 => wipe σ2 vs = wipe σ vs ∧ tt σ2 H2 fun b H3 =>
        if b = true then te σ2 H3 fun y H4 => ∃ acc, H4 D = some (.lst acc) ∧ acc.length < sizeLine ∧ Nx (upd H4 D (.lst (acc ++ [y]))) else Nx H3)) ∨
    ((∃ xs, SqT K H a xs) ∧ ∀ D, H D = none → ∃ W : Nat → Nat → Hp → Prop, (∃ m, W 0 m (upd H D (.lst []))) ∧ ∀ i m H, W i m H →
      ((Itt K a).stop i H ∧ Qd D H) ∨ ((Itt K a).go i H ∧ ∃ Nx : Hp → Prop, (∀ H', Nx H' → ∃ m', m' < m ∧ W (i + 1) m' H') ∧ ∀ x H', (Itt K a).yld i H x H' → g x (wipe σ vs) H' fun σ2 H2 => wipe σ2 vs = wipe σ vs ∧ tt σ2 H2 fun b H3 =>
        if b = true then te σ2 H3 fun y H4 => ∃ acc, H4 D = some (.lst acc) ∧ acc.length < sizeLine ∧ Nx (upd H4 D (.lst (acc ++ [y]))) else Nx H3)) := by
  rcases id h with hL | hT
  · refine .inl ⟨⟨_, hL⟩, fun D hD => ?_⟩
    obtain ⟨Pv, p0, pk, ps, pd⟩ := hs D hD
    refine lc_list (K := K) (a := a) (xs := xs) Pv p0 (fun i H' hi p => ?_) ps pd
    rcases hL with (h | ⟨o, h⟩) | h
    · exact .inl (.inl (pk i H' hi p _ h))
    · exact .inl (.inr ⟨o, pk i H' hi p _ h⟩)
    · exact .inr h
  · refine .inr ⟨⟨_, hT⟩, fun D hD => ?_⟩
    obtain ⟨Pv, p0, pk, ps, pd⟩ := hs D hD
    refine lc_tup (K := K) (a := a) (xs := xs) Pv p0 (fun i H' hi p => ?_) ps pd
    rcases hT with (h | ⟨o, h⟩) | h
    · exact .inl (.inl (pk i H' hi p _ h))
    · exact .inl (.inr ⟨o, pk i H' hi p _ h⟩)
    · exact .inr h
/-- a block that goes over texts in a list, each to a text -/
theorem lc_map {p D : Addr} {ys : List Str} {f : Str → Str} {i : Nat} {te : TE} {σ : L2.St} {Qd : Hp → Prop} (hp : H p = some (.lst (ys.map V.str))) (hn : ys.length ≤ 1000) (hD : H D = none)
    (hw : ∀ y : V, wipe ((wipe σ [i]).set i (some y)) [i] = wipe σ [i])
    (hte : ∀ y ∈ ys, ∀ (H' : Hp) (R : VK), R (.str (f y)) H' → te ((wipe σ [i]).set i (some (.str y))) H' R)
    (hd : ∀ H', Same H H' → H' D = some (.lst ((ys.map f).map V.str)) → Qd H') :
    ∃ W : Nat → Nat → Hp → Prop, (∃ m, W 0 m (upd H D (.lst []))) ∧ ∀ k m H, W k m H →
      ((Itl K p).stop k H ∧ Qd H) ∨ ((Itl K p).go k H ∧ ∃ Nx : Hp → Prop, (∀ H', Nx H' → ∃ m', m' < m ∧ W (k + 1) m' H') ∧ ∀ x H', (Itl K p).yld k H x H' → gName i x (wipe σ [i]) H' fun σ2 H2 => wipe σ2 [i] = wipe σ [i] ∧ tYes σ2 H2 fun b H3 =>
        if b = true then te σ2 H3 fun y H4 => ∃ acc, H4 D = some (.lst acc) ∧ acc.length < sizeLine ∧ Nx (upd H4 D (.lst (acc ++ [y]))) else Nx H3) := by
  refine lc_list (K := K) (a := p) (xs := ys.map V.str) (fun j H' => Same H H' ∧ H' D = some (.lst (((ys.take j).map f).map V.str))) ⟨Same.upd_new hD, upd_same⟩ (fun j H' _ h => .inl (.inl (h.1 _ _ hp))) ?_ ?_
  · rintro j x H' hx ⟨t1, t2⟩
    obtain ⟨y, hy, hyi, rfl⟩ := get_map_str hx
    have hj : j < ys.length := (List.getElem?_eq_some_iff.mp hyi).1
    refine ⟨hw _, ?_⟩
    refine hte y hy H' _ ⟨_, t2, ?_, fun b o e => ?_, ?_⟩
    · rw [List.length_map, List.length_map, List.length_take]
      exact small1000 (by omega)
    · rw [upd_ne (ne_of_none e hD)]
      exact t1 b o e
    · rw [take_succ_map _ hyi, List.map_append]
      exact upd_same
  · rintro H' ⟨t1, t2⟩
    rw [List.length_map, List.take_length] at t2
    exact hd H' t1 t2
end
section
variable {X : Cx} {K : PySem.W.Frag}
theorem call_isiN (h : X.K = K) : CallR X (.builtin "isinstance") (rIsi K) := h ▸ call_isi
theorem pe_fldK {e : Expr} {f : Str} {pos : Pos} {ta : TE} (h : X.K = K) (he : PE X e ta) (hb : attributeBase e f X.env (eval e X.env) = eval e X.env) : PE X (.Attribute e f pos) (tFld K ta f) := h ▸ pe_fld he hb
theorem sl_tupK (h : X.K = K) : SlR X (rSlT K) := h ▸ sl_tup
theorem op_catAK (h : X.K = K) : OpR X (binaryOp .Add) (rCatA K) := h ▸ op_catA
end
section
variable {K : PySem.W.Frag} {H : Hp} {a : Addr} {xs : List V}
/-- a loop over a list or a tuple that was there ahead -/
theorem seq_for {g : TG} {tb : TS} {D : Ends} {σ : L2.St} {H0 : Hp} (h : Sq K H0 a xs) (Pv : Nat → L2.St → Hp → Prop) (h0 : Pv 0 σ H) (hk : ∀ i σ' H', i ≤ xs.length → Pv i σ' H' → ∀ o, H0 a = some o → H' a = some o)
    (hs : ∀ i x σ H, xs[i]? = some x → Pv i σ H → g x σ H fun σ2 H2 => tb { D with nx := Pv (i + 1), ct := Pv (i + 1), bk := D.nx } σ2 H2) (hd : ∀ σ H, Pv xs.length σ H → D.nx σ H) :
    ((∃ xs, SqL K H a xs) ∧ ∃ W : Nat → Nat → L2.St → Hp → Prop, (∃ m, W 0 m σ H) ∧ ∀ i m σ H, W i m σ H →
      ((Itl K a).stop i H ∧ D.nx σ H) ∨ ((Itl K a).go i H ∧ ∃ N : L2.St → Hp → Prop, (∀ σ' H', N σ' H' → ∃ m', m' < m ∧ W (i + 1) m' σ' H') ∧ ∀ x H', (Itl K a).yld i H x H' → g x σ H' fun σ2 H2 => tb { D with nx := N, ct := N, bk := D.nx } σ2 H2)) ∨
    ((∃ xs, SqT K H a xs) ∧ ∃ W : Nat → Nat → L2.St → Hp → Prop, (∃ m, W 0 m σ H) ∧ ∀ i m σ H, W i m σ H →
      ((Itt K a).stop i H ∧ D.nx σ H) ∨ ((Itt K a).go i H ∧ ∃ N : L2.St → Hp → Prop, (∀ σ' H', N σ' H' → ∃ m', m' < m ∧ W (i + 1) m' σ' H') ∧ ∀ x H', (Itt K a).yld i H x H' → g x σ H' fun σ2 H2 => tb { D with nx := N, ct := N, bk := D.nx } σ2 H2)) := by
  rcases id h with hL | hT
  · have hL2 : ∀ i σ' H', i ≤ xs.length → Pv i σ' H' → SqL K H' a xs := fun i σ' H' hi p => by
      rcases hL with (h | ⟨o, h⟩) | h
      · exact .inl (.inl (hk i σ' H' hi p _ h))
      · exact .inl (.inr ⟨o, hk i σ' H' hi p _ h⟩)
      · exact .inr h
    exact .inl ⟨⟨_, hL2 0 σ H (Nat.zero_le _) h0⟩, for_list (K := K) (a := a) (xs := xs) Pv h0 hL2 hs hd⟩
  · have hT2 : ∀ i σ' H', i ≤ xs.length → Pv i σ' H' → SqT K H' a xs := fun i σ' H' hi p => by
      rcases hT with (h | ⟨o, h⟩) | h
      · exact .inl (.inl (hk i σ' H' hi p _ h))
      · exact .inl (.inr ⟨o, hk i σ' H' hi p _ h⟩)
      · exact .inr h
    exact .inr ⟨⟨_, hT2 0 σ H (Nat.zero_le _) h0⟩, for_tup (K := K) (a := a) (xs := xs) Pv h0 hT2 hs hd⟩
end
end L2.Wk
namespace WkGQ
open PySem PySem.SeqAt
open AutoSeq1 (wpAny_loadPart')
open MeetsSeq MeetsSeq2 MeetsSeq3 SeqRoads2
section
variable {prog : Program} {w : World} {A : Around} {R : Result → Shared → Prop}
/-- ==, != of two tuples, item by item, till two differ -/
theorem tuple_eqS (l b : Addr) (items items2 : Array Value) (n n2 : Nat) (dd dd2 : Option Addr) (sl sl2 : Array (Option Value)) (e : Nat → Bool) (I : Nat → Shared → Prop) (J : Shared → Prop)
    (turn : ∀ i (h1 : i < items.size) (h2 : i < items2.size) s, I i s → wpAny (model prog w) A.in1 (eqBool items[i] items2[i]) (fun r s' => r = e i ∧ (e i = true → I (i + 1) s') ∧ (e i = false → J s')) (fun e s' => R (.error e) s') s)
    (finF : ∀ s, J s → R (.ok (.ret (.bool false))) s) (finT : ∀ s, I (min items.size items2.size) s → R (.ok (.ret (.bool (items.size == items2.size)))) s)
    {s : Shared} (hl1 : s.heap.get? l = some { cls := .type "tuple", dict := dd, data := .seq items n, slots := sl }) (hb1 : s.heap.get? b = some { cls := .type "tuple", dict := dd2, data := .seq items2 n2, slots := sl2 }) (h : I 0 s) :
    wpAny (model prog w) A.in1 (Builtin.«tuple.__eq__» ⟨[.ref l, .ref b], []⟩) (GQ.FinOf prog w A R) (fun e s' => R (.error e) s') s := by
  have f2 := AutoSeq1.sub_tuple_tuple
  have hZ : (items.toList.zip items2.toList).length = min items.size items2.size := by simp
  have h0 := h
  obtain ⟨hp, g, d, tk, os⟩ := s
  wp_walk using wpAny_loadPart' hl1, wpAny_loadPart' hb1, wpAny_forIn_list _ (fun rest b s' => b.1 = none ∧ ∃ i, rest = (items.toList.zip items2.toList).drop i ∧ i ≤ min items.size items2.size ∧ I i s') _
  case turn =>
    rintro ⟨y, x⟩ rest b s' ⟨hb', i, hz, hi, hI⟩
    have hlt : i < (items.toList.zip items2.toList).length := by
      rcases Nat.lt_or_ge i (items.toList.zip items2.toList).length with h' | h'
      · exact h'
      · rw [List.drop_of_length_le h'] at hz; cases hz
    have hm : i < min items.size items2.size := hZ ▸ hlt
    have h1 : i < items.size := Nat.lt_of_lt_of_le hm (Nat.min_le_left _ _)
    have h2 : i < items2.size := Nat.lt_of_lt_of_le hm (Nat.min_le_right _ _)
    rw [List.drop_eq_getElem_cons hlt] at hz
    injection hz with hyx hrest
    have hy : y = items[i] := by have := congrArg Prod.fst hyx; simpa using this
    have hx : x = items2[i] := by have := congrArg Prod.snd hyx; simpa using this
    subst hy hx
    refine wpAny_bind (wpAny_mono (turn i h1 h2 s' hI) (fun r s2 q2 => ?_) fun _ _ x => x)
    obtain ⟨hr, q2, q3⟩ := q2
    cases hei : e i with
    | true =>
      rw [hei] at hr
      subst hr
      wp_walk
      exact ⟨rfl, i + 1, hrest, hm, q2 hei⟩
    | false =>
      rw [hei] at hr
      subst hr
      have hF := finF s2 (q3 hei)
      wp_walk
      first | exact hF | exact ⟨_, rfl, hF⟩
  case fin =>
    rintro ⟨b1, b2⟩ s' ⟨hb', i, hz, hi, hI⟩
    simp only at hb'
    subst hb'
    have hge : min items.size items2.size ≤ i := by
      rcases Nat.lt_or_ge i (items.toList.zip items2.toList).length with h' | h'
      · rw [List.drop_eq_getElem_cons h'] at hz; cases hz
      · exact hZ ▸ h'
    have hi' : i = min items.size items2.size := by omega
    have hR := finT s' (hi' ▸ hI)
    wp_walk
    simpa [Builtin.Tuple.tupleCompareSizes] using hR
  case h =>
    exact ⟨rfl, 0, rfl, Nat.zero_le _, h0⟩

theorem tuple_neS (l b : Addr) (items items2 : Array Value) (n n2 : Nat) (dd dd2 : Option Addr) (sl sl2 : Array (Option Value)) (e : Nat → Bool) (I : Nat → Shared → Prop) (J : Shared → Prop)
    (turn : ∀ i (h1 : i < items.size) (h2 : i < items2.size) s, I i s → wpAny (model prog w) A.in1 (eqBool items[i] items2[i]) (fun r s' => r = e i ∧ (e i = true → I (i + 1) s') ∧ (e i = false → J s')) (fun e s' => R (.error e) s') s)
    (finF : ∀ s, J s → R (.ok (.ret (.bool true))) s) (finT : ∀ s, I (min items.size items2.size) s → R (.ok (.ret (.bool (!(items.size == items2.size))))) s)
    {s : Shared} (hl1 : s.heap.get? l = some { cls := .type "tuple", dict := dd, data := .seq items n, slots := sl }) (hb1 : s.heap.get? b = some { cls := .type "tuple", dict := dd2, data := .seq items2 n2, slots := sl2 }) (h : I 0 s) :
    wpAny (model prog w) A.in1 (Builtin.«tuple.__ne__» ⟨[.ref l, .ref b], []⟩) (GQ.FinOf prog w A R) (fun e s' => R (.error e) s') s := by
  have f2 := AutoSeq1.sub_tuple_tuple
  have hZ : (items.toList.zip items2.toList).length = min items.size items2.size := by simp
  have h0 := h
  obtain ⟨hp, g, d, tk, os⟩ := s
  wp_walk using wpAny_loadPart' hl1, wpAny_loadPart' hb1, wpAny_forIn_list _ (fun rest b s' => b.1 = none ∧ ∃ i, rest = (items.toList.zip items2.toList).drop i ∧ i ≤ min items.size items2.size ∧ I i s') _
  case turn =>
    rintro ⟨y, x⟩ rest b s' ⟨hb', i, hz, hi, hI⟩
    have hlt : i < (items.toList.zip items2.toList).length := by
      rcases Nat.lt_or_ge i (items.toList.zip items2.toList).length with h' | h'
      · exact h'
      · rw [List.drop_of_length_le h'] at hz; cases hz
    have hm : i < min items.size items2.size := hZ ▸ hlt
    have h1 : i < items.size := Nat.lt_of_lt_of_le hm (Nat.min_le_left _ _)
    have h2 : i < items2.size := Nat.lt_of_lt_of_le hm (Nat.min_le_right _ _)
    rw [List.drop_eq_getElem_cons hlt] at hz
    injection hz with hyx hrest
    have hy : y = items[i] := by have := congrArg Prod.fst hyx; simpa using this
    have hx : x = items2[i] := by have := congrArg Prod.snd hyx; simpa using this
    subst hy hx
    refine wpAny_bind (wpAny_mono (turn i h1 h2 s' hI) (fun r s2 q2 => ?_) fun _ _ x => x)
    obtain ⟨hr, q2, q3⟩ := q2
    cases hei : e i with
    | true =>
      rw [hei] at hr
      subst hr
      wp_walk
      exact ⟨rfl, i + 1, hrest, hm, q2 hei⟩
    | false =>
      rw [hei] at hr
      subst hr
      have hF := finF s2 (q3 hei)
      wp_walk
      first | exact hF | exact ⟨_, rfl, hF⟩
  case fin =>
    rintro ⟨b1, b2⟩ s' ⟨hb', i, hz, hi, hI⟩
    simp only at hb'
    subst hb'
    have hge : min items.size items2.size ≤ i := by
      rcases Nat.lt_or_ge i (items.toList.zip items2.toList).length with h' | h'
      · rw [List.drop_eq_getElem_cons h'] at hz; cases hz
      · exact hZ ▸ h'
    have hi' : i = min items.size items2.size := by omega
    have hR := finT s' (hi' ▸ hI)
    wp_walk
    simpa [Builtin.Tuple.tupleCompareSizes, bne] using hR
  case h =>
    exact ⟨rfl, 0, rfl, Nat.zero_le _, h0⟩
theorem rc_tup_eqS {E : Value → Shared → Prop} {s : Shared} {l b : Addr} {items items2 : Array Value} {Q : Value → Shared → Prop} (e : Nat → Bool) (hu : A.units < cLine) (I : Nat → Shared → Prop) (J : Shared → Prop)
    (hl : s.heap.IsTuple l items) (hb : s.heap.IsTuple b items2)
    (turn : ∀ i (h1 : i < items.size) (h2 : i < items2.size) s, I i s → wpAny (model prog w) A.in1 (eqBool items[i] items2[i]) (fun r s' => r = e i ∧ (e i = true → I (i + 1) s') ∧ (e i = false → J s')) E s)
    (finF : ∀ s, J s → Q (.bool false) s) (finT : ∀ s, I (min items.size items2.size) s → Q (.bool (items.size == items2.size)) s) (h : I 0 s) : wpAny (model prog w) A (richCompare .Eq (.ref l) (.ref b)) Q E s := by
  obtain ⟨⟨cls, dd, data, sl⟩, ho, hc, n, hd⟩ := id hl
  obtain ⟨⟨cls2, dd2, data2, sl2⟩, ho2, hc2, n2, hd2⟩ := id hb
  simp only at hc hd hc2 hd2
  subst hc hd hc2 hd2
  refine wpAny_richCompare_same_room (op := .Eq) ⟨_, ho, rfl⟩ ⟨_, ho2, rfl⟩ F.slot_tuple_eq (GQ.call_here F.slot_tuple_eq ⟨_, ho, rfl⟩ F.entry_tuple_eq (F.args_tuple_eq_2 _ _) ?_) hu
  exact tuple_eqS (R := wants (fun v s' => v ≠ .notImplemented ∧ Q v s') E) l b items items2 n n2 dd dd2 sl sl2 e I J turn (fun s' q => ⟨(fun x => nomatch x), finF s' q⟩) (fun s' q => ⟨(fun x => nomatch x), finT s' q⟩) ho ho2 h
theorem rc_tup_neS {E : Value → Shared → Prop} {s : Shared} {l b : Addr} {items items2 : Array Value} {Q : Value → Shared → Prop} (e : Nat → Bool) (hu : A.units < cLine) (I : Nat → Shared → Prop) (J : Shared → Prop)
    (hl : s.heap.IsTuple l items) (hb : s.heap.IsTuple b items2)
    (turn : ∀ i (h1 : i < items.size) (h2 : i < items2.size) s, I i s → wpAny (model prog w) A.in1 (eqBool items[i] items2[i]) (fun r s' => r = e i ∧ (e i = true → I (i + 1) s') ∧ (e i = false → J s')) E s)
    (finF : ∀ s, J s → Q (.bool true) s) (finT : ∀ s, I (min items.size items2.size) s → Q (.bool (!(items.size == items2.size))) s) (h : I 0 s) : wpAny (model prog w) A (richCompare .NotEq (.ref l) (.ref b)) Q E s := by
  obtain ⟨⟨cls, dd, data, sl⟩, ho, hc, n, hd⟩ := id hl
  obtain ⟨⟨cls2, dd2, data2, sl2⟩, ho2, hc2, n2, hd2⟩ := id hb
  simp only at hc hd hc2 hd2
  subst hc hd hc2 hd2
  refine wpAny_richCompare_same_room (op := .NotEq) ⟨_, ho, rfl⟩ ⟨_, ho2, rfl⟩ F.slot_tuple_ne (GQ.call_here F.slot_tuple_ne ⟨_, ho, rfl⟩ F.entry_tuple_ne (F.args_tuple_ne_2 _ _) ?_) hu
  exact tuple_neS (R := wants (fun v s' => v ≠ .notImplemented ∧ Q v s') E) l b items items2 n n2 dd dd2 sl sl2 e I J turn (fun s' q => ⟨(fun x => nomatch x), finF s' q⟩) (fun s' q => ⟨(fun x => nomatch x), finT s' q⟩) ho ho2 h
/-- != by the class's own ==, at the library's level -/
theorem objNe_K {E : Value → Shared → Prop} {s : Shared} {K : PySem.W.Frag} {x C f : Addr} {ox : Obj} {od : Option Obj} {y : Value} (hu : A.units < cLine) (X : K.In s.heap) (I : PySem.W.InstAt s.heap x ox C od) (hs : PySem.W.findIn K (.ref C) "__eq__" = some (some (.ref f))) (hf : PySem.W.isFn K (.ref f) = true) {Q : Fin → Shared → Prop}
    (h : wpAny (model prog w) A (call (.ref f) [.ref x, y]) (fun v s' => ∃ b, v = .bool b ∧ Q (.done (.ret (.bool (!b)))) s') E s) : wpAny (model prog w) A (Builtin.«object.__ne__» ⟨[.ref x, y], []⟩) Q E s := by
  unfold Builtin.«object.__ne__»
  repeat (first
    | with_reducible refine wpAny_cRoomFor hu ?_
    | (refine wpAny_bind (m := callSpecialIfBound? (.ref x) (Str.ofString "__eq__") [y])
        (PySem.W.ifBound_K X I hs hf (wpAny_mono h (fun r s' hr => by
          obtain ⟨b, rfl, hq⟩ := hr
          repeat (first | exact hq | exact wpAny_pure hq | exact wpAny_truthy_bool hq | (refine wpAny_bind (m := truthy (.bool _)) (wpAny_truthy_bool ?_)) | wp_step)) fun _ _ e => e)))
    | wp_step)
theorem call_objNe {E : Value → Shared → Prop} {s : Shared} {K : PySem.W.Frag} {x C f : Addr} {ox : Obj} {od : Option Obj} {y : Value} (hu : A.in1.units < cLine) (X : K.In s.heap) (I : PySem.W.InstAt s.heap x ox C od) (hm : PySem.W.mroIn K C (.type "object") = some true) (hs : PySem.W.findIn K (.ref C) "__eq__" = some (some (.ref f))) (hf : PySem.W.isFn K (.ref f) = true) {Q : Value → Shared → Prop}
    (h : wpAny (model prog w) A.in1 (call (.ref f) [.ref x, y]) (fun v s' => ∃ b, v = .bool b ∧ Q (.bool (!b)) s') E s) : wpAny (model prog w) A (call (.builtin "object.__ne__") [.ref x, y]) Q E s :=
  wpAny_call (codeAny_call_builtin F.cmp_object.ne.plain F.cmpEntry_ne (PySem.W.check_slot F.cmpKind_ne F.cmpSplit_ne (I.type.andThen (PySem.W.looks_mroIn X hm)) (F.cmpArgs_ne _ _) (objNe_K hu X I hs hf h)))
theorem ifBound_objNe {M : Model} {E : Value → Shared → Prop} {s : Shared} {K : PySem.W.Frag} {x C : Addr} {ox : Obj} {od : Option Obj} {args : List Value} {Q : Option Value → Shared → Prop} (X : K.In s.heap) (I : PySem.W.InstAt s.heap x ox C od) (hs : PySem.W.findIn K (.ref C) "__ne__" = some (some (.builtin "object.__ne__")))
    (h : wpAny M A (call (.builtin "object.__ne__") (.ref x :: args)) (fun v => Q (some v)) E s) : wpAny M A (callSpecialIfBound? (.ref x) "__ne__" args) Q E s := by
  simp only [callSpecialIfBound?, bindSpecialIfBound?]
  refine wpAny_holding (wpAny_bind (wpAny_bind (wpAny_bind (I.type.here ((PySem.W.looks_findIn X hs).here ?_)))))
  refine wpAny_bind (wpAny_askSetting (wpAny_ite ?_))
  have fin : wpAny M A (call (.builtin "object.__ne__") ([.ref x] ++ args) >>= fun v => pure (some v)) Q E s := wpAny_bind (wpAny_mono h (fun v s' h' => wpAny_pure h') fun _ _ h' => h')
  split
  · exact wpAny_bind (wpAny_of_eq (F.cmp_object.ne.bind _) (wpAny_pure (by exact fin)))
  · exact wpAny_tryCatch (wpAny_bind (wpAny_of_eq (F.cmp_object.ne.bind _) (wpAny_pure (by exact fin))))
theorem ne_K {E : Value → Shared → Prop} {s : Shared} {K : PySem.W.Frag} {x C f : Addr} {ox od : Obj} {y tb : Value} {Q : Value → Shared → Prop} (hu : A.units < cLine) (hu1 : A.in1.units < cLine) (X : K.In s.heap) (I : PySem.W.InstAt s.heap x ox C od) (hb : PySem.W.Looks (model prog w) s.heap (typeOf y) tb) (hn : PySem.W.notFirst K C tb = true)
    (hm : PySem.W.mroIn K C (.type "object") = some true) (h1 : PySem.W.findIn K (.ref C) "__ne__" = some (some (.builtin "object.__ne__"))) (hs : PySem.W.findIn K (.ref C) "__eq__" = some (some (.ref f))) (hf : PySem.W.isFn K (.ref f) = true)
    (h : wpAny (model prog w) A.in1 (call (.ref f) [.ref x, y]) (fun v s' => ∃ b, v = .bool b ∧ Q (.bool (!b)) s') E s) : wpAny (model prog w) A (richCompare .NotEq (.ref x) y) Q E s := by
  have one : wpAny (model prog w) A (tryCompare (.ref x) (cmpInfo .NotEq).2.1 y) (fun r s' => ∃ v, r = some v ∧ Q v s') E s := by
    unfold tryCompare
    refine wpAny_bind (ifBound_objNe X I h1 (call_objNe hu1 X I hm hs hf (wpAny_mono h (fun v s' hv => ?_) fun _ _ e => e)))
    obtain ⟨b, rfl, hq⟩ := hv
    exact ⟨b, rfl, wpAny_pure ⟨_, rfl, hq⟩⟩
  unfold richCompare
  simp only [oneThing_ref]
  refine wpAny_holding (wpAny_bind (wpAny_cRoomFor hu ?_))
  refine wpAny_bind (I.type.here (wpAny_bind (hb.here ?_)))
  split
  · rename_i q
    have e : PySem.W.subIn K tb (.ref C) = some false := by
      rcases Bool.or_eq_true_iff.mp hn with e | e
      · rw [beq_iff_eq.mp e] at q; simp at q
      · exact beq_iff_eq.mp e
    refine wpAny_bind ((PySem.W.looks_subIn X e).here ?_)
    simp only [Bool.false_eq_true, if_false]
    refine wpAny_bind (wpAny_mono one (fun r s' z => ?_) fun _ _ e => e)
    obtain ⟨v, rfl, hq⟩ := z
    exact wpAny_pure hq
  · refine wpAny_bind (wpAny_pure ?_)
    simp only [Bool.false_eq_true, if_false]
    refine wpAny_bind (wpAny_mono one (fun r s' z => ?_) fun _ _ e => e)
    obtain ⟨v, rfl, hq⟩ := z
    exact wpAny_pure hq
end
end WkGQ
namespace L2.Wk
open PySem PySem.Spec PyProof.Rows
section
variable {X : Cx} {CX : CXT} {C f : Addr} {fd : FuncData} {ps : List Str} {n : Nat} {sp : Sp} {E : XK}
theorem looks_rgt {pins : List (Addr × Obj)} {σ : L2.St} {H : Hp} {s : Shared} {y : V} {u tb : Value} (I : Inv X pins σ H s) (ry : RelV y u) (hy : RgtOf X.K H C y tb) : PySem.W.Looks (model X.prog X.w) s.heap (typeOf u) tb := by
  cases hy with
  | str z => obtain ⟨t, e⟩ := (show ∃ t, u = Value.str z t from ry); cases e; exact PySem.W.Looks.of_pure rfl
  | non => cases (show u = Value.none from ry); exact PySem.W.Looks.of_pure rfl
  | int i => obtain ⟨t, e⟩ := (show ∃ t, u = Value.int i t from ry); cases e; exact PySem.W.Looks.of_pure rfl
  | bl b => cases (show u = Value.bool b from ry); exact PySem.W.Looks.of_pure rfl
  | @ins b D dy gs e =>
    cases (show u = Value.ref b from ry)
    obtain ⟨mB, J', _⟩ := ins_get I.hok e
    obtain ⟨od', J', _⟩ := J'.look
    exact J'.type
  | @lst b xs e =>
    cases (show u = Value.ref b from ry)
    obtain ⟨_, _, n, _, h1⟩ := (show ObjOk X.prog X.w H s.heap b (.lst xs) from I.hok b _ e)
    exact (PySem.W.Looks.ld h1).andThen .now
  | @tup b xs e =>
    cases (show u = Value.ref b from ry)
    obtain ⟨_, _, _, o, h1, h2, _⟩ := (show ObjOk X.prog X.w H s.heap b (.tup xs) from I.hok b _ e)
    exact h2 ▸ (PySem.W.Looks.ld h1).andThen .now
  | @kTup b o e c =>
    cases (show u = Value.ref b from ry)
    exact c ▸ (PySem.W.Looks.ld (I.kIn _ _ e)).andThen .now
  | @fTup b ob xs e =>
    cases (show u = Value.ref b from ry)
    obtain ⟨_, _, _, _, o, h1, h2, _⟩ := (show ObjOk X.prog X.w H s.heap b (.frz ob (.tup xs)) from I.hok b _ e)
    exact h2 ▸ (PySem.W.Looks.ld h1).andThen .now
/-- x != y, x an instance of the class at C by its own == at f -/
def rNeOwn (K : PySem.W.Frag) (C : Addr) (sp : Sp) (E : XK) : R2 := fun x y H Q => ∃ a dx fs tb, x = .ref a ∧ H a = some (.ins C dx fs) ∧ RgtOf K H C y tb ∧ PySem.W.notFirst K C tb = true ∧ sp [.ref a, y] H (fun z H' => ∃ b, z = .bl b ∧ Q (.bl (!b)) H') E
theorem op_neOwn (hm : PySem.W.mroIn X.K C (.type "object") = some true) (h1 : PySem.W.findIn X.K (.ref C) "__ne__" = some (some (.builtin "object.__ne__"))) (hs : PySem.W.findIn X.K (.ref C) "__eq__" = some (some (.ref f))) (hf : PySem.W.isFn X.K (.ref f) = true) (F : FnOk X.prog X.w X.K X.mg X.base CX n f fd ps sp) (hb : Binds X.K fd ps []) (hr : Room (n + 1) X.A) (hx : Passes CX X E) :
    OpR X (compareOp .NotEq) (rNeOwn X.K C sp E) := by
  intro pins s σ H x y v u Q I rx ry h
  obtain ⟨a, dx, fs, tb, rfl, ha, hy, hn, q⟩ := h
  cases (show v = Value.ref a from rx)
  obtain ⟨mA, J, _⟩ := ins_get I.hok ha
  obtain ⟨od, J, _⟩ := J.look
  show wpAny (model X.prog X.w) X.A (richCompare .NotEq (.ref a) u) (EP X pins σ Q) X.xe s
  refine WkGQ.ne_K hr.units0 hr.in1.units0 I.kIn J (looks_rgt I ry hy) hn hm h1 hs hf ?_
  refine wpAny_mono (wpAny_call (run_ok (us := [.ref a, u]) (ws := [.ref a, y]) F hb hr.in1 I.env0.in1 hx I (.cons rfl (.cons ry .nil)) q)) (fun w s' z => ?_) fun _ _ x => x
  obtain ⟨z', H', I', rz, b, eb, qz⟩ := z
  subst eb
  cases (show w = Value.bool b from rz)
  exact ⟨b, rfl, .bl (!b), H', I', rfl, qz⟩
/-! ### items that are compared, with either answer -/
abbrev EqD := V → V → Hp → Bool → Prop
def EqItem (X : Cx) (n : Nat) (D : EqD) : Prop := ∀ (A : Around) (pins : List (Addr × Obj)) (s : Shared) (σ : St) (H : Hp) (x y : V) (u v : Value) (b : Bool), Sub X n A → Inv X pins σ H s → RelV x u → RelV y v → D x y H b →
    wpAny (model X.prog X.w) A (eqBool u v) (fun r s' => r = b ∧ ∃ H', Inv X pins σ H' s' ∧ Same H H') X.xe s
def DOwn (C : Addr) (sp : Sp) (E : XK) : EqD := fun x y H b => ∃ p q dx fs dy gs, x = .ref p ∧ y = .ref q ∧ H p = some (.ins C dx fs) ∧ H q = some (.ins C dy gs) ∧ (p = q → b = true) ∧ sp [.ref p, .ref q] H (fun z H' => z = .bl b ∧ Same H H') E
theorem notFirst_self {K : PySem.W.Frag} : PySem.W.notFirst K C (.ref C) = true := by
  unfold PySem.W.notFirst
  rw [beq_self_eq_true]
  rfl
theorem eqItem_own (hs : PySem.W.findIn X.K (.ref C) "__eq__" = some (some (.ref f))) (hf : PySem.W.isFn X.K (.ref f) = true) (F : FnOk X.prog X.w X.K X.mg X.base CX n f fd ps sp) (hb : Binds X.K fd ps []) (hx : Passes CX X E) : EqItem X n (DOwn C sp E) := by
  intro A pins s σ H x y u v b sb I rx ry d
  obtain ⟨p, q, dx, fs, dy, gs, rfl, rfl, hp, hq, hpq, hsp⟩ := d
  cases (show u = Value.ref p from rx)
  cases (show v = Value.ref q from ry)
  by_cases e : p = q
  · subst e
    rw [hpq rfl]
    exact SeqAt.EqAt.same (A := A) (s := s) (.ref p) X.prog X.w X.xe _ ⟨rfl, H, I, Same.refl _⟩
  · obtain ⟨mA, J, _⟩ := ins_get I.hok hp
    obtain ⟨mB, J', _⟩ := ins_get I.hok hq
    obtain ⟨od, J, _⟩ := J.look
    obtain ⟨od', J', _⟩ := J'.look
    obtain ⟨m, hF⟩ := I.fr
    have e0 : Env0 X.prog X.w X.K X.mg X.base A X.stack s H := by
      have e := I.env0
      exact ⟨by rw [sb.fr]; exact e.frames, e.mod, e.bs, e.bsz, e.funs, e.frf, e.hok, e.bare⟩
    refine GQ.eqBool_refG e (PySem.W.cmp_K (op := .Eq) (tb := .ref C) sb.room.units0 hF I.ok.mod.kin J J'.type notFirst_self hs hf ?_)
    refine wpAny_mono (wpAny_call (run_ok (us := [.ref p, .ref q]) (ws := [.ref p, .ref q]) F hb sb.room e0 hx I (.cons rfl (.cons rfl .nil)) hsp)) (fun w s' z => ?_) fun _ _ x => x
    obtain ⟨z', H', I', rz, ez, sz⟩ := z
    subst ez
    cases (show w = Value.bool b from rz)
    exact ⟨b, rfl, rfl, H', I', sz⟩
/-- what the loop over the items keeps -/
def LoopS (X : Cx) (pins : List (Addr × Obj)) (σ : St) (H : Hp) (e : Nat → Bool) (i : Nat) (s' : Shared) : Prop := (∀ j, j < i → e j = true) ∧ ∃ H', Inv X pins σ H' s' ∧ Same H H'
def LoopJ (X : Cx) (pins : List (Addr × Obj)) (σ : St) (H : Hp) (e : Nat → Bool) (m : Nat) (s' : Shared) : Prop := (∃ j, j < m ∧ e j = false) ∧ ∃ H', Inv X pins σ H' s' ∧ Same H H'
def PrsD (D : EqD) (e : Nat → Bool) (xs ys : List V) (H : Hp) : Prop := ∀ (i : Nat) x y, xs[i]? = some x → ys[i]? = some y → ∀ H', Same H H' → D x y H' (e i)
theorem turnS {D : EqD} (h : EqItem X n D) {A : Around} (sb : Sub X (n + 1) A) {pins : List (Addr × Obj)} {σ : St} {H : Hp} {e : Nat → Bool} {xs ys : List V} {its its2 : List Value} (p : PrsD D e xs ys H) (r : Vals xs its) (r2 : Vals ys its2)
    (i : Nat) (h1 : i < its.toArray.size) (h2 : i < its2.toArray.size) (s' : Shared) (l : LoopS X pins σ H e i s') :
    wpAny (model X.prog X.w) A.in1 (eqBool its.toArray[i] its2.toArray[i]) (fun r s2 => r = e i ∧ (e i = true → LoopS X pins σ H e (i + 1) s2) ∧ (e i = false → LoopJ X pins σ H e (min its.toArray.size its2.toArray.size) s2)) X.xe s' := by
  obtain ⟨l0, H1, I1, e1⟩ := l
  have g1 : its[i]? = some its.toArray[i] := by
    have h1' : i < its.length := by simpa using h1
    rw [List.getElem?_eq_getElem h1'] <;> simp
  have g2 : its2[i]? = some its2.toArray[i] := by
    have h2' : i < its2.length := by simpa using h2
    rw [List.getElem?_eq_getElem h2'] <;> simp
  have k1 : i < xs.length := by rw [r.length]; simpa using h1
  have k2 : i < ys.length := by rw [r2.length]; simpa using h2
  obtain ⟨u, hu, ru⟩ := r.get (List.getElem?_eq_getElem k1)
  obtain ⟨v, hv, rv⟩ := r2.get (List.getElem?_eq_getElem k2)
  rw [g1] at hu
  rw [g2] at hv
  rw [Option.some.inj hu, Option.some.inj hv]
  refine wpAny_mono (h A.in1 pins s' σ H1 _ _ u v _ sb.in1 I1 ru rv (p i _ _ (List.getElem?_eq_getElem k1) (List.getElem?_eq_getElem k2) _ e1)) (fun r s2 q => ?_) fun _ _ x => x
  obtain ⟨hr, H2, I2, e2⟩ := q
  refine ⟨hr, fun et => ⟨fun j hj => ?_, H2, I2, e1.trans e2⟩, fun ef => ⟨⟨i, by omega, ef⟩, H2, I2, e1.trans e2⟩⟩
  by_cases hji : j < i
  · exact l0 j hji
  · have : j = i := by omega
    rw [this]
    exact et
def allE (e : Nat → Bool) (m : Nat) : Bool := (List.range m).all e
theorem allE_true {e : Nat → Bool} {m : Nat} (h : ∀ j, j < m → e j = true) : allE e m = true := by
  unfold allE
  rw [List.all_eq_true]
  exact fun j hj => h j (List.mem_range.mp hj)
theorem allE_false {e : Nat → Bool} {m : Nat} (h : ∃ j, j < m ∧ e j = false) : allE e m = false := by
  obtain ⟨j, hj, he⟩ := h
  unfold allE
  rw [List.all_eq_false]
  exact ⟨j, List.mem_range.mpr hj, by rw [he]; decide⟩
def rTupEq (K : PySem.W.Frag) (D : EqD) (neg : Bool) : R2 := fun x y H Q => ∃ a b xs ys e, x = .ref a ∧ y = .ref b ∧ SqT K H a xs ∧ SqT K H b ys ∧ PrsD D e xs ys H ∧ ∀ H', Same H H' → Q (.bl (neg != (allE e (min xs.length ys.length) && xs.length == ys.length))) H'
theorem op_tupEq {D : EqD} (h : EqItem X n D) (hr : Room (n + 1) X.A) : OpR X (compareOp .Eq) (rTupEq X.K D false) := by
  intro pins s σ H x y v u Q I rx ry hq
  obtain ⟨a, b, xs, ys, e, rfl, rfl, ha, hb, hp, q⟩ := hq
  cases (show v = Value.ref a from rx)
  cases (show u = Value.ref b from ry)
  obtain ⟨its, r, e1, z⟩ := I.tuple ha
  obtain ⟨its2, r2, e2, z2⟩ := I.tuple hb
  have l1 : its.toArray.size = xs.length := by rw [List.size_toArray, ← r.length]
  have l2 : its2.toArray.size = ys.length := by rw [List.size_toArray, ← r2.length]
  show wpAny (model X.prog X.w) X.A (richCompare .Eq (.ref a) (.ref b)) (EP X pins σ Q) X.xe s
  refine WkGQ.rc_tup_eqS e hr.units0 (fun i s' => LoopS X pins σ H e i s') (fun s' => LoopJ X pins σ H e (min its.toArray.size its2.toArray.size) s') e1 e2 (fun i h1 h2 s' l => turnS h ⟨hr, rfl⟩ hp r r2 i h1 h2 s' l) (fun s' j => ?_) (fun s' j => ?_) ⟨fun _ h => absurd h (Nat.not_lt_zero _), H, I, Same.refl _⟩
  · obtain ⟨j0, H', I', s1⟩ := j
    rw [l1, l2] at j0
    have := q H' s1
    rw [allE_false j0] at this
    exact ⟨.bl false, H', I', rfl, this⟩
  · obtain ⟨j0, H', I', s1⟩ := j
    rw [l1, l2] at j0
    have := q H' s1
    rw [allE_true j0] at this
    rw [l1, l2]
    refine ⟨.bl (xs.length == ys.length), H', I', rfl, ?_⟩
    simpa using this
theorem op_tupNe {D : EqD} (h : EqItem X n D) (hr : Room (n + 1) X.A) : OpR X (compareOp .NotEq) (rTupEq X.K D true) := by
  intro pins s σ H x y v u Q I rx ry hq
  obtain ⟨a, b, xs, ys, e, rfl, rfl, ha, hb, hp, q⟩ := hq
  cases (show v = Value.ref a from rx)
  cases (show u = Value.ref b from ry)
  obtain ⟨its, r, e1, z⟩ := I.tuple ha
  obtain ⟨its2, r2, e2, z2⟩ := I.tuple hb
  have l1 : its.toArray.size = xs.length := by rw [List.size_toArray, ← r.length]
  have l2 : its2.toArray.size = ys.length := by rw [List.size_toArray, ← r2.length]
  show wpAny (model X.prog X.w) X.A (richCompare .NotEq (.ref a) (.ref b)) (EP X pins σ Q) X.xe s
  refine WkGQ.rc_tup_neS e hr.units0 (fun i s' => LoopS X pins σ H e i s') (fun s' => LoopJ X pins σ H e (min its.toArray.size its2.toArray.size) s') e1 e2 (fun i h1 h2 s' l => turnS h ⟨hr, rfl⟩ hp r r2 i h1 h2 s' l) (fun s' j => ?_) (fun s' j => ?_) ⟨fun _ h => absurd h (Nat.not_lt_zero _), H, I, Same.refl _⟩
  · obtain ⟨j0, H', I', s1⟩ := j
    rw [l1, l2] at j0
    have := q H' s1
    rw [allE_false j0] at this
    exact ⟨.bl true, H', I', rfl, this⟩
  · obtain ⟨j0, H', I', s1⟩ := j
    rw [l1, l2] at j0
    have := q H' s1
    rw [allE_true j0] at this
    rw [l1, l2]
    refine ⟨.bl (!(xs.length == ys.length)), H', I', rfl, ?_⟩
    simpa using this
end
end L2.Wk
namespace L2.Wk
open PySem PySem.Spec PyProof.Rows
section
variable {X : Cx}
/-- set(a list of texts), of any length below 4000: how many there are -/
def rSetB (K : PySem.W.Frag) (w : World) : List V → Hp → VK → Prop := fun vs H Q => ∃ (l : Addr) (xs : List Str), vs = [V.ref l] ∧ SqL K H l (xs.map V.str) ∧ xs.length ≤ 4000 ∧
  ∀ (p : Addr) (ks : List Str), ks.Nodup → (∀ k, k ∈ ks ↔ k ∈ xs) → H p = none → Q (.ref p) (upd H p (SetT w p (fun k => decide (k ∈ xs)) ks.length))
theorem cr_setB (hc : X.calm = true) : CallR X (.type "set") (rSetB X.K X.w) := by
  intro pins s σ H vs us Q I r h
  obtain ⟨l, xs, rfl, hs, h64, q⟩ := h
  obtain ⟨its, rv, hl, _⟩ := I.list hs
  rw [Vals.ref1 r]
  refine call_set_lstS xs (I.ok.hd hc) hl.isList (by simpa using strsAre_of rv) (by unfold scanBound; omega) fun h' tk c hS hn hk => ?_
  have ob : ObjOk X.prog X.w (upd H s.heap.objs.size (SetT X.w s.heap.objs.size (fun k => decide (k ∈ xs)) c)) h' s.heap.objs.size (SetT X.w s.heap.objs.size (fun k => decide (k ∈ xs)) c) := by
    obtain ⟨o, _, _, _, ho, _⟩ := id hS
    exact ⟨hS, ⟨o, ho⟩, fun h1 h2 p k => SetS.at p k⟩
  obtain ⟨o, es, ep, t, _, _, _, _, nd, hm, _, _, hsz, _⟩ := id hS
  have e : c = (es.toList.map keyS).length := by rw [List.length_map, Array.length_toList, hsz]
  have q2 := q s.heap.objs.size (es.toList.map keyS) nd (fun k => by rw [← hm k, decide_eq_true_eq]) (I.hok.fresh (Nat.le_refl _))
  rw [← e] at q2
  exact ⟨.ref _, _, I.laid (t' := tk) hk (Nat.le_refl _) ob, rfl, q2⟩
end
theorem few_len : ∀ {ks ds : List Str}, ks.Nodup → (∀ k, k ∈ ks → k ∈ ds) → ks.length ≤ ds.length
  | [], _, _, _ => Nat.zero_le _
  | k :: ks, ds, nd, h => by
    obtain ⟨n1, n2⟩ := List.nodup_cons.mp nd
    have hk := h k (List.mem_cons_self ..)
    have ih := few_len (ks := ks) (ds := ds.filter fun x => !decide (x = k)) n2 fun x hx => by
      rw [List.mem_filter]
      refine ⟨h x (List.mem_cons_of_mem _ hx), ?_⟩
      have : x ≠ k := fun e => n1 (e ▸ hx)
      simp [this]
    have lt : (ds.filter fun x => !decide (x = k)).length < ds.length := by
      rcases Nat.lt_or_ge (ds.filter fun x => !decide (x = k)).length ds.length with h' | h'
      · exact h'
      · have e := List.length_filter_eq_length_iff.mp (Nat.le_antisymm (List.length_filter_le _ _) h')
        have := e k hk
        simp at this
    rw [List.length_cons]
    omega
/-- ascending, each once, the same as in xs -/
structure Asc (ys xs : List Str) : Prop where
  up : sortedS ys = true
  nd : ys.Nodup
  mem : ∀ k, k ∈ ys ↔ k ∈ xs
theorem not_lt_le {a b : Str} (h : ltCps b.cps.toList a.cps.toList = false) : a.cps.toList ≤ b.cps.toList := by
  rw [ltCps_eq] at h
  exact List.not_lt.mp (of_decide_eq_false h)
theorem rising_le : ∀ {p : Str} {l : List Str}, risingS p l = true → ∀ x ∈ l, p.cps.toList ≤ x.cps.toList
  | _, [], _, _, h => by cases h
  | p, y :: r, h, x, hx => by
    unfold risingS at h
    obtain ⟨h1, h2⟩ := Bool.and_eq_true_iff.mp h
    have l1 : p.cps.toList ≤ y.cps.toList := not_lt_le (by simpa using h1)
    rcases List.mem_cons.mp hx with rfl | hx
    · exact l1
    · exact List.le_trans l1 (rising_le h2 x hx)
theorem rising_sorted : ∀ {p : Str} {l : List Str}, risingS p l = true → sortedS l = true
  | _, [], _ => rfl
  | p, y :: r, h => by
    unfold risingS at h
    exact (Bool.and_eq_true_iff.mp h).2
theorem str_le_antisymm {a b : Str} (h1 : a.cps.toList ≤ b.cps.toList) (h2 : b.cps.toList ≤ a.cps.toList) : a = b := TL.ext_tl (List.le_antisymm h1 h2)
theorem asc_eq : ∀ {ys zs : List Str}, sortedS ys = true → ys.Nodup → sortedS zs = true → zs.Nodup → (∀ k, k ∈ ys ↔ k ∈ zs) → ys = zs
  | [], [], _, _, _, _, _ => rfl
  | [], z :: zs, _, _, _, _, h => by
    have := (h z).mpr (List.mem_cons_self ..)
    cases this
  | y :: ys, [], _, _, _, _, h => by
    have := (h y).mp (List.mem_cons_self ..)
    cases this
  | y :: ys, z :: zs, h1, n1, h2, n2, h => by
    have r1 : risingS y ys = true := h1
    have r2 : risingS z zs = true := h2
    have e : y = z := by
      rcases List.mem_cons.mp ((h y).mp (List.mem_cons_self ..)) with e | hy
      · exact e
      · rcases List.mem_cons.mp ((h z).mpr (List.mem_cons_self ..)) with e | hz
        · exact e.symm
        · exact str_le_antisymm (rising_le r1 z hz) (rising_le r2 y hy)
    subst e
    obtain ⟨a1, a2⟩ := List.nodup_cons.mp n1
    obtain ⟨b1, b2⟩ := List.nodup_cons.mp n2
    rw [asc_eq (rising_sorted r1) a2 (rising_sorted r2) b2 fun k => ⟨fun hk => ?_, fun hk => ?_⟩]
    · rcases List.mem_cons.mp ((h k).mp (List.mem_cons_of_mem _ hk)) with e | hk'
      · exact absurd (e ▸ hk) a1
      · exact hk'
    · rcases List.mem_cons.mp ((h k).mpr (List.mem_cons_of_mem _ hk)) with e | hk'
      · exact absurd (e ▸ hk) b1
      · exact hk'
theorem Asc.eq {ys zs xs : List Str} (a : Asc ys xs) (b : Asc zs xs) : ys = zs := asc_eq a.up a.nd b.up b.nd fun k => (a.mem k).trans (b.mem k).symm
end L2.Wk
namespace PySem.W
open PySem PySem.Spec PySem.Calls PyProof.Rows
section
variable {prog : Program} {w : World} {A : Around} {E : Value → Shared → Prop} {s : Shared} {K : Frag} {x D : Addr} {ox : Obj}
theorem wk_classE {Q : Option Value → Shared → Prop} (hga : findIn K (.ref D) "__getattribute__" = some (some (.builtin "BaseException.__getattribute__"))) (hgt : findIn K (.ref D) "__getattr__" = some none) (hsub : subIn K (.ref D) (.type "BaseException") = some true)
    (hdct : hasDictIn K D = true) (ha : findIn K (.ref D) "__class__" = some (some (.builtin "object.__class__")))
    (hn : specialIn K (.builtin "object.__class__") "__get__" = some (some (.builtin "getset_descriptor.__get__"))) (htk : takesIn K (.builtin "object.__class__") = some true) (hm : mroIn K D (.type "object") = some true)
    (X : K.In s.heap) {od0 : Obj} (I : InstAt s.heap x ox D (some od0)) (h : Q (some (.ref D)) { s with toks := s.toks + 1 }) : wpAny (model prog w) A (getAttr? (.ref x) "__class__") Q E s := by
  have hf : findObj K D (some od0) "__class__" = some (.bind (.builtin "getset_descriptor.__get__") (.builtin "object.__class__")) := findObj_data (by obtain ⟨cd, hc, _⟩ := any_some hdct; show (clsIn K D).isSome = true; rw [hc]; rfl) ha hn htk
  obtain ⟨hp, g, d, t, os⟩ := s
  have L0 := I.type (M := model prog w)
  have L1 := looks_findIn (M := model prog w) X hga
  have L2 := looks_findIn (M := model prog w) X hgt
  have L3 := looks_find (M := model prog w) X I hf
  have sub : Looks (model prog w) hp (isInstance (.ref x) (.type "BaseException")) true := L0.andThen (looks_subIn X hsub)
  have hx0 : (false && onTheHeap (Value.builtin "BaseException.__getattribute__")) = false := rfl
  have hx2 : (Value.builtin "BaseException.__getattribute__" == Value.builtin "object.__getattribute__") = false := by decide +kernel
  have hx1 : (onTheHeap (Value.ref D) && Value.builtin "BaseException.__getattribute__" == Value.builtin "object.__getattribute__") = false := by rw [hx2]; rfl
  unfold getAttr? getAttrBy? getAttrBy
  refine wpAny_bind (wpAny_mkText (wpAny_bind (wpAny_attempt (wpAny_holding (wpAny_bind (L0.at (wpAny_bind (L1.at ?_))))))))
  show wpAny _ _ (if (onTheHeap (Value.ref D) && Value.builtin "BaseException.__getattribute__" == Value.builtin "object.__getattribute__") = true then _ else _) _ _ _
  rw [hx1, if_neg Bool.false_ne_true]
  unfold getAttrByItsOwn hookBefore
  refine wpAny_bind ?_
  rw [if_pos (show onTheHeap (Value.ref D) = true from rfl)]
  refine L2.at ?_
  refine wpAny_bind (wpAny_attempt (wpAny_holding ?_))
  unfold callGetattribute
  rw [hx0, if_neg Bool.false_ne_true]
  unfold boundAndCalled
  rw [PySem.F.excAttr_ValueError.ga.bind (.ref x)]
  refine wpAny_bind (wpAny_pure ?_)
  show wpAny _ _ (call (.builtin "BaseException.__getattribute__") [.ref x, .str "__class__" t]) _ _ _
  refine wpAny_call (codeAny_call_builtin PySem.F.excAttr_ValueError.ga.plain PySem.F.entry_bexc_ga ?_)
  refine @check_slot (model prog w) _ _ ⟨hp, g, d, t + 1, os⟩ "BaseException.__getattribute__" "BaseException" "__getattribute__" (.ref x) [.str "__class__" t] [] _ (by decide +kernel) (by decide +kernel) sub (PySem.F.args_bexc_ga (.ref x) (.str "__class__" t)) ?_
  unfold Builtin.«object.__getattribute__»
  refine wpAny_bind (wpAny_of_eq (a := ((Value.ref x : Value), [Value.str "__class__" t])) (by first | rfl | (simp only [slotArgs]; rfl)) ?_)
  refine wpAny_bind (wpAny_pure (wpAny_bind (L0.at (wpAny_bind (L3.at ?_)))))
  show wpAny _ _ (holding [Value.builtin "object.__class__"] (call (.builtin "getset_descriptor.__get__") [.builtin "object.__class__", .ref x, .ref D]) >>= ret) _ _ _
  refine wpAny_bind (wpAny_holding (wpAny_call (class_get (s := ⟨hp, g, d, t + 1, os⟩) (ox := ox) (od := some od0) X I hm ?_)))
  refine wpAny_pure ?_
  show wpAny _ _ (handedOut (.ref D)) _ _ _
  rw [handedOut_of (v := .ref D) rfl]
  first
    | exact wpAny_pure (wpAny_pure h)
    | exact wpAny_pure h
    | exact wpAny_pure (wpAny_bind (wpAny_pure (wpAny_pure h)))
theorem wk_kitx_exc (hga : findIn K (.ref D) "__getattribute__" = some (some (.builtin "BaseException.__getattribute__"))) (hgt : findIn K (.ref D) "__getattr__" = some none) (hsub : subIn K (.ref D) (.type "BaseException") = some true) (hdct : hasDictIn K D = true) (ha : findIn K (.ref D) "__class__" = some (some (.builtin "object.__class__")))
    (hn : specialIn K (.builtin "object.__class__") "__get__" = some (some (.builtin "getset_descriptor.__get__"))) (htk : takesIn K (.builtin "object.__class__") = some true) (hm : mroIn K D (.type "object") = some true) :
    KitX K (.ref x) (.ref D) (fun h => ∃ od0, InstAt h x ox D (some od0)) where
  ty := fun _ _ _ ⟨_, I⟩ => I.type
  it := fun _ _ X _ => by
    obtain ⟨cdD, hcD, _⟩ := any_some hdct
    unfold clsIn at hcD
    split at hcD
    · rename_i c' d' cd' sl' ho
      intro A' Q' E' s' k q
      unfold isType loadHead
      exact wpAny_bind (wpAny_loadPart (k _ _ (X _ _ ho)) (wpAny_pure q))
    · cases hcD
  ne := fun h tp dd its n sl X htp => by
    obtain ⟨cdD, hcD, _⟩ := any_some hdct
    refine Bool.eq_false_iff.mpr fun q => ?_
    have e : D = tp := Value.ref.inj (beq_iff_eq.mp q)
    subst e
    unfold clsIn at hcD
    split at hcD
    · rename_i c' d' cd' sl' ho
      have z := (X _ _ ho).symm.trans htp
      cases z
    · cases hcD
  ca := fun X ⟨_, I⟩ k => wk_classE hga hgt hsub hdct ha hn htk hm X I k
end
end PySem.W
namespace L2.Wk
open PySem PySem.Spec PyProof.Rows
/-- isinstance(e, c), e the caught error of an own class with a dict of one entry -/
def rIsX (K : PySem.W.Frag) (D a : Addr) (d : Option Addr) : List V → Hp → VK → Prop := fun xs H Q => ∃ (c : V) (cv : Value) (b : Bool) (dd : Addr) (fs : List (Str × V)), xs = [.ref a, c] ∧ ClsV c cv ∧ d = some dd ∧ H dd = some (.xd fs) ∧ PySem.W.kitOne K (.ref D) cv = some b ∧ Q (.bl b) H
theorem call_isX {X : Cx} {a D : Addr} {oe : Obj} {d : Option Addr} {cls : Value} {pn : List (Addr × Obj)} (C : ExcC X.K D) (hz : Zc cls d oe) (hf : ∃ vs, oe.data = .fields vs) : CallR (X.suite a ((a, oe) :: pn)) (.builtin "isinstance") (fun xs H Q => cls = .ref D ∧ rIsX X.K D a d xs H Q) := by
  intro pins s σ H xs us Q I r h
  obtain ⟨ecl, c, cv, b, dd, fs, rfl, hcv, ed, ea, e, q⟩ := h
  subst ecl
  cases r with
  | cons rx rr =>
    cases rr with
    | cons rt rr =>
      cases rr
      cases rx
      have ec := hcv.eq rt
      subst ec
      subst ed
      obtain ⟨hget, _⟩ := I.pin (a, oe) (List.mem_append.mpr (.inl List.mem_cons_self))
      obtain ⟨vs, hv⟩ := hf
      have hx : ObjOk X.prog X.w H s.heap dd (.xd fs) := I.hok dd _ ea
      obtain ⟨mA, hns, hr⟩ := hx
      obtain ⟨od, ho, hl⟩ := lookIn_ns hns
      have J : PySem.W.InstAt s.heap a oe D (some od) := ⟨hget, hz.1, by unfold PySem.W.notCls; rw [hv] <;> rfl, by rw [hz.2]; exact ho⟩
      exact PySem.W.kia_one (PySem.W.wk_kitx_exc C.hg C.hk C.hs C.hd C.ha C.hn C.ht C.hm) I.kIn ⟨od, J⟩ e (fun z => nomatch z) fun tk => ⟨.bl b, H, I.kept (t' := tk) fun _ _ z => z, rfl, q⟩
/-- a promise by two -/
theorem fn_or {P : Program} {w : World} {K : PySem.W.Frag} {mg : Str → Option Value} {base : Heap} {CX : CXT} {k : Nat} {f : Addr} {fd : FuncData} {ps : List Str} {sp sp' : Sp} (F : FnOk P w K mg base CX k f fd ps sp) (G : FnOk P w K mg base CX k f fd ps sp') :
    FnOk P w K mg base CX k f fd ps (fun vs H Q E => sp vs H Q E ∨ sp' vs H Q E) :=
  ⟨fun vs H Q E h => h.elim (F.len vs H Q E) (G.len vs H Q E), fun A outer s H args us vs Q E hr he hb hv h => h.elim (F.run A outer s H args us vs Q E hr he hb hv) (G.run A outer s H args us vs Q E hr he hb hv)⟩
/-- a statement that is never come to -/
theorem ps_never {X : Cx} {s : Stmt} : PS X s (fun _ _ _ => False) := ⟨fun _ _ _ _ _ _ h => h.elim⟩
end L2.Wk
namespace L2.Wk
open PySem PySem.Spec PyProof.Rows
/-! ### enumerate(xs, start=c) -/
/-- the list at a, which holds xs throughout; each item in a new pair, counted from c -/
def Itk (K : PySem.W.Frag) (a : Addr) (c : Int) (xs : List V) : It :=
  ⟨fun i H => SqL K H a xs ∧ i < xs.length, fun i H v H' => ∃ T x, v = .ref T ∧ H T = none ∧ H' = upd H T (.tup [.int (c + (i : Nat)), x]) ∧ xs[i]? = some x, fun i H => SqL K H a xs ∧ i = xs.length⟩
theorem turn_enumC {P : Program} {w : World} {K : PySem.W.Frag} {elts : List Expr} {kk : Nat} {tpos : Pos} (a e it : Addr) (c : Int) (xs : List V) :
    Turn P w K (.Tuple elts kk tpos) (Itk K a c xs) [e, it] e (fun i h => (∃ old, IsEnum h e it (c + ((i : Nat) : Int)) old) ∧ h.IsListIter it a i ∧ e ≠ it ∧ a ≠ it ∧ a ≠ e) where
  mem := by simp
  obj := fun i h st b hb => by
    obtain ⟨⟨old, he⟩, ⟨o, ho, hc, hd⟩, _⟩ := st
    have e' : b = e ∨ b = it := by simpa using hb
    rcases e' with z | z
    · rw [z]; exact ⟨_, he, fun v q => nomatch q⟩
    · rw [z]; exact ⟨o, ho, fun v q => by rw [hd] at q; cases q⟩
  keep := fun i h h' st k => let ⟨⟨old, he⟩, hi, hne⟩ := st; ⟨⟨old, k e (by simp) _ he⟩, hi.at fun o q => k it (by simp) o q, hne⟩
  item := by
    intro X hP hw hK hc i pins s σ H E I hf st hg
    subst hP hw hK
    obtain ⟨⟨old, he⟩, hit, hne, hai, hae⟩ := st
    obtain ⟨hq, hi⟩ := hg
    obtain ⟨its, rv, p, hz⟩ := I.list hq
    have hl := rv.length
    have hel : e < s.heap.objs.size := Heap.lt_size he
    have hil : it < s.heap.objs.size := by obtain ⟨_, q, _⟩ := hit; exact Heap.lt_size q
    have hh : X.A.handled = none := I.ok.hd hc
    refine wpAny_pyNext_enum_itemC (Draws.list (A := X.A.in1) hh it a hai its.toArray) he ⟨hit, p.isList⟩ (by simp; omega) hne (by simp [hne, Ne.symm hae]) fun u h' tk hu ho hst hT hsz hk => ?_
    obtain ⟨x, hx, ru⟩ : ∃ x, xs[i]? = some x ∧ RelV x u := by
      obtain ⟨u', hu', ru⟩ := rv.get (i := i) (x := xs[i]) (List.getElem?_eq_getElem hi)
      have hu2 : its[i]? = some u := by simpa using hu
      rw [hu2] at hu'
      cases hu'
      exact ⟨_, List.getElem?_eq_getElem hi, ru⟩
    obtain ⟨hit', _⟩ := hst
    refine ⟨_, rfl, wpAny_letOwnedTupleGo_enum (s := { s with heap := h', toks := tk + 1 }) ho fun h'' he' sb => ?_⟩
    have hT2 : h''.get? s.heap.objs.size = some { cls := .type "tuple", data := .seq #[.int (c + (i : Int)) tk, u] } := (sb.2 _ (Nat.ne_of_gt hel)).trans hT
    have new : ObjOk X.prog X.w (upd H s.heap.objs.size (.tup [.int (c + (i : Nat)), x])) h'' s.heap.objs.size (.tup [.int (c + (i : Nat)), x]) :=
      ⟨by show 2 ≤ sizeLine; decide, [.int (c + (i : Int)) tk, u], .cons ⟨_, rfl⟩ (.cons ru .nil), ⟨_, hT2, rfl, _, rfl⟩⟩
    have I1 : Inv X pins σ (upd H s.heap.objs.size (.tup [.int (c + (i : Nat)), x])) { s with heap := h'', toks := tk + 1 } :=
      I.turnedNew (ch := [e, it]) (fun b ob hb q => (sb.2 b (fun z => hb (by simp [z]))).trans (hk b ob (fun z => hb (by simp [z])) (fun z => hb (by simp [z])) q)) hf (Nat.le_refl _) new
    refine ⟨.ref s.heap.objs.size, _, I1, rfl, ⟨_, x, rfl, I.hok.fresh (Nat.le_refl _), rfl, hx⟩, ⟨⟨u, ?_⟩, hit'.at fun o q => (sb.2 it (Ne.symm hne)).trans q, hne, hai, hae⟩, fun b hb => ?_⟩
    · have e1 : c + ((i + 1 : Nat) : Int) = c + (i : Int) + 1 := by omega
      rw [e1]; exact he'
    · have hb' : b < s.heap.objs.size := by
        have e' : b = e ∨ b = it := by simpa using hb
        rcases e' with z | z
        · rw [z]; exact hel
        · rw [z]; exact hil
      rw [upd_ne (Nat.ne_of_lt hb')]
      exact (hf b hb).1
  done := by
    intro X hP hw hK hc i pins s σ H E I hf st hg
    subst hP hw hK
    obtain ⟨⟨old, he⟩, hit, hne, hai, hae⟩ := st
    obtain ⟨hq, hx⟩ := hg
    obtain ⟨its, rv, p, hz⟩ := I.list hq
    obtain ⟨f0, f1, f2, f3, f4, f5⟩ := hf it (by simp)
    have hl := rv.length
    have hh : X.A.handled = none := I.ok.hd hc
    have hi : i = its.toArray.size := by simp; omega
    exact wpAny_pyNext_enum_endD (Draws.list (A := X.A.in1) hh it a hai its.toArray) he ⟨by rw [← hi]; exact hit, p.isList⟩ fun h' eb => ⟨rfl, I.turned (t' := s.toks) (fun b o hb q => eb b o hb q) f0 f1 f3 f4 f5⟩
  self := fun A i s Q E st h => let ⟨⟨_, he⟩, _⟩ := st; wpAny_pyIter_enum he h
theorem evalArgs_typeKw {M : Model} {A : Around} {E : Value → Shared → Prop} {s : Shared} {pos : Pos} {T : String} {args : List (Bool × Sem Value)} {keywords : List (Option Str × Sem Value)} {Q : Value → Shared → Prop}
    (hplain : args.any (·.1) = false) (hkw : keywords.any (·.1.isNone) = false)
    (h : wpAny M A (evalArgs (.type T) true args keywords) (fun a s₁ => wpAny M A (call (.type T) ([] ++ a.pos) a.kw) Q E s₁) E s) :
    wpAny M A (callWith pos (.type T) [] args keywords) Q E s := by
  unfold callWith
  refine wpAny_bind (wpAny_holding (wpAny_mono h (fun a s₁ h₁ => wpAny_bind (wpAny_standAt ?_)) fun _ _ x => x))
  simp only [hplain, hkw, Bool.or_false]
  refine wpAny_bind (wpAny_pure ?_)
  exact wpAny_bind (wpAny_mono h₁ (fun r s₂ hr => wpAny_bind (wpAny_holding (wpAny_point (wpAny_pure hr)))) fun _ _ x => x)
def iEnumK (K : PySem.W.Frag) (ta : TA) (te : TE) : TI := fun σ H R => ta σ H fun vs H1 => te σ H1 fun y H2 => ∃ a xs c, vs = [.ref a] ∧ y = .int c ∧ -(2 ^ 62) ≤ c ∧ c < 2 ^ 62 ∧ SqL K H2 a xs ∧ R (Itk K a c xs) H2
theorem pi_enumK {X : Cx} {e ek : Expr} {ta : TA} {te : TE} {p pos tpos kp : Pos} {elts : List Expr} {kk : Nat} (hg : Gl X "enumerate") (hm : X.mg "enumerate" = none) (ha : PA X [e] ta) (hk : PE X ek te) (hs : starEach [e] X.env = [(false, eval e X.env)] := by rfl) :
    PI X (.Tuple elts kk tpos) (.Call (.Name "enumerate" p) [e] [⟨some "start", ek, kp⟩] pos) (iEnumK X.K ta te) := by
  refine ⟨fun pins s σ H R I h => ?_⟩
  refine wpAny_Call_Name_kw (ld_blt I hg hm boot_enumerate (evalArgs_typeKw (by rw [hs]; rfl) (by rfl) ?_))
  have h0 := ha.run pos pins s σ H _ I h
  rw [hs] at h0 ⊢
  refine evalArgs_kwB (rest := []) (by rfl) (wpAny_mono h0 (fun us s1 hu => ?_) fun _ _ z => z)
  obtain ⟨vs, H1, I1, r1, q1⟩ := hu
  refine kws_cons (wpAny_mono (hk.run pins s1 σ H1 _ I1 q1) (fun u s2 hu2 => kws_nil ?_) fun _ _ z => z)
  obtain ⟨y, H2, I2, r2, a, xs, c, rfl, rfl, c0, c1, hq, q⟩ := hu2
  cases r1 with
  | cons r rr =>
    cases rr
    cases r
    obtain ⟨t, rfl⟩ := r2
    obtain ⟨its, rv, p', hz⟩ := I2.list hq
    have hal : a < s2.heap.objs.size := by obtain ⟨_, q, _⟩ := p'.isList; exact Heap.lt_size q
    refine enum_begins_start (begins_list a its.toArray) p'.isList (by omega) (by omega) fun h' he hit hsz hk => wpAny_pyIter_enum he ?_
    have I3 : Inv X pins σ H2 { s2 with heap := h' } := I2.kept (t' := s2.toks) hk
    refine ⟨s2.heap.objs.size + 1, [s2.heap.objs.size + 1, s2.heap.objs.size], _, _, H2, rfl, I3, turn_enumC a (s2.heap.objs.size + 1) s2.heap.objs.size c xs, ⟨⟨.none, by simpa using he⟩, ⟨_, hit, rfl, rfl⟩, Nat.succ_ne_self _, Nat.ne_of_lt hal, Nat.ne_of_lt (Nat.lt_succ_of_lt hal)⟩, fun b hb => ?_, q⟩
    have e' : b = s2.heap.objs.size + 1 ∨ b = s2.heap.objs.size := by simpa using hb
    have hle : s2.heap.objs.size ≤ b := by
      rcases e' with z | z
      · rw [z]; exact Nat.le_add_right _ _
      · rw [z]; exact Nat.le_refl _
    exact I2.fpOk hle (I2.hok.fresh hle)
theorem for_enumK {K : PySem.W.Frag} {a : Addr} {c : Int} {xs : List V} {g : TG} {tb : TS} {D : Ends} {σ : L2.St} {H : Hp} (Pv : Nat → L2.St → Hp → Prop) (h0 : Pv 0 σ H) (hl : ∀ i σ H, i ≤ xs.length → Pv i σ H → SqL K H a xs)
    (hs : ∀ i x σ H T, xs[i]? = some x → Pv i σ H → H T = none → g (.ref T) σ (upd H T (.tup [.int (c + (i : Nat)), x])) fun σ2 H2 => tb { D with nx := Pv (i + 1), ct := Pv (i + 1), bk := D.nx } σ2 H2) (hd : ∀ σ H, Pv xs.length σ H → D.nx σ H) :
    ∃ W : Nat → Nat → L2.St → Hp → Prop, (∃ m, W 0 m σ H) ∧ ∀ i m σ H, W i m σ H →
      ((Itk K a c xs).stop i H ∧ D.nx σ H) ∨ ((Itk K a c xs).go i H ∧ ∃ N : L2.St → Hp → Prop, (∀ σ' H', N σ' H' → ∃ m', m' < m ∧ W (i + 1) m' σ' H') ∧ ∀ x H', (Itk K a c xs).yld i H x H' → g x σ H' fun σ2 H2 => tb { D with nx := N, ct := N, bk := D.nx } σ2 H2) := by
  refine ⟨fun i m σ H => m = xs.length - i ∧ i ≤ xs.length ∧ Pv i σ H, ⟨xs.length, by simp, Nat.zero_le _, h0⟩, ?_⟩
  rintro i m σ H ⟨rfl, hi, p⟩
  by_cases hlt : i < xs.length
  · refine .inr ⟨⟨hl i σ H hi p, hlt⟩, Pv (i + 1), fun σ' H' p' => ⟨xs.length - (i + 1), by omega, rfl, hlt, p'⟩, fun x H' y => ?_⟩
    obtain ⟨T, x, rfl, hT, rfl, hx⟩ := y
    exact hs i x σ H T hx p hT
  · have e : i = xs.length := by omega
    exact .inl ⟨⟨hl i σ H hi p, e⟩, hd _ _ (e ▸ p)⟩
/-! ### zip(tuple, list) -/
def Itm (K : PySem.W.Frag) (a b : Addr) (xs ys : List V) : It :=
  ⟨fun i H => SqT K H a xs ∧ SqL K H b ys ∧ i < xs.length ∧ i < ys.length, fun i H v H' => ∃ T x y, v = .ref T ∧ H T = none ∧ H' = upd H T (.tup [x, y]) ∧ xs[i]? = some x ∧ ys[i]? = some y,
    fun i H => SqT K H a xs ∧ SqL K H b ys ∧ i ≤ xs.length ∧ i ≤ ys.length ∧ (i = xs.length ∨ i = ys.length)⟩
theorem val_at {xs : List V} {its : List Value} {i : Nat} {u : Value} (rv : Vals xs its) (h : its.toArray[i]? = some u) : ∃ x, xs[i]? = some x ∧ RelV x u := by
  have hu : its[i]? = some u := by simpa using h
  have hl := rv.length
  have hi : i < xs.length := by
    have := (List.getElem?_eq_some_iff.mp hu).1
    omega
  obtain ⟨u', hu', ru⟩ := rv.get (i := i) (x := xs[i]) (List.getElem?_eq_getElem hi)
  rw [hu] at hu'
  cases hu'
  exact ⟨_, List.getElem?_eq_getElem hi, ru⟩
theorem turn_zipM {P : Program} {w : World} {K : PySem.W.Frag} {elts : List Expr} {kk : Nat} {tpos : Pos} {a b z TI TO i1 i2 : Addr} (xs ys : List V) (S : ZipSep2 z TI TO i1 i2 [i1, a] [i2, b]) (ha : a ≠ i1) (hb : b ≠ i2) :
    Turn P w K (.Tuple elts kk tpos) (Itm K a b xs ys) [z, TI, TO, i1, i2] z (fun i h => IsZip h z TI TO .none ∧ IsTupOf2 h TI (.ref i1) (.ref i2) ∧ (∃ x y, IsTupOf2 h TO x y) ∧ h.IsTupleIter i1 a i ∧ h.IsListIter i2 b i) where
  mem := by simp
  obj := fun i h st c hc => by
    obtain ⟨hz, hTI, ⟨x, y, hTO⟩, ⟨o1, e1, _, d1⟩, ⟨o2, e2, _, d2⟩⟩ := st
    have e' : c = z ∨ c = TI ∨ c = TO ∨ c = i1 ∨ c = i2 := by simpa using hc
    rcases e' with q | q | q | q | q
    · rw [q]; exact ⟨_, hz, fun v q => nomatch q⟩
    · rw [q]; exact ⟨_, hTI, fun v q => nomatch q⟩
    · rw [q]; exact ⟨_, hTO, fun v q => nomatch q⟩
    · rw [q]; exact ⟨o1, e1, fun v q => by rw [d1] at q; cases q⟩
    · rw [q]; exact ⟨o2, e2, fun v q => by rw [d2] at q; cases q⟩
  keep := fun i h h' st k => by
    obtain ⟨hz, hTI, ⟨x, y, hTO⟩, h1, h2⟩ := st
    exact ⟨k z (by simp) _ hz, k TI (by simp) _ hTI, ⟨x, y, k TO (by simp) _ hTO⟩, h1.at fun o q => k i1 (by simp) o q, h2.at fun o q => k i2 (by simp) o q⟩
  item := by
    intro X hP hw hK hc i pins s σ H E I hf st hg
    subst hP hw hK
    obtain ⟨hz, hTI, ⟨x0, y0, hTO⟩, h1, h2⟩ := st
    obtain ⟨hqx, hqy, hx, hy⟩ := hg
    obtain ⟨its, rv, p, _⟩ := I.tuple hqx
    obtain ⟨its2, rv2, p2, _⟩ := I.list hqy
    have l1 := rv.length
    have l2 := rv2.length
    have hh : X.A.handled = none := I.ok.hd hc
    have hzl : z < s.heap.objs.size := Heap.lt_size hz
    refine wpAny_pyNext_zipD2_item S (Draws.tuple (A := X.A.in1) hh i1 a ha its.toArray) (Draws.list (A := X.A.in1) hh i2 b hb its2.toArray) hz hTI hTO ⟨h1, p⟩ ⟨h2, p2.isList⟩ (by simp; omega) (by simp; omega) fun u u2 h' tk hu hu2 z' TO' st1 st2 hT hsz hk => ?_
    obtain ⟨x, hx, ru⟩ := val_at rv hu
    obtain ⟨y, hy, ru2⟩ := val_at rv2 hu2
    refine ⟨_, rfl, wpAny_letOwnedTupleGo_zip (s := { s with heap := h', toks := tk }) z' fun h'' z'' sb => ?_⟩
    have hT2 : h''.get? s.heap.objs.size = some { cls := .type "tuple", data := .seq #[u, u2] } := (sb.2 _ (Nat.ne_of_gt hzl)).trans hT
    have new : ObjOk X.prog X.w (upd H s.heap.objs.size (.tup [x, y])) h'' s.heap.objs.size (.tup [x, y]) :=
      ⟨by show 2 ≤ sizeLine; decide, [u, u2], .cons ru (.cons ru2 .nil), ⟨_, hT2, rfl, _, rfl⟩⟩
    have I1 : Inv X pins σ (upd H s.heap.objs.size (.tup [x, y])) { s with heap := h'', toks := tk } :=
      I.turnedNew (ch := [z, TI, TO, i1, i2]) (fun c o hb q => (sb.2 c (fun q' => hb (by simp [q']))).trans (hk c o (fun q' => hb (by simp [q'])) (fun q' => hb (by simp [q'])) (fun q' => hb (by simp [q'])) (fun q' => hb (by simp [q'])) q)) hf (Nat.le_refl _) new
    refine ⟨.ref s.heap.objs.size, _, I1, rfl, ⟨_, x, y, rfl, I.hok.fresh (Nat.le_refl _), rfl, hx, hy⟩, ⟨z'', ?_, ⟨u, u2, ?_⟩, ?_, ?_⟩, fun c hcm => ?_⟩
    · exact (sb.2 _ S.TIz).trans (hk _ _ S.TIz S.TITO S.TIi1 S.TIi2 hTI)
    · exact (sb.2 _ S.TOz).trans TO'
    · exact st1.1.at fun o q => (sb.2 _ (Ne.symm S.zi1)).trans q
    · exact st2.1.at fun o q => (sb.2 _ (Ne.symm S.zi2)).trans q
    · have hlt : c < s.heap.objs.size := by
        have e' : c = z ∨ c = TI ∨ c = TO ∨ c = i1 ∨ c = i2 := by simpa using hcm
        rcases e' with q | q | q | q | q
        · rw [q]; exact hzl
        · rw [q]; exact Heap.lt_size hTI
        · rw [q]; exact Heap.lt_size hTO
        · rw [q]; obtain ⟨_, e1, _⟩ := h1; exact Heap.lt_size e1
        · rw [q]; obtain ⟨_, e2, _⟩ := h2; exact Heap.lt_size e2
      rw [upd_ne (Nat.ne_of_lt hlt)]
      exact (hf c hcm).1
  done := by
    intro X hP hw hK hc i pins s σ H E I hf st hg
    subst hP hw hK
    obtain ⟨hz, hTI, ⟨x0, y0, hTO⟩, h1, h2⟩ := st
    obtain ⟨hqx, hqy, hx, hy, hend⟩ := hg
    obtain ⟨its, rv, p, _⟩ := I.tuple hqx
    obtain ⟨its2, rv2, p2, _⟩ := I.list hqy
    have l1 := rv.length
    have l2 := rv2.length
    have hh : X.A.handled = none := I.ok.hd hc
    exact wpAny_pyNext_zipD2_end S (Draws.tuple (A := X.A.in1) hh i1 a ha its.toArray) (Draws.list (A := X.A.in1) hh i2 b hb its2.toArray) hz hTI hTO ⟨h1, p⟩ ⟨h2, p2.isList⟩ (by simp; omega) (by simp; omega) (by simp; omega) fun h' tk hk => ⟨rfl, I.turnedL (t' := tk) (ch := [z, TI, TO, i1, i2]) (fun c o hb q =>
      hk c o (fun q' => hb (by simp [q'])) (fun q' => hb (by simp [q'])) (fun q' => hb (by simp [q'])) (fun q' => hb (by simp [q'])) q) hf⟩
  self := fun A i s Q E st h => wpAny_pyIter_zip st.1 h
def iZipM (K : PySem.W.Frag) (ta : TA) : TI := fun σ H R => ta σ H fun vs H1 => ∃ a b xs ys, vs = [.ref a, .ref b] ∧ SqT K H1 a xs ∧ SqL K H1 b ys ∧ R (Itm K a b xs ys) H1
theorem pi_zipM {X : Cx} {e e2 : Expr} {ta : TA} {p pos tpos : Pos} {elts : List Expr} {kk : Nat} (hg : Gl X "zip") (hm : X.mg "zip" = none) (ha : PA X [e, e2] ta)
    (hs : starEach [e, e2] X.env = (false, eval e X.env) :: starEach [e2] X.env := by rfl) (hpl : (backTo pos (starEach [e2] X.env)).any (·.1) = false := by rfl) :
    PI X (.Tuple elts kk tpos) (.Call (.Name "zip" p) [e, e2] [] pos) (iZipM X.K ta) := by
  refine ⟨fun pins s σ H R I h => ?_⟩
  refine Call_ (ld_blt I hg hm PyProof.Rows.boot_zip (PyProof.Rows.callWith_type1 (thn (ha.run pos pins s σ H _ I h) fun us s1 ⟨vs, H1, I1, r1, q1⟩ => ?_) hs hpl))
  obtain ⟨a, b, xs, ys, ex, hqx, hqy, q⟩ := q1
  subst ex
  cases r1 with
  | cons r rr =>
    cases rr with
    | cons r' rr =>
      cases rr
      cases r
      cases r'
      have fresh5 : ∀ c, c ∈ [s1.heap.objs.size + 4, s1.heap.objs.size + 2, s1.heap.objs.size + 3, s1.heap.objs.size, s1.heap.objs.size + 1] → FpOk X pins H1 c := fun c hcm => by
        have e' : c = s1.heap.objs.size + 4 ∨ c = s1.heap.objs.size + 2 ∨ c = s1.heap.objs.size + 3 ∨ c = s1.heap.objs.size ∨ c = s1.heap.objs.size + 1 := by simpa using hcm
        have hle : s1.heap.objs.size ≤ c := by
          rcases e' with z | z | z | z | z
          · rw [z]; exact Nat.le_add_right _ _
          · rw [z]; exact Nat.le_add_right _ _
          · rw [z]; exact Nat.le_add_right _ _
          · rw [z]; exact Nat.le_refl _
          · rw [z]; exact Nat.le_add_right _ _
        exact I1.fpOk hle (I1.hok.fresh hle)
      obtain ⟨its, rv, p1, _⟩ := I1.tuple hqx
      obtain ⟨its2, rv2, p2, _⟩ := I1.list hqy
      have al : a < s1.heap.objs.size := by obtain ⟨_, q, _⟩ := id p1; exact Heap.lt_size q
      have bl : b < s1.heap.objs.size := by obtain ⟨_, q, _⟩ := p2.isList; exact Heap.lt_size q
      refine zip_begins2 (begins_tuple a its.toArray) (begins_list b its2.toArray) p1 p2.isList fun h' hz hTI hTO h1 h2 hsz hk => wpAny_pyIter_zip hz ?_
      have I2 : Inv X pins σ H1 { s1 with heap := h' } := I1.kept (t' := s1.toks) hk
      have n1 : ∀ k, s1.heap.objs.size + k ≠ a := fun k => by
        intro e
        have : s1.heap.objs.size ≤ a := by rw [← e]; exact Nat.le_add_right _ _
        exact Nat.lt_irrefl _ (Nat.lt_of_lt_of_le al this)
      have n2 : ∀ k, s1.heap.objs.size + k ≠ b := fun k => by
        intro e
        have : s1.heap.objs.size ≤ b := by rw [← e]; exact Nat.le_add_right _ _
        exact Nat.lt_irrefl _ (Nat.lt_of_lt_of_le bl this)
      have nn : ∀ j k : Nat, j ≠ k → s1.heap.objs.size + j ≠ s1.heap.objs.size + k := fun j k h e => h (Nat.add_left_cancel e)
      exact ⟨s1.heap.objs.size + 4, [s1.heap.objs.size + 4, s1.heap.objs.size + 2, s1.heap.objs.size + 3, s1.heap.objs.size, s1.heap.objs.size + 1], _, _, H1, rfl, I2,
        turn_zipM xs ys ⟨nn 2 4 (by decide), nn 3 4 (by decide), nn 2 3 (by decide), nn 2 0 (by decide), by simp, by simp [n1 4, nn 4 0 (by decide)], by simp [n1 3, nn 3 0 (by decide)], nn 2 1 (by decide), by simp, by simp [n2 4, nn 4 1 (by decide)], by simp [n2 3, nn 3 1 (by decide)], by simp [Nat.ne_of_gt bl], by simp [n1 1, nn 1 0 (by decide)]⟩ (Ne.symm (n1 0)) (Ne.symm (n2 1)),
        ⟨hz, hTI, ⟨_, _, hTO⟩, ⟨_, h1, rfl, rfl⟩, ⟨_, h2, rfl, rfl⟩⟩, fresh5, q⟩
theorem for_zipM {K : PySem.W.Frag} {a b : Addr} {xs ys : List V} {g : TG} {tb : TS} {D : Ends} {σ : L2.St} {H : Hp} (hlen : xs.length = ys.length) (Pv : Nat → L2.St → Hp → Prop) (h0 : Pv 0 σ H) (hl : ∀ i σ H, i ≤ xs.length → Pv i σ H → SqT K H a xs ∧ SqL K H b ys)
    (hs : ∀ i x y σ H T, xs[i]? = some x → ys[i]? = some y → Pv i σ H → H T = none → g (.ref T) σ (upd H T (.tup [x, y])) fun σ2 H2 => tb { D with nx := Pv (i + 1), ct := Pv (i + 1), bk := D.nx } σ2 H2) (hd : ∀ σ H, Pv xs.length σ H → D.nx σ H) :
    ∃ W : Nat → Nat → L2.St → Hp → Prop, (∃ m, W 0 m σ H) ∧ ∀ i m σ H, W i m σ H →
      ((Itm K a b xs ys).stop i H ∧ D.nx σ H) ∨ ((Itm K a b xs ys).go i H ∧ ∃ N : L2.St → Hp → Prop, (∀ σ' H', N σ' H' → ∃ m', m' < m ∧ W (i + 1) m' σ' H') ∧ ∀ x H', (Itm K a b xs ys).yld i H x H' → g x σ H' fun σ2 H2 => tb { D with nx := N, ct := N, bk := D.nx } σ2 H2) := by
  refine ⟨fun i m σ H => m = xs.length - i ∧ i ≤ xs.length ∧ Pv i σ H, ⟨xs.length, by simp, Nat.zero_le _, h0⟩, ?_⟩
  rintro i m σ H ⟨rfl, hi, p⟩
  obtain ⟨q1, q2⟩ := hl i σ H hi p
  by_cases hlt : i < xs.length
  · refine .inr ⟨⟨q1, q2, hlt, by omega⟩, Pv (i + 1), fun σ' H' p' => ⟨xs.length - (i + 1), by omega, rfl, hlt, p'⟩, fun x H' y => ?_⟩
    obtain ⟨T, x, y, rfl, hT, rfl, hx, hy⟩ := y
    exact hs i x y σ H T hx hy p hT
  · have e : i = xs.length := by omega
    exact .inl ⟨⟨q1, q2, by omega, by omega, .inl e⟩, hd _ _ (e ▸ p)⟩
/-! ### C(..), C in a local -/
section
variable {X : Cx} {CX : CXT} {k i : Nat} {f C : Addr} {fd : FuncData} {ps : List Str} {sp : Sp} {dvs : List V} {ds : List Value} {E : L2.St → XK} {x : Str} {p pos : Pos} {e : Expr} {es : List Expr} {t : TA}
theorem at0 {X : Cx} (σ : L2.St) : PassesAt CX0 X σ E0 := fun _ _ _ _ _ _ h => h.elim
def tMakeL (i : Nat) (C : Addr) (sp : Sp) (dvs : List V) (E : L2.St → XK) (t : TA) : TE := fun σ H Q => σ[i]? = some (some (.ref C)) ∧ t σ H fun vs H1 => ∀ x dx, H1 x = none → H1 dx = none → dx ≠ x →
  sp (.ref x :: (vs ++ dvs)) (upd (upd H1 dx (.own x)) x (.ins C dx [])) (fun v H2 => v = .non ∧ Q (.ref x) H2) (E σ)
theorem pe_makeL (M : Mk X.K C f) (F : FnOk X.prog X.w X.K X.mg X.base CX k f fd ps sp) (hr : Room (k + 1) X.A) (hN : X.N[i]? = some x) (hv : Vis X.env.scope x) (hb : Binds X.K fd ps ds) (hd : Vals dvs ds) (hx : ∀ σ, PassesAt CX X σ (E σ))
    (ha : PA X (e :: es) t) (hdb : (x == ("__debug__" : Str)) = false := by decide) (hcd : (x == ("__classdict__" : Str)) = false := by decide)
    (he : starEach (e :: es) X.env = (false, eval e X.env) :: starEach es X.env := by rfl) (hpl : (backTo pos (starEach es X.env)).any (·.1) = false := by rfl) :
    PE X (.Call (.Name x p) (e :: es) [] pos) (tMakeL i C sp dvs E t) := by
  refine ⟨fun pins s σ H Q I h => ?_⟩
  obtain ⟨hs, ht⟩ := h
  refine wpAny_Call_Name_kw (thn ((pe_var (pos := p) hN hv hdb hcd).run pins s σ H (fun v H1 => v = .ref C ∧ H1 = H) I ⟨.ref C, hs, rfl, rfl⟩) fun u s1 ⟨v, H1, I1, r1, q1⟩ => ?_)
  obtain ⟨rfl, rfl⟩ := q1
  cases r1
  refine PySem.W.callWith_K (h₀ := X.base) I.ok.mod.kin M.kp (thn (ha.run pos pins s1 σ _ _ I1 ht) fun us s2 ⟨vs, H2, I2, r, q⟩ => ⟨I2.kIn, ?_⟩) he hpl
  exact run_makeS M F hr hb hd (hx σ) I2 r q
end
/-! ### len(o), o[i] by own methods -/
section
variable {X : Cx} {CX : CXT} {C f : Addr} {fd : FuncData} {ps : List Str} {n : Nat} {sp : Sp} {E : XK}
def rLenOwn (C : Addr) (sp : Sp) (E : XK) : List V → Hp → VK → Prop := fun xs H Q => ∃ a dx fs, xs = [V.ref a] ∧ H a = some (.ins C dx fs) ∧ sp [.ref a] H (fun z H' => ∃ i : Int, z = .int i ∧ 0 ≤ i ∧ i < 1000000 ∧ Q (.int i) H') E
theorem call_lenOwn (hs : PySem.W.findIn X.K (.ref C) "__len__" = some (some (.ref f))) (hf : PySem.W.isFn X.K (.ref f) = true) (F : FnOk X.prog X.w X.K X.mg X.base CX n f fd ps sp) (hb : Binds X.K fd ps []) (hr : Room (n + 1) X.A) (hx : Passes CX X E) : CallR X (.builtin "len") (rLenOwn C sp E) := by
  intro pins s σ H xs us Q I r h
  obtain ⟨a, dx, fs, rfl, ha, q⟩ := h
  obtain ⟨u, rfl, ru⟩ := r.one
  cases (show u = Value.ref a from ru)
  obtain ⟨mA, J, _⟩ := ins_get I.hok ha
  obtain ⟨od, J, _⟩ := J.look
  refine Calls.call_function_entry kind_len plain_len entry_len (args_len1 _) ?_
  unfold Builtin.«len»
  refine wpAny_bind (m := oneArg "len" _) (wpAny_pure ?_)
  refine wpAny_bind (m := callSpecial? (.ref a) (Str.ofString "__len__")) (PySem.W.special_fn I.kIn J hs (beq_iff_eq.mp hf) (wpAny_mono (wpAny_call (run_ok (us := [.ref a]) (ws := [.ref a]) F hb (Room.in1 hr) I.env0.in1 hx I (.cons rfl .nil) q)) (fun w s' z => ?_) fun _ _ y => y))
  obtain ⟨z', H', I', rz, i, ei, i0, i1, qz⟩ := z
  subst ei
  obtain ⟨t, e⟩ := (show ∃ t, w = Value.int i t from rz)
  cases e
  refine wpAny_bind (wpAny_holding (wpAny_pure ?_))
  refine wpAny_bind (wpAny_letGo ?_)
  show wpAny _ _ (if i < 0 then _ else _) _ _ _
  rw [if_neg (by omega)]
  show wpAny _ _ (if i ≥ 2 ^ 63 then _ else _) _ _ _
  rw [if_neg (by omega)]
  exact wpAny_bind (wpAny_mkInt (wpAny_pure ⟨_, rfl, .int i, H', I'.tok _, ⟨_, rfl⟩, qz⟩))
def tIxOwn (C : Addr) (sp : Sp) (E : XK) (ta tb : TE) : TE := fun σ H Q => ta σ H fun x H1 => tb σ H1 fun y H2 => ∃ a dx fs, x = .ref a ∧ H2 a = some (.ins C dx fs) ∧ sp [.ref a, y] H2 Q E
theorem pe_ixOwn {a b : Expr} {pos : Pos} {ta tb : TE} (hs : PySem.W.findIn X.K (.ref C) "__getitem__" = some (some (.ref f))) (hf : PySem.W.isFn X.K (.ref f) = true) (hfn : PySem.W.fnIn X.K f = true) (F : FnOk X.prog X.w X.K X.mg X.base CX n f fd ps sp) (hb : Binds X.K fd ps []) (hr : Room (n + 1) X.A) (hx : Passes CX X E)
    (ha : PE X a ta) (hb2 : PE X b tb) (hsl : ∀ v u, subscripted b true v u = runValue (.builtin "lifetime.subscript" ⟨[v, u], []⟩) := by intro _ _; rfl) : PE X (.Subscript a b pos) (tIxOwn C sp E ta tb) := by
  refine ⟨fun pins s σ H Q I h => ?_⟩
  refine Subscript_ (thn (ha.run pins s σ H _ I h) fun v s1 ⟨x, H1, I1, rx, q1⟩ => thn (hb2.run pins s1 σ H1 _ I1 q1) fun u s2 ⟨y, H2, I2, ry, o, dx, fs, ex, ho, q⟩ => ?_)
  subst ex
  cases (show v = Value.ref o from rx)
  obtain ⟨mA, J, _⟩ := ins_get I2.hok ho
  obtain ⟨od, J, _⟩ := J.look
  obtain ⟨m, hF⟩ := I2.fr
  exact PySem.W.sub_K hF I2.ok.mod.kin J hs hfn hf (wpAny_call (run_ok (us := [.ref o, u]) (ws := [.ref o, y]) F hb (Room.in1 hr) I2.env0.in1 hx I2 (.cons rfl (.cons ry .nil)) q)) (hsl _ _)
end
end L2.Wk
namespace L2.Wk
open PySem PySem.Spec PyProof.Rows
/-- repr of a number, or of None -/
def reprV : V → Str
  | .int i => toString i
  | _ => Str.ofString "None"
theorem call_reprIN {X : Cx} : CallR X (.builtin "repr") (fun xs H Q => ∃ v, xs = [v] ∧ ((∃ i : Int, v = .int i ∧ i.natAbs.log2 < 1920) ∨ v = .non) ∧ Q (.str (reprV v)) H) := by
  intro pins s σ H xs us Q I r h
  obtain ⟨v, rfl, hv, q⟩ := h
  rcases hv with ⟨i, rfl, hz⟩ | rfl
  · obtain ⟨u, rfl, t, rfl⟩ := vals1 r
    exact PySem.P.repr_of_int hz ⟨.str _, H, I.tok _, ⟨_, rfl⟩, q⟩
  · obtain ⟨u, rfl, e⟩ := vals1 r
    cases (show u = Value.none from e)
    exact PySem.P.repr_of_none ⟨.str _, H, I.tok _, ⟨_, rfl⟩, q⟩
/-! ### enumerate(tuple) -/
def Itq (K : PySem.W.Frag) (a : Addr) (xs : List V) : It :=
  ⟨fun i H => SqT K H a xs ∧ i < xs.length, fun i H v H' => ∃ T x, v = .ref T ∧ H T = none ∧ H' = upd H T (.tup [.int (i : Nat), x]) ∧ xs[i]? = some x, fun i H => SqT K H a xs ∧ i = xs.length⟩
theorem turn_enumT {P : Program} {w : World} {K : PySem.W.Frag} {elts : List Expr} {kk : Nat} {tpos : Pos} (a e it : Addr) (xs : List V) :
    Turn P w K (.Tuple elts kk tpos) (Itq K a xs) [e, it] e (fun i h => (∃ old, IsEnum h e it (((i : Nat) : Int)) old) ∧ h.IsTupleIter it a i ∧ e ≠ it ∧ a ≠ it ∧ a ≠ e) where
  mem := by simp
  obj := fun i h st b hb => by
    obtain ⟨⟨old, he⟩, ⟨o, ho, hc, hd⟩, _⟩ := st
    have e' : b = e ∨ b = it := by simpa using hb
    rcases e' with z | z
    · rw [z]; exact ⟨_, he, fun v q => nomatch q⟩
    · rw [z]; exact ⟨o, ho, fun v q => by rw [hd] at q; cases q⟩
  keep := fun i h h' st k => let ⟨⟨old, he⟩, hi, hne⟩ := st; ⟨⟨old, k e (by simp) _ he⟩, hi.at fun o q => k it (by simp) o q, hne⟩
  item := by
    intro X hP hw hK hc i pins s σ H E I hf st hg
    subst hP hw hK
    obtain ⟨⟨old, he⟩, hit, hne, hai, hae⟩ := st
    obtain ⟨hq, hi⟩ := hg
    obtain ⟨its, rv, p, hz⟩ := I.tuple hq
    have hl := rv.length
    have hel : e < s.heap.objs.size := Heap.lt_size he
    have hil : it < s.heap.objs.size := by obtain ⟨_, q, _⟩ := hit; exact Heap.lt_size q
    have hh : X.A.handled = none := I.ok.hd hc
    refine wpAny_pyNext_enum_itemC (Draws.tuple (A := X.A.in1) hh it a hai its.toArray) he ⟨hit, p⟩ (by simp; omega) hne (by simp [hne, Ne.symm hae]) fun u h' tk hu ho hst hT hsz hk => ?_
    obtain ⟨x, hx, ru⟩ := val_at rv hu
    obtain ⟨hit', _⟩ := hst
    refine ⟨_, rfl, wpAny_letOwnedTupleGo_enum (s := { s with heap := h', toks := tk + 1 }) ho fun h'' he' sb => ?_⟩
    have hT2 : h''.get? s.heap.objs.size = some { cls := .type "tuple", data := .seq #[.int (i : Int) tk, u] } := (sb.2 _ (Nat.ne_of_gt hel)).trans hT
    have new : ObjOk X.prog X.w (upd H s.heap.objs.size (.tup [.int (i : Nat), x])) h'' s.heap.objs.size (.tup [.int (i : Nat), x]) :=
      ⟨by show 2 ≤ sizeLine; decide, [.int (i : Int) tk, u], .cons ⟨_, rfl⟩ (.cons ru .nil), ⟨_, hT2, rfl, _, rfl⟩⟩
    have I1 : Inv X pins σ (upd H s.heap.objs.size (.tup [.int (i : Nat), x])) { s with heap := h'', toks := tk + 1 } :=
      I.turnedNew (ch := [e, it]) (fun b ob hb q => (sb.2 b (fun z => hb (by simp [z]))).trans (hk b ob (fun z => hb (by simp [z])) (fun z => hb (by simp [z])) q)) hf (Nat.le_refl _) new
    refine ⟨.ref s.heap.objs.size, _, I1, rfl, ⟨_, x, rfl, I.hok.fresh (Nat.le_refl _), rfl, hx⟩, ⟨⟨u, ?_⟩, hit'.at fun o q => (sb.2 it (Ne.symm hne)).trans q, hne, hai, hae⟩, fun b hb => ?_⟩
    · have e1 : ((i + 1 : Nat) : Int) = (i : Int) + 1 := by omega
      rw [e1]; exact he'
    · have hb' : b < s.heap.objs.size := by
        have e' : b = e ∨ b = it := by simpa using hb
        rcases e' with z | z
        · rw [z]; exact hel
        · rw [z]; exact hil
      rw [upd_ne (Nat.ne_of_lt hb')]
      exact (hf b hb).1
  done := by
    intro X hP hw hK hc i pins s σ H E I hf st hg
    subst hP hw hK
    obtain ⟨⟨old, he⟩, hit, hne, hai, hae⟩ := st
    obtain ⟨hq, hx⟩ := hg
    obtain ⟨its, rv, p, hz⟩ := I.tuple hq
    obtain ⟨f0, f1, f2, f3, f4, f5⟩ := hf it (by simp)
    have hl := rv.length
    have hh : X.A.handled = none := I.ok.hd hc
    have hi : i = its.toArray.size := by simp; omega
    exact wpAny_pyNext_enum_endD (Draws.tuple (A := X.A.in1) hh it a hai its.toArray) he ⟨by rw [← hi]; exact hit, p⟩ fun h' eb => ⟨rfl, I.turned (t' := s.toks) (fun b o hb q => eb b o hb q) f0 f1 f3 f4 f5⟩
  self := fun A i s Q E st h => let ⟨⟨_, he⟩, _⟩ := st; wpAny_pyIter_enum he h
set_option maxHeartbeats 4000000 in
theorem meets_enum0 {v : Value} {o : Obj} {H : Heap → Prop} (B : Begins v o H) :
    Meets (Builtin.«enumerate.__new__» ⟨[.type "enumerate", v], []⟩) (fun _ R s => H s.heap ∧
      R (.ok (.ret (.ref (s.heap.push o).objs.size))) { s with heap := (s.heap.push o).push { cls := .type "enumerate", data := .fields #[.none, .bool false, .ref s.heap.objs.size, rawInt 0, .none, .none] } }) :=
  .of_wp fun prog w A R s h => by
    obtain ⟨hp, g, d, tk, os⟩ := s; obtain ⟨h1, h⟩ := h
    have hsub := sub_enumerate
    have q1 : ∀ {A' : Around} {E : Value → Shared → Prop} {Q : Value → Shared → Prop}, Q (.ref hp.objs.size) ⟨hp.push o, g, d, tk, os⟩ → wpAny (model prog w) A' (pyIter v) Q E ⟨hp, g, d, tk, os⟩ :=
      fun q => B.iter prog w _ _ ⟨hp, g, d, tk, os⟩ _ h1 q
    wp_walk using q1
    refine wpAny_stack_any fun st => wpAny_pure ?_
    split
    · rename_i c _ _ _ _ _
      cases (c == Value.type "enumerate")
      · wp_walk using q1
        exact ⟨_, rfl, h⟩
      · wp_walk using q1
        exact ⟨_, rfl, h⟩
    · wp_walk using q1
      exact ⟨_, rfl, h⟩
theorem enum_begins0 {prog : Program} {w : World} {A : Around} {E : Value → Shared → Prop} {s : Shared} {v : Value} {o : Obj} {H : Heap → Prop} {Q : Value → Shared → Prop} (B : Begins v o H) (h1 : H s.heap)
    (h : ∀ h', IsEnum h' (s.heap.objs.size + 1) s.heap.objs.size 0 .none → h'.get? s.heap.objs.size = some o → h'.objs.size = s.heap.objs.size + 2 →
      (∀ b o, s.heap.get? b = some o → h'.get? b = some o) → Q (.ref (s.heap.objs.size + 1)) { s with heap := h' }) :
    wpAny (model prog w) A (call (.type "enumerate") [v]) Q E s := by
  refine callType_new F.called_enumerate (by decide) (F.typeCall_enumerate_1 _) (F.newCall_enumerate_1 _) (fun obj => F.args_object_init_2 obj _) F.entry_enumerate_new
    (meets_enum0 B) ⟨h1, ?_⟩
  have hz : (s.heap.push o).objs.size = s.heap.objs.size + 1 := Heap.size_push ..
  show _ ∧ _
  rw [hz]
  have he : IsEnum ((s.heap.push o).push { cls := .type "enumerate", data := .fields #[.none, .bool false, .ref s.heap.objs.size, rawInt 0, .none, .none] }) (s.heap.objs.size + 1) s.heap.objs.size 0 .none := by
    have := Heap.get?_push_size (s.heap.push o) (o := { cls := .type "enumerate", data := .fields #[.none, .bool false, .ref s.heap.objs.size, rawInt 0, .none, .none] }) rfl
    rw [hz] at this; exact this
  refine ⟨⟨_, he, rfl⟩, h _ he (Heap.get?_push_of_some _ (Heap.get?_push_size _ B.free)) (by rw [Heap.size_push, hz]) fun b o x => Heap.get?_push_of_some _ (Heap.get?_push_of_some _ x)⟩
def iEnumT (K : PySem.W.Frag) (ta : TA) : TI := fun σ H R => ta σ H fun vs H1 => ∃ a xs, vs = [.ref a] ∧ SqT K H1 a xs ∧ R (Itq K a xs) H1
theorem pi_enumT {X : Cx} {e : Expr} {ta : TA} {p pos tpos : Pos} {elts : List Expr} {kk : Nat} (hg : Gl X "enumerate") (hm : X.mg "enumerate" = none) (ha : PA X [e] ta) (hs : starEach [e] X.env = [(false, eval e X.env)] := by rfl) :
    PI X (.Tuple elts kk tpos) (.Call (.Name "enumerate" p) [e] [] pos) (iEnumT X.K ta) := by
  refine ⟨fun pins s σ H R I h => ?_⟩
  refine Call_ (ld_blt I hg hm boot_enumerate (PyProof.Rows.callWith_type1 (thn (ha.run pos pins s σ H _ I h) fun us s1 ⟨vs, H1, I1, r1, q1⟩ => ?_) hs rfl))
  obtain ⟨a, xs, ex, hq, q⟩ := q1
  subst ex
  cases r1 with
  | cons r rr =>
    cases rr
    cases r
    obtain ⟨its, rv, p', hz⟩ := I1.tuple hq
    have hal : a < s1.heap.objs.size := by obtain ⟨_, q, _⟩ := id p'; exact Heap.lt_size q
    refine enum_begins0 (begins_tuple a its.toArray) p' fun h' he hit hsz hk => wpAny_pyIter_enum he ?_
    have I2 : Inv X pins σ H1 { s1 with heap := h' } := I1.kept (t' := s1.toks) hk
    refine ⟨s1.heap.objs.size + 1, [s1.heap.objs.size + 1, s1.heap.objs.size], _, _, H1, rfl, I2, turn_enumT a (s1.heap.objs.size + 1) s1.heap.objs.size xs, ⟨⟨.none, he⟩, ⟨_, hit, rfl, rfl⟩, Nat.succ_ne_self _, Nat.ne_of_lt hal, Nat.ne_of_lt (Nat.lt_succ_of_lt hal)⟩, fun b hb => ?_, q⟩
    have e' : b = s1.heap.objs.size + 1 ∨ b = s1.heap.objs.size := by simpa using hb
    have hle : s1.heap.objs.size ≤ b := by
      rcases e' with z | z
      · rw [z]; exact Nat.le_add_right _ _
      · rw [z]; exact Nat.le_refl _
    exact I1.fpOk hle (I1.hok.fresh hle)
theorem for_enumT {K : PySem.W.Frag} {a : Addr} {xs : List V} {g : TG} {tb : TS} {D : Ends} {σ : L2.St} {H : Hp} (Pv : Nat → L2.St → Hp → Prop) (h0 : Pv 0 σ H) (hl : ∀ i σ H, i ≤ xs.length → Pv i σ H → SqT K H a xs)
    (hs : ∀ i x σ H T, xs[i]? = some x → Pv i σ H → H T = none → g (.ref T) σ (upd H T (.tup [.int (i : Nat), x])) fun σ2 H2 => tb { D with nx := Pv (i + 1), ct := Pv (i + 1), bk := D.nx } σ2 H2) (hd : ∀ σ H, Pv xs.length σ H → D.nx σ H) :
    ∃ W : Nat → Nat → L2.St → Hp → Prop, (∃ m, W 0 m σ H) ∧ ∀ i m σ H, W i m σ H →
      ((Itq K a xs).stop i H ∧ D.nx σ H) ∨ ((Itq K a xs).go i H ∧ ∃ N : L2.St → Hp → Prop, (∀ σ' H', N σ' H' → ∃ m', m' < m ∧ W (i + 1) m' σ' H') ∧ ∀ x H', (Itq K a xs).yld i H x H' → g x σ H' fun σ2 H2 => tb { D with nx := N, ct := N, bk := D.nx } σ2 H2) := by
  refine ⟨fun i m σ H => m = xs.length - i ∧ i ≤ xs.length ∧ Pv i σ H, ⟨xs.length, by simp, Nat.zero_le _, h0⟩, ?_⟩
  rintro i m σ H ⟨rfl, hi, p⟩
  by_cases hlt : i < xs.length
  · refine .inr ⟨⟨hl i σ H hi p, hlt⟩, Pv (i + 1), fun σ' H' p' => ⟨xs.length - (i + 1), by omega, rfl, hlt, p'⟩, fun x H' y => ?_⟩
    obtain ⟨T, x, rfl, hT, rfl, hx⟩ := y
    exact hs i x σ H T hx p hT
  · have e : i = xs.length := by omega
    exact .inl ⟨⟨hl i σ H hi p, e⟩, hd _ _ (e ▸ p)⟩
theorem for_enumL {K : PySem.W.Frag} {a : Addr} {xs : List V} {g : TG} {tb : TS} {D : Ends} {σ : L2.St} {H : Hp} (Pv : Nat → L2.St → Hp → Prop) (h0 : Pv 0 σ H) (hl : ∀ i σ H, i ≤ xs.length → Pv i σ H → SqL K H a xs)
    (hs : ∀ i x σ H T, xs[i]? = some x → Pv i σ H → H T = none → g (.ref T) σ (upd H T (.tup [.int (i : Nat), x])) fun σ2 H2 => tb { D with nx := Pv (i + 1), ct := Pv (i + 1), bk := D.nx } σ2 H2) (hd : ∀ σ H, Pv xs.length σ H → D.nx σ H) :
    ∃ W : Nat → Nat → L2.St → Hp → Prop, (∃ m, W 0 m σ H) ∧ ∀ i m σ H, W i m σ H →
      ((Ite K a).stop i H ∧ D.nx σ H) ∨ ((Ite K a).go i H ∧ ∃ N : L2.St → Hp → Prop, (∀ σ' H', N σ' H' → ∃ m', m' < m ∧ W (i + 1) m' σ' H') ∧ ∀ x H', (Ite K a).yld i H x H' → g x σ H' fun σ2 H2 => tb { D with nx := N, ct := N, bk := D.nx } σ2 H2) := by
  refine ⟨fun i m σ H => m = xs.length - i ∧ i ≤ xs.length ∧ Pv i σ H, ⟨xs.length, by simp, Nat.zero_le _, h0⟩, ?_⟩
  rintro i m σ H ⟨rfl, hi, p⟩
  have q := hl i σ H hi p
  by_cases hlt : i < xs.length
  · refine .inr ⟨⟨xs, _, q, List.getElem?_eq_getElem hlt⟩, Pv (i + 1), fun σ' H' p' => ⟨xs.length - (i + 1), by omega, rfl, hlt, p'⟩, fun x H' y => ?_⟩
    obtain ⟨T, x, rfl, hT, rfl, hx⟩ := y
    exact hs i x σ H T (hx xs q) p hT
  · have e : i = xs.length := by omega
    exact .inl ⟨⟨xs, q, by omega⟩, hd _ _ (e ▸ p)⟩
/-! ### x + y by an own __add__, both of one class -/
section
variable {X : Cx} {CX : CXT} {C f : Addr} {fd : FuncData} {ps : List Str} {n : Nat} {sp : Sp} {E : XK}
def rAddOwn (C : Addr) (sp : Sp) (E : XK) : R2 := fun x y H Q => ∃ a b dx fs dy gs, x = .ref a ∧ y = .ref b ∧ H a = some (.ins C dx fs) ∧ H b = some (.ins C dy gs) ∧ sp [.ref a, .ref b] H Q E
theorem op_addOwn (hs : PySem.W.findIn X.K (.ref C) "__add__" = some (some (.ref f))) (hf : PySem.W.isFn X.K (.ref f) = true) (hc : PySem.W.selfFirst X.K C = true) (F : FnOk X.prog X.w X.K X.mg X.base CX n f fd ps sp) (hb : Binds X.K fd ps []) (hr : Room n X.A) (hx : Passes CX X E) :
    OpR X (binaryOp .Add) (rAddOwn C sp E) := by
  intro pins s σ H x y v u Q I rx ry h
  obtain ⟨a, b, dx, fs, dy, gs, rfl, rfl, ha, hb2, q⟩ := h
  cases (show v = Value.ref a from rx)
  cases (show u = Value.ref b from ry)
  obtain ⟨mA, J, _⟩ := ins_get I.hok ha
  obtain ⟨od, J, _⟩ := J.look
  obtain ⟨mB, J', _⟩ := ins_get I.hok hb2
  obtain ⟨od', J', _⟩ := J'.look
  obtain ⟨m, hF⟩ := I.fr
  refine PySem.W.binop_K hF I.ok.mod.kin J J'.type hc hs hf (wpAny_mono (wpAny_call (run_ok (us := [.ref a, .ref b]) (ws := [.ref a, .ref b]) F hb hr I.env0 hx I (.cons rfl (.cons rfl .nil)) q)) (fun r s' z => ?_) fun _ _ y => y)
  obtain ⟨z', H', I', rz, qz⟩ := z
  have ok : PySem.W.CmpBack (EP X pins σ Q) r s' := by
    cases r <;> first | exact ⟨z', H', I', rz, qz⟩ | (exfalso; cases z' <;> first | (obtain ⟨_, e⟩ := rz; cases e; done) | (cases rz; done))
  exact ok
end
end L2.Wk
/-! an own error over IndexError: its first field; x += y by an own __add__ -/
namespace PySem.LowI
open PySem PySem.Spec PySem.W Builtin Builtin.ObjectAttr
def tailI : List Value := [.type "IndexError", .type "LookupError", .type "Exception", .type "BaseException", .type "object"]
section
variable {prog : Program} {w : World} {A : Around} {E : Value → Shared → Prop} {R : Result → Shared → Prop} {hp : Heap} {g : Array GenState} {d : Drawn} {t : Nat} {os : OsState}
theorem exc_osaI {K : W.Frag} {name : Str} {tk : Tok} {v : Value} {x C : Addr} {fv : Array Value} {cd : ClassData}
    (X : K.In hp) (hx : hp.get? x = some { cls := .ref C, data := .fields fv }) (hcd : W.clsIn K C = some cd) (hm : cd.mro = .ref C :: tailI) (hh : cd.hasDict = true) (ha : W.findIn K (.ref C) name = some none)
    (hq : ∀ h' tk' dx, (∀ b o, b ≠ x → hp.get? b = some o → h'.get? b = some o) → hp.objs.size ≤ dx → dx ≠ x → h'.get? x = some { cls := .ref C, dict := some dx, data := .fields fv } →
      h'.Ns1 dx (fun y => if y = name then some v else none) → R (.ok (.ret .none)) ⟨h', g, d, tk', os⟩) :
    codeAny (model prog w) A (.call (.builtin "object.__setattr__") ⟨[.ref x, .str name tk, v], []⟩) R ⟨hp, g, d, t, os⟩ := by
  have I : W.InstAt hp x { cls := .ref C, data := .fields fv } C none := ⟨hx, rfl, rfl, trivial⟩
  have hxs : x ≠ hp.objs.size := Nat.ne_of_lt (Heap.lt_size hx)
  have ov : W.excOver K C tailI = true := by
    unfold W.excOver
    rw [hcd, Option.any_some, hm]
    show (C == C && W.excTail tailI tailI) = true
    rw [beq_self_eq_true, Bool.true_and]
    decide +kernel
  have tkr : W.takerIn K C name = some none := by
    unfold W.takerIn
    rw [ha]
    rfl
  refine W.osa_openX (C := C) (s := ⟨hp, g, d, t, os⟩) (bmB := tailI) F.store_IndexError X I ov tkr fun bb => ?_
  show wpAny _ _ (storeInOwnDict (.ref x) (.ref C) (.str name tk) name v bb) _ _ _
  have hcls : W.Looks (model prog w) hp (classData C) cd := W.looks_clsIn X hcd
  obtain ⟨nm, bs, mro, ns, qn, hd, sn, sb, ab, col, del⟩ := cd
  dsimp only at hh
  subst hh
  unfold storeInOwnDict ownDictForStores
  repeat (first | with_reducible refine PX.store_in_new ?_ ?_ | with_reducible refine wpAny_loadPart_at hx ?_ | with_reducible refine hcls.at ?_ | wp_step)
  · exact ⟨_, #[], _, (Heap.get?_update_ne _ _ _ _ hxs.symm).trans (Heap.get?_push_at rfl rfl), rfl, fun e he => absurd he (by simp), fun _ => rfl⟩
  · intro h' tk' hn' hs
    have hx1 : (hp.push { cls := .type "dict", data := .dict #[] }).get? x = some { cls := .ref C, data := .fields fv } := Heap.get?_push_of_some _ hx
    refine hq h' tk' hp.objs.size (fun b o hb ho => ?_) (Nat.le_refl _) hxs.symm ?_ hn'
    · exact (hs.2 b (Nat.ne_of_lt (Heap.lt_size ho))).trans ((Heap.get?_update_ne _ _ _ _ hb).trans (Heap.get?_push_of_some _ ho))
    · exact (hs.2 x hxs).trans (Heap.get?_update_self _ hx1 rfl)
end
end PySem.LowI
namespace PySem.W
section
variable {prog : Program} {w : World} {A : Around} {E : Value → Shared → Prop} {s : Shared} {K : Frag} {x C f : Addr} {ox : Obj} {od : Option Obj}
theorem noIadd {h : Heap} {cd : ClassData} (X : K.In h) (hcd : clsIn K C = some cd) (hm : cd.mro = [.ref C, .type "object"]) (h1 : findIn K (.ref C) "__iadd__" = some none) (h2 : findIn K (.type "object") "__iadd__" = some none) :
    Looks (model prog w) h (fillsInplaceSlot (.ref C) "add" true) false := by
  intro A Q E s k q
  have Lm : Looks (model prog w) h (mroOf (.ref C)) cd.mro := (looks_clsIn X hcd).andThen (f := fun cd => pure cd.mro) .now
  have Lm' := Lm.keeps k
  obtain ⟨hh, g, d, tt, os⟩ := s
  have X' : K.In hh := X.keeps k
  have L1 : Looks (model prog w) hh (typeLookup (.ref C) (dunderI "add")) none := looks_findIn X' h1
  have L2 : Looks (model prog w) hh (typeLookup (.type "object") (dunderI "add")) none := looks_findIn X' h2
  unfold fillsInplaceSlot
  refine wpAny_bind (Lm'.at ?_)
  rw [hm, List.anyM_cons]
  refine wpAny_bind ?_
  repeat lk
  exact q
theorem inplaceAdd_K {b : Value} {cd : ClassData} {Q : Value → Shared → Prop} (X : K.In s.heap) (I : InstAt s.heap x ox C od) (hb : Looks (model prog w) s.heap (typeOf b) (.ref C)) (hcd : clsIn K C = some cd) (hm : cd.mro = [.ref C, .type "object"]) (h1 : findIn K (.ref C) "__iadd__" = some none) (h2 : findIn K (.type "object") "__iadd__" = some none)
    (hs : findIn K (.ref C) "__add__" = some (some (.ref f))) (hf : isFn K (.ref f) = true)
    (h : wpAny (model prog w) A (call (.ref f) [.ref x, b]) (CmpBack Q) E s) : wpAny (model prog w) A (inplaceOp .Add (.ref x) b) Q E s := by
  have one := ksp_try X I hs hf h
  obtain ⟨hh, g, d, tt, os⟩ := s
  have L1 : Looks (model prog w) hh (typeOf (.ref x)) (.ref C) := I.type
  have L2 : Looks (model prog w) hh (fillsInplaceSlot (.ref C) "add" true) false := noIadd X hcd hm h1 h2
  have L3 : Looks (model prog w) hh (fillsNumberSlot (.ref C) "add") true := fills_K X hcd hm hs
  unfold inplaceOp
  refine wpAny_holding ?_
  simp only [show (Operator.Add).info.2 = "add" from rfl, show (Operator.Add == Operator.Add) = true from rfl]
  ksp_lk
  simp only [beq_self_eq_true, if_true]
  ksp_lk
  refine wpAny_mono one (fun r s' hr' => ?_) fun _ _ e => e
  obtain ⟨v, rfl, hq⟩ := hr'
  ksp_lk
  exact hq
end
end PySem.W
namespace L2.Wk
open PySem PySem.Spec PyProof.Rows
section
variable {X : Cx} {CX : CXT} {C f : Addr} {fd : FuncData} {ps : List Str} {n : Nat} {sp : Sp} {E : XK} {cd : ClassData}
theorem ip_addOwn (hcd : PySem.W.clsIn X.K C = some cd) (hm : cd.mro = [.ref C, .type "object"]) (h1 : PySem.W.findIn X.K (.ref C) "__iadd__" = some none) (hs : PySem.W.findIn X.K (.ref C) "__add__" = some (some (.ref f))) (hf : PySem.W.isFn X.K (.ref f) = true) (F : FnOk X.prog X.w X.K X.mg X.base CX n f fd ps sp) (hb : Binds X.K fd ps []) (hr : Room n X.A) (hx : Passes CX X E) :
    PIp X .Add (rAddOwn C sp E) := by
  intro pins s σ H x y v u Q I rx ry h
  obtain ⟨a, b, dx, fs, dy, gs, rfl, rfl, ha, hb2, q⟩ := h
  cases (show v = Value.ref a from rx)
  cases (show u = Value.ref b from ry)
  obtain ⟨mA, J, _⟩ := ins_get I.hok ha
  obtain ⟨od, J, _⟩ := J.look
  obtain ⟨mB, J', _⟩ := ins_get I.hok hb2
  obtain ⟨od', J', _⟩ := J'.look
  have h2 : PySem.W.findIn X.K (.type "object") "__iadd__" = some none := by kernel_rfl
  refine PySem.W.inplaceAdd_K I.kIn J J'.type hcd hm h1 h2 hs hf (wpAny_mono (wpAny_call (run_ok (us := [.ref a, .ref b]) (ws := [.ref a, .ref b]) F hb hr I.env0 hx I (.cons rfl (.cons rfl .nil)) q)) (fun r s' z => ?_) fun _ _ y => y)
  obtain ⟨z', H', I', rz, qz⟩ := z
  have ok : PySem.W.CmpBack (EP X pins σ Q) r s' := by
    cases r <;> first | exact ⟨z', H', I', rz, qz⟩ | (exfalso; cases z' <;> first | (obtain ⟨_, e⟩ := rz; cases e; done) | (cases rz; done))
  exact ok
end
section
variable {X : Cx} {CX : CXT} {C f : Addr} {fd : FuncData} {ps : List Str} {n : Nat} {sp : Sp} {E : L2.St → XK}
/-- run_ok, where what is let out is met at the slots -/
theorem run_okS {pins : List (Addr × Obj)} {σ : L2.St} {H : Hp} {s : Shared} {A : Around} {Q : VK} {us : List Value} {ws : List V} (F : FnOk X.prog X.w X.K X.mg X.base CX n f fd ps sp) (hb : Binds X.K fd ps []) (hr : Room n A) (e0 : Env0 X.prog X.w X.K X.mg X.base A X.stack s H) (hx : PassesAt CX X σ (E σ)) (I : Inv X pins σ H s) (r : Vals ws us) (h : sp ws H Q (E σ)) :
    codeAny (model X.prog X.w) A (.call (.ref f) ⟨us, []⟩) (fun r s' => match r with | .ok (.ret v) => EP X pins σ Q v s' | .ok _ => False | .error e => X.xe e s') s := by
  have hl := F.len _ _ _ _ h
  have b := hb s us I.kIn (by rw [List.append_nil, ← r.length]; exact hl)
  rw [List.append_nil] at b
  refine codeAny_mono (F.run A X.stack s H ⟨us, []⟩ us ws Q (E σ) hr e0 b r h) fun r s' hq => ?_
  rcases r with e | fl
  · exact hx pins H s e s' I hq
  cases fl <;> first | exact I.after hq | exact False.elim hq
def tMethS (C : Addr) (m : Str) (sp : Sp) (E : L2.St → XK) (ta : TE) (t : TA) : TE := fun σ H Q => ta σ H fun x H1 => ∃ a dx fs, x = .ref a ∧ H1 a = some (.ins C dx fs) ∧ fs.lookup m = none ∧ t σ H1 fun vs H2 => sp (x :: vs) H2 Q (E σ)
theorem pe_methE {m : Str} {o e : Expr} {es : List Expr} {ta : TE} {t : TA} {pos apos : Pos} {pl : Sem Bool} (he : PE X o ta) (c : Cls X.K C) (hm : Meth X.K C m f) (F : FnOk X.prog X.w X.K X.mg X.base CX n f fd ps sp) (hr : Room n X.A) (hb : Binds X.K fd ps []) (hx : ∀ σ, PassesAt CX X σ (E σ)) (ha : PA X (e :: es) t)
    (hst : starEach (e :: es) X.env = (false, eval e X.env) :: starEach es X.env := by rfl) (hpl : (backTo pos (starEach es X.env)).any (·.1) = false := by rfl)
    (ht : eval (.Call (.Attribute o m apos) (e :: es) [] pos) X.env = (do
      let ov ← eval o X.env
      standAt apos.atName
      let (f, first) ← holding [ov] (getMethod ov m pl)
      callWith pos f first (backTo pos (starEach (e :: es) X.env)) (backToKw pos (keywordEach [] X.env))) := by rfl) :
    PE X (.Call (.Attribute o m apos) (e :: es) [] pos) (tMethS C m sp E ta t) := by
  refine ⟨fun pins s σ H Q I h => ?_⟩
  refine PySem.W.methodCall_KW (pl := pl) (thn (he.run pins s σ H _ I h) fun u s1 ⟨x, H1, I1, rx, a, dx, fs, ex, ea, l, q⟩ => ?_) ht
  subst ex
  cases (show u = Value.ref a from rx)
  refine getmeth_ok I1 ea c hm l (PySem.W.callWith_K (first := [.ref a]) (h₀ := X.base) I.ok.mod.kin hm.kp (thn (ha.run pos pins s1 σ H1 _ I1 q) fun us s2 ⟨vs, H2, I2, r, q2⟩ => ⟨I2.kIn, ?_⟩) hst hpl)
  exact run_fnS (us := .ref a :: us) (vs := .ref a :: vs) F hr hb (hx σ) I2 (.cons rfl r) q2
def tIxOwnS (C : Addr) (sp : Sp) (E : L2.St → XK) (ta tb : TE) : TE := fun σ H Q => ta σ H fun x H1 => tb σ H1 fun y H2 => ∃ a dx fs, x = .ref a ∧ H2 a = some (.ins C dx fs) ∧ sp [.ref a, y] H2 Q (E σ)
theorem pe_ixOwnE {a b : Expr} {pos : Pos} {ta tb : TE} (hs : PySem.W.findIn X.K (.ref C) "__getitem__" = some (some (.ref f))) (hf : PySem.W.isFn X.K (.ref f) = true) (hfn : PySem.W.fnIn X.K f = true) (F : FnOk X.prog X.w X.K X.mg X.base CX n f fd ps sp) (hb : Binds X.K fd ps []) (hr : Room (n + 1) X.A) (hx : ∀ σ, PassesAt CX X σ (E σ))
    (ha : PE X a ta) (hb2 : PE X b tb) (hsl : ∀ v u, subscripted b true v u = runValue (.builtin "lifetime.subscript" ⟨[v, u], []⟩) := by intro _ _; rfl) : PE X (.Subscript a b pos) (tIxOwnS C sp E ta tb) := by
  refine ⟨fun pins s σ H Q I h => ?_⟩
  refine Subscript_ (thn (ha.run pins s σ H _ I h) fun v s1 ⟨x, H1, I1, rx, q1⟩ => thn (hb2.run pins s1 σ H1 _ I1 q1) fun u s2 ⟨y, H2, I2, ry, o, dx, fs, ex, ho, q⟩ => ?_)
  subst ex
  cases (show v = Value.ref o from rx)
  obtain ⟨mA, J, _⟩ := ins_get I2.hok ho
  obtain ⟨od, J, _⟩ := J.look
  obtain ⟨m, hF⟩ := I2.fr
  exact PySem.W.sub_K hF I2.ok.mod.kin J hs hfn hf (wpAny_call (run_okS (us := [.ref o, u]) (ws := [.ref o, y]) F hb (Room.in1 hr) I2.env0.in1 (hx σ) I2 (.cons rfl (.cons ry .nil)) q)) (hsl _ _)
end
end L2.Wk
/-! two sets of the same texts are equal -/
namespace L2.Wk
open PySem PySem.Spec PyProof.Rows
theorem entry_set_ne : entryFor table "set.__ne__" = some Builtin.«frozenset.__ne__» := entryFor_alias (id' := "frozenset.__ne__") (by kernel_rfl) rfl (by decide +kernel) (by kernel_rfl)
section
variable {prog : Program} {w : World} {A : Around} {E : Value → Shared → Prop} {s : Shared} {a b : Addr} {S : Str → Bool} {n : Nat}
theorem set_ne_body {R : Result → Shared → Prop} (ha : SetS w s.heap a S n) (hb : SetS w s.heap b S n) (k : R (.ok (.ret (.bool false))) s) :
    wpAny (model prog w) A.in1 (Builtin.«frozenset.__ne__» ⟨[.ref a, .ref b], []⟩) (GQ.FinOf prog w A R) (fun e s' => R (.error e) s') s := by
  obtain ⟨o, es, ep, t, ho, hex, hd, g, nd, hm, hbn, hf, hn, hr, hl⟩ := id ha
  obtain ⟨o2, es2, ep2, t2, ho2, hex2, hd2, g2, nd2, hm2, hbn2, hf2, hn2, hr2, hl2⟩ := id hb
  have f1 : isSubtype (.type "set") (.type "set") = pure true := by rw [isSubtype_type]; kernel_rfl
  have f2 : isSubtype (.type "set") (.type "frozenset") = pure false := by rw [isSubtype_type]; kernel_rfl
  have TA : s.TypeIs (.ref a) "set" := ⟨o, ho, hex.1⟩
  have TB : s.TypeIs (.ref b) "set" := ⟨o2, ho2, hex2.1⟩
  refine wpAny_bind (m := Builtin.Frozenset.slot1 "__ne__" ⟨[.ref a, .ref b], []⟩) ?_
  unfold Builtin.Frozenset.slot1
  obtain ⟨hp, gg, dd, tk, os⟩ := s
  dsimp only at ho ho2
  have hS2 := SetS.setOf (P := prog) hb
  wp_walk using wpAny_setState_of ho hd hf, wpAny_setState_of ho2 hd2 hf2, wpAny_loadPart' ho, wpAny_loadPart' ho2, wpAny_forIn_list _ (fun (rest : List (Int × Value)) (b : Option (List (Int × Value)) × Unit) s' => b = (none, ()) ∧ s' = ⟨hp, gg, dd, tk, os⟩ ∧ ∀ e ∈ rest, GoodS w e) _, wpAny_forIn_list _ (fun (rest : List (Int × Value)) (b : Option Bool × Unit) s' => b = (none, ()) ∧ s' = ⟨hp, gg, dd, tk, os⟩ ∧ ∀ e ∈ rest, GoodS w e ∧ S (keyS e) = true) _
  case turn =>
    rintro ⟨h0, x0⟩ rest b1 s1 ⟨rfl, rfl, hg⟩
    obtain ⟨k0, tk0, e1, e2⟩ := hg (h0, x0) (List.mem_cons_self ..)
    dsimp only at e1 e2
    subst e1
    refine wpAny_bind (m := Builtin.Frozenset.quietEq (Value.str k0 tk0)) (wpAny_pure ?_)
    exact wpAny_pure ⟨rfl, rfl, fun e he => hg e (List.mem_cons_of_mem _ he)⟩
  case h =>
    refine ⟨rfl, rfl, fun e he => ?_⟩
    rcases List.mem_append.mp he with he | he
    · exact g e he
    · exact g2 e he
  case fin =>
    rintro b1 s1 ⟨rfl, rfl, -⟩
    refine wpAny_pure ?_
    refine wpAny_bind ?_
    refine wpAny_forIn_list _ (fun (rest : List (Int × Value)) (b : Option Bool × Unit) s' => b = (none, ()) ∧ s' = ⟨hp, gg, dd, tk, os⟩ ∧ ∀ e ∈ rest, GoodS w e ∧ S (keyS e) = true) _ ?_ ?_ _ _ ⟨rfl, rfl, fun e he => ⟨g e he, (hm _).mpr (List.mem_map_of_mem he)⟩⟩
    · rintro ⟨h0, x0⟩ rest b1 s1 ⟨rfl, rfl, hg⟩
      obtain ⟨⟨k0, tk0, e1, e2⟩, hk⟩ := hg (h0, x0) (List.mem_cons_self ..)
      dsimp only at e1 e2
      subst e1
      subst e2
      have hk0 : S k0 = true := hk
      refine wpAny_bind (wpAny_holding (wpAny_setFind_of (knd := PySem.strKind prog w) (k := k0) (PySem.strKind_is prog w k0 tk0) rfl hS2 fun r hr => ?_))
      obtain ⟨i, rfl⟩ : ∃ i, r = some i := Option.isSome_iff_exists.mp (hr.trans hk0)
      wp_walk using wpAny_setState_of ho hd hf
      exact ⟨rfl, rfl, fun e he => hg e (List.mem_cons_of_mem _ he)⟩
    · rintro b1 s1 ⟨rfl, rfl, -⟩
      wp_walk
      exact k
theorem rc_set_ne {Q : Value → Shared → Prop} (hu : A.units < cLine) (ha : SetS w s.heap a S n) (hb : SetS w s.heap b S n) (k : Q (.bool false) s) : wpAny (model prog w) A (richCompare .NotEq (.ref a) (.ref b)) Q E s := by
  obtain ⟨o, es, ep, t, ho, hex, hd, _⟩ := id ha
  obtain ⟨o2, es2, ep2, t2, ho2, hex2, hd2, _⟩ := id hb
  refine wpAny_richCompare_same_room (op := .NotEq) ⟨_, ho, hex.1⟩ ⟨_, ho2, hex2.1⟩ F.slot_set_ne (GQ.call_here F.slot_set_ne ⟨_, ho, hex.1⟩ entry_set_ne (F.args_set_ne_2 _ _) ?_) hu
  exact set_ne_body (R := wants (fun v s' => v ≠ .notImplemented ∧ Q v s') E) ha hb ⟨(fun x => nomatch x), k⟩
theorem SetS.card {h : Heap} {S' : Str → Bool} {n' : Nat} (ha : SetS w h a S n) (hb : SetS w h b S' n') (e : ∀ k, S k = S' k) : n = n' := by
  obtain ⟨o, es, ep, t, ho, hex, hd, g, nd, hm, hbn, hf, hn, _⟩ := ha
  obtain ⟨o2, es2, ep2, t2, ho2, hex2, hd2, g2, nd2, hm2, hbn2, hf2, hn2, _⟩ := hb
  have l1 := few_len nd fun k hk => (hm2 k).mp (by rw [← e]; exact (hm k).mpr hk)
  have l2 := few_len nd2 fun k hk => (hm k).mp (by rw [e]; exact (hm2 k).mpr hk)
  rw [List.length_map, List.length_map, Array.length_toList, Array.length_toList] at l1 l2
  omega
end
section
variable {X : Cx}
def rSetNe (w : World) : R2 := fun x y H Q => ∃ (a b : Addr) (S S' : Str → Bool) (n n' : Nat), x = .ref a ∧ y = .ref b ∧ H a = some (SetT w a S n) ∧ H b = some (SetT w b S' n') ∧ (∀ k, S k = S' k) ∧ Q (.bl false) H
theorem op_setNe (hu : X.A.units < cLine) : OpR X (compareOp .NotEq) (rSetNe X.w) := by
  intro pins s σ H x y v u Q I rx ry hq
  obtain ⟨a, b, S, S', n, n', rfl, rfl, ha, hb, e, q⟩ := hq
  cases (show v = Value.ref a from rx)
  cases (show u = Value.ref b from ry)
  have R1 : SetS X.w s.heap a S n := (I.hok a _ ha).1
  have R2 : SetS X.w s.heap b S' n' := (I.hok b _ hb).1
  have en := SetS.card R1 R2 e
  subst en
  exact rc_set_ne hu R1 (R2.congr e) ⟨.bl false, H, I, rfl, q⟩
end
end L2.Wk
namespace L2.Wk
open PySem PySem.Spec PyProof.Rows
/-! ### a classmethod called off its class in a try -/
section
variable {X : Cx} {CX : CXT} {k : Nat} {C p g : Addr} {mc : Value} {sp : Sp} {E : L2.St → XK} {o e : Expr} {es : List Expr} {m : Str} {pos apos : Pos} {ta : TE} {t : TA} {pl : Sem Bool}
theorem run_fnRS {pins : List (Addr × Obj)} {σ : L2.St} {H : Hp} {s : Shared} {f : Addr} {Q : VK} {us : List Value} {vs : List V} (F : FnR X.prog X.w X.K X.mg X.base CX k f sp) (hr : Room k X.A) (hx : PassesAt CX X σ (E σ)) (I : Inv X pins σ H s) (r : Vals vs us) (h : sp vs H Q (E σ)) :
    codeAny (model X.prog X.w) X.A (.call (.ref f) ⟨us, []⟩) (fun r s' => match r with | .ok (.ret v) => EP X pins σ Q v s' | .ok _ => False | .error e => X.xe e s') s := by
  refine codeAny_mono (F X.A X.stack s H us vs Q (E σ) hr I.env0 r h) fun r s' hq => ?_
  cases r with
  | error e => exact hx pins H s e s' I hq
  | ok fl =>
    cases fl with
    | ret u => exact I.after hq
    | next => exact False.elim hq
    | brk => exact False.elim hq
    | cont => exact False.elim hq
theorem run_cmS {pins : List (Addr × Obj)} {σ : L2.St} {H : Hp} {s : Shared} {q : Addr} {Q : VK} {us : List Value} {vs : List V} (F : FnR X.prog X.w X.K X.mg X.base CX k g sp) (hr : Room k X.A) (hx : PassesAt CX X σ (E σ)) (I : Inv X ((q, PySem.W.methodObj (.ref g) (.ref C)) :: pins) σ H s)
    (r : Vals vs us) (h : sp (.ref C :: vs) H Q (E σ)) : wpAny (model X.prog X.w) X.A (call (.ref q) us) (EP X pins σ Q) X.xe s := by
  have z : wpAny (model X.prog X.w) X.A (call (.ref q) us) (EP X ((q, PySem.W.methodObj (.ref g) (.ref C)) :: pins) σ Q) X.xe s :=
    wpAny_call (PySem.W.method_call (ClX.pin_at I) (run_fnRS (us := .ref C :: us) (vs := .ref C :: vs) F hr hx I (.cons rfl r) h))
  exact thn z fun _ _ y => ClX.unpinE y
def tCMethS (C : Addr) (sp : Sp) (E : L2.St → XK) (ta : TE) (t : TA) : TE := fun σ H Q => ta σ H fun x H1 => x = .ref C ∧ t σ H1 fun vs H2 => sp (.ref C :: vs) H2 Q (E σ)
theorem pe_cmethS (he : PE X o ta) (r : ClX.CRead X.K C mc) (c : ClX.CMet X.K C mc m p g) (F : FnR X.prog X.w X.K X.mg X.base CX k g sp) (hr : Room k X.A) (hx : ∀ σ, PassesAt CX X σ (E σ)) (ha : PA X (e :: es) t)
    (hst : starEach (e :: es) X.env = (false, eval e X.env) :: starEach es X.env := by rfl) (hpl : (backTo pos (starEach es X.env)).any (·.1) = false := by rfl)
    (ht : eval (.Call (.Attribute o m apos) (e :: es) [] pos) X.env = (do
      let ov ← eval o X.env
      standAt apos.atName
      let (f, first) ← holding [ov] (getMethod ov m pl)
      callWith pos f first (backTo pos (starEach (e :: es) X.env)) (backToKw pos (keywordEach [] X.env))) := by rfl) :
    PE X (.Call (.Attribute o m apos) (e :: es) [] pos) (tCMethS C sp E ta t) := by
  refine ⟨fun pins s σ H Q I h => ?_⟩
  refine PySem.W.methodCall_KW (pl := pl) (thn (he.run pins s σ H _ I h) fun u s1 ⟨x, H1, I1, rx, ex, q⟩ => ?_) ht
  subst ex
  obtain rfl : u = Value.ref C := rx
  refine ClX.getmethcm_ok I1 r c fun s2 I2 => ?_
  refine ClX.callwith_cm I2 (ClX.base_none I1 (Nat.le_refl _)) c.fi (thn (ha.run pos _ s2 σ H1 _ I2 q) fun us s3 ⟨vs, H2, I3, rv, q2⟩ => ⟨⟨ClX.pin_at I3, I3.kIn⟩, ?_⟩) hst hpl
  exact run_cmS F hr (hx σ) I3 rv q2
end
/-! ### a written dict with text keys, asked within a comprehension -/
theorem op_notIn_kdK {X : Cx} {K : PySem.W.Frag} {w : World} {d : Addr} {es : Array DictEntry} {n : Nat} (h : X.K = K) (hw : X.w = w) (D : KDict K w d es n) : OpR X (compareOp .NotIn) (fun x y H Q => ∃ (z : Str) (r : Option Value), x = .str z ∧ y = .ref d ∧ PySem.W.nsIn K d z = some r ∧ Q (.bl (!r.isSome)) H) := by
  subst h
  subst hw
  exact op_notIn_kd D
theorem op_in_kdK {X : Cx} {K : PySem.W.Frag} {w : World} {d : Addr} {es : Array DictEntry} {n : Nat} (h : X.K = K) (hw : X.w = w) (D : KDict K w d es n) : OpR X (compareOp .In) (fun x y H Q => ∃ (z : Str) (r : Option Value), x = .str z ∧ y = .ref d ∧ PySem.W.nsIn K d z = some r ∧ Q (.bl r.isSome) H) := by
  subst h
  subst hw
  exact op_in_kd D
/-- what a written dict says of a text, read off its keys -/
theorem ns_miss {K : PySem.W.Frag} {d : Addr} {c : Value} {dd : Option Addr} {es : Array DictEntry} {n : Nat} {sl : Array (Option Value)} {ks : List (Str × Tok)} {z : Str} (hl : K.lookup d = some ⟨c, dd, .dict es n, sl⟩) (hk : es.toList.map (·.key) = ks.map fun p => Value.str p.1 p.2) (hz : z ∉ ks.map (·.1)) :
    PySem.W.nsIn K d z = some none := by
  have q : ∀ (l : List DictEntry) (ks : List (Str × Tok)), l.map (·.key) = ks.map (fun p => Value.str p.1 p.2) → z ∉ ks.map (·.1) → l.find? (·.key.isStr z) = none ∧ l.any (·.refKey) = false := by
    intro l
    induction l with
    | nil => intro ks _ _; exact ⟨rfl, rfl⟩
    | cons e l ih =>
      intro ks h hz
      cases ks with
      | nil => cases h
      | cons p ks =>
        rw [List.map_cons, List.map_cons] at h
        have h1 := (List.cons.inj h).1
        have h2 := (List.cons.inj h).2
        rw [List.map_cons] at hz
        have hz1 : z ≠ p.1 := fun e => hz (by rw [e]; exact List.mem_cons_self ..)
        obtain ⟨i1, i2⟩ := ih ks h2 fun m => hz (List.mem_cons_of_mem _ m)
        have e1 : e.key.isStr z = false := by
          rw [h1]
          cases hb : (Value.str p.1 p.2).isStr z with
          | false => rfl
          | true =>
            exfalso
            refine hz1 ?_
            have := hb
            unfold Value.isStr at this
            first
              | exact (beq_iff_eq.mp this).symm
              | exact beq_iff_eq.mp this
              | exact (of_decide_eq_true this).symm
              | exact of_decide_eq_true this
        have e2 : e.refKey = false := by
          unfold DictEntry.refKey
          rw [h1]
        refine ⟨by rw [List.find?_cons, e1]; exact i1, by rw [List.any_cons, e2, i2]; rfl⟩
  obtain ⟨q1, q2⟩ := q _ _ hk hz
  unfold PySem.W.nsIn
  rw [hl]
  dsimp only
  rw [q1]
  dsimp only
  rw [q2]
  rfl
end L2.Wk
namespace L2.Wk
open PySem PySem.Spec PyProof.Rows
/-- x is True, x is False: x any plain value or object -/
inductive Plain : V → Prop
  | non : Plain .non
  | bl (b : Bool) : Plain (.bl b)
  | int (i : Int) : Plain (.int i)
  | str (z : Str) : Plain (.str z)
  | ref (a : Addr) : Plain (.ref a)
def rIsBA : R2 := fun x y H Q => ∃ b : Bool, y = .bl b ∧ Plain x ∧ Q (.bl (decide (x = .bl b))) H
theorem op_isBlA {X : Cx} : OpR X (compareOp .Is) rIsBA := by
  intro pins s σ H x y v u Q I rx ry h
  obtain ⟨b, rfl, p, q⟩ := h
  cases (show u = Value.bool b from ry)
  cases p with
  | bl a =>
    cases (show v = Value.bool a from rx)
    by_cases e : a = b
    · subst e
      exact wpAny_is_self rfl ⟨.bl true, H, I, rfl, by simpa using q⟩
    · exact wpAny_is_other rfl (fun z => e (Value.bool.inj z)) ⟨.bl false, H, I, rfl, by simpa [e] using q⟩
  | non =>
    cases (show v = Value.none from rx)
    exact wpAny_is_other rfl (fun z => nomatch z) ⟨.bl false, H, I, rfl, by simpa using q⟩
  | int i =>
    obtain ⟨t, e⟩ := (show ∃ t, v = Value.int i t from rx)
    subst e
    exact wpAny_is_other rfl (fun z => nomatch z) ⟨.bl false, H, I, rfl, by simpa using q⟩
  | str z =>
    obtain ⟨t, e⟩ := (show ∃ t, v = Value.str z t from rx)
    subst e
    exact wpAny_is_other rfl (fun z => nomatch z) ⟨.bl false, H, I, rfl, by simpa using q⟩
  | ref a =>
    cases (show v = Value.ref a from rx)
    exact wpAny_is_other rfl (fun z => nomatch z) ⟨.bl false, H, I, rfl, by simpa using q⟩
/-- a comprehension over zip of two lists of one length -/
theorem lc_zipL {K : PySem.W.Frag} {a b : Addr} {xs ys : List V} {g : TG} {tt : TT} {te : TE} {vs : List Nat} {σ : L2.St} {H1 : Hp} {D : Addr} {Qd : Hp → Prop} (hl : xs.length = ys.length) (Pv : Nat → Hp → Prop) (h0 : Pv 0 (upd H1 D (.lst []))) (hq : ∀ i H, Pv i H → SqL K H a xs ∧ SqL K H b ys)
    (hs : ∀ i x y T H, xs[i]? = some x → ys[i]? = some y → Pv i H → H T = none → g (.ref T) (wipe σ vs) (upd H T (.tup [x, y])) fun σ2 H2 => wipe σ2 vs = wipe σ vs ∧ tt σ2 H2 fun b H3 =>
      if b = true then te σ2 H3 fun y H4 => ∃ acc, H4 D = some (.lst acc) ∧ acc.length < sizeLine ∧ Pv (i + 1) (upd H4 D (.lst (acc ++ [y]))) else Pv (i + 1) H3) (hd : ∀ H, Pv xs.length H → Qd H) :
    ∃ W : Nat → Nat → Hp → Prop, (∃ m, W 0 m (upd H1 D (.lst []))) ∧ ∀ i m H, W i m H →
      ((Itz K a b).stop i H ∧ Qd H) ∨ ((Itz K a b).go i H ∧ ∃ Nx : Hp → Prop, (∀ H', Nx H' → ∃ m', m' < m ∧ W (i + 1) m' H') ∧ ∀ x H', (Itz K a b).yld i H x H' → g x (wipe σ vs) H' fun σ2 H2 => wipe σ2 vs = wipe σ vs ∧ tt σ2 H2 fun b H3 =>
        if b = true then te σ2 H3 fun y H4 => ∃ acc, H4 D = some (.lst acc) ∧ acc.length < sizeLine ∧ Nx (upd H4 D (.lst (acc ++ [y]))) else Nx H3) := by
  refine ⟨fun i m H => m = xs.length - i ∧ i ≤ xs.length ∧ Pv i H, ⟨xs.length, by simp, Nat.zero_le _, h0⟩, ?_⟩
  rintro i m H ⟨rfl, hi, p⟩
  obtain ⟨qx, qy⟩ := hq i H p
  by_cases hlt : i < xs.length
  · have hx : xs[i]? = some xs[i] := List.getElem?_eq_getElem hlt
    have hlt2 : i < ys.length := by omega
    have hy : ys[i]? = some ys[i] := List.getElem?_eq_getElem hlt2
    refine .inr ⟨⟨xs, ys, _, _, qx, qy, hx, hy⟩, Pv (i + 1), fun H' p' => ⟨xs.length - (i + 1), by omega, rfl, hlt, p'⟩, fun v H' y => ?_⟩
    obtain ⟨T, x', y', rfl, hT, rfl, f1, f2⟩ := y
    exact hs i x' y' T H (f1 xs qx) (f2 ys qy) p hT
  · have e : i = xs.length := by omega
    subst e
    exact .inl ⟨⟨xs, ys, qx, qy, Or.inl (Nat.le_refl _)⟩, hd H p⟩
theorem fn_weak' {P : Program} {w : World} {K : PySem.W.Frag} {mg : Str → Option Value} {base : Heap} {CX : CXT} {k : Nat} {f : Addr} {fd : FuncData} {ps : List Str} {sp sp' : Sp} (F : FnOk P w K mg base CX k f fd ps sp) (h : ∀ vs H Q E, sp' vs H Q E → sp vs H Q E) : FnOk P w K mg base CX k f fd ps sp' :=
  ⟨fun vs H Q E q => F.len vs H Q E (h _ _ _ _ q), fun A outer s H args us vs Q E hr he hb hv q => F.run A outer s H args us vs Q E hr he hb hv (h _ _ _ _ q)⟩
end L2.Wk
namespace L2.Wk
open PySem PySem.Spec PyProof.Rows
/-! ### d.get(text, x), d a written dict with text keys -/
section
variable {X : Cx} {w : World} {K : PySem.W.Frag} {d : Addr} {es : Array DictEntry} {n : Nat} {pins : List (Addr × Obj)} {σ : L2.St} {H : Hp} {s : Shared} {A : Around} {E : Value → Shared → Prop}
theorem kd_get2 {Q : Value → Shared → Prop} {z : Str} {t : Tok} {r : Option Value} {f : Value} (D : KDict X.K X.w d es n) (I : Inv X pins σ H s) (e : PySem.W.nsIn X.K d z = some r) (h : ∀ tk, Q (r.getD f) { s with toks := tk }) :
    wpAny (model X.prog X.w) A (call (.builtin "dict.get") [.ref d, .str z t, f]) Q E s := by
  have m := PySem.W.mapOf_K (prog := X.prog) (w := X.w) I.kIn D.at_ D.lit
  refine call_meetsIn PySem.F.slot_dict_get m.typeIs PySem.F.entry_dict_get (PySem.F.args_dict_get_3 _ _ _) (meets_dict_get_default (strKind X.prog X.w) d (PySem.strKind_is X.prog X.w z t) D.low f) ⟨_, m, ?_⟩
  rw [PySem.W.find_K D.at_ e]
  exact h _
def tKGet2 (K : PySem.W.Frag) (d : Addr) (ty tx : TE) : TE := fun σ H Q => ty σ H fun y H2 => tx σ H2 fun z H3 => ∃ (k : Str) (r : Option Value) (v : V), y = .str k ∧ PySem.W.nsIn K d k = some r ∧ (∀ f, RelV z f → RelV v (r.getD f)) ∧ Q v H3
theorem pe_kget2 {o e f : Expr} {apos cpos : Pos} {ty tx : TE} (hK : X.K = K) (hw : X.w = w) (D : KDict K w d es n) (ho : PE X o (tC (.ref d))) (he : PE X e ty) (hf : PE X f tx) (m : M2 X o "get" apos e f cpos) : PE X (.Call (.Attribute o "get" apos) [e, f] [] cpos) (tKGet2 K d ty tx) := by
  subst hK
  subst hw
  refine ⟨fun pins s σ H Q I h => ?_⟩
  refine wpAny_Call_method m.base m.few m.line PySem.F.plainAttrs_dict PySem.F.slot_dict_get PySem.F.type_dict_get (thn (ho.run pins s σ H (fun x H1 => x = .ref d ∧ tKGet2 X.K d ty tx σ H1 Q) I ⟨rfl, h⟩) fun u s1 ⟨x, H1, I1, rx, ex, q1⟩ => ?_)
  subst ex
  obtain rfl : u = Value.ref d := rx
  refine ⟨kd_type D I1, ?_, ?_⟩
  · intro b hb
    cases hb
    exact ⟨_, I1.kIn _ _ D.at_, rfl⟩
  rw [m.trees]
  refine Calls.callWith_builtin rfl (Calls.evalArgs_plain (Calls.spliced_cons (thn (he.run pins s1 σ H1 _ I1 q1) fun iv s2 ⟨y, H2, I2, ry, q2⟩ =>
    Calls.spliced_cons (thn (hf.run pins s2 σ H2 _ I2 q2) fun fv s3 ⟨z, H3, I3, rz, k, r, v, ey, en, rv, q3⟩ => Calls.spliced_nil ?_))))
  subst ey
  obtain ⟨t, rfl⟩ := ry
  exact kd_get2 D I3 en fun tk => ⟨v, H3, I3.tok _, rv _ rz, q3⟩
end
end L2.Wk
namespace L2.Wk
open PySem PySem.Spec PyProof.Rows
/-! ### values as trees -/
inductive Tv where
  | non | bl (b : Bool) | int (i : Int) | str (x : Str) | ty (n : String) | adr (a : Addr)
  | lst (xs : List Tv) | tup (xs : List Tv) | wtp (xs : List Tv) | ins (C : Addr) (fs : List (Str × Tv))
  | dct (kvs : List (Key × Tv)) | dtt (kvs : List (List Key × Tv))
mutual
inductive Rep (K : PySem.W.Frag) (H : Hp) : Tv → V → Prop
  | non : Rep K H .non .non
  | bl (b : Bool) : Rep K H (.bl b) (.bl b)
  | int (i : Int) : Rep K H (.int i) (.int i)
  | str (x : Str) : Rep K H (.str x) (.str x)
  | ty (n : String) : Rep K H (.ty n) (.ty n)
  | adr (a : Addr) : Rep K H (.adr a) (.ref a)
  | lst {a : Addr} {vs : List V} {ts : List Tv} (h : H a = some (.lst vs)) (r : Reps K H ts vs) : Rep K H (.lst ts) (.ref a)
  | tup {a : Addr} {vs : List V} {ts : List Tv} (h : H a = some (.tup vs)) (r : Reps K H ts vs) : Rep K H (.tup ts) (.ref a)
  /-- a tuple of the module -/
  | wtp {a : Addr} {vs : List V} {ts : List Tv} (h : SqT K H a vs) (r : Reps K H ts vs) : Rep K H (.wtp ts) (.ref a)
  | ins {a C dx : Addr} {vs : List (Str × V)} {fs : List (Str × Tv)} (h : H a = some (.ins C dx vs)) (e : fs.map Prod.fst = vs.map Prod.fst) (r : Reps K H (fs.map Prod.snd) (vs.map Prod.snd)) : Rep K H (.ins C fs) (.ref a)
  | dct {a : Addr} {vs : List (Key × V)} {fs : List (Key × Tv)} (h : H a = some (.dK vs)) (e : fs.map Prod.fst = vs.map Prod.fst) (r : Reps K H (fs.map Prod.snd) (vs.map Prod.snd)) : Rep K H (.dct fs) (.ref a)
  | dtt {a : Addr} {vs : List (List Key × V)} {fs : List (List Key × Tv)} (h : H a = some (.dT vs)) (e : fs.map Prod.fst = vs.map Prod.fst) (r : Reps K H (fs.map Prod.snd) (vs.map Prod.snd)) : Rep K H (.dtt fs) (.ref a)
inductive Reps (K : PySem.W.Frag) (H : Hp) : List Tv → List V → Prop
  | nil : Reps K H [] []
  | cons {t : Tv} {v : V} {ts : List Tv} {vs : List V} (h : Rep K H t v) (r : Reps K H ts vs) : Reps K H (t :: ts) (v :: vs)
end
mutual
theorem Rep.mono {K : PySem.W.Frag} {H H' : Hp} (s : Same H H') : ∀ {t : Tv} {v : V}, Rep K H t v → Rep K H' t v
  | _, _, .non => .non
  | _, _, .bl b => .bl b
  | _, _, .int i => .int i
  | _, _, .str x => .str x
  | _, _, .ty n => .ty n
  | _, _, .adr a => .adr a
  | _, _, .lst h r => .lst (s _ _ h) (Reps.mono s r)
  | _, _, .tup h r => .tup (s _ _ h) (Reps.mono s r)
  | _, _, .wtp h r => .wtp (Same.sqT s h) (Reps.mono s r)
  | _, _, .ins h e r => .ins (s _ _ h) e (Reps.mono s r)
  | _, _, .dct h e r => .dct (s _ _ h) e (Reps.mono s r)
  | _, _, .dtt h e r => .dtt (s _ _ h) e (Reps.mono s r)
theorem Reps.mono {K : PySem.W.Frag} {H H' : Hp} (s : Same H H') : ∀ {ts : List Tv} {vs : List V}, Reps K H ts vs → Reps K H' ts vs
  | _, _, .nil => .nil
  | _, _, .cons h r => .cons (Rep.mono s h) (Reps.mono s r)
end
section
variable {K : PySem.W.Frag} {H H' S S' : Hp}
theorem Reps.len : ∀ {ts : List Tv} {vs : List V}, Reps K H ts vs → ts.length = vs.length
  | _, _, .nil => rfl
  | _, _, .cons _ r => by rw [List.length_cons, List.length_cons, Reps.len r]
theorem Reps.get : ∀ {ts : List Tv} {vs : List V} {i : Nat} {v : V}, Reps K H ts vs → vs[i]? = some v → ∃ t, ts[i]? = some t ∧ Rep K H t v
  | _, _, i, _, .nil, e => by simp at e
  | _, _, 0, _, .cons h _, e => by
    simp only [List.getElem?_cons_zero, Option.some.injEq] at e
    subst e
    exact ⟨_, rfl, h⟩
  | _, _, i + 1, _, .cons _ r, e => by
    obtain ⟨t, h1, h2⟩ := Reps.get (i := i) r (by simpa using e)
    exact ⟨t, by simpa using h1, h2⟩
theorem Reps.getT : ∀ {ts : List Tv} {vs : List V} {i : Nat} {t : Tv}, Reps K H ts vs → ts[i]? = some t → ∃ v, vs[i]? = some v ∧ Rep K H t v
  | _, _, i, _, .nil, e => by simp at e
  | _, _, 0, _, .cons h _, e => by
    simp only [List.getElem?_cons_zero, Option.some.injEq] at e
    subst e
    exact ⟨_, rfl, h⟩
  | _, _, i + 1, _, .cons _ r, e => by
    obtain ⟨t, h1, h2⟩ := Reps.getT (i := i) r (by simpa using e)
    exact ⟨t, by simpa using h1, h2⟩
theorem Reps.app : ∀ {ts us : List Tv} {vs ws : List V}, Reps K H ts vs → Reps K H us ws → Reps K H (ts ++ us) (vs ++ ws)
  | _, _, _, _, .nil, s => s
  | _, _, _, _, .cons h r, s => .cons h (Reps.app r s)
theorem Reps.one {t : Tv} {v : V} (h : Rep K H t v) : Reps K H [t] [v] := .cons h .nil
theorem Reps.take : ∀ {ts : List Tv} {vs : List V} (n : Nat), Reps K H ts vs → Reps K H (ts.take n) (vs.take n)
  | _, _, 0, _ => .nil
  | _, _, _ + 1, .nil => .nil
  | _, _, n + 1, .cons h r => .cons h (Reps.take n r)
theorem Reps.drop : ∀ {ts : List Tv} {vs : List V} (n : Nat), Reps K H ts vs → Reps K H (ts.drop n) (vs.drop n)
  | _, _, 0, h => h
  | _, _, _ + 1, .nil => .nil
  | _, _, n + 1, .cons _ r => Reps.drop n r
theorem Reps.rev : ∀ {ts : List Tv} {vs : List V}, Reps K H ts vs → Reps K H ts.reverse vs.reverse
  | _, _, .nil => .nil
  | _, _, .cons h r => by
    rw [List.reverse_cons, List.reverse_cons]
    exact Reps.app (Reps.rev r) (.one h)
theorem Reps.dropLast : ∀ {ts : List Tv} {vs : List V}, Reps K H ts vs → Reps K H ts.dropLast vs.dropLast := fun {ts vs} r => by
  rw [List.dropLast_eq_take, List.dropLast_eq_take, r.len]
  exact r.take _
theorem Reps.erase : ∀ {ts : List Tv} {vs : List V} (n : Nat), Reps K H ts vs → Reps K H (ts.eraseIdx n) (vs.eraseIdx n)
  | _, _, _, .nil => .nil
  | _, _, 0, .cons _ r => r
  | _, _, n + 1, .cons h r => .cons h (Reps.erase n r)
theorem Reps.set : ∀ {ts : List Tv} {vs : List V} (n : Nat) {t : Tv} {v : V}, Rep K H t v → Reps K H ts vs → Reps K H (ts.set n t) (vs.set n v)
  | _, _, _, _, _, _, .nil => .nil
  | _, _, 0, _, _, h, .cons _ r => .cons h r
  | _, _, n + 1, _, _, h, .cons h' r => .cons h' (Reps.set n h r)
/-- scalars -/
def tV : Tv → Option V
  | .non => some .non
  | .bl b => some (.bl b)
  | .int i => some (.int i)
  | .str x => some (.str x)
  | .ty n => some (.ty n)
  | .adr a => some (.ref a)
  | _ => none
def vT : V → Tv
  | .non => .non
  | .bl b => .bl b
  | .int i => .int i
  | .str x => .str x
  | .ty n => .ty n
  | .ref a => .adr a
  | _ => .non
def okV : V → Bool
  | .byt _ => false
  | .flt _ => false
  | _ => true
theorem Rep.tV {t : Tv} {v x : V} (h : Rep K H t v) (e : Wk.tV t = some x) : v = x := by
  cases h <;> first | (injection e) | cases e
theorem Rep.vT {v : V} (h : okV v = true) : Rep K H (Wk.vT v) v := by
  cases v <;> first | constructor | cases h
/-! ### an object of one's own, that may change -/
inductive OwnAt (K : PySem.W.Frag) (S H : Hp) (a : Addr) : Tv → Prop
  | lst {vs : List V} {ts : List Tv} (h : H a = some (.lst vs)) (r : Reps K S ts vs) : OwnAt K S H a (.lst ts)
  | ins {C dx : Addr} {vs : List (Str × V)} {fs : List (Str × Tv)} (h : H a = some (.ins C dx vs)) (e : fs.map Prod.fst = vs.map Prod.fst) (r : Reps K S (fs.map Prod.snd) (vs.map Prod.snd)) : OwnAt K S H a (.ins C fs)
  | dct {vs : List (Key × V)} {fs : List (Key × Tv)} (h : H a = some (.dK vs)) (e : fs.map Prod.fst = vs.map Prod.fst) (r : Reps K S (fs.map Prod.snd) (vs.map Prod.snd)) : OwnAt K S H a (.dct fs)
  | dtt {vs : List (List Key × V)} {fs : List (List Key × Tv)} (h : H a = some (.dT vs)) (e : fs.map Prod.fst = vs.map Prod.fst) (r : Reps K S (fs.map Prod.snd) (vs.map Prod.snd)) : OwnAt K S H a (.dtt fs)
theorem OwnAt.mono {a : Addr} {t : Tv} (h : OwnAt K S H a t) (s : Same S S') (e : ∀ o, H a = some o → H' a = some o) : OwnAt K S' H' a t := by
  cases h with
  | lst h r => exact .lst (e _ h) (r.mono s)
  | ins h k r => exact .ins (e _ h) k (r.mono s)
  | dct h k r => exact .dct (e _ h) k (r.mono s)
  | dtt h k r => exact .dtt (e _ h) k (r.mono s)
theorem OwnAt.some {a : Addr} {t : Tv} (h : OwnAt K S H a t) : ∃ o, H a = Option.some o := by
  cases h <;> exact ⟨_, by assumption⟩
theorem OwnAt.rep {a : Addr} {t : Tv} (h : OwnAt K S H a t) (s : Same S S') (e : ∀ o, H a = Option.some o → S' a = Option.some o) : Rep K S' t (.ref a) := by
  cases h with
  | lst h r => exact .lst (e _ h) (r.mono s)
  | ins h k r => exact .ins (e _ h) k (r.mono s)
  | dct h k r => exact .dct (e _ h) k (r.mono s)
  | dtt h k r => exact .dtt (e _ h) k (r.mono s)
/-- what can be read: a value that stands, or an object of one's own -/
def Lk (K : PySem.W.Frag) (S H : Hp) (t : Tv) (v : V) : Prop := Rep K S t v ∨ ∃ a, v = .ref a ∧ OwnAt K S H a t
theorem Lk.lst {ts : List Tv} {v : V} (s : Same S H) (h : Lk K S H (.lst ts) v) : ∃ a vs, v = .ref a ∧ H a = some (.lst vs) ∧ Reps K S ts vs := by
  rcases h with h | ⟨a, rfl, h⟩
  · cases h with | lst h r => exact ⟨_, _, rfl, s _ _ h, r⟩
  · cases h with | lst h r => exact ⟨_, _, rfl, h, r⟩
theorem Lk.tup {ts : List Tv} {v : V} (s : Same S H) (h : Lk K S H (.tup ts) v) : ∃ a vs, v = .ref a ∧ SqT K H a vs ∧ Reps K S ts vs := by
  rcases h with h | ⟨a, rfl, h⟩
  · cases h with | tup h r => exact ⟨_, _, rfl, .of (s _ _ h), r⟩
  · cases h
theorem Lk.tupA {ts : List Tv} {v : V} (s : Same S H) (h : Lk K S H (.tup ts) v) : ∃ a vs, v = .ref a ∧ H a = some (.tup vs) ∧ Reps K S ts vs := by
  rcases h with h | ⟨a, rfl, h⟩
  · cases h with | tup h r => exact ⟨_, _, rfl, s _ _ h, r⟩
  · cases h
theorem Lk.wtp {ts : List Tv} {v : V} (s : Same S H) (h : Lk K S H (.wtp ts) v) : ∃ a vs, v = .ref a ∧ SqT K H a vs ∧ Reps K S ts vs := by
  rcases h with h | ⟨a, rfl, h⟩
  · cases h with | wtp h r => exact ⟨_, _, rfl, Same.sqT s h, r⟩
  · cases h
theorem Lk.ins {C : Addr} {fs : List (Str × Tv)} {v : V} (s : Same S H) (h : Lk K S H (.ins C fs) v) : ∃ a dx vs, v = .ref a ∧ H a = some (.ins C dx vs) ∧ fs.map Prod.fst = vs.map Prod.fst ∧ Reps K S (fs.map Prod.snd) (vs.map Prod.snd) := by
  rcases h with h | ⟨a, rfl, h⟩
  · cases h with | ins h e r => exact ⟨_, _, _, rfl, s _ _ h, e, r⟩
  · cases h with | ins h e r => exact ⟨_, _, _, rfl, h, e, r⟩
theorem Lk.dct {fs : List (Key × Tv)} {v : V} (s : Same S H) (h : Lk K S H (.dct fs) v) : ∃ a vs, v = .ref a ∧ H a = some (.dK vs) ∧ fs.map Prod.fst = vs.map Prod.fst ∧ Reps K S (fs.map Prod.snd) (vs.map Prod.snd) := by
  rcases h with h | ⟨a, rfl, h⟩
  · cases h with | dct h e r => exact ⟨_, _, rfl, s _ _ h, e, r⟩
  · cases h with | dct h e r => exact ⟨_, _, rfl, h, e, r⟩
theorem Lk.dtt {fs : List (List Key × Tv)} {v : V} (s : Same S H) (h : Lk K S H (.dtt fs) v) : ∃ a vs, v = .ref a ∧ H a = some (.dT vs) ∧ fs.map Prod.fst = vs.map Prod.fst ∧ Reps K S (fs.map Prod.snd) (vs.map Prod.snd) := by
  rcases h with h | ⟨a, rfl, h⟩
  · cases h with | dtt h e r => exact ⟨_, _, rfl, s _ _ h, e, r⟩
  · cases h with | dtt h e r => exact ⟨_, _, rfl, h, e, r⟩
theorem Lk.tV {t : Tv} {v x : V} (h : Lk K S H t v) (e : Wk.tV t = some x) : v = x := by
  rcases h with h | ⟨a, rfl, h⟩
  · exact h.tV e
  · cases h <;> cases e
theorem Lk.mono {t : Tv} {v : V} (h : Rep K S t v) (s : Same S S') : Lk K S' H' t v := .inl (h.mono s)
end
/-! ### the frame of a def's run -/
inductive Sl where
  | val (t : Tv)
  | own (t : Tv)
  /-- an object of one's own whose address is told: self -/
  | slf (a : Addr) (t : Tv)
def Sl.mine : Sl → Option Tv
  | .val _ => none
  | .own t => some t
  | .slf _ t => some t
abbrev Ev := List (Option Sl)
/-- what calls may change besides: the addresses M, of which I is known -/
structure Rs where
  M : Addr → Prop
  I : Hp → Hp → Prop
  mono : ∀ {S S' H H' : Hp}, Same S S' → (∀ b, M b → H' b = H b) → I S H → I S' H'
  alloc : ∀ {S H : Hp} {b : Addr}, I S H → M b → ∃ o, H b = some o
  /-- what is wanted of an error, and what is told of it: its class, its field's name and value -/
  E : L2.St → XK := fun _ _ _ _ => False
  X : Ev → Addr → Str → Tv → Prop := fun _ _ _ _ => False
def Rs.pure : Rs := { M := fun _ => False, I := fun _ _ => True, mono := fun _ _ _ => trivial, alloc := fun _ h => h.elim }
/-- the same, with errors -/
def Rs.ex (R : Rs) (E : L2.St → XK) (X : Ev → Addr → Str → Tv → Prop) : Rs := { R with E := E, X := X }
structure Fr where
  K : PySem.W.Frag
  R : Rs
  H0 : Hp
  S0 : Hp
def Mine (F : Fr) (S : Hp) (a : Addr) : Prop := S a = none ∧ F.H0 a = none ∧ ¬ F.R.M a
def SlOk (F : Fr) (S H : Hp) : Sl → V → Prop
  | .val t, v => Rep F.K S t v
  | .own t, v => ∃ a, v = .ref a ∧ Mine F S a ∧ OwnAt F.K S H a t
  | .slf a t, v => v = .ref a ∧ Mine F S a ∧ OwnAt F.K S H a t
theorem SlOk.mine {F : Fr} {S H : Hp} {s : Sl} {v : V} {t : Tv} (h : SlOk F S H s v) (e : s.mine = some t) : ∃ a, v = .ref a ∧ Mine F S a ∧ OwnAt F.K S H a t := by
  cases s with
  | val u => cases e
  | own u =>
    injection e with e
    subst e
    exact h
  | slf a u =>
    injection e with e
    subst e
    exact ⟨a, h⟩
structure EvR0 (F : Fr) (σ : L2.St) (τ : Ev) (S H : Hp) : Prop where
  s0 : Same F.S0 S
  sH : Same S H
  fr : ∀ b o, F.H0 b = some o → ¬ F.R.M b → H b = some o
  nw : ∀ b, S b ≠ none → F.S0 b ≠ none ∨ F.H0 b = none
  res : F.R.I S H
  off : ∀ b, F.R.M b → S b = none
  len : τ.length = σ.length
  sl : ∀ (i : Nat) (s : Sl), τ[i]? = some (some s) → ∃ v, σ[i]? = some (some v) ∧ SlOk F S H s v
  dj : ∀ (i j : Nat) (s s' : Sl) (t t' : Tv) (v v' : V), i ≠ j → τ[i]? = some (some s) → s.mine = some t → τ[j]? = some (some s') → s'.mine = some t' → σ[i]? = some (some v) → σ[j]? = some (some v') → v ≠ v'
/-- an error's way out -/
def ExOk (F : Fr) : Prop := ∀ (σ : L2.St) (τ : Ev) (S H : Hp) (C d : Addr) (g : Str) (v : V) (t : Tv), EvR0 F σ τ S H → H d = none → Rep F.K S t v → F.R.X τ C g t → F.R.E σ (.ref C) (some d) (upd H d (.xd [(g, v)]))
structure EvR (F : Fr) (σ : L2.St) (τ : Ev) (S H : Hp) : Prop extends EvR0 F σ τ S H where
  ex : ExOk F
/-- not an object of a slot's own -/
def Apart (σ : L2.St) (τ : Ev) (a : Addr) : Prop := ∀ (j : Nat) (s : Sl) (t : Tv), τ[j]? = some (some s) → s.mine = some t → σ[j]? ≠ some (some (.ref a))
section
variable {F : Fr} {σ : L2.St} {τ : Ev} {S H S' H' : Hp}
theorem EvR.h0 (E : EvR F σ τ S H) {p : Addr} (hp : H p = none) : F.H0 p = none ∧ ¬ F.R.M p ∧ S p = none := by
  have hM : ¬ F.R.M p := fun m => by
    obtain ⟨o, e⟩ := F.R.alloc E.res m
    rw [hp] at e
    cases e
  refine ⟨?_, hM, ?_⟩
  · cases q : F.H0 p with
    | none => rfl
    | some o =>
      have := E.fr p o q hM
      rw [hp] at this
      cases this
  · cases q : S p with
    | none => rfl
    | some o =>
      have := E.sH p o q
      rw [hp] at this
      cases this
theorem EvR.mine (E : EvR F σ τ S H) {p : Addr} (hp : H p = none) : Mine F S p := ⟨(E.h0 hp).2.2, (E.h0 hp).1, (E.h0 hp).2.1⟩
theorem EvR.apart (E : EvR F σ τ S H) {p : Addr} (hp : H p = none) : Apart σ τ p := fun j s t hj hm hv => by
  obtain ⟨v, h1, h0⟩ := E.sl j _ hj
  obtain ⟨a, rfl, _, h2⟩ := h0.mine hm
  rw [hv] at h1
  injection h1 with h1
  injection h1 with h1
  injection h1 with h1
  obtain ⟨o, e⟩ := h2.some
  rw [← h1, hp] at e
  cases e
theorem EvR.apartS (E : EvR F σ τ S H) {p : Addr} {o : HO} (hp : S p = some o) : Apart σ τ p := fun j s t hj hm hv => by
  obtain ⟨v, h1, h0⟩ := E.sl j _ hj
  obtain ⟨a, rfl, h3, h2⟩ := h0.mine hm
  rw [hv] at h1
  injection h1 with h1
  injection h1 with h1
  injection h1 with h1
  have := h3.1
  rw [← h1, hp] at this
  cases this
theorem upd_all {H : Hp} {p b : Addr} {o u : HO} (h : upd H p o b = some u) : b = p ∧ u = o ∨ b ≠ p ∧ H b = some u := by
  unfold upd at h
  split at h
  · rename_i e
    exact .inl ⟨e, (Option.some.inj h).symm⟩
  · rename_i e
    exact .inr ⟨e, h⟩
theorem same_upd2 {S H : Hp} {p : Addr} {o : HO} (s : Same S H) : Same (upd S p o) (upd H p o) := fun b u e => by
  rcases upd_all e with ⟨rfl, rfl⟩ | ⟨ne, e⟩
  · exact upd_same
  · rw [upd_ne ne]
    exact s _ _ e
theorem same_updR {S H : Hp} {p : Addr} {o : HO} (s : Same S H) (h : S p = none) : Same S (upd H p o) := fun b u e => by
  rw [upd_ne (ne_of_none e h)]
  exact s _ _ e
/-- the heap goes on: what one's own objects and the resource are stays -/
theorem EvR.go (E : EvR F σ τ S H) (s : Same S S') (sH : Same S' H') (fr : ∀ b o, H b = some o → S b = some o ∨ F.H0 b = some o ∧ ¬ F.R.M b ∨ ¬ Apart σ τ b → H' b = some o) (nw : ∀ b, S' b ≠ none → S b ≠ none ∨ H b = none) (res : F.R.I S' H') (off : ∀ b, F.R.M b → S' b = none) : EvR F σ τ S' H' := by
  refine ⟨⟨E.s0.trans s, sH, fun b o e m => fr b o (E.fr b o e m) (.inr (.inl ⟨e, m⟩)), fun b h => ?_, res, off, E.len, fun i sl h => ?_, E.dj⟩, E.ex⟩
  · rcases nw b h with h | h
    · exact E.nw b h
    · exact .inr (E.h0 h).1
  · obtain ⟨v, h1, h2⟩ := E.sl i sl h
    refine ⟨v, h1, ?_⟩
    have own : ∀ {t a}, sl.mine = some t → v = .ref a → Mine F S a → OwnAt F.K S H a t → Mine F S' a ∧ OwnAt F.K S' H' a t := fun {t a} hm hv ⟨m1, m2, m3⟩ h3 => by
      refine ⟨⟨?_, m2, m3⟩, h3.mono s fun o e => fr a o e (.inr (.inr fun ap => ap i sl t h hm (hv ▸ h1)))⟩
      cases q : S' a with
      | none => rfl
      | some o =>
        rcases nw a (by rw [q]; exact fun z => by cases z) with z | z
        · exact absurd m1 z
        · obtain ⟨o', e⟩ := h3.some
          rw [z] at e
          cases e
    cases sl with
    | val t => exact h2.mono s
    | own t =>
      obtain ⟨a, rfl, m, h3⟩ := h2
      exact ⟨a, rfl, own rfl rfl m h3⟩
    | slf a t =>
      obtain ⟨rfl, m, h3⟩ := h2
      exact ⟨rfl, own rfl rfl m h3⟩
theorem EvR.alloc_val (E : EvR F σ τ S H) {p : Addr} (o : HO) (hp : H p = none) : EvR F σ τ (upd S p o) (upd H p o) ∧ Same S (upd S p o) := by
  obtain ⟨_, hM, hS⟩ := E.h0 hp
  refine ⟨E.go (Same.upd_new hS) (same_upd2 E.sH) (fun b u e _ => by rw [upd_ne (ne_of_none e hp)]; exact e) (fun b h => ?_) (F.R.mono (Same.upd_new hS) (fun b m => upd_ne fun e => hM (e ▸ m)) E.res) fun b m => ?_, Same.upd_new hS⟩
  · by_cases e : b = p
    · exact .inr (e ▸ hp)
    · rw [upd_ne e] at h
      exact .inl h
  · rw [upd_ne (fun e : b = p => hM (e ▸ m))]
    exact E.off b m
theorem EvR.alloc_own (E : EvR F σ τ S H) {p : Addr} (o : HO) (hp : H p = none) : EvR F σ τ S (upd H p o) := by
  obtain ⟨_, hM, hS⟩ := E.h0 hp
  exact E.go (Same.refl S) (same_updR E.sH hS) (fun b u e _ => by rw [upd_ne (ne_of_none e hp)]; exact e) (fun b h => .inl h) (F.R.mono (Same.refl S) (fun b m => upd_ne fun e => hM (e ▸ m)) E.res) E.off
/-- an object of one's own is shared -/
theorem EvR.share (E : EvR F σ τ S H) {a : Addr} {t : Tv} (m : Mine F S a) (ow : OwnAt F.K S H a t) (ap : Apart σ τ a) : ∃ S', EvR F σ τ S' H ∧ Same S S' ∧ Rep F.K S' t (.ref a) := by
  obtain ⟨o, ho⟩ := ow.some
  have s : Same S (upd S a o) := Same.upd_new m.1
  have sH : Same (upd S a o) H := fun b u e => by
    rcases upd_all e with ⟨rfl, rfl⟩ | ⟨ne, e⟩
    · exact ho
    · exact E.sH _ _ e
  refine ⟨upd S a o, ?_, s, ow.rep s fun u e => by rw [ho] at e; cases e; exact upd_same⟩
  refine ⟨⟨E.s0.trans s, sH, E.fr, fun b h => ?_, F.R.mono s (fun _ _ => rfl) E.res, fun b mb => ?_, E.len, fun i sl h => ?_, E.dj⟩, E.ex⟩
  · by_cases e : b = a
    · exact .inr (e ▸ m.2.1)
    · rw [upd_ne e] at h
      exact E.nw b h
  · rw [upd_ne (fun e : b = a => m.2.2 (e ▸ mb))]
    exact E.off b mb
  · obtain ⟨v, h1, h2⟩ := E.sl i sl h
    refine ⟨v, h1, ?_⟩
    have own : ∀ {t b}, sl.mine = some t → v = .ref b → Mine F S b → OwnAt F.K S H b t → Mine F (upd S a o) b ∧ OwnAt F.K (upd S a o) H b t := fun {t b} hm hv ⟨m1, m2, m3⟩ h3 => by
      refine ⟨⟨?_, m2, m3⟩, h3.mono s fun o e => e⟩
      rw [upd_ne (fun e : b = a => ap i sl t h hm (e ▸ hv ▸ h1))]
      exact m1
    cases sl with
    | val t => exact h2.mono s
    | own t =>
      obtain ⟨b, rfl, m, h3⟩ := h2
      exact ⟨b, rfl, own rfl rfl m h3⟩
    | slf b t =>
      obtain ⟨rfl, m, h3⟩ := h2
      exact ⟨rfl, own rfl rfl m h3⟩
theorem set_get {α : Type} {l : List α} {i j : Nat} {x : α} : (l.set i x)[j]? = if i = j then (if j < l.length then some x else none) else l[j]? := by
  rw [List.getElem?_set]
  by_cases h : i = j
  · subst h
    simp
  · simp [h]
/-- a slot's own object is forgotten -/
theorem EvR.drop (E : EvR F σ τ S H) (i : Nat) : EvR F σ (τ.set i none) S H := by
  have q : ∀ {j : Nat} {s : Sl}, (τ.set i none)[j]? = some (some s) → τ[j]? = some (some s) := fun {j s} h => by
    rw [set_get] at h
    split at h
    · split at h <;> cases h
    · exact h
  exact ⟨⟨E.s0, E.sH, E.fr, E.nw, E.res, E.off, by rw [List.length_set]; exact E.len, fun j s h => E.sl j s (q h), fun a b s s' t t' v v' ne h1 m1 h2 m2 => E.dj a b s s' t t' v v' ne (q h1) m1 (q h2) m2⟩, E.ex⟩
theorem EvR.set_val (E : EvR F σ τ S H) {t : Tv} {v : V} (i : Nat) (h : Rep F.K S t v) : EvR F (σ.set i (some v)) (τ.set i (some (.val t))) S H := by
  refine ⟨⟨E.s0, E.sH, E.fr, E.nw, E.res, E.off, by rw [List.length_set, List.length_set]; exact E.len, fun j s e => ?_, fun a b s s' t1 t2 x y ne h1 m1 h2 m2 h3 h4 => ?_⟩, E.ex⟩
  · rw [set_get] at e ⊢
    split at e
    · rename_i ij
      subst ij
      split at e
      · rename_i lt
        cases e
        rw [if_pos rfl, if_pos (by rw [← E.len]; exact lt)]
        exact ⟨v, rfl, h⟩
      · cases e
    · rename_i ij
      rw [if_neg ij]
      exact E.sl j s e
  · rw [set_get] at h1 h2 h3 h4
    by_cases ia : i = a
    · rw [if_pos ia] at h1
      split at h1 <;> cases h1
      cases m1
    · by_cases ib : i = b
      · rw [if_pos ib] at h2
        split at h2 <;> cases h2
        cases m2
      · rw [if_neg ia] at h1 h3
        rw [if_neg ib] at h2 h4
        exact E.dj a b s s' t1 t2 x y ne h1 m1 h2 m2 h3 h4
theorem EvR.set_own (E : EvR F σ τ S H) {t : Tv} {a : Addr} (i : Nat) (m : Mine F S a) (ow : OwnAt F.K S H a t) (ap : Apart σ τ a) : EvR F (σ.set i (some (.ref a))) (τ.set i (some (.own t))) S H := by
  refine ⟨⟨E.s0, E.sH, E.fr, E.nw, E.res, E.off, by rw [List.length_set, List.length_set]; exact E.len, fun j s e => ?_, fun b c s s' t1 t2 x y ne h1 m1 h2 m2 h3 h4 => ?_⟩, E.ex⟩
  · rw [set_get] at e ⊢
    split at e
    · rename_i ij
      subst ij
      split at e
      · rename_i lt
        cases e
        rw [if_pos rfl, if_pos (by rw [← E.len]; exact lt)]
        exact ⟨_, rfl, a, rfl, m, ow⟩
      · cases e
    · rename_i ij
      rw [if_neg ij]
      exact E.sl j s e
  · rw [set_get] at h1 h2 h3 h4
    by_cases ia : i = b
    · rw [if_pos ia] at h3
      have ib : ¬ i = c := fun e => ne (ia.symm.trans e)
      rw [if_neg ib] at h2 h4
      split at h3
      · cases h3
        intro e
        subst e
        exact ap c s' t2 h2 m2 h4
      · cases h3
    · rw [if_neg ia] at h1 h3
      by_cases ib : i = c
      · rw [if_pos ib] at h4
        split at h4
        · cases h4
          intro e
          subst e
          exact ap b s t1 h1 m1 h3
        · cases h4
      · rw [if_neg ib] at h2 h4
        exact E.dj b c s s' t1 t2 x y ne h1 m1 h2 m2 h3 h4
/-- a slot whose value is not told any more -/
theorem EvR.set_none (E : EvR F σ τ S H) (i : Nat) (x : Option V) : EvR F (σ.set i x) (τ.set i none) S H := by
  have q : ∀ {j : Nat} {s : Sl}, (τ.set i none)[j]? = some (some s) → i ≠ j ∧ τ[j]? = some (some s) := fun {j s} h => by
    rw [set_get] at h
    split at h
    · split at h <;> cases h
    · rename_i ne
      exact ⟨ne, h⟩
  refine ⟨⟨E.s0, E.sH, E.fr, E.nw, E.res, E.off, by rw [List.length_set, List.length_set]; exact E.len, fun j s h => ?_, fun a b s s' t t' v v' ne h1 m1 h2 m2 h3 h4 => ?_⟩, E.ex⟩
  · obtain ⟨ne, h⟩ := q h
    rw [set_get, if_neg ne]
    exact E.sl j s h
  · obtain ⟨n1, h1⟩ := q h1
    obtain ⟨n2, h2⟩ := q h2
    rw [set_get, if_neg n1] at h3
    rw [set_get, if_neg n2] at h4
    exact E.dj a b s s' t t' v v' ne h1 m1 h2 m2 h3 h4
/-- a slot's own object changes -/
theorem EvR.mutG (E : EvR F σ τ S H) {i : Nat} {s0 s1 : Sl} {t t' : Tv} {a : Addr} {o : HO} (hi : τ[i]? = some (some s0)) (hm : s0.mine = some t) (hm' : s1.mine = some t') (hs : ∀ b u, s1 = .slf b u → b = a) (hv : σ[i]? = some (some (.ref a))) (ow : OwnAt F.K S (upd H a o) a t') : EvR F σ (τ.set i (some s1)) S (upd H a o) := by
  obtain ⟨v, h1, h0⟩ := E.sl i _ hi
  obtain ⟨b, rfl, m, h3⟩ := h0.mine hm
  rw [hv] at h1
  cases h1
  have ge : ∀ {j : Nat} {s : Sl}, (τ.set i (some s1))[j]? = some (some s) → j = i ∧ s = s1 ∨ j ≠ i ∧ τ[j]? = some (some s) := fun {j s} h => by
    rw [set_get] at h
    split at h
    · rename_i e
      split at h
      · cases h
        exact .inl ⟨e.symm, rfl⟩
      · cases h
    · rename_i e
      exact .inr ⟨fun z => e z.symm, h⟩
  refine ⟨⟨E.s0, same_updR E.sH m.1, fun b o e mb => ?_, E.nw, F.R.mono (Same.refl S) (fun b mb => upd_ne fun e => m.2.2 (e ▸ mb)) E.res, E.off, by rw [List.length_set]; exact E.len, fun j s h => ?_, fun b c s s' u u' x y ne h1 m1 h2 m2 h3 h4 => ?_⟩, E.ex⟩
  · rw [upd_ne (ne_of_none e m.2.1)]
    exact E.fr b o e mb
  · rcases ge h with ⟨rfl, rfl⟩ | ⟨ne, h⟩
    · refine ⟨_, hv, ?_⟩
      cases s with
      | val u => cases hm'
      | own u =>
        injection hm' with e
        subst e
        exact ⟨a, rfl, m, ow⟩
      | slf b u =>
        injection hm' with e
        subst e
        cases hs b u rfl
        exact ⟨rfl, m, ow⟩
    · obtain ⟨v, q1, q2⟩ := E.sl j s h
      refine ⟨v, q1, ?_⟩
      have keep : ∀ {u c}, s.mine = some u → v = .ref c → OwnAt F.K S H c u → OwnAt F.K S (upd H a o) c u := fun {u c} hu hc q3 => q3.mono (Same.refl S) fun o e => by
        rw [upd_ne fun z => E.dj j i _ _ _ _ _ _ ne h hu hi hm q1 hv (by rw [hc, z])]
        exact e
      cases s with
      | val u => exact q2
      | own u =>
        obtain ⟨c, rfl, m', q3⟩ := q2
        exact ⟨c, rfl, m', keep rfl rfl q3⟩
      | slf c u =>
        obtain ⟨rfl, m', q3⟩ := q2
        exact ⟨rfl, m', keep rfl rfl q3⟩
  · rcases ge h1 with ⟨e1, f1⟩ | ⟨n1, g1⟩
    · rcases ge h2 with ⟨e2, _⟩ | ⟨n2, g2⟩
      · exact absurd (e1.trans e2.symm) ne
      · exact E.dj b c _ s' _ _ x y ne (by rw [e1]; exact hi) hm g2 m2 h3 h4
    · rcases ge h2 with ⟨e2, _⟩ | ⟨n2, g2⟩
      · exact E.dj b c s _ _ _ x y ne g1 m1 (by rw [e2]; exact hi) hm h3 h4
      · exact E.dj b c s s' _ _ x y ne g1 m1 g2 m2 h3 h4
theorem EvR.mut (E : EvR F σ τ S H) {i : Nat} {t t' : Tv} {a : Addr} {o : HO} (hi : τ[i]? = some (some (.own t))) (hv : σ[i]? = some (some (.ref a))) (ow : OwnAt F.K S (upd H a o) a t') : EvR F σ (τ.set i (some (.own t'))) S (upd H a o) :=
  E.mutG hi rfl rfl (fun _ _ z => by cases z) hv ow
/-- a slot's own object is shared -/
theorem EvR.shareAt (E : EvR F σ τ S H) {i : Nat} {t : Tv} (hi : τ[i]? = some (some (.own t))) : ∃ S' a, σ[i]? = some (some (.ref a)) ∧ EvR F σ (τ.set i (some (.val t))) S' H ∧ Same S S' ∧ Rep F.K S' t (.ref a) := by
  obtain ⟨v, h1, a, rfl, m, h3⟩ := E.sl i _ hi
  have E1 := E.drop i
  have ap : Apart σ (τ.set i none) a := fun j s u hj hu hv => by
    rw [set_get] at hj
    split at hj
    · split at hj <;> cases hj
    · rename_i ne
      exact E.dj i j _ _ _ _ _ _ ne hi rfl hj hu h1 hv rfl
  obtain ⟨S', E2, s, r⟩ := E1.share m h3 ap
  refine ⟨S', a, h1, ?_, s, r⟩
  have E3 := E2.set_val i r
  rw [List.set_set] at E3
  have e : σ.set i (some (V.ref a)) = σ := by
    obtain ⟨lt, e⟩ := List.getElem?_eq_some_iff.mp h1
    rw [← e]
    exact List.set_getElem_self lt
  rw [e] at E3
  exact E3
end
end L2.Wk
namespace L2.Wk
open PySem PySem.Spec PyProof.Rows
inductive Rv where
  | val (t : Tv)
  | own (t : Tv)
  | brw (i : Nat)
def RvOk (F : Fr) (σ : L2.St) (τ : Ev) (S H : Hp) : Rv → V → Prop
  | .val t, v => Rep F.K S t v
  | .own t, v => ∃ a, v = .ref a ∧ Mine F S a ∧ OwnAt F.K S H a t ∧ Apart σ τ a
  | .brw i, v => (∃ s t, τ[i]? = some (some s) ∧ s.mine = some t) ∧ σ[i]? = some (some v)
abbrev TTE := Ev → (Rv → Ev → Prop) → Prop
abbrev TTB := Ev → (Bool → Ev → Prop) → Prop
abbrev TTA := Ev → (List Tv → Ev → Prop) → Prop
def TEr (F : Fr) (te : TE) (f : TTE) : Prop := ∀ (σ : L2.St) (τ : Ev) (S H : Hp) (Q : VK) (P : Rv → Ev → Prop), EvR F σ τ S H → f τ P →
  (∀ r τ' v S' H', Same S S' → EvR F σ τ' S' H' → RvOk F σ τ' S' H' r v → P r τ' → Q v H') → te σ H Q
def TBr (F : Fr) (tt : TT) (f : TTB) : Prop := ∀ (σ : L2.St) (τ : Ev) (S H : Hp) (Q : Bool → Hp → Prop) (P : Bool → Ev → Prop), EvR F σ τ S H → f τ P →
  (∀ b τ' S' H', Same S S' → EvR F σ τ' S' H' → P b τ' → Q b H') → tt σ H Q
def TAr (F : Fr) (ta : TA) (f : TTA) : Prop := ∀ (σ : L2.St) (τ : Ev) (S H : Hp) (Q : List V → Hp → Prop) (P : List Tv → Ev → Prop), EvR F σ τ S H → f τ P →
  (∀ ts τ' vs S' H', Same S S' → EvR F σ τ' S' H' → Reps F.K S' ts vs → P ts τ' → Q vs H') → ta σ H Q
@[reducible] def slotK (τ : Ev) (i : Nat) (ko kv : Tv → Prop) : Prop := match τ[i]? with
  | some (some (.own t)) => ko t
  | some (some (.val t)) => kv t
  | _ => False
theorem slotK_at {τ : Ev} {i : Nat} {ko kv : Tv → Prop} (h : slotK τ i ko kv) : (∃ t, τ[i]? = some (some (Sl.own t)) ∧ ko t) ∨ ∃ t, τ[i]? = some (some (Sl.val t)) ∧ kv t := by
  unfold slotK at h
  split at h
  · exact .inl ⟨_, by assumption, h⟩
  · exact .inr ⟨_, by assumption, h⟩
  · exact h.elim
@[reducible] def slotL (τ : Ev) (i : Nat) (k : Tv → Prop) : Prop := match τ[i]? with
  | some (some (.own t)) => k t
  | some (some (.slf _ t)) => k t
  | some (some (.val t)) => k t
  | _ => False
theorem slotL_at {τ : Ev} {i : Nat} {k : Tv → Prop} (h : slotL τ i k) : ∃ s t, τ[i]? = some (some s) ∧ (s = .val t ∨ s.mine = some t) ∧ k t := by
  unfold slotL at h
  split at h
  · exact ⟨_, _, by assumption, .inr rfl, h⟩
  · exact ⟨_, _, by assumption, .inr rfl, h⟩
  · exact ⟨_, _, by assumption, .inl rfl, h⟩
  · exact h.elim
@[reducible] def slotV (τ : Ev) (i : Nat) (kb : Prop) (kv : Tv → Prop) : Prop := match τ[i]? with
  | some (some (.own _)) => kb
  | some (some (.slf _ _)) => kb
  | some (some (.val t)) => kv t
  | _ => False
theorem slotV_at {τ : Ev} {i : Nat} {kb : Prop} {kv : Tv → Prop} (h : slotV τ i kb kv) : (∃ s t, τ[i]? = some (some s) ∧ s.mine = some t ∧ kb) ∨ ∃ t, τ[i]? = some (some (Sl.val t)) ∧ kv t := by
  unfold slotV at h
  split at h
  · exact .inl ⟨_, _, by assumption, rfl, h⟩
  · exact .inl ⟨_, _, by assumption, rfl, h⟩
  · exact .inr ⟨_, by assumption, h⟩
  · exact h.elim
theorem EvR.lk {F : Fr} {σ : L2.St} {τ : Ev} {S H : Hp} (E : EvR F σ τ S H) {i : Nat} {s : Sl} {t : Tv} (h : τ[i]? = some (some s)) (m : s = .val t ∨ s.mine = some t) : ∃ v, σ[i]? = some (some v) ∧ Lk F.K S H t v := by
  obtain ⟨v, h1, h2⟩ := E.sl i _ h
  refine ⟨v, h1, ?_⟩
  rcases m with rfl | m
  · exact .inl h2
  · obtain ⟨a, e, _, ow⟩ := h2.mine m
    exact .inr ⟨a, e, ow⟩
@[reducible] def lookR : Rv → Ev → (Tv → Prop) → Prop
  | .val t, _, k => k t
  | .own t, _, k => k t
  | .brw i, τ, k => slotL τ i k
@[reducible] def prepR : Rv → (Rv → Prop) → Prop
  | .own t, k => k (.val t)
  | .val t, k => k (.val t)
  | .brw i, k => k (.brw i)
@[reducible] def sharR : Rv → Ev → (Tv → Ev → Prop) → Prop
  | .val t, τ, k => k t τ
  | .own t, τ, k => k t τ
  | .brw i, τ, k => slotK τ i (fun t => k t (τ.set i (some (.val t)))) fun t => k t τ
section
variable {F : Fr} {σ : L2.St} {τ : Ev} {S H S' H' : Hp} {r : Rv} {v : V}
theorem EvR.shar (E : EvR F σ τ S H) (h : RvOk F σ τ S H r v) {k : Tv → Ev → Prop} (q : sharR r τ k) : ∃ t τ' S', Same S S' ∧ EvR F σ τ' S' H ∧ Rep F.K S' t v ∧ k t τ' := by
  cases r with
  | val t => exact ⟨t, τ, S, Same.refl S, E, h, q⟩
  | own t =>
    obtain ⟨a, rfl, m, ow, ap⟩ := h
    obtain ⟨S1, E1, s1, r1⟩ := E.share m ow ap
    exact ⟨t, τ, S1, s1, E1, r1, q⟩
  | brw i =>
    obtain ⟨⟨s, t, h1, hm⟩, h2⟩ := h
    rcases slotK_at q with ⟨u, h4, q⟩ | ⟨u, h4, q⟩
    · obtain ⟨S1, a, h3, E1, s1, r1⟩ := E.shareAt h4
      rw [h2] at h3
      cases h3
      exact ⟨u, _, S1, s1, E1, r1, q⟩
    · rw [h1] at h4
      cases h4
      cases hm
theorem EvR.look (E : EvR F σ τ S H) (h : RvOk F σ τ S H r v) {k : Tv → Prop} (q : lookR r τ k) : ∃ t, Lk F.K S H t v ∧ k t := by
  cases r with
  | val t => exact ⟨t, .inl h, q⟩
  | own t =>
    obtain ⟨a, rfl, m, ow, ap⟩ := h
    exact ⟨t, .inr ⟨a, rfl, ow⟩, q⟩
  | brw i =>
    obtain ⟨_, h2⟩ := h
    obtain ⟨s, t, h1, hm, q⟩ := slotL_at q
    obtain ⟨v', h3, lk⟩ := E.lk h1 hm
    rw [h2] at h3
    cases h3
    exact ⟨t, lk, q⟩
/-- a first operand, made ready: what is fresh is shared -/
def PrOk (F : Fr) (σ : L2.St) (S : Hp) : Rv → V → Prop
  | .val t, v => Rep F.K S t v
  | .own _, _ => False
  | .brw i, v => σ[i]? = some (some v)
theorem EvR.prep (E : EvR F σ τ S H) (h : RvOk F σ τ S H r v) {k : Rv → Prop} (q : prepR r k) : ∃ r' S', Same S S' ∧ EvR F σ τ S' H ∧ PrOk F σ S' r' v ∧ k r' := by
  cases r with
  | val t => exact ⟨.val t, S, Same.refl S, E, h, q⟩
  | own t =>
    obtain ⟨a, rfl, m, ow, ap⟩ := h
    obtain ⟨S1, E1, s1, r1⟩ := E.share m ow ap
    exact ⟨.val t, S1, s1, E1, r1, q⟩
  | brw i => exact ⟨.brw i, S, Same.refl S, E, h.2, q⟩
theorem EvR.lookP (E : EvR F σ τ S H) {r : Rv} (h : PrOk F σ S' r v) (s : Same S' S) {k : Tv → Prop} (q : lookR r τ k) : ∃ t, Lk F.K S H t v ∧ k t := by
  cases r with
  | val t => exact ⟨t, .inl (Rep.mono s h), q⟩
  | own t => exact h.elim
  | brw i =>
    obtain ⟨s, t, h1, hm, q⟩ := slotL_at q
    obtain ⟨v', h3, lk⟩ := E.lk h1 hm
    rw [show σ[i]? = some (some v) from h] at h3
    cases h3
    exact ⟨t, lk, q⟩
/-! ### names, constants -/
@[reducible] def fVar (i : Nat) : TTE := fun τ P => slotV τ i (P (.brw i) τ) fun t => P (.val t) τ
theorem ter_var (i : Nat) : TEr F (tVar i) (fVar i) := fun σ τ S H Q P E f k => by
  rcases slotV_at f with ⟨s, t, h, m, f⟩ | ⟨t, h, f⟩
  · obtain ⟨v, h1, h2⟩ := E.sl i _ h
    exact ⟨v, h1, k (.brw i) τ v S H (Same.refl S) E ⟨⟨s, t, h, m⟩, h1⟩ f⟩
  · obtain ⟨v, h1, h2⟩ := E.sl i _ h
    exact ⟨v, h1, k (.val t) τ v S H (Same.refl S) E h2 f⟩
/-- a constant: as it is told for every heap -/
def CnT (K : PySem.W.Frag) (v : V) (t : Tv) : Prop := ∀ S, Rep K S t v
@[reducible] def cnK (K : PySem.W.Frag) (v : V) (k : Tv → Prop) : Prop := match v with
  | .non => k .non
  | .bl b => k (.bl b)
  | .int i => k (.int i)
  | .str x => k (.str x)
  | .ty n => k (.ty n)
  | v => ∃ t, CnT K v t ∧ k t
@[reducible] def fC (K : PySem.W.Frag) (v : V) : TTE := fun τ P => cnK K v fun t => P (.val t) τ
theorem ter_c (v : V) : TEr F (tC v) (fC F.K v) := fun σ τ S H Q P E f k => by
  cases v with
  | non => exact k (.val _) τ _ S H (Same.refl S) E (Rep.non) f
  | bl b => exact k (.val _) τ _ S H (Same.refl S) E (Rep.bl b) f
  | int b => exact k (.val _) τ _ S H (Same.refl S) E (Rep.int b) f
  | str b => exact k (.val _) τ _ S H (Same.refl S) E (Rep.str b) f
  | ty b => exact k (.val _) τ _ S H (Same.refl S) E (Rep.ty b) f
  | ref b => obtain ⟨t, h, f⟩ := f; exact k (.val t) τ _ S H (Same.refl S) E (h S) f
  | byt b => obtain ⟨t, h, f⟩ := f; exact k (.val t) τ _ S H (Same.refl S) E (h S) f
  | flt b => obtain ⟨t, h, f⟩ := f; exact k (.val t) τ _ S H (Same.refl S) E (h S) f
/-! ### operations by values -/
def Res (K : PySem.W.Frag) (S H : Hp) : Rv → V → Hp → Prop
  | .val t, v, H' => H' = H ∧ Rep K S t v ∨ ∃ a o, v = .ref a ∧ H a = none ∧ H' = upd H a o ∧ Rep K (upd S a o) t v
  | .own t, v, H' => ∃ a o, v = .ref a ∧ H a = none ∧ H' = upd H a o ∧ OwnAt K S H' a t
  | .brw _, _, _ => False
theorem EvR.res' (E : EvR F σ τ S H) (h : Res F.K S H r v H') : ∃ S', Same S S' ∧ EvR F σ τ S' H' ∧ RvOk F σ τ S' H' r v := by
  cases r with
  | val t =>
    rcases h with ⟨rfl, h⟩ | ⟨a, o, rfl, h1, rfl, h2⟩
    · exact ⟨S, Same.refl S, E, h⟩
    · obtain ⟨E1, s⟩ := E.alloc_val o h1
      exact ⟨_, s, E1, h2⟩
  | own t =>
    obtain ⟨a, o, rfl, h1, rfl, h2⟩ := h
    exact ⟨S, Same.refl S, E.alloc_own o h1, a, rfl, E.mine h1, h2, E.apart h1⟩
  | brw i => exact h.elim
def OpT (K : PySem.W.Frag) (r : R2) (g : Tv → Tv → (Rv → Prop) → Prop) : Prop := ∀ (S H : Hp) (x y : V) (a b : Tv) (Q : VK) (P : Rv → Prop), Same S H → Lk K S H a x → Lk K S H b y → g a b P →
  (∀ rv v H', Res K S H rv v H' → P rv → Q v H') → r x y H Q
def UnT (K : PySem.W.Frag) (r : V → Hp → VK → Prop) (g : Tv → (Rv → Prop) → Prop) : Prop := ∀ (S H : Hp) (x : V) (a : Tv) (Q : VK) (P : Rv → Prop), Same S H → Lk K S H a x → g a P →
  (∀ rv v H', Res K S H rv v H' → P rv → Q v H') → r x H Q
@[reducible] def fOp (fa fb : TTE) (g : Tv → Tv → (Rv → Prop) → Prop) : TTE := fun τ P => fa τ fun r1 τ1 => prepR r1 fun r1 => fb τ1 fun r2 τ2 => lookR r1 τ2 fun a => lookR r2 τ2 fun b => g a b fun rv => P rv τ2
theorem ter_op {r : R2} {ta tb : TE} {fa fb : TTE} {g : Tv → Tv → (Rv → Prop) → Prop} (o : OpT F.K r g) (ha : TEr F ta fa) (hb : TEr F tb fb) : TEr F (tOp r ta tb) (fOp fa fb g) := fun σ τ S H Q P E f k => by
  refine ha σ τ S H _ _ E f fun r1 τ1 v1 S1 H1 s1 E1 h1 q1 => ?_
  obtain ⟨r1', S2, s2, E2, p1, q2⟩ := E1.prep h1 q1
  refine hb σ τ1 S2 H1 _ _ E2 q2 fun r2 τ2 v2 S3 H3 s3 E3 h3 q3 => ?_
  obtain ⟨a, la, q4⟩ := E3.lookP p1 s3 q3
  obtain ⟨b, lb, q5⟩ := E3.look h3 q4
  refine o S3 H3 v1 v2 a b _ _ E3.sH la lb q5 fun rv v H' hr hp => ?_
  obtain ⟨S4, s4, E4, h4⟩ := E3.res' hr
  exact k rv τ2 v S4 H' (s1.trans (s2.trans (s3.trans s4))) E4 h4 hp
@[reducible] def fUn (fa : TTE) (g : Tv → (Rv → Prop) → Prop) : TTE := fun τ P => fa τ fun r1 τ1 => lookR r1 τ1 fun a => g a fun rv => P rv τ1
theorem ter_un {r : V → Hp → VK → Prop} {ta : TE} {fa : TTE} {g : Tv → (Rv → Prop) → Prop} (o : UnT F.K r g) (ha : TEr F ta fa) : TEr F (tUn r ta) (fUn fa g) := fun σ τ S H Q P E f k => by
  refine ha σ τ S H _ _ E f fun r1 τ1 v1 S1 H1 s1 E1 h1 q1 => ?_
  obtain ⟨a, la, q4⟩ := E1.look h1 q1
  refine o S1 H1 v1 a _ _ E1.sH la q4 fun rv v H' hr hp => ?_
  obtain ⟨S4, s4, E4, h4⟩ := E1.res' hr
  exact k rv τ1 v S4 H' (s1.trans s4) E4 h4 hp
/-- a call of a built-in with one, with two values -/
def CbT1 (K : PySem.W.Frag) (r : List V → Hp → VK → Prop) (g : Tv → (Rv → Prop) → Prop) : Prop := ∀ (S H : Hp) (x : V) (a : Tv) (Q : VK) (P : Rv → Prop), Same S H → Lk K S H a x → g a P →
  (∀ rv v H', Res K S H rv v H' → P rv → Q v H') → r [x] H Q
def CbT2 (K : PySem.W.Frag) (r : List V → Hp → VK → Prop) (g : Tv → Tv → (Rv → Prop) → Prop) : Prop := ∀ (S H : Hp) (x y : V) (a b : Tv) (Q : VK) (P : Rv → Prop), Same S H → Lk K S H a x → Lk K S H b y → g a b P →
  (∀ rv v H', Res K S H rv v H' → P rv → Q v H') → r [x, y] H Q
theorem ter_cb1 {r : List V → Hp → VK → Prop} {ta : TE} {fa : TTE} {g : Tv → (Rv → Prop) → Prop} (o : CbT1 F.K r g) (ha : TEr F ta fa) : TEr F (tCB r (tCons ta tNil)) (fUn fa g) := fun σ τ S H Q P E f k => by
  refine ha σ τ S H _ _ E f fun r1 τ1 v1 S1 H1 s1 E1 h1 q1 => ?_
  obtain ⟨a, la, q4⟩ := E1.look h1 q1
  refine o S1 H1 v1 a _ _ E1.sH la q4 fun rv v H' hr hp => ?_
  obtain ⟨S4, s4, E4, h4⟩ := E1.res' hr
  exact k rv τ1 v S4 H' (s1.trans s4) E4 h4 hp
theorem ter_cb2 {r : List V → Hp → VK → Prop} {ta tb : TE} {fa fb : TTE} {g : Tv → Tv → (Rv → Prop) → Prop} (o : CbT2 F.K r g) (ha : TEr F ta fa) (hb : TEr F tb fb) : TEr F (tCB r (tCons ta (tCons tb tNil))) (fOp fa fb g) := fun σ τ S H Q P E f k => by
  refine ha σ τ S H _ _ E f fun r1 τ1 v1 S1 H1 s1 E1 h1 q1 => ?_
  obtain ⟨r1', S2, s2, E2, p1, q2⟩ := E1.prep h1 q1
  refine hb σ τ1 S2 H1 _ _ E2 q2 fun r2 τ2 v2 S3 H3 s3 E3 h3 q3 => ?_
  obtain ⟨a, la, q4⟩ := E3.lookP p1 s3 q3
  obtain ⟨b, lb, q5⟩ := E3.look h3 q4
  refine o S3 H3 v1 v2 a b _ _ E3.sH la lb q5 fun rv v H' hr hp => ?_
  obtain ⟨S4, s4, E4, h4⟩ := E3.res' hr
  exact k rv τ2 v S4 H' (s1.trans (s2.trans (s3.trans s4))) E4 h4 hp
/-! ### tests -/
@[reducible] def bOf : Tv → (Bool → Prop) → Prop
  | .bl b, k => k b
  | _, _ => False
@[reducible] def fTest (f : TTE) : TTB := fun τ P => f τ fun r τ1 => lookR r τ1 fun t => bOf t fun b => P b τ1
theorem tbr_test {te : TE} {f : TTE} (h : TEr F te f) : TBr F (tTest te) (fTest f) := fun σ τ S H Q P E q k => by
  refine h σ τ S H _ _ E q fun r1 τ1 v1 S1 H1 s1 E1 h1 q1 => ?_
  obtain ⟨t, lt, q2⟩ := E1.look h1 q1
  cases t <;> first | exact q2.elim | skip
  exact ⟨_, lt.tV rfl, k _ τ1 S1 H1 s1 E1 q2⟩
theorem tbr_b {te : TE} {f : TTE} (h : TEr F te f) : TBr F (tB te) (fTest f) := tbr_test h
@[reducible] def fAnd (f g : TTB) : TTB := fun τ P => f τ fun b τ1 => match b with
  | true => g τ1 P
  | false => P false τ1
@[reducible] def fOr (f g : TTB) : TTB := fun τ P => f τ fun b τ1 => match b with
  | true => P true τ1
  | false => g τ1 P
@[reducible] def fNot (f : TTB) : TTB := fun τ P => f τ fun b τ1 => P (!b) τ1
theorem tbr_and {t u : TT} {f g : TTB} (ht : TBr F t f) (hu : TBr F u g) : TBr F (tAnd t u) (fAnd f g) := fun σ τ S H Q P E q k => by
  refine ht σ τ S H _ _ E q fun b τ1 S1 H1 s1 E1 q1 => ?_
  cases b with
  | true => exact hu σ τ1 S1 H1 _ _ E1 q1 fun b τ2 S2 H2 s2 E2 q2 => k b τ2 S2 H2 (s1.trans s2) E2 q2
  | false => exact k false τ1 S1 H1 s1 E1 q1
theorem tbr_or {t u : TT} {f g : TTB} (ht : TBr F t f) (hu : TBr F u g) : TBr F (tOr t u) (fOr f g) := fun σ τ S H Q P E q k => by
  refine ht σ τ S H _ _ E q fun b τ1 S1 H1 s1 E1 q1 => ?_
  cases b with
  | false => exact hu σ τ1 S1 H1 _ _ E1 q1 fun b τ2 S2 H2 s2 E2 q2 => k b τ2 S2 H2 (s1.trans s2) E2 q2
  | true => exact k true τ1 S1 H1 s1 E1 q1
theorem tbr_not {t : TT} {f : TTB} (ht : TBr F t f) : TBr F (tNot t) (fNot f) := fun σ τ S H Q P E q k =>
  ht σ τ S H _ _ E q fun b τ1 S1 H1 s1 E1 q1 => k _ τ1 S1 H1 s1 E1 q1
def fYes : TTB := fun τ P => P true τ
theorem tbr_yes : TBr F tYes fYes := fun σ τ S H Q P E q k => k true τ S H (Same.refl S) E q
/-- truth of a value -/
@[reducible] def truT : Tv → (Bool → Prop) → Prop
  | .non, k => k false
  | .bl b, k => k b
  | .int i, k => k (i != 0)
  | .str x, k => x.length ≤ sizeLine ∧ k ((x.length : Int) != 0)
  | .lst xs, k => k (!xs.isEmpty)
  | .tup xs, k => k (!xs.isEmpty)
  | .wtp xs, k => k (!xs.isEmpty)
  | .dct xs, k => k (!xs.isEmpty)
  | _, _ => False
theorem Reps.empty {K : PySem.W.Frag} {ts : List Tv} {vs : List V} (h : Reps K H ts vs) : vs.isEmpty = ts.isEmpty := by
  cases h <;> rfl
theorem keys_empty {κ : Type} {ts : List (κ × Tv)} {vs : List (κ × V)} (h : ts.map Prod.fst = vs.map Prod.fst) : vs.isEmpty = ts.isEmpty := by
  cases ts <;> cases vs <;> first | rfl | cases h
theorem tru_of {K : PySem.W.Frag} {t : Tv} {v : V} (s : Same S H) (h : Lk K S H t v) {k : Bool → Prop} (q : truT t k) : ∃ b, TruV K v H b ∧ k b := by
  cases t with
  | non => rw [h.tV rfl]; exact ⟨_, rfl, q⟩
  | bl b => rw [h.tV rfl]; exact ⟨_, rfl, q⟩
  | int b => rw [h.tV rfl]; exact ⟨_, rfl, q⟩
  | str b => rw [h.tV rfl]; exact ⟨_, ⟨q.1, rfl⟩, q.2⟩
  | lst xs =>
    obtain ⟨a, vs, rfl, h1, h2⟩ := h.lst s
    exact ⟨_, .inl ⟨vs, .of h1, rfl⟩, by rw [h2.empty]; exact q⟩
  | tup xs =>
    obtain ⟨a, vs, rfl, h1, h2⟩ := h.tup s
    exact ⟨_, .inr (.inl ⟨vs, h1, rfl⟩), by rw [h2.empty]; exact q⟩
  | wtp xs =>
    obtain ⟨a, vs, rfl, h1, h2⟩ := h.wtp s
    exact ⟨_, .inr (.inl ⟨vs, h1, rfl⟩), by rw [h2.empty]; exact q⟩
  | dct xs =>
    obtain ⟨a, vs, rfl, h1, h2, h3⟩ := h.dct s
    exact ⟨_, .inr (.inr ⟨vs, h1, rfl⟩), by rw [keys_empty h2]; exact q⟩
  | _ => exact q.elim
@[reducible] def fTruth (f : TTE) : TTB := fun τ P => f τ fun r τ1 => lookR r τ1 fun t => truT t fun b => P b τ1
theorem tbr_truth {te : TE} {f : TTE} (h : TEr F te f) : TBr F (fun σ H Q => te σ H fun x H' => ∃ k, TruV F.K x H' k ∧ Q k H') (fTruth f) := fun σ τ S H Q P E q k => by
  refine h σ τ S H _ _ E q fun r1 τ1 v1 S1 H1 s1 E1 h1 q1 => ?_
  obtain ⟨t, lt, q2⟩ := E1.look h1 q1
  obtain ⟨b, hb, q3⟩ := tru_of E1.sH lt q2
  exact ⟨b, hb, k b τ1 S1 H1 s1 E1 q3⟩
/-! ### and, or, not as values; a if c else b -/
@[reducible] def fAndV (f g : TTE) : TTE := fun τ P => f τ fun r τ1 => lookR r τ1 fun t => bOf t fun b => match b with
  | true => g τ1 P
  | false => P (.val (.bl false)) τ1
@[reducible] def fOrV (f g : TTE) : TTE := fun τ P => f τ fun r τ1 => lookR r τ1 fun t => bOf t fun b => match b with
  | false => g τ1 P
  | true => P (.val (.bl true)) τ1
@[reducible] def fNotV (f : TTE) : TTE := fun τ P => f τ fun r τ1 => lookR r τ1 fun t => bOf t fun b => P (.val (.bl (!b))) τ1
theorem ter_andV {ta tb : TE} {f g : TTE} (ha : TEr F ta f) (hb : TEr F tb g) : TEr F (tAndV ta tb) (fAndV f g) := fun σ τ S H Q P E q k => by
  refine ha σ τ S H _ _ E q fun r1 τ1 v1 S1 H1 s1 E1 h1 q1 => ?_
  obtain ⟨t, lt, q2⟩ := E1.look h1 q1
  cases t <;> first | exact q2.elim | skip
  rename_i b
  refine ⟨b, lt.tV rfl, ?_⟩
  cases b with
  | true => exact hb σ τ1 S1 H1 _ _ E1 q2 fun r τ2 v S2 H2 s2 E2 h2 q2 => k r τ2 v S2 H2 (s1.trans s2) E2 h2 q2
  | false => exact k (.val _) τ1 _ S1 H1 s1 E1 (Rep.bl false) q2
theorem ter_orV {ta tb : TE} {f g : TTE} (ha : TEr F ta f) (hb : TEr F tb g) : TEr F (tOrV ta tb) (fOrV f g) := fun σ τ S H Q P E q k => by
  refine ha σ τ S H _ _ E q fun r1 τ1 v1 S1 H1 s1 E1 h1 q1 => ?_
  obtain ⟨t, lt, q2⟩ := E1.look h1 q1
  cases t <;> first | exact q2.elim | skip
  rename_i b
  refine ⟨b, lt.tV rfl, ?_⟩
  cases b with
  | false => exact hb σ τ1 S1 H1 _ _ E1 q2 fun r τ2 v S2 H2 s2 E2 h2 q2 => k r τ2 v S2 H2 (s1.trans s2) E2 h2 q2
  | true => exact k (.val _) τ1 _ S1 H1 s1 E1 (Rep.bl true) q2
theorem ter_notV {ta : TE} {f : TTE} (ha : TEr F ta f) : TEr F (tNotV ta) (fNotV f) := fun σ τ S H Q P E q k => by
  refine ha σ τ S H _ _ E q fun r1 τ1 v1 S1 H1 s1 E1 h1 q1 => ?_
  obtain ⟨t, lt, q2⟩ := E1.look h1 q1
  cases t <;> first | exact q2.elim | skip
  exact ⟨_, lt.tV rfl, k (.val _) τ1 _ S1 H1 s1 E1 (Rep.bl _) q2⟩
@[reducible] def fIf (c : TTB) (f g : TTE) : TTE := fun τ P => c τ fun b τ1 => match b with
  | true => f τ1 P
  | false => g τ1 P
theorem ter_if {t : TT} {ta tb : TE} {c : TTB} {f g : TTE} (hc : TBr F t c) (ha : TEr F ta f) (hb : TEr F tb g) : TEr F (tIf t ta tb) (fIf c f g) := fun σ τ S H Q P E q k => by
  refine hc σ τ S H _ _ E q fun b τ1 S1 H1 s1 E1 q1 => ?_
  cases b with
  | true => exact ha σ τ1 S1 H1 _ _ E1 q1 fun r τ2 v S2 H2 s2 E2 h2 q2 => k r τ2 v S2 H2 (s1.trans s2) E2 h2 q2
  | false => exact hb σ τ1 S1 H1 _ _ E1 q1 fun r τ2 v S2 H2 s2 E2 h2 q2 => k r τ2 v S2 H2 (s1.trans s2) E2 h2 q2
/-- a op1 b op2 c -/
def fChain (fa fb fc : TTE) (g g' : Tv → Tv → (Rv → Prop) → Prop) : TTE := fun τ P => fa τ fun r1 τ1 => prepR r1 fun r1 => fb τ1 fun r2 τ2 => lookR r1 τ2 fun a => prepR r2 fun r2 => lookR r2 τ2 fun b => g a b fun rv => lookR rv τ2 fun t => bOf t fun x => match x with
  | true => fc τ2 fun r3 τ3 => lookR r2 τ3 fun b => lookR r3 τ3 fun c => g' b c fun rv => P rv τ3
  | false => P (.val (.bl false)) τ2
/-! ### argument lists, displays -/
@[reducible] def aNil : TTA := fun τ P => P [] τ
@[reducible] def aCons (f : TTE) (g : TTA) : TTA := fun τ P => f τ fun r τ1 => sharR r τ1 fun t τ2 => g τ2 fun ts τ3 => P (t :: ts) τ3
theorem tar_nil : TAr F tNil aNil := fun σ τ S H Q P E q k => k [] τ [] S H (Same.refl S) E .nil q
theorem tar_cons {te : TE} {ta : TA} {f : TTE} {g : TTA} (he : TEr F te f) (ha : TAr F ta g) : TAr F (tCons te ta) (aCons f g) := fun σ τ S H Q P E q k => by
  refine he σ τ S H _ _ E q fun r1 τ1 v1 S1 H1 s1 E1 h1 q1 => ?_
  obtain ⟨t, τ2, S2, s2, E2, rp, q2⟩ := E1.shar h1 q1
  refine ha σ τ2 S2 H1 _ _ E2 q2 fun ts τ3 vs S3 H3 s3 E3 rs q3 => ?_
  exact k (t :: ts) τ3 _ S3 H3 (s1.trans (s2.trans s3)) E3 (.cons (rp.mono s3) rs) q3
/-- *xs -/
@[reducible] def starT : Tv → (List Tv → Prop) → Prop
  | .lst xs, k => k xs
  | .tup xs, k => k xs
  | .wtp xs, k => k xs
  | _, _ => False
@[reducible] def aStar (f : TTE) (g : TTA) : TTA := fun τ P => f τ fun r τ1 => lookR r τ1 fun t => starT t fun xs => g τ1 fun ts τ3 => P (xs ++ ts) τ3
theorem tar_star {te : TE} {ta : TA} {f : TTE} {g : TTA} (he : TEr F te f) (ha : TAr F ta g) : TAr F (StX.tStar F.K te ta) (aStar f g) := fun σ τ S H Q P E q k => by
  refine he σ τ S H _ _ E q fun r1 τ1 v1 S1 H1 s1 E1 h1 q1 => ?_
  obtain ⟨t, lt, q2⟩ := E1.look h1 q1
  cases t <;> first | exact q2.elim | skip
  · obtain ⟨a, vs, rfl, h2, h3⟩ := lt.lst E1.sH
    refine ⟨a, vs, rfl, .inr (.of h2), ha σ τ1 S1 H1 _ _ E1 q2 fun ts τ3 ws S3 H3 s3 E3 rs q3 => ?_⟩
    exact k _ τ3 _ S3 H3 (s1.trans s3) E3 ((h3.mono s3).app rs) q3
  · obtain ⟨a, vs, rfl, h2, h3⟩ := lt.tup E1.sH
    refine ⟨a, vs, rfl, .inl h2, ha σ τ1 S1 H1 _ _ E1 q2 fun ts τ3 ws S3 H3 s3 E3 rs q3 => ?_⟩
    exact k _ τ3 _ S3 H3 (s1.trans s3) E3 ((h3.mono s3).app rs) q3
  · obtain ⟨a, vs, rfl, h2, h3⟩ := lt.wtp E1.sH
    refine ⟨a, vs, rfl, .inl h2, ha σ τ1 S1 H1 _ _ E1 q2 fun ts τ3 ws S3 H3 s3 E3 rs q3 => ?_⟩
    exact k _ τ3 _ S3 H3 (s1.trans s3) E3 ((h3.mono s3).app rs) q3
@[reducible] def fTup (f : TTA) : TTE := fun τ P => f τ fun ts τ1 => ts.length ≤ sizeLine ∧ P (.val (.tup ts)) τ1
@[reducible] def fLst (f : TTA) : TTE := fun τ P => f τ fun ts τ1 => ts.length ≤ sizeLine ∧ P (.own (.lst ts)) τ1
theorem ter_tup {ta : TA} {f : TTA} (h : TAr F ta f) : TEr F (tTup ta) (fTup f) := fun σ τ S H Q P E q k => by
  refine h σ τ S H _ _ E q fun ts τ1 vs S1 H1 s1 E1 rs q1 => ⟨by rw [← rs.len]; exact q1.1, fun p hp => ?_⟩
  obtain ⟨E2, s2⟩ := E1.alloc_val (.tup vs) hp
  exact k (.val _) τ1 _ _ _ (s1.trans s2) E2 (Rep.tup upd_same (rs.mono s2)) q1.2
theorem ter_lst {ta : TA} {f : TTA} (h : TAr F ta f) : TEr F (tLst ta) (fLst f) := fun σ τ S H Q P E q k => by
  refine h σ τ S H _ _ E q fun ts τ1 vs S1 H1 s1 E1 rs q1 => ⟨by rw [← rs.len]; exact q1.1, fun p hp => ?_⟩
  exact k (.own _) τ1 _ _ _ s1 (E1.alloc_own (.lst vs) hp) ⟨p, rfl, E1.mine hp, .lst upd_same rs, E1.apart hp⟩ q1.2
end
end L2.Wk
namespace L2.Wk
open PySem PySem.Spec PyProof.Rows
section
variable {K : PySem.W.Frag} {F : Fr}
/-! ### ints -/
@[reducible] def i2 : Tv → Tv → (Int → Int → Prop) → Prop
  | .int i, .int j, k => k i j
  | _, _, _ => False
theorem i2_at {a b : Tv} {k : Int → Int → Prop} (h : i2 a b k) : ∃ i j, a = .int i ∧ b = .int j ∧ k i j := by
  cases a <;> cases b <;> first | exact ⟨_, _, rfl, rfl, h⟩ | exact h.elim
theorem res_v {S H : Hp} {v : V} (h : okV v = true) : Res K S H (.val (vT v)) v H := .inl ⟨rfl, Rep.vT h⟩
theorem opt_I {C : Int → Int → Prop} {g : Int → Int → V} (hg : ∀ i j, okV (g i j) = true := by intros; rfl) : OpT K (rI C g) (fun a b P => i2 a b fun i j => C i j ∧ P (.val (vT (g i j)))) := by
  intro S H x y a b Q P s la lb h k
  obtain ⟨i, j, rfl, rfl, hc, q⟩ := i2_at h
  exact ⟨i, j, la.tV rfl, lb.tV rfl, hc, k _ _ _ (res_v (hg i j)) q⟩
theorem opt_I0 {g : Int → Int → V} (hg : ∀ i j, okV (g i j) = true := by intros; rfl) : OpT K (rI0 g) (fun a b P => i2 a b fun i j => P (.val (vT (g i j)))) := by
  intro S H x y a b Q P s la lb h k
  obtain ⟨i, j, rfl, rfl, q⟩ := i2_at h
  exact ⟨i, j, la.tV rfl, lb.tV rfl, k _ _ _ (res_v (hg i j)) q⟩
@[reducible] def i1 : Tv → (Int → Prop) → Prop
  | .int i, k => k i
  | _, _ => False
theorem i1_at {a : Tv} {k : Int → Prop} (h : i1 a k) : ∃ i, a = .int i ∧ k i := by
  cases a <;> first | exact ⟨_, rfl, h⟩ | exact h.elim
theorem unt_U {g : Int → V} (hg : ∀ i, okV (g i) = true := by intros; rfl) : UnT K (rU g) (fun a P => i1 a fun i => P (.val (vT (g i)))) := by
  intro S H x a Q P s la h k
  obtain ⟨i, rfl, q⟩ := i1_at h
  exact ⟨i, la.tV rfl, k _ _ _ (res_v (hg i)) q⟩
/-! ### texts -/
@[reducible] def s2 : Tv → Tv → (Str → Str → Prop) → Prop
  | .str i, .str j, k => k i j
  | _, _, _ => False
theorem s2_at {a b : Tv} {k : Str → Str → Prop} (h : s2 a b k) : ∃ i j, a = .str i ∧ b = .str j ∧ k i j := by
  cases a <;> cases b <;> first | exact ⟨_, _, rfl, rfl, h⟩ | exact h.elim
@[reducible] def s1 : Tv → (Str → Prop) → Prop
  | .str i, k => k i
  | _, _ => False
theorem s1_at {a : Tv} {k : Str → Prop} (h : s1 a k) : ∃ i, a = .str i ∧ k i := by
  cases a <;> first | exact ⟨_, rfl, h⟩ | exact h.elim
theorem opt_addS : OpT K (fun x y H Q => ∃ i j, x = .str i ∧ y = .str j ∧ i.length + j.length ≤ sizeLine ∧ Q (.str (i ++ j)) H) (fun a b P => s2 a b fun i j => i.length + j.length ≤ sizeLine ∧ P (.val (.str (i ++ j)))) := by
  intro S H x y a b Q P s la lb h k
  obtain ⟨i, j, rfl, rfl, hc, q⟩ := s2_at h
  exact ⟨i, j, la.tV rfl, lb.tV rfl, hc, k (.val (.str (i ++ j))) _ _ (.inl ⟨rfl, .str _⟩) q⟩
/-! ### == of scalars -/
def eqS0 : Tv → Tv → (Bool → Prop) → Prop
  | .non, .non, k => k true
  | .non, .int _, k => k false
  | .int _, .non, k => k false
  | .non, .bl _, k => k false
  | .bl _, .non, k => k false
  | .non, .str _, k => k false
  | .str _, .non, k => k false
  | .int i, .int j, k => k (decide (i = j))
  | .bl i, .bl j, k => k (decide (i = j))
  | .str i, .str j, k => k (decide (i = j))
  | .int _, .str _, k => k false
  | .str _, .int _, k => k false
  | .bl _, .str _, k => k false
  | .str _, .bl _, k => k false
  | _, _, _ => False
theorem eqS_at {S H : Hp} {x y : V} {a b : Tv} {k : Bool → Prop} (la : Lk K S H a x) (lb : Lk K S H b y) (h : eqS0 a b k) : scal x y = true ∧ k (decide (x = y)) := by
  cases a <;> cases b <;> first
    | exact h.elim
    | (rw [la.tV rfl, lb.tV rfl]
       refine ⟨rfl, ?_⟩
       first
         | exact h
         | (have e : ∀ p q : Prop, [Decidable p] → [Decidable q] → (p ↔ q) → decide p = decide q := fun p q _ _ i => by
              by_cases hp : p
              · rw [decide_eq_true hp, decide_eq_true (i.mp hp)]
              · rw [decide_eq_false hp, decide_eq_false fun z => hp (i.mpr z)]
            rw [e _ _ (show _ ↔ _ from ⟨fun z => by injection z, fun z => by rw [z]⟩)]
            exact h))
structure eqS (a b : Tv) (k : Bool → Prop) : Prop where
  un : eqS0 a b k
theorem eqS_of {a b : Tv} {k : Bool → Prop} (h : eqS0 a b k) : eqS a b k := ⟨h⟩
theorem eqS_un {a b : Tv} {k : Bool → Prop} (h : eqS a b k) : eqS0 a b k := h.un
theorem eqS_str {x y : Str} {k : Bool → Prop} (h : k (decide (x = y))) : eqS (.str x) (.str y) k := eqS_of h
theorem eqS_int {x y : Int} {k : Bool → Prop} (h : k (decide (x = y))) : eqS (.int x) (.int y) k := eqS_of h
theorem eqS_bl {x y : Bool} {k : Bool → Prop} (h : k (decide (x = y))) : eqS (.bl x) (.bl y) k := eqS_of h
theorem opt_eq : OpT K rEq (fun a b P => eqS a b fun c => P (.val (.bl c))) := by
  intro S H x y a b Q P s la lb h k
  obtain ⟨h1, h2⟩ := eqS_at la lb (eqS_un h)
  exact ⟨h1, k (.val (.bl _)) _ _ (.inl ⟨rfl, .bl _⟩) h2⟩
theorem opt_ne : OpT K rNe (fun a b P => eqS a b fun c => P (.val (.bl (!c)))) := by
  intro S H x y a b Q P s la lb h k
  obtain ⟨h1, h2⟩ := eqS_at la lb (eqS_un h)
  exact ⟨h1, k (.val (.bl _)) _ _ (.inl ⟨rfl, .bl _⟩) h2⟩
/-! ### is None, is True -/
def isNonT : Tv → Bool
  | .non => true
  | _ => false
theorem isNon_at {S H : Hp} {x : V} {a : Tv} (la : Lk K S H a x) : decide (x = .non) = isNonT a := by
  rcases la with h | ⟨p, rfl, h⟩
  · cases h <;> rfl
  · cases h <;> rfl
@[reducible] def nonK : Tv → Prop → Prop
  | .non, k => k
  | _, _ => False
theorem opt_isN : OpT K (fun x y H Q => y = .non ∧ Q (.bl (decide (x = .non))) H) (fun a b P => nonK b (P (.val (.bl (isNonT a))))) := by
  intro S H x y a b Q P s la lb h k
  cases b <;> first | exact h.elim | skip
  refine ⟨lb.tV rfl, ?_⟩
  rw [isNon_at la]
  exact k (.val (.bl _)) _ _ (.inl ⟨rfl, .bl _⟩) h
theorem opt_notN : OpT K (fun x y H Q => y = .non ∧ Q (.bl (!decide (x = .non))) H) (fun a b P => nonK b (P (.val (.bl (!isNonT a))))) := by
  intro S H x y a b Q P s la lb h k
  cases b <;> first | exact h.elim | skip
  refine ⟨lb.tV rfl, ?_⟩
  rw [isNon_at la]
  exact k (.val (.bl _)) _ _ (.inl ⟨rfl, .bl _⟩) h
@[reducible] def b2 : Tv → Tv → (Bool → Bool → Prop) → Prop
  | .bl i, .bl j, k => k i j
  | _, _, _ => False
theorem opt_isB : OpT K rIsB (fun a b P => b2 a b fun i j => P (.val (.bl (decide (i = j))))) := by
  intro S H x y a b Q P s la lb h k
  cases a <;> cases b <;> first | exact h.elim | skip
  exact ⟨_, _, la.tV rfl, lb.tV rfl, k (.val (.bl _)) _ _ (.inl ⟨rfl, .bl _⟩) h⟩
theorem opt_notB : OpT K rNotB (fun a b P => b2 a b fun i j => P (.val (.bl (!decide (i = j))))) := by
  intro S H x y a b Q P s la lb h k
  cases a <;> cases b <;> first | exact h.elim | skip
  exact ⟨_, _, la.tV rfl, lb.tV rfl, k (.val (.bl _)) _ _ (.inl ⟨rfl, .bl _⟩) h⟩
/-! ### items -/
def getK {α : Type} : Option α → (α → Prop) → Prop
  | some x, k => k x
  | none, _ => False
theorem getK_at {α : Type} {o : Option α} {k : α → Prop} (h : getK o k) : ∃ x, o = some x ∧ k x := by
  cases o with
  | none => exact h.elim
  | some x => exact ⟨x, rfl, h⟩
theorem Reps.at {S : Hp} {ts : List Tv} {vs : List V} {i : Int} {t : Tv} (h : Reps K S ts vs) (e : atI ts i = some t) : ∃ v, atI vs i = some v ∧ Rep K S t v := by
  unfold atI at e ⊢
  rw [← h.len]
  cases q : ixN ts.length i with
  | none => rw [q] at e; cases e
  | some j =>
    rw [q] at e
    exact h.getT e
theorem getK_of {α : Type} {o : Option α} {x : α} {k : α → Prop} (e : o = some x) (h : k x) : getK o k := by
  rw [e]
  exact h
@[reducible] def ixL : Tv → Tv → (Tv → Prop) → Prop
  | .lst ts, .int i, k => getK (atI ts i) k
  | _, _, _ => False
@[reducible] def ixT : Tv → Tv → (Tv → Prop) → Prop
  | .tup ts, .int i, k => getK (atI ts i) k
  | .wtp ts, .int i, k => getK (atI ts i) k
  | _, _, _ => False
theorem opt_ixL : OpT K (rIxL K) (fun a b P => ixL a b fun t => P (.val t)) := by
  intro S H x y a b Q P s la lb h k
  cases a <;> cases b <;> first | exact h.elim | skip
  obtain ⟨t, e, q⟩ := getK_at h
  obtain ⟨p, vs, rfl, h1, h2⟩ := la.lst s
  obtain ⟨v, h3, h4⟩ := h2.at e
  exact ⟨p, vs, _, v, rfl, lb.tV rfl, .of h1, h3, k (.val t) v H (.inl ⟨rfl, h4⟩) q⟩
theorem opt_ixT : OpT K (rIxT K) (fun a b P => ixT a b fun t => P (.val t)) := by
  intro S H x y a b Q P s la lb h k
  cases a <;> cases b <;> first | exact h.elim | skip
  · obtain ⟨t, e, q⟩ := getK_at h
    obtain ⟨p, vs, rfl, h1, h2⟩ := la.tup s
    obtain ⟨v, h3, h4⟩ := h2.at e
    exact ⟨p, vs, _, v, rfl, lb.tV rfl, h1, h3, k (.val t) v H (.inl ⟨rfl, h4⟩) q⟩
  · obtain ⟨t, e, q⟩ := getK_at h
    obtain ⟨p, vs, rfl, h1, h2⟩ := la.wtp s
    obtain ⟨v, h3, h4⟩ := h2.at e
    exact ⟨p, vs, _, v, rfl, lb.tV rfl, h1, h3, k (.val t) v H (.inl ⟨rfl, h4⟩) q⟩
@[reducible] def ixS : Tv → Tv → (Str → Prop) → Prop
  | .str z, .int i, k => z.length ≤ sizeLine ∧ getK (atI z.cps.toList i) fun c => k ⟨#[c]⟩
  | _, _, _ => False
theorem opt_ixS : OpT K rIxS (fun a b P => ixS a b fun t => P (.val (.str t))) := by
  intro S H x y a b Q P s la lb h k
  cases a <;> cases b <;> first | exact h.elim | skip
  obtain ⟨c, e, q⟩ := getK_at h.2
  exact ⟨_, _, c, la.tV rfl, lb.tV rfl, h.1, e, k (.val (.str ⟨#[c]⟩)) _ H (.inl ⟨rfl, .str _⟩) q⟩
/-! ### in a list, a tuple -/
def flT : Tv → Option V
  | .non => some .non
  | .bl b => some (.bl b)
  | .int i => some (.int i)
  | .str x => some (.str x)
  | _ => none
def flTs : List Tv → Option (List V)
  | [] => some []
  | t :: ts => match flT t, flTs ts with
    | some v, some vs => some (v :: vs)
    | _, _ => none
theorem flT_at {S : Hp} {t : Tv} {v x : V} (h : Rep K S t v) (e : flT t = some x) : v = x ∧ flatV x = true := by
  cases h <;> first | (injection e with e; subst e; exact ⟨rfl, rfl⟩) | cases e
theorem flTs_at {S : Hp} : ∀ {ts : List Tv} {vs xs : List V}, Reps K S ts vs → flTs ts = some xs → vs = xs ∧ xs.all flatV = true
  | _, _, _, .nil, e => by
    injection e with e
    subst e
    exact ⟨rfl, rfl⟩
  | t :: ts, v :: vs, xs, .cons h r, e => by
    unfold flTs at e
    split at e
    · rename_i v' vs' e1 e2
      injection e with e
      subst e
      obtain ⟨rfl, f⟩ := flT_at h e1
      obtain ⟨rfl, g⟩ := flTs_at r e2
      exact ⟨rfl, by rw [List.all_cons, f, g]; rfl⟩
    · cases e
theorem flTs_strs : ∀ zs : List Str, flTs (zs.map Tv.str) = some (zs.map V.str)
  | [] => rfl
  | z :: zs => by
    rw [List.map_cons]
    unfold flTs
    rw [flTs_strs zs]
    rfl
theorem flTs_ints : ∀ zs : List Int, flTs (zs.map Tv.int) = some (zs.map V.int)
  | [] => rfl
  | z :: zs => by
    rw [List.map_cons]
    unfold flTs
    rw [flTs_ints zs]
    rfl
def inT0 : Tv → Tv → (Bool → Prop) → Prop
  | a, .lst ts, k => getK (flT a) fun x => getK (flTs ts) fun xs => k (inV x xs)
  | a, .tup ts, k => getK (flT a) fun x => getK (flTs ts) fun xs => k (inV x xs)
  | a, .wtp ts, k => getK (flT a) fun x => getK (flTs ts) fun xs => k (inV x xs)
  | _, _, _ => False
theorem Lk.fl {S H : Hp} {t : Tv} {v x : V} (h : Lk K S H t v) (e : flT t = some x) : v = x ∧ flatV x = true := by
  rcases h with h | ⟨p, rfl, h⟩
  · exact flT_at h e
  · cases h <;> cases e
theorem inT_at {S H : Hp} {x y : V} {a b : Tv} {k : Bool → Prop} (s : Same S H) (la : Lk K S H a x) (lb : Lk K S H b y) (h : inT0 a b k) :
    ∃ p xs, y = .ref p ∧ (SqL K H p xs ∨ SqT K H p xs) ∧ flatV x = true ∧ xs.all flatV = true ∧ k (inV x xs) := by
  cases b <;> first | exact h.elim | skip
  · obtain ⟨x', e1, h⟩ := getK_at h
    obtain ⟨xs, e2, h⟩ := getK_at h
    obtain ⟨rfl, f⟩ := la.fl e1
    obtain ⟨p, vs, rfl, h1, h2⟩ := lb.lst s
    obtain ⟨rfl, g⟩ := flTs_at h2 e2
    exact ⟨p, _, rfl, .inl (.of h1), f, g, h⟩
  · obtain ⟨x', e1, h⟩ := getK_at h
    obtain ⟨xs, e2, h⟩ := getK_at h
    obtain ⟨rfl, f⟩ := la.fl e1
    obtain ⟨p, vs, rfl, h1, h2⟩ := lb.tup s
    obtain ⟨rfl, g⟩ := flTs_at h2 e2
    exact ⟨p, _, rfl, .inr h1, f, g, h⟩
  · obtain ⟨x', e1, h⟩ := getK_at h
    obtain ⟨xs, e2, h⟩ := getK_at h
    obtain ⟨rfl, f⟩ := la.fl e1
    obtain ⟨p, vs, rfl, h1, h2⟩ := lb.wtp s
    obtain ⟨rfl, g⟩ := flTs_at h2 e2
    exact ⟨p, _, rfl, .inr h1, f, g, h⟩
structure inT (a b : Tv) (k : Bool → Prop) : Prop where
  un : inT0 a b k
theorem inT_of {a b : Tv} {k : Bool → Prop} (h : inT0 a b k) : inT a b k := ⟨h⟩
theorem inT_un {a b : Tv} {k : Bool → Prop} (h : inT a b k) : inT0 a b k := h.un
theorem opt_in : OpT K (rIn K false) (fun a b P => inT a b fun c => P (.val (.bl c))) := by
  intro S H x y a b Q P s la lb h k
  obtain ⟨p, xs, h1, h2, h3, h4, h5⟩ := inT_at s la lb (inT_un h)
  exact ⟨p, xs, h1, h2, h3, h4, k (.val (.bl _)) _ _ (.inl ⟨rfl, .bl _⟩) h5⟩
theorem opt_notIn : OpT K (rIn K true) (fun a b P => inT a b fun c => P (.val (.bl (!c)))) := by
  intro S H x y a b Q P s la lb h k
  obtain ⟨p, xs, h1, h2, h3, h4, h5⟩ := inT_at s la lb (inT_un h)
  exact ⟨p, xs, h1, h2, h3, h4, k (.val (.bl _)) _ _ (.inl ⟨rfl, .bl _⟩) h5⟩
/-- in a text, one sign -/
def sgn (z : Str) : Option Nat := match z.cps.toList with
  | [c] => some c
  | _ => none
theorem sgn_at {z : Str} {c : Nat} (h : sgn z = some c) : z = ⟨#[c]⟩ := by
  obtain ⟨⟨l⟩⟩ := z
  unfold sgn at h
  cases l with
  | nil => cases h
  | cons d l =>
    cases l with
    | nil =>
      injection h with h
      rw [h]
    | cons e l => cases h
def inS : Tv → Tv → (Bool → Prop) → Prop
  | .str a, .str z, k => getK (sgn a) fun c => k (decide (c ∈ z.cps.toList))
  | _, _, _ => False
theorem opt_inS : OpT K (fun x y H Q => ∃ (c : Nat) (z : Str), x = .str ⟨#[c]⟩ ∧ y = .str z ∧ Q (.bl (decide (c ∈ z.cps.toList))) H) (fun a b P => inS a b fun c => P (.val (.bl c))) := by
  intro S H x y a b Q P s la lb h k
  cases a <;> cases b <;> first | exact h.elim | skip
  obtain ⟨c, e, q⟩ := getK_at h
  refine ⟨c, _, ?_, lb.tV rfl, k (.val (.bl _)) _ _ (.inl ⟨rfl, .bl _⟩) q⟩
  rw [la.tV rfl, sgn_at e]
/-! ### lists put together -/
@[reducible] def catL : Tv → Tv → (List Tv → Prop) → Prop
  | .lst a, .lst b, k => a.length + b.length ≤ sizeLine ∧ k (a ++ b)
  | _, _, _ => False
theorem opt_cat : OpT K rCat (fun a b P => catL a b fun ts => P (.own (.lst ts))) := by
  intro S H x y a b Q P s la lb h k
  cases a <;> cases b <;> first | exact h.elim | skip
  obtain ⟨p, vs, rfl, h1, h2⟩ := la.lst s
  obtain ⟨q, ws, rfl, h3, h4⟩ := lb.lst s
  exact ⟨p, q, vs, ws, rfl, rfl, h1, h3, by rw [← h2.len, ← h4.len]; exact h.1, fun r hr => k (.own (.lst _)) _ _ ⟨r, _, rfl, hr, rfl, .lst upd_same (h2.app h4)⟩ h.2⟩
@[reducible] def catT : Tv → Tv → (List Tv → Prop) → Prop
  | .tup a, .tup b, k => a.length + b.length ≤ sizeLine ∧ k (a ++ b)
  | _, _, _ => False
theorem Lk.rep_tup {S H : Hp} {ts : List Tv} {v : V} (h : Lk K S H (.tup ts) v) : Rep K S (.tup ts) v := by
  rcases h with h | ⟨p, rfl, h⟩
  · exact h
  · cases h
theorem Reps.nil_iff {S : Hp} {ts : List Tv} {vs : List V} (h : Reps K S ts vs) : vs = [] ↔ ts = [] := by
  cases h <;> simp
theorem opt_catA : OpT K (rCatA K) (fun a b P => catT a b fun ts => P (.val (.tup ts))) := by
  intro S H x y a b Q P s la lb h k
  cases a <;> cases b <;> first | exact h.elim | skip
  have ra := la.rep_tup
  have rb := lb.rep_tup
  obtain ⟨p, vs, rfl, h1, h2⟩ := la.tup s
  obtain ⟨q, ws, rfl, h3, h4⟩ := lb.tup s
  refine ⟨p, q, vs, ws, rfl, rfl, h1, h3, by rw [← h2.len, ← h4.len]; exact h.1, fun e => ?_, fun e1 e2 => ?_, fun e1 e2 r hr => ?_⟩
  · have := h2.nil_iff.mp e
    subst this
    exact k (.val (.tup _)) _ _ (.inl ⟨rfl, rb⟩) h.2
  · have := h4.nil_iff.mp e2
    subst this
    have e := h.2
    rw [List.append_nil] at e
    exact k (.val (.tup _)) _ _ (.inl ⟨rfl, ra⟩) e
  · refine k (.val (.tup _)) _ _ (.inr ⟨r, _, rfl, hr, rfl, ?_⟩) h.2
    have hS : S r = none := s.free hr
    have s' : Same S (upd S r (.tup (vs ++ ws))) := Same.upd_new hS
    exact .tup upd_same ((h2.mono s').app (h4.mono s'))
/-! ### built-ins -/
@[reducible] def lenT : Tv → (Int → Prop) → Prop
  | .str x, k => x.length ≤ sizeLine ∧ k (x.length : Nat)
  | .lst xs, k => k (xs.length : Nat)
  | .tup xs, k => k (xs.length : Nat)
  | .wtp xs, k => k (xs.length : Nat)
  | _, _ => False
theorem cbt_len : CbT1 K (fun xs H Q => ∃ x n, xs = [x] ∧ LenV K x H n ∧ Q (.int n) H) (fun a P => lenT a fun i => P (.val (.int i))) := by
  intro S H x a Q P s la h k
  cases a <;> first | exact h.elim | skip
  · rename_i z
    refine ⟨x, z.length, rfl, ?_, k (.val (.int _)) _ _ (.inl ⟨rfl, .int _⟩) h.2⟩
    rw [la.tV rfl]
    exact ⟨h.1, rfl⟩
  · obtain ⟨p, vs, rfl, h1, h2⟩ := la.lst s
    exact ⟨_, vs.length, rfl, .inl ⟨vs, .of h1, rfl⟩, k (.val (.int _)) _ _ (.inl ⟨rfl, .int _⟩) (by rw [← h2.len]; exact h)⟩
  · obtain ⟨p, vs, rfl, h1, h2⟩ := la.tup s
    exact ⟨_, vs.length, rfl, .inr ⟨vs, h1, rfl⟩, k (.val (.int _)) _ _ (.inl ⟨rfl, .int _⟩) (by rw [← h2.len]; exact h)⟩
  · obtain ⟨p, vs, rfl, h1, h2⟩ := la.wtp s
    exact ⟨_, vs.length, rfl, .inr ⟨vs, h1, rfl⟩, k (.val (.int _)) _ _ (.inl ⟨rfl, .int _⟩) (by rw [← h2.len]; exact h)⟩
def blsT : List Tv → Option (List Bool)
  | [] => some []
  | .bl b :: ts => (blsT ts).map (b :: ·)
  | _ :: _ => none
theorem blsT_at {S : Hp} : ∀ {ts : List Tv} {vs : List V} {bs : List Bool}, Reps K S ts vs → blsT ts = some bs → vs = bs.map V.bl
  | _, _, _, .nil, e => by
    injection e with e
    subst e
    rfl
  | t :: ts, v :: vs, bs, .cons h r, e => by
    cases h <;> first | cases e | skip
    rename_i b
    unfold blsT at e
    obtain ⟨cs, e1, rfl⟩ := Option.map_eq_some_iff.mp e
    rw [blsT_at r e1]
    rfl
theorem blsT_map : ∀ bs : List Bool, blsT (bs.map Tv.bl) = some bs
  | [] => rfl
  | b :: bs => by
    show (blsT (bs.map Tv.bl)).map (b :: ·) = _
    rw [blsT_map bs]
    rfl
@[reducible] def bsT : Tv → (List Bool → Prop) → Prop
  | .lst ts, k => getK (blsT ts) k
  | _, _ => False
theorem cbt_all : CbT1 K (rAll K) (fun a P => bsT a fun bs => P (.val (.bl (bs.all id)))) := by
  intro S H x a Q P s la h k
  cases a <;> first | exact h.elim | skip
  obtain ⟨bs, e, q⟩ := getK_at h
  obtain ⟨p, vs, rfl, h1, h2⟩ := la.lst s
  have := blsT_at h2 e
  subst this
  exact ⟨p, bs, rfl, .of h1, k (.val (.bl _)) _ _ (.inl ⟨rfl, .bl _⟩) q⟩
theorem cbt_any : CbT1 K (rAny K) (fun a P => bsT a fun bs => P (.val (.bl (bs.any id)))) := by
  intro S H x a Q P s la h k
  cases a <;> first | exact h.elim | skip
  obtain ⟨bs, e, q⟩ := getK_at h
  obtain ⟨p, vs, rfl, h1, h2⟩ := la.lst s
  have := blsT_at h2 e
  subst this
  exact ⟨p, bs, rfl, .of h1, k (.val (.bl _)) _ _ (.inl ⟨rfl, .bl _⟩) q⟩
theorem cbt_abs : CbT1 K (fun xs H Q => ∃ i, xs = [.int i] ∧ Q (.int (if i < 0 then -i else i)) H) (fun a P => i1 a fun i => P (.val (.int (if i < 0 then -i else i)))) := by
  intro S H x a Q P s la h k
  obtain ⟨i, rfl, q⟩ := i1_at h
  exact ⟨i, by rw [la.tV rfl], k (.val (.int _)) _ _ (.inl ⟨rfl, .int _⟩) q⟩
@[reducible] def intT : Tv → (Int → Prop) → Prop
  | .int i, k => k i
  | .bl b, k => k (if b then 1 else 0)
  | _, _ => False
theorem cbt_int : CbT1 K (fun xs H Q => (∃ i, xs = [.int i] ∧ Q (.int i) H) ∨ ∃ k, xs = [.bl k] ∧ Q (.int (if k then 1 else 0)) H) (fun a P => intT a fun i => P (.val (.int i))) := by
  intro S H x a Q P s la h k
  cases a <;> first | exact h.elim | skip
  · exact .inr ⟨_, by rw [la.tV rfl], k (.val (.int _)) _ _ (.inl ⟨rfl, .int _⟩) h⟩
  · exact .inl ⟨_, by rw [la.tV rfl], k (.val (.int _)) _ _ (.inl ⟨rfl, .int _⟩) h⟩
@[reducible] def boolT : Tv → (Bool → Prop) → Prop
  | .int i, k => k (i != 0)
  | .bl b, k => k b
  | _, _ => False
theorem cbt_bool : CbT1 K (fun xs H Q => (∃ i, xs = [.int i] ∧ Q (.bl (i != 0)) H) ∨ ∃ k, xs = [.bl k] ∧ Q (.bl k) H) (fun a P => boolT a fun i => P (.val (.bl i))) := by
  intro S H x a Q P s la h k
  cases a <;> first | exact h.elim | skip
  · exact .inr ⟨_, by rw [la.tV rfl], k (.val (.bl _)) _ _ (.inl ⟨rfl, .bl _⟩) h⟩
  · exact .inl ⟨_, by rw [la.tV rfl], k (.val (.bl _)) _ _ (.inl ⟨rfl, .bl _⟩) h⟩
theorem cbt_strI : CbT1 K (fun xs H Q => ∃ i, xs = [.int i] ∧ i.natAbs.log2 < 1920 ∧ Q (.str (toString i)) H) (fun a P => i1 a fun i => i.natAbs.log2 < 1920 ∧ P (.val (.str (toString i)))) := by
  intro S H x a Q P s la h k
  obtain ⟨i, rfl, hc, q⟩ := i1_at h
  exact ⟨i, by rw [la.tV rfl], hc, k (.val (.str _)) _ _ (.inl ⟨rfl, .str _⟩) q⟩
theorem cbt_strS : CbT1 K (fun xs H Q => ∃ a, xs = [.str a] ∧ Q (.str a) H) (fun a P => s1 a fun i => P (.val (.str i))) := by
  intro S H x a Q P s la h k
  obtain ⟨i, rfl, q⟩ := s1_at h
  exact ⟨i, by rw [la.tV rfl], k (.val (.str _)) _ _ (.inl ⟨rfl, .str _⟩) q⟩
@[reducible] def seqT : Tv → (List Tv → Prop) → Prop
  | .lst ts, k => k ts
  | .tup ts, k => k ts
  | .wtp ts, k => k ts
  | _, _ => False
theorem cbt_list : CbT1 K (fun xs H Q => ∃ p ys, xs = [.ref p] ∧ (SqL K H p ys ∨ SqT K H p ys) ∧ ∀ l, H l = none → Q (.ref l) (upd H l (.lst ys))) (fun a P => seqT a fun ts => P (.own (.lst ts))) := by
  intro S H x a Q P s la h k
  cases a <;> first | exact h.elim | skip
  · obtain ⟨p, vs, rfl, h1, h2⟩ := la.lst s
    exact ⟨p, vs, rfl, .inl (.of h1), fun l hl => k (.own (.lst _)) _ _ ⟨l, _, rfl, hl, rfl, .lst upd_same h2⟩ h⟩
  · obtain ⟨p, vs, rfl, h1, h2⟩ := la.tup s
    exact ⟨p, vs, rfl, .inr h1, fun l hl => k (.own (.lst _)) _ _ ⟨l, _, rfl, hl, rfl, .lst upd_same h2⟩ h⟩
  · obtain ⟨p, vs, rfl, h1, h2⟩ := la.wtp s
    exact ⟨p, vs, rfl, .inr h1, fun l hl => k (.own (.lst _)) _ _ ⟨l, _, rfl, hl, rfl, .lst upd_same h2⟩ h⟩
@[reducible] def tupleT : Tv → (List Tv → Prop) → Prop
  | .lst ts, k => k ts
  | .tup ts, k => k ts
  | _, _ => False
theorem cbt_tuple : CbT1 K (rTup K) (fun a P => tupleT a fun ts => P (.val (.tup ts))) := by
  intro S H x a Q P s la h k
  cases a <;> first | exact h.elim | skip
  · obtain ⟨p, vs, rfl, h1, h2⟩ := la.lst s
    refine ⟨p, vs, rfl, .inl ⟨.of h1, fun l hl => k (.val (.tup _)) _ _ (.inr ⟨l, _, rfl, hl, rfl, ?_⟩) h⟩⟩
    exact .tup upd_same (h2.mono (Same.upd_new (s.free hl)))
  · have ra := la.rep_tup
    obtain ⟨p, vs, rfl, h1, h2⟩ := la.tup s
    exact ⟨p, vs, rfl, .inr ⟨h1, k (.val (.tup _)) _ _ (.inl ⟨rfl, ra⟩) h⟩⟩
def dctT : Tv → (List (Key × Tv) → Prop) → Prop
  | .dct ts, k => k ts
  | _, _ => False
theorem cbt_dict : CbT1 K (fun xs H Q => ∃ (a : Addr) (kvs : List (Key × V)), xs = [.ref a] ∧ Rd H a (.dK kvs) ∧ ∀ p, H p = none → Q (.ref p) (upd H p (.dK kvs))) (fun a P => dctT a fun ts => P (.own (.dct ts))) := by
  intro S H x a Q P s la h k
  cases a <;> first | exact h.elim | skip
  obtain ⟨p, vs, rfl, h1, h2, h3⟩ := la.dct s
  exact ⟨p, vs, rfl, .inl h1, fun l hl => k (.own (.dct _)) _ _ ⟨l, _, rfl, hl, rfl, .dct upd_same h2 h3⟩ h⟩
/-- isinstance -/
structure IsC (K : PySem.W.Frag) (C : Addr) : Prop where
  cl : Cls K C
  ca : PySem.W.findIn K (.ref C) "__class__" = some (some (.builtin "object.__class__"))
  cn : PySem.W.specialIn K (.builtin "object.__class__") "__get__" = some (some (.builtin "getset_descriptor.__get__"))
  ct : PySem.W.takesIn K (.builtin "object.__class__") = some true
  cm : PySem.W.mroIn K C (.type "object") = some true
@[reducible] def tyT (K : PySem.W.Frag) : Tv → (Value → Prop) → Prop
  | .non, k => k (.type "NoneType")
  | .bl _, k => k (.type "bool")
  | .int _, k => k (.type "int")
  | .str _, k => k (.type "str")
  | .lst _, k => k (.type "list")
  | .tup _, k => k (.type "tuple")
  | .wtp _, k => k (.type "tuple")
  | .dct _, k => k (.type "dict")
  | .ins C _, k => IsC K C ∧ k (.ref C)
  | _, _ => False
theorem tyT_at {S H : Hp} {a : Tv} {x : V} {k : Value → Prop} (s : Same S H) (la : Lk K S H a x) (h : tyT K a k) : ∃ t, TyX K H x t ∧ k t := by
  cases a <;> first | exact h.elim | skip
  · rw [la.tV rfl]; exact ⟨_, .base .non, h⟩
  · rw [la.tV rfl]; exact ⟨_, .base (.bl _), h⟩
  · rw [la.tV rfl]; exact ⟨_, .base (.int _), h⟩
  · rw [la.tV rfl]; exact ⟨_, .base (.str _), h⟩
  · obtain ⟨p, vs, rfl, h1, h2⟩ := la.lst s
    exact ⟨_, .base (.lst h1), h⟩
  · obtain ⟨p, vs, rfl, h1, h2⟩ := la.tup s
    exact ⟨_, tyx_T h1, h⟩
  · obtain ⟨p, vs, rfl, h1, h2⟩ := la.wtp s
    exact ⟨_, tyx_T h1, h⟩
  · obtain ⟨p, dx, vs, rfl, h1, h2, h3⟩ := la.ins s
    exact ⟨_, .base (.ins h1 h.1.cl h.1.ca h.1.cn h.1.ct h.1.cm), h.2⟩
  · obtain ⟨p, vs, rfl, h1, h2⟩ := la.dct s
    exact ⟨_, .base (.dK h1), h⟩
@[reducible] def clT : Tv → (Value → Prop) → Prop
  | .ty n, k => k (.type n)
  | .adr C, k => k (.ref C)
  | _, _ => False
theorem cbt_isi : CbT2 K (rIsi K) (fun a b P => tyT K a fun t => clT b fun u => getK (PySem.W.kitOne K t u) fun c => P (.val (.bl c))) := by
  intro S H x y a b Q P s la lb h k
  obtain ⟨t, ht, h⟩ := tyT_at s la h
  cases b <;> first | exact h.elim | skip
  · obtain ⟨c, e, q⟩ := getK_at h
    exact ⟨x, y, t, _, c, rfl, by rw [lb.tV rfl]; exact .ty _, ht, e, k (.val (.bl _)) _ _ (.inl ⟨rfl, .bl _⟩) q⟩
  · obtain ⟨c, e, q⟩ := getK_at h
    exact ⟨x, y, t, _, c, rfl, by rw [lb.tV rfl]; exact .own _, ht, e, k (.val (.bl _)) _ _ (.inl ⟨rfl, .bl _⟩) q⟩
/-! ### fields -/
theorem fld_at {S : Hp} : ∀ {fs : List (Str × Tv)} {vs : List (Str × V)} {f : Str} {t : Tv}, fs.map Prod.fst = vs.map Prod.fst → Reps K S (fs.map Prod.snd) (vs.map Prod.snd) → fs.lookup f = some t → ∃ v, vs.lookup f = some v ∧ Rep K S t v
  | [], [], f, t, _, _, e => by cases e
  | (g, u) :: fs, (g', v) :: vs, f, t, e1, r, e => by
    rw [List.map_cons, List.map_cons] at e1
    injection e1 with e1 e2
    have e1 : g = g' := e1
    subst e1
    cases r with
    | cons h r =>
      rw [List.lookup_cons] at e ⊢
      by_cases hb : (f == g) = true
      · rw [hb] at e ⊢
        simp only [Option.some.injEq] at e
        subst e
        exact ⟨v, rfl, h⟩
      · rw [show (f == g) = false by simpa using hb] at e ⊢
        exact fld_at e2 r e
theorem fld_none : ∀ {fs : List (Str × Tv)} {vs : List (Str × V)} {f : Str}, fs.map Prod.fst = vs.map Prod.fst → fs.lookup f = none → vs.lookup f = none
  | [], [], f, _, _ => rfl
  | (g, u) :: fs, (g', v) :: vs, f, e1, e => by
    rw [List.map_cons, List.map_cons] at e1
    injection e1 with e1 e2
    have e1 : g = g' := e1
    subst e1
    rw [List.lookup_cons] at e ⊢
    by_cases hb : (f == g) = true
    · rw [hb] at e
      cases e
    · rw [show (f == g) = false by simpa using hb] at e ⊢
      exact fld_none e2 e
def putT (f : Str) (t : Tv) : List (Str × Tv) → List (Str × Tv)
  | [] => [(f, t)]
  | (g, x) :: r => if g = f then (g, t) :: r else (g, x) :: putT f t r
theorem putT_at {S : Hp} {f : Str} {t : Tv} {v : V} (h : Rep K S t v) : ∀ {fs : List (Str × Tv)} {vs : List (Str × V)}, fs.map Prod.fst = vs.map Prod.fst → Reps K S (fs.map Prod.snd) (vs.map Prod.snd) →
    (putT f t fs).map Prod.fst = (putF f v vs).map Prod.fst ∧ Reps K S ((putT f t fs).map Prod.snd) ((putF f v vs).map Prod.snd)
  | [], [], _, _ => ⟨rfl, .cons h .nil⟩
  | (g, u) :: fs, (g', w) :: vs, e1, r => by
    rw [List.map_cons, List.map_cons] at e1
    injection e1 with e1 e2
    have e1 : g = g' := e1
    subst e1
    cases r with
    | cons h' r =>
      unfold putT putF
      by_cases e : g = f
      · rw [if_pos e, if_pos e]
        exact ⟨by rw [List.map_cons, List.map_cons, e2], .cons h r⟩
      · rw [if_neg e, if_neg e]
        obtain ⟨q1, q2⟩ := putT_at h e2 r
        exact ⟨by rw [List.map_cons, List.map_cons, q1], .cons h' q2⟩
/-- a class whose attribute f is each object's own -/
structure FldC (K : PySem.W.Frag) (C : Addr) (f : Str) : Prop where
  cl : Cls K C
  no : NoAttr K C f
@[reducible] def fFld (K : PySem.W.Frag) (fa : TTE) (f : Str) : TTE := fun τ P => fa τ fun r τ1 => lookR r τ1 fun a => match a with
  | .ins C fs => FldC K C f ∧ getK (fs.lookup f) fun t => P (.val t) τ1
  | _ => False
theorem ter_fld {ta : TE} {fa : TTE} {f : Str} (ha : TEr F ta fa) : TEr F (tFld F.K ta f) (fFld F.K fa f) := fun σ τ S H Q P E q k => by
  refine ha σ τ S H _ _ E q fun r1 τ1 v1 S1 H1 s1 E1 h1 q1 => ?_
  obtain ⟨a, la, q2⟩ := E1.look h1 q1
  cases a <;> first | exact (show False from q2).elim | skip
  rename_i C fs
  have q2 : FldC F.K C f ∧ getK (fs.lookup f) fun t => P (.val t) τ1 := q2
  obtain ⟨t, e, q3⟩ := getK_at q2.2
  obtain ⟨p, dx, vs, rfl, h2, h3, h4⟩ := la.ins E1.sH
  obtain ⟨v, h5, h6⟩ := fld_at h3 h4 e
  exact ⟨p, C, dx, vs, v, rfl, h2, q2.1.cl, q2.1.no, h5, k (.val t) τ1 v S1 H1 s1 E1 h6 q3⟩
/-! ### slices -/
abbrev TTO := Ev → (Option Int → Ev → Prop) → Prop
def TOr (F : Fr) (tt : TO) (f : TTO) : Prop := ∀ (σ : L2.St) (τ : Ev) (S H : Hp) (Q : Option Int → Hp → Prop) (P : Option Int → Ev → Prop), EvR F σ τ S H → f τ P →
  (∀ b τ' S' H', Same S S' → EvR F σ τ' S' H' → P b τ' → Q b H') → tt σ H Q
@[reducible] def oNone : TTO := fun τ P => P none τ
@[reducible] def oSome (f : TTE) : TTO := fun τ P => f τ fun r τ1 => lookR r τ1 fun t => i1 t fun i => P (some i) τ1
theorem tor_none : TOr F tNoPart oNone := fun σ τ S H Q P E q k => k none τ S H (Same.refl S) E q
theorem tor_some {te : TE} {f : TTE} (h : TEr F te f) : TOr F (tPart te) (oSome f) := fun σ τ S H Q P E q k => by
  refine h σ τ S H _ _ E q fun r1 τ1 v1 S1 H1 s1 E1 h1 q1 => ?_
  obtain ⟨a, la, q2⟩ := E1.look h1 q1
  obtain ⟨i, rfl, q3⟩ := i1_at q2
  exact ⟨i, la.tV rfl, k (some i) τ1 S1 H1 s1 E1 q3⟩
def SlT (K : PySem.W.Frag) (r : V → Option Int → Option Int → Hp → VK → Prop) (g : Tv → Option Int → Option Int → (Rv → Prop) → Prop) : Prop := ∀ (S H : Hp) (x : V) (a : Tv) (lo hi : Option Int) (Q : VK) (P : Rv → Prop), Same S H → Lk K S H a x → g a lo hi P →
  (∀ rv v H', Res K S H rv v H' → P rv → Q v H') → r x lo hi H Q
@[reducible] def fSl (fa : TTE) (fl fh : TTO) (g : Tv → Option Int → Option Int → (Rv → Prop) → Prop) : TTE := fun τ P => fa τ fun r1 τ1 => prepR r1 fun r1 => fl τ1 fun lo τ2 => fh τ2 fun hi τ3 => lookR r1 τ3 fun a => g a lo hi fun rv => P rv τ3
theorem ter_sl {r : V → Option Int → Option Int → Hp → VK → Prop} {g : Tv → Option Int → Option Int → (Rv → Prop) → Prop} {ta : TE} {tl th : TO} {fa : TTE} {fl fh : TTO} (o : SlT F.K r g) (ha : TEr F ta fa) (hl : TOr F tl fl) (hh : TOr F th fh) : TEr F (tSl r ta tl th) (fSl fa fl fh g) := fun σ τ S H Q P E f k => by
  refine ha σ τ S H _ _ E f fun r1 τ1 v1 S1 H1 s1 E1 h1 q1 => ?_
  obtain ⟨r1', S2, s2, E2, p1, q2⟩ := E1.prep h1 q1
  refine hl σ τ1 S2 H1 _ _ E2 q2 fun lo τ2 S3 H3 s3 E3 q3 => ?_
  refine hh σ τ2 S3 H3 _ _ E3 q3 fun hi τ3 S4 H4 s4 E4 q4 => ?_
  obtain ⟨a, la, q5⟩ := E4.lookP p1 (s3.trans s4) q4
  refine o S4 H4 v1 a lo hi _ _ E4.sH la q5 fun rv v H' hr hp => ?_
  obtain ⟨S5, s5, E5, h5⟩ := E4.res' hr
  exact k rv τ3 v S5 H' (s1.trans (s2.trans (s3.trans (s4.trans s5)))) E5 h5 hp
theorem Reps.cut {S : Hp} {ts : List Tv} {vs : List V} (lo hi : Option Int) (h : Reps K S ts vs) : Reps K S (cutL ts lo hi) (cutV vs lo hi) := by
  show Reps K S _ ((vs.drop (HT.sIx vs.length 0 lo)).take (HT.sIx vs.length vs.length hi - HT.sIx vs.length 0 lo))
  unfold cutL
  rw [h.len]
  exact (h.drop _).take _
@[reducible] def cutLT : Tv → Option Int → Option Int → (List Tv → Prop) → Prop
  | .lst ts, lo, hi, k => k (cutL ts lo hi)
  | _, _, _, _ => False
theorem slt_L : SlT K (rSlL K) (fun a lo hi P => cutLT a lo hi fun ts => P (.own (.lst ts))) := by
  intro S H x a lo hi Q P s la h k
  cases a <;> first | exact h.elim | skip
  obtain ⟨p, vs, rfl, h1, h2⟩ := la.lst s
  exact ⟨p, vs, rfl, .of h1, fun r hr => k (.own (.lst _)) _ _ ⟨r, _, rfl, hr, rfl, .lst upd_same (h2.cut lo hi)⟩ h⟩
@[reducible] def cutST : Tv → Option Int → Option Int → (Str → Prop) → Prop
  | .str z, lo, hi, k => z.length ≤ sizeLine ∧ k (cutS z lo hi)
  | _, _, _, _ => False
theorem slt_S : SlT K rSlS (fun a lo hi P => cutST a lo hi fun z => P (.val (.str z))) := by
  intro S H x a lo hi Q P s la h k
  cases a <;> first | exact h.elim | skip
  exact ⟨_, la.tV rfl, h.1, k (.val (.str _)) _ _ (.inl ⟨rfl, .str _⟩) h.2⟩
end
end L2.Wk
namespace L2.Wk
open PySem PySem.Spec PyProof.Rows
def Fr.at (F : Fr) (H0 : Hp) : Fr := { F with H0 := H0 }
section
variable {F : Fr} {σ : L2.St} {τ : Ev} {S H S' H' : Hp}
/-! ### an object on its way is guarded by the frame -/
theorem EvR0.unguard {D : Addr} {o : HO} (E : EvR0 (F.at (upd F.H0 D o)) σ τ S H) (h0 : F.H0 D = none) (s0 : F.S0 D = none) (hM : ¬ F.R.M D) : EvR0 F σ τ S H ∧ H D = some o ∧ Mine F S D ∧ Apart σ τ D := by
  have hD : H D = some o := E.fr D o upd_same hM
  have hS : S D = none := by
    cases q : S D with
    | none => rfl
    | some u =>
      rcases E.nw D (by rw [q]; exact fun z => by cases z) with z | z
      · exact absurd s0 z
      · have z : upd F.H0 D o D = none := z
        rw [upd_same] at z
        cases z
  have sub : ∀ {a}, upd F.H0 D o a = none → F.H0 a = none ∧ a ≠ D := fun {a} z => by
    have ne : a ≠ D := fun e => by
      rw [e, upd_same] at z
      cases z
    rw [upd_ne ne] at z
    exact ⟨z, ne⟩
  refine ⟨⟨E.s0, E.sH, fun b u e mb => E.fr b u (by show upd F.H0 D o b = some u; rw [upd_ne (ne_of_none e h0)]; exact e) mb, fun b hb => ?_, E.res, E.off, E.len, fun i s hi => ?_, E.dj⟩, hD, ⟨hS, h0, hM⟩, fun j s t hj hm hv => ?_⟩
  · rcases E.nw b hb with z | z
    · exact .inl z
    · exact .inr (sub z).1
  · obtain ⟨v, h1, h2⟩ := E.sl i s hi
    refine ⟨v, h1, ?_⟩
    cases s with
    | val t => exact h2
    | own t =>
      obtain ⟨a, rfl, ⟨m1, m2, m3⟩, h3⟩ := h2
      exact ⟨a, rfl, ⟨m1, (sub m2).1, m3⟩, h3⟩
    | slf a t =>
      obtain ⟨rfl, ⟨m1, m2, m3⟩, h3⟩ := h2
      exact ⟨rfl, ⟨m1, (sub m2).1, m3⟩, h3⟩
  · obtain ⟨v, h1, h0'⟩ := E.sl j _ hj
    obtain ⟨a, rfl, ⟨_, m2, _⟩, _⟩ := h0'.mine hm
    rw [hv] at h1
    cases h1
    exact (sub m2).2 rfl
theorem EvR.guard (E : EvR F σ τ S H) {D : Addr} {o : HO} (m : Mine F S D) (ap : Apart σ τ D) (h : H D = some o) : EvR (F.at (upd F.H0 D o)) σ τ S H := by
  refine ⟨⟨E.s0, E.sH, fun b u e mb => ?_, fun b hb => ?_, E.res, E.off, E.len, fun i s hi => ?_, E.dj⟩, fun σ τ S' H' C d f v t E' h1 h2 h3 => E.ex σ τ S' H' C d f v t (E'.unguard m.2.1 (E.s0.free m.1) m.2.2).1 h1 h2 h3⟩
  · rcases upd_all (show upd F.H0 D o b = some u from e) with ⟨rfl, rfl⟩ | ⟨ne, e⟩
    · exact h
    · exact E.fr b u e mb
  · rcases E.nw b hb with z | z
    · exact .inl z
    · refine .inr ?_
      show upd F.H0 D o b = none
      rw [upd_ne fun e : b = D => hb (e ▸ m.1)]
      exact z
  · obtain ⟨v, h1, h2⟩ := E.sl i s hi
    refine ⟨v, h1, ?_⟩
    have own : ∀ {t a}, s.mine = some t → v = .ref a → Mine F S a → Mine (F.at (upd F.H0 D o)) S a := fun {t a} hm hv ⟨m1, m2, m3⟩ => by
      refine ⟨m1, ?_, m3⟩
      show upd F.H0 D o a = none
      rw [upd_ne fun e : a = D => ap i s t hi hm (e ▸ hv ▸ h1)]
      exact m2
    cases s with
    | val t => exact h2
    | own t =>
      obtain ⟨a, rfl, m, h3⟩ := h2
      exact ⟨a, rfl, own rfl rfl m, h3⟩
    | slf a t =>
      obtain ⟨rfl, m, h3⟩ := h2
      exact ⟨rfl, own rfl rfl m, h3⟩
theorem EvR.unguard {D : Addr} {o : HO} (ex : ExOk F) (E : EvR (F.at (upd F.H0 D o)) σ τ S H) (h0 : F.H0 D = none) (s0 : F.S0 D = none) (hM : ¬ F.R.M D) : EvR F σ τ S H ∧ H D = some o ∧ Mine F S D ∧ Apart σ τ D := by
  obtain ⟨a, b⟩ := E.toEvR0.unguard h0 s0 hM
  exact ⟨⟨a, ex⟩, b⟩
/-- a guarded object is written -/
theorem EvR.reguard {D : Addr} {o u : HO} (E : EvR F σ τ S H) (m : Mine F S D) (ap : Apart σ τ D) (h : H D = some o) : EvR F σ τ S (upd H D u) := by
  refine E.go (Same.refl S) (same_updR E.sH m.1) (fun b w e hb => ?_) (fun b hb => .inl hb) (F.R.mono (Same.refl S) (fun b mb => upd_ne fun e => m.2.2 (e ▸ mb)) E.res) E.off
  have ne : b ≠ D := by
    rintro rfl
    rcases hb with hb | ⟨hb, _⟩ | hb
    · rw [m.1] at hb
      cases hb
    · rw [m.2.1] at hb
      cases hb
    · exact hb ap
  rw [upd_ne ne]
  exact e
/-! ### texts' methods -/
def M1T (K : PySem.W.Frag) (r : V → List V → Hp → VK → Prop) (g : Str → Tv → (Rv → Prop) → Prop) : Prop := ∀ (S H : Hp) (z : Str) (y : V) (b : Tv) (Q : VK) (P : Rv → Prop), Same S H → Lk K S H b y → g z b P →
  (∀ rv v H', Res K S H rv v H' → P rv → Q v H') → r (.str z) [y] H Q
@[reducible] def fM1 (fa fb : TTE) (g : Str → Tv → (Rv → Prop) → Prop) : TTE := fun τ P => fa τ fun r1 τ1 => lookR r1 τ1 fun a => s1 a fun z => fb τ1 fun r2 τ2 => lookR r2 τ2 fun b => g z b fun rv => P rv τ2
theorem ter_m1 {r : V → List V → Hp → VK → Prop} {g : Str → Tv → (Rv → Prop) → Prop} {ta tb : TE} {fa fb : TTE} (o : M1T F.K r g) (ha : TEr F ta fa) (hb : TEr F tb fb) : TEr F (tM1 r ta tb) (fM1 fa fb g) := fun σ τ S H Q P E f k => by
  refine ha σ τ S H _ _ E f fun r1 τ1 v1 S1 H1 s1 E1 h1 q1 => ?_
  obtain ⟨a, la, q2⟩ := E1.look h1 q1
  obtain ⟨z, rfl, q3⟩ := s1_at q2
  refine ⟨⟨z, la.tV rfl⟩, hb σ τ1 S1 H1 _ _ E1 q3 fun r2 τ2 v2 S2 H2 s2 E2 h2 q4 => ?_⟩
  obtain ⟨b, lb, q5⟩ := E2.look h2 q4
  rw [la.tV rfl]
  refine o S2 H2 z v2 b _ _ E2.sH lb q5 fun rv v H' hr hp => ?_
  obtain ⟨S4, s4, E4, h4⟩ := E2.res' hr
  exact k rv τ2 v S4 H' (s1.trans (s2.trans s4)) E4 h4 hp
variable {K : PySem.W.Frag}
theorem reps_strs {S : Hp} : ∀ zs : List Str, Reps K S (zs.map Tv.str) (zs.map V.str)
  | [] => .nil
  | z :: zs => .cons (.str z) (reps_strs zs)
theorem reps_ints {S : Hp} : ∀ zs : List Int, Reps K S (zs.map Tv.int) (zs.map V.int)
  | [] => .nil
  | z :: zs => .cons (.int z) (reps_ints zs)
theorem m1t_split : M1T K (fun x xs H Q => ∃ a b, x = .str a ∧ xs = [.str b] ∧ (b.length == 0) = false ∧ a.length + 2 ≤ sizeLine ∧ rNewStrs (Txt.split a b) H Q)
    (fun z b P => s1 b fun y => (y.length == 0) = false ∧ z.length + 2 ≤ sizeLine ∧ P (.own (.lst ((Txt.split z y).map Tv.str)))) := by
  intro S H z y b Q P s lb h k
  obtain ⟨u, rfl, h1, h2, q⟩ := s1_at h
  exact ⟨z, u, rfl, by rw [lb.tV rfl], h1, h2, fun p hp => k (.own (.lst _)) _ _ ⟨p, _, rfl, hp, rfl, .lst upd_same (reps_strs _)⟩ q⟩
theorem m1t_partition : M1T K (fun x xs H Q => ∃ a b, x = .str a ∧ xs = [.str b] ∧ (b.length == 0) = false ∧ a.length ≤ sizeLine ∧
      ∀ p, H p = none → Q (.ref p) (upd H p (.tup [.str (Txt.partition a b).1, .str (Txt.partition a b).2.1, .str (Txt.partition a b).2.2])))
    (fun z b P => s1 b fun y => (y.length == 0) = false ∧ z.length ≤ sizeLine ∧ P (.val (.tup [.str (Txt.partition z y).1, .str (Txt.partition z y).2.1, .str (Txt.partition z y).2.2]))) := by
  intro S H z y b Q P s lb h k
  obtain ⟨u, rfl, h1, h2, q⟩ := s1_at h
  exact ⟨z, u, rfl, by rw [lb.tV rfl], h1, h2, fun p hp => k (.val (.tup _)) _ _ (.inr ⟨p, _, rfl, hp, rfl, .tup upd_same (.cons (.str _) (.cons (.str _) (.cons (.str _) .nil)))⟩) q⟩
def strsT : List Tv → Option (List Str)
  | [] => some []
  | .str z :: ts => (strsT ts).map (z :: ·)
  | _ :: _ => none
theorem strsT_at {S : Hp} : ∀ {ts : List Tv} {vs : List V} {bs : List Str}, Reps K S ts vs → strsT ts = some bs → vs = bs.map V.str
  | _, _, _, .nil, e => by
    injection e with e
    subst e
    rfl
  | t :: ts, v :: vs, bs, .cons h r, e => by
    cases h <;> first | cases e | skip
    rename_i b
    unfold strsT at e
    obtain ⟨cs, e1, rfl⟩ := Option.map_eq_some_iff.mp e
    rw [strsT_at r e1]
    rfl
theorem strsT_map : ∀ bs : List Str, strsT (bs.map Tv.str) = some bs
  | [] => rfl
  | b :: bs => by
    show (strsT (bs.map Tv.str)).map (b :: ·) = _
    rw [strsT_map bs]
    rfl
theorem m1t_join : M1T K (fun x xs H Q => ∃ a p, ∃ ys : List Str, x = .str a ∧ xs = [.ref p] ∧ (SqL K H p (ys.map V.str) ∨ SqT K H p (ys.map V.str)) ∧
      (ys.map (·.length)).sum + ys.length * a.length ≤ 16777216 ∧ Q (.str (Txt.join a ys)) H)
    (fun z b P => seqT b fun ts => getK (strsT ts) fun ys => (ys.map (·.length)).sum + ys.length * z.length ≤ 16777216 ∧ P (.val (.str (Txt.join z ys)))) := by
  intro S H z y b Q P s lb h k
  cases b <;> first | exact h.elim | skip
  · obtain ⟨ys, e, q1, q2⟩ := getK_at h
    obtain ⟨p, vs, rfl, h1, h2⟩ := lb.lst s
    have := strsT_at h2 e
    subst this
    exact ⟨z, p, ys, rfl, rfl, .inl (.of h1), q1, k (.val (.str _)) _ _ (.inl ⟨rfl, .str _⟩) q2⟩
  · obtain ⟨ys, e, q1, q2⟩ := getK_at h
    obtain ⟨p, vs, rfl, h1, h2⟩ := lb.tup s
    have := strsT_at h2 e
    subst this
    exact ⟨z, p, ys, rfl, rfl, .inr h1, q1, k (.val (.str _)) _ _ (.inl ⟨rfl, .str _⟩) q2⟩
  · obtain ⟨ys, e, q1, q2⟩ := getK_at h
    obtain ⟨p, vs, rfl, h1, h2⟩ := lb.wtp s
    have := strsT_at h2 e
    subst this
    exact ⟨z, p, ys, rfl, rfl, .inr h1, q1, k (.val (.str _)) _ _ (.inl ⟨rfl, .str _⟩) q2⟩
/-! ### slices of tuples; turned round -/
@[reducible] def cutTT : Tv → Option Int → Option Int → (List Tv → Prop) → Prop
  | .tup ts, lo, hi, k => ¬ (HT.sIx ts.length 0 lo = 0 ∧ HT.sIx ts.length ts.length hi = ts.length) ∧ k (cutL ts lo hi)
  | _, _, _, _ => False
theorem slt_T : SlT K (rSlT K) (fun a lo hi P => cutTT a lo hi fun ts => P (.val (.tup ts))) := by
  intro S H x a lo hi Q P s la h k
  cases a <;> first | exact h.elim | skip
  obtain ⟨p, vs, rfl, h1, h2⟩ := la.tup s
  refine ⟨p, vs, rfl, h1, by rw [← h2.len]; exact h.1, fun r hr => k (.val (.tup _)) _ _ (.inr ⟨r, _, rfl, hr, rfl, ?_⟩) h.2⟩
  exact .tup upd_same ((h2.cut lo hi).mono (Same.upd_new (s.free hr)))
@[reducible] def lstK : Tv → (List Tv → Prop) → Prop
  | .lst ts, k => k ts
  | _, _ => False
@[reducible] def fRev (f : TTE) : TTE := fun τ P => f τ fun r τ1 => lookR r τ1 fun a => lstK a fun ts => P (.own (.lst ts.reverse)) τ1
theorem ter_rev {te : TE} {f : TTE} (h : TEr F te f) : TEr F (tRevL F.K te) (fRev f) := fun σ τ S H Q P E q k => by
  refine h σ τ S H _ _ E q fun r1 τ1 v1 S1 H1 s1 E1 h1 q1 => ?_
  obtain ⟨a, la, q2⟩ := E1.look h1 q1
  cases a <;> first | exact q2.elim | skip
  obtain ⟨p, vs, rfl, h2, h3⟩ := la.lst E1.sH
  refine ⟨p, vs, rfl, .of h2, fun l hl => ?_⟩
  exact k (.own (.lst _)) τ1 _ S1 _ s1 (E1.alloc_own _ hl) ⟨l, rfl, E1.mine hl, .lst upd_same h3.rev, E1.apart hl⟩ q2
/-! ### a slot's own list: append, extend, pop -/
@[reducible] def ownK (τ : Ev) (i : Nat) (k : Tv → Prop) : Prop := slotK τ i k fun _ => False
theorem ownK_at {τ : Ev} {i : Nat} {k : Tv → Prop} (h : ownK τ i k) : ∃ t, τ[i]? = some (some (Sl.own t)) ∧ k t := by
  rcases slotK_at h with h | ⟨_, _, h⟩
  · exact h
  · exact h.elim
theorem lstK_at {t : Tv} {k : List Tv → Prop} (h : lstK t k) : ∃ ts, t = .lst ts ∧ k ts := by
  cases t <;> first | exact ⟨_, rfl, h⟩ | exact h.elim
theorem EvR.ownL (E : EvR F σ τ S H) {i : Nat} {ts : List Tv} (h : τ[i]? = some (some (Sl.own (.lst ts)))) : ∃ a vs, σ[i]? = some (some (.ref a)) ∧ H a = some (.lst vs) ∧ Reps F.K S ts vs := by
  obtain ⟨v, h1, a, rfl, m, h2⟩ := E.sl i _ h
  cases h2 with | lst h2 r => exact ⟨a, _, h1, h2, r⟩
@[reducible] def fAppend (i : Nat) (f : TTE) : TTE := fun τ P => ownK τ i fun t => lstK t fun _ => f τ fun r τ1 => sharR r τ1 fun u τ2 => ownK τ2 i fun t => lstK t fun ts => ts.length < sizeLine ∧ P (.val .non) (τ2.set i (some (.own (.lst (ts ++ [u])))))
theorem ter_append {i : Nat} {te : TE} {f : TTE} (h : TEr F te f) : TEr F (tBM F.K "list" rAppend (tVar i) (tCons te tNil)) (fAppend i f) := fun σ τ S H Q P E q k => by
  obtain ⟨t, e1, q1⟩ := ownK_at q
  obtain ⟨ts, rfl, q1⟩ := lstK_at q1
  obtain ⟨a, vs, h1, h2, h3⟩ := E.ownL e1
  refine ⟨_, h1, .inl ⟨rfl, vs, .of h2⟩, h σ τ S H _ _ E q1 fun r1 τ1 v1 S1 H1 s1 E1 r2 q2 => ?_⟩
  obtain ⟨u, τ2, S2, s2, E2, rp, q3⟩ := E1.shar r2 q2
  obtain ⟨t, e2, q4⟩ := ownK_at q3
  obtain ⟨ts', rfl, q4, q5⟩ := lstK_at q4
  obtain ⟨a', vs', h4, h5, h6⟩ := E2.ownL e2
  rw [h1] at h4
  cases h4
  refine ⟨a, vs', v1, rfl, rfl, h5, by rw [← h6.len]; exact q4, ?_⟩
  exact k (.val .non) _ _ S2 _ (s1.trans s2) (E2.mut e2 h1 (.lst upd_same (h6.app (.one rp)))) Rep.non q5
@[reducible] def fExtend (i : Nat) (f : TTE) : TTE := fun τ P => ownK τ i fun t => lstK t fun _ => f τ fun r τ1 => lookR r τ1 fun u => lstK u fun us => ownK τ1 i fun t => lstK t fun ts => ts.length + us.length ≤ sizeLine ∧ P (.val .non) (τ1.set i (some (.own (.lst (ts ++ us)))))
theorem ter_extend {i : Nat} {te : TE} {f : TTE} (h : TEr F te f) : TEr F (tBM F.K "list" rExtend (tVar i) (tCons te tNil)) (fExtend i f) := fun σ τ S H Q P E q k => by
  obtain ⟨t, e1, q1⟩ := ownK_at q
  obtain ⟨ts, rfl, q1⟩ := lstK_at q1
  obtain ⟨a, vs, h1, h2, h3⟩ := E.ownL e1
  refine ⟨_, h1, .inl ⟨rfl, vs, .of h2⟩, h σ τ S H _ _ E q1 fun r1 τ1 v1 S1 H1 s1 E1 r2 q2 => ?_⟩
  obtain ⟨u, lu, q3⟩ := E1.look r2 q2
  obtain ⟨us, rfl, q3⟩ := lstK_at q3
  obtain ⟨b, ws, rfl, h7, h8⟩ := lu.lst E1.sH
  obtain ⟨t, e2, q4⟩ := ownK_at q3
  obtain ⟨ts', rfl, q4, q5⟩ := lstK_at q4
  obtain ⟨a', vs', h4, h5, h6⟩ := E1.ownL e2
  rw [h1] at h4
  cases h4
  refine ⟨a, b, vs', ws, rfl, rfl, h5, h7, by rw [← h6.len, ← h8.len]; exact q4, ?_⟩
  exact k (.val .non) _ _ S1 _ s1 (E1.mut e2 h1 (.lst upd_same (h6.app h8))) Rep.non q5
@[reducible] def fPop (i : Nat) : TTE := fun τ P => ownK τ i fun t => lstK t fun ts => getK ts[ts.length - 1]? fun u => P (.val u) (τ.set i (some (.own (.lst ts.dropLast))))
theorem ter_pop {i : Nat} : TEr F (tBM0 F.K "list" rPop (tVar i)) (fPop i) := fun σ τ S H Q P E q k => by
  obtain ⟨t, e1, q1⟩ := ownK_at q
  obtain ⟨ts, rfl, q1⟩ := lstK_at q1
  obtain ⟨u, e2, q1⟩ := getK_at q1
  obtain ⟨a, vs, h1, h2, h3⟩ := E.ownL e1
  obtain ⟨y, h4, h5⟩ := h3.getT e2
  refine ⟨_, h1, .inl ⟨rfl, vs, .of h2⟩, a, vs, y, rfl, rfl, h2, by rw [← h3.len]; exact h4, ?_⟩
  exact k (.val u) _ _ S _ (Same.refl S) (E.mut e1 h1 (.lst upd_same h3.dropLast)) h5 q1
@[reducible] def fPopAt (i : Nat) (f : TTE) : TTE := fun τ P => ownK τ i fun t => lstK t fun _ => f τ fun r τ1 => lookR r τ1 fun u => i1 u fun j => ownK τ1 i fun t => lstK t fun ts => -(2 ^ 63) ≤ j ∧ j < 2 ^ 63 ∧ getK (seqIndex? j ts.length) fun n => getK ts[n]? fun u => P (.val u) (τ1.set i (some (.own (.lst (ts.eraseIdx n)))))
theorem ter_popAt {i : Nat} {te : TE} {f : TTE} (h : TEr F te f) : TEr F (tBM F.K "list" rPopAt (tVar i) (tCons te tNil)) (fPopAt i f) := fun σ τ S H Q P E q k => by
  obtain ⟨t, e1, q1⟩ := ownK_at q
  obtain ⟨ts, rfl, q1⟩ := lstK_at q1
  obtain ⟨a, vs, h1, h2, h3⟩ := E.ownL e1
  refine ⟨_, h1, .inl ⟨rfl, vs, .of h2⟩, h σ τ S H _ _ E q1 fun r1 τ1 v1 S1 H1 s1 E1 r2 q2 => ?_⟩
  obtain ⟨u, lu, q3⟩ := E1.look r2 q2
  obtain ⟨j, rfl, q3⟩ := i1_at q3
  obtain ⟨t, e2, q4⟩ := ownK_at q3
  obtain ⟨ts', rfl, b1, b2, q4⟩ := lstK_at q4
  obtain ⟨n, e3, q4⟩ := getK_at q4
  obtain ⟨u, e4, q4⟩ := getK_at q4
  obtain ⟨a', vs', h4, h5, h6⟩ := E1.ownL e2
  rw [h1] at h4
  cases h4
  obtain ⟨y, h7, h8⟩ := h6.getT e4
  refine ⟨a, vs', j, n, y, rfl, by rw [lu.tV rfl], h5, b1, b2, by rw [← h6.len]; exact e3, h7, ?_⟩
  exact k (.val u) _ _ S1 _ s1 (E1.mut e2 h1 (.lst upd_same (h6.erase n))) h8 q4
/-! ### dicts -/
def keyT : Tv → Option Key
  | .int i => some (.inl i)
  | .str z => some (.inr z)
  | _ => none
theorem keyT_at {S H : Hp} {t : Tv} {v : V} {k : Key} (h : Lk K S H t v) (e : keyT t = some k) : v = kV k := by
  cases t <;> first | cases e | skip
  · rw [h.tV rfl]; rfl
  · rw [h.tV rfl]; rfl
def valT {κ : Type} [DecidableEq κ] (kvs : List (κ × Tv)) (k : κ) : Option Tv := (kvs.find? fun kv => decide (kv.1 = k)).map (·.2)
theorem valT_at {κ : Type} [DecidableEq κ] {S : Hp} {k : κ} : ∀ {ts : List (κ × Tv)} {vs : List (κ × V)}, ts.map Prod.fst = vs.map Prod.fst → Reps K S (ts.map Prod.snd) (vs.map Prod.snd) →
    (valT ts k = none ∧ valV vs k = none) ∨ ∃ t v, valT ts k = some t ∧ valV vs k = some v ∧ Rep K S t v
  | [], [], _, _ => .inl ⟨rfl, rfl⟩
  | (g, u) :: fs, (g', w) :: vs, e1, r => by
    rw [List.map_cons, List.map_cons] at e1
    injection e1 with e1 e2
    have e1 : g = g' := e1
    subst e1
    cases r with
    | cons h' r =>
      unfold valT valV
      by_cases e : g = k
      · rw [List.find?_cons_of_pos (by simpa using e), List.find?_cons_of_pos (by simpa using e)]
        exact .inr ⟨u, w, rfl, rfl, h'⟩
      · rw [List.find?_cons_of_neg (by simpa using e), List.find?_cons_of_neg (by simpa using e)]
        exact valT_at e2 r
def putKT {κ : Type} [DecidableEq κ] (kvs : List (κ × Tv)) (k : κ) (v : Tv) : List (κ × Tv) :=
  if (kvs.any fun kv => decide (kv.1 = k)) = true then kvs.map (fun kv => if kv.1 = k then (kv.1, v) else kv) else kvs ++ [(k, v)]
theorem any_fst {κ : Type} [DecidableEq κ] {k : κ} : ∀ {ts : List (κ × Tv)} {vs : List (κ × V)}, ts.map Prod.fst = vs.map Prod.fst → (ts.any fun kv => decide (kv.1 = k)) = (vs.any fun kv => decide (kv.1 = k))
  | [], [], _ => rfl
  | (g, u) :: fs, (g', w) :: vs, e1 => by
    rw [List.map_cons, List.map_cons] at e1
    injection e1 with e1 e2
    have e1 : g = g' := e1
    subst e1
    rw [List.any_cons, List.any_cons, any_fst e2]
theorem putKT_map {κ : Type} [DecidableEq κ] {S : Hp} {k : κ} {t : Tv} {v : V} (h : Rep K S t v) : ∀ {ts : List (κ × Tv)} {vs : List (κ × V)}, ts.map Prod.fst = vs.map Prod.fst → Reps K S (ts.map Prod.snd) (vs.map Prod.snd) →
    (ts.map (fun kv => if kv.1 = k then (kv.1, t) else kv)).map Prod.fst = (vs.map (fun kv => if kv.1 = k then (kv.1, v) else kv)).map Prod.fst ∧ Reps K S ((ts.map (fun kv => if kv.1 = k then (kv.1, t) else kv)).map Prod.snd) ((vs.map (fun kv => if kv.1 = k then (kv.1, v) else kv)).map Prod.snd)
  | [], [], _, _ => ⟨rfl, .nil⟩
  | (g, u) :: fs, (g', w) :: vs, e1, r => by
    rw [List.map_cons, List.map_cons] at e1
    injection e1 with e1 e2
    have e1 : g = g' := e1
    subst e1
    cases r with
    | cons h' r =>
      obtain ⟨q1, q2⟩ := putKT_map h e2 r
      simp only [List.map_cons]
      by_cases e : g = k
      · simp only [e, if_true]
        exact ⟨by rw [q1], .cons h q2⟩
      · simp only [e, if_false]
        exact ⟨by rw [q1], .cons h' q2⟩
theorem putKT_at {κ : Type} [DecidableEq κ] {S : Hp} {k : κ} {t : Tv} {v : V} (h : Rep K S t v) {ts : List (κ × Tv)} {vs : List (κ × V)} (e : ts.map Prod.fst = vs.map Prod.fst) (r : Reps K S (ts.map Prod.snd) (vs.map Prod.snd)) :
    (putKT ts k t).map Prod.fst = (putK vs k v).map Prod.fst ∧ Reps K S ((putKT ts k t).map Prod.snd) ((putK vs k v).map Prod.snd) := by
  unfold putKT putK
  rw [any_fst e]
  split
  · exact putKT_map h e r
  · rw [List.map_append, List.map_append, List.map_append, List.map_append]
    exact ⟨by rw [e]; rfl, r.app (.one h)⟩
@[reducible] def dctK : Tv → (List (Key × Tv) → Prop) → Prop
  | .dct ts, k => k ts
  | _, _ => False
theorem dctK_at {t : Tv} {k : List (Key × Tv) → Prop} (h : dctK t k) : ∃ ts, t = .dct ts ∧ k ts := by
  cases t <;> first | exact ⟨_, rfl, h⟩ | exact h.elim
/-- keys that are tuples -/
def keysT : List Tv → Option (List Key)
  | [] => some []
  | t :: ts => match keyT t, keysT ts with
    | some k, some ks => some (k :: ks)
    | _, _ => none
theorem keyR_at {S : Hp} {t : Tv} {v : V} {k : Key} (h : Rep K S t v) (e : keyT t = some k) : v = kV k := keyT_at (H := S) (.inl h) e
theorem keysT_at {S : Hp} : ∀ {ts : List Tv} {vs : List V} {ks : List Key}, Reps K S ts vs → keysT ts = some ks → vs = ks.map kV
  | _, _, _, .nil, e => by
    injection e with e
    subst e
    rfl
  | t :: ts, v :: vs, ks, .cons h r, e => by
    unfold keysT at e
    split at e
    · rename_i k ks' e1 e2
      injection e with e
      subst e
      rw [keyR_at h e1, keysT_at r e2]
      rfl
    · cases e
theorem keysT_map {α : Type} (f : α → Tv) (g : α → Key) (h : ∀ x, keyT (f x) = some (g x)) : ∀ l : List α, keysT (l.map f) = some (l.map g)
  | [] => rfl
  | x :: l => by
    rw [List.map_cons]
    unfold keysT
    rw [h x, keysT_map f g h l]
    rfl
def dgK0 : Tv → Tv → (Option Tv → Prop) → Prop
  | .dct ts, y, k => getK (keyT y) fun κ => k (valT ts κ)
  | .dtt ts, .tup us, k => getK (keysT us) fun κ => k (valT ts κ)
  | _, _, _ => False
theorem dgK_at {S H : Hp} {d y : Tv} {x v : V} {k : Option Tv → Prop} (s : Same S H) (ld : Lk K S H d x) (ly : Lk K S H y v) (h : dgK0 d y k) :
    ∃ p o ot, x = .ref p ∧ DGet H p v o ∧ k ot ∧ (ot = none ∧ o = none ∨ ∃ t u, ot = some t ∧ o = some u ∧ Rep K S t u) := by
  cases d <;> first | exact h.elim | skip
  · obtain ⟨κ, e1, h⟩ := getK_at h
    obtain ⟨p, vs, rfl, h4, h5, h6⟩ := ld.dct s
    refine ⟨p, valV vs κ, _, rfl, ?_, h, ?_⟩
    · rw [keyT_at ly e1]
      exact DGet.k h4
    · rcases valT_at (k := κ) h5 h6 with z | ⟨t, u, z⟩
      · exact .inl z
      · exact .inr ⟨t, u, z⟩
  · cases y <;> first | exact h.elim | skip
    obtain ⟨κ, e1, h⟩ := getK_at h
    obtain ⟨p, vs, rfl, h4, h5, h6⟩ := ld.dtt s
    obtain ⟨q, ws, rfl, h7, h8⟩ := ly.tupA s
    have e := keysT_at h8 e1
    subst e
    refine ⟨p, valV vs κ, _, rfl, DGet.t h4 h7, h, ?_⟩
    rcases valT_at (k := κ) h5 h6 with z | ⟨t, u, z⟩
    · exact .inl z
    · exact .inr ⟨t, u, z⟩
structure dgK (d y : Tv) (k : Option Tv → Prop) : Prop where
  un : dgK0 d y k
theorem dgK_of {d y : Tv} {k : Option Tv → Prop} (h : dgK0 d y k) : dgK d y k := ⟨h⟩
theorem dgK_un {d y : Tv} {k : Option Tv → Prop} (h : dgK d y k) : dgK0 d y k := h.un
@[reducible] def fDGet (fd fk : TTE) : TTE := fun τ P => fd τ fun r1 τ1 => prepR r1 fun r1 => fk τ1 fun r2 τ2 => lookR r1 τ2 fun d => lookR r2 τ2 fun y => dgK d y fun o => getK o fun t => P (.val t) τ2
theorem ter_dget {td ty : TE} {fd fk : TTE} (hd : TEr F td fd) (hk : TEr F ty fk) : TEr F (tDGet td ty) (fDGet fd fk) := fun σ τ S H Q P E f k => by
  refine hd σ τ S H _ _ E f fun r1 τ1 v1 S1 H1 s1 E1 h1 q1 => ?_
  obtain ⟨r1', S2, s2, E2, p1, q2⟩ := E1.prep h1 q1
  refine hk σ τ1 S2 H1 _ _ E2 q2 fun r2 τ2 v2 S3 H3 s3 E3 h3 q3 => ?_
  obtain ⟨a, la, q4⟩ := E3.lookP p1 s3 q3
  obtain ⟨b, lb, q5⟩ := E3.look h3 q4
  obtain ⟨p, o, ot, rfl, g, q6, e⟩ := dgK_at E3.sH la lb (dgK_un q5)
  obtain ⟨t, rfl, q6⟩ := getK_at q6
  rcases e with ⟨e, _⟩ | ⟨t', u, e, rfl, rp⟩
  · cases e
  · cases e
    exact ⟨p, u, rfl, g, k (.val t) τ2 u S3 H3 (s1.trans (s2.trans s3)) E3 rp q6⟩
/-- k in d -/
@[reducible] def fDIn (neg : Bool) (fk fd : TTE) : TTE := fun τ P => fk τ fun r1 τ1 => prepR r1 fun r1 => fd τ1 fun r2 τ2 => lookR r1 τ2 fun y => lookR r2 τ2 fun d => dgK d y fun o => P (.val (.bl (if neg then !o.isSome else o.isSome))) τ2
theorem ter_din {td ty : TE} {fd fk : TTE} (hk : TEr F ty fk) (hd : TEr F td fd) : TEr F (tDIn ty td) (fDIn false fk fd) := fun σ τ S H Q P E f k => by
  refine hk σ τ S H _ _ E f fun r1 τ1 v1 S1 H1 s1 E1 h1 q1 => ?_
  obtain ⟨r1', S2, s2, E2, p1, q2⟩ := E1.prep h1 q1
  refine hd σ τ1 S2 H1 _ _ E2 q2 fun r2 τ2 v2 S3 H3 s3 E3 h3 q3 => ?_
  obtain ⟨a, la, q4⟩ := E3.lookP p1 s3 q3
  obtain ⟨b, lb, q5⟩ := E3.look h3 q4
  obtain ⟨p, o, ot, rfl, g, q6, e⟩ := dgK_at E3.sH lb la (dgK_un q5)
  have e2 : o.isSome = ot.isSome := by rcases e with ⟨rfl, rfl⟩ | ⟨t', u, rfl, rfl, _⟩ <;> rfl
  exact ⟨p, o, rfl, g, k (.val (.bl _)) τ2 _ S3 H3 (s1.trans (s2.trans s3)) E3 (by rw [e2]; exact Rep.bl _) q6⟩
theorem ter_dnotin {td ty : TE} {fd fk : TTE} (hk : TEr F ty fk) (hd : TEr F td fd) : TEr F (tDNotIn ty td) (fDIn true fk fd) := fun σ τ S H Q P E f k => by
  refine hk σ τ S H _ _ E f fun r1 τ1 v1 S1 H1 s1 E1 h1 q1 => ?_
  obtain ⟨r1', S2, s2, E2, p1, q2⟩ := E1.prep h1 q1
  refine hd σ τ1 S2 H1 _ _ E2 q2 fun r2 τ2 v2 S3 H3 s3 E3 h3 q3 => ?_
  obtain ⟨a, la, q4⟩ := E3.lookP p1 s3 q3
  obtain ⟨b, lb, q5⟩ := E3.look h3 q4
  obtain ⟨p, o, ot, rfl, g, q6, e⟩ := dgK_at E3.sH lb la (dgK_un q5)
  have e2 : o.isSome = ot.isSome := by rcases e with ⟨rfl, rfl⟩ | ⟨t', u, rfl, rfl, _⟩ <;> rfl
  exact ⟨p, o, rfl, g, k (.val (.bl _)) τ2 _ S3 H3 (s1.trans (s2.trans s3)) E3 (by rw [e2]; exact Rep.bl _) q6⟩
def fDNewT : TTE := fun τ P => P (.own (.dtt [])) τ
theorem ter_dnewT : TEr F tDNewT fDNewT := fun σ τ S H Q P E f k p hp =>
  k (.own (.dtt [])) τ _ S _ (Same.refl S) (E.alloc_own _ hp) ⟨p, rfl, E.mine hp, .dtt upd_same rfl .nil, E.apart hp⟩ f
def fDNew : TTE := fun τ P => P (.own (.dct [])) τ
theorem ter_dnew : TEr F tDNewK fDNew := fun σ τ S H Q P E f k p hp =>
  k (.own (.dct [])) τ _ S _ (Same.refl S) (E.alloc_own _ hp) ⟨p, rfl, E.mine hp, .dct upd_same rfl .nil, E.apart hp⟩ f
end
end L2.Wk
namespace L2.Wk
open PySem PySem.Spec PyProof.Rows
/-! ### what a loop walks -/
structure ItOk (K : PySem.W.Frag) (J : It) (S : Hp) (ts : List Tv) : Prop where
  go : ∀ i S' H', Same S S' → Same S' H' → i < ts.length → J.go i H'
  yld : ∀ i S' H' x H'', Same S S' → Same S' H' → J.yld i H' x H'' → ∀ t, ts[i]? = some t → Res K S' H' (.val t) x H''
  stop : ∀ i S' H', Same S S' → Same S' H' → i = ts.length → J.stop i H'
abbrev TTI := Ev → (List Tv → Ev → Prop) → Prop
def TIr (F : Fr) (wi : TI) (f : TTI) : Prop := ∀ (σ : L2.St) (τ : Ev) (S H : Hp) (R : It → Hp → Prop) (P : List Tv → Ev → Prop), EvR F σ τ S H → f τ P →
  (∀ ts τ' J S' H', Same S S' → EvR F σ τ' S' H' → ItOk F.K J S' ts → P ts τ' → R J H') → wi σ H R
section
variable {K : PySem.W.Frag} {F : Fr} {S H : Hp}
theorem itok_list {a : Addr} {vs : List V} {ts : List Tv} (h : S a = some (.lst vs)) (r : Reps K S ts vs) : ItOk K (Itl K a) S ts := by
  refine ⟨fun i S' H' s1 s2 hi => ?_, fun i S' H' x H'' s1 s2 y t e => ?_, fun i S' H' s1 s2 hi => ?_⟩
  · rw [r.len] at hi
    exact ⟨vs, vs[i], .of (s2 _ _ (s1 _ _ h)), List.getElem?_eq_getElem hi⟩
  · obtain ⟨e1, e2⟩ := y
    obtain ⟨v, e3, e4⟩ := r.getT e
    have := e2 vs (.of (s2 _ _ (s1 _ _ h)))
    rw [e3] at this
    cases this
    exact .inl ⟨e1, e4.mono s1⟩
  · rw [hi, r.len]
    exact ⟨vs, .of (s2 _ _ (s1 _ _ h)), Nat.le_refl _⟩
theorem itok_tup {a : Addr} {vs : List V} {ts : List Tv} (h : SqT K S a vs) (r : Reps K S ts vs) : ItOk K (Itt K a) S ts := by
  refine ⟨fun i S' H' s1 s2 hi => ?_, fun i S' H' x H'' s1 s2 y t e => ?_, fun i S' H' s1 s2 hi => ?_⟩
  · rw [r.len] at hi
    exact ⟨vs, vs[i], Same.sqT (s1.trans s2) h, List.getElem?_eq_getElem hi⟩
  · obtain ⟨e1, e2⟩ := y
    obtain ⟨v, e3, e4⟩ := r.getT e
    have := e2 vs (Same.sqT (s1.trans s2) h)
    rw [e3] at this
    cases this
    exact .inl ⟨e1, e4.mono s1⟩
  · rw [hi, r.len]
    exact ⟨vs, Same.sqT (s1.trans s2) h, Nat.le_refl _⟩
@[reducible] def wList (f : TTE) : TTI := fun τ P => f τ fun r τ1 => sharR r τ1 fun t τ2 => lstK t fun ts => P ts τ2
@[reducible] def tupK : Tv → (List Tv → Prop) → Prop
  | .tup ts, k => k ts
  | .wtp ts, k => k ts
  | _, _ => False
theorem tupK_at {S : Hp} {t : Tv} {v : V} {k : List Tv → Prop} (r : Rep K S t v) (h : tupK t k) : ∃ a vs ts, v = .ref a ∧ SqT K S a vs ∧ Reps K S ts vs ∧ k ts := by
  cases t <;> first | exact h.elim | skip
  · cases r with | tup h1 r1 => exact ⟨_, _, _, rfl, .of h1, r1, h⟩
  · cases r with | wtp h1 r1 => exact ⟨_, _, _, rfl, h1, r1, h⟩
@[reducible] def wTup (f : TTE) : TTI := fun τ P => f τ fun r τ1 => sharR r τ1 fun t τ2 => tupK t fun ts => P ts τ2
@[reducible] def wSeq (f : TTE) : TTI := fun τ P => f τ fun r τ1 => sharR r τ1 fun t τ2 => seqT t fun ts => P ts τ2
theorem tir_list {te : TE} {f : TTE} (h : TEr F te f) : TIr F (iList F.K te) (wList f) := fun σ τ S H R P E q k => by
  refine h σ τ S H _ _ E q fun r1 τ1 v1 S1 H1 s1 E1 h1 q1 => ?_
  obtain ⟨t, τ2, S2, s2, E2, rp, q2⟩ := E1.shar h1 q1
  cases t <;> first | exact q2.elim | skip
  cases rp with
  | lst h2 r => exact ⟨_, rfl, ⟨_, .of (E2.sH _ _ h2)⟩, k _ τ2 _ S2 H1 (s1.trans s2) E2 (itok_list h2 r) q2⟩
theorem tir_tup {te : TE} {f : TTE} (h : TEr F te f) : TIr F (iTup F.K te) (wTup f) := fun σ τ S H R P E q k => by
  refine h σ τ S H _ _ E q fun r1 τ1 v1 S1 H1 s1 E1 h1 q1 => ?_
  obtain ⟨t, τ2, S2, s2, E2, rp, q2⟩ := E1.shar h1 q1
  obtain ⟨a, vs, ts, rfl, h2, r, q2⟩ := tupK_at rp q2
  exact ⟨_, rfl, ⟨_, Same.sqT E2.sH h2⟩, k _ τ2 _ S2 H1 (s1.trans s2) E2 (itok_tup h2 r) q2⟩
theorem tir_seq {te : TE} {f : TTE} (h : TEr F te f) : TIr F (iSeq F.K te) (wSeq f) := fun σ τ S H R P E q k => by
  refine h σ τ S H _ _ E q fun r1 τ1 v1 S1 H1 s1 E1 h1 q1 => ?_
  obtain ⟨t, τ2, S2, s2, E2, rp, q2⟩ := E1.shar h1 q1
  cases t <;> first | exact q2.elim | skip
  · cases rp with
    | lst h2 r => exact ⟨_, rfl, .inl ⟨⟨_, .of (E2.sH _ _ h2)⟩, k _ τ2 _ S2 H1 (s1.trans s2) E2 (itok_list h2 r) q2⟩⟩
  · cases rp with
    | tup h2 r => exact ⟨_, rfl, .inr ⟨⟨_, .of (E2.sH _ _ h2)⟩, k _ τ2 _ S2 H1 (s1.trans s2) E2 (itok_tup (.of h2) r) q2⟩⟩
  · cases rp with
    | wtp h2 r => exact ⟨_, rfl, .inr ⟨⟨_, Same.sqT E2.sH h2⟩, k _ τ2 _ S2 H1 (s1.trans s2) E2 (itok_tup h2 r) q2⟩⟩
/-- the signs of a text -/
def sgnsT (z : Str) : List Tv := z.cps.toList.map fun c => Tv.str ⟨#[c]⟩
@[reducible] def wStr (f : TTE) : TTI := fun τ P => f τ fun r τ1 => lookR r τ1 fun t => s1 t fun z => P (sgnsT z) τ1
theorem itok_str (z : Str) : ItOk K (Its z) S (sgnsT z) := by
  have hl : (sgnsT z).length = z.cps.size := by
    unfold sgnsT
    rw [List.length_map, Array.length_toList]
  refine ⟨fun i S' H' s1 s2 hi => by rw [hl] at hi; exact hi, fun i S' H' x H'' s1 s2 y t e => ?_, fun i S' H' s1 s2 hi => by rw [hl] at hi; exact Nat.le_of_eq hi.symm⟩
  obtain ⟨e1, c, e2, rfl⟩ := y
  have e2' : z.cps.toList[i]? = some c := by simpa using e2
  unfold sgnsT at e
  rw [List.getElem?_map, e2'] at e
  cases e
  exact .inl ⟨e1, .str _⟩
theorem tir_str {te : TE} {f : TTE} (h : TEr F te f) : TIr F (iStr te) (wStr f) := fun σ τ S H R P E q k => by
  refine h σ τ S H _ _ E q fun r1 τ1 v1 S1 H1 s1 E1 h1 q1 => ?_
  obtain ⟨t, la, q2⟩ := E1.look h1 q1
  obtain ⟨z, rfl, q3⟩ := s1_at q2
  exact ⟨z, la.tV rfl, k _ τ1 _ S1 H1 s1 E1 (itok_str z) q3⟩
/-- ranges -/
def rngT (lo : Int) (n : Nat) : List Tv := (List.range n).map fun i => Tv.int (lo + (i : Nat))
theorem rngT_len (lo : Int) (n : Nat) : (rngT lo n).length = n := by
  unfold rngT
  rw [List.length_map, List.length_range]
theorem rngT_get {lo : Int} {n i : Nat} (h : i < n) : (rngT lo n)[i]? = some (.int (lo + (i : Nat))) := by
  unfold rngT
  rw [List.getElem?_map, List.getElem?_range h]
  rfl
theorem itok_rng (lo : Int) (n : Nat) : ItOk K (Itr lo n) S (rngT lo n) := by
  refine ⟨fun i S' H' s1 s2 hi => by rw [rngT_len] at hi; exact hi, fun i S' H' x H'' s1 s2 y t e => ?_, fun i S' H' s1 s2 hi => by rw [rngT_len] at hi; exact Nat.le_of_eq hi.symm⟩
  obtain ⟨e1, rfl⟩ := y
  have hi : i < n := by
    have := (List.getElem?_eq_some_iff.mp e).1
    rw [rngT_len] at this
    exact this
  rw [rngT_get hi] at e
  cases e
  exact .inl ⟨e1, .int _⟩
@[reducible] def wRng1 (f : TTE) : TTI := fun τ P => f τ fun r τ1 => lookR r τ1 fun t => i1 t fun j => -(2 ^ 62) ≤ j ∧ j < 2 ^ 62 ∧ P (rngT 0 j.toNat) τ1
theorem tir_rng1 {te : TE} {f : TTE} (h : TEr F te f) : TIr F (iRng1 (tCons te tNil)) (wRng1 f) := fun σ τ S H R P E q k => by
  refine h σ τ S H _ _ E q fun r1 τ1 v1 S1 H1 s1 E1 h1 q1 => ?_
  obtain ⟨t, la, q2⟩ := E1.look h1 q1
  obtain ⟨j, rfl, b1, b2, q3⟩ := i1_at q2
  exact ⟨j, by rw [la.tV rfl], b1, b2, k _ τ1 _ S1 H1 s1 E1 (itok_rng 0 _) q3⟩
@[reducible] def wRng2 (f g : TTE) : TTI := fun τ P => f τ fun r τ1 => lookR r τ1 fun t => i1 t fun i => g τ1 fun r τ2 => lookR r τ2 fun t => i1 t fun j => (-(2 ^ 62) ≤ i ∧ i < 2 ^ 62 ∧ -(2 ^ 62) ≤ j ∧ j < 2 ^ 62) ∧ P (rngT i (j - i).toNat) τ2
theorem tir_rng2 {te te' : TE} {f g : TTE} (h : TEr F te f) (h' : TEr F te' g) : TIr F (iRng2 (tCons te (tCons te' tNil))) (wRng2 f g) := fun σ τ S H R P E q k => by
  refine h σ τ S H _ _ E q fun r1 τ1 v1 S1 H1 s1 E1 h1 q1 => ?_
  obtain ⟨t, la, q2⟩ := E1.look h1 q1
  obtain ⟨i, rfl, q2⟩ := i1_at q2
  refine h' σ τ1 S1 H1 _ _ E1 q2 fun r2 τ2 v2 S2 H2 s2 E2 h2 q3 => ?_
  obtain ⟨t, lb, q3⟩ := E2.look h2 q3
  obtain ⟨j, rfl, b, q3⟩ := i1_at q3
  exact ⟨i, j, by rw [la.tV rfl, lb.tV rfl], b, k _ τ2 _ S2 H2 (s1.trans s2) E2 (itok_rng i _) q3⟩
/-- enumerate -/
def enumT : Int → List Tv → List Tv
  | _, [] => []
  | n, t :: ts => .tup [.int n, t] :: enumT (n + 1) ts
theorem enumT_len : ∀ (n : Int) (ts : List Tv), (enumT n ts).length = ts.length
  | _, [] => rfl
  | n, t :: ts => by
    show (enumT (n + 1) ts).length + 1 = ts.length + 1
    rw [enumT_len (n + 1) ts]
theorem enumT_get : ∀ {n : Int} {ts : List Tv} {i : Nat}, (enumT n ts)[i]? = ts[i]?.map fun t => Tv.tup [.int (n + (i : Nat)), t]
  | n, [], i => rfl
  | n, t :: ts, 0 => by
    show some (Tv.tup [.int n, t]) = some (Tv.tup [.int (n + 0), t])
    rw [Int.add_zero]
  | n, t :: ts, i + 1 => by
    show (enumT (n + 1) ts)[i]? = ts[i]?.map _
    rw [enumT_get]
    congr 1
    funext u
    rw [show n + 1 + ((i : Nat) : Int) = n + ((i + 1 : Nat) : Int) by omega]
theorem fresh_pair {S' H' : Hp} {T : Addr} {a b : Tv} {x y : V} (s2 : Same S' H') (hT : H' T = none) (ha : Rep K S' a x) (hb : Rep K S' b y) : Res K S' H' (.val (.tup [a, b])) (.ref T) (upd H' T (.tup [x, y])) :=
  .inr ⟨T, _, rfl, hT, rfl, .tup upd_same (.cons (ha.mono (Same.upd_new (s2.free hT))) (.cons (hb.mono (Same.upd_new (s2.free hT))) .nil))⟩
theorem itok_enumL {a : Addr} {vs : List V} {ts : List Tv} (h : S a = some (.lst vs)) (r : Reps K S ts vs) : ItOk K (Ite K a) S (enumT 0 ts) := by
  refine ⟨fun i S' H' s1 s2 hi => ?_, fun i S' H' x H'' s1 s2 y t e => ?_, fun i S' H' s1 s2 hi => ?_⟩
  · rw [enumT_len, r.len] at hi
    exact ⟨vs, vs[i], .of (s2 _ _ (s1 _ _ h)), List.getElem?_eq_getElem hi⟩
  · obtain ⟨T, x, rfl, hT, rfl, hx⟩ := y
    rw [enumT_get] at e
    obtain ⟨u, e1, rfl⟩ := Option.map_eq_some_iff.mp e
    obtain ⟨v, e3, e4⟩ := r.getT e1
    have := hx vs (.of (s2 _ _ (s1 _ _ h)))
    rw [e3] at this
    cases this
    rw [Int.zero_add]
    exact fresh_pair s2 hT (.int _) (e4.mono s1)
  · rw [hi, enumT_len, r.len]
    exact ⟨vs, .of (s2 _ _ (s1 _ _ h)), Nat.le_refl _⟩
theorem itok_enumT {a : Addr} {vs : List V} {ts : List Tv} (h : SqT K S a vs) (r : Reps K S ts vs) : ItOk K (Itq K a vs) S (enumT 0 ts) := by
  refine ⟨fun i S' H' s1 s2 hi => ?_, fun i S' H' x H'' s1 s2 y t e => ?_, fun i S' H' s1 s2 hi => ?_⟩
  · rw [enumT_len, r.len] at hi
    exact ⟨Same.sqT (s1.trans s2) h, hi⟩
  · obtain ⟨T, x, rfl, hT, rfl, hx⟩ := y
    rw [enumT_get] at e
    obtain ⟨u, e1, rfl⟩ := Option.map_eq_some_iff.mp e
    obtain ⟨v, e3, e4⟩ := r.getT e1
    rw [e3] at hx
    cases hx
    rw [Int.zero_add]
    exact fresh_pair s2 hT (.int _) (e4.mono s1)
  · rw [hi, enumT_len, r.len]
    exact ⟨Same.sqT (s1.trans s2) h, rfl⟩
theorem itok_enumK {a : Addr} {c : Int} {vs : List V} {ts : List Tv} (h : S a = some (.lst vs)) (r : Reps K S ts vs) : ItOk K (Itk K a c vs) S (enumT c ts) := by
  refine ⟨fun i S' H' s1 s2 hi => ?_, fun i S' H' x H'' s1 s2 y t e => ?_, fun i S' H' s1 s2 hi => ?_⟩
  · rw [enumT_len, r.len] at hi
    exact ⟨.of (s2 _ _ (s1 _ _ h)), hi⟩
  · obtain ⟨T, x, rfl, hT, rfl, hx⟩ := y
    rw [enumT_get] at e
    obtain ⟨u, e1, rfl⟩ := Option.map_eq_some_iff.mp e
    obtain ⟨v, e3, e4⟩ := r.getT e1
    rw [e3] at hx
    cases hx
    exact fresh_pair s2 hT (.int _) (e4.mono s1)
  · rw [hi, enumT_len, r.len]
    exact ⟨.of (s2 _ _ (s1 _ _ h)), rfl⟩
@[reducible] def wEnumL (f : TTE) : TTI := fun τ P => f τ fun r τ1 => sharR r τ1 fun t τ2 => lstK t fun ts => P (enumT 0 ts) τ2
@[reducible] def wEnumT (f : TTE) : TTI := fun τ P => f τ fun r τ1 => sharR r τ1 fun t τ2 => tupK t fun ts => P (enumT 0 ts) τ2
@[reducible] def wEnumK (f g : TTE) : TTI := fun τ P => f τ fun r τ1 => sharR r τ1 fun t τ2 => lstK t fun ts => g τ2 fun r τ3 => lookR r τ3 fun t => i1 t fun c => -(2 ^ 62) ≤ c ∧ c < 2 ^ 62 ∧ P (enumT c ts) τ3
theorem tir_enumL {te : TE} {f : TTE} (h : TEr F te f) : TIr F (iEnum F.K (tCons te tNil)) (wEnumL f) := fun σ τ S H R P E q k => by
  refine h σ τ S H _ _ E q fun r1 τ1 v1 S1 H1 s1 E1 h1 q1 => ?_
  obtain ⟨t, τ2, S2, s2, E2, rp, q2⟩ := E1.shar h1 q1
  cases t <;> first | exact q2.elim | skip
  cases rp with
  | lst h2 r => exact ⟨_, _, rfl, .of (E2.sH _ _ h2), k _ τ2 _ S2 H1 (s1.trans s2) E2 (itok_enumL h2 r) q2⟩
theorem tir_enumT {te : TE} {f : TTE} (h : TEr F te f) : TIr F (iEnumT F.K (tCons te tNil)) (wEnumT f) := fun σ τ S H R P E q k => by
  refine h σ τ S H _ _ E q fun r1 τ1 v1 S1 H1 s1 E1 h1 q1 => ?_
  obtain ⟨t, τ2, S2, s2, E2, rp, q2⟩ := E1.shar h1 q1
  obtain ⟨a, vs, ts, rfl, h2, r, q2⟩ := tupK_at rp q2
  exact ⟨_, _, rfl, Same.sqT E2.sH h2, k _ τ2 _ S2 H1 (s1.trans s2) E2 (itok_enumT h2 r) q2⟩
theorem tir_enumK {te tc : TE} {f g : TTE} (h : TEr F te f) (hc : TEr F tc g) : TIr F (iEnumK F.K (tCons te tNil) tc) (wEnumK f g) := fun σ τ S H R P E q k => by
  refine h σ τ S H _ _ E q fun r1 τ1 v1 S1 H1 s1 E1 h1 q1 => ?_
  obtain ⟨t, τ2, S2, s2, E2, rp, q2⟩ := E1.shar h1 q1
  cases t <;> first | exact q2.elim | skip
  refine hc σ τ2 S2 H1 _ _ E2 q2 fun r3 τ3 v3 S3 H3 s3 E3 h3 q3 => ?_
  obtain ⟨u, la, q3⟩ := E3.look h3 q3
  obtain ⟨c, rfl, b1, b2, q3⟩ := i1_at q3
  cases rp with
  | lst h2 r => exact ⟨_, _, c, rfl, la.tV rfl, b1, b2, .of (E3.sH _ _ (s3 _ _ h2)), k _ τ3 _ S3 H3 (s1.trans (s2.trans s3)) E3 (itok_enumK (s3 _ _ h2) (r.mono s3)) q3⟩
/-- zip -/
def zipT (xs ys : List Tv) : List Tv := List.zipWith (fun a b => Tv.tup [a, b]) xs ys
theorem zipT_get {xs ys : List Tv} {i : Nat} {t : Tv} (h : (zipT xs ys)[i]? = some t) : ∃ a b, xs[i]? = some a ∧ ys[i]? = some b ∧ t = .tup [a, b] := by
  unfold zipT at h
  rw [List.getElem?_zipWith] at h
  cases h1 : xs[i]? with
  | none => rw [h1] at h; cases h
  | some a =>
    cases h2 : ys[i]? with
    | none => rw [h1, h2] at h; cases h
    | some b =>
      rw [h1, h2] at h
      cases h
      exact ⟨a, b, rfl, rfl, rfl⟩
theorem zipT_len (xs ys : List Tv) : (zipT xs ys).length = min xs.length ys.length := List.length_zipWith
theorem itok_zipL {a b : Addr} {vs ws : List V} {ts us : List Tv} (h : S a = some (.lst vs)) (r : Reps K S ts vs) (h' : S b = some (.lst ws)) (r' : Reps K S us ws) : ItOk K (Itz K a b) S (zipT ts us) := by
  refine ⟨fun i S' H' s1 s2 hi => ?_, fun i S' H' x H'' s1 s2 y t e => ?_, fun i S' H' s1 s2 hi => ?_⟩
  · rw [zipT_len, r.len, r'.len] at hi
    exact ⟨vs, ws, vs[i], ws[i], .of (s2 _ _ (s1 _ _ h)), .of (s2 _ _ (s1 _ _ h')), List.getElem?_eq_getElem (by omega), List.getElem?_eq_getElem (by omega)⟩
  · obtain ⟨T, x, y, rfl, hT, rfl, hx, hy⟩ := y
    obtain ⟨u, u', e1, e2, rfl⟩ := zipT_get e
    obtain ⟨v, e3, e4⟩ := r.getT e1
    obtain ⟨v', e5, e6⟩ := r'.getT e2
    have g1 := hx vs (.of (s2 _ _ (s1 _ _ h)))
    have g2 := hy ws (.of (s2 _ _ (s1 _ _ h')))
    rw [e3] at g1
    rw [e5] at g2
    cases g1
    cases g2
    exact fresh_pair s2 hT (e4.mono s1) (e6.mono s1)
  · rw [zipT_len, r.len, r'.len] at hi
    exact ⟨vs, ws, .of (s2 _ _ (s1 _ _ h)), .of (s2 _ _ (s1 _ _ h')), by omega⟩
theorem itok_zipM {a b : Addr} {vs ws : List V} {ts us : List Tv} (h : SqT K S a vs) (r : Reps K S ts vs) (h' : S b = some (.lst ws)) (r' : Reps K S us ws) : ItOk K (Itm K a b vs ws) S (zipT ts us) := by
  refine ⟨fun i S' H' s1 s2 hi => ?_, fun i S' H' x H'' s1 s2 y t e => ?_, fun i S' H' s1 s2 hi => ?_⟩
  · rw [zipT_len, r.len, r'.len] at hi
    exact ⟨Same.sqT (s1.trans s2) h, .of (s2 _ _ (s1 _ _ h')), by omega, by omega⟩
  · obtain ⟨T, x, y, rfl, hT, rfl, hx, hy⟩ := y
    obtain ⟨u, u', e1, e2, rfl⟩ := zipT_get e
    obtain ⟨v, e3, e4⟩ := r.getT e1
    obtain ⟨v', e5, e6⟩ := r'.getT e2
    rw [e3] at hx
    rw [e5] at hy
    cases hx
    cases hy
    exact fresh_pair s2 hT (e4.mono s1) (e6.mono s1)
  · rw [zipT_len, r.len, r'.len] at hi
    exact ⟨Same.sqT (s1.trans s2) h, .of (s2 _ _ (s1 _ _ h')), by omega, by omega, by omega⟩
@[reducible] def wZipL (f g : TTE) : TTI := fun τ P => f τ fun r τ1 => sharR r τ1 fun t τ2 => lstK t fun ts => g τ2 fun r τ3 => sharR r τ3 fun t τ4 => lstK t fun us => P (zipT ts us) τ4
@[reducible] def wZipM (f g : TTE) : TTI := fun τ P => f τ fun r τ1 => sharR r τ1 fun t τ2 => tupK t fun ts => g τ2 fun r τ3 => sharR r τ3 fun t τ4 => lstK t fun us => P (zipT ts us) τ4
theorem tir_zipL {te te' : TE} {f g : TTE} (h : TEr F te f) (h' : TEr F te' g) : TIr F (iZip F.K (tCons te (tCons te' tNil))) (wZipL f g) := fun σ τ S H R P E q k => by
  refine h σ τ S H _ _ E q fun r1 τ1 v1 S1 H1 s1 E1 h1 q1 => ?_
  obtain ⟨t, τ2, S2, s2, E2, rp, q2⟩ := E1.shar h1 q1
  cases t <;> first | exact q2.elim | skip
  refine h' σ τ2 S2 H1 _ _ E2 q2 fun r3 τ3 v3 S3 H3 s3 E3 h3 q3 => ?_
  obtain ⟨t, τ4, S4, s4, E4, rp', q4⟩ := E3.shar h3 q3
  cases t <;> first | exact q4.elim | skip
  cases rp with
  | lst h2 r => cases rp' with
    | lst h5 r5 =>
      have h2' := s4 _ _ (s3 _ _ h2)
      exact ⟨_, _, _, _, rfl, .of (E4.sH _ _ h2'), .of (E4.sH _ _ h5), k _ τ4 _ S4 H3 (s1.trans (s2.trans (s3.trans s4))) E4 (itok_zipL h2' (r.mono (s3.trans s4)) h5 r5) q4⟩
theorem tir_zipM {te te' : TE} {f g : TTE} (h : TEr F te f) (h' : TEr F te' g) : TIr F (iZipM F.K (tCons te (tCons te' tNil))) (wZipM f g) := fun σ τ S H R P E q k => by
  refine h σ τ S H _ _ E q fun r1 τ1 v1 S1 H1 s1 E1 h1 q1 => ?_
  obtain ⟨t, τ2, S2, s2, E2, rp, q2⟩ := E1.shar h1 q1
  obtain ⟨a, vs, ts, rfl, h2, r, q2⟩ := tupK_at rp q2
  refine h' σ τ2 S2 H1 _ _ E2 q2 fun r3 τ3 v3 S3 H3 s3 E3 h3 q3 => ?_
  obtain ⟨t, τ4, S4, s4, E4, rp', q4⟩ := E3.shar h3 q3
  cases t <;> first | exact q4.elim | skip
  cases rp' with
  | lst h5 r5 =>
    have h2' := Same.sqT s4 (Same.sqT s3 h2)
    exact ⟨_, _, _, _, rfl, Same.sqT E4.sH h2', .of (E4.sH _ _ h5), k _ τ4 _ S4 H3 (s1.trans (s2.trans (s3.trans s4))) E4 (itok_zipM h2' (r.mono (s3.trans s4)) h5 r5) q4⟩
/-! ### targets -/
abbrev TTG := Tv → Ev → (Ev → Prop) → Prop
abbrev TTGs := List Tv → Ev → (Ev → Prop) → Prop
def TGr (F : Fr) (g : TG) (h : TTG) : Prop := ∀ (t : Tv) (v : V) (σ : L2.St) (τ : Ev) (S H : Hp) (Q : L2.St → Hp → Prop) (P : Ev → Prop), EvR F σ τ S H → Rep F.K S t v → h t τ P →
  (∀ σ' τ' S' H', Same S S' → EvR F σ' τ' S' H' → P τ' → Q σ' H') → g v σ H Q
def TGsr (F : Fr) (g : TGs) (h : TTGs) : Prop := ∀ (ts : List Tv) (vs : List V) (σ : L2.St) (τ : Ev) (S H : Hp) (Q : L2.St → Hp → Prop) (P : Ev → Prop), EvR F σ τ S H → Reps F.K S ts vs → h ts τ P →
  (∀ σ' τ' S' H', Same S S' → EvR F σ' τ' S' H' → P τ' → Q σ' H') → g vs σ H Q
@[reducible] def hName (i : Nat) : TTG := fun t τ P => P (τ.set i (some (.val t)))
theorem tgr_name (i : Nat) : TGr F (gName i) (hName i) := fun t v σ τ S H Q P E r q k => k _ _ S H (Same.refl S) (E.set_val i r) q
@[reducible] def hNil : TTGs := fun ts τ P => match ts with
  | [] => P τ
  | _ => False
@[reducible] def hCons (h : TTG) (g : TTGs) : TTGs := fun ts τ P => match ts with
  | t :: ts => h t τ fun τ1 => g ts τ1 P
  | _ => False
theorem tgsr_nil : TGsr F gNil hNil := fun ts vs σ τ S H Q P E r q k => by
  cases r with
  | nil => exact ⟨rfl, k σ τ S H (Same.refl S) E q⟩
  | cons _ _ => exact q.elim
theorem tgsr_cons {g : TG} {gs : TGs} {h : TTG} {hs : TTGs} (hg : TGr F g h) (hgs : TGsr F gs hs) : TGsr F (gCons g gs) (hCons h hs) := fun ts vs σ τ S H Q P E r q k => by
  cases r with
  | nil => exact q.elim
  | cons h1 r1 =>
    refine ⟨_, _, rfl, hg _ _ σ τ S H _ _ E h1 q fun σ1 τ1 S1 H1 s1 E1 q1 => ?_⟩
    exact hgs _ _ σ1 τ1 S1 H1 _ _ E1 (r1.mono s1) q1 fun σ2 τ2 S2 H2 s2 E2 q2 => k σ2 τ2 S2 H2 (s1.trans s2) E2 q2
@[reducible] def hTup (n : Nat) (h : TTGs) : TTG := fun t τ P => tupK t fun ts => ts.length = n ∧ h ts τ P
@[reducible] def hUnl (n : Nat) (h : TTGs) : TTG := fun t τ P => lstK t fun ts => ts.length = n ∧ h ts τ P
theorem tgr_tup {n : Nat} {gs : TGs} {hs : TTGs} (h : TGsr F gs hs) : TGr F (gTup F.K n gs) (hTup n hs) := fun t v σ τ S H Q P E r q k => by
  obtain ⟨a, vs, ts, rfl, h1, r1, q⟩ := tupK_at r q
  exact ⟨_, _, rfl, Same.sqT E.sH h1, by rw [← r1.len]; exact q.1, h _ _ σ τ S H _ _ E r1 q.2 k⟩
theorem tgr_unl {n : Nat} {gs : TGs} {hs : TTGs} (h : TGsr F gs hs) : TGr F (gUnl F.K n gs) (hUnl n hs) := fun t v σ τ S H Q P E r q k => by
  cases t <;> first | exact q.elim | skip
  cases r with
  | lst h1 r1 => exact ⟨_, _, rfl, .of (E.sH _ _ h1), by rw [← r1.len]; exact q.1, h _ _ σ τ S H _ _ E r1 q.2 k⟩
/-! ### [e for x in xs if t] -/
def wipeT (τ : Ev) : List Nat → Ev
  | [] => τ
  | v :: vs => (wipeT τ vs).set v none
theorem EvR.wipe {σ : L2.St} {τ : Ev} (E : EvR F σ τ S H) : ∀ vs : List Nat, EvR F (L2.wipe σ vs) (wipeT τ vs) S H
  | [] => E
  | v :: vs => (E.wipe vs).set_none v none
theorem wipe_get {σ : L2.St} {i : Nat} : ∀ {vs : List Nat}, i ∉ vs → (L2.wipe σ vs)[i]? = σ[i]?
  | [], _ => rfl
  | v :: vs, h => by
    rw [List.mem_cons, not_or] at h
    show ((L2.wipe σ vs).set v none)[i]? = _
    rw [set_get, if_neg fun e => h.1 e.symm]
    exact wipe_get h.2
theorem wipe_at {j : Nat} : ∀ {us : List Nat} (ρ : L2.St), j ∈ us → (L2.wipe ρ us)[j]? = if j < ρ.length then some none else none
  | [], _, hj => by cases hj
  | u :: us, ρ, hj => by
    show ((L2.wipe ρ us).set u none)[j]? = _
    rw [set_get]
    by_cases e : u = j
    · rw [if_pos e, L2.wipe_length]
    · rw [if_neg e]
      exact wipe_at ρ (by rcases List.mem_cons.mp hj with h | h; exact absurd h.symm e; exact h)
theorem wipe_wipe (σ : L2.St) (us : List Nat) : L2.wipe (L2.wipe σ us) us = L2.wipe σ us := by
  refine List.ext_getElem? fun j => ?_
  by_cases hj : j ∈ us
  · rw [wipe_at _ hj, wipe_at _ hj, L2.wipe_length]
  · rw [wipe_get hj]
theorem wipeT_get {τ : Ev} {i : Nat} {s : Sl} : ∀ {vs : List Nat}, (wipeT τ vs)[i]? = some (some s) → i ∉ vs ∧ τ[i]? = some (some s)
  | [], h => ⟨by simp, h⟩
  | v :: vs, h => by
    have h : ((wipeT τ vs).set v none)[i]? = some (some s) := h
    rw [set_get] at h
    split at h
    · split at h <;> cases h
    · rename_i ne
      obtain ⟨h1, h2⟩ := wipeT_get h
      exact ⟨by rw [List.mem_cons, not_or]; exact ⟨fun e => ne e.symm, h1⟩, h2⟩
theorem wipeT_len (τ : Ev) : ∀ vs : List Nat, (wipeT τ vs).length = τ.length
  | [] => rfl
  | v :: vs => by
    show ((wipeT τ vs).set v none).length = _
    rw [List.length_set, wipeT_len τ vs]
/-- what is told of the wiped slots holds of the slots -/
theorem EvR.unwipe {σ : L2.St} {τ : Ev} {vs : List Nat} (E : EvR F (L2.wipe σ vs) (wipeT τ vs) S H) : EvR F σ (wipeT τ vs) S H := by
  refine ⟨⟨E.s0, E.sH, E.fr, E.nw, E.res, E.off, by rw [E.len, L2.wipe_length], fun i s h => ?_, fun a b s s' t t' v v' ne h1 m1 h2 m2 h3 h4 => ?_⟩, E.ex⟩
  · obtain ⟨v, h1, h2⟩ := E.sl i s h
    rw [wipe_get (wipeT_get h).1] at h1
    exact ⟨v, h1, h2⟩
  · refine E.dj a b s s' t t' v v' ne h1 m1 h2 m2 ?_ ?_
    · rw [wipe_get (wipeT_get h1).1]; exact h3
    · rw [wipe_get (wipeT_get h2).1]; exact h4
def fLc (w : TTI) (h : TTG) (c : TTB) (e : TTE) (vs : List Nat) : TTE := fun τ P => w τ fun ts τ1 => ts.length ≤ sizeLine ∧ ∃ Inv : Nat → List Tv → Prop, Inv 0 [] ∧
  (∀ i t acc, ts[i]? = some t → Inv i acc → h t (wipeT τ1 vs) fun τ2 => c τ2 fun b τ3 => match b with
    | true => e τ3 fun r τ4 => sharR r τ4 fun u τ5 => wipeT τ5 vs = wipeT τ1 vs ∧ Inv (i + 1) (acc ++ [u])
    | false => wipeT τ3 vs = wipeT τ1 vs ∧ Inv (i + 1) acc) ∧ ∀ acc, Inv ts.length acc → P (.own (.lst acc)) (wipeT τ1 vs)
/-- what a target does to the slots: none but those told -/
def TGw (g : TG) (vs : List Nat) : Prop := ∀ v σ H Q, g v σ H Q → g v σ H fun σ' H' => L2.wipe σ' vs = L2.wipe σ vs ∧ Q σ' H'
theorem tgw_name {i : Nat} {vs : List Nat} (hi : i ∈ vs) : TGw (gName i) vs := fun v σ H Q q => by
  refine ⟨?_, q⟩
  have : ∀ {vs : List Nat}, i ∈ vs → L2.wipe (σ.set i (some v)) vs = L2.wipe σ vs := by
    intro vs
    induction vs with
    | nil => intro h; cases h
    | cons w vs ih =>
      intro h
      show (L2.wipe (σ.set i (some v)) vs).set w none = (L2.wipe σ vs).set w none
      by_cases hv : i ∈ vs
      · rw [ih hv]
      · rcases List.mem_cons.mp h with rfl | h
        · have : ∀ {us : List Nat}, i ∉ us → L2.wipe (σ.set i (some v)) us = (L2.wipe σ us).set i (some v) := by
            intro us
            induction us with
            | nil => intro _; rfl
            | cons u us ih =>
              intro h
              rw [List.mem_cons, not_or] at h
              show (L2.wipe (σ.set i (some v)) us).set u none = ((L2.wipe σ us).set u none).set i (some v)
              rw [ih h.2, List.set_comm _ _ h.1]
          rw [this hv, List.set_set]
        · exact absurd h hv
  exact this hi
def TGsw (g : TGs) (vs : List Nat) : Prop := ∀ us σ H Q, g us σ H Q → g us σ H fun σ' H' => L2.wipe σ' vs = L2.wipe σ vs ∧ Q σ' H'
theorem tgsw_nil {vs : List Nat} : TGsw gNil vs := fun us σ H Q q => ⟨q.1, rfl, q.2⟩
def TGm (g : TG) : Prop := ∀ v σ H (Q Q' : L2.St → Hp → Prop), (∀ σ' H', Q σ' H' → Q' σ' H') → g v σ H Q → g v σ H Q'
def TGsm (g : TGs) : Prop := ∀ v σ H (Q Q' : L2.St → Hp → Prop), (∀ σ' H', Q σ' H' → Q' σ' H') → g v σ H Q → g v σ H Q'
theorem tgm_name (i : Nat) : TGm (gName i) := fun v σ H Q Q' h q => h _ _ q
theorem tgsm_nil : TGsm gNil := fun v σ H Q Q' h q => ⟨q.1, h _ _ q.2⟩
theorem tgsm_cons {g : TG} {gs : TGs} (h1 : TGm g) (h2 : TGsm gs) : TGsm (gCons g gs) := fun v σ H Q Q' h q => by
  obtain ⟨a, r, e, q⟩ := q
  exact ⟨a, r, e, h1 _ _ _ _ _ (fun σ' H' q => h2 _ _ _ _ _ h q) q⟩
theorem tgsw_cons {g : TG} {gs : TGs} {vs : List Nat} (m : TGm g) (m' : TGsm gs) (h1 : TGw g vs) (h2 : TGsw gs vs) : TGsw (gCons g gs) vs := fun us σ H Q q => by
  obtain ⟨a, r, e, q⟩ := q
  refine ⟨a, r, e, m _ _ _ _ _ (fun σ' H' q => ?_) (h1 _ _ _ _ q)⟩
  exact m' _ _ _ _ _ (fun σ2 H2 q2 => ⟨q2.1.trans q.1, q2.2⟩) (h2 _ _ _ _ q.2)
theorem tgm_tup {n : Nat} {gs : TGs} (h : TGsm gs) : TGm (gTup K n gs) := fun v σ H Q Q' k q => by
  obtain ⟨a, xs, e, h1, h2, q⟩ := q
  exact ⟨a, xs, e, h1, h2, h _ _ _ _ _ k q⟩
theorem tgw_tup {n : Nat} {gs : TGs} {vs : List Nat} (h : TGsw gs vs) : TGw (gTup K n gs) vs := fun v σ H Q q => by
  obtain ⟨a, xs, e, h1, h2, q⟩ := q
  exact ⟨a, xs, e, h1, h2, h _ _ _ _ q⟩
theorem ter_lc {wi : TI} {g : TG} {tt : TT} {te : TE} {vs : List Nat} {w : TTI} {h : TTG} {c : TTB} {e : TTE} (hw : TIr F wi w) (hg : ∀ H0, TGr (F.at H0) g h) (hv : TGw g vs) (hm : TGm g) (ht : ∀ H0, TBr (F.at H0) tt c) (he : ∀ H0, TEr (F.at H0) te e) : TEr F (tLc wi g tt te vs) (fLc w h c e vs) := fun σ τ S H Q P E q k => by
  refine hw σ τ S H _ _ E q fun ts τ1 J S1 H1 s1 E1 it ⟨small, Inv, h0, hs, hd⟩ D hD => ?_
  refine ⟨fun i m H' => m = ts.length - i ∧ i ≤ ts.length ∧ ∃ acc ws S', Inv i acc ∧ acc.length ≤ i ∧ Same S1 S' ∧ EvR F (L2.wipe σ vs) (wipeT τ1 vs) S' H' ∧ Mine F S' D ∧ Apart (L2.wipe σ vs) (wipeT τ1 vs) D ∧ H' D = some (.lst ws) ∧ Reps F.K S' acc ws,
    ⟨ts.length, by simp, Nat.zero_le _, [], [], S1, h0, Nat.le_refl _, Same.refl _, (E1.wipe vs).alloc_own _ hD, (E1.wipe vs).mine hD, (E1.wipe vs).apart hD, upd_same, .nil⟩, ?_⟩
  rintro i m H' ⟨rfl, hi, acc, ws, S', hI, hl, s2, E2, mi, ap, hDw, rs⟩
  by_cases hlt : i < ts.length
  · refine .inr ⟨it.go i S' H' s2 E2.sH hlt, fun H'' => (i + 1 ≤ ts.length ∧ ∃ acc ws S'', Inv (i + 1) acc ∧ acc.length ≤ i + 1 ∧ Same S1 S'' ∧ EvR F (L2.wipe σ vs) (wipeT τ1 vs) S'' H'' ∧ Mine F S'' D ∧ Apart (L2.wipe σ vs) (wipeT τ1 vs) D ∧ H'' D = some (.lst ws) ∧ Reps F.K S'' acc ws), fun H'' q => ⟨ts.length - (i + 1), by omega, rfl, q⟩, fun x H'' y => ?_⟩
    have e1 : ts[i]? = some ts[i] := List.getElem?_eq_getElem hlt
    have hx := it.yld i S' H' x H'' s2 E2.sH y _ e1
    have G2 := E2.guard mi ap hDw
    have hS0 : F.S0 D = none := E2.s0.free mi.1
    obtain ⟨S3, s3, E3, rx⟩ := G2.res' (r := .val ts[i]) (show Res (F.at (upd F.H0 D (.lst ws))).K S' H' (.val ts[i]) x H'' from hx)
    have q1 := hs i _ acc e1 hI
    refine hm _ _ _ _ _ (fun σ2 H2 q => ?_) (hv _ _ _ _ (hg _ _ _ _ _ _ _ (fun σ2 H2 => ∃ τ2 S2, Same S3 S2 ∧ EvR (F.at (upd F.H0 D (.lst ws))) σ2 τ2 S2 H2 ∧ c τ2 fun b τ3 => match b with
      | true => e τ3 fun r τ4 => sharR r τ4 fun u τ5 => wipeT τ5 vs = wipeT τ1 vs ∧ Inv (i + 1) (acc ++ [u])
      | false => wipeT τ3 vs = wipeT τ1 vs ∧ Inv (i + 1) acc) _ E3 rx q1 fun σ' τ' S' H' s E q => ⟨τ', S', s, E, q⟩))
    obtain ⟨hwp, τ2, S4, s4, E4, q2⟩ := q
    have hwp : L2.wipe σ2 vs = L2.wipe σ vs := by
      rw [hwp, wipe_wipe]
    refine ⟨hwp, ht _ σ2 τ2 S4 H2 _ _ E4 q2 fun b τ3 S5 H5 s5 E5 q3 => ?_⟩
    have fin : ∀ {τ5 : Ev} {S6 H6 : Hp}, EvR (F.at (upd F.H0 D (.lst ws))) σ2 τ5 S6 H6 → wipeT τ5 vs = wipeT τ1 vs → EvR F (L2.wipe σ vs) (wipeT τ1 vs) S6 H6 ∧ H6 D = some (.lst ws) ∧ Mine F S6 D ∧ Apart (L2.wipe σ vs) (wipeT τ1 vs) D := fun {τ5 S6 H6} E6 e6 => by
      have E7 := E6.wipe vs
      rw [hwp, e6] at E7
      exact EvR.unguard E.ex E7 mi.2.1 hS0 mi.2.2
    cases b with
    | true =>
      rw [if_pos rfl]
      refine he _ σ2 τ3 S5 H5 _ _ E5 q3 fun r τ4 v4 S6 H6 s6 E6 h6 q4 => ?_
      obtain ⟨u, τ5, S7, s7, E7, r7, e7, q5⟩ := E6.shar h6 q4
      obtain ⟨E8, h8, m8, a8⟩ := fin E7 e7
      have s18 := s3.trans (s4.trans (s5.trans (s6.trans s7)))
      refine ⟨ws, h8, by rw [← rs.len]; omega, by omega, acc ++ [u], ws ++ [v4], S7, q5, by rw [List.length_append]; exact Nat.succ_le_succ hl, s2.trans s18, E8.reguard m8 a8 h8, m8, a8, upd_same, (rs.mono s18).app (.one r7)⟩
    | false =>
      rw [if_neg Bool.false_ne_true]
      obtain ⟨E8, h8, m8, a8⟩ := fin E5 q3.1
      have s18 := s3.trans (s4.trans s5)
      exact ⟨by omega, acc, ws, S5, q3.2, by omega, s2.trans s18, E8, m8, a8, h8, rs.mono s18⟩
  · have e1 : i = ts.length := by omega
    subst e1
    refine .inl ⟨it.stop _ S' H' s2 E2.sH rfl, ?_⟩
    have ap' : Apart σ (wipeT τ1 vs) D := fun j s t hj hm hv => ap j s t hj hm (by rw [wipe_get (wipeT_get hj).1]; exact hv)
    exact k (.own (.lst acc)) _ _ S' H' (s1.trans s2) E2.unwipe ⟨D, rfl, mi, .lst hDw rs, ap'⟩ (hd acc hI)
end
end L2.Wk
namespace L2.Wk
open PySem PySem.Spec PyProof.Rows
/-! ### calls -/
abbrev FT := List Tv → (Rv → Prop) → Prop
def RetOk (K : PySem.W.Frag) (H S' H' : Hp) : Rv → V → Prop
  | .val t, v => Rep K S' t v
  | .own t, v => ∃ a, v = .ref a ∧ S' a = none ∧ H a = none ∧ OwnAt K S' H' a t
  | .brw _, _ => False
structure Aft (R : Rs) (S H S' H' : Hp) : Prop where
  sS : Same S S'
  sH : Same S' H'
  fr : ∀ b o, H b = some o → ¬ R.M b → H' b = some o
  nw : ∀ b, S' b ≠ none → S b ≠ none ∨ H b = none
  res : R.I S' H'
  off : ∀ b, R.M b → S' b = none
def UseT (K : PySem.W.Frag) (R : Rs) (sp : Sp) (E : XK) (f : FT) : Prop := ∀ (S H : Hp) (ts : List Tv) (vs : List V) (Q : VK) (P : Rv → Prop), Same S H → R.I S H → (∀ b, R.M b → S b = none) → Reps K S ts vs → f ts P →
  (∀ r v S' H', Aft R S H S' H' → RetOk K H S' H' r v → P r → Q v H') → sp vs H Q E
def spT (K : PySem.W.Frag) (R : Rs) (f : FT) : Sp := fun vs H Q _ => ∃ S ts P, Same S H ∧ R.I S H ∧ (∀ b, R.M b → S b = none) ∧ Reps K S ts vs ∧ f ts P ∧ ∀ r v S' H', Aft R S H S' H' → RetOk K H S' H' r v → P r → Q v H'
section
variable {K : PySem.W.Frag} {R : Rs} {F : Fr} {σ : L2.St} {τ : Ev} {S H S' H' : Hp} {E : XK} {f : FT}
theorem use_self : UseT K R (spT K R f) E f := fun S H ts vs Q P s i o r h k => ⟨S, ts, P, s, i, o, r, h, k⟩
theorem Aft.lift (A : Aft Rs.pure S H S' H') (i : R.I S H) (o : ∀ b, R.M b → S b = none) : Aft R S H S' H' := by
  have hm : ∀ b, R.M b → H' b = H b := fun b m => by
    obtain ⟨u, e⟩ := R.alloc i m
    rw [e]
    exact A.fr b u e fun z => z
  refine ⟨A.sS, A.sH, fun b u e _ => A.fr b u e fun z => z, A.nw, R.mono A.sS hm i, fun b m => ?_⟩
  cases q : S' b with
  | none => rfl
  | some u =>
    rcases A.nw b (by rw [q]; exact fun z => by cases z) with z | z
    · exact absurd (o b m) z
    · obtain ⟨u, e⟩ := R.alloc i m
      rw [z] at e
      cases e
theorem use_pure : UseT K R (spT K Rs.pure f) E f := fun S H ts vs Q P s i o r h k =>
  ⟨S, ts, P, s, trivial, fun _ z => z.elim, r, h, fun rv v S' H' A q p => k rv v S' H' (A.lift i o) q p⟩
theorem EvR.aft (Ev : EvR F σ τ S H) (A : Aft F.R S H S' H') : EvR F σ τ S' H' :=
  Ev.go A.sS A.sH (fun b o e _ => by
    by_cases m : F.R.M b
    · rename_i q
      rcases q with q | ⟨_, q⟩ | q
      · rw [Ev.off b m] at q
        cases q
      · exact absurd m q
      · exfalso
        refine q fun j s t hj hm hv => ?_
        obtain ⟨v, h1, h0⟩ := Ev.sl j _ hj
        obtain ⟨a, rfl, m', h2⟩ := h0.mine hm
        rw [hv] at h1
        cases h1
        exact m'.2.2 m
    · exact A.fr b o e m) A.nw A.res A.off
theorem EvR.ret (Ev : EvR F σ τ S H) (A : Aft F.R S H S' H') {r : Rv} {v : V} (h : RetOk F.K H S' H' r v) : RvOk F σ τ S' H' r v := by
  cases r with
  | val t => exact h
  | own t =>
    obtain ⟨a, rfl, h1, h2, h3⟩ := h
    exact ⟨a, rfl, ⟨h1, (Ev.h0 h2).1, (Ev.h0 h2).2.1⟩, h3, Ev.apart h2⟩
  | brw i => exact h.elim
@[reducible] def fCall (g : TTA) (dts : List Tv) (f : FT) : TTE := fun τ P => g τ fun ts τ1 => f (ts ++ dts) fun r => P r τ1
theorem ter_call {sp : Sp} {dvs : List V} {dts : List Tv} {ta : TA} {g : TTA} (u : UseT F.K F.R sp E f) (hd : ∀ S, Reps F.K S dts dvs) (ha : TAr F ta g) : TEr F (tCall sp dvs E ta) (fCall g dts f) := fun σ τ S H Q P Ev q k => by
  refine ha σ τ S H _ _ Ev q fun ts τ1 vs S1 H1 s1 E1 rs q1 => ?_
  refine u S1 H1 _ _ _ _ E1.sH E1.res E1.off (rs.app (hd S1)) q1 fun r v S2 H2 A h p => ?_
  exact k r τ1 v S2 H2 (s1.trans A.sS) (E1.aft A) (E1.ret A h) p
/-- o.m(..) -/
@[reducible] def fMeth (C : Addr) (m : Str) (fo : TTE) (g : TTA) (dts : List Tv) (f : FT) : TTE := fun τ P => fo τ fun r τ1 => sharR r τ1 fun t τ2 => match t with
  | .ins C' fs => C' = C ∧ fs.lookup m = none ∧ g τ2 fun ts τ3 => f (t :: (ts ++ dts)) fun r => P r τ3
  | _ => False
theorem ter_meth {C : Addr} {m : Str} {sp : Sp} {dvs : List V} {dts : List Tv} {te : TE} {ta : TA} {fo : TTE} {g : TTA} (u : UseT F.K F.R sp E f) (hd : ∀ S, Reps F.K S dts dvs) (ho : TEr F te fo) (ha : TAr F ta g) : TEr F (tMeth C m sp dvs E te ta) (fMeth C m fo g dts f) := fun σ τ S H Q P Ev q k => by
  refine ho σ τ S H _ _ Ev q fun r1 τ1 v1 S1 H1 s1 E1 h1 q1 => ?_
  obtain ⟨t, τ2, S2, s2, E2, rp, q2⟩ := E1.shar h1 q1
  cases t <;> first | exact (show False from q2).elim | skip
  rename_i C' fs
  obtain ⟨rfl, e1, q2⟩ : C' = C ∧ fs.lookup m = none ∧ g τ2 fun ts τ3 => f (Tv.ins C' fs :: (ts ++ dts)) fun r => P r τ3 := q2
  cases rp with
  | ins h2 h3 h4 =>
    refine ⟨_, _, _, rfl, E2.sH _ _ h2, fld_none h3 e1, ha σ τ2 S2 H1 _ _ E2 q2 fun ts τ3 vs S3 H3 s3 E3 rs q3 => ?_⟩
    refine u S3 H3 _ _ _ _ E3.sH E3.res E3.off (.cons (Rep.mono s3 (.ins h2 h3 h4)) (rs.app (hd S3))) q3 fun r v S4 H4 A h p => ?_
    exact k r τ3 v S4 H4 (s1.trans (s2.trans (s3.trans A.sS))) (E3.aft A) (E3.ret A h) p
/-- C(..) -/
abbrev FI := List Tv → (List (Str × Tv) → Prop) → Prop
def UseI (K : PySem.W.Frag) (R : Rs) (C : Addr) (sp : Sp) (E : XK) (f : FI) : Prop := ∀ (S H : Hp) (x dx : Addr) (ts : List Tv) (vs : List V) (Q : VK) (P : List (Str × Tv) → Prop), Same S H → R.I S H → (∀ b, R.M b → S b = none) → H x = none → H dx = none → dx ≠ x →
  Reps K S ts vs → f ts P → (∀ fs S' H', Aft R S H S' H' → S' x = none → OwnAt K S' H' x (.ins C fs) → P fs → Q .non H') → sp (.ref x :: vs) (upd (upd H dx (.own x)) x (.ins C dx [])) Q E
def spI (K : PySem.W.Frag) (R : Rs) (C : Addr) (f : FI) : Sp := fun vs H1 Q _ => ∃ S H x dx ts ws P, vs = .ref x :: ws ∧ H1 = upd (upd H dx (.own x)) x (.ins C dx []) ∧ Same S H ∧ R.I S H ∧ (∀ b, R.M b → S b = none) ∧ H x = none ∧ H dx = none ∧ dx ≠ x ∧ Reps K S ts ws ∧ f ts P ∧
  ∀ fs S' H', Aft R S H S' H' → S' x = none → OwnAt K S' H' x (.ins C fs) → P fs → Q .non H'
theorem usei_self {C : Addr} {f : FI} : UseI K R C (spI K R C f) E f := fun S H x dx ts vs Q P s i o h1 h2 h3 r h k => ⟨S, H, x, dx, ts, vs, P, rfl, rfl, s, i, o, h1, h2, h3, r, h, k⟩
theorem usei_pure {C : Addr} {f : FI} : UseI K R C (spI K Rs.pure C f) E f := fun S H x dx ts vs Q P s i o h1 h2 h3 r h k =>
  ⟨S, H, x, dx, ts, vs, P, rfl, rfl, s, trivial, fun _ z => z.elim, h1, h2, h3, r, h, fun fs S' H' A e1 e2 p => k fs S' H' (A.lift i o) e1 e2 p⟩
@[reducible] def fMake (C : Addr) (g : TTA) (dts : List Tv) (f : FI) : TTE := fun τ P => g τ fun ts τ1 => f (ts ++ dts) fun fs => P (.own (.ins C fs)) τ1
theorem ter_make {C : Addr} {sp : Sp} {dvs : List V} {dts : List Tv} {ta : TA} {g : TTA} {f : FI} (u : UseI F.K F.R C sp E f) (hd : ∀ S, Reps F.K S dts dvs) (ha : TAr F ta g) : TEr F (tMake C sp dvs E ta) (fMake C g dts f) := fun σ τ S H Q P Ev q k => by
  refine ha σ τ S H _ _ Ev q fun ts τ1 vs S1 H1 s1 E1 rs q1 x dx hx hdx ne => ?_
  refine u S1 H1 x dx _ _ _ _ E1.sH E1.res E1.off hx hdx ne (rs.app (hd S1)) q1 fun fs S2 H2 A e1 e2 p => ⟨rfl, ?_⟩
  exact k (.own (.ins C fs)) τ1 _ S2 H2 (s1.trans A.sS) (E1.aft A) ⟨x, rfl, ⟨e1, (E1.h0 hx).1, (E1.h0 hx).2.1⟩, e2, E1.apart hx⟩ p
end
/-! ### statements -/
structure DT where
  nx : Ev → Prop
  rt : Rv → Ev → Prop
  bk : Ev → Prop := fun _ => False
  ct : Ev → Prop := fun _ => False
structure EndOk (F : Fr) (S : Hp) (D : Ends) (DD : DT) : Prop where
  nx : ∀ σ τ S' H', Same S S' → EvR F σ τ S' H' → DD.nx τ → D.nx σ H'
  rt : ∀ σ τ S' H' r v, Same S S' → EvR F σ τ S' H' → RvOk F σ τ S' H' r v → DD.rt r τ → D.rt v H'
  bk : ∀ σ τ S' H', Same S S' → EvR F σ τ S' H' → DD.bk τ → D.bk σ H'
  ct : ∀ σ τ S' H', Same S S' → EvR F σ τ S' H' → DD.ct τ → D.ct σ H'
theorem EndOk.at {F : Fr} {S S' : Hp} {D : Ends} {DD : DT} (e : EndOk F S D DD) (s : Same S S') : EndOk F S' D DD :=
  ⟨fun σ τ S2 H2 s2 => e.nx σ τ S2 H2 (s.trans s2), fun σ τ S2 H2 r v s2 => e.rt σ τ S2 H2 r v (s.trans s2), fun σ τ S2 H2 s2 => e.bk σ τ S2 H2 (s.trans s2), fun σ τ S2 H2 s2 => e.ct σ τ S2 H2 (s.trans s2)⟩
abbrev TTS := Ev → DT → Prop
def TSr (F : Fr) (ts : TS) (g : TTS) : Prop := ∀ (σ : L2.St) (τ : Ev) (S H : Hp) (D : Ends) (DD : DT), EvR F σ τ S H → g τ DD → EndOk F S D DD → ts D σ H
section
variable {F : Fr} {σ : L2.St} {τ : Ev} {S H S' H' : Hp}
@[reducible] def gNext : TTS := fun τ D => D.nx τ
theorem tsr_next : TSr F tNext gNext := fun σ τ S H D DD E q e => e.nx σ τ S H (Same.refl S) E q
@[reducible] def gSeq (g h : TTS) : TTS := fun τ D => g τ { D with nx := fun τ1 => h τ1 D }
theorem tsr_seq {t u : TS} {g h : TTS} (ht : TSr F t g) (hu : TSr F u h) : TSr F (tSeq t u) (gSeq g h) := fun σ τ S H D DD E q e =>
  ht σ τ S H _ _ E q ⟨fun σ1 τ1 S1 H1 s1 E1 q1 => hu σ1 τ1 S1 H1 D DD E1 q1 (e.at s1), e.rt, e.bk, e.ct⟩
def gBreak : TTS := fun τ D => D.bk τ
def gCont : TTS := fun τ D => D.ct τ
theorem tsr_break : TSr F tBreak gBreak := fun σ τ S H D DD E q e => e.bk σ τ S H (Same.refl S) E q
theorem tsr_cont : TSr F tCont gCont := fun σ τ S H D DD E q e => e.ct σ τ S H (Same.refl S) E q
@[reducible] def gDrop (f : TTE) : TTS := fun τ D => f τ fun _ τ1 => D.nx τ1
theorem tsr_drop {te : TE} {f : TTE} (h : TEr F te f) : TSr F (tDrop te) (gDrop f) := fun σ τ S H D DD E q e =>
  h σ τ S H _ _ E q fun r τ1 v S1 H1 s1 E1 h1 q1 => e.nx σ τ1 S1 H1 s1 E1 q1
@[reducible] def gRet (f : TTE) : TTS := fun τ D => f τ D.rt
theorem tsr_ret {te : TE} {f : TTE} (h : TEr F te f) : TSr F (tRet te) (gRet f) := fun σ τ S H D DD E q e =>
  h σ τ S H _ _ E q fun r τ1 v S1 H1 s1 E1 h1 q1 => e.rt σ τ1 S1 H1 r v s1 E1 h1 q1
def gRetN : TTS := fun τ D => D.rt (.val .non) τ
theorem tsr_retN : TSr F tRetN gRetN := fun σ τ S H D DD E q e => e.rt σ τ S H (.val .non) .non (Same.refl S) E Rep.non q
@[reducible] def gIf (c : TTB) (g h : TTS) : TTS := fun τ D => c τ fun b τ1 => match b with
  | true => g τ1 D
  | false => h τ1 D
theorem tsr_if {c : TT} {t u : TS} {fc : TTB} {g h : TTS} (hc : TBr F c fc) (ht : TSr F t g) (hu : TSr F u h) : TSr F (tIfS c t u) (gIf fc g h) := fun σ τ S H D DD E q e => by
  refine hc σ τ S H _ _ E q fun b τ1 S1 H1 s1 E1 q1 => ?_
  cases b with
  | true => exact ht σ τ1 S1 H1 D DD E1 q1 (e.at s1)
  | false => exact hu σ τ1 S1 H1 D DD E1 q1 (e.at s1)
@[reducible] def gNever : TTS := fun _ _ => False
theorem tsr_never : TSr F tNever gNever := fun σ τ S H D DD E q e => q.elim
/-- name = value: what is fresh is one's own -/
@[reducible] def setR (i : Nat) (r : Rv) (τ : Ev) (k : Ev → Prop) : Prop := match r with
  | .val t => k (τ.set i (some (.val t)))
  | .own t => k (τ.set i (some (.own t)))
  | .brw j => slotK τ j (fun t => k ((τ.set j (some (.val t))).set i (some (.val t)))) fun t => k (τ.set i (some (.val t)))
theorem EvR.setR (E : EvR F σ τ S H) {r : Rv} {v : V} (h : RvOk F σ τ S H r v) (i : Nat) {k : Ev → Prop} (q : Wk.setR i r τ k) : ∃ τ' S', Same S S' ∧ EvR F (σ.set i (some v)) τ' S' H ∧ k τ' := by
  cases r with
  | val t => exact ⟨_, S, Same.refl S, E.set_val i h, q⟩
  | own t =>
    obtain ⟨a, rfl, m, ow, ap⟩ := h
    exact ⟨_, S, Same.refl S, E.set_own i m ow ap, q⟩
  | brw j =>
    obtain ⟨⟨s, t, h1, hm⟩, h2⟩ := h
    rcases slotK_at q with ⟨u, h4, q⟩ | ⟨u, h4, q⟩
    · obtain ⟨S1, a, h3, E1, s1, r1⟩ := E.shareAt h4
      rw [h2] at h3
      cases h3
      exact ⟨_, S1, s1, E1.set_val i r1, q⟩
    · rw [h1] at h4
      cases h4
      cases hm
@[reducible] def gSet (i : Nat) (f : TTE) : TTS := fun τ D => f τ fun r τ1 => setR i r τ1 D.nx
theorem tsr_set {i : Nat} {te : TE} {f : TTE} (h : TEr F te f) : TSr F (tAsg te (gName i)) (gSet i f) := fun σ τ S H D DD E q e => by
  refine h σ τ S H _ _ E q fun r τ1 v S1 H1 s1 E1 h1 q1 => ?_
  obtain ⟨τ2, S2, s2, E2, q2⟩ := E1.setR h1 i q1
  exact e.nx _ τ2 S2 H1 (s1.trans s2) E2 q2
/-- (a, b) = value -/
@[reducible] def gAsg (f : TTE) (h : TTG) : TTS := fun τ D => f τ fun r τ1 => sharR r τ1 fun t τ2 => h t τ2 D.nx
theorem tsr_asg {te : TE} {g : TG} {f : TTE} {h : TTG} (he : TEr F te f) (hg : TGr F g h) : TSr F (tAsg te g) (gAsg f h) := fun σ τ S H D DD E q e => by
  refine he σ τ S H _ _ E q fun r τ1 v S1 H1 s1 E1 h1 q1 => ?_
  obtain ⟨t, τ2, S2, s2, E2, rp, q2⟩ := E1.shar h1 q1
  exact hg t v σ τ2 S2 H1 _ _ E2 rp q2 fun σ3 τ3 S3 H3 s3 E3 q3 => e.nx σ3 τ3 S3 H3 (s1.trans (s2.trans s3)) E3 q3
/-- a, b = x, y -/
@[reducible] def gPar (i j : Nat) (f g : TTE) : TTS := fun τ D => f τ fun r τ1 => sharR r τ1 fun t τ2 => g τ2 fun r τ3 => sharR r τ3 fun u τ4 => D.nx ((τ4.set i (some (.val t))).set j (some (.val u)))
theorem tsr_par {i j : Nat} {ta tb : TE} {f g : TTE} (ha : TEr F ta f) (hb : TEr F tb g) : TSr F (tPar i j (tCons ta (tCons tb tNil))) (gPar i j f g) := fun σ τ S H D DD E q e => by
  refine ha σ τ S H _ _ E q fun r1 τ1 v1 S1 H1 s1 E1 h1 q1 => ?_
  obtain ⟨t, τ2, S2, s2, E2, rp, q2⟩ := E1.shar h1 q1
  refine hb σ τ2 S2 H1 _ _ E2 q2 fun r3 τ3 v3 S3 H3 s3 E3 h3 q3 => ?_
  obtain ⟨u, τ4, S4, s4, E4, rp', q4⟩ := E3.shar h3 q3
  refine ⟨v1, v3, rfl, e.nx _ _ S4 H3 (s1.trans (s2.trans (s3.trans s4))) ((E4.set_val i (rp.mono (s3.trans s4))).set_val j rp') q4⟩
/-- a, b = x, []: both one's own -/
@[reducible] def gParN (i j : Nat) (f : TTE) : TTS := fun τ D => f τ fun r τ1 => setR i r τ1 fun τ2 => D.nx (τ2.set j (some (.own (.lst []))))
theorem tsr_parN {i j : Nat} {ta : TE} {f : TTE} (ha : TEr F ta f) : TSr F (tPar i j (tCons ta (tCons (tLst tNil) tNil))) (gParN i j f) := fun σ τ S H D DD E q e => by
  refine ha σ τ S H _ _ E q fun r1 τ1 v1 S1 H1 s1 E1 h1 q1 => ⟨Nat.zero_le _, fun p hp => ?_⟩
  obtain ⟨τ2, S2, s2, E2, q2⟩ := E1.setR h1 i q1
  exact ⟨v1, .ref p, rfl, e.nx _ _ S2 _ (s1.trans s2) ((E2.alloc_own (.lst []) hp).set_own j (E2.mine hp) (.lst upd_same .nil) (E2.apart hp)) q2⟩
def gPar3 (i j l : Nat) (f g h : TTE) : TTS := fun τ D => f τ fun r τ1 => sharR r τ1 fun t τ2 => g τ2 fun r τ3 => sharR r τ3 fun u τ4 => h τ4 fun r τ5 => sharR r τ5 fun w τ6 => D.nx (((τ6.set i (some (.val t))).set j (some (.val u))).set l (some (.val w)))
theorem tsr_par3 {i j l : Nat} {ta tb tc : TE} {f g h : TTE} (ha : TEr F ta f) (hb : TEr F tb g) (hc : TEr F tc h) : TSr F (tPar3 i j l (tCons ta (tCons tb (tCons tc tNil)))) (gPar3 i j l f g h) := fun σ τ S H D DD E q e => by
  refine ha σ τ S H _ _ E q fun r1 τ1 v1 S1 H1 s1 E1 h1 q1 => ?_
  obtain ⟨t, τ2, S2, s2, E2, rp, q2⟩ := E1.shar h1 q1
  refine hb σ τ2 S2 H1 _ _ E2 q2 fun r3 τ3 v3 S3 H3 s3 E3 h3 q3 => ?_
  obtain ⟨u, τ4, S4, s4, E4, rp', q4⟩ := E3.shar h3 q3
  refine hc σ τ4 S4 H3 _ _ E4 q4 fun r5 τ5 v5 S5 H5 s5 E5 h5 q5 => ?_
  obtain ⟨w, τ6, S6, s6, E6, rq, q6⟩ := E5.shar h5 q5
  have s46 := s5.trans s6
  exact ⟨v1, v3, v5, rfl, e.nx _ _ S6 H5 (s1.trans (s2.trans (s3.trans (s4.trans s46)))) (((E6.set_val i (rp.mono (s3.trans (s4.trans s46)))).set_val j (rp'.mono s46)).set_val l rq) q6⟩
/-- name op= e, ints -/
@[reducible] def gAugI (i : Nat) (f : TTE) (g : Int → Int → Int) : TTS := fun τ D => slotK τ i (fun _ => False) fun t => i1 t fun x => f τ fun r τ1 => lookR r τ1 fun u => i1 u fun y => D.nx (τ1.set i (some (.val (.int (g x y)))))
theorem tsr_augI {i : Nat} {te : TE} {f : TTE} {g : Int → Int → Int} (h : TEr F te f) : TSr F (tAug i te (ipI g)) (gAugI i f g) := fun σ τ S H D DD E q e => by
  rcases slotK_at q with ⟨t, _, q⟩ | ⟨t, h0, q⟩
  · exact q.elim
  obtain ⟨x, rfl, q⟩ := i1_at q
  obtain ⟨v, h1, h2⟩ := E.sl i _ h0
  refine ⟨v, h1, h σ τ S H _ _ E q fun r τ1 v1 S1 H1 s1 E1 r1 q1 => ?_⟩
  obtain ⟨u, lu, q2⟩ := E1.look r1 q1
  obtain ⟨y, rfl, q3⟩ := i1_at q2
  exact ⟨x, y, Rep.tV h2 rfl, lu.tV rfl, e.nx _ _ S1 H1 s1 (E1.set_val i (.int _)) q3⟩
/-- self.f = value, self at slot i -/
def slfK (τ : Ev) (i : Nat) (k : Addr → Addr → List (Str × Tv) → Prop) : Prop := match τ[i]? with
  | some (some (.slf a (.ins C fs))) => k a C fs
  | _ => False
theorem slfK_at {τ : Ev} {i : Nat} {k : Addr → Addr → List (Str × Tv) → Prop} (h : slfK τ i k) : ∃ a C fs, τ[i]? = some (some (.slf a (.ins C fs))) ∧ k a C fs := by
  unfold slfK at h
  split at h
  · exact ⟨_, _, _, by assumption, h⟩
  · exact h.elim
def gFld (K : PySem.W.Frag) (i : Nat) (fv : TTE) (f : Str) : TTS := fun τ D => fv τ fun r τ1 => sharR r τ1 fun t τ2 => slfK τ2 i fun a C fs => FldC K C f ∧ fs.length < 1000 ∧ D.nx (τ2.set i (some (.slf a (.ins C (putT f t fs)))))
theorem tsr_fld {i : Nat} {tv : TE} {fv : TTE} {f : Str} (h : TEr F tv fv) : TSr F (sFld F.K (tVar i) tv f) (gFld F.K i fv f) := fun σ τ S H D DD E q e => by
  refine h σ τ S H _ _ E q fun r τ1 v S1 H1 s1 E1 h1 q1 => ?_
  obtain ⟨t, τ2, S2, s2, E2, rp, q2⟩ := E1.shar h1 q1
  obtain ⟨a, C, fs, e1, fc, ln, q3⟩ := slfK_at q2
  obtain ⟨w, h3, rfl, m, ow⟩ := E2.sl i _ e1
  cases ow with
  | ins h4 h5 h6 =>
    obtain ⟨g1, g2⟩ := putT_at (f := f) rp h5 h6
    refine ⟨_, h3, a, C, _, _, rfl, h4, fc.cl, fc.no, by have := congrArg List.length h5; rw [List.length_map, List.length_map] at this; omega, ?_⟩
    exact e.nx _ _ S2 _ (s1.trans s2) (E2.mutG e1 rfl rfl (fun b u z => by cases z; rfl) h3 (.ins upd_same g1 g2)) q3
/-- d[k] = v, d one's own at slot i -/
@[reducible] def dputT : Tv → Tv → Tv → (Tv → Prop) → Prop
  | .dct ts, y, t, k => getK (keyT y) fun κ => ts.length < sizeLine ∧ k (.dct (putKT ts κ t))
  | .dtt ts, .tup us, t, k => getK (keysT us) fun κ => ts.length < sizeLine ∧ k (.dtt (putKT ts κ t))
  | _, _, _, _ => False
@[reducible] def gDSet (i : Nat) (fk fv : TTE) : TTS := fun τ D => fv τ fun r τ1 => sharR r τ1 fun t τ2 => ownK τ2 i fun _ => fk τ2 fun r τ3 => lookR r τ3 fun y => ownK τ3 i fun o => dputT o y t fun o => D.nx (τ3.set i (some (.own o)))
theorem tsr_dset {i : Nat} {tk tv : TE} {fk fv : TTE} (hk : TEr F tk fk) (hv : TEr F tv fv) : TSr F (tAsg tv (gSub (tVar i) tk rSetD)) (gDSet i fk fv) := fun σ τ S H D DD E q e => by
  refine hv σ τ S H _ _ E q fun r τ1 v S1 H1 s1 E1 h1 q1 => ?_
  obtain ⟨t, τ2, S2, s2, E2, rp, q2⟩ := E1.shar h1 q1
  obtain ⟨o0, e0, q2⟩ := ownK_at q2
  obtain ⟨_, ha, a, rfl, _, _⟩ := E2.sl i _ e0
  refine ⟨_, ha, hk σ τ2 S2 H1 _ _ E2 q2 fun r3 τ3 v3 S3 H3 s3 E3 h3 q3 => ?_⟩
  obtain ⟨y, ly, q4⟩ := E3.look h3 q3
  obtain ⟨o, e1, q5⟩ := ownK_at q4
  obtain ⟨w, h4, b, rfl, m, ow⟩ := E3.sl i _ e1
  rw [ha] at h4
  cases h4
  cases o <;> first | exact q5.elim | skip
  · obtain ⟨k, ek, ln, q5⟩ := getK_at q5
    cases ow with
    | dct h5 h6 h7 =>
      obtain ⟨g1, g2⟩ := putKT_at (k := k) (rp.mono s3) h6 h7
      refine ⟨a, _, rfl, ?_, e.nx _ _ S3 _ (s1.trans (s2.trans s3)) (E3.mut e1 ha (.dct upd_same g1 g2)) q5⟩
      rw [keyT_at ly ek]
      exact DPut.k h5 (by have := congrArg List.length h6; rw [List.length_map, List.length_map] at this; omega)
  · cases y <;> first | exact q5.elim | skip
    obtain ⟨k, ek, ln, q5⟩ := getK_at q5
    cases ow with
    | dtt h5 h6 h7 =>
      obtain ⟨g1, g2⟩ := putKT_at (k := k) (rp.mono s3) h6 h7
      obtain ⟨q, ws, rfl, h8, h9⟩ := ly.tupA E3.sH
      have ew := keysT_at h9 ek
      subst ew
      exact ⟨a, _, rfl, DPut.t h5 h8 (by have := congrArg List.length h6; rw [List.length_map, List.length_map] at this; omega), e.nx _ _ S3 _ (s1.trans (s2.trans s3)) (E3.mut e1 ha (.dtt upd_same g1 g2)) q5⟩
/-- while -/
def gWhile (c : TTB) (g : TTS) : TTS := fun τ D => ∃ W : Nat → Ev → Prop, (∃ m, W m τ) ∧ ∀ m τ', W m τ' → c τ' fun b τ1 => match b with
  | true => g τ1 { nx := fun τ2 => ∃ m', m' < m ∧ W m' τ2, rt := D.rt, bk := D.nx, ct := fun τ2 => ∃ m', m' < m ∧ W m' τ2 }
  | false => D.nx τ1
theorem tsr_while {c : TT} {t : TS} {fc : TTB} {g : TTS} (hc : TBr F c fc) (ht : TSr F t g) : TSr F (tWhile c t) (gWhile fc g) := fun σ τ S H D DD E ⟨W, ⟨m0, w0⟩, turn⟩ e => by
  refine ⟨fun m σ' H' => ∃ τ' S', Same S S' ∧ EvR F σ' τ' S' H' ∧ W m τ', ⟨m0, τ, S, Same.refl S, E, w0⟩, ?_⟩
  rintro m σ' H' ⟨τ', S', s, E1, w⟩
  refine hc σ' τ' S' H' _ _ E1 (turn m τ' w) fun b τ2 S2 H2 s2 E2 q2 => ?_
  cases b with
  | true =>
    rw [if_pos rfl]
    refine ⟨fun σ3 H3 => ∃ m', m' < m ∧ ∃ τ' S', Same S S' ∧ EvR F σ3 τ' S' H3 ∧ W m' τ', fun σ3 H3 ⟨m', h1, h2⟩ => ⟨m', h1, h2⟩, ht σ' τ2 S2 H2 _ _ E2 q2 ⟨fun σ3 τ3 S3 H3 s3 E3 ⟨m', h1, h2⟩ => ⟨m', h1, τ3, S3, s.trans (s2.trans s3), E3, h2⟩, (e.at (s.trans s2)).rt, (e.at (s.trans s2)).nx, fun σ3 τ3 S3 H3 s3 E3 ⟨m', h1, h2⟩ => ⟨m', h1, τ3, S3, s.trans (s2.trans s3), E3, h2⟩⟩⟩
  | false =>
    rw [if_neg Bool.false_ne_true]
    exact e.nx σ' τ2 S2 H2 (s.trans s2) E2 q2
/-- for -/
def gFor (w : TTI) (h : TTG) (g : TTS) : TTS := fun τ D => w τ fun ts τ1 => ∃ Inv : Nat → Ev → Prop, Inv 0 τ1 ∧
  (∀ i t τ', ts[i]? = some t → Inv i τ' → h t τ' fun τ2 => g τ2 { nx := Inv (i + 1), rt := D.rt, bk := D.nx, ct := Inv (i + 1) }) ∧ ∀ τ', Inv ts.length τ' → D.nx τ'
theorem tsr_for {wi : TI} {gg : TG} {tb : TS} {w : TTI} {h : TTG} {g : TTS} (hw : TIr F wi w) (hg : TGr F gg h) (ht : TSr F tb g) : TSr F (tFor wi gg tb) (gFor w h g) := fun σ τ S H D DD E q e => by
  refine hw σ τ S H _ _ E q fun ts τ1 J S1 H1 s1 E1 it ⟨Inv, h0, hs, hd⟩ => ?_
  refine ⟨fun i m σ' H' => m = ts.length - i ∧ i ≤ ts.length ∧ ∃ τ' S', Same S1 S' ∧ EvR F σ' τ' S' H' ∧ Inv i τ', ⟨ts.length, by simp, Nat.zero_le _, τ1, S1, Same.refl _, E1, h0⟩, ?_⟩
  rintro i m σ' H' ⟨rfl, hi, τ', S', s2, E2, hI⟩
  by_cases hlt : i < ts.length
  · refine .inr ⟨it.go i S' H' s2 E2.sH hlt, fun σ3 H3 => i + 1 ≤ ts.length ∧ ∃ τ' S', Same S1 S' ∧ EvR F σ3 τ' S' H3 ∧ Inv (i + 1) τ', fun σ3 H3 q => ⟨ts.length - (i + 1), by omega, rfl, q⟩, fun x H'' y => ?_⟩
    have e1 : ts[i]? = some ts[i] := List.getElem?_eq_getElem hlt
    have hx := it.yld i S' H' x H'' s2 E2.sH y _ e1
    obtain ⟨S3, s3, E3, rx⟩ := E2.res' (r := .val ts[i]) hx
    refine hg _ _ σ' τ' S3 H'' _ _ E3 rx (hs i _ τ' e1 hI) fun σ4 τ4 S4 H4 s4 E4 q4 => ?_
    have s14 := s2.trans (s3.trans s4)
    exact ht σ4 τ4 S4 H4 _ _ E4 q4 ⟨fun σ5 τ5 S5 H5 s5 E5 q5 => ⟨hlt, τ5, S5, s14.trans s5, E5, q5⟩, (e.at (s1.trans s14)).rt, (e.at (s1.trans s14)).nx, fun σ5 τ5 S5 H5 s5 E5 q5 => ⟨hlt, τ5, S5, s14.trans s5, E5, q5⟩⟩
  · have e1 : i = ts.length := by omega
    subst e1
    exact .inl ⟨it.stop _ S' H' s2 E2.sH rfl, e.nx σ' τ' S' H' (s1.trans s2) E2 (hd τ' hI)⟩
end
end L2.Wk
namespace L2.Wk
open PySem PySem.Spec PyProof.Rows
/-! ### a def from its body -/
theorem exok_calm {F : Fr} (h : ∀ τ C g t, ¬ F.R.X τ C g t) : ExOk F := fun _ _ _ _ _ _ _ _ _ _ _ _ z => (h _ _ _ _ z).elim
theorem exok_pure {K : PySem.W.Frag} {H S : Hp} : ExOk ⟨K, Rs.pure, H, S⟩ := exok_calm fun _ _ _ _ z => z
def startT (n : Nat) (ts : List Tv) : Ev := ts.map (fun t => some (Sl.val t)) ++ List.replicate (n - ts.length) none
def retR (P : Rv → Prop) : Rv → Ev → Prop
  | .val t, _ => P (.val t)
  | .own t, _ => P (.own t)
  | .brw i, τ => slotK τ i (fun t => P (.own t)) fun t => P (.val t)
section
variable {K : PySem.W.Frag} {R : Rs} {S H : Hp} {vs : List V} {ts : List Tv}
theorem start_ev (ex : ExOk ⟨K, R, H, S⟩) (sS : Same S H) (i : R.I S H) (o : ∀ b, R.M b → S b = none) (rs : Reps K S ts vs) (N : List Str) : EvR ⟨K, R, H, S⟩ (start N vs) (startT N.length ts) S H := by
  have hl := rs.len
  have ge : ∀ {j : Nat} {s : Sl}, (startT N.length ts)[j]? = some (some s) → ∃ t, ts[j]? = some t ∧ s = .val t := fun {j s} h => by
    unfold startT at h
    rw [List.getElem?_append] at h
    split at h
    · rw [List.getElem?_map] at h
      obtain ⟨t, e1, e2⟩ := Option.map_eq_some_iff.mp h
      cases e2
      exact ⟨t, e1, rfl⟩
    · rw [List.getElem?_replicate] at h
      split at h <;> cases h
  refine ⟨⟨Same.refl S, sS, fun b o e _ => e, fun b h => .inl h, i, o, ?_, fun j s h => ?_, fun a b s s' u u' v v' ne h1 m1 h2 m2 h3 h4 => ?_⟩, ex⟩
  · unfold startT start
    simp [hl]
  · obtain ⟨t, e1, rfl⟩ := ge h
    obtain ⟨v, e2, r⟩ := rs.getT e1
    refine ⟨v, ?_, r⟩
    unfold start
    rw [List.getElem?_append_left (by rw [List.length_map]; exact (List.getElem?_eq_some_iff.mp e2).1), List.getElem?_map, e2]
    rfl
  · obtain ⟨t, _, rfl⟩ := ge h1
    cases m1
theorem fn_tree {N : List Str} {t : TS} {g : TTS} {Q : VK} {P : Rv → Prop} (ex : ExOk ⟨K, R, H, S⟩) (h : TSr ⟨K, R, H, S⟩ t g) (sS : Same S H) (i : R.I S H) (o : ∀ b, R.M b → S b = none) (rs : Reps K S ts vs)
    (k : ∀ r v S' H', Aft R S H S' H' → RetOk K H S' H' r v → P r → Q v H') (q : g (startT N.length ts) { nx := fun _ => P (.val .non), rt := retR P }) :
    t { nx := fun _ H' => Q .non H', rt := Q } (start N vs) H := by
  have aft : ∀ {σ : L2.St} {τ : Ev} {S' H' : Hp}, Same S S' → EvR ⟨K, R, H, S⟩ σ τ S' H' → Aft R S H S' H' := fun s E => ⟨s, E.sH, E.fr, E.nw, E.res, E.off⟩
  refine h _ _ S H _ _ (start_ev ex sS i o rs N) q ⟨fun σ τ S' H' s E p => k (.val .non) .non S' H' (aft s E) Rep.non p, fun σ τ S' H' r v s E hr p => ?_, fun _ _ _ _ _ _ z => z.elim, fun _ _ _ _ _ _ z => z.elim⟩
  cases r with
  | val t => exact k (.val t) v S' H' (aft s E) hr p
  | own t =>
    obtain ⟨a, rfl, m, ow, _⟩ := hr
    exact k (.own t) _ S' H' (aft s E) ⟨a, rfl, m.1, m.2.1, ow⟩ p
  | brw j =>
    obtain ⟨⟨s0, u, h1, hm⟩, h2⟩ := hr
    rcases slotK_at p with ⟨w, h3, p⟩ | ⟨w, h3, p⟩
    · obtain ⟨x, h4, a, rfl, m, ow⟩ := E.sl j _ h3
      rw [h2] at h4
      cases h4
      exact k (.own w) _ S' H' (aft s E) ⟨a, rfl, m.1, m.2.1, ow⟩ p
    · rw [h1] at h3
      cases h3
      cases hm
theorem spT_len {f : FT} {ps : List Str} (h : ∀ ts P, f ts P → ts.length = ps.length) : ∀ vs H Q (E : XK), spT K R f vs H Q E → vs.length = ps.length := fun vs H Q E ⟨S, ts, P, _, _, _, rs, hf, _⟩ => by
  rw [← rs.len]
  exact h ts P hf
/-- an __init__ -/
theorem fn_init {C : Addr} {N : List Str} {t : TS} {g : TTS} {Q : VK} {P : List (Str × Tv) → Prop} {x dx : Addr} (ex : ExOk ⟨K, R, H, S⟩) (h : TSr ⟨K, R, H, S⟩ t g) (sS : Same S H) (i : R.I S H) (o : ∀ b, R.M b → S b = none) (hx : H x = none) (hdx : H dx = none) (ne : dx ≠ x) (rs : Reps K S ts vs)
    (k : ∀ fs S' H', Aft R S H S' H' → S' x = none → OwnAt K S' H' x (.ins C fs) → P fs → Q .non H')
    (q : g (some (.slf x (.ins C [])) :: startT (N.length - 1) ts) { nx := fun τ => slfK τ 0 fun a C' fs => a = x ∧ C' = C ∧ P fs, rt := fun _ _ => False }) (hN : N ≠ []) :
    t { nx := fun _ H' => Q .non H', rt := Q } (start N (.ref x :: vs)) (upd (upd H dx (.own x)) x (.ins C dx [])) := by
  have E0 := start_ev ex sS i o rs (N.tail)
  have ev : EvR ⟨K, R, H, S⟩ (start N (.ref x :: vs)) (some (.slf x (.ins C [])) :: startT (N.length - 1) ts) S (upd (upd H dx (.own x)) x (.ins C dx [])) := by
    have e1 : start N (.ref x :: vs) = some (V.ref x) :: start N.tail vs := by
      unfold start
      cases N with
      | nil => exact absurd rfl hN
      | cons a N => simp [Nat.add_sub_add_right]
    have e2 : startT (N.length - 1) ts = startT N.tail.length ts := by rw [List.length_tail]
    rw [e1, e2]
    have hx1 : (upd H dx (.own x)) x = none := by rw [upd_ne (Ne.symm ne)]; exact hx
    have E1 := (E0.alloc_own (.own x) hdx).alloc_own (.ins C dx []) hx1
    have no : ∀ {j : Nat} {s : Sl} {t : Tv}, (startT N.tail.length ts)[j]? = some (some s) → s.mine = some t → False := fun {j s t} h m => by
      unfold startT at h
      rw [List.getElem?_append] at h
      split at h
      · rw [List.getElem?_map] at h
        obtain ⟨t, _, e2⟩ := Option.map_eq_some_iff.mp h
        cases e2
        cases m
      · rw [List.getElem?_replicate] at h
        split at h <;> cases h
    refine ⟨⟨E1.s0, E1.sH, E1.fr, E1.nw, E1.res, E1.off, by have := E1.len; rw [← e2] at this; simpa using this, fun j s hj => ?_, fun a b s s' t t' v v' nab h1 m1 h2 m2 h3 h4 => ?_⟩, E1.ex⟩
    · cases j with
      | zero =>
        cases hj
        exact ⟨_, rfl, rfl, ⟨sS.free hx, hx, fun m => by obtain ⟨u, e⟩ := R.alloc i m; rw [hx] at e; cases e⟩, .ins upd_same rfl .nil⟩
      | succ j => exact E1.sl j s hj
    · cases a with
      | zero =>
        cases b with
        | zero => exact absurd rfl nab
        | succ b => exact (no h2 m2).elim
      | succ a => exact (no h1 m1).elim
  refine h _ _ S _ _ _ ev q ⟨fun σ τ S' H' s E p => ?_, fun _ _ _ _ _ _ _ _ _ z => z.elim, fun _ _ _ _ _ _ z => z.elim, fun _ _ _ _ _ _ z => z.elim⟩
  obtain ⟨a, C', fs, e1, e2, e3, hp⟩ := slfK_at p
  subst e2
  subst e3
  obtain ⟨w, h3, rfl, m, ow⟩ := E.sl 0 _ e1
  exact k fs S' H' ⟨s, E.sH, E.fr, E.nw, E.res, E.off⟩ m.1 ow hp
theorem spI_len {C : Addr} {f : FI} {ps : List Str} (h : ∀ ts P, f ts P → ts.length + 1 = ps.length) : ∀ vs H Q (E : XK), spI K R C f vs H Q E → vs.length = ps.length := fun vs H Q E ⟨S, H1, x, dx, ts, ws, P, e, _, _, _, _, _, _, _, rs, hf, _⟩ => by
  rw [e, List.length_cons, ← rs.len]
  exact h ts P hf
end
end L2.Wk
namespace L2.Wk
open PySem PySem.Spec PyProof.Rows
/-! ### the same for every frame (made by mkq.py) -/
def TErq (K : PySem.W.Frag) (R : Rs) (te : TE) (f : TTE) : Prop := ∀ H0 S0, TEr ⟨K, R, H0, S0⟩ te f
def TBrq (K : PySem.W.Frag) (R : Rs) (te : TT) (f : TTB) : Prop := ∀ H0 S0, TBr ⟨K, R, H0, S0⟩ te f
def TArq (K : PySem.W.Frag) (R : Rs) (te : TA) (f : TTA) : Prop := ∀ H0 S0, TAr ⟨K, R, H0, S0⟩ te f
def TIrq (K : PySem.W.Frag) (R : Rs) (te : TI) (f : TTI) : Prop := ∀ H0 S0, TIr ⟨K, R, H0, S0⟩ te f
def TGrq (K : PySem.W.Frag) (R : Rs) (te : TG) (f : TTG) : Prop := ∀ H0 S0, TGr ⟨K, R, H0, S0⟩ te f
def TGsrq (K : PySem.W.Frag) (R : Rs) (te : TGs) (f : TTGs) : Prop := ∀ H0 S0, TGsr ⟨K, R, H0, S0⟩ te f
def TSrq (K : PySem.W.Frag) (R : Rs) (te : TS) (f : TTS) : Prop := ∀ H0 S0, TSr ⟨K, R, H0, S0⟩ te f
def TOrq (K : PySem.W.Frag) (R : Rs) (te : TO) (f : TTO) : Prop := ∀ H0 S0, TOr ⟨K, R, H0, S0⟩ te f
section
variable {K : PySem.W.Frag} {R : Rs}
theorem q_ter_var (i : Nat) : TErq K R (tVar i) (fVar i) := fun H0 S0 => ter_var (F := ⟨K, R, H0, S0⟩) i
theorem q_ter_c (v : V) : TErq K R (tC v) (fC K v) := fun H0 S0 => ter_c (F := ⟨K, R, H0, S0⟩) v
theorem q_ter_op {r : R2} {ta tb : TE} {fa fb : TTE} {g : Tv → Tv → (Rv → Prop) → Prop} (o : OpT K r g) (ha : TErq K R ta fa) (hb : TErq K R tb fb) : TErq K R (tOp r ta tb) (fOp fa fb g) := fun H0 S0 => ter_op (F := ⟨K, R, H0, S0⟩) o (ha H0 S0) (hb H0 S0)
theorem q_ter_un {r : V → Hp → VK → Prop} {ta : TE} {fa : TTE} {g : Tv → (Rv → Prop) → Prop} (o : UnT K r g) (ha : TErq K R ta fa) : TErq K R (tUn r ta) (fUn fa g) := fun H0 S0 => ter_un (F := ⟨K, R, H0, S0⟩) o (ha H0 S0)
theorem q_ter_cb1 {r : List V → Hp → VK → Prop} {ta : TE} {fa : TTE} {g : Tv → (Rv → Prop) → Prop} (o : CbT1 K r g) (ha : TErq K R ta fa) : TErq K R (tCB r (tCons ta tNil)) (fUn fa g) := fun H0 S0 => ter_cb1 (F := ⟨K, R, H0, S0⟩) o (ha H0 S0)
theorem q_ter_cb2 {r : List V → Hp → VK → Prop} {ta tb : TE} {fa fb : TTE} {g : Tv → Tv → (Rv → Prop) → Prop} (o : CbT2 K r g) (ha : TErq K R ta fa) (hb : TErq K R tb fb) : TErq K R (tCB r (tCons ta (tCons tb tNil))) (fOp fa fb g) := fun H0 S0 => ter_cb2 (F := ⟨K, R, H0, S0⟩) o (ha H0 S0) (hb H0 S0)
theorem q_tbr_test {te : TE} {f : TTE} (h : TErq K R te f) : TBrq K R (tTest te) (fTest f) := fun H0 S0 => tbr_test (F := ⟨K, R, H0, S0⟩) (h H0 S0)
theorem q_tbr_b {te : TE} {f : TTE} (h : TErq K R te f) : TBrq K R (tB te) (fTest f) := fun H0 S0 => tbr_b (F := ⟨K, R, H0, S0⟩) (h H0 S0)
theorem q_tbr_and {t u : TT} {f g : TTB} (ht : TBrq K R t f) (hu : TBrq K R u g) : TBrq K R (tAnd t u) (fAnd f g) := fun H0 S0 => tbr_and (F := ⟨K, R, H0, S0⟩) (ht H0 S0) (hu H0 S0)
theorem q_tbr_or {t u : TT} {f g : TTB} (ht : TBrq K R t f) (hu : TBrq K R u g) : TBrq K R (tOr t u) (fOr f g) := fun H0 S0 => tbr_or (F := ⟨K, R, H0, S0⟩) (ht H0 S0) (hu H0 S0)
theorem q_tbr_not {t : TT} {f : TTB} (ht : TBrq K R t f) : TBrq K R (tNot t) (fNot f) := fun H0 S0 => tbr_not (F := ⟨K, R, H0, S0⟩) (ht H0 S0)
theorem q_tbr_yes  : TBrq K R tYes fYes := fun H0 S0 => tbr_yes (F := ⟨K, R, H0, S0⟩) 
theorem q_tbr_truth {te : TE} {f : TTE} (h : TErq K R te f) : TBrq K R (fun σ H Q => te σ H fun x H' => ∃ k, TruV K x H' k ∧ Q k H') (fTruth f) := fun H0 S0 => tbr_truth (F := ⟨K, R, H0, S0⟩) (h H0 S0)
theorem q_ter_andV {ta tb : TE} {f g : TTE} (ha : TErq K R ta f) (hb : TErq K R tb g) : TErq K R (tAndV ta tb) (fAndV f g) := fun H0 S0 => ter_andV (F := ⟨K, R, H0, S0⟩) (ha H0 S0) (hb H0 S0)
theorem q_ter_orV {ta tb : TE} {f g : TTE} (ha : TErq K R ta f) (hb : TErq K R tb g) : TErq K R (tOrV ta tb) (fOrV f g) := fun H0 S0 => ter_orV (F := ⟨K, R, H0, S0⟩) (ha H0 S0) (hb H0 S0)
theorem q_ter_notV {ta : TE} {f : TTE} (ha : TErq K R ta f) : TErq K R (tNotV ta) (fNotV f) := fun H0 S0 => ter_notV (F := ⟨K, R, H0, S0⟩) (ha H0 S0)
theorem q_ter_if {t : TT} {ta tb : TE} {c : TTB} {f g : TTE} (hc : TBrq K R t c) (ha : TErq K R ta f) (hb : TErq K R tb g) : TErq K R (tIf t ta tb) (fIf c f g) := fun H0 S0 => ter_if (F := ⟨K, R, H0, S0⟩) (hc H0 S0) (ha H0 S0) (hb H0 S0)
theorem q_tar_nil  : TArq K R tNil aNil := fun H0 S0 => tar_nil (F := ⟨K, R, H0, S0⟩) 
theorem q_tar_cons {te : TE} {ta : TA} {f : TTE} {g : TTA} (he : TErq K R te f) (ha : TArq K R ta g) : TArq K R (tCons te ta) (aCons f g) := fun H0 S0 => tar_cons (F := ⟨K, R, H0, S0⟩) (he H0 S0) (ha H0 S0)
theorem q_tar_star {te : TE} {ta : TA} {f : TTE} {g : TTA} (he : TErq K R te f) (ha : TArq K R ta g) : TArq K R (StX.tStar K te ta) (aStar f g) := fun H0 S0 => tar_star (F := ⟨K, R, H0, S0⟩) (he H0 S0) (ha H0 S0)
theorem q_ter_tup {ta : TA} {f : TTA} (h : TArq K R ta f) : TErq K R (tTup ta) (fTup f) := fun H0 S0 => ter_tup (F := ⟨K, R, H0, S0⟩) (h H0 S0)
theorem q_ter_lst {ta : TA} {f : TTA} (h : TArq K R ta f) : TErq K R (tLst ta) (fLst f) := fun H0 S0 => ter_lst (F := ⟨K, R, H0, S0⟩) (h H0 S0)
theorem q_ter_fld {ta : TE} {fa : TTE} {f : Str} (ha : TErq K R ta fa) : TErq K R (tFld K ta f) (fFld K fa f) := fun H0 S0 => ter_fld (F := ⟨K, R, H0, S0⟩) (ha H0 S0)
theorem q_tor_none  : TOrq K R tNoPart oNone := fun H0 S0 => tor_none (F := ⟨K, R, H0, S0⟩) 
theorem q_tor_some {te : TE} {f : TTE} (h : TErq K R te f) : TOrq K R (tPart te) (oSome f) := fun H0 S0 => tor_some (F := ⟨K, R, H0, S0⟩) (h H0 S0)
theorem q_ter_sl {r : V → Option Int → Option Int → Hp → VK → Prop} {g : Tv → Option Int → Option Int → (Rv → Prop) → Prop} {ta : TE} {tl th : TO} {fa : TTE} {fl fh : TTO} (o : SlT K r g) (ha : TErq K R ta fa) (hl : TOrq K R tl fl) (hh : TOrq K R th fh) : TErq K R (tSl r ta tl th) (fSl fa fl fh g) := fun H0 S0 => ter_sl (F := ⟨K, R, H0, S0⟩) o (ha H0 S0) (hl H0 S0) (hh H0 S0)
theorem q_ter_m1 {r : V → List V → Hp → VK → Prop} {g : Str → Tv → (Rv → Prop) → Prop} {ta tb : TE} {fa fb : TTE} (o : M1T K r g) (ha : TErq K R ta fa) (hb : TErq K R tb fb) : TErq K R (tM1 r ta tb) (fM1 fa fb g) := fun H0 S0 => ter_m1 (F := ⟨K, R, H0, S0⟩) o (ha H0 S0) (hb H0 S0)
theorem q_ter_rev {te : TE} {f : TTE} (h : TErq K R te f) : TErq K R (tRevL K te) (fRev f) := fun H0 S0 => ter_rev (F := ⟨K, R, H0, S0⟩) (h H0 S0)
theorem q_ter_append {i : Nat} {te : TE} {f : TTE} (h : TErq K R te f) : TErq K R (tBM K "list" rAppend (tVar i) (tCons te tNil)) (fAppend i f) := fun H0 S0 => ter_append (F := ⟨K, R, H0, S0⟩) (h H0 S0)
theorem q_ter_extend {i : Nat} {te : TE} {f : TTE} (h : TErq K R te f) : TErq K R (tBM K "list" rExtend (tVar i) (tCons te tNil)) (fExtend i f) := fun H0 S0 => ter_extend (F := ⟨K, R, H0, S0⟩) (h H0 S0)
theorem q_ter_pop {i : Nat} : TErq K R (tBM0 K "list" rPop (tVar i)) (fPop i) := fun H0 S0 => ter_pop (F := ⟨K, R, H0, S0⟩) 
theorem q_ter_popAt {i : Nat} {te : TE} {f : TTE} (h : TErq K R te f) : TErq K R (tBM K "list" rPopAt (tVar i) (tCons te tNil)) (fPopAt i f) := fun H0 S0 => ter_popAt (F := ⟨K, R, H0, S0⟩) (h H0 S0)
theorem q_ter_dget {td ty : TE} {fd fk : TTE} (hd : TErq K R td fd) (hk : TErq K R ty fk) : TErq K R (tDGet td ty) (fDGet fd fk) := fun H0 S0 => ter_dget (F := ⟨K, R, H0, S0⟩) (hd H0 S0) (hk H0 S0)
theorem q_ter_din {td ty : TE} {fd fk : TTE} (hk : TErq K R ty fk) (hd : TErq K R td fd) : TErq K R (tDIn ty td) (fDIn false fk fd) := fun H0 S0 => ter_din (F := ⟨K, R, H0, S0⟩) (hk H0 S0) (hd H0 S0)
theorem q_ter_dnotin {td ty : TE} {fd fk : TTE} (hk : TErq K R ty fk) (hd : TErq K R td fd) : TErq K R (tDNotIn ty td) (fDIn true fk fd) := fun H0 S0 => ter_dnotin (F := ⟨K, R, H0, S0⟩) (hk H0 S0) (hd H0 S0)
theorem q_ter_dnewT  : TErq K R tDNewT fDNewT := fun H0 S0 => ter_dnewT (F := ⟨K, R, H0, S0⟩) 
theorem q_ter_dnew  : TErq K R tDNewK fDNew := fun H0 S0 => ter_dnew (F := ⟨K, R, H0, S0⟩) 
theorem q_tir_list {te : TE} {f : TTE} (h : TErq K R te f) : TIrq K R (iList K te) (wList f) := fun H0 S0 => tir_list (F := ⟨K, R, H0, S0⟩) (h H0 S0)
theorem q_tir_tup {te : TE} {f : TTE} (h : TErq K R te f) : TIrq K R (iTup K te) (wTup f) := fun H0 S0 => tir_tup (F := ⟨K, R, H0, S0⟩) (h H0 S0)
theorem q_tir_seq {te : TE} {f : TTE} (h : TErq K R te f) : TIrq K R (iSeq K te) (wSeq f) := fun H0 S0 => tir_seq (F := ⟨K, R, H0, S0⟩) (h H0 S0)
theorem q_tir_str {te : TE} {f : TTE} (h : TErq K R te f) : TIrq K R (iStr te) (wStr f) := fun H0 S0 => tir_str (F := ⟨K, R, H0, S0⟩) (h H0 S0)
theorem q_tir_rng1 {te : TE} {f : TTE} (h : TErq K R te f) : TIrq K R (iRng1 (tCons te tNil)) (wRng1 f) := fun H0 S0 => tir_rng1 (F := ⟨K, R, H0, S0⟩) (h H0 S0)
theorem q_tir_rng2 {te te' : TE} {f g : TTE} (h : TErq K R te f) (h' : TErq K R te' g) : TIrq K R (iRng2 (tCons te (tCons te' tNil))) (wRng2 f g) := fun H0 S0 => tir_rng2 (F := ⟨K, R, H0, S0⟩) (h H0 S0) (h' H0 S0)
theorem q_tir_enumL {te : TE} {f : TTE} (h : TErq K R te f) : TIrq K R (iEnum K (tCons te tNil)) (wEnumL f) := fun H0 S0 => tir_enumL (F := ⟨K, R, H0, S0⟩) (h H0 S0)
theorem q_tir_enumT {te : TE} {f : TTE} (h : TErq K R te f) : TIrq K R (iEnumT K (tCons te tNil)) (wEnumT f) := fun H0 S0 => tir_enumT (F := ⟨K, R, H0, S0⟩) (h H0 S0)
theorem q_tir_enumK {te tc : TE} {f g : TTE} (h : TErq K R te f) (hc : TErq K R tc g) : TIrq K R (iEnumK K (tCons te tNil) tc) (wEnumK f g) := fun H0 S0 => tir_enumK (F := ⟨K, R, H0, S0⟩) (h H0 S0) (hc H0 S0)
theorem q_tir_zipL {te te' : TE} {f g : TTE} (h : TErq K R te f) (h' : TErq K R te' g) : TIrq K R (iZip K (tCons te (tCons te' tNil))) (wZipL f g) := fun H0 S0 => tir_zipL (F := ⟨K, R, H0, S0⟩) (h H0 S0) (h' H0 S0)
theorem q_tir_zipM {te te' : TE} {f g : TTE} (h : TErq K R te f) (h' : TErq K R te' g) : TIrq K R (iZipM K (tCons te (tCons te' tNil))) (wZipM f g) := fun H0 S0 => tir_zipM (F := ⟨K, R, H0, S0⟩) (h H0 S0) (h' H0 S0)
theorem q_tgr_name (i : Nat) : TGrq K R (gName i) (hName i) := fun H0 S0 => tgr_name (F := ⟨K, R, H0, S0⟩) i
theorem q_tgsr_nil  : TGsrq K R gNil hNil := fun H0 S0 => tgsr_nil (F := ⟨K, R, H0, S0⟩) 
theorem q_tgsr_cons {g : TG} {gs : TGs} {h : TTG} {hs : TTGs} (hg : TGrq K R g h) (hgs : TGsrq K R gs hs) : TGsrq K R (gCons g gs) (hCons h hs) := fun H0 S0 => tgsr_cons (F := ⟨K, R, H0, S0⟩) (hg H0 S0) (hgs H0 S0)
theorem q_tgr_tup {n : Nat} {gs : TGs} {hs : TTGs} (h : TGsrq K R gs hs) : TGrq K R (gTup K n gs) (hTup n hs) := fun H0 S0 => tgr_tup (F := ⟨K, R, H0, S0⟩) (h H0 S0)
theorem q_tgr_unl {n : Nat} {gs : TGs} {hs : TTGs} (h : TGsrq K R gs hs) : TGrq K R (gUnl K n gs) (hUnl n hs) := fun H0 S0 => tgr_unl (F := ⟨K, R, H0, S0⟩) (h H0 S0)
theorem q_ter_lc {wi : TI} {g : TG} {tt : TT} {te : TE} {vs : List Nat} {w : TTI} {h : TTG} {c : TTB} {e : TTE} (hw : TIrq K R wi w) (hg : TGrq K R g h) (hv : TGw g vs) (hm : TGm g) (ht : TBrq K R tt c) (he : TErq K R te e) : TErq K R (tLc wi g tt te vs) (fLc w h c e vs) := fun H0 S0 => ter_lc (F := ⟨K, R, H0, S0⟩) (hw H0 S0) (fun H1 => hg H1 S0) hv hm (fun H1 => ht H1 S0) (fun H1 => he H1 S0)
theorem q_ter_call {E : XK} {f : FT} {sp : Sp} {dvs : List V} {dts : List Tv} {ta : TA} {g : TTA} (u : UseT K R sp E f) (hd : ∀ S, Reps K S dts dvs) (ha : TArq K R ta g) : TErq K R (tCall sp dvs E ta) (fCall g dts f) := fun H0 S0 => ter_call (F := ⟨K, R, H0, S0⟩) u hd (ha H0 S0)
theorem q_ter_meth {E : XK} {f : FT} {C : Addr} {m : Str} {sp : Sp} {dvs : List V} {dts : List Tv} {te : TE} {ta : TA} {fo : TTE} {g : TTA} (u : UseT K R sp E f) (hd : ∀ S, Reps K S dts dvs) (ho : TErq K R te fo) (ha : TArq K R ta g) : TErq K R (tMeth C m sp dvs E te ta) (fMeth C m fo g dts f) := fun H0 S0 => ter_meth (F := ⟨K, R, H0, S0⟩) u hd (ho H0 S0) (ha H0 S0)
theorem q_ter_make {E : XK} {C : Addr} {sp : Sp} {dvs : List V} {dts : List Tv} {ta : TA} {g : TTA} {f : FI} (u : UseI K R C sp E f) (hd : ∀ S, Reps K S dts dvs) (ha : TArq K R ta g) : TErq K R (tMake C sp dvs E ta) (fMake C g dts f) := fun H0 S0 => ter_make (F := ⟨K, R, H0, S0⟩) u hd (ha H0 S0)
theorem q_tsr_next  : TSrq K R tNext gNext := fun H0 S0 => tsr_next (F := ⟨K, R, H0, S0⟩) 
theorem q_tsr_seq {t u : TS} {g h : TTS} (ht : TSrq K R t g) (hu : TSrq K R u h) : TSrq K R (tSeq t u) (gSeq g h) := fun H0 S0 => tsr_seq (F := ⟨K, R, H0, S0⟩) (ht H0 S0) (hu H0 S0)
theorem q_tsr_break  : TSrq K R tBreak gBreak := fun H0 S0 => tsr_break (F := ⟨K, R, H0, S0⟩) 
theorem q_tsr_cont  : TSrq K R tCont gCont := fun H0 S0 => tsr_cont (F := ⟨K, R, H0, S0⟩) 
theorem q_tsr_drop {te : TE} {f : TTE} (h : TErq K R te f) : TSrq K R (tDrop te) (gDrop f) := fun H0 S0 => tsr_drop (F := ⟨K, R, H0, S0⟩) (h H0 S0)
theorem q_tsr_ret {te : TE} {f : TTE} (h : TErq K R te f) : TSrq K R (tRet te) (gRet f) := fun H0 S0 => tsr_ret (F := ⟨K, R, H0, S0⟩) (h H0 S0)
theorem q_tsr_retN  : TSrq K R tRetN gRetN := fun H0 S0 => tsr_retN (F := ⟨K, R, H0, S0⟩) 
theorem q_tsr_if {c : TT} {t u : TS} {fc : TTB} {g h : TTS} (hc : TBrq K R c fc) (ht : TSrq K R t g) (hu : TSrq K R u h) : TSrq K R (tIfS c t u) (gIf fc g h) := fun H0 S0 => tsr_if (F := ⟨K, R, H0, S0⟩) (hc H0 S0) (ht H0 S0) (hu H0 S0)
theorem q_tsr_never  : TSrq K R tNever gNever := fun H0 S0 => tsr_never (F := ⟨K, R, H0, S0⟩) 
theorem q_tsr_set {i : Nat} {te : TE} {f : TTE} (h : TErq K R te f) : TSrq K R (tAsg te (gName i)) (gSet i f) := fun H0 S0 => tsr_set (F := ⟨K, R, H0, S0⟩) (h H0 S0)
theorem q_tsr_asg {te : TE} {g : TG} {f : TTE} {h : TTG} (he : TErq K R te f) (hg : TGrq K R g h) : TSrq K R (tAsg te g) (gAsg f h) := fun H0 S0 => tsr_asg (F := ⟨K, R, H0, S0⟩) (he H0 S0) (hg H0 S0)
theorem q_tsr_par {i j : Nat} {ta tb : TE} {f g : TTE} (ha : TErq K R ta f) (hb : TErq K R tb g) : TSrq K R (tPar i j (tCons ta (tCons tb tNil))) (gPar i j f g) := fun H0 S0 => tsr_par (F := ⟨K, R, H0, S0⟩) (ha H0 S0) (hb H0 S0)
theorem q_tsr_parN {i j : Nat} {ta : TE} {f : TTE} (ha : TErq K R ta f) : TSrq K R (tPar i j (tCons ta (tCons (tLst tNil) tNil))) (gParN i j f) := fun H0 S0 => tsr_parN (F := ⟨K, R, H0, S0⟩) (ha H0 S0)
theorem q_tsr_par3 {i j l : Nat} {ta tb tc : TE} {f g h : TTE} (ha : TErq K R ta f) (hb : TErq K R tb g) (hc : TErq K R tc h) : TSrq K R (tPar3 i j l (tCons ta (tCons tb (tCons tc tNil)))) (gPar3 i j l f g h) := fun H0 S0 => tsr_par3 (F := ⟨K, R, H0, S0⟩) (ha H0 S0) (hb H0 S0) (hc H0 S0)
theorem q_tsr_augI {i : Nat} {te : TE} {f : TTE} {g : Int → Int → Int} (h : TErq K R te f) : TSrq K R (tAug i te (ipI g)) (gAugI i f g) := fun H0 S0 => tsr_augI (F := ⟨K, R, H0, S0⟩) (h H0 S0)
theorem q_tsr_fld {i : Nat} {tv : TE} {fv : TTE} {f : Str} (h : TErq K R tv fv) : TSrq K R (sFld K (tVar i) tv f) (gFld K i fv f) := fun H0 S0 => tsr_fld (F := ⟨K, R, H0, S0⟩) (h H0 S0)
theorem q_tsr_dset {i : Nat} {tk tv : TE} {fk fv : TTE} (hk : TErq K R tk fk) (hv : TErq K R tv fv) : TSrq K R (tAsg tv (gSub (tVar i) tk rSetD)) (gDSet i fk fv) := fun H0 S0 => tsr_dset (F := ⟨K, R, H0, S0⟩) (hk H0 S0) (hv H0 S0)
theorem q_tsr_while {c : TT} {t : TS} {fc : TTB} {g : TTS} (hc : TBrq K R c fc) (ht : TSrq K R t g) : TSrq K R (tWhile c t) (gWhile fc g) := fun H0 S0 => tsr_while (F := ⟨K, R, H0, S0⟩) (hc H0 S0) (ht H0 S0)
theorem q_tsr_for {wi : TI} {gg : TG} {tb : TS} {w : TTI} {h : TTG} {g : TTS} (hw : TIrq K R wi w) (hg : TGrq K R gg h) (ht : TSrq K R tb g) : TSrq K R (tFor wi gg tb) (gFor w h g) := fun H0 S0 => tsr_for (F := ⟨K, R, H0, S0⟩) (hw H0 S0) (hg H0 S0) (ht H0 S0)
theorem fn_treeq {S H : Hp} {vs : List V} {ts : List Tv} {N : List Str} {t : TS} {g : TTS} {Q : VK} {P : Rv → Prop} (ex : ExOk ⟨K, R, H, S⟩) (h : TSrq K R t g) (sS : Same S H) (i : R.I S H) (o : ∀ b, R.M b → S b = none) (rs : Reps K S ts vs)
    (k : ∀ r v S' H', Aft R S H S' H' → RetOk K H S' H' r v → P r → Q v H') (q : g (startT N.length ts) { nx := fun _ => P (.val .non), rt := retR P }) :
    t { nx := fun _ H' => Q .non H', rt := Q } (start N vs) H := fn_tree ex (h H S) sS i o rs k q
theorem fn_initq {S H : Hp} {vs : List V} {ts : List Tv} {C : Addr} {N : List Str} {t : TS} {g : TTS} {Q : VK} {P : List (Str × Tv) → Prop} {x dx : Addr} (ex : ExOk ⟨K, R, H, S⟩) (h : TSrq K R t g) (sS : Same S H) (i : R.I S H) (o : ∀ b, R.M b → S b = none) (hx : H x = none) (hdx : H dx = none) (ne : dx ≠ x) (rs : Reps K S ts vs)
    (k : ∀ fs S' H', Aft R S H S' H' → S' x = none → OwnAt K S' H' x (.ins C fs) → P fs → Q .non H')
    (q : g (some (.slf x (.ins C [])) :: startT (N.length - 1) ts) { nx := fun τ => slfK τ 0 fun a C' fs => a = x ∧ C' = C ∧ P fs, rt := fun _ _ => False }) (hN : N ≠ []) :
    t { nx := fun _ H' => Q .non H', rt := Q } (start N (.ref x :: vs)) (upd (upd H dx (.own x)) x (.ins C dx [])) := fn_init ex (h H S) sS i o hx hdx ne rs k q hN
end
end L2.Wk
/-! x & y, x | y, x ^ y, ~x, x &= y .. by own methods -/
namespace PySem.W
section
variable {prog : Program} {w : World} {A : Around} {E : Value → Shared → Prop} {s : Shared} {K : Frag} {x C f : Addr} {ox : Obj} {od : Option Obj}
theorem noI_and {h : Heap} {cd : ClassData} (X : K.In h) (hcd : clsIn K C = some cd) (hm : cd.mro = [.ref C, .type "object"]) (h1 : findIn K (.ref C) "__iand__" = some none) (h2 : findIn K (.type "object") "__iand__" = some none) :
    Looks (model prog w) h (fillsInplaceSlot (.ref C) "and" false) false := by
  intro A Q E s k q
  have Lm : Looks (model prog w) h (mroOf (.ref C)) cd.mro := (looks_clsIn X hcd).andThen (f := fun cd => pure cd.mro) .now
  have Lm' := Lm.keeps k
  obtain ⟨hh, g, d, tt, os⟩ := s
  have X' : K.In hh := X.keeps k
  have L1 : Looks (model prog w) hh (typeLookup (.ref C) (dunderI "and")) none := looks_findIn X' h1
  have L2 : Looks (model prog w) hh (typeLookup (.type "object") (dunderI "and")) none := looks_findIn X' h2
  unfold fillsInplaceSlot
  refine wpAny_bind (Lm'.at ?_)
  rw [hm, List.anyM_cons]
  refine wpAny_bind ?_
  repeat lk
  exact q
theorem inplace_and_K {b : Value} {cd : ClassData} {Q : Value → Shared → Prop} (X : K.In s.heap) (I : InstAt s.heap x ox C od) (hb : Looks (model prog w) s.heap (typeOf b) (.ref C)) (hcd : clsIn K C = some cd) (hm : cd.mro = [.ref C, .type "object"]) (h1 : findIn K (.ref C) "__iand__" = some none) (h2 : findIn K (.type "object") "__iand__" = some none)
    (hs : findIn K (.ref C) "__and__" = some (some (.ref f))) (hf : isFn K (.ref f) = true)
    (h : wpAny (model prog w) A (call (.ref f) [.ref x, b]) (CmpBack Q) E s) : wpAny (model prog w) A (inplaceOp .BitAnd (.ref x) b) Q E s := by
  have one := ksp_try X I hs hf h
  obtain ⟨hh, g, d, tt, os⟩ := s
  have L1 : Looks (model prog w) hh (typeOf (.ref x)) (.ref C) := I.type
  have L2 : Looks (model prog w) hh (fillsInplaceSlot (.ref C) "and" false) false := noI_and X hcd hm h1 h2
  have L3 : Looks (model prog w) hh (fillsNumberSlot (.ref C) "and") true := fills_K X hcd hm hs
  unfold inplaceOp
  refine wpAny_holding ?_
  simp only [show (Operator.BitAnd).info.2 = "and" from rfl, show (Operator.BitAnd == Operator.Add) = false from rfl]
  ksp_lk
  simp only [beq_self_eq_true, if_true]
  ksp_lk
  refine wpAny_mono one (fun r s' hr' => ?_) fun _ _ e => e
  obtain ⟨v, rfl, hq⟩ := hr'
  ksp_lk
  exact hq
theorem noI_or {h : Heap} {cd : ClassData} (X : K.In h) (hcd : clsIn K C = some cd) (hm : cd.mro = [.ref C, .type "object"]) (h1 : findIn K (.ref C) "__ior__" = some none) (h2 : findIn K (.type "object") "__ior__" = some none) :
    Looks (model prog w) h (fillsInplaceSlot (.ref C) "or" false) false := by
  intro A Q E s k q
  have Lm : Looks (model prog w) h (mroOf (.ref C)) cd.mro := (looks_clsIn X hcd).andThen (f := fun cd => pure cd.mro) .now
  have Lm' := Lm.keeps k
  obtain ⟨hh, g, d, tt, os⟩ := s
  have X' : K.In hh := X.keeps k
  have L1 : Looks (model prog w) hh (typeLookup (.ref C) (dunderI "or")) none := looks_findIn X' h1
  have L2 : Looks (model prog w) hh (typeLookup (.type "object") (dunderI "or")) none := looks_findIn X' h2
  unfold fillsInplaceSlot
  refine wpAny_bind (Lm'.at ?_)
  rw [hm, List.anyM_cons]
  refine wpAny_bind ?_
  repeat lk
  exact q
theorem inplace_or_K {b : Value} {cd : ClassData} {Q : Value → Shared → Prop} (X : K.In s.heap) (I : InstAt s.heap x ox C od) (hb : Looks (model prog w) s.heap (typeOf b) (.ref C)) (hcd : clsIn K C = some cd) (hm : cd.mro = [.ref C, .type "object"]) (h1 : findIn K (.ref C) "__ior__" = some none) (h2 : findIn K (.type "object") "__ior__" = some none)
    (hs : findIn K (.ref C) "__or__" = some (some (.ref f))) (hf : isFn K (.ref f) = true)
    (h : wpAny (model prog w) A (call (.ref f) [.ref x, b]) (CmpBack Q) E s) : wpAny (model prog w) A (inplaceOp .BitOr (.ref x) b) Q E s := by
  have one := ksp_try X I hs hf h
  obtain ⟨hh, g, d, tt, os⟩ := s
  have L1 : Looks (model prog w) hh (typeOf (.ref x)) (.ref C) := I.type
  have L2 : Looks (model prog w) hh (fillsInplaceSlot (.ref C) "or" false) false := noI_or X hcd hm h1 h2
  have L3 : Looks (model prog w) hh (fillsNumberSlot (.ref C) "or") true := fills_K X hcd hm hs
  unfold inplaceOp
  refine wpAny_holding ?_
  simp only [show (Operator.BitOr).info.2 = "or" from rfl, show (Operator.BitOr == Operator.Add) = false from rfl]
  ksp_lk
  simp only [beq_self_eq_true, if_true]
  ksp_lk
  refine wpAny_mono one (fun r s' hr' => ?_) fun _ _ e => e
  obtain ⟨v, rfl, hq⟩ := hr'
  ksp_lk
  exact hq
theorem noI_xor {h : Heap} {cd : ClassData} (X : K.In h) (hcd : clsIn K C = some cd) (hm : cd.mro = [.ref C, .type "object"]) (h1 : findIn K (.ref C) "__ixor__" = some none) (h2 : findIn K (.type "object") "__ixor__" = some none) :
    Looks (model prog w) h (fillsInplaceSlot (.ref C) "xor" false) false := by
  intro A Q E s k q
  have Lm : Looks (model prog w) h (mroOf (.ref C)) cd.mro := (looks_clsIn X hcd).andThen (f := fun cd => pure cd.mro) .now
  have Lm' := Lm.keeps k
  obtain ⟨hh, g, d, tt, os⟩ := s
  have X' : K.In hh := X.keeps k
  have L1 : Looks (model prog w) hh (typeLookup (.ref C) (dunderI "xor")) none := looks_findIn X' h1
  have L2 : Looks (model prog w) hh (typeLookup (.type "object") (dunderI "xor")) none := looks_findIn X' h2
  unfold fillsInplaceSlot
  refine wpAny_bind (Lm'.at ?_)
  rw [hm, List.anyM_cons]
  refine wpAny_bind ?_
  repeat lk
  exact q
theorem inplace_xor_K {b : Value} {cd : ClassData} {Q : Value → Shared → Prop} (X : K.In s.heap) (I : InstAt s.heap x ox C od) (hb : Looks (model prog w) s.heap (typeOf b) (.ref C)) (hcd : clsIn K C = some cd) (hm : cd.mro = [.ref C, .type "object"]) (h1 : findIn K (.ref C) "__ixor__" = some none) (h2 : findIn K (.type "object") "__ixor__" = some none)
    (hs : findIn K (.ref C) "__xor__" = some (some (.ref f))) (hf : isFn K (.ref f) = true)
    (h : wpAny (model prog w) A (call (.ref f) [.ref x, b]) (CmpBack Q) E s) : wpAny (model prog w) A (inplaceOp .BitXor (.ref x) b) Q E s := by
  have one := ksp_try X I hs hf h
  obtain ⟨hh, g, d, tt, os⟩ := s
  have L1 : Looks (model prog w) hh (typeOf (.ref x)) (.ref C) := I.type
  have L2 : Looks (model prog w) hh (fillsInplaceSlot (.ref C) "xor" false) false := noI_xor X hcd hm h1 h2
  have L3 : Looks (model prog w) hh (fillsNumberSlot (.ref C) "xor") true := fills_K X hcd hm hs
  unfold inplaceOp
  refine wpAny_holding ?_
  simp only [show (Operator.BitXor).info.2 = "xor" from rfl, show (Operator.BitXor == Operator.Add) = false from rfl]
  ksp_lk
  simp only [beq_self_eq_true, if_true]
  ksp_lk
  refine wpAny_mono one (fun r s' hr' => ?_) fun _ _ e => e
  obtain ⟨v, rfl, hq⟩ := hr'
  ksp_lk
  exact hq
end
end PySem.W
namespace L2.Wk
open PySem PySem.Spec PyProof.Rows
section
variable {X : Cx} {CX : CXT} {C f : Addr} {fd : FuncData} {ps : List Str} {n : Nat} {sp : Sp} {E : XK} {cd : ClassData}
theorem ip_andOwn (hcd : PySem.W.clsIn X.K C = some cd) (hm : cd.mro = [.ref C, .type "object"]) (h1 : PySem.W.findIn X.K (.ref C) "__iand__" = some none) (hs : PySem.W.findIn X.K (.ref C) "__and__" = some (some (.ref f))) (hf : PySem.W.isFn X.K (.ref f) = true) (F : FnOk X.prog X.w X.K X.mg X.base CX n f fd ps sp) (hb : Binds X.K fd ps []) (hr : Room n X.A) (hx : Passes CX X E) :
    PIp X .BitAnd (rAddOwn C sp E) := by
  intro pins s σ H x y v u Q I rx ry h
  obtain ⟨a, b, dx, fs, dy, gs, rfl, rfl, ha, hb2, q⟩ := h
  cases (show v = Value.ref a from rx)
  cases (show u = Value.ref b from ry)
  obtain ⟨mA, J, _⟩ := ins_get I.hok ha
  obtain ⟨od, J, _⟩ := J.look
  obtain ⟨mB, J', _⟩ := ins_get I.hok hb2
  obtain ⟨od', J', _⟩ := J'.look
  have h2 : PySem.W.findIn X.K (.type "object") "__iand__" = some none := by kernel_rfl
  refine PySem.W.inplace_and_K I.kIn J J'.type hcd hm h1 h2 hs hf (wpAny_mono (wpAny_call (run_ok (us := [.ref a, .ref b]) (ws := [.ref a, .ref b]) F hb hr I.env0 hx I (.cons rfl (.cons rfl .nil)) q)) (fun r s' z => ?_) fun _ _ y => y)
  obtain ⟨z', H', I', rz, qz⟩ := z
  have ok : PySem.W.CmpBack (EP X pins σ Q) r s' := by
    cases r <;> first | exact ⟨z', H', I', rz, qz⟩ | (exfalso; cases z' <;> first | (obtain ⟨_, e⟩ := rz; cases e; done) | (cases rz; done))
  exact ok
theorem ip_orOwn (hcd : PySem.W.clsIn X.K C = some cd) (hm : cd.mro = [.ref C, .type "object"]) (h1 : PySem.W.findIn X.K (.ref C) "__ior__" = some none) (hs : PySem.W.findIn X.K (.ref C) "__or__" = some (some (.ref f))) (hf : PySem.W.isFn X.K (.ref f) = true) (F : FnOk X.prog X.w X.K X.mg X.base CX n f fd ps sp) (hb : Binds X.K fd ps []) (hr : Room n X.A) (hx : Passes CX X E) :
    PIp X .BitOr (rAddOwn C sp E) := by
  intro pins s σ H x y v u Q I rx ry h
  obtain ⟨a, b, dx, fs, dy, gs, rfl, rfl, ha, hb2, q⟩ := h
  cases (show v = Value.ref a from rx)
  cases (show u = Value.ref b from ry)
  obtain ⟨mA, J, _⟩ := ins_get I.hok ha
  obtain ⟨od, J, _⟩ := J.look
  obtain ⟨mB, J', _⟩ := ins_get I.hok hb2
  obtain ⟨od', J', _⟩ := J'.look
  have h2 : PySem.W.findIn X.K (.type "object") "__ior__" = some none := by kernel_rfl
  refine PySem.W.inplace_or_K I.kIn J J'.type hcd hm h1 h2 hs hf (wpAny_mono (wpAny_call (run_ok (us := [.ref a, .ref b]) (ws := [.ref a, .ref b]) F hb hr I.env0 hx I (.cons rfl (.cons rfl .nil)) q)) (fun r s' z => ?_) fun _ _ y => y)
  obtain ⟨z', H', I', rz, qz⟩ := z
  have ok : PySem.W.CmpBack (EP X pins σ Q) r s' := by
    cases r <;> first | exact ⟨z', H', I', rz, qz⟩ | (exfalso; cases z' <;> first | (obtain ⟨_, e⟩ := rz; cases e; done) | (cases rz; done))
  exact ok
theorem ip_xorOwn (hcd : PySem.W.clsIn X.K C = some cd) (hm : cd.mro = [.ref C, .type "object"]) (h1 : PySem.W.findIn X.K (.ref C) "__ixor__" = some none) (hs : PySem.W.findIn X.K (.ref C) "__xor__" = some (some (.ref f))) (hf : PySem.W.isFn X.K (.ref f) = true) (F : FnOk X.prog X.w X.K X.mg X.base CX n f fd ps sp) (hb : Binds X.K fd ps []) (hr : Room n X.A) (hx : Passes CX X E) :
    PIp X .BitXor (rAddOwn C sp E) := by
  intro pins s σ H x y v u Q I rx ry h
  obtain ⟨a, b, dx, fs, dy, gs, rfl, rfl, ha, hb2, q⟩ := h
  cases (show v = Value.ref a from rx)
  cases (show u = Value.ref b from ry)
  obtain ⟨mA, J, _⟩ := ins_get I.hok ha
  obtain ⟨od, J, _⟩ := J.look
  obtain ⟨mB, J', _⟩ := ins_get I.hok hb2
  obtain ⟨od', J', _⟩ := J'.look
  have h2 : PySem.W.findIn X.K (.type "object") "__ixor__" = some none := by kernel_rfl
  refine PySem.W.inplace_xor_K I.kIn J J'.type hcd hm h1 h2 hs hf (wpAny_mono (wpAny_call (run_ok (us := [.ref a, .ref b]) (ws := [.ref a, .ref b]) F hb hr I.env0 hx I (.cons rfl (.cons rfl .nil)) q)) (fun r s' z => ?_) fun _ _ y => y)
  obtain ⟨z', H', I', rz, qz⟩ := z
  have ok : PySem.W.CmpBack (EP X pins σ Q) r s' := by
    cases r <;> first | exact ⟨z', H', I', rz, qz⟩ | (exfalso; cases z' <;> first | (obtain ⟨_, e⟩ := rz; cases e; done) | (cases rz; done))
  exact ok
theorem op_own {op : Operator} (hs : PySem.W.findIn X.K (.ref C) (PySem.dunder op.info.2) = some (some (.ref f))) (hf : PySem.W.isFn X.K (.ref f) = true) (hc : PySem.W.selfFirst X.K C = true) (F : FnOk X.prog X.w X.K X.mg X.base CX n f fd ps sp) (hb : Binds X.K fd ps []) (hr : Room n X.A) (hx : Passes CX X E) :
    OpR X (binaryOp op) (rAddOwn C sp E) := by
  intro pins s σ H x y v u Q I rx ry h
  obtain ⟨a, b, dx, fs, dy, gs, rfl, rfl, ha, hb2, q⟩ := h
  cases (show v = Value.ref a from rx)
  cases (show u = Value.ref b from ry)
  obtain ⟨mA, J, _⟩ := ins_get I.hok ha
  obtain ⟨od, J, _⟩ := J.look
  obtain ⟨mB, J', _⟩ := ins_get I.hok hb2
  obtain ⟨od', J', _⟩ := J'.look
  obtain ⟨m, hF⟩ := I.fr
  refine PySem.W.binop_K hF I.ok.mod.kin J J'.type hc hs hf (wpAny_mono (wpAny_call (run_ok (us := [.ref a, .ref b]) (ws := [.ref a, .ref b]) F hb hr I.env0 hx I (.cons rfl (.cons rfl .nil)) q)) (fun r s' z => ?_) fun _ _ y => y)
  obtain ⟨z', H', I', rz, qz⟩ := z
  have ok : PySem.W.CmpBack (EP X pins σ Q) r s' := by
    cases r <;> first | exact ⟨z', H', I', rz, qz⟩ | (exfalso; cases z' <;> first | (obtain ⟨_, e⟩ := rz; cases e; done) | (cases rz; done))
  exact ok

def rInvOwn (C : Addr) (sp : Sp) (E : XK) : V → Hp → VK → Prop := fun x H Q => ∃ a dx fs, x = .ref a ∧ H a = some (.ins C dx fs) ∧ sp [.ref a] H Q E
theorem un_invOwn (hs : PySem.W.findIn X.K (.ref C) "__invert__" = some (some (.ref f))) (hf : PySem.W.isFn X.K (.ref f) = true) (F : FnOk X.prog X.w X.K X.mg X.base CX n f fd ps sp) (hb : Binds X.K fd ps []) (hr : Room n X.A) (hx : Passes CX X E) :
    UnR X (unaryOp .Invert) (rInvOwn C sp E) := by
  intro pins s σ H x v Q I rx h
  obtain ⟨a, dx, fs, rfl, ha, q⟩ := h
  cases (show v = Value.ref a from rx)
  obtain ⟨mA, J, _⟩ := ins_get I.hok ha
  obtain ⟨od, J, _⟩ := J.look
  unfold unaryOp
  refine wpAny_holding ?_
  dsimp only
  rw [if_neg (by decide)]
  refine wpAny_bind (PySem.W.special_fn I.kIn J hs (beq_iff_eq.mp hf) (wpAny_mono (wpAny_call (run_ok (us := [.ref a]) (ws := [.ref a]) F hb hr I.env0 hx I (.cons rfl .nil) q)) (fun r s' z => ?_) fun _ _ y => y))
  exact wpAny_pure z
end
end L2.Wk
namespace L2.Wk
open PySem PySem.Spec PyProof.Rows
/-! ### errors -/
abbrev XP := Addr → Str → Tv → Prop
abbrev FTX := List Tv → (Rv → Prop) → XP → Prop
def ErrOut (K : PySem.W.Frag) (R : Rs) (S H : Hp) (E : XK) (X : XP) : Prop := ∀ C g t d v S' H', Aft R S H S' H' → H' d = none → Rep K S' t v → X C g t → E (.ref C) (some d) (upd H' d (.xd [(g, v)]))
def UseX (K : PySem.W.Frag) (R : Rs) (sp : Sp) (E : XK) (f : FTX) : Prop := ∀ (S H : Hp) (ts : List Tv) (vs : List V) (Q : VK) (P : Rv → Prop) (X : XP), Same S H → R.I S H → (∀ b, R.M b → S b = none) → Reps K S ts vs → f ts P X →
  (∀ r v S' H', Aft R S H S' H' → RetOk K H S' H' r v → P r → Q v H') → ErrOut K R S H E X → sp vs H Q E
def spTX (K : PySem.W.Frag) (R : Rs) (f : FTX) : Sp := fun vs H Q E => ∃ S ts P X, Same S H ∧ R.I S H ∧ (∀ b, R.M b → S b = none) ∧ Reps K S ts vs ∧ f ts P X ∧ (∀ r v S' H', Aft R S H S' H' → RetOk K H S' H' r v → P r → Q v H') ∧ ErrOut K R S H E X
def UseIX (K : PySem.W.Frag) (R : Rs) (C : Addr) (sp : Sp) (E : XK) (f : List Tv → (List (Str × Tv) → Prop) → XP → Prop) : Prop := ∀ (S H : Hp) (x dx : Addr) (ts : List Tv) (vs : List V) (Q : VK) (P : List (Str × Tv) → Prop) (X : XP), Same S H → R.I S H → (∀ b, R.M b → S b = none) → H x = none → H dx = none → dx ≠ x →
  Reps K S ts vs → f ts P X → (∀ fs S' H', Aft R S H S' H' → S' x = none → OwnAt K S' H' x (.ins C fs) → P fs → Q .non H') → ErrOut K R S H E X → sp (.ref x :: vs) (upd (upd H dx (.own x)) x (.ins C dx [])) Q E
abbrev FIX := List Tv → (List (Str × Tv) → Prop) → XP → Prop
def spIX (K : PySem.W.Frag) (R : Rs) (C : Addr) (f : FIX) : Sp := fun vs H1 Q E => ∃ S H x dx ts ws P X, vs = .ref x :: ws ∧ H1 = upd (upd H dx (.own x)) x (.ins C dx []) ∧ Same S H ∧ R.I S H ∧ (∀ b, R.M b → S b = none) ∧ H x = none ∧ H dx = none ∧ dx ≠ x ∧ Reps K S ts ws ∧ f ts P X ∧
  (∀ fs S' H', Aft R S H S' H' → S' x = none → OwnAt K S' H' x (.ins C fs) → P fs → Q .non H') ∧ ErrOut K R S H E X
section
variable {K : PySem.W.Frag} {R R' : Rs} {F : Fr} {σ : L2.St} {τ : Ev} {S H S' H' : Hp} {E : XK} {f : FTX}
theorem Aft.to (A : Aft R S H S' H') (hM : R'.M = R.M) (hI : R'.I = R.I) : Aft R' S H S' H' :=
  ⟨A.sS, A.sH, by rw [hM]; exact A.fr, A.nw, by rw [hI]; exact A.res, by rw [hM]; exact A.off⟩
theorem usex_self : UseX K R (spTX K R f) E f := fun S H ts vs Q P X s i o r h k e => ⟨S, ts, P, X, s, i, o, r, h, k, e⟩
theorem usex_pure : UseX K R (spTX K Rs.pure f) E f := fun S H ts vs Q P X s i o r h k e =>
  ⟨S, ts, P, X, s, trivial, fun _ z => z.elim, r, h, fun rv v S' H' A q p => k rv v S' H' (A.lift i o) q p, fun C g t d v S' H' A => e C g t d v S' H' (A.lift i o)⟩
theorem useix_pure {C : Addr} {f : FIX} : UseIX K R C (spIX K Rs.pure C f) E f := fun S H x dx ts vs Q P X s i o h1 h2 h3 r h k e =>
  ⟨S, H, x, dx, ts, vs, P, X, rfl, rfl, s, trivial, fun _ z => z.elim, h1, h2, h3, r, h, fun fs S' H' A e1 e2 p => k fs S' H' (A.lift i o) e1 e2 p, fun C g t d v S' H' A => e C g t d v S' H' (A.lift i o)⟩
/-- a raising def that does not raise -/
theorem use_calm {g : FT} (u : UseX K R (spTX K Rs.pure f) E f) (h : ∀ ts P, g ts P → f ts P fun _ _ _ => False) : UseT K R (spTX K Rs.pure f) E g := fun S H ts vs Q P s i o r q k =>
  u S H ts vs Q P _ s i o r (h ts P q) k fun _ _ _ _ _ _ _ _ _ _ z => z.elim
theorem EvR.errOut (Ev : EvR F σ τ S H) : ErrOut F.K F.R S H (F.R.E σ) (F.R.X τ) := fun C g t d v S' H' A hd r x => Ev.ex σ τ S' H' C d g v t (Ev.aft A).toEvR0 hd r x
def fCallX (X : Ev → XP) (g : TTA) (dts : List Tv) (f : FTX) : TTE := fun τ P => g τ fun ts τ1 => f (ts ++ dts) (fun r => P r τ1) (X τ1)
theorem ter_callX {sp : Sp} {dvs : List V} {dts : List Tv} {ta : TA} {g : TTA} (hE : ∀ σ, F.R.E σ = E) (u : UseX F.K F.R sp E f) (hd : ∀ S, Reps F.K S dts dvs) (ha : TAr F ta g) : TEr F (tCall sp dvs E ta) (fCallX F.R.X g dts f) := fun σ τ S H Q P Ev q k => by
  refine ha σ τ S H _ _ Ev q fun ts τ1 vs S1 H1 s1 E1 rs q1 => ?_
  refine u S1 H1 _ _ _ _ _ E1.sH E1.res E1.off (rs.app (hd S1)) q1 (fun r v S2 H2 A h p => ?_) ((hE σ) ▸ E1.errOut)
  exact k r τ1 v S2 H2 (s1.trans A.sS) (E1.aft A) (E1.ret A h) p
def fMakeX (X : Ev → XP) (C : Addr) (g : TTA) (dts : List Tv) (f : FIX) : TTE := fun τ P => g τ fun ts τ1 => f (ts ++ dts) (fun fs => P (.own (.ins C fs)) τ1) (X τ1)
theorem ter_makeX {C : Addr} {sp : Sp} {dvs : List V} {dts : List Tv} {ta : TA} {g : TTA} {f : FIX} (hE : ∀ σ, F.R.E σ = E) (u : UseIX F.K F.R C sp E f) (hd : ∀ S, Reps F.K S dts dvs) (ha : TAr F ta g) : TEr F (tMake C sp dvs E ta) (fMakeX F.R.X C g dts f) := fun σ τ S H Q P Ev q k => by
  refine ha σ τ S H _ _ Ev q fun ts τ1 vs S1 H1 s1 E1 rs q1 x dx hx hdx ne => ?_
  refine u S1 H1 x dx _ _ _ _ _ E1.sH E1.res E1.off hx hdx ne (rs.app (hd S1)) q1 (fun fs S2 H2 A e1 e2 p => ⟨rfl, ?_⟩) ((hE σ) ▸ E1.errOut)
  exact k (.own (.ins C fs)) τ1 _ S2 H2 (s1.trans A.sS) (E1.aft A) ⟨x, rfl, ⟨e1, (E1.h0 hx).1, (E1.h0 hx).2.1⟩, e2, E1.apart hx⟩ p
/-- .. in a try: the wish hangs on the slots -/
theorem ter_makeS {C : Addr} {sp : Sp} {dvs : List V} {dts : List Tv} {ta : TA} {g : TTA} {f : FIX} {E : L2.St → XK} (hE : F.R.E = E) (u : ∀ σ, UseIX F.K F.R C sp (E σ) f) (hd : ∀ S, Reps F.K S dts dvs) (ha : TAr F ta g) : TEr F (tMakeS C sp dvs E ta) (fMakeX F.R.X C g dts f) := fun σ τ S H Q P Ev q k => by
  refine ha σ τ S H _ _ Ev q fun ts τ1 vs S1 H1 s1 E1 rs q1 x dx hx hdx ne => ?_
  refine u σ S1 H1 x dx _ _ _ _ _ E1.sH E1.res E1.off hx hdx ne (rs.app (hd S1)) q1 (fun fs S2 H2 A e1 e2 p => ⟨rfl, ?_⟩) (hE ▸ E1.errOut)
  exact k (.own (.ins C fs)) τ1 _ S2 H2 (s1.trans A.sS) (E1.aft A) ⟨x, rfl, ⟨e1, (E1.h0 hx).1, (E1.h0 hx).2.1⟩, e2, E1.apart hx⟩ p
/-- a classmethod -/
@[reducible] def fCMeth (C : Addr) (fo : TTE) (g : TTA) (f : FT) : TTE := fun τ P => fo τ fun r τ1 => lookR r τ1 fun t => match t with
  | .adr C' => C' = C ∧ g τ1 fun ts τ2 => f (.adr C :: ts) fun r => P r τ2
  | _ => False
theorem ter_cmeth {C : Addr} {sp : Sp} {te : TE} {ta : TA} {fo : TTE} {g : TTA} {f : FT} (u : UseT F.K F.R sp E f) (ho : TEr F te fo) (ha : TAr F ta g) : TEr F (ClX.tCMeth C sp E te ta) (fCMeth C fo g f) := fun σ τ S H Q P Ev q k => by
  refine ho σ τ S H _ _ Ev q fun r1 τ1 v1 S1 H1 s1 E1 h1 q1 => ?_
  obtain ⟨t, la, q2⟩ := E1.look h1 q1
  cases t <;> first | exact (show False from q2).elim | skip
  obtain ⟨rfl, q2⟩ : _ ∧ _ := q2
  refine ⟨la.tV rfl, ha σ τ1 S1 H1 _ _ E1 q2 fun ts τ2 vs S2 H2 s2 E2 rs q3 => ?_⟩
  refine u S2 H2 _ _ _ _ E2.sH E2.res E2.off (.cons (.adr _) rs) q3 fun r v S3 H3 A h p => ?_
  exact k r τ2 v S3 H3 (s1.trans (s2.trans A.sS)) (E2.aft A) (E2.ret A h) p
def fCMethX (X : Ev → XP) (C : Addr) (fo : TTE) (g : TTA) (f : FTX) : TTE := fun τ P => fo τ fun r τ1 => lookR r τ1 fun t => match t with
  | .adr C' => C' = C ∧ g τ1 fun ts τ2 => f (.adr C :: ts) (fun r => P r τ2) (X τ2)
  | _ => False
theorem ter_cmethS {C : Addr} {sp : Sp} {te : TE} {ta : TA} {fo : TTE} {g : TTA} {f : FTX} {E : L2.St → XK} (hE : F.R.E = E) (u : ∀ σ, UseX F.K F.R sp (E σ) f) (ho : TEr F te fo) (ha : TAr F ta g) : TEr F (tCMethS C sp E te ta) (fCMethX F.R.X C fo g f) := fun σ τ S H Q P Ev q k => by
  refine ho σ τ S H _ _ Ev q fun r1 τ1 v1 S1 H1 s1 E1 h1 q1 => ?_
  obtain ⟨t, la, q2⟩ := E1.look h1 q1
  cases t <;> first | exact (show False from q2).elim | skip
  obtain ⟨rfl, q2⟩ : _ ∧ _ := q2
  refine ⟨la.tV rfl, ha σ τ1 S1 H1 _ _ E1 q2 fun ts τ2 vs S2 H2 s2 E2 rs q3 => ?_⟩
  refine u σ S2 H2 _ _ _ _ _ E2.sH E2.res E2.off (.cons (.adr _) rs) q3 (fun r v S3 H3 A h p => ?_) (hE ▸ E2.errOut)
  exact k r τ2 v S3 H3 (s1.trans (s2.trans A.sS)) (E2.aft A) (E2.ret A h) p
theorem ter_cmethX {C : Addr} {sp : Sp} {te : TE} {ta : TA} {fo : TTE} {g : TTA} {f : FTX} (hE : ∀ σ, F.R.E σ = E) (u : UseX F.K F.R sp E f) (ho : TEr F te fo) (ha : TAr F ta g) : TEr F (ClX.tCMeth C sp E te ta) (fCMethX F.R.X C fo g f) := fun σ τ S H Q P Ev q k => by
  refine ho σ τ S H _ _ Ev q fun r1 τ1 v1 S1 H1 s1 E1 h1 q1 => ?_
  obtain ⟨t, la, q2⟩ := E1.look h1 q1
  cases t <;> first | exact (show False from q2).elim | skip
  obtain ⟨rfl, q2⟩ : _ ∧ _ := q2
  refine ⟨la.tV rfl, ha σ τ1 S1 H1 _ _ E1 q2 fun ts τ2 vs S2 H2 s2 E2 rs q3 => ?_⟩
  refine u S2 H2 _ _ _ _ _ E2.sH E2.res E2.off (.cons (.adr _) rs) q3 (fun r v S3 H3 A h p => ?_) ((hE σ) ▸ E2.errOut)
  exact k r τ2 v S3 H3 (s1.trans (s2.trans A.sS)) (E2.aft A) (E2.ret A h) p
/-- the class in a local: cls(..) -/
@[reducible] def fMakeL (i : Nat) (C : Addr) (g : TTA) (dts : List Tv) (f : FI) : TTE := fun τ P => slotK τ i (fun _ => False) fun t => match t with
  | .adr C' => C' = C ∧ g τ fun ts τ1 => f (ts ++ dts) fun fs => P (.own (.ins C fs)) τ1
  | _ => False
theorem slotAdr {i : Nat} {C : Addr} {q : Prop} (E : EvR F σ τ S H) (h : slotK τ i (fun _ => False) fun t => match t with
    | .adr C' => C' = C ∧ q
    | _ => False) : σ[i]? = some (some (.ref C)) ∧ q := by
  rcases slotK_at h with ⟨t, _, h⟩ | ⟨t, h0, h⟩
  · exact h.elim
  · cases t <;> first | exact (show False from h).elim | skip
    obtain ⟨rfl, hq⟩ : _ ∧ _ := h
    obtain ⟨v, h1, h2⟩ := E.sl i _ h0
    rw [Rep.tV h2 rfl] at h1
    exact ⟨h1, hq⟩
theorem ter_makeL {i : Nat} {C : Addr} {sp : Sp} {dvs : List V} {dts : List Tv} {ta : TA} {g : TTA} {f : FI} {E : L2.St → XK} (u : ∀ σ, UseI F.K F.R C sp (E σ) f) (hd : ∀ S, Reps F.K S dts dvs) (ha : TAr F ta g) : TEr F (tMakeL i C sp dvs E ta) (fMakeL i C g dts f) := fun σ τ S H Q P Ev q k => by
  obtain ⟨hc, q⟩ := slotAdr Ev q
  refine ⟨hc, ha σ τ S H _ _ Ev q fun ts τ1 vs S1 H1 s1 E1 rs q1 x dx hx hdx ne => ?_⟩
  refine u σ S1 H1 x dx _ _ _ _ E1.sH E1.res E1.off hx hdx ne (rs.app (hd S1)) q1 fun fs S2 H2 A e1 e2 p => ⟨rfl, ?_⟩
  exact k (.own (.ins C fs)) τ1 _ S2 H2 (s1.trans A.sS) (E1.aft A) ⟨x, rfl, ⟨e1, (E1.h0 hx).1, (E1.h0 hx).2.1⟩, e2, E1.apart hx⟩ p
def fMakeLX (X : Ev → XP) (i : Nat) (C : Addr) (g : TTA) (dts : List Tv) (f : FIX) : TTE := fun τ P => slotK τ i (fun _ => False) fun t => match t with
  | .adr C' => C' = C ∧ g τ fun ts τ1 => f (ts ++ dts) (fun fs => P (.own (.ins C fs)) τ1) (X τ1)
  | _ => False
theorem ter_makeLX {i : Nat} {C : Addr} {sp : Sp} {dvs : List V} {dts : List Tv} {ta : TA} {g : TTA} {f : FIX} {E : L2.St → XK} (hE : F.R.E = E) (u : ∀ σ, UseIX F.K F.R C sp (E σ) f) (hd : ∀ S, Reps F.K S dts dvs) (ha : TAr F ta g) : TEr F (tMakeL i C sp dvs E ta) (fMakeLX F.R.X i C g dts f) := fun σ τ S H Q P Ev q k => by
  obtain ⟨hc, q⟩ := slotAdr Ev q
  refine ⟨hc, ha σ τ S H _ _ Ev q fun ts τ1 vs S1 H1 s1 E1 rs q1 x dx hx hdx ne => ?_⟩
  refine u σ S1 H1 x dx _ _ _ _ _ E1.sH E1.res E1.off hx hdx ne (rs.app (hd S1)) q1 (fun fs S2 H2 A e1 e2 p => ⟨rfl, ?_⟩) (hE ▸ E1.errOut)
  exact k (.own (.ins C fs)) τ1 _ S2 H2 (s1.trans A.sS) (E1.aft A) ⟨x, rfl, ⟨e1, (E1.h0 hx).1, (E1.h0 hx).2.1⟩, e2, E1.apart hx⟩ p
/-- o.f by a property -/
@[reducible] def fProp (C : Addr) (fo : TTE) (f : FT) : TTE := fun τ P => fo τ fun r τ1 => sharR r τ1 fun t τ2 => match t with
  | .ins C' fs => C' = C ∧ f [.ins C' fs] fun r => P r τ2
  | _ => False
theorem ter_prop {C : Addr} {sp : Sp} {te : TE} {fo : TTE} {f : FT} (u : UseT F.K F.R sp E f) (ho : TEr F te fo) : TEr F (tProp C sp [] E te) (fProp C fo f) := fun σ τ S H Q P Ev q k => by
  refine ho σ τ S H _ _ Ev q fun r1 τ1 v1 S1 H1 s1 E1 h1 q1 => ?_
  obtain ⟨t, τ2, S2, s2, E2, rp, q2⟩ := E1.shar h1 q1
  cases t <;> first | exact (show False from q2).elim | skip
  obtain ⟨rfl, q2⟩ : _ ∧ _ := q2
  cases rp with
  | ins h2 h3 h4 =>
    refine ⟨_, _, _, rfl, E2.sH _ _ h2, ?_⟩
    refine u S2 H1 _ _ _ _ E2.sH E2.res E2.off (.cons (.ins h2 h3 h4) .nil) q2 fun r v S4 H4 A h p => ?_
    exact k r τ2 v S4 H4 (s1.trans (s2.trans A.sS)) (E2.aft A) (E2.ret A h) p
/-! ### own operators -/
@[reducible] def fOpOwn (C : Addr) (fa fb : TTE) (f : FT) : TTE := fun τ P => fa τ fun r1 τ1 => sharR r1 τ1 fun a τ2 => fb τ2 fun r2 τ3 => sharR r2 τ3 fun b τ4 => match a, b with
  | .ins C1 fs, .ins C2 gs => C1 = C ∧ C2 = C ∧ f [.ins C1 fs, .ins C2 gs] fun r => P r τ4
  | _, _ => False
theorem ter_opOwn {C : Addr} {sp : Sp} {ta tb : TE} {fa fb : TTE} {f : FT} (u : UseT F.K F.R sp E f) (ha : TEr F ta fa) (hb : TEr F tb fb) : TEr F (tOp (rAddOwn C sp E) ta tb) (fOpOwn C fa fb f) := fun σ τ S H Q P Ev q k => by
  refine ha σ τ S H _ _ Ev q fun r1 τ1 v1 S1 H1 s1 E1 h1 q1 => ?_
  obtain ⟨a, τ2, S2, s2, E2, rp, q2⟩ := E1.shar h1 q1
  refine hb σ τ2 S2 H1 _ _ E2 q2 fun r3 τ3 v3 S3 H3 s3 E3 h3 q3 => ?_
  obtain ⟨b, τ4, S4, s4, E4, rp', q4⟩ := E3.shar h3 q3
  cases a <;> cases b <;> first | exact (show False from q4).elim | skip
  obtain ⟨rfl, rfl, q4⟩ : _ ∧ _ ∧ _ := q4
  have rpA := Rep.mono (s3.trans s4) rp
  cases rpA with
  | ins h2 e2 r2 => cases rp' with
    | ins h5 e5 r5 =>
      refine ⟨_, _, _, _, _, _, rfl, rfl, E4.sH _ _ h2, E4.sH _ _ h5, ?_⟩
      refine u S4 H3 _ _ _ _ E4.sH E4.res E4.off (.cons (.ins h2 e2 r2) (.cons (.ins h5 e5 r5) .nil)) q4 fun r v S5 H5 A h p => ?_
      exact k r τ4 v S5 H5 (s1.trans (s2.trans (s3.trans (s4.trans A.sS)))) (E4.aft A) (E4.ret A h) p
@[reducible] def fUnOwn (C : Addr) (fa : TTE) (f : FT) : TTE := fun τ P => fa τ fun r1 τ1 => sharR r1 τ1 fun a τ2 => match a with
  | .ins C1 fs => C1 = C ∧ f [.ins C1 fs] fun r => P r τ2
  | _ => False
theorem ter_unOwn {C : Addr} {sp : Sp} {ta : TE} {fa : TTE} {f : FT} (u : UseT F.K F.R sp E f) (ha : TEr F ta fa) : TEr F (tUn (rInvOwn C sp E) ta) (fUnOwn C fa f) := fun σ τ S H Q P Ev q k => by
  refine ha σ τ S H _ _ Ev q fun r1 τ1 v1 S1 H1 s1 E1 h1 q1 => ?_
  obtain ⟨a, τ2, S2, s2, E2, rp, q2⟩ := E1.shar h1 q1
  cases a <;> first | exact (show False from q2).elim | skip
  obtain ⟨rfl, q2⟩ : _ ∧ _ := q2
  cases rp with
  | ins h2 e2 r2 =>
    refine ⟨_, _, _, rfl, E2.sH _ _ h2, ?_⟩
    refine u S2 H1 _ _ _ _ E2.sH E2.res E2.off (.cons (.ins h2 e2 r2) .nil) q2 fun r v S5 H5 A h p => ?_
    exact k r τ2 v S5 H5 (s1.trans (s2.trans A.sS)) (E2.aft A) (E2.ret A h) p
/-- what an own == may meet on its right -/
def rgtT (C : Addr) : Tv → Bool
  | .str _ => true
  | .non => true
  | .int _ => true
  | .bl _ => true
  | .lst _ => true
  | .tup _ => true
  | .ins D _ => decide (D = C)
  | _ => false
theorem rgtT_at {C : Addr} {b : Tv} {y : V} (s : Same S H) (r : Rep K S b y) (h : rgtT C b = true) (nf : ∀ t, (∀ n, t = Value.type n → n = "str" ∨ n = "NoneType" ∨ n = "int" ∨ n = "bool" ∨ n = "list" ∨ n = "tuple") → (∀ D, t = Value.ref D → D = C) → (∃ n, t = Value.type n) ∨ t = .ref C → PySem.W.notFirst K C t = true) : ∃ tb, RgtOf K H C y tb ∧ PySem.W.notFirst K C tb = true := by
  cases r <;> first | cases h | skip
  · exact ⟨_, .non, nf _ (fun n e => by cases e; simp) (fun D e => by cases e) (.inl ⟨_, rfl⟩)⟩
  · exact ⟨_, .bl _, nf _ (fun n e => by cases e; simp) (fun D e => by cases e) (.inl ⟨_, rfl⟩)⟩
  · exact ⟨_, .int _, nf _ (fun n e => by cases e; simp) (fun D e => by cases e) (.inl ⟨_, rfl⟩)⟩
  · exact ⟨_, .str _, nf _ (fun n e => by cases e; simp) (fun D e => by cases e) (.inl ⟨_, rfl⟩)⟩
  · rename_i h1 _
    exact ⟨_, .lst (s _ _ h1), nf _ (fun n e => by cases e; simp) (fun D e => by cases e) (.inl ⟨_, rfl⟩)⟩
  · rename_i h1 _
    exact ⟨_, .tup (s _ _ h1), nf _ (fun n e => by cases e; simp) (fun D e => by cases e) (.inl ⟨_, rfl⟩)⟩
  · rename_i D dx vs fs h1 e1 r1
    have e : D = C := of_decide_eq_true h
    subst e
    exact ⟨_, .ins (s _ _ h1), nf _ (fun n e => by cases e) (fun D e => by cases e; rfl) (.inr rfl)⟩
def NFirst (K : PySem.W.Frag) (C : Addr) : Prop := ∀ t, (∀ n, t = Value.type n → n = "str" ∨ n = "NoneType" ∨ n = "int" ∨ n = "bool" ∨ n = "list" ∨ n = "tuple") → (∀ D, t = Value.ref D → D = C) → (∃ n, t = Value.type n) ∨ t = .ref C → PySem.W.notFirst K C t = true
@[reducible] def fEqOwn (K : PySem.W.Frag) (C : Addr) (neg : Bool) (fa fb : TTE) (f : FT) : TTE := fun τ P => fa τ fun r1 τ1 => sharR r1 τ1 fun a τ2 => fb τ2 fun r2 τ3 => sharR r2 τ3 fun b τ4 => match a with
  | .ins C1 fs => C1 = C ∧ rgtT C b = true ∧ NFirst K C ∧ f [.ins C1 fs, b] fun r => lookR r τ4 fun t => bOf t fun c => P (.val (.bl (if neg then !c else c))) τ4
  | _ => False
theorem ter_eqOwn {C : Addr} {sp : Sp} {ta tb : TE} {fa fb : TTE} {f : FT} (u : UseT F.K F.R sp E f) (ha : TEr F ta fa) (hb : TEr F tb fb) : TEr F (tOp (rEqOwn F.K C sp E) ta tb) (fEqOwn F.K C false fa fb f) := fun σ τ S H Q P Ev q k => by
  refine ha σ τ S H _ _ Ev q fun r1 τ1 v1 S1 H1 s1 E1 h1 q1 => ?_
  obtain ⟨a, τ2, S2, s2, E2, rp, q2⟩ := E1.shar h1 q1
  refine hb σ τ2 S2 H1 _ _ E2 q2 fun r3 τ3 v3 S3 H3 s3 E3 h3 q3 => ?_
  obtain ⟨b, τ4, S4, s4, E4, rp', q4⟩ := E3.shar h3 q3
  cases a <;> first | exact (show False from q4).elim | skip
  obtain ⟨rfl, rg, nf, q4⟩ : _ ∧ _ ∧ _ ∧ _ := q4
  obtain ⟨tb, g1, g2⟩ := rgtT_at E4.sH rp' rg nf
  have rpA := Rep.mono (s3.trans s4) rp
  cases rpA with
  | ins h2 e2 r2 =>
    refine ⟨_, _, _, tb, rfl, E4.sH _ _ h2, g1, g2, ?_⟩
    refine u S4 H3 _ _ _ _ E4.sH E4.res E4.off (.cons (.ins h2 e2 r2) (.cons rp' .nil)) q4 fun r v S5 H5 A h p => ?_
    have E5 := E4.aft A
    obtain ⟨t, la, p⟩ := E5.look (E4.ret A h) p
    cases t <;> first | exact p.elim | skip
    rw [la.tV rfl]
    exact k (.val (.bl _)) τ4 _ S5 H5 (s1.trans (s2.trans (s3.trans (s4.trans A.sS)))) E5 (Rep.bl _) p
theorem ter_neOwn {C : Addr} {sp : Sp} {ta tb : TE} {fa fb : TTE} {f : FT} (u : UseT F.K F.R sp E f) (ha : TEr F ta fa) (hb : TEr F tb fb) : TEr F (tOp (rNeOwn F.K C sp E) ta tb) (fEqOwn F.K C true fa fb f) := fun σ τ S H Q P Ev q k => by
  refine ha σ τ S H _ _ Ev q fun r1 τ1 v1 S1 H1 s1 E1 h1 q1 => ?_
  obtain ⟨a, τ2, S2, s2, E2, rp, q2⟩ := E1.shar h1 q1
  refine hb σ τ2 S2 H1 _ _ E2 q2 fun r3 τ3 v3 S3 H3 s3 E3 h3 q3 => ?_
  obtain ⟨b, τ4, S4, s4, E4, rp', q4⟩ := E3.shar h3 q3
  cases a <;> first | exact (show False from q4).elim | skip
  obtain ⟨rfl, rg, nf, q4⟩ : _ ∧ _ ∧ _ ∧ _ := q4
  obtain ⟨tb, g1, g2⟩ := rgtT_at E4.sH rp' rg nf
  have rpA := Rep.mono (s3.trans s4) rp
  cases rpA with
  | ins h2 e2 r2 =>
    refine ⟨_, _, _, tb, rfl, E4.sH _ _ h2, g1, g2, ?_⟩
    refine u S4 H3 _ _ _ _ E4.sH E4.res E4.off (.cons (.ins h2 e2 r2) (.cons rp' .nil)) q4 fun r v S5 H5 A h p => ?_
    have E5 := E4.aft A
    obtain ⟨t, la, p⟩ := E5.look (E4.ret A h) p
    cases t <;> first | exact p.elim | skip
    exact ⟨_, la.tV rfl, k (.val (.bl _)) τ4 _ S5 H5 (s1.trans (s2.trans (s3.trans (s4.trans A.sS)))) E5 (Rep.bl _) p⟩
/-- str(x), len(x) of an own one -/
@[reducible] def fStrOwn (C : Addr) (fa : TTE) (f : FT) : TTE := fun τ P => fa τ fun r1 τ1 => sharR r1 τ1 fun a τ2 => match a with
  | .ins C1 fs => C1 = C ∧ f [.ins C1 fs] fun r => lookR r τ2 fun t => s1 t fun z => P (.val (.str z)) τ2
  | _ => False
theorem ter_strOwn {C : Addr} {sp : Sp} {ta : TE} {fa : TTE} {f : FT} (u : UseT F.K F.R sp E f) (ha : TEr F ta fa) : TEr F (tCB (rStrOwn C sp E) (tCons ta tNil)) (fStrOwn C fa f) := fun σ τ S H Q P Ev q k => by
  refine ha σ τ S H _ _ Ev q fun r1 τ1 v1 S1 H1 s1 E1 h1 q1 => ?_
  obtain ⟨a, τ2, S2, s2, E2, rp, q2⟩ := E1.shar h1 q1
  cases a <;> first | exact (show False from q2).elim | skip
  obtain ⟨rfl, q2⟩ : _ ∧ _ := q2
  cases rp with
  | ins h2 e2 r2 =>
    refine ⟨_, _, _, rfl, E2.sH _ _ h2, ?_⟩
    refine u S2 H1 _ _ _ _ E2.sH E2.res E2.off (.cons (.ins h2 e2 r2) .nil) q2 fun r v S5 H5 A h p => ?_
    have E5 := E2.aft A
    obtain ⟨t, la, p⟩ := E5.look (E2.ret A h) p
    obtain ⟨z, rfl, p⟩ := s1_at p
    obtain rfl : v = _ := la.tV rfl
    exact ⟨z, rfl, k (.val (.str z)) τ2 _ S5 H5 (s1.trans (s2.trans A.sS)) E5 (Rep.str z) p⟩
@[reducible] def fLenOwn (C : Addr) (fa : TTE) (f : FT) : TTE := fun τ P => fa τ fun r1 τ1 => sharR r1 τ1 fun a τ2 => match a with
  | .ins C1 fs => C1 = C ∧ f [.ins C1 fs] fun r => lookR r τ2 fun t => i1 t fun i => 0 ≤ i ∧ i < 1000000 ∧ P (.val (.int i)) τ2
  | _ => False
theorem ter_lenOwn {C : Addr} {sp : Sp} {ta : TE} {fa : TTE} {f : FT} (u : UseT F.K F.R sp E f) (ha : TEr F ta fa) : TEr F (tCB (rLenOwn C sp E) (tCons ta tNil)) (fLenOwn C fa f) := fun σ τ S H Q P Ev q k => by
  refine ha σ τ S H _ _ Ev q fun r1 τ1 v1 S1 H1 s1 E1 h1 q1 => ?_
  obtain ⟨a, τ2, S2, s2, E2, rp, q2⟩ := E1.shar h1 q1
  cases a <;> first | exact (show False from q2).elim | skip
  obtain ⟨rfl, q2⟩ : _ ∧ _ := q2
  cases rp with
  | ins h2 e2 r2 =>
    refine ⟨_, _, _, rfl, E2.sH _ _ h2, ?_⟩
    refine u S2 H1 _ _ _ _ E2.sH E2.res E2.off (.cons (.ins h2 e2 r2) .nil) q2 fun r v S5 H5 A h p => ?_
    have E5 := E2.aft A
    obtain ⟨t, la, p⟩ := E5.look (E2.ret A h) p
    obtain ⟨i, rfl, b1, b2, p⟩ := i1_at p
    exact ⟨i, la.tV rfl, b1, b2, k (.val (.int i)) τ2 _ S5 H5 (s1.trans (s2.trans A.sS)) E5 (Rep.int i) p⟩
/-! ### written dicts; sets sorted -/
def kdT (K : PySem.W.Frag) : Tv → Tv → (Bool → Prop) → Prop
  | .str z, .adr d, k => getK (PySem.W.nsIn K d z) fun r => k r.isSome
  | _, _, _ => False
theorem opt_kdin : OpT K (fun x y H Q => ∃ (z : Str) (r : Option Value) (d : Addr), x = .str z ∧ y = .ref d ∧ PySem.W.nsIn K d z = some r ∧ Q (.bl r.isSome) H) (fun a b P => kdT K a b fun c => P (.val (.bl c))) := by
  intro S H x y a b Q P s la lb h k
  cases a <;> cases b <;> first | exact h.elim | skip
  obtain ⟨r, e, q⟩ := getK_at h
  exact ⟨_, r, _, la.tV rfl, lb.tV rfl, e, k (.val (.bl _)) _ _ (.inl ⟨rfl, .bl _⟩) q⟩
def kdK (K : PySem.W.Frag) (d : Addr) : Tv → Tv → (Bool → Prop) → Prop
  | .str z, .adr d', k => d' = d ∧ getK (PySem.W.nsIn K d z) fun r => k r.isSome
  | _, _, _ => False
theorem opt_kd {d : Addr} : OpT K (fun x y H Q => ∃ (z : Str) (r : Option Value), x = .str z ∧ y = .ref d ∧ PySem.W.nsIn K d z = some r ∧ Q (.bl r.isSome) H) (fun a b P => kdK K d a b fun c => P (.val (.bl c))) := by
  intro S H x y a b Q P s la lb h k
  cases a <;> cases b <;> first | exact h.elim | skip
  obtain ⟨rfl, h⟩ : _ ∧ _ := h
  obtain ⟨r, e, q⟩ := getK_at h
  exact ⟨_, r, la.tV rfl, lb.tV rfl, e, k (.val (.bl _)) _ _ (.inl ⟨rfl, .bl _⟩) q⟩
theorem opt_notkd {d : Addr} : OpT K (fun x y H Q => ∃ (z : Str) (r : Option Value), x = .str z ∧ y = .ref d ∧ PySem.W.nsIn K d z = some r ∧ Q (.bl (!r.isSome)) H) (fun a b P => kdK K d a b fun c => P (.val (.bl (!c)))) := by
  intro S H x y a b Q P s la lb h k
  cases a <;> cases b <;> first | exact h.elim | skip
  obtain ⟨rfl, h⟩ : _ ∧ _ := h
  obtain ⟨r, e, q⟩ := getK_at h
  exact ⟨_, r, la.tV rfl, lb.tV rfl, e, k (.val (.bl _)) _ _ (.inl ⟨rfl, .bl _⟩) q⟩
@[reducible] def fSortB (fa : TTE) : TTE := fun τ P => fa τ fun r τ1 => lookR r τ1 fun t => lstK t fun ts => getK (strsT ts) fun xs => xs.length ≤ 4000 ∧ (∃ ds : List Str, (∀ x ∈ xs, x ∈ ds) ∧ ds.length < 64) ∧ ∀ ys, Asc ys xs → P (.own (.lst (ys.map Tv.str))) τ1
theorem ter_sortB {w : World} {ta : TE} {fa : TTE} (ha : TEr F ta fa) : TEr F (tCB (rSortT w) (tCons (tCB (rSetB F.K w) (tCons ta tNil)) tNil)) (fSortB fa) := fun σ τ S H Q P Ev q k => by
  refine ha σ τ S H _ _ Ev q fun r1 τ1 v1 S1 H1 s1 E1 h1 q1 => ?_
  obtain ⟨t, la, q2⟩ := E1.look h1 q1
  obtain ⟨ts, rfl, q2⟩ := lstK_at q2
  obtain ⟨xs, e, b1, ⟨ds, hds, hd64⟩, q2⟩ := getK_at q2
  obtain ⟨p, vs, rfl, h2, h3⟩ := la.lst E1.sH
  have := strsT_at h3 e
  subst this
  refine ⟨p, xs, rfl, .of h2, b1, fun o ks nd hk ho => ?_⟩
  have kl : ks.length < 64 := Nat.lt_of_le_of_lt (few_len nd fun x hx => hds x ((hk x).mp hx)) hd64
  refine ⟨o, _, _, rfl, upd_same, kl, fun ys o2 up nd2 hm hl2 ho2 => ?_⟩
  have E2 := (E1.alloc_own (SetT w o (fun k => decide (k ∈ xs)) ks.length) ho)
  exact k (.own (.lst (ys.map Tv.str))) τ1 _ S1 _ s1 (E2.alloc_own (.lst (ys.map V.str)) ho2) ⟨o2, rfl, E2.mine ho2, .lst upd_same (reps_strs ys), E2.apart ho2⟩ (q2 ys ⟨up, nd2, fun z => by rw [hm z, decide_eq_true_eq]⟩)
@[reducible] def fSortL (fa : TTE) : TTE := fun τ P => fa τ fun r τ1 => lookR r τ1 fun t => lstK t fun ts => getK (strsT ts) fun xs => xs.length ≤ 63 ∧ ∀ ys, Asc ys xs → P (.own (.lst (ys.map Tv.str))) τ1
theorem ter_sortL {w : World} {ta : TE} {fa : TTE} (ha : TEr F ta fa) : TEr F (tCB (rSortT w) (tCons (tCB (rSetL F.K w) (tCons ta tNil)) tNil)) (fSortL fa) := fun σ τ S H Q P Ev q k => by
  refine ha σ τ S H _ _ Ev q fun r1 τ1 v1 S1 H1 s1 E1 h1 q1 => ?_
  obtain ⟨t, la, q2⟩ := E1.look h1 q1
  obtain ⟨ts, rfl, q2⟩ := lstK_at q2
  obtain ⟨xs, e, b1, q2⟩ := getK_at q2
  obtain ⟨p, vs, rfl, h2, h3⟩ := la.lst E1.sH
  have := strsT_at h3 e
  subst this
  refine ⟨p, xs, rfl, .of h2, b1, fun o n hn ho => ?_⟩
  refine ⟨o, _, _, rfl, upd_same, by omega, fun ys o2 up nd2 hm hl2 ho2 => ?_⟩
  have E2 := (E1.alloc_own (SetT w o (fun k => decide (k ∈ xs)) n) ho)
  exact k (.own (.lst (ys.map Tv.str))) τ1 _ S1 _ s1 (E2.alloc_own (.lst (ys.map V.str)) ho2) ⟨o2, rfl, E2.mine ho2, .lst upd_same (reps_strs ys), E2.apart ho2⟩ (q2 ys ⟨up, nd2, fun z => by rw [hm z, decide_eq_true_eq]⟩)
/-! ### a op1 b op2 c -/
theorem ter_chain {r r' : R2} {ta tb tc : TE} {fa fb fc : TTE} {g g' : Tv → Tv → (Rv → Prop) → Prop} (o : OpT F.K r g) (o' : OpT F.K r' g') (ha : TEr F ta fa) (hb : TEr F tb fb) (hc : TEr F tc fc) : TEr F (tChain r r' ta tb tc) (fChain fa fb fc g g') := fun σ τ S H Q P E f k => by
  refine ha σ τ S H _ _ E f fun r1 τ1 v1 S1 H1 s1 E1 h1 q1 => ?_
  obtain ⟨r1', S2, s2, E2, p1, q2⟩ := E1.prep h1 q1
  refine hb σ τ1 S2 H1 _ _ E2 q2 fun r2 τ2 v2 S3 H3 s3 E3 h3 q3 => ?_
  obtain ⟨a, la, q4⟩ := E3.lookP p1 s3 q3
  obtain ⟨r2', S4, s4, E4, p2, q4⟩ := E3.prep h3 q4
  obtain ⟨b, lb, q5⟩ := E4.lookP p2 (Same.refl S4) q4
  have la4 : Lk F.K S4 H3 a v1 := by
    rcases la with la | ⟨p, e, ow⟩
    · exact .inl (la.mono s4)
    · exact .inr ⟨p, e, ow.mono s4 fun _ e => e⟩
  refine o S4 H3 v1 v2 a b _ _ E4.sH la4 lb q5 fun rv v H' hr hp => ?_
  obtain ⟨S5, s5, E5, h5⟩ := E4.res' hr
  obtain ⟨t, lt, hp⟩ := E5.look h5 hp
  cases t <;> first | exact hp.elim | skip
  rename_i x
  refine ⟨x, lt.tV rfl, ?_⟩
  cases x with
  | false => exact k (.val (.bl false)) τ2 _ S5 H' (s1.trans (s2.trans (s3.trans (s4.trans s5)))) E5 (Rep.bl _) hp
  | true =>
    rw [if_pos rfl]
    refine hc σ τ2 S5 H' _ _ E5 hp fun r3 τ3 v3 S6 H6 s6 E6 h6 q6 => ?_
    obtain ⟨b', lb', q6⟩ := E6.lookP p2 (s5.trans s6) q6
    obtain ⟨c, lc, q6⟩ := E6.look h6 q6
    refine o' S6 H6 v2 v3 b' c _ _ E6.sH lb' lc q6 fun rv v H7 hr hp => ?_
    obtain ⟨S7, s7, E7, h7⟩ := E6.res' hr
    exact k rv τ3 v S7 H7 (s1.trans (s2.trans (s3.trans (s4.trans (s5.trans (s6.trans s7)))))) E7 h7 hp
/-! ### try, where nothing is raised -/
theorem ExOk.calm (h : ∀ τ C g t, ¬ F.R.X τ C g t) : ExOk F := exok_calm h
theorem EvR.reR (E : EvR F σ τ S H) (R' : Rs) (hM : R'.M = F.R.M) (hI : R'.I = F.R.I) (ex : ExOk ⟨F.K, R', F.H0, F.S0⟩) : EvR ⟨F.K, R', F.H0, F.S0⟩ σ τ S H :=
  ⟨⟨E.s0, E.sH, by show ∀ b o, F.H0 b = some o → ¬ R'.M b → _; rw [hM]; exact E.fr, E.nw, by show R'.I S H; rw [hI]; exact E.res, by show ∀ b, R'.M b → _; rw [hM]; exact E.off, E.len, fun i s h => by
      obtain ⟨v, h1, h2⟩ := E.sl i s h
      refine ⟨v, h1, ?_⟩
      have mi : ∀ {a}, Mine F S a → Mine ⟨F.K, R', F.H0, F.S0⟩ S a := fun {a} m => ⟨m.1, m.2.1, by show ¬ R'.M a; rw [hM]; exact m.2.2⟩
      cases s with
      | val t => exact h2
      | own t => obtain ⟨a, e, m, ow⟩ := h2; exact ⟨a, e, mi m, ow⟩
      | slf a t => obtain ⟨e, m, ow⟩ := h2; exact ⟨e, mi m, ow⟩, E.dj⟩, ex⟩
theorem RvOk.reR {r : Rv} {v : V} (h : RvOk F σ τ S H r v) (R' : Rs) (hM : R'.M = F.R.M) : RvOk ⟨F.K, R', F.H0, F.S0⟩ σ τ S H r v := by
  cases r with
  | val t => exact h
  | own t => obtain ⟨a, e, m, ow, ap⟩ := h; exact ⟨a, e, ⟨m.1, m.2.1, by show ¬ R'.M a; rw [hM]; exact m.2.2⟩, ow, ap⟩
  | brw i => exact h
theorem tsr_tryC {tb : WX → TS} {W : Ends → WX} {g : TTS} (hb : ∀ W : WX, TSr ⟨F.K, F.R.ex (fun σ cls d H => W cls d σ H) (fun _ _ _ _ => False), F.H0, F.S0⟩ (tb W) g) : TSr F (fun D σ H => tb (W D) D σ H) g := fun σ τ S H D DD E q e => by
  refine hb (W D) σ τ S H D DD (E.reR _ rfl rfl (exok_calm fun _ _ _ _ z => z)) q ⟨fun σ1 τ1 S1 H1 s1 E1 => e.nx σ1 τ1 S1 H1 s1 (E1.reR F.R rfl rfl E.ex), fun σ1 τ1 S1 H1 r v s1 E1 hr => e.rt σ1 τ1 S1 H1 r v s1 (E1.reR F.R rfl rfl E.ex) (hr.reR F.R rfl), fun σ1 τ1 S1 H1 s1 E1 => e.bk σ1 τ1 S1 H1 s1 (E1.reR F.R rfl rfl E.ex), fun σ1 τ1 S1 H1 s1 E1 => e.ct σ1 τ1 S1 H1 s1 (E1.reR F.R rfl rfl E.ex)⟩
/-- raise X(e) -/
def gRaise (X : Ev → XP) (C : Addr) (g : Str) (f : TTE) : TTS := fun τ _ => f τ fun r τ1 => sharR r τ1 fun t τ2 => X τ2 C g t
theorem tsr_raiseG {C : Addr} {g : Str} {W : WX} {te : TE} {fe : TTE} (hW : ∀ σ cls d H, F.R.E σ cls d H → W cls d σ H) (h : TEr F te fe) : TSr F (fun _ σ H => tCons te tNil σ H fun vs H1 => ∃ v, vs = [v] ∧ ∀ d, H1 d = none → W (.ref C) (some d) σ (upd H1 d (.xd [(g, v)]))) (gRaise F.R.X C g fe) := fun σ τ S H D DD E q e => by
  refine h σ τ S H _ _ E q fun r τ1 v S1 H1 s1 E1 h1 q1 => ?_
  obtain ⟨t, τ2, S2, s2, E2, rp, q2⟩ := E1.shar h1 q1
  exact ⟨v, rfl, fun d hd => hW _ _ _ _ (E2.ex σ τ2 S2 H1 C d g v t E2.toEvR0 hd rp q2)⟩
theorem use_scal {g : FT} {sp : Sp} {E : XK} (h : ∀ S H ts vs Q (P : Rv → Prop), Reps K S ts vs → Same S H → g ts P → (∀ t v H', Same H H' → Rep K S t v → P (.val t) → Q v H') → sp vs H Q E) : UseT K R sp E g := fun S H ts vs Q P s i o r q k =>
  h S H ts vs Q P r s q fun t v H' s' rp p => by
    have hm : ∀ b, R.M b → H' b = H b := fun b m => by
      obtain ⟨u, e⟩ := R.alloc i m
      rw [e]
      exact s' b u e
    exact k (.val t) v S H' ⟨Same.refl S, s.trans s', fun b u e _ => s' b u e, fun b hb => .inl hb, R.mono (Same.refl S) hm i, o⟩ rp p
end
end L2.Wk
namespace L2.Wk
open PySem PySem.Spec PyProof.Rows
/-! ### the same for every frame (made by mkq.py) -/

section
variable {K : PySem.W.Frag} {R : Rs}
theorem q_ter_callX {E : XK} {f : FTX} {sp : Sp} {dvs : List V} {dts : List Tv} {ta : TA} {g : TTA} (hE : ∀ σ, R.E σ = E) (u : UseX K R sp E f) (hd : ∀ S, Reps K S dts dvs) (ha : TArq K R ta g) : TErq K R (tCall sp dvs E ta) (fCallX R.X g dts f) := fun H0 S0 => ter_callX (F := ⟨K, R, H0, S0⟩) hE u hd (ha H0 S0)
theorem q_ter_makeX {E : XK} {C : Addr} {sp : Sp} {dvs : List V} {dts : List Tv} {ta : TA} {g : TTA} {f : FIX} (hE : ∀ σ, R.E σ = E) (u : UseIX K R C sp E f) (hd : ∀ S, Reps K S dts dvs) (ha : TArq K R ta g) : TErq K R (tMake C sp dvs E ta) (fMakeX R.X C g dts f) := fun H0 S0 => ter_makeX (F := ⟨K, R, H0, S0⟩) hE u hd (ha H0 S0)
theorem q_ter_makeS {C : Addr} {sp : Sp} {dvs : List V} {dts : List Tv} {ta : TA} {g : TTA} {f : FIX} {E : L2.St → XK} (hE : R.E = E) (u : ∀ σ, UseIX K R C sp (E σ) f) (hd : ∀ S, Reps K S dts dvs) (ha : TArq K R ta g) : TErq K R (tMakeS C sp dvs E ta) (fMakeX R.X C g dts f) := fun H0 S0 => ter_makeS (F := ⟨K, R, H0, S0⟩) hE u hd (ha H0 S0)
theorem q_ter_cmeth {E : XK} {C : Addr} {sp : Sp} {te : TE} {ta : TA} {fo : TTE} {g : TTA} {f : FT} (u : UseT K R sp E f) (ho : TErq K R te fo) (ha : TArq K R ta g) : TErq K R (ClX.tCMeth C sp E te ta) (fCMeth C fo g f) := fun H0 S0 => ter_cmeth (F := ⟨K, R, H0, S0⟩) u (ho H0 S0) (ha H0 S0)
theorem q_ter_cmethS {C : Addr} {sp : Sp} {te : TE} {ta : TA} {fo : TTE} {g : TTA} {f : FTX} {E : L2.St → XK} (hE : R.E = E) (u : ∀ σ, UseX K R sp (E σ) f) (ho : TErq K R te fo) (ha : TArq K R ta g) : TErq K R (tCMethS C sp E te ta) (fCMethX R.X C fo g f) := fun H0 S0 => ter_cmethS (F := ⟨K, R, H0, S0⟩) hE u (ho H0 S0) (ha H0 S0)
theorem q_ter_cmethX {E : XK} {C : Addr} {sp : Sp} {te : TE} {ta : TA} {fo : TTE} {g : TTA} {f : FTX} (hE : ∀ σ, R.E σ = E) (u : UseX K R sp E f) (ho : TErq K R te fo) (ha : TArq K R ta g) : TErq K R (ClX.tCMeth C sp E te ta) (fCMethX R.X C fo g f) := fun H0 S0 => ter_cmethX (F := ⟨K, R, H0, S0⟩) hE u (ho H0 S0) (ha H0 S0)
theorem q_ter_makeL {i : Nat} {C : Addr} {sp : Sp} {dvs : List V} {dts : List Tv} {ta : TA} {g : TTA} {f : FI} {E : L2.St → XK} (u : ∀ σ, UseI K R C sp (E σ) f) (hd : ∀ S, Reps K S dts dvs) (ha : TArq K R ta g) : TErq K R (tMakeL i C sp dvs E ta) (fMakeL i C g dts f) := fun H0 S0 => ter_makeL (F := ⟨K, R, H0, S0⟩) u hd (ha H0 S0)
theorem q_ter_makeLX {i : Nat} {C : Addr} {sp : Sp} {dvs : List V} {dts : List Tv} {ta : TA} {g : TTA} {f : FIX} {E : L2.St → XK} (hE : R.E = E) (u : ∀ σ, UseIX K R C sp (E σ) f) (hd : ∀ S, Reps K S dts dvs) (ha : TArq K R ta g) : TErq K R (tMakeL i C sp dvs E ta) (fMakeLX R.X i C g dts f) := fun H0 S0 => ter_makeLX (F := ⟨K, R, H0, S0⟩) hE u hd (ha H0 S0)
theorem q_ter_prop {E : XK} {C : Addr} {sp : Sp} {te : TE} {fo : TTE} {f : FT} (u : UseT K R sp E f) (ho : TErq K R te fo) : TErq K R (tProp C sp [] E te) (fProp C fo f) := fun H0 S0 => ter_prop (F := ⟨K, R, H0, S0⟩) u (ho H0 S0)
theorem q_ter_opOwn {E : XK} {C : Addr} {sp : Sp} {ta tb : TE} {fa fb : TTE} {f : FT} (u : UseT K R sp E f) (ha : TErq K R ta fa) (hb : TErq K R tb fb) : TErq K R (tOp (rAddOwn C sp E) ta tb) (fOpOwn C fa fb f) := fun H0 S0 => ter_opOwn (F := ⟨K, R, H0, S0⟩) u (ha H0 S0) (hb H0 S0)
theorem q_ter_unOwn {E : XK} {C : Addr} {sp : Sp} {ta : TE} {fa : TTE} {f : FT} (u : UseT K R sp E f) (ha : TErq K R ta fa) : TErq K R (tUn (rInvOwn C sp E) ta) (fUnOwn C fa f) := fun H0 S0 => ter_unOwn (F := ⟨K, R, H0, S0⟩) u (ha H0 S0)
theorem q_ter_eqOwn {E : XK} {C : Addr} {sp : Sp} {ta tb : TE} {fa fb : TTE} {f : FT} (u : UseT K R sp E f) (ha : TErq K R ta fa) (hb : TErq K R tb fb) : TErq K R (tOp (rEqOwn K C sp E) ta tb) (fEqOwn K C false fa fb f) := fun H0 S0 => ter_eqOwn (F := ⟨K, R, H0, S0⟩) u (ha H0 S0) (hb H0 S0)
theorem q_ter_neOwn {E : XK} {C : Addr} {sp : Sp} {ta tb : TE} {fa fb : TTE} {f : FT} (u : UseT K R sp E f) (ha : TErq K R ta fa) (hb : TErq K R tb fb) : TErq K R (tOp (rNeOwn K C sp E) ta tb) (fEqOwn K C true fa fb f) := fun H0 S0 => ter_neOwn (F := ⟨K, R, H0, S0⟩) u (ha H0 S0) (hb H0 S0)
theorem q_ter_strOwn {E : XK} {C : Addr} {sp : Sp} {ta : TE} {fa : TTE} {f : FT} (u : UseT K R sp E f) (ha : TErq K R ta fa) : TErq K R (tCB (rStrOwn C sp E) (tCons ta tNil)) (fStrOwn C fa f) := fun H0 S0 => ter_strOwn (F := ⟨K, R, H0, S0⟩) u (ha H0 S0)
theorem q_ter_lenOwn {E : XK} {C : Addr} {sp : Sp} {ta : TE} {fa : TTE} {f : FT} (u : UseT K R sp E f) (ha : TErq K R ta fa) : TErq K R (tCB (rLenOwn C sp E) (tCons ta tNil)) (fLenOwn C fa f) := fun H0 S0 => ter_lenOwn (F := ⟨K, R, H0, S0⟩) u (ha H0 S0)
theorem q_ter_sortB {w : World} {ta : TE} {fa : TTE} (ha : TErq K R ta fa) : TErq K R (tCB (rSortT w) (tCons (tCB (rSetB K w) (tCons ta tNil)) tNil)) (fSortB fa) := fun H0 S0 => ter_sortB (F := ⟨K, R, H0, S0⟩) (ha H0 S0)
theorem q_ter_sortL {w : World} {ta : TE} {fa : TTE} (ha : TErq K R ta fa) : TErq K R (tCB (rSortT w) (tCons (tCB (rSetL K w) (tCons ta tNil)) tNil)) (fSortL fa) := fun H0 S0 => ter_sortL (F := ⟨K, R, H0, S0⟩) (ha H0 S0)
theorem q_ter_chain {r r' : R2} {ta tb tc : TE} {fa fb fc : TTE} {g g' : Tv → Tv → (Rv → Prop) → Prop} (o : OpT K r g) (o' : OpT K r' g') (ha : TErq K R ta fa) (hb : TErq K R tb fb) (hc : TErq K R tc fc) : TErq K R (tChain r r' ta tb tc) (fChain fa fb fc g g') := fun H0 S0 => ter_chain (F := ⟨K, R, H0, S0⟩) o o' (ha H0 S0) (hb H0 S0) (hc H0 S0)
theorem q_tsr_raiseG {E : XK} {C : Addr} {g : Str} {W : WX} {te : TE} {fe : TTE} (hW : ∀ σ cls d H, R.E σ cls d H → W cls d σ H) (h : TErq K R te fe) : TSrq K R (fun _ σ H => tCons te tNil σ H fun vs H1 => ∃ v, vs = [v] ∧ ∀ d, H1 d = none → W (.ref C) (some d) σ (upd H1 d (.xd [(g, v)]))) (gRaise R.X C g fe) := fun H0 S0 => tsr_raiseG (F := ⟨K, R, H0, S0⟩) hW (h H0 S0)
theorem q_tsr_tryC {tb : WX → TS} {W : Ends → WX} {g : TTS} (hb : ∀ W : WX, TSrq K (R.ex (fun σ cls d H => W cls d σ H) (fun _ _ _ _ => False)) (tb W) g) : TSrq K R (fun D σ H => tb (W D) D σ H) g := fun H0 S0 => tsr_tryC (F := ⟨K, R, H0, S0⟩) fun W => hb W H0 S0
/-- a def that may raise, from its body -/
theorem fn_treeX {S H : Hp} {vs : List V} {ts : List Tv} {N : List Str} {t : TS} {g : TTS} {Q : VK} {P : Rv → Prop} {E : XK} {X : XP} (h : TSrq K (R.ex (fun _ => E) fun _ => X) t g) (sS : Same S H) (i : R.I S H) (o : ∀ b, R.M b → S b = none) (rs : Reps K S ts vs)
    (k : ∀ r v S' H', Aft R S H S' H' → RetOk K H S' H' r v → P r → Q v H') (e : ErrOut K R S H E X) (q : g (startT N.length ts) { nx := fun _ => P (.val .non), rt := retR P }) :
    t { nx := fun _ H' => Q .non H', rt := Q } (start N vs) H :=
  fn_tree (R := R.ex (fun _ => E) fun _ => X) (fun σ τ S' H' C d g v u Ev hd r x => e C g u d v S' H' ⟨Ev.s0, Ev.sH, Ev.fr, Ev.nw, Ev.res, Ev.off⟩ hd r x) (h H S) sS i o rs (fun r v S' H' A => k r v S' H' (A.to rfl rfl)) q
theorem fn_initX {S H : Hp} {vs : List V} {ts : List Tv} {C : Addr} {N : List Str} {t : TS} {g : TTS} {Q : VK} {P : List (Str × Tv) → Prop} {x dx : Addr} {E : XK} {X : XP} (h : TSrq K (R.ex (fun _ => E) fun _ => X) t g) (sS : Same S H) (i : R.I S H) (o : ∀ b, R.M b → S b = none) (hx : H x = none) (hdx : H dx = none) (ne : dx ≠ x) (rs : Reps K S ts vs)
    (k : ∀ fs S' H', Aft R S H S' H' → S' x = none → OwnAt K S' H' x (.ins C fs) → P fs → Q .non H') (e : ErrOut K R S H E X)
    (q : g (some (.slf x (.ins C [])) :: startT (N.length - 1) ts) { nx := fun τ => slfK τ 0 fun a C' fs => a = x ∧ C' = C ∧ P fs, rt := fun _ _ => False }) (hN : N ≠ []) :
    t { nx := fun _ H' => Q .non H', rt := Q } (start N (.ref x :: vs)) (upd (upd H dx (.own x)) x (.ins C dx [])) :=
  fn_init (R := R.ex (fun _ => E) fun _ => X) (fun σ τ S' H' C d g v u Ev hd r x => e C g u d v S' H' ⟨Ev.s0, Ev.sH, Ev.fr, Ev.nw, Ev.res, Ev.off⟩ hd r x) (h H S) sS i o hx hdx ne rs (fun fs S' H' A => k fs S' H' (A.to rfl rfl)) q hN
theorem spTX_len {f : FTX} {ps : List Str} (h : ∀ ts P X, f ts P X → ts.length = ps.length) : ∀ vs H Q (E : XK), spTX K R f vs H Q E → vs.length = ps.length := fun vs H Q E ⟨S, ts, P, X, _, _, _, rs, hf, _⟩ => by
  rw [← rs.len]
  exact h ts P X hf
theorem spIX_len {C : Addr} {f : FIX} {ps : List Str} (h : ∀ ts P X, f ts P X → ts.length + 1 = ps.length) : ∀ vs H Q (E : XK), spIX K R C f vs H Q E → vs.length = ps.length := fun vs H Q E ⟨S, H1, x, dx, ts, ws, P, X, e, _, _, _, _, _, _, _, rs, hf, _⟩ => by
  rw [e, List.length_cons, ← rs.len]
  exact h ts P X hf
end
end L2.Wk
namespace L2.Wk
open PySem PySem.Spec PyProof.Rows
/-! ### repr of lists and tuples: where no repr is under way -/
/-- a def's promise to such callers -/
structure FnG (P : Program) (w : World) (K : PySem.W.Frag) (mg : Str → Option Value) (bs : Heap) (CX : CXT) (k : Nat) (f : Addr) (fd : FuncData) (ps : List Str) (sp : Sp) : Prop where
  size : ∀ xs Hx R Ex, sp xs Hx R Ex → xs.length = ps.length
  go : ∀ (A : Around) (oS : List Env) (sh : Shared) (Hx : Hp) (ar : Args) (us : List Value) (xs : List V) (R : VK) (Ex : XK), A.guards = some [] → Room k A → Env0 P w K mg bs A oS sh Hx → BindsTo sh fd ar (ps.zip us) → Vals xs us → sp xs Hx R Ex →
    codeAny (model P w) A (.call (.ref f) ar) (CR CX oS P w Hx sh R Ex) sh
theorem fnG_of {CX : CXT} {P : Program} {w : World} {K : PySem.W.Frag} {mg : Str → Option Value} {bs : Heap} {k : Nat} {f : Addr} {nm ql : Str} {pr : Arguments} {bd : List Stmt} {sc : Scope} {dV kV dc pm cv ct oc : Value} {an od : Option Addr}
    {os : Array (Option Value)} {N ps : List Str} {sp : Sp} (at_ : K.lookup f = some ⟨oc, od, .func (PySem.W.fnOf nm ql pr bd sc dV kV dc pm an cv ct), os⟩) (cd : PySem.W.codeIn K cv ql = true) (S : FnScope N ps sc)
    (size : ∀ xs Hx R Ex, sp xs Hx R Ex → xs.length = ps.length)
    (body : ∀ (A : Around) (oS : List Env) (sh : Shared) (Hx : Hp) (xs : List V) (R : VK) (Ex : XK), A.guards = some [] → Room k (A.deeper (envOfC ql sc sh.heap.objs.size f cv)) → sp xs Hx R Ex →
      ∃ t, PSs (cxOf CX P w K mg bs N ql sc f cv A oS sh Hx Ex) bd t ∧ t { nx := fun _ H' => R .non H', rt := R } (start N xs) Hx) :
    FnG P w K mg bs CX (k + 1) f (PySem.W.fnOf nm ql pr bd sc dV kV dc pm an cv ct) ps sp where
  size := size
  go := by
    intro A oS sh Hx ar us xs R Ex gA rm en bnd vl hs
    have inK := en.mod.kin.keeps fun b o e => (en.bs b o e).1
    have noL := en.mod.nolimit.keeps fun b o e => (en.bs b o e).1
    have sort : ∀ y ∈ ps.zip us, sc.names.lookup y.1 = some .local ∨ (sc.names.lookup y.1 = some .cell ∧ ((cellsFrom (sh.heap.objs.size + 1) sc.names []).lookup y.1).isSome = true) := by
      rintro ⟨n, v⟩ hy
      rcases S.par n (List.of_mem_zip hy).1 with q | q
      · exact .inl q
      · exact .inr ⟨q, PySem.W.cellsFrom_some _ _ _ (.inl q)⟩
    refine codeAny_call_function rm.depth (inK _ _ at_) rfl S.co S.gen rfl (PySem.W.codeRec_of inK cd) (bnd _ _ _ _ (wpAny_newFunctionEnv_cells S.kind sort fun e1 h1 s1 x => ?_))
    subst h1
    obtain ⟨t, ht, hq⟩ := body A oS sh Hx xs R Ex gA (rm.deeper _) hs
    refine ⟨noL.keeps x.toInCall.keep, codeAny_func (wpAny_mono (ht.run [] s1 (start N xs) Hx _ (inv_start S rm.hd en (size _ _ _ _ hs) vl x) hq) (fun fl s' z => ?_) fun e s' z => z)⟩
    cases fl with
    | ret u => obtain ⟨v, σ', H', J, rv, q⟩ := z; exact ⟨v, H', J.os, J.bare, J.base, J.hok, rv, q⟩
    | next => obtain ⟨σ', H', J, q⟩ := z; exact ⟨V.non, H', J.os, J.bare, J.base, J.hok, rfl, q⟩
    | brk => obtain ⟨_, _, _, q⟩ := z; exact q.elim
    | cont => obtain ⟨_, _, _, q⟩ := z; exact q.elim
section
variable {X : Cx}
/-- repr(x): lists and tuples of what can be shown, too -/
def rRepr (K : PySem.W.Frag) : List V → Hp → VK → Prop := fun xs H Q => ∃ v d, xs = [v] ∧ Dp K H v d ∧ d.showable = true ∧ SeqAt.shaped d = true ∧ d.shown.length ≤ sizeLine ∧ Q (.str d.shown) H
theorem call_reprD (hg : X.A.guards = some []) (hu : X.A.units + 66 < cLine) : CallR X (.builtin "repr") (rRepr X.K) := by
  intro pins s σ H xs us Q I r h
  obtain ⟨v, d, rfl, dp, sw, shp, lz, q⟩ := h
  obtain ⟨u, rfl, ru⟩ := vals1 r
  obtain ⟨as, rd⟩ := Dp.reads I d v u dp ru
  have cl := SeqAt.canLay_of_shaped shp
  have dd := SeqAt.depth_of_shaped shp
  cases d with
  | none => cases dp; cases (show u = Value.none from ru); exact PySem.P.repr_of_none ⟨.str _, H, I.tok _, ⟨_, rfl⟩, q⟩
  | bool b => cases dp; cases (show u = Value.bool b from ru); exact PySem.P.repr_of_bool ⟨.str _, H, I.tok _, ⟨_, rfl⟩, q⟩
  | int i =>
    cases dp
    obtain ⟨t, rfl⟩ := ru
    have hz := of_decide_eq_true (show decide (i.natAbs.log2 < 1920) = true from by simpa [PyData.showable] using sw)
    exact PySem.P.repr_of_int hz ⟨.str _, H, I.tok _, ⟨_, rfl⟩, q⟩
  | str z =>
    cases dp
    obtain ⟨t, rfl⟩ := ru
    exact PySem.P.repr_of_str ⟨.str _, H, I.tok _, ⟨_, rfl⟩, q⟩ lz
  | list ds =>
    obtain ⟨a, rfl⟩ := isRef_of_reads rd rfl
    exact repr_of_reads' rd sw (PyData.noDict_hsm (PyData.hasDict_of_canLay _ cl)) hg (by omega) (fun _ _ e => e) (fun h' u' tk hk => ⟨.str _, H, I.un (Un.kept hk) (I.hok.kept hk), ⟨_, rfl⟩, q⟩) lz
  | tuple ds =>
    obtain ⟨a, rfl⟩ := isRef_of_reads rd rfl
    exact repr_of_reads' rd sw (PyData.noDict_hsm (PyData.hasDict_of_canLay _ cl)) hg (by omega) (fun _ _ e => e) (fun h' u' tk hk => ⟨.str _, H, I.un (Un.kept hk) (I.hok.kept hk), ⟨_, rfl⟩, q⟩) lz
  | dict kv => cases dp
end
end L2.Wk
namespace L2.Wk
open PySem PySem.Spec PyProof.Rows
/-! ### the law's call, where its def asks that no repr is under way -/
theorem run_law {P : Program} {w : World} {K : PySem.W.Frag} {mg mb : Str → Option Value} {CX : CXT} {k : Nat} {fa a : Addr} {fd : FuncData} {x : Str} {sp : Sp} {z : Shared} {us : List Value} {ns : List Int}
    (inK : K.In z.heap) (nsM : z.heap.Ns mainGlobals mg) (nsB : z.heap.Ns builtinsNs mb) (boot : ∀ x : Str, x ≠ "__name__" → mb x = bootBuiltins x) (noL : z.heap.NoLimit) (gn : z.gens = #[])
    (at_ : z.heap.get? a = some { cls := .type "list", data := .seq us.toArray }) (hin : IntsAre us ns) (few : ns.length ≤ sizeLine) (rm : Room k callerA)
    (F : ∀ bs : Heap, K.In bs → bs.Ns mainGlobals mg → FnG P w K mg bs CX k fa fd [x] sp) (bnd : ∀ (s : Shared) (u : Value), BindsTo s fd ⟨[u], []⟩ [(x, u)])
    (want : ∀ H : Hp, Only H → SqL K H a (ns.map V.int) → sp [.ref a] H (fun v _ => v = .bl true) fun _ _ _ => False)
    (noX : ∀ H e s', CX [] H z (fun _ _ _ => False) e s' → False) :
    codeAny (model P w) callerA (.call (.ref fa) ⟨[.ref a], []⟩) (fun r s' => r = .ok (.ret (.bool true)) ∧ OldK z.heap s'.heap ∧ s'.os = z.os ∧ AllBare s'.gens) z := by
  have rv := vals_ints hin
  have lu : us.length = ns.length := hin.length
  have sz : us.toArray.size ≤ sizeLine := by rw [List.size_toArray, lu]; exact few
  -- any mirror that holds the script alone
  have main : ∀ H : Hp, Only H → SqL K H a (ns.map V.int) → HOk P w H z.heap → (∀ b o, H b = some o → b = a ∧ K.lookup a = none) →
      codeAny (model P w) callerA (.call (.ref fa) ⟨[.ref a], []⟩) (fun r s' => r = .ok (.ret (.bool true)) ∧ OldK z.heap s'.heap ∧ s'.os = z.os ∧ AllBare s'.gens) z := by
    intro H only sq hok hA
    have hid : ∀ {b : Addr} {o : Obj}, z.heap.get? b = some o → (∀ v n, o.data ≠ .seq v n) → (hidT z.heap H).get? b = some o := fun {b o} e ne => hidT_get e (by
      cases q : H b with
      | none => rfl
      | some u =>
        obtain ⟨rfl, _⟩ := hA b u q
        rw [at_] at e
        cases e
        exact (ne _ _ rfl).elim)
    have nsH : ∀ {b : Addr} {m : Str → Option Value}, z.heap.Ns b m → (hidT z.heap H).Ns b m := fun {b m} ⟨o, es, ep, e, d, r⟩ => ⟨o, es, ep, hid e (fun v n q => by rw [d] at q; cases q), d, r⟩
    have inH : K.In (hidT z.heap H) := fun b o e => hidT_get (inK b o e) (by
      cases q : H b with
      | none => rfl
      | some u =>
        obtain ⟨rfl, kn⟩ := hA b u q
        rw [kn] at e
        cases e)
    have md : Mod K mg (hidT z.heap H) := ⟨inH, nsH nsM, ⟨mb, nsH nsB, boot⟩, let ⟨m, h1, h2⟩ := noL; ⟨m, nsH h1, h2⟩⟩
    have en : Env0 P w K mg (hidT z.heap H) callerA [] z H := ⟨rfl, md, fun b o e => of_hidT e, Nat.le_of_eq (hidT_size _ _), trivial, fun b hb => absurd (show b ∈ ([] : List Addr) from hb) (by simp), hok, .of_eq gn⟩
    refine codeAny_mono ((F _ inH (nsH nsM)).go callerA [] z H _ [.ref a] [.ref a] _ _ rfl rm en (bnd z (.ref a)) (.cons rfl .nil) (want H only sq)) fun r s' h => ?_
    cases r with
    | error e => exact (noX H e s' h).elim
    | ok fl =>
      cases fl with
      | next => exact h.elim
      | brk => exact h.elim
      | cont => exact h.elim
      | ret u =>
        obtain ⟨v, H', os, bare, un, hok', r', q⟩ := h
        obtain rfl : v = .bl true := q
        obtain rfl : u = Value.bool true := r'
        refine ⟨rfl, .of_keep fun b o e => ?_, os, bare⟩
        rcases only b with q | ⟨ob, xs, q⟩
        · exact un.keep b o e q (fun q => absurd (show b ∈ ([] : List Addr) from q) (by simp)) fun q => absurd q (by simp)
        · obtain ⟨e1, _⟩ := hok b _ q
          obtain ⟨e2, _⟩ := hok' b _ (un.frzs b ob _ q)
          rw [e] at e1
          cases e1
          exact e2
  by_cases hk : K.lookup a = none
  · have one : ∀ b o, (if b = a then some (HO.frz { cls := .type "list", data := .seq us.toArray } (.lst (ns.map V.int))) else none) = some o → b = a ∧ o = HO.frz { cls := .type "list", data := .seq us.toArray } (.lst (ns.map V.int)) := fun b o h => by
      split at h
      · exact ⟨by assumption, (Option.some.inj h).symm⟩
      · cases h
    refine main (fun b => if b = a then some (.frz { cls := .type "list", data := .seq us.toArray } (.lst (ns.map V.int))) else none) (fun b => ?_) (.inl (.inr ⟨_, if_pos rfl⟩)) (fun b u q => ?_) fun b o q => ⟨(one b o q).1, hk⟩
    · by_cases e : b = a
      · exact .inr ⟨_, _, if_pos e⟩
      · exact .inl (if_neg e)
    · obtain ⟨rfl, rfl⟩ := one b u q
      exact ⟨at_, by rw [List.length_map]; exact few, us, _, rv, at_⟩
  · obtain ⟨o, e⟩ := Option.ne_none_iff_exists'.mp hk
    have e2 := inK a o e
    rw [at_] at e2
    cases e2
    exact main (fun _ => none) (fun _ => .inl rfl) (.inr ⟨_, us.toArray, _, e, rfl, rfl, rfl, sz, by simpa using rv⟩) (fun b u q => nomatch q) fun b o q => nomatch q
theorem walkG {l : PySem.W.OpenLaw} {n k : Nat} {q : Program} {loose : List Str} {XP : (Str → Option Value) → Heap → Prop} {YP : World → Heap → Prop} {d : DefRec} {K : Params → PySem.W.Frag} {CX : World → CXT} {sp : World → Sp} {x : Str}
    (hn : l.most = some n) (few : n ≤ sizeLine) (hdf : d.params.defaults = []) (rm : Room k callerA) (inK : ∀ (w : World) (h : Heap), YP w h → (K w.params).In h)
    (F : ∀ (w : World) (mg : Str → Option Value) (fa : Addr) (h : Heap), (K w.params).In h → h.Ns mainGlobals mg → mg d.name = some (.ref fa) →
      ∃ fd : FuncData, (∀ (s : Shared) (u : Value), BindsTo s fd ⟨[u], []⟩ [(x, u)]) ∧ ∀ bs : Heap, (K w.params).In bs → bs.Ns mainGlobals mg → FnG l.prog w (K w.params) mg bs (CX w) k fa fd [x] (sp w))
    (want : ∀ (w : World) (H : Hp) (a : Addr) (ns : List Int), ns.length ≤ n → Only H → SqL (K w.params) H a (ns.map V.int) → sp w [.ref a] H (fun v _ => v = .bl true) fun _ _ _ => False)
    (noX : ∀ (w : World) (H : Hp) (s : Shared) (e : Value) (s' : Shared), CX w [] H s (fun _ _ _ => False) e s' → False) :
    PySem.W.WalkO q loose XP YP l.row.toRowW d [] (fun f vs => PySem.call f vs) := by
  refine Att.attach_call hn hdf fun w s0 z mg mb fa o pm cd doc a us ns G Y ho hd hcd hmg at_ hin len gn => ?_
  obtain ⟨fd, bnd, hF⟩ := F w mg fa _ (inK w _ Y) G.T.g hmg
  exact run_law (inK w _ Y) G.T.g G.T.b G.T.builtins G.T.nolimit gn at_ hin (Nat.le_trans len few) rm hF bnd (fun H hO hS => want w H a ns len hO hS) fun H e sx => noX w H z e sx
end L2.Wk
namespace L2.Wk
open PySem PySem.Spec PyProof.Rows
/-! ### data, to any depth -/
mutual
def dpT : Tv → Option PyData
  | .non => some .none
  | .bl b => some (.bool b)
  | .int i => some (.int i)
  | .str z => some (.str z)
  | .lst ts => (dpTs ts).map .list
  | .tup ts => (dpTs ts).map .tuple
  | .wtp ts => (dpTs ts).map .tuple
  | _ => none
def dpTs : List Tv → Option (List PyData)
  | [] => some []
  | t :: ts => match dpT t, dpTs ts with
    | some d, some ds => some (d :: ds)
    | _, _ => none
end
theorem dpTs_map {α : Type} (f : α → Tv) (g : α → PyData) (h : ∀ x, dpT (f x) = some (g x)) : ∀ l : List α, dpTs (l.map f) = some (l.map g)
  | [] => rfl
  | x :: l => by
    rw [List.map_cons]
    unfold dpTs
    rw [h x, dpTs_map f g h l]
    rfl
section
variable {K : PySem.W.Frag} {S H : Hp}
mutual
theorem dp_at (s : Same S H) : ∀ (t : Tv) {v : V} {d : PyData}, Rep K S t v → dpT t = some d → Dp K H v d
  | .non, _, _, h, e => by cases h; unfold dpT at e; cases e; exact .non
  | .bl b, _, _, h, e => by cases h; unfold dpT at e; cases e; exact .bl b
  | .int b, _, _, h, e => by cases h; unfold dpT at e; cases e; exact .int b
  | .str b, _, _, h, e => by cases h; unfold dpT at e; cases e; exact .str b
  | .ty n, _, _, h, e => by unfold dpT at e; cases e
  | .adr n, _, _, h, e => by unfold dpT at e; cases e
  | .ins _ _, _, _, h, e => by unfold dpT at e; cases e
  | .dct _, _, _, h, e => by unfold dpT at e; cases e
  | .dtt _, _, _, h, e => by unfold dpT at e; cases e
  | .lst ts, _, _, h, e => by
    unfold dpT at e
    obtain ⟨ds, e1, rfl⟩ := Option.map_eq_some_iff.mp e
    cases h with | lst h r => exact .lst (.of (s _ _ h)) (dps_at s ts r e1)
  | .tup ts, _, _, h, e => by
    unfold dpT at e
    obtain ⟨ds, e1, rfl⟩ := Option.map_eq_some_iff.mp e
    cases h with | tup h r => exact .tup (.of (s _ _ h)) (dps_at s ts r e1)
  | .wtp ts, _, _, h, e => by
    unfold dpT at e
    obtain ⟨ds, e1, rfl⟩ := Option.map_eq_some_iff.mp e
    cases h with | wtp h r => exact .tup (Same.sqT s h) (dps_at s ts r e1)
theorem dps_at (s : Same S H) : ∀ (ts : List Tv) {vs : List V} {ds : List PyData}, Reps K S ts vs → dpTs ts = some ds → DpAll K H vs ds
  | [], _, _, h, e => by cases h; unfold dpTs at e; cases e; exact .nil
  | t :: ts, _, _, h, e => by
    unfold dpTs at e
    split at e
    · rename_i d ds e1 e2
      cases e
      cases h with | cons h r => exact .cons (dp_at s t h e1) (dps_at s ts r e2)
    · cases e
end
theorem dpL_at {t : Tv} {v : V} {d : PyData} (s : Same S H) (h : Lk K S H t v) (e : dpT t = some d) : Dp K H v d := by
  rcases h with h | ⟨a, rfl, h⟩
  · exact dp_at s t h e
  · cases h with
    | lst h r =>
      unfold dpT at e
      obtain ⟨ds, e1, rfl⟩ := Option.map_eq_some_iff.mp e
      exact .lst (.of h) (dps_at s _ r e1)
    | ins _ _ _ => unfold dpT at e; cases e
    | dct _ _ _ => unfold dpT at e; cases e
    | dtt _ _ _ => unfold dpT at e; cases e
@[reducible] def eqD (a b : Tv) (k : Bool → Prop) : Prop := getK (dpT a) fun d => getK (dpT b) fun e => SeqAt.shaped d = true ∧ SeqAt.shaped e = true ∧ k (PyData.eqv d e)
theorem opt_eqD : OpT K (rEqD K) (fun a b P => eqD a b fun c => P (.val (.bl c))) := by
  intro S H x y a b Q P s la lb h k
  obtain ⟨d, e1, h⟩ := getK_at h
  obtain ⟨e, e2, h1, h2, q⟩ := getK_at h
  exact ⟨d, e, dpL_at s la e1, dpL_at s lb e2, h1, h2, k (.val (.bl _)) _ _ (.inl ⟨rfl, .bl _⟩) q⟩
theorem opt_neD : OpT K (rNeD K) (fun a b P => eqD a b fun c => P (.val (.bl (!c)))) := by
  intro S H x y a b Q P s la lb h k
  obtain ⟨d, e1, h⟩ := getK_at h
  obtain ⟨e, e2, h1, h2, q⟩ := getK_at h
  exact ⟨d, e, dpL_at s la e1, dpL_at s lb e2, h1, h2, k (.val (.bl _)) _ _ (.inl ⟨rfl, .bl _⟩) q⟩
theorem cbt_repr : CbT1 K (rRepr K) (fun a P => getK (dpT a) fun d => d.showable = true ∧ SeqAt.shaped d = true ∧ d.shown.length ≤ sizeLine ∧ P (.val (.str d.shown))) := by
  intro S H x a Q P s la h k
  obtain ⟨d, e1, h1, h2, h3, q⟩ := getK_at h
  exact ⟨x, d, rfl, dpL_at s la e1, h1, h2, h3, k (.val (.str _)) _ _ (.inl ⟨rfl, .str _⟩) q⟩
end
section
variable {F : Fr}
/-! ### range with a step -/
def rngC (lo c : Int) (n : Nat) : List Tv := (List.range n).map fun i => Tv.int (lo + (i : Nat) * c)
theorem itok_rngC {K : PySem.W.Frag} {S : Hp} (lo c : Int) (n : Nat) : ItOk K (Itc lo c n) S (rngC lo c n) := by
  have ln : (rngC lo c n).length = n := by unfold rngC; rw [List.length_map, List.length_range]
  refine ⟨fun i S' H' s1 s2 hi => by rw [ln] at hi; exact hi, fun i S' H' x H'' s1 s2 y t e => ?_, fun i S' H' s1 s2 hi => by rw [ln] at hi; exact Nat.le_of_eq hi.symm⟩
  obtain ⟨e1, rfl⟩ := y
  have hi : i < n := by
    have := (List.getElem?_eq_some_iff.mp e).1
    rw [ln] at this
    exact this
  unfold rngC at e
  rw [List.getElem?_map, List.getElem?_range hi] at e
  cases e
  exact .inl ⟨e1, .int _⟩
@[reducible] def i3 : List Tv → (Int → Int → Int → Prop) → Prop
  | [.int i, .int j, .int c], k => k i j c
  | _, _ => False
theorem i3_at {ts : List Tv} {k : Int → Int → Int → Prop} (h : i3 ts k) : ∃ i j c, ts = [.int i, .int j, .int c] ∧ k i j c := by
  unfold i3 at h
  split at h
  · exact ⟨_, _, _, rfl, h⟩
  · exact h.elim
@[reducible] def wRng3 (f : TTA) : TTI := fun τ P => f τ fun ts τ1 => i3 ts fun i j c => ∃ n, RgC i j c n ∧ P (rngC i c n) τ1
theorem tir_rng3 {ta : TA} {f : TTA} (h : TAr F ta f) : TIr F (iRng3 ta) (wRng3 f) := fun σ τ S H R P E q k => by
  refine h σ τ S H _ _ E q fun ts τ1 vs S1 H1 s1 E1 rs q1 => ?_
  obtain ⟨i, j, c, rfl, n, hr, q2⟩ := i3_at q1
  refine ⟨i, j, c, n, ?_, hr, k _ τ1 _ S1 H1 s1 E1 (itok_rngC i c n) q2⟩
  cases rs with | cons h1 rs => cases rs with | cons h2 rs => cases rs with | cons h3 rs => cases rs; cases h1; cases h2; cases h3; rfl
/-! ### written dicts: .get -/
@[reducible] def fKGet2 (K : PySem.W.Frag) (d : Addr) (fy fx : TTE) : TTE := fun τ P => fy τ fun r1 τ1 => prepR r1 fun r1 => fx τ1 fun r2 τ2 => lookR r1 τ2 fun y => lookR r2 τ2 fun x => s1 y fun z => ∃ (r : Option Value) (t : Tv) (v : V), PySem.W.nsIn K d z = some r ∧ (∀ (S H : Hp) (u : V), Lk K S H x u → ∀ f, RelV u f → RelV v (r.getD f)) ∧ (∀ S, Rep K S t v) ∧ P (.val t) τ2
theorem ter_kget2 {d : Addr} {ty tx : TE} {fy fx : TTE} (hy : TEr F ty fy) (hx : TEr F tx fx) : TEr F (tKGet2 F.K d ty tx) (fKGet2 F.K d fy fx) := fun σ τ S H Q P E f k => by
  refine hy σ τ S H _ _ E f fun r1 τ1 v1 S1 H1 s1 E1 h1 q1 => ?_
  obtain ⟨r1', S2, s2, E2, p1, q2⟩ := E1.prep h1 q1
  refine hx σ τ1 S2 H1 _ _ E2 q2 fun r2 τ2 v2 S3 H3 s3 E3 h3 q3 => ?_
  obtain ⟨a, la, q4⟩ := E3.lookP p1 s3 q3
  obtain ⟨b, lb, q5⟩ := E3.look h3 q4
  obtain ⟨z, rfl, r, t, v, e, hv, rp, q6⟩ := s1_at q5
  exact ⟨z, r, v, la.tV rfl, e, hv _ _ _ lb, k (.val t) τ2 v S3 H3 (s1.trans (s2.trans s3)) E3 (rp _) q6⟩
/-! ### dict comprehensions -/
def fDc (w : TTI) (h : TTG) (c : TTB) (ek ev : TTE) (vs : List Nat) : TTE := fun τ P => w τ fun ts τ1 => ts.length ≤ 1000 ∧ ∃ Inv : Nat → List (Key × Tv) → Prop, Inv 0 [] ∧
  (∀ i t acc, ts[i]? = some t → Inv i acc → h t (wipeT τ1 vs) fun τ2 => c τ2 fun b τ3 => match b with
    | true => ek τ3 fun r τ4 => lookR r τ4 fun y => getK (keyT y) fun κ => ev τ4 fun r τ5 => sharR r τ5 fun u τ6 => wipeT τ6 vs = wipeT τ1 vs ∧ Inv (i + 1) (putKT acc κ u)
    | false => wipeT τ3 vs = wipeT τ1 vs ∧ Inv (i + 1) acc) ∧ ∀ acc, Inv ts.length acc → P (.own (.dct acc)) (wipeT τ1 vs)
theorem ter_dc {wi : TI} {g : TG} {tt : TT} {tk te : TE} {vs : List Nat} {w : TTI} {h : TTG} {c : TTB} {ek e : TTE} (hw : TIr F wi w) (hg : ∀ H0, TGr (F.at H0) g h) (hv : TGw g vs) (hm : TGm g) (ht : ∀ H0, TBr (F.at H0) tt c) (hk : ∀ H0, TEr (F.at H0) tk ek) (he : ∀ H0, TEr (F.at H0) te e) : TEr F (tDc wi g tt tk te vs) (fDc w h c ek e vs) := fun σ τ S H Q P E q k => by
  refine hw σ τ S H _ _ E q fun ts τ1 J S1 H1 s1 E1 it ⟨small, Inv, h0, hs, hd⟩ D hD => ?_
  refine ⟨fun i m H' => m = ts.length - i ∧ i ≤ ts.length ∧ ∃ acc ws S', Inv i acc ∧ acc.length ≤ i ∧ Same S1 S' ∧ EvR F (L2.wipe σ vs) (wipeT τ1 vs) S' H' ∧ Mine F S' D ∧ Apart (L2.wipe σ vs) (wipeT τ1 vs) D ∧ H' D = some (.dK ws) ∧ acc.map Prod.fst = ws.map Prod.fst ∧ Reps F.K S' (acc.map Prod.snd) (ws.map Prod.snd),
    ⟨ts.length, by simp, Nat.zero_le _, [], [], S1, h0, Nat.le_refl _, Same.refl _, (E1.wipe vs).alloc_own _ hD, (E1.wipe vs).mine hD, (E1.wipe vs).apart hD, upd_same, rfl, .nil⟩, ?_⟩
  rintro i m H' ⟨rfl, hi, acc, ws, S', hI, hl, s2, E2, mi, ap, hDw, ef, rs⟩
  by_cases hlt : i < ts.length
  · refine .inr ⟨it.go i S' H' s2 E2.sH hlt, fun H'' => (i + 1 ≤ ts.length ∧ ∃ acc ws S'', Inv (i + 1) acc ∧ acc.length ≤ i + 1 ∧ Same S1 S'' ∧ EvR F (L2.wipe σ vs) (wipeT τ1 vs) S'' H'' ∧ Mine F S'' D ∧ Apart (L2.wipe σ vs) (wipeT τ1 vs) D ∧ H'' D = some (.dK ws) ∧ acc.map Prod.fst = ws.map Prod.fst ∧ Reps F.K S'' (acc.map Prod.snd) (ws.map Prod.snd)), fun H'' q => ⟨ts.length - (i + 1), by omega, rfl, q⟩, fun x H'' y => ?_⟩
    have e1 : ts[i]? = some ts[i] := List.getElem?_eq_getElem hlt
    have hx := it.yld i S' H' x H'' s2 E2.sH y _ e1
    have G2 := E2.guard mi ap hDw
    have hS0 : F.S0 D = none := E2.s0.free mi.1
    obtain ⟨S3, s3, E3, rx⟩ := G2.res' (r := .val ts[i]) (show Res (F.at (upd F.H0 D (.dK ws))).K S' H' (.val ts[i]) x H'' from hx)
    have q1 := hs i _ acc e1 hI
    refine hm _ _ _ _ _ (fun σ2 H2 q => ?_) (hv _ _ _ _ (hg _ _ _ _ _ _ _ (fun σ2 H2 => ∃ τ2 S2, Same S3 S2 ∧ EvR (F.at (upd F.H0 D (.dK ws))) σ2 τ2 S2 H2 ∧ c τ2 fun b τ3 => match b with
      | true => ek τ3 fun r τ4 => lookR r τ4 fun y => getK (keyT y) fun κ => e τ4 fun r τ5 => sharR r τ5 fun u τ6 => wipeT τ6 vs = wipeT τ1 vs ∧ Inv (i + 1) (putKT acc κ u)
      | false => wipeT τ3 vs = wipeT τ1 vs ∧ Inv (i + 1) acc) _ E3 rx q1 fun σ' τ' S' H' s E q => ⟨τ', S', s, E, q⟩))
    obtain ⟨hwp, τ2, S4, s4, E4, q2⟩ := q
    have hwp : L2.wipe σ2 vs = L2.wipe σ vs := by
      rw [hwp, wipe_wipe]
    refine ⟨hwp, ht _ σ2 τ2 S4 H2 _ _ E4 q2 fun b τ3 S5 H5 s5 E5 q3 => ?_⟩
    have fin : ∀ {τ5 : Ev} {S6 H6 : Hp}, EvR (F.at (upd F.H0 D (.dK ws))) σ2 τ5 S6 H6 → wipeT τ5 vs = wipeT τ1 vs → EvR F (L2.wipe σ vs) (wipeT τ1 vs) S6 H6 ∧ H6 D = some (.dK ws) ∧ Mine F S6 D ∧ Apart (L2.wipe σ vs) (wipeT τ1 vs) D := fun {τ5 S6 H6} E6 e6 => by
      have E7 := E6.wipe vs
      rw [hwp, e6] at E7
      exact EvR.unguard E.ex E7 mi.2.1 hS0 mi.2.2
    cases b with
    | true =>
      rw [if_pos rfl]
      refine hk _ σ2 τ3 S5 H5 _ _ E5 q3 fun rk τ4 vk S6 H6 s6 E6 hk6 q4 => ?_
      obtain ⟨y, ly, q5⟩ := E6.look hk6 q4
      obtain ⟨κ, ek1, q6⟩ := getK_at q5
      refine he _ σ2 τ4 S6 H6 _ _ E6 q6 fun r τ5 v4 S7 H7 s7 E7 h7 q7 => ?_
      obtain ⟨u, τ6, S8, s8, E8, r8, e8, q9⟩ := E7.shar h7 q7
      obtain ⟨E9, h9, m9, a9⟩ := fin E8 e8
      have s18 := s3.trans (s4.trans (s5.trans (s6.trans (s7.trans s8))))
      have lw : ws.length = acc.length := by rw [← List.length_map (as := ws) Prod.fst, ← ef, List.length_map]
      obtain ⟨f1, f2⟩ := putKT_at (k := κ) r8 ef (rs.mono s18)
      have lp : (putKT acc κ u).length ≤ acc.length + 1 := by
        unfold putKT
        split
        · rw [List.length_map]; omega
        · rw [List.length_append]; exact Nat.le_refl _
      exact ⟨ws, κ, keyT_at ly ek1, h9, by rw [lw]; exact small1000 (by omega), by omega, _, _, S8, q9, by omega, s2.trans s18, E9.reguard m9 a9 h9, m9, a9, upd_same, f1, f2⟩
    | false =>
      rw [if_neg Bool.false_ne_true]
      obtain ⟨E8, h8, m8, a8⟩ := fin E5 q3.1
      have s18 := s3.trans (s4.trans s5)
      exact ⟨by omega, acc, ws, S5, q3.2, by omega, s2.trans s18, E8, m8, a8, h8, ef, rs.mono s18⟩
  · have e1 : i = ts.length := by omega
    subst e1
    refine .inl ⟨it.stop _ S' H' s2 E2.sH rfl, ?_⟩
    have ap' : Apart σ (wipeT τ1 vs) D := fun j s t hj hm hv => ap j s t hj hm (by rw [wipe_get (wipeT_get hj).1]; exact hv)
    exact k (.own (.dct acc)) _ _ S' H' (s1.trans s2) E2.unwipe ⟨D, rfl, mi, .dct hDw ef rs, ap'⟩ (hd acc hI)
/-! ### dict displays with keys -/
abbrev TTP := Ev → (List (Key × Tv) → Ev → Prop) → Prop
def TPr (F : Fr) (tr : List (TE × TE)) (f : TTP) : Prop := ∀ (σ : L2.St) (τ : Ev) (S H : Hp) (Q : List (V × V) → Hp → Prop) (P : List (Key × Tv) → Ev → Prop), EvR F σ τ S H → f τ P →
  (∀ ks τ' (vs : List (Key × V)) S' H', Same S S' → EvR F σ τ' S' H' → ks.map Prod.fst = vs.map Prod.fst → Reps F.K S' (ks.map Prod.snd) (vs.map Prod.snd) → P ks τ' → Q (vs.map fun kv => (kV kv.1, kv.2)) H') → tPairs tr σ H Q
@[reducible] def pNil : TTP := fun τ P => P [] τ
@[reducible] def pCons (fk fv : TTE) (f : TTP) : TTP := fun τ P => fk τ fun r τ1 => lookR r τ1 fun y => getK (keyT y) fun κ => fv τ1 fun r τ2 => sharR r τ2 fun t τ3 => f τ3 fun ks τ4 => P ((κ, t) :: ks) τ4
theorem tpr_nil : TPr F [] pNil := fun σ τ S H Q P E q k => k [] τ [] S H (Same.refl S) E rfl .nil q
theorem tpr_cons {tk tv : TE} {tr : List (TE × TE)} {fk fv : TTE} {f : TTP} (hk : TEr F tk fk) (hv : TEr F tv fv) (hr : TPr F tr f) : TPr F ((tk, tv) :: tr) (pCons fk fv f) := fun σ τ S H Q P E q k => by
  refine hk σ τ S H _ _ E q fun r1 τ1 v1 S1 H1 s1 E1 h1 q1 => ?_
  obtain ⟨y, ly, q2⟩ := E1.look h1 q1
  obtain ⟨κ, e1, q3⟩ := getK_at q2
  have ev := keyT_at ly e1
  refine hv σ τ1 S1 H1 _ _ E1 q3 fun r2 τ2 v2 S2 H2 s2 E2 h2 q4 => ?_
  obtain ⟨t, τ3, S3, s3, E3, r3, q5⟩ := E2.shar h2 q4
  refine hr σ τ3 S3 H2 _ _ E3 q5 fun ks τ4 vs S4 H4 s4 E4 e4 r4 q6 => ?_
  have := k ((κ, t) :: ks) τ4 ((κ, v2) :: vs) S4 H4 (s1.trans (s2.trans (s3.trans s4))) E4 (by rw [List.map_cons, List.map_cons, e4]) (.cons (r3.mono s4) r4) q6
  rw [List.map_cons] at this
  rw [ev]
  exact this
def mergeT (kvs more : List (Key × Tv)) : List (Key × Tv) := more.foldl (fun acc kv => putKT acc kv.1 kv.2) kvs
theorem mergeT_at {K : PySem.W.Frag} {S : Hp} : ∀ {more : List (Key × Tv)} {vs : List (Key × V)} {kvs : List (Key × Tv)} {ws : List (Key × V)}, more.map Prod.fst = vs.map Prod.fst → Reps K S (more.map Prod.snd) (vs.map Prod.snd) → kvs.map Prod.fst = ws.map Prod.fst → Reps K S (kvs.map Prod.snd) (ws.map Prod.snd) →
    (mergeT kvs more).map Prod.fst = (mergeK ws vs).map Prod.fst ∧ Reps K S ((mergeT kvs more).map Prod.snd) ((mergeK ws vs).map Prod.snd)
  | [], [], _, _, _, _, e, r => ⟨e, r⟩
  | [], _ :: _, _, _, e, _, _, _ => by cases e
  | _ :: _, [], _, _, e, _, _, _ => by cases e
  | (g, u) :: fs, (g', w) :: vs, kvs, ws, e1, r, e, r2 => by
    rw [List.map_cons, List.map_cons] at e1
    injection e1 with e1 e2
    have e1 : g = g' := e1
    subst e1
    cases r with
    | cons h' r =>
      obtain ⟨q1, q2⟩ := putKT_at (k := g) h' e r2
      exact mergeT_at (more := fs) (vs := vs) e2 r q1 q2
@[reducible] def fDisp (f : TTP) : TTE := fun τ P => f τ fun ks τ1 => ks.length ≤ 15 ∧ P (.own (.dct (mergeT [] ks))) τ1
theorem ter_disp {tr : List (TE × TE)} {f : TTP} (h : ∀ H0, TPr (F.at H0) tr f) : TEr F (tDisp tr) (fDisp f) := fun σ τ S H Q P E q k p hp => by
  have G := (E.alloc_own (.dK []) hp).guard (E.mine hp) (E.apart hp) upd_same
  have hS0 : F.S0 p = none := E.s0.free (E.mine hp).1
  refine h _ σ τ S _ _ _ G q fun ks τ1 vs S1 H1 s1 E1 e1 rs ⟨lk, q1⟩ => ?_
  obtain ⟨E2, h2, m2, a2⟩ := EvR.unguard E.ex E1 (E.mine hp).2.1 hS0 (E.mine hp).2.2
  obtain ⟨f1, f2⟩ := mergeT_at (kvs := []) (ws := []) e1 rs rfl .nil
  have lv : vs.length = ks.length := by rw [← List.length_map (as := vs) Prod.fst, ← e1, List.length_map]
  exact ⟨h2, vs, rfl, by omega, k (.own (.dct _)) τ1 _ S1 _ s1 (E2.reguard m2 a2 h2) ⟨p, rfl, m2, .dct upd_same f1 f2, a2⟩ q1⟩
end
end L2.Wk
namespace L2.Wk
open PySem PySem.Spec PyProof.Rows
/-! ### the same for every frame (made by mkq.py) -/
def TPrq (K : PySem.W.Frag) (R : Rs) (te : List (TE × TE)) (f : TTP) : Prop := ∀ H0 S0, TPr ⟨K, R, H0, S0⟩ te f
section
variable {K : PySem.W.Frag} {R : Rs}
theorem q_tir_rng3 {ta : TA} {f : TTA} (h : TArq K R ta f) : TIrq K R (iRng3 ta) (wRng3 f) := fun H0 S0 => tir_rng3 (F := ⟨K, R, H0, S0⟩) (h H0 S0)
theorem q_ter_kget2 {d : Addr} {ty tx : TE} {fy fx : TTE} (hy : TErq K R ty fy) (hx : TErq K R tx fx) : TErq K R (tKGet2 K d ty tx) (fKGet2 K d fy fx) := fun H0 S0 => ter_kget2 (F := ⟨K, R, H0, S0⟩) (hy H0 S0) (hx H0 S0)
theorem q_ter_dc {wi : TI} {g : TG} {tt : TT} {tk te : TE} {vs : List Nat} {w : TTI} {h : TTG} {c : TTB} {ek e : TTE} (hw : TIrq K R wi w) (hg : TGrq K R g h) (hv : TGw g vs) (hm : TGm g) (ht : TBrq K R tt c) (hk : TErq K R tk ek) (he : TErq K R te e) : TErq K R (tDc wi g tt tk te vs) (fDc w h c ek e vs) := fun H0 S0 => ter_dc (F := ⟨K, R, H0, S0⟩) (hw H0 S0) (fun H1 => hg H1 S0) hv hm (fun H1 => ht H1 S0) (fun H1 => hk H1 S0) (fun H1 => he H1 S0)
theorem q_tpr_nil  : TPrq K R [] pNil := fun H0 S0 => tpr_nil (F := ⟨K, R, H0, S0⟩) 
theorem q_tpr_cons {tk tv : TE} {tr : List (TE × TE)} {fk fv : TTE} {f : TTP} (hk : TErq K R tk fk) (hv : TErq K R tv fv) (hr : TPrq K R tr f) : TPrq K R ((tk, tv) :: tr) (pCons fk fv f) := fun H0 S0 => tpr_cons (F := ⟨K, R, H0, S0⟩) (hk H0 S0) (hv H0 S0) (hr H0 S0)
theorem q_ter_disp {tr : List (TE × TE)} {f : TTP} (h : TPrq K R tr f) : TErq K R (tDisp tr) (fDisp f) := fun H0 S0 => ter_disp (F := ⟨K, R, H0, S0⟩) (fun H1 => h H1 S0)
end
end L2.Wk
namespace L2.Wk
open PySem PySem.Spec PyProof.Rows
/-! ### in the block of a comprehension: the written part by its own name -/
section
variable {X : Cx} {K : PySem.W.Frag} {tg e e2 : Expr} {es : List Expr} {te ta : TE} {t : TA} {p pos tpos : Pos} {elts : List Expr} {kk : Nat}
theorem pa_starK (hK : X.K = K) (he : PE X e te) (hr : PA X es t) (hs : starEach (.Starred e p :: es) X.env = (true, eval e X.env) :: starEach es X.env := by rfl) : PA X (.Starred e p :: es) (StX.tStar K te t) := by
  subst hK
  exact StX.pa_star he hr hs
theorem pi_listK (hK : X.K = K) (h : PE X e te) : PI X tg e (iList K te) := by
  subst hK
  exact pi_list h
theorem pi_tupK (hK : X.K = K) (h : PE X e te) : PI X tg e (iTup K te) := by
  subst hK
  exact pi_tup h
end
end L2.Wk
namespace L2.Wk
open PySem PySem.Spec PyProof.Rows
/-! ### {k: a if d[k] else b for k in d}, where d is a dict of bools -/
section
variable {F : Fr}
abbrev tKB (K : PySem.W.Frag) (i j l : Nat) (c : Int) (vs : List Nat) : TE := tLockE (tDc (iKeys (tVar i)) (gName j) tYes (tVar j) (tIf (fun σ H Q => tDGet (tVar i) (tVar j) σ H fun x H' => ∃ k, TruV K x H' k ∧ Q k H') (tVar l) (tC (.int c))) vs)
def blK (kvs : List (Key × Bool)) : List (Key × Tv) := kvs.map fun p => (p.1, Tv.bl p.2)
def fKB (i j l : Nat) (c : Int) (vs : List Nat) : TTE := fun τ P => j ∈ vs ∧ i ∉ vs ∧ l ∉ vs ∧ j < τ.length ∧ slotV τ i False fun t => ∃ kvs : List (Key × Bool), t = .dct (blK kvs) ∧ (kvs.map Prod.fst).Nodup ∧ kvs.length ≤ 1000 ∧
  slotV τ l False fun a => ∃ x, a = .int x ∧ P (.own (.dct (kvs.map fun p => (p.1, Tv.int (if p.2 then x else c))))) (wipeT τ vs)
theorem blK_reps {K : PySem.W.Frag} {S : Hp} : ∀ {kvs : List (Key × Bool)} {ws : List (Key × V)}, (blK kvs).map Prod.fst = ws.map Prod.fst → Reps K S ((blK kvs).map Prod.snd) (ws.map Prod.snd) → ws = kvs.map fun p => (p.1, V.bl p.2)
  | [], [], _, _ => rfl
  | (g, u) :: fs, (g', w) :: vs, e1, r => by
    have e1 : g :: (blK fs).map Prod.fst = g' :: vs.map Prod.fst := e1
    injection e1 with e1 e2
    subst e1
    have r2 : Reps K S (Tv.bl u :: (blK fs).map Prod.snd) (w :: vs.map Prod.snd) := r
    cases r2 with
    | cons h' r3 =>
      cases h'
      rw [blK_reps e2 r3]
      rfl
theorem valV_at {κ : Type} [DecidableEq κ] : ∀ {ws : List (κ × V)} {i : Nat} {k : κ} {v : V}, (ws.map Prod.fst).Nodup → ws[i]? = some (k, v) → valV ws k = some v
  | [], i, _, _, _, e => by simp at e
  | (g, u) :: ws, 0, k, v, _, e => by
    cases e
    exact valV_pos rfl
  | (g, u) :: ws, i + 1, k, v, nd, e => by
    rw [List.map_cons, List.nodup_cons] at nd
    have e : ws[i]? = some (k, v) := e
    have ne : ¬ g = k := fun h => nd.1 (List.mem_map.mpr ⟨(k, v), List.mem_of_getElem? e, h.symm⟩)
    rw [valV_neg ne]
    exact valV_at nd.2 e
theorem putK_new {κ : Type} [DecidableEq κ] {ws : List (κ × V)} {k : κ} (v : V) (h : k ∉ ws.map Prod.fst) : putK ws k v = ws ++ [(k, v)] := by
  unfold putK
  rw [if_neg]
  intro q
  obtain ⟨p, hp, e⟩ := List.any_eq_true.mp q
  exact h (List.mem_map.mpr ⟨p, hp, of_decide_eq_true e⟩)
theorem ter_kb {i j l : Nat} {c : Int} {vs : List Nat} : TEr F (tKB F.K i j l c vs) (fKB i j l c vs) := fun σ τ S H Q P E q k => by
  obtain ⟨hj, hi, hl, hjl, q⟩ := q
  rcases slotV_at q with ⟨_, _, _, _, z⟩ | ⟨t, h1, kvs, rfl, nd, small, q⟩
  · exact z.elim
  rcases slotV_at q with ⟨_, _, _, _, z⟩ | ⟨a', h2, x, rfl, q⟩
  · exact z.elim
  obtain ⟨v1, g1, r1⟩ := E.sl i _ h1
  obtain ⟨v2, g2, r2⟩ := E.sl l _ h2
  have r1 : Rep F.K S (.dct (blK kvs)) v1 := r1
  have r2 : Rep F.K S (.int x) v2 := r2
  cases r2
  cases r1 with
  | @dct a ws _ ha e1 rs =>
  have ew := blK_reps e1 rs
  have ha' := E.sH _ _ ha
  have ndw : (ws.map Prod.fst).Nodup := by rw [← e1]; unfold blK; rw [List.map_map]; exact nd
  have lw : ws.length = kvs.length := by rw [ew, List.length_map]
  let out : List (Key × V) := kvs.map fun p => (p.1, V.int (if p.2 then x else c))
  have lo : out.length = kvs.length := List.length_map ..
  refine ⟨a, .dK ws, ha', trivial, fun od => ?_⟩
  refine ⟨.ref a, g1, a, od, rfl, .inl ⟨ws, upd_same, fun D hD => ?_⟩⟩
  have neD : a ≠ D := fun e => by
    rw [← e, upd_same] at hD
    cases hD
  have hDH : H D = none := by rw [upd_ne (Ne.symm neD)] at hD; exact hD
  refine ⟨fun n m H' => m = ws.length - n ∧ n ≤ ws.length ∧ H' = upd (upd H a (.frz od (.dK ws))) D (.dK (out.take n)), ⟨ws.length, by simp, Nat.zero_le _, rfl⟩, ?_⟩
  rintro n m H' ⟨rfl, hn, rfl⟩
  have hf : upd (upd H a (.frz od (.dK ws))) D (.dK (out.take n)) a = some (.frz od (.dK ws)) := by rw [upd_ne neD]; exact upd_same
  by_cases hlt : n < ws.length
  · refine .inr ⟨⟨hf, hlt⟩, fun H'' => n + 1 ≤ ws.length ∧ H'' = upd (upd H a (.frz od (.dK ws))) D (.dK (out.take (n + 1))), fun H'' hq => ⟨ws.length - (n + 1), by omega, rfl, hq⟩, fun y H'' hy => ?_⟩
    obtain ⟨rfl, κ, v, hκ, rfl⟩ := hy
    have hk : kvs[n]? = some kvs[n] := List.getElem?_eq_getElem (by omega)
    have hkv : (κ, v) = (kvs[n].1, V.bl kvs[n].2) := by
      rw [ew, List.getElem?_map, hk] at hκ
      exact (Option.some.inj hκ).symm
    have ek : κ = kvs[n].1 := congrArg Prod.fst hkv
    have ev : v = V.bl kvs[n].2 := congrArg Prod.snd hkv
    have ho : out[n]? = some (κ, V.int (if kvs[n].2 then x else c)) := by
      show (kvs.map _)[n]? = _
      rw [List.getElem?_map, hk, ek]
      rfl
    have js : j < (L2.wipe σ vs).length := by rw [L2.wipe_length, ← E.len]; exact hjl
    have gj : ((L2.wipe σ vs).set j (some (kV κ)))[j]? = some (some (kV κ)) := by rw [set_get, if_pos rfl, if_pos js]
    have gi : ((L2.wipe σ vs).set j (some (kV κ)))[i]? = some (some (.ref a)) := by
      rw [set_get, if_neg (fun e : j = i => hi (e ▸ hj)), wipe_get hi]
      exact g1
    have gl : ((L2.wipe σ vs).set j (some (kV κ)))[l]? = some (some (.int x)) := by
      rw [set_get, if_neg (fun e : j = l => hl (e ▸ hj)), wipe_get hl]
      exact g2
    refine ⟨?_, ?_⟩
    · have := (tgw_name hj (kV κ) (L2.wipe σ vs) H (fun _ _ => True) (by exact trivial)).1
      rw [this, wipe_wipe]
    unfold tYes
    dsimp only
    rw [if_pos rfl]
    refine ⟨_, gj, ?_⟩
    have fin : ∀ z, z = V.int (if kvs[n].2 then x else c) → ∃ kvs k, kV κ = kV k ∧ (upd (upd H a (.frz od (.dK ws))) D (.dK (out.take n))) D = some (.dK kvs) ∧ kvs.length < sizeLine ∧ (n + 1 ≤ ws.length ∧ upd (upd (upd H a (.frz od (.dK ws))) D (.dK (out.take n))) D (.dK (putK kvs k z)) = upd (upd H a (.frz od (.dK ws))) D (.dK (out.take (n + 1)))) := fun z hz => by
      refine ⟨out.take n, κ, rfl, upd_same, by rw [List.length_take]; exact small1000 (by omega), hlt, ?_⟩
      have nk : κ ∉ (out.take n).map Prod.fst := fun hm => by
        have ndo : (out.map Prod.fst).Nodup := by show ((kvs.map _).map Prod.fst).Nodup; rw [List.map_map]; exact nd
        have e3 : (out.map Prod.fst)[n]? = some κ := by rw [List.getElem?_map, ho]; rfl
        rw [List.map_take] at hm
        obtain ⟨m, hm1, hm2⟩ := List.getElem_of_mem hm
        rw [List.length_take] at hm1
        have hm3 : (out.map Prod.fst)[m]? = some κ := by
          rw [List.getElem_take] at hm2
          rw [List.getElem?_eq_getElem (by omega), hm2]
        have h4 : n < (out.map Prod.fst).length := (List.getElem?_eq_some_iff.mp e3).1
        have := (List.getElem?_inj (i := m) (j := n) (by omega) ndo).mp (hm3.trans e3.symm)
        omega
      rw [upd_upd, putK_new _ nk, List.take_add_one, ho, hz]
      rfl
    refine ⟨.ref a, gi, _, gj, a, v, rfl, .inl ⟨ws, κ, .inr ⟨od, hf⟩, rfl, (valV_at ndw hκ).symm⟩, kvs[n].2, ?_, ?_⟩
    · rw [ev]
      exact rfl
    · cases hb : kvs[n].2 with
      | true =>
        rw [if_pos rfl]
        exact ⟨_, gl, fin _ (by rw [hb]; rfl)⟩
      | false =>
        rw [if_neg Bool.false_ne_true]
        exact fin _ (by rw [hb]; rfl)
  · have e1 : n = ws.length := by omega
    subst e1
    refine .inl ⟨⟨hf, Nat.le_refl _⟩, hf, ?_⟩
    rw [List.take_of_length_le (by omega)]
    have eH : upd (upd (upd H a (.frz od (.dK ws))) D (.dK out)) a (.dK ws) = upd H D (.dK out) := by
      funext b
      by_cases hb : b = a
      · subst hb
        rw [upd_same, upd_ne neD]
        exact ha'.symm
      · rw [upd_ne hb]
        by_cases hb2 : b = D
        · subst hb2
          rw [upd_same, upd_same]
        · rw [upd_ne hb2, upd_ne hb2, upd_ne hb]
    rw [eH]
    have E2 := (E.wipe vs).unwipe
    refine k (.own (.dct (kvs.map fun p => (p.1, Tv.int (if p.2 then x else c))))) _ _ S _ (Same.refl S) (E2.alloc_own (.dK out) hDH) ⟨D, rfl, E2.mine hDH, .dct upd_same ?_ ?_, E2.apart hDH⟩ q
    · show (kvs.map _).map Prod.fst = (kvs.map _).map Prod.fst
      rw [List.map_map, List.map_map]
      rfl
    · have : ∀ l : List (Key × Bool), Reps F.K S ((l.map fun p => (p.1, Tv.int (if p.2 then x else c))).map Prod.snd) ((l.map fun p => (p.1, V.int (if p.2 then x else c))).map Prod.snd) := by
        intro l
        induction l with
        | nil => exact .nil
        | cons p l ih => exact .cons (.int _) ih
      exact this kvs
end
section
variable {K : PySem.W.Frag} {R : Rs}
theorem q_ter_kb {i j l : Nat} {c : Int} {vs : List Nat} : TErq K R (tKB K i j l c vs) (fKB i j l c vs) := fun H0 S0 => ter_kb (F := ⟨K, R, H0, S0⟩)
end
end L2.Wk
namespace L2.Wk
open PySem PySem.Spec PyProof.Rows
def top (i : Nat) : Stmt := PySem.Challenge.pw_wakesafe_k02_formulas_made.main.body.getD i (.Pass ⟨0, 0, 0, 0⟩)
abbrev s_is_name : Stmt := top 10
abbrev N_is_name : List Str := ["value", "letter"]
theorem sc_is_name : FnScope N_is_name ["value"] (defScope s_is_name) := ⟨rfl, rfl, rfl, by decide +kernel, rfl, by decide +kernel, by decide +kernel⟩
abbrev s_ascending : Stmt := top 11
abbrev N_ascending : List Str := ["names"]
theorem sc_ascending : FnScope N_ascending ["names"] (defScope s_ascending) := ⟨rfl, rfl, rfl, by decide +kernel, rfl, by decide +kernel, by decide +kernel⟩
def txts (l : List String) : List Str := l.map Str.ofString
def resV : List Str := txts ["any", "none", "ask", "idle", "tick", "dip", "kept", "go", "hold", "note"]
def lettersS : Str := "abcdefghijklmnopqrstuvwxyz"
def isName (z : Str) : Bool := !(inV (.str z) (resV.map V.str)) && (decide ((1 : Int) ≤ z.length) && decide ((z.length : Int) ≤ 4) && (z.cps.toList.map fun c => decide (c ∈ lettersS.cps.toList)).all id)
theorem flat_txts (l : List Str) : (l.map V.str).all flatV = true := by
  induction l with
  | nil => rfl
  | cons a l ih =>
    rw [List.map_cons, List.all_cons, ih]
    rfl
theorem len1000 {n : Nat} (h : n ≤ 1000) : n ≤ sizeLine := Nat.le_of_lt (small1000 h)
def spTxt (f : Str → Bool) : Sp := fun vs H Q _ => ∃ z : Str, vs = [.str z] ∧ z.length ≤ 1000 ∧ ∀ H', Same H H' → Q (.bl (f z)) H'
/-- what is no text is no name -/
def spNonStr (K : PySem.W.Frag) : Sp := fun vs H Q _ => ∃ (v : V) (t : Value), vs = [v] ∧ TyX K H v t ∧ PySem.W.kitOne K t (.type "str") = some false ∧ Q (.bl false) H
def spStrF (g : Str → Str) : Sp := fun vs H Q _ => ∃ z : Str, vs = [.str z] ∧ z.length ≤ 1000 ∧ ∀ H', Same H H' → Q (.str (g z)) H'
def spAsc (K : PySem.W.Frag) : Sp := fun vs H Q _ => ∃ (l : Addr) (xs : List Str), vs = [.ref l] ∧ SqL K H l (xs.map V.str) ∧ xs.length ≤ 4000 ∧ (∃ ds : List Str, (∀ x ∈ xs, x ∈ ds) ∧ ds.length < 64) ∧
  ∀ (t : Addr) (ys : List Str) (H' : Hp), SqT K H' t (ys.map V.str) → Asc ys xs → Same H H' → Q (.ref t) H'
structure Wf where
  RESERVED : Addr
  tLONGEST : Tok
  tLETTERS : Tok
  is_name : Addr
  ascending : Addr
structure TxtW (K : PySem.W.Frag) (mg : Str → Option Value) (a : Wf) : Prop where
  g_RESERVED : mg "RESERVED" = some (.ref a.RESERVED)
  s_RESERVED : ∀ H, SqT K H a.RESERVED (resV.map V.str)
  g_LONGEST : mg "LONGEST" = some (.int 4 a.tLONGEST)
  g_LETTERS : mg "LETTERS" = some (.str lettersS a.tLETTERS)
  b_isinstance : mg "isinstance" = none
  b_str : mg "str" = none
  b_len : mg "len" = none
  b_all : mg "all" = none
  b_tuple : mg "tuple" = none
  b_set : mg "set" = none
  b_sorted : mg "sorted" = none
  g_is_name : mg "is_name" = some (.ref a.is_name)
  k_is_name : PySem.W.keepIn K (.ref a.is_name) = true
  g_ascending : mg "ascending" = some (.ref a.ascending)
  k_ascending : PySem.W.keepIn K (.ref a.ascending) = true
section
variable {P : Program} {w : World} {K : PySem.W.Frag} {mg : Str → Option Value} {base : Heap} {a : Wf} {f : Addr} {fd : FuncData}
theorem ok_is_name (F : Fun K "is_name" "is_name" s_is_name f fd) (T : TxtW K mg a) : FnOk P w K mg base CX0 1 f fd ["value"] (spTxt isName) := by
  refine F.ok sc_is_name (fun vs H Q E h => ?_) (fun cdv A outer s H vs Q E hr h => ?_)
  · obtain ⟨z, rfl, _⟩ := h
    rfl
  · obtain ⟨z, rfl, hz, k⟩ := h
    refine ⟨_, (pss_cons (ps_if (PW.pt (pw_or (pt_not (pt_val (pe_callB call_isi (by rfl) T.b_isinstance (by decide +kernel) (pa_cons (pv 0) (pa_cons (pe_tyB (T := "str") (by rfl) T.b_str (by decide +kernel)) pa_nil))))) (pw_or1 (pt_cmpR op_in_seq (pv 0) (pe_gr rfl T.g_RESERVED) (by rfl))))) (pss_one (ps_ret pe_bl)) pss_nil)
    (pss_one (ps_ret (pe_and (pe_chain op_le op_le pe_int (pe_callB call_len (by rfl) T.b_len PySem.boot_len (pa_cons (pv 0) pa_nil)) (pe_gi rfl T.g_LONGEST)) (pe_one (pe_callB (cr_all rfl) (by rfl) T.b_all (by decide +kernel) (pa_cons (pe_lc (own := [("letter", 1)]) (g := gName 1) (tt := tYes) rfl sc_is_name.nd (pi_str (pv 0)) (blkOk_by (N := N_is_name) (sc := defScope s_is_name) (by decide +kernel)) (fun _ _ _ _ _ => (pg_name (i := 1) sc_is_name.nd rfl (Or.inl rfl))) (fun _ _ _ _ _ => pts_nil) (fun _ _ _ _ _ => (pe_cmpR op_in_sign (pv 1) (pe_gs rfl T.g_LETTERS) (by rfl)))) pa_nil))))))), ?_⟩
    refine ⟨_, rfl, _, _, _, _, true, rfl, .ty "str", .base (.str z), kit_ty (by decide +kernel), true, rfl, iteF ?_⟩
    refine ⟨_, rfl, _, _, rfl, .inr (T.s_RESERVED _), rfl, flat_txts _, _, rfl, ?_⟩
    show if inV (V.str z) (resV.map V.str) = true then _ else _
    cases e1 : inV (V.str z) (resV.map V.str) with
    | true =>
      refine iteT ?_
      have : isName z = false := by unfold isName; rw [e1]; rfl
      rw [← this]
      exact k _ (Same.refl _)
    | false =>
      refine iteF ?_
      refine ⟨_, rfl, _, _, rfl, ⟨len1000 hz, rfl⟩, _, _, rfl, rfl, _, rfl, ?_⟩
      by_cases h1 : (1 : Int) ≤ z.length
      · rw [decide_eq_true h1]
        refine iteT ?_
        refine ⟨_, _, rfl, rfl, _, rfl, ?_⟩
        by_cases h2 : (z.length : Int) ≤ 4
        · rw [decide_eq_true h2]
          refine iteT ?_
          refine ⟨_, rfl, z, rfl, fun D hD => ?_⟩
          refine lc_str (fun i H' => Same H H' ∧ H' D = some (.lst ((z.cps.toList.take i).map fun c => V.bl (decide (c ∈ lettersS.cps.toList))))) ⟨Same.upd_new hD, upd_same⟩ ?_ ?_
          · rintro i c H' hc ⟨s1, d1⟩
            refine ⟨rfl, ⟨_, rfl, _, _, rfl, rfl, _, d1, ?_, ?_, ?_⟩⟩
            · rw [List.length_map, List.length_take]
              exact Nat.lt_of_le_of_lt (Nat.min_le_left _ _) (Nat.lt_of_lt_of_le (by have := (Array.getElem?_eq_some_iff.mp hc).1; have e : z.length = z.cps.size := rfl; omega) (len1000 (Nat.le_refl 1000)))
            · intro b o e
              have := s1 b o e
              rw [upd_ne (ne_of_none e hD)]
              exact this
            · rw [take_succ_map _ (arr_list hc)]
              exact upd_same
          · rintro H' ⟨s1, d1⟩
            refine ⟨D, z.cps.toList.map fun c => decide (c ∈ lettersS.cps.toList), rfl, .inl (.inl ?_), ?_⟩
            · rw [d1, List.map_map]
              have e : z.cps.toList.take z.cps.size = z.cps.toList := by
                rw [List.take_of_length_le (by simp)]
              rw [e]
              rfl
            · have : isName z = (z.cps.toList.map fun c => decide (c ∈ lettersS.cps.toList)).all id := by
                unfold isName
                rw [e1, decide_eq_true h1, decide_eq_true h2]
                simp only [Bool.not_false, Bool.true_and]
              rw [← this]
              exact k _ s1
        · rw [decide_eq_false h2]
          refine iteF ?_
          have : isName z = false := by unfold isName; rw [decide_eq_false h2]; simp
          rw [← this]
          exact k _ (Same.refl _)
      · rw [decide_eq_false h1]
        refine iteF ⟨_, rfl, iteF ?_⟩
        have : isName z = false := by unfold isName; rw [decide_eq_false h1]; simp
        rw [← this]
        exact k _ (Same.refl _)
theorem ok_is_name_non (F : Fun K "is_name" "is_name" s_is_name f fd) (T : TxtW K mg a) : FnOk P w K mg base CX0 1 f fd ["value"] (spNonStr K) := by
  refine F.ok sc_is_name (fun vs H Q E h => ?_) (fun cdv A outer s H vs Q E hr h => ?_)
  · obtain ⟨_, _, rfl, _⟩ := h
    rfl
  · obtain ⟨v, t, rfl, ht, hk, k⟩ := h
    refine ⟨_, (pss_cons (ps_if (PW.pt (pw_or (pt_not (pt_val (pe_callB call_isi (by rfl) T.b_isinstance (by decide +kernel) (pa_cons (pv 0) (pa_cons (pe_tyB (T := "str") (by rfl) T.b_str (by decide +kernel)) pa_nil))))) (pw_or1 (pt_cmpR op_in_seq (pv 0) (pe_gr rfl T.g_RESERVED) (by rfl))))) (pss_one (ps_ret pe_bl)) pss_nil)
    (pss_one (ps_ret (pe_and (pe_chain op_le op_le pe_int (pe_callB call_len (by rfl) T.b_len PySem.boot_len (pa_cons (pv 0) pa_nil)) (pe_gi rfl T.g_LONGEST)) (pe_one (pe_callB (cr_all rfl) (by rfl) T.b_all (by decide +kernel) (pa_cons (pe_lc (own := [("letter", 1)]) (g := gName 1) (tt := tYes) rfl sc_is_name.nd (pi_str (pv 0)) (blkOk_by (N := N_is_name) (sc := defScope s_is_name) (by decide +kernel)) (fun _ _ _ _ _ => (pg_name (i := 1) sc_is_name.nd rfl (Or.inl rfl))) (fun _ _ _ _ _ => pts_nil) (fun _ _ _ _ _ => (pe_cmpR op_in_sign (pv 1) (pe_gs rfl T.g_LETTERS) (by rfl)))) pa_nil))))))), ?_⟩
    exact ⟨_, rfl, _, _, _, _, false, rfl, .ty "str", ht, hk, false, rfl, iteT k⟩
theorem ok_ascending (F : Fun K "ascending" "ascending" s_ascending f fd) (T : TxtW K mg a) : FnOk P w K mg base CX0 1 f fd ["names"] (spAsc K) := by
  refine F.ok sc_ascending (fun vs H Q E h => ?_) (fun cdv A outer s H vs Q E hr h => ?_)
  · obtain ⟨_, _, rfl, _⟩ := h
    rfl
  · obtain ⟨l, xs, rfl, hl, hx, ⟨ds, hds, hd64⟩, k⟩ := h
    refine ⟨_, (pss_one (ps_ret (pe_callTy call_tupS (by rfl) T.b_tuple (by decide +kernel) (pa_cons (pe_callB (cr_sortT rfl) (by rfl) T.b_sorted (by decide +kernel) (pa_cons (pe_callTy (cr_setB rfl) (by rfl) T.b_set (by decide +kernel) (pa_cons (pv 0) pa_nil)) pa_nil)) pa_nil)))), ?_⟩
    refine ⟨_, rfl, l, xs, rfl, hl, hx, fun p ks nd hk hp => ?_⟩
    have kl : ks.length < 64 := Nat.lt_of_le_of_lt (few_len nd fun x hx => hds x ((hk x).mp hx)) hd64
    refine ⟨p, _, _, rfl, upd_same, kl, fun ys o up nd2 hm hl2 ho => ?_⟩
    have s2 := (Same.upd_new (o := SetT w p (fun k => decide (k ∈ xs)) ks.length) hp).trans (Same.upd_new (o := .lst (ys.map V.str)) ho)
    refine ⟨o, _, rfl, .inl ⟨.inl (.inl upd_same), fun t ht => ?_⟩⟩
    refine k t ys _ (.inl (.inl upd_same)) ⟨up, nd2, fun z => ?_⟩ (s2.trans (Same.upd_new ht))
    rw [hm z, decide_eq_true_eq]
end
end L2.Wk
namespace L2.Wk
open PySem PySem.Spec PyProof.Rows
/-! ### the dealer of the laws of formulas and blocks: a dict -/
abbrev s_law_source : Stmt := top 32
abbrev N_law_source : List Str := ["_law_script", "_law_base", "_law_cells", "_law_stirred", "_law_cell"]
theorem sc_law_source : FnScope N_law_source ["_law_script", "_law_base"] (defScope s_law_source) := ⟨rfl, rfl, rfl, by decide +kernel, rfl, by decide +kernel, by decide +kernel⟩
abbrev s_law_draw : Stmt := top 33
abbrev N_law_draw : List Str := ["_law_deal", "_law_wide", "_law_great", "_law_cell"]
theorem sc_law_draw : FnScope N_law_draw ["_law_deal", "_law_wide"] (defScope s_law_draw) := ⟨rfl, rfl, rfl, by decide +kernel, rfl, by decide +kernel, by decide +kernel⟩
abbrev s_law_pick : Stmt := top 34
abbrev N_law_pick : List Str := ["_law_deal", "_law_some"]
theorem sc_law_pick : FnScope N_law_pick ["_law_deal", "_law_some"] (defScope s_law_pick) := ⟨rfl, rfl, rfl, by decide +kernel, rfl, by decide +kernel, by decide +kernel⟩
theorem dp_ints {K : PySem.W.Frag} {H : Hp} : ∀ ns : List Int, DpAll K H (ns.map V.int) (ns.map PyData.int)
  | [] => .nil
  | n :: ns => .cons (.int n) (dp_ints ns)
/-- xs != [] -/
theorem ne_nil {K : PySem.W.Frag} {H : Hp} {a p : Addr} {xs : List V} {ds : List PyData} {Q : VK} (h : SqL K H a xs) (hd : DpAll K H xs ds) (sh : SeqAt.shaped (.list ds) = true) (hp : H p = some (.lst [])) (q : Q (.bl (!xs.isEmpty)) H) :
    rNeD K (.ref a) (.ref p) H Q := by
  refine ⟨_, _, .lst h hd, .lst (.inl (.inl hp)) .nil, sh, (by decide +kernel), ?_⟩
  have e : (!PyData.eqv (.list ds) (.list [])) = !xs.isEmpty := by
    cases hd with
    | nil => simp [PyData.eqv, PyData.eqvAll]
    | cons _ _ => simp [PyData.eqv, PyData.eqvAll]
  rw [e]
  exact q
theorem get_map_int {ns : List Int} {i : Nat} {x : V} (h : (ns.map V.int)[i]? = some x) : ∃ n, ns[i]? = some n ∧ x = V.int n := by
  rw [List.getElem?_map] at h
  cases e : ns[i]? with
  | none => rw [e] at h; cases h
  | some z => rw [e] at h; exact ⟨z, rfl, (Option.some.inj h).symm⟩
theorem snoc {α : Type} (c : α) (cs : List α) : ∃ xs y, c :: cs = xs ++ [y] := ⟨(c :: cs).dropLast, (c :: cs).getLast (by simp), (List.dropLast_concat_getLast (by simp)).symm⟩
theorem Keep.upd_l {d l : Addr} {H : Hp} {o : HO} : Keep d l H (upd H l o) := fun p u e _ h2 => by rw [upd_ne h2]; exact e
theorem Keep.upd_d {d l : Addr} {H : Hp} {o : HO} : Keep d l H (upd H d o) := fun p u e h1 _ => by rw [upd_ne h1]; exact e
def gK : Key := .inr (Str.ofString "great")
def sK : Key := .inr (Str.ofString "stirred")
def dkA (l : Addr) (b : Int) : List (Key × V) := [(gK, .ref l), (sK, .int b)]
theorem gs_ne : ¬ gK = sK := by decide +kernel
theorem dkA_great (l : Addr) (b : Int) : valV (dkA l b) gK = some (.ref l) := valV_pos rfl
theorem dkA_stirred (l : Addr) (b : Int) : valV (dkA l b) sK = some (.int b) := by
  unfold dkA
  rw [valV_neg gs_ne]
  exact valV_pos rfl
theorem dkA_put (l : Addr) (b c : Int) : putK (dkA l b) sK (.int c) = dkA l c := by
  unfold putK dkA
  have e1 : decide (gK = sK) = false := decide_eq_false gs_ne
  simp [gs_ne]
structure DealA (H : Hp) (d l : Addr) : Prop where
  ex : ∃ (cs : List Int) (b : Int), H d = some (.dK (dkA l b)) ∧ H l = some (.lst (cs.map V.int)) ∧ (∀ c ∈ cs, 0 ≤ c) ∧ cs.length ≤ 63 ∧ 0 ≤ b ∧ b < 2147483647
theorem DealA.ne {H : Hp} {d l : Addr} (D : DealA H d l) : d ≠ l := by
  obtain ⟨cs, b, h1, h2, _⟩ := D.ex
  intro e
  rw [e, h2] at h1
  cases h1
theorem DealA.same {H H' : Hp} {d l : Addr} (D : DealA H d l) (s : Same H H') : DealA H' d l := by
  obtain ⟨cs, b, h1, h2, h⟩ := D.ex
  exact ⟨cs, b, s _ _ h1, s _ _ h2, h⟩
def spDrawA : Sp := fun vs H Q _ => ∃ (d l : Addr) (n : Int), vs = [.ref d, .int n] ∧ DealA H d l ∧ 0 < n ∧ n ≤ 1000 ∧ ∀ (r : Int) (H' : Hp), 0 ≤ r → r < n → DealA H' d l → Keep d l H H' → Q (.int r) H'
def DrawA (d l : Addr) (n b0 : Int) (H : Hp) (m : Nat) (σ : L2.St) (H' : Hp) : Prop := ∃ (cs : List Int), σ = [some (.ref d), some (.int n), some (.ref l), none] ∧ H' d = some (.dK (dkA l b0)) ∧ H' l = some (.lst (cs.map V.int)) ∧ (∀ c ∈ cs, 0 ≤ c) ∧ cs.length ≤ 63 ∧ m = cs.length ∧ Keep d l H H'
structure TxtDA (K : PySem.W.Frag) (mg : Str → Option Value) : Prop where
  b_int : mg "int" = none
section
variable {P : Program} {w : World} {K : PySem.W.Frag} {mg : Str → Option Value} {base : Heap} {f : Addr} {fd : FuncData}
theorem ok_drawA (F : Fun K "_law_draw" "_law_draw" s_law_draw f fd) (T : TxtDA K mg) : FnOk P w K mg base CX0 1 f fd ["_law_deal", "_law_wide"] spDrawA := by
  refine F.ok sc_law_draw (fun vs H Q E h => ?_) (fun cdv A outer s H vs Q E hr h => ?_)
  · obtain ⟨_, _, _, rfl, _⟩ := h
    rfl
  · obtain ⟨d, l, n, rfl, D, n1, n2, k⟩ := h
    obtain ⟨cs0, b0, hd0, hl0, c0, c1, q0, q1⟩ := D.ex
    have ndl : d ≠ l := D.ne
    have rest : ∃ t, PSs (cxOf CX0 P w K mg base N_law_draw "_law_draw" (defScope s_law_draw) f cdv A outer s H E).nox ((defBody s_law_draw).drop 2) t ∧
        ∀ (cs : List Int) (H1 : Hp), H1 d = some (.dK (dkA l b0)) → H1 l = some (.lst (cs.map V.int)) → (∀ c ∈ cs, 0 ≤ c) → cs.length ≤ 63 → Keep d l H H1 → t { nx := fun _ H' => Q .non H', rt := Q } [some (.ref d), some (.int n), some (.ref l), none] H1 := by
      refine ⟨_, (pss_cons (ps_if (pt_cmpR (op_neD hr.units) (pv 2) (pe_lst pa_nil) (nomark _)) (pss_cons (ps_set (i := 3) sc_law_draw.nd rfl (Or.inl rfl) (pe_bm0 PySem.F.plainAttrs_list PySem.F.slot_list_pop PySem.F.type_list_pop mt_pop (pv 2)))
    (pss_cons (ps_expr (pe_bm PySem.F.plainAttrs_list PySem.F.slot_list_append PySem.F.type_list_append mt_append (pv 2) (pa_cons (pe_op op_fdivN (pv 3) (pv 1)) pa_nil)))
    (pss_one (ps_ret (pe_op op_mod (pe_callTy call_int1 (by rfl) T.b_int (by decide +kernel) (pa_cons (pv 3) pa_nil)) (pv 1)))))) pss_nil)
    (pss_cons (ps_asg (pe_op op_mod (pe_callTy call_int1 (by rfl) T.b_int (by decide +kernel) (pa_cons (pe_op op_add (pe_op op_mul (pe_dget (Nat.lt_of_le_of_lt (Nat.add_le_add_left (by decide : 1 ≤ 64) _) hr.units) (pv 0) pe_str (fun _ _ => rfl)) pe_int) pe_int) pa_nil)) pe_int) (pg_sub (pv 0) pe_str (set_dict (Nat.lt_of_le_of_lt (Nat.add_le_add_left (by decide : 1 ≤ 64) _) hr.units))))
    (pss_one (ps_ret (pe_op op_mod (pe_callTy call_int1 (by rfl) T.b_int (by decide +kernel) (pa_cons (pe_op op_fdiv (pe_dget (Nat.lt_of_le_of_lt (Nat.add_le_add_left (by decide : 1 ≤ 64) _) hr.units) (pv 0) pe_str (fun _ _ => rfl)) pe_int) pa_nil)) (pv 1)))))), ?_⟩
      intro cs H1 hd hl c2 c3 kp
      refine ⟨_, rfl, by decide, fun p hp => ?_⟩
      have s2 : Same H1 (upd H1 p (.lst [])) := Same.upd_new hp
      refine ne_nil (.inl (.inl (s2 _ _ hl))) (dp_ints cs) (PySem.W.ke_shaped_ints cs) upd_same ⟨_, rfl, ?_⟩
      replace hd := s2 _ _ hd
      replace hl := s2 _ _ hl
      replace kp := kp.trans (Keep.same (d := d) (l := l) s2)
      generalize upd H1 p (.lst []) = H2 at hd hl kp
      cases cs with
      | nil =>
        refine iteF ?_
        have hS : ∀ {Hx : Hp} {b : Int}, Hx d = some (.dK (dkA l b)) → DGet Hx d (kV sK) (some (.int b)) := fun {Hx b} h => dkA_stirred l b ▸ DGet.k (k := sK) h
        refine ⟨_, rfl, d, .int b0, rfl, hS hd, _, _, rfl, rfl, .inl ⟨by omega, by omega⟩, _, _, rfl, rfl, .inl ⟨_, rfl, _, _, rfl, rfl, (by show (0 : Int) < 2147483647; decide), _, rfl, d, _, rfl, DPut.k (k := sK) hd (by show 2 < sizeLine; decide), ?_⟩⟩
        rw [dkA_put]
        refine ⟨_, rfl, d, .int _, rfl, hS upd_same, _, _, rfl, rfl, ⟨by decide, by decide⟩, .inl ⟨_, rfl, _, rfl, _, _, rfl, rfl, n1, ?_⟩⟩
        refine k _ _ (Int.emod_nonneg _ (by omega)) (Int.emod_lt_of_pos _ n1) ⟨⟨[], (b0 * 69621 + 31) % 2147483647, upd_same, ?_, c2, c3, Int.emod_nonneg _ (by decide), Int.emod_lt_of_pos _ (by decide)⟩⟩ (kp.trans Keep.upd_d)
        rw [upd_ne ndl.symm]
        exact hl
      | cons c cs =>
        refine iteT ?_
        obtain ⟨xs, y, e⟩ := snoc c cs
        rw [e] at hl c2 c3
        rw [List.map_append] at hl
        have hy0 : 0 ≤ y := c2 y (by simp)
        refine ⟨_, rfl, .inl ⟨rfl, _, .inl (.inl hl)⟩, l, _, .int y, rfl, rfl, hl, ?_, ?_⟩
        · rw [List.length_append, List.map_cons, List.map_nil]
          simp
        rw [List.map_cons, List.map_nil, List.dropLast_concat]
        have hd3 : (upd H2 l (.lst (xs.map V.int))) d = some (.dK (dkA l b0)) := by
          rw [upd_ne ndl]
          exact hd
        refine ⟨_, rfl, .inl ⟨rfl, _, .inl (.inl upd_same)⟩, _, rfl, _, rfl, _, _, rfl, rfl, ⟨by omega, by omega⟩, l, _, _, rfl, rfl, upd_same, ?_, ?_⟩
        · rw [List.length_map]
          rw [List.length_append] at c3
          exact small1000 (by omega)
        refine ⟨_, rfl, .inl ⟨_, rfl, _, rfl, _, _, rfl, rfl, n1, ?_⟩⟩
        refine k _ _ (Int.emod_nonneg _ (by omega)) (Int.emod_lt_of_pos _ n1) ⟨⟨xs ++ [y.fdiv n], b0, ?_, ?_, ?_, ?_, q0, q1⟩⟩ ((kp.trans Keep.upd_l).trans Keep.upd_l)
        · rw [upd_ne ndl]
          exact hd3
        · rw [List.map_append]
          exact upd_same
        · intro c hc
          rcases List.mem_append.mp hc with hc | hc
          · exact c2 c (List.mem_append_left _ hc)
          · rw [List.mem_singleton.mp hc, Int.fdiv_eq_ediv_of_nonneg _ (by omega)]
            exact Int.ediv_nonneg hy0 (by omega)
        · rw [List.length_append] at c3 ⊢
          exact c3
    obtain ⟨tr, hrest, krest⟩ := rest
    refine ⟨_, pss_cons (ps_set (i := 2) sc_law_draw.nd rfl (Or.inl rfl) (pe_dget (Nat.lt_of_le_of_lt (Nat.add_le_add_left (by decide : 1 ≤ 64) _) hr.units) (pv 0) pe_str (fun _ _ => rfl))) (pss_cons (ps_while PassesOwn.never (PW.pt (pw_and (pt_cmpR (op_neD hr.units) (pv 2) (pe_lst pa_nil) (nomark _)) (pw_and1 (pt_cmpR op_eq (pe_ix ix_list (pv 2) (pe_un un_neg pe_int) (fun _ _ => rfl)) pe_int (nomark _))))) (pss_one (ps_expr (pe_bm0 PySem.F.plainAttrs_list PySem.F.slot_list_pop PySem.F.type_list_pop mt_pop (pv 2))))) hrest), ?_⟩
    refine ⟨_, rfl, d, _, rfl, dkA_great l b0 ▸ DGet.k (k := gK) hd0, ?_⟩
    refine ⟨DrawA d l n b0 H, ⟨_, cs0, rfl, hd0, hl0, c0, c1, rfl, Keep.refl d l H⟩, ?_⟩
    rintro m σ H1 ⟨cs, rfl, hd, hl, c2, c3, rfl, kp⟩
    refine ⟨_, rfl, by decide, fun p hp => ?_⟩
    have s2 : Same H1 (upd H1 p (.lst [])) := Same.upd_new hp
    refine ne_nil (.inl (.inl (s2 _ _ hl))) (dp_ints cs) (PySem.W.ke_shaped_ints cs) upd_same ⟨_, rfl, ?_⟩
    replace hd := s2 _ _ hd
    replace hl := s2 _ _ hl
    replace kp := kp.trans (Keep.same (d := d) (l := l) s2)
    generalize upd H1 p (.lst []) = H2 at hd hl kp
    cases cs with
    | nil => exact iteF (iteF (krest [] H2 hd hl c2 c3 kp))
    | cons c cs =>
      refine iteT ?_
      obtain ⟨xs, y, e⟩ := snoc c cs
      rw [e] at hl c2 c3
      rw [List.map_append] at hl
      refine ⟨_, rfl, _, rfl, l, _, _, _, rfl, rfl, .inl (.inl hl), atI_last _ _, rfl, _, rfl, ?_⟩
      by_cases hy : V.int y = V.int 0
      · rw [decide_eq_true hy]
        refine iteT ⟨DrawA d l n b0 H xs.length, fun σ' H' w => ⟨_, ?_, w⟩, ?_⟩
        · rw [e, List.length_append]
          simp
        · refine ⟨_, rfl, .inl ⟨rfl, _, .inl (.inl hl)⟩, l, _, .int y, rfl, rfl, hl, ?_, xs, rfl, ?_, ?_, ?_, ?_, rfl, ?_⟩
          · rw [List.length_append, List.map_cons, List.map_nil]
            simp
          · rw [upd_ne ndl]
            exact hd
          · rw [List.map_cons, List.map_nil, List.dropLast_concat]
            exact upd_same
          · intro c hc
            exact c2 c (List.mem_append_left _ hc)
          · rw [List.length_append] at c3
            omega
          · exact kp.trans Keep.upd_l
      · rw [decide_eq_false hy]
        refine iteF (krest (xs ++ [y]) H2 hd (by rw [List.map_append]; exact hl) c2 c3 kp)
end
def spPickA (K : PySem.W.Frag) : Sp := fun vs H Q _ => ∃ (d l s : Addr) (xs : List V), vs = [.ref d, .ref s] ∧ DealA H d l ∧ H s = some (.lst xs) ∧ s ≠ d ∧ s ≠ l ∧ xs ≠ [] ∧ xs.length ≤ 1000 ∧ ∀ (v : V) (H' : Hp), v ∈ xs → DealA H' d l → Keep d l H H' → Q v H'
def spSourceA (K : PySem.W.Frag) : Sp := fun vs H Q _ => ∃ (s : Addr) (ns : List Int), vs = [.ref s, .int 0] ∧ SqL K H s (ns.map V.int) ∧ ns.length ≤ 63 ∧ ∀ (d l : Addr) (H' : Hp), H d = none → H l = none → DealA H' d l → Same H H' → Q (.ref d) H'
structure TxtDA2 (K : PySem.W.Frag) (mg : Str → Option Value) (dr : Addr) : Prop extends TxtDA K mg where
  b_len : mg "len" = none
  b_abs : mg "abs" = none
  g__law_draw : mg "_law_draw" = some (.ref dr)
  k__law_draw : PySem.W.keepIn K (.ref dr) = true
def absI (i : Int) : Int := if i < 0 then -i else i
theorem absI_nn (i : Int) : 0 ≤ absI i := by
  unfold absI
  split <;> omega
theorem dkA_merge (l : Addr) (b : Int) : mergeK [] [(gK, V.ref l), (sK, V.int b)] = dkA l b := by
  show putK (putK [] gK (V.ref l)) sK (V.int b) = _
  have e1 : putK ([] : List (Key × V)) gK (V.ref l) = [(gK, V.ref l)] := rfl
  rw [e1]
  unfold putK dkA
  simp [gs_ne]
theorem cut_62 {xs : List V} : cutV xs (some 0) (some 62) = xs.take 62 := by
  unfold cutV
  have e1 : HT.sIx xs.length 0 (some 0) = 0 := by
    have := HT.sIx_nat xs.length 0 0
    simpa using this
  have e2 : HT.sIx xs.length xs.length (some 62) = min 62 xs.length := HT.sIx_nat xs.length xs.length 62
  rw [e1, e2, List.drop_zero, Nat.sub_zero]
  exact List.take_eq_take_iff.mpr (by omega)
section
variable {P : Program} {w : World} {K : PySem.W.Frag} {mg : Str → Option Value} {base : Heap} {dr : Addr} {f : Addr} {fd : FuncData}
theorem ok_pickA {f1 : FuncData} (F : Fun K "_law_pick" "_law_pick" s_law_pick f fd) (T : TxtDA2 K mg dr) (G__law_draw : FnOk P w K mg base CX0 1 dr f1 ["_law_deal", "_law_wide"] spDrawA) (b__law_draw : Binds K f1 ["_law_deal", "_law_wide"] []) :
    FnOk P w K mg base CX0 2 f fd ["_law_deal", "_law_some"] (spPickA K) := by
  refine F.ok sc_law_pick (fun vs H Q E h => ?_) (fun cdv A outer s H vs Q E hr h => ?_)
  · obtain ⟨_, _, _, _, rfl, _⟩ := h
    rfl
  · obtain ⟨d, l, sa, xs, rfl, D, hs, e1, e2, hne, hlen, k⟩ := h
    refine ⟨_, (pss_one (ps_ret (pe_ix ix_list (pv 1) (pe_call G__law_draw (hr.mono (by decide)) rfl T.g__law_draw T.k__law_draw b__law_draw .nil pass0 (pa_cons (pv 0) (pa_cons (pe_callB call_len (by rfl) T.b_len PySem.boot_len (pa_cons (pv 1) pa_nil)) pa_nil))) (fun _ _ => rfl)))), ?_⟩
    have hl : 0 < xs.length := List.length_pos_iff.mpr hne
    refine ⟨_, rfl, _, rfl, _, rfl, _, xs.length, rfl, .inl ⟨_, .inl (.inl hs), rfl⟩, d, l, (xs.length : Int), rfl, D, by omega, by omega, fun r H' r1 r2 D' kp => ?_⟩
    obtain ⟨j, rfl⟩ := Int.eq_ofNat_of_zero_le r1
    have hj : j < xs.length := by omega
    refine ⟨_, _, _, xs[j], rfl, rfl, .inl (.inl (kp _ _ hs e1 e2)), atI_nat (List.getElem?_eq_getElem hj), ?_⟩
    exact k _ _ (List.getElem_mem hj) D' kp
theorem ok_sourceA (F : Fun K "_law_source" "_law_source" s_law_source f fd) (T : TxtDA2 K mg dr) : FnOk P w K mg base CX0 1 f fd ["_law_script", "_law_base"] (spSourceA K) := by
  refine F.ok sc_law_source (fun vs H Q E h => ?_) (fun cdv A outer s H vs Q E hr h => ?_)
  · obtain ⟨_, _, rfl, _⟩ := h
    rfl
  · obtain ⟨sa, ns0, rfl, hS, hlen, k⟩ := h
    refine ⟨_, (pss_cons (ps_setLc (i := 2) (own := [("_law_cell", 4)]) (g := gName 4) (tt := tYes) rfl sc_law_source.nd rfl rfl (sw_true rfl rfl rfl (by decide +kernel)) (pi_list (pe_slice sl_list (pv 0) (po_some (pv 1)) (po_some pe_int))) (blkOk_by (N := N_law_source) (sc := defScope s_law_source) (by decide +kernel)) (fun _ _ _ _ _ => (pg_name (i := 4) sc_law_source.nd rfl (Or.inl rfl))) (fun _ _ _ _ _ => pts_nil) (fun _ _ _ _ _ => (pe_callB call_abs (by rfl) T.b_abs (by decide +kernel) (pa_cons (pe_callTy call_int1 (by rfl) T.b_int (by decide +kernel) (pa_cons (pv 4) pa_nil)) pa_nil))))
    (pss_cons (ps_set (i := 3) sc_law_source.nd rfl (Or.inl rfl) (pe_op op_add pe_int (pe_op op_mul pe_int (pv 1))))
    (pss_cons (ps_for PassesOwn.never rfl (pi_list (pv 2)) (pg_name (i := 4) sc_law_source.nd rfl (Or.inl rfl))
      (pss_one (ps_set (i := 3) sc_law_source.nd rfl (Or.inl rfl) (pe_op op_mod (pe_callTy call_int1 (by rfl) T.b_int (by decide +kernel) (pa_cons (pe_op op_add (pe_op op_add (pe_op op_mul (pv 3) pe_int) (pe_op op_mod (pe_callTy call_int1 (by rfl) T.b_int (by decide +kernel) (pa_cons (pv 4) pa_nil)) pe_int)) pe_int) pa_nil)) pe_int))))
    (pss_one (ps_ret (pe_disp (pps_cons pe_str (pe_revL (pe_lc (own := [("_law_cell", 4)]) (g := gName 4) rfl sc_law_source.nd (pi_list (pv 2)) (blkOk_by (N := N_law_source) (sc := defScope s_law_source) (by decide +kernel)) (fun _ _ _ _ _ => (pg_name (i := 4) sc_law_source.nd rfl (Or.inl rfl))) (fun _ _ _ _ _ => (pts_one (pt_cmpR op_ge (pv 4) (pe_op op_pow pe_int pe_int) (nomark _)))) (fun _ _ _ _ _ => (pv 4)))) (pps_cons pe_str (pv 3) pps_nil)) rfl rfl (by simp) (by decide))))))), ?_⟩
    refine ⟨_, rfl, _, rfl, _, rfl, _, rfl, sa, _, rfl, hS, fun p hp => ?_⟩
    refine ⟨p, rfl, ⟨_, .inl (.inl upd_same)⟩, fun D hD => ?_⟩
    rw [cut_62, ← List.map_take] at hD ⊢
    generalize ens : ns0.take 62 = ns at hD ⊢
    have hlen' : ns.length ≤ 62 := by rw [← ens, List.length_take]; omega
    have s1 : Same H (upd H p (.lst (ns.map V.int))) := Same.upd_new hp
    have p1 : (upd H p (.lst (ns.map V.int))) p = some (.lst (ns.map V.int)) := upd_same
    generalize upd H p (.lst (ns.map V.int)) = H1 at s1 p1 hD ⊢
    refine lc_list (K := K) (a := p) (xs := ns.map V.int) (fun i H' => Same H1 H' ∧ H' D = some (.lst (((ns.take i).map absI).map V.int))) ⟨Same.upd_new hD, upd_same⟩ (fun i H' _ h => .inl (.inl (h.1 _ _ p1))) ?_ ?_
    · rintro i x H' hx ⟨t1, t2⟩
      obtain ⟨z, hz, rfl⟩ := get_map_int hx
      refine ⟨rfl, _, rfl, .inl ⟨_, rfl, _, rfl, _, t2, ?_, fun b o e => ?_, ?_⟩⟩
      · rw [List.length_map, List.length_map, List.length_take]
        exact small1000 (by omega)
      · rw [upd_ne (ne_of_none e hD)]
        exact t1 b o e
      · rw [take_succ_map _ hz, List.map_append]
        exact upd_same
    · rintro H2 ⟨t1, t2⟩
      rw [List.length_map, List.take_length] at t2
      replace s1 := s1.trans t1
      refine ⟨_, rfl, _, _, rfl, rfl, .inl ⟨by decide, by decide⟩, _, _, rfl, rfl, ?_⟩
      refine ⟨_, rfl, D, rfl, ⟨_, .inl (.inl t2)⟩, ?_⟩
      refine for_list (K := K) (a := D) (xs := (ns.map absI).map V.int) (fun i σ H' => ∃ (b : Int) (v : Option V), σ = [some (.ref sa), some (.int 0), some (.ref D), some (.int b), v] ∧ 0 ≤ b ∧ b < 2147483647 ∧ H' = H2) ⟨_, _, rfl, by decide, by decide, rfl⟩
        (fun i σ H' _ ⟨_, _, _, _, _, e⟩ => by rw [e]; exact .inl (.inl t2)) ?_ ?_
      · rintro i x σ H' hx ⟨b, v, rfl, b0, b1, rfl⟩
        obtain ⟨z, hz, rfl⟩ := get_map_int hx
        refine ⟨_, rfl, _, _, rfl, rfl, .inl ⟨by omega, by omega⟩, _, rfl, .inl ⟨_, rfl, _, _, rfl, rfl, (by show (0 : Int) < 2147483543; decide), _, _, rfl, rfl, _, _, rfl, rfl, .inl ⟨_, rfl, _, _, rfl, rfl, (by show (0 : Int) < 2147483647; decide), ?_⟩⟩⟩
        exact ⟨_, _, rfl, Int.emod_nonneg _ (by decide), Int.emod_lt_of_pos _ (by decide), rfl⟩
      · rintro σ H' ⟨b, v, rfl, b0, b1, rfl⟩
        refine fun pd hpd => ?_
        have sP := Same.upd_new (o := .dK []) hpd
        have hP : (upd H' pd (.dK [])) pd = some (.dK []) := upd_same
        have hpH : H pd = none := s1.free hpd
        generalize upd H' pd (.dK []) = HP at sP hP ⊢
        replace t2 := sP _ _ t2
        refine ⟨_, rfl, D, rfl, ⟨_, .inl (.inl t2)⟩, fun D2 hD2 => ?_⟩
        refine lc_list (K := K) (a := D) (xs := (ns.map absI).map V.int) (fun i H3 => Same HP H3 ∧ ∃ acc : List Int, H3 D2 = some (.lst (acc.map V.int)) ∧ (∀ c ∈ acc, 0 ≤ c) ∧ acc.length ≤ i) ⟨Same.upd_new hD2, [], upd_same, (fun _ h => by cases h), Nat.le_refl _⟩
          (fun i H3 _ h => .inl (.inl (h.1 _ _ t2))) ?_ ?_
        · rintro i x H3 hx ⟨u1, acc, u2, u3, u4⟩
          obtain ⟨z, hz, rfl⟩ := get_map_int hx
          have z0 : 0 ≤ z := by
            have := List.mem_of_getElem? hz
            obtain ⟨y, _, rfl⟩ := List.mem_map.mp this
            exact absI_nn y
          have hi : i < ns.length := by
            have := (List.getElem?_eq_some_iff.mp hz).1
            rw [List.length_map] at this
            exact this
          refine ⟨rfl, _, rfl, _, _, rfl, rfl, ⟨by decide, by decide, by decide⟩, _, _, rfl, rfl, _, rfl, ?_⟩
          refine ite2 (fun c => ?_) (fun c => ⟨u1, acc, u2, u3, by omega⟩)
          refine ⟨_, rfl, _, u2, ?_, ?_, acc ++ [z], ?_, ?_, ?_⟩
          · rw [List.length_map]
            exact small1000 (by omega)
          · intro b2 o e
            rw [upd_ne (ne_of_none e hD2)]
            exact u1 b2 o e
          · rw [List.map_append]
            exact upd_same
          · intro c hc
            rcases List.mem_append.mp hc with hc | hc
            · exact u3 c hc
            · rw [List.mem_singleton.mp hc]
              exact z0
          · rw [List.length_append]
            simp only [List.length_cons, List.length_nil]
            omega
        · rintro H3 ⟨u1, acc, u2, u3, u4⟩
          rw [List.length_map, List.length_map] at u4
          refine ⟨D2, _, rfl, .inl (.inl u2), fun l hl => ⟨_, rfl, ?_⟩⟩
          have hP3 := u1 _ _ hP
          have hlp : l ≠ pd := (ne_of_none hP3 hl).symm
          refine ⟨by rw [upd_ne hlp.symm]; exact hP3, [(gK, .ref l), (sK, .int b)], rfl, (by show 2 ≤ 15; decide), ?_⟩
          rw [dkA_merge]
          have sH : Same H H3 := (s1.trans sP).trans u1
          refine k pd l _ hpH (sH.free hl) ⟨⟨acc.reverse, b, upd_same, ?_, ?_, ?_, b0, b1⟩⟩ (fun a o e => ?_)
          · rw [upd_ne hlp, upd_same, List.map_reverse]
          · intro c hc
            exact u3 c (List.mem_reverse.mp hc)
          · rw [List.length_reverse]
            omega
          · rw [upd_ne (ne_of_none e hpH)]
            exact (Same.upd_new hl) _ _ (sH _ _ e)
end
end L2.Wk
namespace L2.Wk
open PySem PySem.Spec PyProof.Rows
abbrev s_each_once : Stmt := top 19
abbrev N_each_once : List Str := ["steps", "kept", "places", "moved", "step", "new", "at"]
theorem sc_each_once : FnScope N_each_once ["steps"] (defScope s_each_once) := ⟨rfl, rfl, rfl, by decide +kernel, rfl, by decide +kernel, by decide +kernel⟩
abbrev s_text : Stmt := top 22
abbrev N_text : List Str := ["steps", "texts", "step", "at"]
theorem sc_text : FnScope N_text ["steps"] (defScope s_text) := ⟨rfl, rfl, rfl, by decide +kernel, rfl, by decide +kernel, by decide +kernel⟩
/-! ### formulas as steps -/
abbrev Step := Str × List Nat
def stepV (st : Step) : List V := .str st.1 :: st.2.map fun j => V.int (j : Nat)
def StepAt (K : PySem.W.Frag) (H : Hp) (v : V) (st : Step) : Prop := ∃ q, v = .ref q ∧ SqT K H q (stepV st)
theorem StepAt.same {K : PySem.W.Frag} {H H' : Hp} (s : Same H H') (v : V) (st : Step) : StepAt K H v st → StepAt K H' v st := fun ⟨q, e, h⟩ => ⟨q, e, Same.sqT s h⟩
/-- the words of each step, told from the left -/
def wordsS (acc : List (List Str)) (st : Step) : List Str := st.1 :: st.2.flatMap fun j => acc.getD j []
def wordsL (S : List Step) : List (List Str) := S.foldl (fun acc st => acc ++ [wordsS acc st]) []
theorem wordsL_snoc (S : List Step) (st : Step) : wordsL (S ++ [st]) = wordsL S ++ [wordsS (wordsL S) st] := by
  unfold wordsL
  rw [List.foldl_append]
  rfl
theorem wordsL_len (S : List Step) : (wordsL S).length = S.length := by
  have q : ∀ (S : List Step) (acc : List (List Str)), (S.foldl (fun acc st => acc ++ [wordsS acc st]) acc).length = acc.length + S.length := by
    intro S
    induction S with
    | nil => intro acc; rfl
    | cons st S ih =>
      intro acc
      rw [List.foldl_cons, ih, List.length_append]
      simp only [List.length_cons, List.length_nil]
      omega
  have := q S []
  unfold wordsL
  rw [this]
  simp
def WfS (S : List Step) : Prop := ∀ (i : Nat) (st : Step), S[i]? = some st → ∀ j ∈ st.2, j < i
def txtW (ws : List Str) : Str := Txt.join (Str.ofString " ") ws
theorem words_take (S : List Step) (i : Nat) (st : Step) (h : S[i]? = some st) : wordsL (S.take (i + 1)) = wordsL (S.take i) ++ [wordsS (wordsL (S.take i)) st] := by
  rw [List.take_add_one, h]
  exact wordsL_snoc _ _
theorem joinL_flat (a : List Nat) : ∀ (L : List (List (List Nat))), (∀ x ∈ L, x ≠ []) → TL.joinL a (L.map (TL.joinL a)) = TL.joinL a L.flatten
  | [], _ => rfl
  | [x], _ => by
    show TL.joinL a x = TL.joinL a (x ++ [])
    rw [List.append_nil]
  | x :: y :: L, h => by
    have ih := joinL_flat a (y :: L) fun z hz => h z (List.mem_cons_of_mem _ hz)
    have hx := h x (List.mem_cons_self ..)
    have hy : (y :: L).flatten ≠ [] := by
      have := h y (by simp)
      intro e
      rw [List.flatten_cons] at e
      exact this (List.append_eq_nil_iff.mp e).1
    show TL.joinL a x ++ (a ++ TL.joinL a ((y :: L).map (TL.joinL a))) = TL.joinL a (x ++ (y :: L).flatten)
    rw [ih]
    have q : ∀ (x z : List (List Nat)), x ≠ [] → z ≠ [] → TL.joinL a (x ++ z) = TL.joinL a x ++ (a ++ TL.joinL a z) := by
      intro x
      induction x with
      | nil => intro z h; exact absurd rfl h
      | cons p x ih =>
        intro z _ hz
        cases x with
        | nil =>
          cases z with
          | nil => exact absurd rfl hz
          | cons r z => rfl
        | cons p2 x =>
          show p ++ (a ++ TL.joinL a (p2 :: x ++ z)) = (p ++ (a ++ TL.joinL a (p2 :: x))) ++ (a ++ TL.joinL a z)
          rw [ih z (by simp) hz]
          simp [List.append_assoc]
    rw [q x _ hx hy]
theorem txt_flat (w : Str) (L : List (List Str)) (h : ∀ x ∈ L, x ≠ []) : Txt.join (Str.ofString " ") (w :: L.map txtW) = txtW (w :: L.flatten) := by
  refine TL.ext_tl ?_
  unfold txtW
  rw [TL.join_eq, TL.join_eq, TL.tl_join, TL.tl_join]
  have e := joinL_flat (TL.tl (Str.ofString " ")) ([TL.tl w] :: L.map (fun x => x.map TL.tl)) (fun x hx => by
    rcases List.mem_cons.mp hx with rfl | hx
    · simp
    · obtain ⟨y, hy, rfl⟩ := List.mem_map.mp hx
      intro e
      exact h y hy (List.map_eq_nil_iff.mp e))
  rw [List.map_cons, List.map_cons, List.map_map]
  have e1 : (TL.joinL (TL.tl (Str.ofString " ")) [TL.tl w]) = TL.tl w := rfl
  rw [List.map_cons, e1, List.map_map] at e
  have e2 : (fun x : List Str => TL.tl (Txt.join (Str.ofString " ") x)) = (TL.joinL (TL.tl (Str.ofString " ")) ∘ fun x : List Str => x.map TL.tl) := by
    funext x
    rw [TL.join_eq, TL.tl_join]
    rfl
  have e3 : (TL.tl ∘ txtW) = fun x : List Str => TL.tl (Txt.join (Str.ofString " ") x) := rfl
  show TL.joinL _ (TL.tl w :: L.map (TL.tl ∘ fun ws => Txt.join (Str.ofString " ") ws)) = _
  rw [show (TL.tl ∘ fun ws : List Str => Txt.join (Str.ofString " ") ws) = fun x : List Str => TL.tl (Txt.join (Str.ofString " ") x) from rfl, e2, e]
  congr 1
  rw [List.flatten_cons, List.map_flatten]
  rfl
end L2.Wk
namespace L2.Wk
open PySem PySem.Spec PyProof.Rows
structure Gf where
  text : Addr
  each : Addr
structure TxtG (K : PySem.W.Frag) (mg : Str → Option Value) (g : Gf) : Prop where
  b_len : mg "len" = none
  b_tuple : mg "tuple" = none
  g__text : mg "_text" = some (.ref g.text)
  k__text : PySem.W.keepIn K (.ref g.text) = true
  g__each_once : mg "_each_once" = some (.ref g.each)
  k__each_once : PySem.W.keepIn K (.ref g.each) = true
theorem wordsL_ne (S : List Step) : ∀ x ∈ wordsL S, x ≠ [] := by
  have q : ∀ (S : List Step) (acc : List (List Str)), (∀ x ∈ acc, x ≠ []) → ∀ x ∈ S.foldl (fun acc st => acc ++ [wordsS acc st]) acc, x ≠ [] := by
    intro S
    induction S with
    | nil => intro acc h; exact h
    | cons st S ih =>
      intro acc h
      rw [List.foldl_cons]
      refine ih _ fun x hx => ?_
      rcases List.mem_append.mp hx with hx | hx
      · exact h x hx
      · rw [List.mem_singleton.mp hx]
        unfold wordsS
        simp
  exact q S [] fun x hx => by cases hx
theorem wordsL_pre (S R : List Step) : ∃ T, wordsL (S ++ R) = wordsL S ++ T := by
  have q : ∀ (R : List Step) (acc : List (List Str)), ∃ T, R.foldl (fun acc st => acc ++ [wordsS acc st]) acc = acc ++ T := by
    intro R
    induction R with
    | nil => intro acc; exact ⟨[], by simp⟩
    | cons st R ih =>
      intro acc
      obtain ⟨T, hT⟩ := ih (acc ++ [wordsS acc st])
      exact ⟨[wordsS acc st] ++ T, by rw [List.foldl_cons, hT, List.append_assoc]⟩
  unfold wordsL
  rw [List.foldl_append]
  exact q R _
theorem wordsL_mem {S : List Step} {i : Nat} {ws : List Str} (h : ws ∈ wordsL (S.take i)) : ws ∈ wordsL S := by
  obtain ⟨T, e⟩ := wordsL_pre (S.take i) (S.drop i)
  rw [List.take_append_drop] at e
  rw [e]
  exact List.mem_append_left _ h
theorem cut_one (x : V) (xs : List V) : cutV (x :: xs) (some 1) none = xs := by
  rw [show (1 : Int) = ((1 : Nat) : Int) from rfl, cut_from]
  rfl
theorem not_all1 (n : Nat) : ¬(HT.sIx (n + 1) 0 (some 1) = 0 ∧ HT.sIx (n + 1) (n + 1) none = n + 1) := fun h => by
  have e := h.1
  rw [show (1 : Int) = ((1 : Nat) : Int) from rfl, HT.sIx_nat] at e
  omega
theorem at_lastG (xs : List V) (y : V) : atI (xs ++ [y]) (-1) = some y := by
  unfold atI ixN
  have hl : (xs ++ [y]).length = xs.length + 1 := by
    rw [List.length_append]
    rfl
  rw [hl, if_neg (by decide), if_pos (by omega)]
  have e : ((-1 : Int) + ((xs.length + 1 : Nat) : Int)).toNat = xs.length := by omega
  rw [e]
  show (xs ++ [y])[xs.length]? = some y
  rw [List.getElem?_append_right (Nat.le_refl _)]
  simp
def spTextG (K : PySem.W.Frag) : Sp := fun vs H Q _ => ∃ (t : Addr) (rs : List V) (S : List Step), vs = [.ref t] ∧ SqT K H t rs ∧ AllAt (StepAt K H) rs S ∧ S ≠ [] ∧ S.length ≤ 1000 ∧ WfS S ∧ (∀ st ∈ S, st.2.length ≤ 2) ∧
  (∀ ws ∈ wordsL S, (ws.map fun x => x.length).sum + ws.length ≤ 100000) ∧ ∀ H', Same H H' → Q (.str (txtW ((wordsL S).getLastD []))) H'
theorem joinL_lenG (S : List Nat) : ∀ l : List (List Nat), (TL.joinL S l).length = (l.map List.length).sum + S.length * (l.length - 1)
  | [] => by simp [TL.joinL]
  | [p] => by simp [TL.joinL]
  | p :: q :: r => by
    show (p ++ (S ++ TL.joinL S (q :: r))).length = _
    rw [List.length_append, List.length_append, joinL_lenG S (q :: r)]
    simp only [List.map_cons, List.sum_cons, List.length_cons]
    have : S.length * (r.length + 1 + 1 - 1) = S.length * (r.length + 1 - 1) + S.length := by
      have e1 : r.length + 1 + 1 - 1 = (r.length + 1 - 1) + 1 := by omega
      rw [e1, Nat.mul_add, Nat.mul_one]
    omega
theorem join_lenG (y : Str) (l : List Str) : (Txt.join y l).length = (l.map fun z => z.length).sum + y.length * (l.length - 1) := by
  rw [TL.len_tl, TL.join_eq, TL.tl_join, joinL_lenG, List.map_map, List.length_map, ← TL.len_tl]
  have e : l.map (List.length ∘ TL.tl) = l.map fun z => z.length := List.map_congr_left fun z _ => (TL.len_tl z).symm
  rw [e]
theorem sum_leG {c : Nat} : ∀ {l : List Str}, (∀ z ∈ l, z.length ≤ c) → (l.map fun z => z.length).sum ≤ c * l.length
  | [], _ => by simp
  | z :: l, h => by
    have := sum_leG fun y hy => h y (List.mem_cons_of_mem _ hy)
    have h0 := h z (List.mem_cons_self ..)
    rw [List.map_cons, List.sum_cons, List.length_cons, Nat.mul_add, Nat.mul_one]
    omega
theorem txt_len (ws : List Str) : (txtW ws).length ≤ (ws.map fun x => x.length).sum + ws.length := by
  unfold txtW
  rw [join_lenG, show (Str.ofString " ").length = 1 by decide +kernel]
  omega
section
variable {P : Program} {w : World} {K : PySem.W.Frag} {mg : Str → Option Value} {base : Heap} {g : Gf} {f : Addr} {fd : FuncData}
theorem ok_textG (F : Fun K "_text" "_text" s_text f fd) (T : TxtG K mg g) : FnOk P w K mg base CX0 1 f fd ["steps"] (spTextG K) := by
  refine F.ok sc_text (fun vs H Q E h => ?_) (fun cdv A outer s H vs Q E hr h => ?_)
  · obtain ⟨_, _, _, rfl, _⟩ := h
    rfl
  · obtain ⟨t, rs, S, rfl, ht, hA, ne, hl, wf, ar, sm, k⟩ := h
    refine ⟨_, (pss_cons (ps_set (i := 1) sc_text.nd rfl (Or.inr rfl) (pe_lst pa_nil))
    (pss_cons (ps_for PassesOwn.never rfl (pi_tup (pv 0)) (pg_name (i := 2) sc_text.nd rfl (Or.inl rfl))
      (pss_one (ps_expr (pe_bm PySem.F.plainAttrs_list PySem.F.slot_list_append PySem.F.type_list_append mt_append (pv 1) (pa_cons (pe_join pe_str (pe_lst (pa_cons (pe_ix ix_tup (pv 2) pe_int (fun _ _ => rfl)) (StX.pa_star (pe_lc (own := [("at", 3)]) (g := gName 3) (tt := tYes) rfl sc_text.nd (pi_tup (pe_slice sl_tup (pv 2) (po_some pe_int) po_none)) (blkOk_by (N := N_text) (sc := defScope s_text) (by decide +kernel)) (fun _ _ _ _ _ => (pg_name (i := 3) sc_text.nd rfl (Or.inl rfl))) (fun _ _ _ _ _ => pts_nil) (fun _ _ _ _ _ => (pe_ix (ix_listK (K := K) rfl) (pv 1) (pv 3) (fun _ _ => rfl)))) pa_nil)))) pa_nil)))))
    (pss_one (ps_ret (pe_ix ix_list (pv 1) (pe_un un_neg pe_int) (fun _ _ => rfl)))))), ?_⟩
    refine ⟨by decide, fun L hL => ?_⟩
    have s0 := Same.upd_new (o := .lst []) hL
    have hL0 : (upd H L (.lst [])) L = some (.lst []) := upd_same
    have hk0 : ∀ b o, H b = some o → b ≠ L := fun b o e => ne_of_none e hL
    have hlen := hA.len
    refine ⟨_, rfl, t, rfl, ⟨_, Same.sqT s0 ht⟩, for_tup (K := K) (a := t) (xs := rs) (fun i σ H' => ∃ v2 : Option V, σ = [some (.ref t), some (.ref L), v2, none] ∧ Same H H' ∧ H' L = some (.lst ((wordsL (S.take i)).map fun ws => V.str (txtW ws)))) ⟨_, rfl, s0, hL0⟩ (fun i σ H' _ ⟨_, _, h, _⟩ => Same.sqT h ht) ?_ ?_⟩
    · rintro i x σ H1 hx ⟨v2, rfl, s1, h1⟩
      obtain ⟨st, hst, q, rfl, hq0⟩ := hA.get hx
      obtain ⟨w, args⟩ := st
      have hq : SqT K H1 q (.str w :: args.map fun j => V.int (j : Nat)) := Same.sqT s1 hq0
      have wfi := wf i _ hst
      have tl : (wordsL (S.take i)).length = i := by
        rw [wordsL_len, List.length_take]
        have := (List.getElem?_eq_some_iff.mp hst).1
        omega
      have nei := wordsL_ne (S.take i)
      have tk := words_take S i _ hst
      have arg : ∀ a ∈ args, ∃ ws, (wordsL (S.take i))[a]? = some ws ∧ (wordsL (S.take i)).getD a [] = ws ∧ ws ∈ wordsL (S.take i) := fun a ha => by
        have hai : a < (wordsL (S.take i)).length := by rw [tl]; exact wfi a ha
        refine ⟨(wordsL (S.take i))[a], List.getElem?_eq_getElem hai, ?_, List.getElem_mem hai⟩
        rw [List.getD_eq_getElem?_getD, List.getElem?_eq_getElem hai]
        rfl
      refine ⟨_, rfl, .inl ⟨rfl, _, .inl (.inl h1)⟩, ⟨_, rfl⟩, _, rfl, _, _, _, _, rfl, rfl, hq, atI_nat (j := 0) rfl, _, rfl, _, rfl, q, _, rfl, hq, ?_, fun tq htq => ?_⟩
      · rw [List.length_cons]
        exact not_all1 _
      rw [cut_one]
      have s2 := Same.upd_new (o := .tup (args.map fun j => V.int (j : Nat))) htq
      have htq2 : SqT K (upd H1 tq (.tup (args.map fun j => V.int (j : Nat)))) tq (args.map fun j => V.int (j : Nat)) := .inl (.inl upd_same)
      have h2 := s2 _ _ h1
      generalize upd H1 tq (.tup (args.map fun j => V.int (j : Nat))) = H2 at s2 htq2 h2 ⊢
      refine ⟨tq, rfl, ⟨_, htq2⟩, fun D hD => ?_⟩
      have hDL : L ≠ D := ne_of_none h2 hD
      refine lc_tup (K := K) (a := tq) (xs := args.map fun j => V.int (j : Nat)) (fun j H' => Same H2 H' ∧ H' D = some (.lst ((args.take j).map fun a => V.str (txtW ((wordsL (S.take i)).getD a []))))) ⟨Same.upd_new hD, upd_same⟩ (fun j H' _ h => Same.sqT h.1 htq2) ?_ ?_
      · rintro j y H' hy ⟨t1, d1⟩
        rw [List.getElem?_map] at hy
        obtain ⟨a, ha, rfl⟩ := Option.map_eq_some_iff.mp hy
        obtain ⟨ws, e1, e2, _⟩ := arg a (List.mem_of_getElem? ha)
        have hj : j < args.length := (List.getElem?_eq_some_iff.mp ha).1
        have har := ar _ (List.mem_of_getElem? hst)
        dsimp only at har
        refine ⟨rfl, _, rfl, _, rfl, L, _, _, _, rfl, rfl, .inl (.inl (t1 _ _ h2)), atI_nat (by rw [List.getElem?_map, e1]; rfl), ?_⟩
        refine ⟨_, d1, ?_, fun b o e => ?_, ?_⟩
        · rw [List.length_map, List.length_take]
          exact small1000 (by omega)
        · rw [upd_ne (ne_of_none e hD)]
          exact t1 b o e
        · rw [List.take_add_one, ha, List.map_append]
          show _ = some (HO.lst (_ ++ [V.str (txtW ((wordsL (S.take i)).getD a []))]))
          rw [e2]
          exact upd_same
      · rintro H3 ⟨t1, d1⟩
        rw [List.length_map, List.take_length] at d1
        have s3 := s2.trans t1
        have har := ar _ (List.mem_of_getElem? hst)
        dsimp only at har
        refine ⟨D, _, rfl, .inr (.inl (.inl d1)), ?_, fun lj hlj => ?_⟩
        · show (_ ++ []).length + 1 ≤ _
          rw [List.append_nil, List.length_map]
          exact len1000 (by omega)
        rw [List.append_nil]
        have s4 := s3.trans (Same.upd_new (o := .lst (V.str w :: args.map fun a => V.str (txtW ((wordsL (S.take i)).getD a [])))) hlj)
        have e1 : (Str.ofString " ").length = 1 := by decide +kernel
        have lt : ∀ a ∈ args, (txtW ((wordsL (S.take i)).getD a [])).length ≤ 100000 := fun a ha => by
          obtain ⟨ws, _, e2, e3⟩ := arg a ha
          rw [e2]
          exact Nat.le_trans (txt_len ws) (sm ws (wordsL_mem e3))
        have lw : w.length ≤ 100000 := by
          have m : wordsS (wordsL (S.take i)) (w, args) ∈ wordsL S := wordsL_mem (i := i + 1) (by rw [tk]; exact List.mem_append_right _ (List.mem_singleton.mpr rfl))
          have := sm _ m
          unfold wordsS at this
          rw [List.map_cons, List.sum_cons, List.length_cons] at this
          dsimp only at this
          omega
        have ls : ((args.map fun a => txtW ((wordsL (S.take i)).getD a [])).map fun x => x.length).sum ≤ 100000 * args.length := by
          have q := sum_leG (c := 100000) (l := args.map fun a => txtW ((wordsL (S.take i)).getD a [])) fun z hz => by
            obtain ⟨a, ha, rfl⟩ := List.mem_map.mp hz
            exact lt a ha
          rw [List.length_map] at q
          exact q
        have em : V.str w :: args.map (fun a => V.str (txtW ((wordsL (S.take i)).getD a []))) = (w :: args.map fun a => txtW ((wordsL (S.take i)).getD a [])).map V.str := by
          rw [List.map_cons, List.map_map]
          rfl
        rw [em] at s4 ⊢
        refine ⟨_, lj, w :: args.map fun a => txtW ((wordsL (S.take i)).getD a []), rfl, rfl, .inl (.inl (.inl upd_same)), ?_, ?_⟩
        · rw [e1, List.map_cons, List.sum_cons, List.length_cons, List.length_map]
          omega
        have ej : Txt.join (Str.ofString " ") (w :: args.map fun a => txtW ((wordsL (S.take i)).getD a [])) = txtW (wordsS (wordsL (S.take i)) (w, args)) := by
          have q := txt_flat w (args.map fun a => (wordsL (S.take i)).getD a []) fun x hx => by
            obtain ⟨a, ha, rfl⟩ := List.mem_map.mp hx
            obtain ⟨ws, _, e2, e3⟩ := arg a ha
            rw [e2]
            exact nei _ e3
          rw [List.map_map] at q
          exact q
        rw [ej]
        have hL4 := s4 _ _ h1
        refine ⟨L, _, _, rfl, rfl, hL4, ?_, _, rfl, fun b o e => ?_, ?_⟩
        · rw [List.length_map, tl]
          have := (List.getElem?_eq_some_iff.mp hst).1
          exact small1000 (by omega)
        · rw [upd_ne (hk0 b o e)]
          exact s4 _ _ (s1 b o e)
        · rw [tk, List.map_append]
          exact upd_same
    · rintro σ H1 ⟨v2, rfl, s1, h1⟩
      rw [hlen, List.take_length] at h1
      have hl1 : (wordsL S).length ≠ 0 := by
        rw [wordsL_len]
        exact fun e => ne (List.length_eq_zero_iff.mp e)
      refine ⟨_, rfl, 1, rfl, L, _, _, _, rfl, rfl, .inl (.inl h1), ?_, k H1 s1⟩
      rcases List.eq_nil_or_concat (wordsL S) with e | ⟨m, c, e⟩
      · exact absurd (by rw [e]; rfl) hl1
      · rw [e, List.concat_eq_append, List.map_append, List.getLastD_concat]
        exact at_lastG _ _
end
end L2.Wk
namespace L2.Wk
open PySem PySem.Spec PyProof.Rows
/-! ### each step once -/
def newS (mv : List Nat) (st : Step) : Step := (st.1, st.2.map fun a => mv.getD a 0)
def eStep (d : List Step × List Nat) (st : Step) : List Step × List Nat :=
  if newS d.2 st ∈ d.1 then (d.1, d.2 ++ [d.1.idxOf (newS d.2 st)]) else (d.1 ++ [newS d.2 st], d.2 ++ [d.1.length])
def eachS (S : List Step) : List Step × List Nat := S.foldl eStep ([], [])
theorem eachS_take (S : List Step) (i : Nat) (st : Step) (h : S[i]? = some st) : eachS (S.take (i + 1)) = eStep (eachS (S.take i)) st := by
  rw [List.take_add_one, h]
  unfold eachS
  show (S.take i ++ [st]).foldl eStep _ = _
  rw [List.foldl_append]
  rfl
theorem eachS_lens (S : List Step) : (eachS S).2.length = S.length ∧ (eachS S).1.length ≤ S.length := by
  have q : ∀ (S : List Step) (d : List Step × List Nat), (S.foldl eStep d).2.length = d.2.length + S.length ∧ (S.foldl eStep d).1.length ≤ d.1.length + S.length := by
    intro S
    induction S with
    | nil => intro d; exact ⟨rfl, Nat.le_refl _⟩
    | cons st S ih =>
      intro d
      rw [List.foldl_cons]
      obtain ⟨h1, h2⟩ := ih (eStep d st)
      have e1 : (eStep d st).2.length = d.2.length + 1 ∧ (eStep d st).1.length ≤ d.1.length + 1 := by
        unfold eStep
        split
        · exact ⟨by simp, Nat.le_succ _⟩
        · exact ⟨by simp, by simp⟩
      rw [h1, List.length_cons]
      omega
  have := q S ([], [])
  unfold eachS
  simpa using this
def keyF (st : Step) : List Key := .inr st.1 :: st.2.map fun j => .inl (j : Nat)
theorem keyF_v (st : Step) : (keyF st).map kV = stepV st := by
  unfold keyF stepV
  rw [List.map_cons, List.map_map]
  rfl
theorem map_injN : ∀ {as bs : List Nat}, (as.map fun j : Nat => (Sum.inl (j : Int) : Key)) = bs.map (fun j : Nat => (Sum.inl (j : Int) : Key)) → as = bs
  | [], [], _ => rfl
  | [], _ :: _, h => by cases h
  | _ :: _, [], h => by cases h
  | a :: as, b :: bs, h => by
    rw [List.map_cons, List.map_cons] at h
    injection h with h1 h2
    injection h1 with h1
    rw [map_injN h2, show a = b by omega]
theorem keyF_inj {a b : Step} (h : keyF a = keyF b) : a = b := by
  obtain ⟨w, as⟩ := a
  obtain ⟨v, bs⟩ := b
  unfold keyF at h
  injection h with h1 h2
  injection h1 with h1
  dsimp only at h1 h2
  subst h1
  congr 1
  exact map_injN h2
def kvsOf : Nat → List Step → List (List Key × V)
  | _, [] => []
  | i, s :: ss => (keyF s, .int (i : Nat)) :: kvsOf (i + 1) ss
theorem kvsOf_snoc : ∀ (L : List Step) (i : Nat) (s : Step), kvsOf i (L ++ [s]) = kvsOf i L ++ [(keyF s, .int ((i + L.length : Nat) : Int))]
  | [], i, s => rfl
  | a :: L, i, s => by
    show (keyF a, V.int (i : Nat)) :: kvsOf (i + 1) (L ++ [s]) = _
    rw [kvsOf_snoc L (i + 1) s, List.length_cons, show i + 1 + L.length = i + (L.length + 1) by omega]
    rfl
theorem kvsOf_len : ∀ (L : List Step) (i : Nat), (kvsOf i L).length = L.length
  | [], _ => rfl
  | a :: L, i => by
    show (kvsOf (i + 1) L).length + 1 = _
    rw [kvsOf_len L (i + 1)]
    rfl
theorem kvsOf_val (st : Step) : ∀ (L : List Step) (i : Nat), valV (kvsOf i L) (keyF st) = if st ∈ L then some (.int ((i + L.idxOf st : Nat) : Int)) else none
  | [], _ => rfl
  | a :: L, i => by
    by_cases h : a = st
    · subst h
      rw [if_pos (List.mem_cons_self ..), List.idxOf_cons_self]
      exact valV_pos rfl
    · have hk : ¬ keyF a = keyF st := fun e => h (keyF_inj e)
      have e : valV (kvsOf i (a :: L)) (keyF st) = valV (kvsOf (i + 1) L) (keyF st) := by
        unfold valV
        show (((keyF a, V.int (i : Nat)) :: kvsOf (i + 1) L).find? fun kv => decide (kv.1 = keyF st)).map _ = _
        rw [List.find?_cons_of_neg (by simpa using hk)]
      rw [e, kvsOf_val st L (i + 1), show (a :: L).idxOf st = L.idxOf st + 1 by rw [List.idxOf_cons, show (a == st) = false by simpa using h]; rfl]
      by_cases hm : st ∈ L
      · rw [if_pos hm, if_pos (List.mem_cons_of_mem _ hm), show i + 1 + L.idxOf st = i + (L.idxOf st + 1) by omega]
      · rw [if_neg hm, if_neg (fun e => by rcases List.mem_cons.mp e with e | e; exact h e.symm; exact hm e)]
theorem kvsOf_put {st : Step} {L : List Step} (h : st ∉ L) (v : V) : putK (kvsOf 0 L) (keyF st) v = kvsOf 0 L ++ [(keyF st, v)] := by
  unfold putK
  have q : ∀ (L : List Step) (i : Nat), st ∉ L → ((kvsOf i L).any fun kv => decide (kv.1 = keyF st)) = false := by
    intro L
    induction L with
    | nil => intro i _; rfl
    | cons a L ih =>
      intro i hm
      rw [List.mem_cons, not_or] at hm
      show (decide (keyF a = keyF st) || _) = false
      rw [ih (i + 1) hm.2, decide_eq_false fun e => hm.1 (keyF_inj e).symm]
      rfl
  rw [q L 0 h]
  rfl
end L2.Wk
namespace L2.Wk
open PySem PySem.Spec PyProof.Rows
theorem iteTh {b : Bool} {A B : Prop} (h : b = true) (ha : A) : if b = true then A else B := by
  subst h
  exact iteT ha
theorem iteFh {b : Bool} {A B : Prop} (h : b = false) (hb : B) : if b = true then A else B := by
  subst h
  exact iteF hb
theorem SqT.upd_lst {K : PySem.W.Frag} {H : Hp} {x t : Addr} {xs ys : List V} {o : HO} (hx : H x = some (.lst xs)) (h : SqT K H t ys) : SqT K (L2.upd H x o) t ys := by
  rcases h with (h | ⟨ob, h⟩) | h
  · exact .inl (.inl (by rw [upd_ne (ne_of h hx (by intro z; cases z))]; exact h))
  · exact .inl (.inr ⟨ob, by rw [upd_ne (ne_of h hx (by intro z; cases z))]; exact h⟩)
  · exact .inr h
theorem SqT.upd_dT {K : PySem.W.Frag} {H : Hp} {x t : Addr} {kvs : List (List Key × V)} {ys : List V} {o : HO} (hx : H x = some (.dT kvs)) (h : SqT K H t ys) : SqT K (L2.upd H x o) t ys := by
  rcases h with (h | ⟨ob, h⟩) | h
  · exact .inl (.inl (by rw [upd_ne (ne_of h hx (by intro z; cases z))]; exact h))
  · exact .inl (.inr ⟨ob, by rw [upd_ne (ne_of h hx (by intro z; cases z))]; exact h⟩)
  · exact .inr h
theorem StepAt.upd {K : PySem.W.Frag} {H : Hp} {x : Addr} {xs : List V} {o : HO} (hx : H x = some (.lst xs)) {v : V} {st : Step} : StepAt K H v st → StepAt K (L2.upd H x o) v st := fun ⟨q, e, h⟩ => ⟨q, e, SqT.upd_lst hx h⟩
theorem StepAt.updT {K : PySem.W.Frag} {H : Hp} {x : Addr} {kvs : List (List Key × V)} {o : HO} (hx : H x = some (.dT kvs)) {v : V} {st : Step} : StepAt K H v st → StepAt K (L2.upd H x o) v st := fun ⟨q, e, h⟩ => ⟨q, e, SqT.upd_dT hx h⟩
theorem idx_snoc {st : Step} : ∀ {L : List Step}, st ∉ L → (L ++ [st]).idxOf st = L.length
  | [], _ => by simp [List.idxOf_cons]
  | a :: L, h => by
    rw [List.mem_cons, not_or] at h
    have h1 : (a == st) = false := by simpa using fun e : a = st => h.1 e.symm
    rw [List.cons_append, List.idxOf_cons, h1, List.length_cons, ← idx_snoc h.2]
    rfl
def spEach (K : PySem.W.Frag) : Sp := fun vs H Q _ => ∃ (l : Addr) (rs : List V) (S : List Step), vs = [.ref l] ∧ SqL K H l rs ∧ AllAt (StepAt K H) rs S ∧ S.length ≤ 1000 ∧ WfS S ∧ (∀ st ∈ S, st.2.length ≤ 2) ∧
  ∀ (t : Addr) (us : List V) H', SqT K H' t us → AllAt (StepAt K H') us (eachS S).1 → Same H H' → Q (.ref t) H'
section
variable {P : Program} {w : World} {K : PySem.W.Frag} {mg : Str → Option Value} {base : Heap} {g : Gf} {f : Addr} {fd : FuncData}
theorem ok_each (F : Fun K "_each_once" "_each_once" s_each_once f fd) (T : TxtG K mg g) : FnOk P w K mg base CX0 1 f fd ["steps"] (spEach K) := by
  refine F.ok sc_each_once (fun vs H Q E h => ?_) (fun cdv A outer s H vs Q E hr h => ?_)
  · obtain ⟨_, _, _, rfl, _⟩ := h
    rfl
  · obtain ⟨l, rs, S, rfl, hl, hA, hn, wf, ar, k⟩ := h
    refine ⟨_, (pss_cons (ps_set (i := 1) sc_each_once.nd rfl (Or.inl rfl) (pe_lst pa_nil))
    (pss_cons (ps_set (i := 2) sc_each_once.nd rfl (Or.inl rfl) pe_dnewT)
    (pss_cons (ps_set (i := 3) sc_each_once.nd rfl (Or.inr rfl) (pe_lst pa_nil))
    (pss_cons (ps_for PassesOwn.never rfl (pi_list (pv 0)) (pg_name (i := 4) sc_each_once.nd rfl (Or.inl rfl))
      (pss_cons (ps_set (i := 5) sc_each_once.nd rfl (Or.inl rfl) (pe_tup (pa_cons (pe_ix ix_tup (pv 4) pe_int (fun _ _ => rfl)) (StX.pa_star (pe_lc (own := [("at", 6)]) (g := gName 6) (tt := tYes) rfl sc_each_once.nd (pi_tup (pe_slice sl_tup (pv 4) (po_some pe_int) po_none)) (blkOk_by (N := N_each_once) (sc := defScope s_each_once) (by decide +kernel)) (fun _ _ _ _ _ => (pg_name (i := 6) sc_each_once.nd rfl (Or.inl rfl))) (fun _ _ _ _ _ => pts_nil) (fun _ _ _ _ _ => (pe_ix (ix_listK (K := K) rfl) (pv 3) (pv 6) (fun _ _ => rfl)))) pa_nil))))
      (pss_cons (ps_if (pt_cmp (pc_dnotin (Nat.lt_of_le_of_lt (Nat.add_le_add_left (by decide : 1 ≤ 64) _) hr.units) (pv 5) (pv 2)) (by rfl)) (pss_cons (ps_asg (pe_callB call_len (by rfl) T.b_len PySem.boot_len (pa_cons (pv 1) pa_nil)) (pg_sub (pv 2) (pv 5) (set_dict (Nat.lt_of_le_of_lt (Nat.add_le_add_left (by decide : 1 ≤ 64) _) hr.units))))
    (pss_one (ps_expr (pe_bm PySem.F.plainAttrs_list PySem.F.slot_list_append PySem.F.type_list_append mt_append (pv 1) (pa_cons (pv 5) pa_nil))))) pss_nil)
      (pss_one (ps_expr (pe_bm PySem.F.plainAttrs_list PySem.F.slot_list_append PySem.F.type_list_append mt_append (pv 3) (pa_cons (pe_dget (Nat.lt_of_le_of_lt (Nat.add_le_add_left (by decide : 1 ≤ 64) _) hr.units) (pv 2) (pv 5) (fun _ _ => rfl)) pa_nil)))))))
    (pss_one (ps_ret (pe_callTy call_tupS (by rfl) T.b_tuple (by decide +kernel) (pa_cons (pv 1) pa_nil)))))))), ?_⟩
    have hlen := hA.len
    refine ⟨by decide, fun pk hpk => ?_⟩
    have s1 := Same.upd_new (o := .lst []) hpk
    have hk1 : (upd H pk (.lst [])) pk = some (.lst []) := upd_same
    generalize upd H pk (.lst []) = H1 at s1 hk1 ⊢
    refine fun pp hpp => ?_
    have s2 := s1.trans (Same.upd_new (o := .dT []) hpp)
    have hk2 := (Same.upd_new (o := .dT []) hpp) _ _ hk1
    have hp2 : (upd H1 pp (.dT [])) pp = some (.dT []) := upd_same
    have pkp : pk ≠ pp := ne_of_none hk1 hpp
    have hpp0 : H pp = none := s1.free hpp
    generalize upd H1 pp (.dT []) = H2 at s2 hk2 hp2 ⊢
    refine ⟨by decide, fun pm hpm => ?_⟩
    have s3 := s2.trans (Same.upd_new (o := .lst []) hpm)
    have hk3 := (Same.upd_new (o := .lst []) hpm) _ _ hk2
    have hp3 := (Same.upd_new (o := .lst []) hpm) _ _ hp2
    have hm3 : (upd H2 pm (.lst [])) pm = some (.lst []) := upd_same
    have pkm : pk ≠ pm := ne_of_none hk2 hpm
    have ppm : pp ≠ pm := ne_of_none hp2 hpm
    have hpm0 : H pm = none := s2.free hpm
    generalize upd H2 pm (.lst []) = H3 at s3 hk3 hp3 hm3 ⊢
    refine ⟨_, rfl, l, rfl, ⟨_, Same.sqL s3 hl⟩, for_list (K := K) (a := l) (xs := rs) (fun i σ H' => ∃ (v4 v5 : Option V) (us : List V), σ = [some (.ref l), some (.ref pk), some (.ref pp), some (.ref pm), v4, v5, none] ∧ Same H H' ∧ H' pk = some (.lst us) ∧ AllAt (StepAt K H') us (eachS (S.take i)).1 ∧ H' pp = some (.dT (kvsOf 0 (eachS (S.take i)).1)) ∧ H' pm = some (.lst ((eachS (S.take i)).2.map fun j => V.int (j : Nat)))) ⟨_, _, [], rfl, s3, hk3, True.intro, hp3, hm3⟩ (fun i σ H' _ ⟨_, _, _, _, h, _⟩ => Same.sqL h hl) ?_ ?_⟩
    · rintro i x σ H4 hx ⟨v4, v5, us, rfl, s4, hk4, hU, hp4, hm4⟩
      obtain ⟨st, hst, q, rfl, hq0⟩ := hA.get hx
      have hi : i < S.length := (List.getElem?_eq_some_iff.mp hst).1
      have har := ar _ (List.mem_of_getElem? hst)
      have wfi := wf i _ hst
      have et := eachS_take S i st hst
      obtain ⟨ml, kl⟩ := eachS_lens (S.take i)
      rw [List.length_take] at ml kl
      obtain ⟨w, args⟩ := st
      dsimp only at har wfi
      have hq : SqT K H4 q (.str w :: args.map fun j => V.int (j : Nat)) := Same.sqT s4 hq0
      generalize eachS (S.take i) = d at *
      refine ⟨_, rfl, _, _, _, _, rfl, rfl, hq, atI_nat (j := 0) rfl, _, rfl, _, rfl, q, _, rfl, hq, ?_, fun tq htq => ?_⟩
      · rw [List.length_cons]
        exact not_all1 _
      rw [cut_one]
      have s5 := Same.upd_new (o := .tup (args.map fun j => V.int (j : Nat))) htq
      have htq5 : SqT K (upd H4 tq (.tup (args.map fun j => V.int (j : Nat)))) tq (args.map fun j => V.int (j : Nat)) := .inl (.inl upd_same)
      generalize upd H4 tq (.tup (args.map fun j => V.int (j : Nat))) = H5 at s5 htq5 ⊢
      have hm5 := s5 _ _ hm4
      refine ⟨tq, rfl, ⟨_, htq5⟩, fun D hD => ?_⟩
      refine lc_tup (K := K) (a := tq) (xs := args.map fun j => V.int (j : Nat)) (fun j H' => Same H5 H' ∧ H' D = some (.lst ((args.take j).map fun a => V.int ((d.2.getD a 0 : Nat) : Int)))) ⟨Same.upd_new hD, upd_same⟩ (fun j H' _ h => Same.sqT h.1 htq5) ?_ ?_
      · rintro j y H' hy ⟨t1, d1⟩
        rw [List.getElem?_map] at hy
        obtain ⟨a, ha, rfl⟩ := Option.map_eq_some_iff.mp hy
        have hj : j < args.length := (List.getElem?_eq_some_iff.mp ha).1
        have hai : a < d.2.length := by
          have := wfi a (List.mem_of_getElem? ha)
          omega
        have e2 : d.2.getD a 0 = d.2[a] := by
          rw [List.getD_eq_getElem?_getD, List.getElem?_eq_getElem hai]
          rfl
        refine ⟨rfl, _, rfl, _, rfl, pm, _, _, _, rfl, rfl, .inl (.inl (t1 _ _ hm5)), atI_nat (by rw [List.getElem?_map, List.getElem?_eq_getElem hai]; rfl), ?_⟩
        refine ⟨_, d1, ?_, fun b o e => ?_, ?_⟩
        · rw [List.length_map, List.length_take]
          exact small1000 (by omega)
        · rw [upd_ne (ne_of_none e hD)]
          exact t1 b o e
        · rw [List.take_add_one, ha, List.map_append]
          show _ = some (HO.lst (_ ++ [V.int ((d.2.getD a 0 : Nat) : Int)]))
          rw [e2]
          exact upd_same
      · rintro H6 ⟨t1, d1⟩
        rw [List.length_map, List.take_length] at d1
        have s6 := s5.trans t1
        refine ⟨D, _, rfl, .inr (.inl (.inl d1)), ?_, fun tn htn => ?_⟩
        · show (_ ++ []).length + 1 ≤ _
          rw [List.append_nil, List.length_map]
          exact len1000 (by omega)
        rw [List.append_nil]
        have ek : HO.tup (V.str w :: args.map fun a => V.int ((d.2.getD a 0 : Nat) : Int)) = HO.tup ((keyF (newS d.2 (w, args))).map kV) := by
          rw [keyF_v]
          unfold stepV newS
          rw [List.map_map]
          rfl
        rw [ek]
        have s7 := s6.trans (Same.upd_new (o := .tup ((keyF (newS d.2 (w, args))).map kV)) htn)
        have htn7 : (upd H6 tn (.tup ((keyF (newS d.2 (w, args))).map kV))) tn = some (.tup ((keyF (newS d.2 (w, args))).map kV)) := upd_same
        generalize upd H6 tn (.tup ((keyF (newS d.2 (w, args))).map kV)) = H7 at s7 htn7 ⊢
        have hk7 := s7 _ _ hk4
        have hp7 := s7 _ _ hp4
        have hm7 := s7 _ _ hm4
        replace hU := hU.imp (StepAt.same s7)
        replace s4 := s4.trans s7
        have ev := kvsOf_val (newS d.2 (w, args)) d.1 0
        unfold eStep at et
        generalize newS d.2 (w, args) = nw at *
        refine ⟨_, rfl, _, rfl, pp, _, rfl, DGet.t hp7 htn7, _, rfl, ?_⟩
        rw [ev]
        have hul := hU.len
        by_cases hm : nw ∈ d.1
        · rw [if_pos hm] at et
          refine iteFh (by rw [if_pos hm]; rfl) ?_
          have g : DGet H7 pp (.ref tn) (some (.int ((0 + d.1.idxOf nw : Nat) : Int))) := by
            have := DGet.t hp7 htn7
            rw [ev, if_pos hm] at this
            exact this
          refine ⟨_, rfl, .inl ⟨rfl, _, .inl (.inl hm7)⟩, _, rfl, _, rfl, pp, _, rfl, g, pm, _, _, rfl, rfl, hm7, ?_, ?_⟩
          · rw [List.length_map]
            exact small1000 (by omega)
          · have ne : ∀ b o, H7 b = some o → b ≠ pm → (upd H7 pm (.lst ((d.2.map fun j => V.int (j : Nat)) ++ [V.int ((0 + d.1.idxOf nw : Nat) : Int)]))) b = some o := fun b o e hb => by rw [upd_ne hb]; exact e
            refine ⟨_, _, us, rfl, fun b o e => ne b o (s4 b o e) (ne_of_none e hpm0), ne _ _ hk7 pkm, ?_, ?_, ?_⟩
            · rw [et]
              exact hU.imp fun v st h => StepAt.upd hm7 h
            · rw [et]
              exact ne _ _ hp7 ppm
            · rw [et, List.map_append]
              show _ = some (HO.lst (_ ++ [V.int ((d.1.idxOf nw : Nat) : Int)]))
              rw [show ((0 + d.1.idxOf nw : Nat) : Int) = ((d.1.idxOf nw : Nat) : Int) by omega]
              exact upd_same
        · rw [if_neg hm] at et
          refine iteTh (by rw [if_neg hm]; rfl) ?_
          refine ⟨_, rfl, _, us.length, rfl, .inl ⟨_, .inl (.inl hk7), rfl⟩, _, rfl, _, rfl, pp, _, rfl, DPut.t hp7 htn7 (by rw [kvsOf_len]; exact small1000 (by omega)), ?_⟩
          rw [kvsOf_put hm, hul]
          have e8 : kvsOf 0 d.1 ++ [(keyF nw, V.int (d.1.length : Nat))] = kvsOf 0 (d.1 ++ [nw]) := by
            rw [kvsOf_snoc, Nat.zero_add]
          rw [e8]
          have n8 : ∀ b o, H7 b = some o → b ≠ pp → (upd H7 pp (.dT (kvsOf 0 (d.1 ++ [nw])))) b = some o := fun b o e hb => by rw [upd_ne hb]; exact e
          have hp8 : (upd H7 pp (.dT (kvsOf 0 (d.1 ++ [nw])))) pp = some (.dT (kvsOf 0 (d.1 ++ [nw]))) := upd_same
          have hk8 := n8 _ _ hk7 pkp
          have hm8 := n8 _ _ hm7 ppm.symm
          have htn8 := n8 _ _ htn7 (by intro e; rw [e, hp7] at htn7; cases htn7)
          have hU8 : AllAt (StepAt K (upd H7 pp (.dT (kvsOf 0 (d.1 ++ [nw]))))) us d.1 := hU.imp fun v st h => StepAt.updT hp7 h
          have s8 : ∀ b o, H b = some o → (upd H7 pp (.dT (kvsOf 0 (d.1 ++ [nw])))) b = some o := fun b o e => n8 b o (s4 b o e) (ne_of_none e hpp0)
          generalize upd H7 pp (.dT (kvsOf 0 (d.1 ++ [nw]))) = H8 at n8 hp8 hk8 hm8 htn8 hU8 s8 ⊢
          refine ⟨_, rfl, .inl ⟨rfl, _, .inl (.inl hk8)⟩, _, rfl, pk, _, _, rfl, rfl, hk8, ?_, ?_⟩
          · rw [hul]
            exact small1000 (by omega)
          have n9 : ∀ b o, H8 b = some o → b ≠ pk → (upd H8 pk (.lst (us ++ [.ref tn]))) b = some o := fun b o e hb => by rw [upd_ne hb]; exact e
          have hk9 : (upd H8 pk (.lst (us ++ [.ref tn]))) pk = some (.lst (us ++ [.ref tn])) := upd_same
          have hp9 := n9 _ _ hp8 pkp.symm
          have hm9 := n9 _ _ hm8 pkm.symm
          have htn9 := n9 _ _ htn8 (by intro e; rw [e, hk8] at htn8; cases htn8)
          have hU9 : AllAt (StepAt K (upd H8 pk (.lst (us ++ [.ref tn])))) us d.1 := hU8.imp fun v st h => StepAt.upd hk8 h
          have s9 : ∀ b o, H b = some o → (upd H8 pk (.lst (us ++ [.ref tn]))) b = some o := fun b o e => n9 b o (s8 b o e) (ne_of_none e hpk)
          generalize upd H8 pk (.lst (us ++ [.ref tn])) = H9 at n9 hk9 hp9 hm9 htn9 hU9 s9 ⊢
          have g : DGet H9 pp (.ref tn) (some (.int (d.1.length : Nat))) := by
            have := DGet.t hp9 htn9
            rw [kvsOf_val, if_pos (List.mem_append_right _ (List.mem_singleton.mpr rfl)), idx_snoc hm, Nat.zero_add] at this
            exact this
          refine ⟨_, rfl, .inl ⟨rfl, _, .inl (.inl hm9)⟩, _, rfl, _, rfl, pp, _, rfl, g, pm, _, _, rfl, rfl, hm9, ?_, ?_⟩
          · rw [List.length_map]
            exact small1000 (by omega)
          · have ne : ∀ b o, H9 b = some o → b ≠ pm → (upd H9 pm (.lst ((d.2.map fun j => V.int (j : Nat)) ++ [V.int (d.1.length : Nat)]))) b = some o := fun b o e hb => by rw [upd_ne hb]; exact e
            refine ⟨_, _, us ++ [.ref tn], rfl, fun b o e => ne b o (s9 b o e) (ne_of_none e hpm0), ne _ _ hk9 pkm, ?_, ?_, ?_⟩
            · rw [et]
              refine AllAt.app (hU9.imp fun v st h => StepAt.upd hm9 h) ⟨StepAt.upd hm9 ⟨tn, rfl, ?_⟩, True.intro⟩
              rw [← keyF_v]
              exact .inl (.inl htn9)
            · rw [et]
              exact ne _ _ hp9 ppm
            · rw [et, List.map_append]
              exact upd_same
    · rintro σ H4 ⟨v4, v5, us, rfl, s4, hk4, hU, hp4, hm4⟩
      rw [hlen, List.take_length] at hU
      refine ⟨_, rfl, ?_⟩
      dsimp only [tNil]
      refine rTup_of (K := K) (a := pk) (xs := us) (.inl (.inl (.inl hk4))) fun t H5 h5 s5 => ?_
      exact k t us H5 h5 (hU.imp (StepAt.same s5)) (s4.trans s5)
end
end L2.Wk
namespace L2.Wk
open PySem PySem.Spec PyProof.Rows
abbrev s_Formula_init : Stmt := inClass (top 16) 0
abbrev N_Formula_init : List Str := ["self", "steps", "step"]
theorem sc_Formula_init : FnScope N_Formula_init ["self", "steps"] (defScope s_Formula_init) := ⟨rfl, rfl, rfl, by decide +kernel, rfl, by decide +kernel, by decide +kernel⟩
abbrev s_Formula_str : Stmt := inClass (top 16) 16
abbrev N_Formula_str : List Str := ["self"]
theorem sc_Formula_str : FnScope N_Formula_str ["self"] (defScope s_Formula_str) := ⟨rfl, rfl, rfl, by decide +kernel, rfl, by decide +kernel, by decide +kernel⟩
theorem exm_two {K : PySem.W.Frag} {S C : Addr} (h1 : PySem.W.subIn K (.ref C) (.type "BaseException") = some true) (h2 : PySem.W.isClsIn K C = true) (h3 : PySem.W.typeIn K (.ref C) = some (.type "type")) (h4 : PySem.W.subIn K (.ref S) (.ref C) = some true) :
    PySem.W.exmOne K (.ref S) (.ref C) = some true := by
  have e1 : (PySem.W.subIn K (.ref C) (.type "BaseException") == some true) = true := by rw [h1] <;> rfl
  have e2 : ((PySem.W.clsIn K C).isSome && PySem.W.typeIn K (.ref C) == some (.type "type")) = true := by
    have h2' : (PySem.W.clsIn K C).isSome = true := h2
    rw [h2', h3] <;> rfl
  show (if (PySem.W.subIn K (.ref C) (.type "BaseException") == some true) = true then (if ((PySem.W.clsIn K C).isSome && PySem.W.typeIn K (.ref C) == some (.type "type")) = true then PySem.W.subIn K (.ref S) (.ref C) else none) else none) = some true
  rw [if_pos e1, if_pos e2]
  exact h4
def signsV : List Str := txts ["&", "|", "^", "~"]
def constV : List Str := txts ["0", "1"]
theorem putF_len_lt {f : Str} {v : V} : ∀ {l : List (Str × V)} {n : Nat}, l.length < n → (putF f v l).length < n + 1
  | [], n, h => by
    show 1 < n + 1
    simp only [List.length_nil] at h
    omega
  | (g, u) :: l, n, h => by
    unfold putF
    split
    · simp only [List.length_cons] at h ⊢
      omega
    · simp only [List.length_cons] at h ⊢
      cases n with
      | zero => omega
      | succ n =>
        have := putF_len_lt (f := f) (v := v) (l := l) (n := n) (by omega)
        omega
def formF (ts tn : Addr) : List (Str × V) := putF "names" (.ref tn) (putF "steps" (.ref ts) [])
/-- an instance written anew: the tuples stand -/
theorem SqT.upd_ins {K : PySem.W.Frag} {H : Hp} {p t C dx : Addr} {fs : List (Str × V)} {o : HO} {xs : List V} (hp : H p = some (.ins C dx fs)) (h : SqT K H t xs) : SqT K (upd H p o) t xs := by
  have q : ∀ u : HO, (∀ C dx fs, u ≠ .ins C dx fs) → H t = some u → (upd H p o) t = some u := fun u hu e => by
    have : t ≠ p := by
      intro e2
      rw [e2, hp] at e
      exact hu _ _ _ (Option.some.inj e).symm
    rw [upd_ne this]
    exact e
  rcases h with (h | ⟨ob, h⟩) | h
  · exact .inl (.inl (q _ (fun _ _ _ z => by cases z) h))
  · exact .inl (.inr ⟨ob, q _ (fun _ _ _ z => by cases z) h⟩)
  · exact .inr h
theorem made_same {H : Hp} {x dx C : Addr} (nx : H x = none) (nd : H dx = none) : Same H (upd (upd H dx (.own x)) x (.ins C dx [])) := fun b o e => by
  rw [upd_ne (ne_of_none e nx), upd_ne (ne_of_none e nd)]
  exact e
theorem made_keep {H H' : Hp} {x dx C : Addr} (nx : H x = none) (nd : H dx = none) (k : ∀ b o, (upd (upd H dx (.own x)) x (.ins C dx [])) b = some o → b ≠ x → H' b = some o) : Same H H' := fun b o e => k b o (made_same nx nd b o e) (ne_of_none e nx)
theorem ok_calm {P : Program} {w : World} {K : PySem.W.Frag} {mg : Str → Option Value} {base : Heap} {k : Nat} {f : Addr} {fd : FuncData} {ps : List Str} {sp sp' : Sp} (F : FnOk P w K mg base (L2.CX P w) k f fd ps sp)
    (h : ∀ vs H Q E, sp' vs H Q E → sp vs H Q (fun _ _ _ => False)) : FnOk P w K mg base CX0 k f fd ps sp' :=
  ⟨fun vs H Q E q => F.len vs H Q _ (h _ _ _ _ q), fun A outer s H args us vs Q E hr he hb hv hs => codeAny_mono (F.run A outer s H args us vs Q _ hr he hb hv (h _ _ _ _ hs)) fun r s' hq => by
    cases r with
    | ok fl => cases fl <;> exact hq
    | error e =>
      obtain ⟨_, _, _, _, _, _, _, _, _, _, _, _, z⟩ := hq
      exact z.elim⟩

/-! ### any formula -/
structure Fg where
  Formula : Addr
  fInit : Addr
  SIGNS : Addr
  ses : Array DictEntry
  sn : Nat
  CONSTANTS : Addr
  str : Addr
def arityW (z : Str) : Nat := if z ∈ signsV then (if z = Str.ofString "~" then 1 else 2) else 0
def namesS (S : List Step) : List Str := (S.map Prod.fst).filter fun z => !decide (z ∈ signsV) && !decide (z ∈ constV)
structure FoAt (K : PySem.W.Frag) (C : Addr) (H : Hp) (p : Addr) (S : List Step) : Prop where
  ex : ∃ (dx ts tn : Addr) (rs : List V) (ns : List Str), H p = some (.ins C dx (formF ts tn)) ∧ SqT K H ts rs ∧ AllAt (StepAt K H) rs S ∧ SqT K H tn (ns.map V.str) ∧ Asc ns (namesS S)
theorem FoAt.same {K : PySem.W.Frag} {C : Addr} {H H' : Hp} {p : Addr} {S : List Step} (s : Same H H') (h : FoAt K C H p S) : FoAt K C H' p S := by
  obtain ⟨dx, ts, tn, rs, ns, h1, h2, h3, h4, h5⟩ := h.ex
  exact ⟨dx, ts, tn, rs, ns, s _ _ h1, Same.sqT s h2, h3.imp (StepAt.same s), Same.sqT s h4, h5⟩
structure TxtFg (K : PySem.W.Frag) (w : World) (mg : Str → Option Value) (a : Wf) (g : Gf) (c : Fg) : Prop extends TxtW K mg a where
  cl : Cls K c.Formula
  M : Mk K c.Formula c.fInit
  g_Formula : mg "Formula" = some (.ref c.Formula)
  g_SIGNS : mg "SIGNS" = some (.ref c.SIGNS)
  d_SIGNS : KDict K w c.SIGNS c.ses c.sn
  m_SIGNS : ∀ z, z ∉ signsV → PySem.W.nsIn K c.SIGNS z = some none
  h_SIGNS : ∀ z ∈ signsV, ∃ u, PySem.W.nsIn K c.SIGNS z = some (some u) ∧ RelV (.int (arityW z : Nat)) u
  g_CONSTANTS : mg "CONSTANTS" = some (.ref c.CONSTANTS)
  s_CONSTANTS : ∀ H, SqT K H c.CONSTANTS (constV.map V.str)
  n_steps : NoAttr K c.Formula "steps"
  n_names : NoAttr K c.Formula "names"
  g__text : mg "_text" = some (.ref g.text)
  k__text : PySem.W.keepIn K (.ref g.text) = true
theorem StepAt.upd_ins {K : PySem.W.Frag} {H : Hp} {p C dx : Addr} {fs : List (Str × V)} {o : HO} (hp : H p = some (.ins C dx fs)) (v : V) (st : Step) : StepAt K H v st → StepAt K (L2.upd H p o) v st := fun ⟨q, e, h⟩ => ⟨q, e, SqT.upd_ins hp h⟩
theorem TxtFg.sig {K : PySem.W.Frag} {w : World} {mg : Str → Option Value} {a : Wf} {g : Gf} {c : Fg} (T : TxtFg K w mg a g c) (z : Str) : ∃ r, PySem.W.nsIn K c.SIGNS z = some r ∧ r.isSome = decide (z ∈ signsV) ∧ ∀ f, RelV (.int 0) f → RelV (.int (arityW z : Nat)) (r.getD f) := by
  by_cases h : z ∈ signsV
  · obtain ⟨u, h1, h2⟩ := T.h_SIGNS z h
    exact ⟨some u, h1, (decide_eq_true h).symm, fun f _ => h2⟩
  · refine ⟨none, T.m_SIGNS z h, (decide_eq_false h).symm, fun f hf => ?_⟩
    unfold arityW
    rw [if_neg h]
    exact hf
def spFormG (K : PySem.W.Frag) (c : Fg) : Sp := fun vs H Q _ => ∃ (p dx ts : Addr) (rs : List V) (S : List Step), vs = [.ref p, .ref ts] ∧ H p = some (.ins c.Formula dx []) ∧ SqT K H ts rs ∧ AllAt (StepAt K H) rs S ∧ S.length ≤ 1000 ∧ (∃ ds : List Str, (∀ x ∈ namesS S, x ∈ ds) ∧ ds.length < 64) ∧
  ∀ H', FoAt K c.Formula H' p S → (∀ b o, H b = some o → b ≠ p → H' b = some o) → Q .non H'
section
variable {P : Program} {w : World} {K : PySem.W.Frag} {mg : Str → Option Value} {base : Heap} {a : Wf} {g : Gf} {c : Fg} {f : Addr} {fd : FuncData}
theorem inV_sgn (z : Str) (ys : List Str) : inV (.str z) (ys.map V.str) = decide (z ∈ ys) := by
  unfold inV
  induction ys with
  | nil => rfl
  | cons y ys ih =>
    rw [List.map_cons, List.any_cons, ih]
    show ((y == z) || decide (z ∈ ys)) = _
    by_cases h : z = y
    · subst h
      simp
    · have h' : ¬ y = z := fun e => h e.symm
      simp [h, h']
theorem names_take (S : List Step) (i : Nat) (st : Step) (h : S[i]? = some st) : namesS (S.take (i + 1)) = namesS (S.take i) ++ if (!decide (st.1 ∈ signsV) && !decide (st.1 ∈ constV)) = true then [st.1] else [] := by
  unfold namesS
  rw [List.take_add_one, h, List.map_append, List.filter_append]
  congr 1
  show List.filter _ [st.1] = _
  rw [List.filter_cons]
  rfl
theorem names_le (S : List Step) : (namesS S).length ≤ S.length := by
  unfold namesS
  refine Nat.le_trans (List.length_filter_le _ _) ?_
  rw [List.length_map]
  exact Nat.le_refl _
theorem ok_FormG {f1 : FuncData} (F : Fun K "__init__" "Formula.__init__" s_Formula_init f fd) (T : TxtFg K w mg a g c) (G_ascending : FnOk P w K mg base CX0 1 a.ascending f1 ["names"] (spAsc K)) (b_ascending : Binds K f1 ["names"] []) :
    FnOk P w K mg base CX0 2 f fd ["self", "steps"] (spFormG K c) := by
  refine F.ok sc_Formula_init (fun vs H Q E h => ?_) (fun cdv A outer s H vs Q E hr h => ?_)
  · obtain ⟨_, _, _, _, _, rfl, _⟩ := h
    rfl
  · obtain ⟨p, dx, ts, rs, S, rfl, hp, hts, hA, hn, hfew, k⟩ := h
    refine ⟨_, (pss_cons (ps_fld (pv 0) (pv 1) rfl)
    (pss_one (ps_fld (pv 0) (pe_call G_ascending (hr.mono (by decide)) rfl T.g_ascending T.k_ascending b_ascending .nil pass0 (pa_cons (pe_lc (own := [("step", 2)]) (g := gName 2) rfl sc_Formula_init.nd (pi_tup (pv 1)) (blkOk_by (N := N_Formula_init) (sc := defScope s_Formula_init) (by decide +kernel)) (fun _ _ _ _ _ => (pg_name (i := 2) sc_Formula_init.nd rfl (Or.inl rfl))) (fun _ _ _ _ _ => (pts_one (PW.pt (pw_and (pt_cmpR (op_notIn_kdK (K := K) rfl rfl T.d_SIGNS) (pe_ix (ix_tupK (K := K) rfl) (pv 2) pe_int (fun _ _ => rfl)) (pe_gr rfl T.g_SIGNS) (by rfl)) (pw_and1 (pt_cmpR (op_notIn_seqK (K := K) rfl) (pe_ix (ix_tupK (K := K) rfl) (pv 2) pe_int (fun _ _ => rfl)) (pe_gr rfl T.g_CONSTANTS) (by rfl))))))) (fun _ _ _ _ _ => (pe_ix (ix_tupK (K := K) rfl) (pv 2) pe_int (fun _ _ => rfl)))) pa_nil)) rfl))), ?_⟩
    have hlen := hA.len
    refine ⟨_, rfl, _, rfl, p, c.Formula, dx, _, rfl, hp, T.cl, T.n_steps, (by show 0 < 1000; decide), ?_⟩
    have hp1 : (upd H p (.ins c.Formula dx (putF "steps" (.ref ts) []))) p = some (.ins c.Formula dx (putF "steps" (.ref ts) [])) := upd_same
    have k1 : ∀ b o, H b = some o → b ≠ p → (upd H p (.ins c.Formula dx (putF "steps" (.ref ts) []))) b = some o := fun b o e ne => by rw [upd_ne ne]; exact e
    replace hts := SqT.upd_ins (o := .ins c.Formula dx (putF "steps" (.ref ts) [])) hp hts
    replace hA := hA.imp (StepAt.upd_ins (K := K) (o := .ins c.Formula dx (putF "steps" (.ref ts) [])) hp)
    generalize upd H p (.ins c.Formula dx (putF "steps" (.ref ts) [])) = H1 at hp1 k1 hts hA ⊢
    refine ⟨_, rfl, ts, rfl, ⟨_, hts⟩, fun D hD => ?_⟩
    refine lc_tup (K := K) (a := ts) (xs := rs) (fun i H' => Same H1 H' ∧ H' D = some (.lst ((namesS (S.take i)).map V.str))) ⟨Same.upd_new hD, upd_same⟩ (fun i H' _ h => Same.sqT h.1 hts) ?_ ?_
    · rintro i x H' hx ⟨s1, d1⟩
      obtain ⟨st, hst, q, rfl, hq0⟩ := hA.get hx
      have h0 := Same.sqT s1 hq0
      have hi : i < S.length := (List.getElem?_eq_some_iff.mp hst).1
      have tk := names_take S i st hst
      obtain ⟨r, r1, r2, _⟩ := T.sig st.1
      refine ⟨rfl, ?_⟩
      refine ⟨_, rfl, _, _, _, _, rfl, rfl, h0, atI_nat (j := 0) rfl, st.1, r, rfl, rfl, r1, _, rfl, ?_⟩
      rw [r2]
      cases e1 : decide (st.1 ∈ signsV) with
      | true =>
        refine iteFh rfl ⟨s1, ?_⟩
        rw [tk, e1, d1]
        simp
      | false =>
      refine iteTh rfl ?_
      refine ⟨_, rfl, _, _, _, _, rfl, rfl, h0, atI_nat (j := 0) rfl, _, _, rfl, .inr (T.s_CONSTANTS _), rfl, flat_txts _, _, rfl, ?_⟩
      show if (!inV (V.str st.1) (constV.map V.str)) = true then _ else _
      rw [inV_sgn]
      cases e2 : decide (st.1 ∈ constV) with
      | true =>
        refine iteFh rfl ⟨s1, ?_⟩
        rw [tk, e1, e2, d1]
        simp
      | false =>
      refine iteTh rfl ?_
      refine ⟨_, rfl, _, _, _, _, rfl, rfl, h0, atI_nat (j := 0) rfl, _, d1, ?_, ?_, ?_⟩
      · rw [List.length_map]
        have := names_le (S.take i)
        rw [List.length_take] at this
        exact small1000 (by omega)
      · intro b o e
        rw [upd_ne (ne_of_none e hD)]
        exact s1 b o e
      · rw [tk, e1, e2, List.map_append]
        exact upd_same
    · rintro H2 ⟨s1, d1⟩
      rw [hlen, List.take_length] at d1
      refine ⟨D, namesS S, rfl, .inl (.inl d1), Nat.le_trans (names_le S) (by omega), hfew, fun tn ys H3 ht hasc s3 => ?_⟩
      have s13 := s1.trans s3
      have hp3 := s13 _ _ hp1
      refine ⟨_, rfl, p, c.Formula, dx, _, rfl, hp3, T.cl, T.n_names, putF_len_lt (by show 0 < 999; decide), ?_⟩
      refine k _ ⟨dx, ts, tn, rs, ys, upd_same, SqT.upd_ins hp3 (Same.sqT s13 hts), (hA.imp (StepAt.same s13)).imp (StepAt.upd_ins (K := K) hp3), SqT.upd_ins hp3 ht, hasc⟩ fun b o e ne => ?_
      rw [upd_ne ne]
      exact s13 _ _ (k1 b o e ne)
theorem form_fld (ts tn : Addr) : (formF ts tn).lookup (Str.ofString "steps") = some (V.ref ts) ∧ (formF ts tn).lookup (Str.ofString "names") = some (V.ref tn) := by
  unfold formF
  have d : ∀ x y : String, (decide (Str.ofString x = Str.ofString y)) = decide (Str.ofString x = Str.ofString y) := fun _ _ => rfl
  simp only [lookup_putF]
  refine ⟨?_, ?_⟩
  · rw [if_neg (by decide +kernel), if_pos True.intro]
  · rw [if_pos True.intro]
def spStrG (K : PySem.W.Frag) (c : Fg) : Sp := fun vs H Q _ => ∃ (p : Addr) (S : List Step), vs = [.ref p] ∧ FoAt K c.Formula H p S ∧ S ≠ [] ∧ S.length ≤ 1000 ∧ WfS S ∧ (∀ st ∈ S, st.2.length ≤ 2) ∧ (∀ ws ∈ wordsL S, (ws.map fun x => x.length).sum + ws.length ≤ 100000) ∧ ∀ H', Same H H' → Q (.str (txtW ((wordsL S).getLastD []))) H'
theorem ok_strG {f1 : FuncData} (F : Fun K "__str__" "Formula.__str__" s_Formula_str f fd) (T : TxtFg K w mg a g c) (G__text : FnOk P w K mg base CX0 1 g.text f1 ["steps"] (spTextG K)) (b__text : Binds K f1 ["steps"] []) :
    FnOk P w K mg base CX0 2 f fd ["self"] (spStrG K c) := by
  refine F.ok sc_Formula_str (fun vs H Q E h => ?_) (fun cdv A outer s H vs Q E hr h => ?_)
  · obtain ⟨_, _, rfl, _⟩ := h
    rfl
  · obtain ⟨p, S, rfl, hp, h1, h2, h3, h4, h5, k⟩ := h
    refine ⟨_, (pss_one (ps_ret (pe_callTy SkE.call_str_str (by rfl) T.b_str (by decide +kernel) (pa_cons (pe_call G__text (hr.mono (by decide)) rfl T.g__text T.k__text b__text .nil pass0 (pa_cons (pe_fld (pv 0) rfl) pa_nil)) pa_nil)))), ?_⟩
    obtain ⟨dx, ts, tn, rs, ns, q1, q2, q3, q4, q5⟩ := hp.ex
    refine ⟨_, rfl, p, c.Formula, dx, _, _, rfl, q1, T.cl, T.n_steps, (form_fld ts tn).1, ts, rs, S, rfl, q2, q3, h1, h2, h3, h4, h5, fun H1 s1 => ?_⟩
    exact ⟨_, rfl, k _ s1⟩
end
end L2.Wk
namespace PySem
namespace LowX_InvalidText
open PySem.W PySem.Calls PyProof.Rows PySem.HandSPX
/-! ### the text of __init__ -/
def iA (p1 p2 : Pos) : Arguments := { posonlyargs := [], args := [{ arg := "self", annotation := none, pos := p1 }, { arg := "at", annotation := none, pos := p2 }], vararg := none, kwonlyargs := [], kw_defaults := [], kwarg := none, defaults := [] }
def iB (q1 q2 q3 q4 : Pos) : List Stmt := [.Assign [.Attribute (.Name "self" q1) "at" q2] (.Name "at" q3) q4]
def iS : Scope := { kind := .function, names := [(PySem.Str.ofString "self", .local), (PySem.Str.ofString "at", .local)], isGenerator := false, isCoroutine := false, more := [] }
/-- what the written part says of Low, at C, and of its __init__, at fI -/
structure LowTxt_InvalidText (K : Frag) (mg : Str → Option Value) (C fI : Addr) : Prop where
  gC : mg "InvalidText" = some (.ref C)
  cls : ∃ nm q N bs bm sn sub ab col dd k0 k1 k2 k3 k5, K.lookup C = some (excClassObj nm q C N bs bm true sn sub ab col dd k0 k1 k2 k3 k5 "ValueError.__new__") ∧ refsVE bm = true
  sa : findIn K (.ref C) "__setattr__" = some (some (.builtin "object.__setattr__"))
  ga : findIn K (.ref C) "__getattribute__" = some (some (.builtin "BaseException.__getattribute__"))
  gg : findIn K (.ref C) "__getattr__" = some none
  noN : findIn K (.ref C) "at" = some none
  iC : findIn K (.ref C) "__init__" = some (some (.ref fI))
  tC : typeIn K (.ref fI) = some (.type "function")
  kC : keepIn K (.ref C) = true
  exC : subIn K (.ref C) (.type "BaseException") = some true
  tyC : typeIn K (.ref C) = some (.type "type")
  hdC : hasDictIn K C = true
  te : exmOne K (.ref C) (.ref C) = some true
  fn : ∃ (oc : Value) (od : Option Addr) (doc pm : Value) (an : Option Addr) (cdv ct : Value) (osl : Array (Option Value)) (p1 p2 q1 q2 q3 q4 : Pos),
    K.lookup fI = some ⟨oc, od, .func (fnOf "__init__" "InvalidText.__init__" (iA p1 p2) (iB q1 q2 q3 q4) iS .none .none doc pm an cdv ct), osl⟩ ∧ codeIn K cdv "InvalidText.__init__" = true
theorem one_size_InvalidText (v : Value) : [v].length ≤ sizeLine := by
  rw [sizeLine_eq]
  exact (by decide : 1 ≤ 16777216)
theorem kept_but_InvalidText {K : Frag} {h h' : Heap} {x : Addr} (X : K.In h) (hx : K.lookup x = none) (k : ∀ b o, b ≠ x → h.get? b = some o → h'.get? b = some o) : K.In h' := fun a o e =>
  k a o (fun z => by rw [z, hx] at e; cases e) (X a o e)
theorem ldC_InvalidText {M : Model} {s : Shared} {name : Str} {scope : Scope} {L a : Addr} {cd : Value} {m : Str → Option Value} {x : Str} {pos : Pos} {v : Value} {Q : Value → Shared → Prop} {A : Around} {E : Value → Shared → Prop} (hn : s.heap.Ns L m) (hv : m x = some v) (h : Q v s)
    (hk : scope.kind = .function := by rfl) (hl : (envOfC name scope L a cd).kindOf x = some .local := by rfl) (hd : (x == ("__debug__" : Str)) = false := by decide) :
    wpAny M A (eval (.Name x pos) (envOfC name scope L a cd)) Q E s := wpAny_Name (wpAny_loadName_local hk hl hn hv h) hd
/-- what __init__ leaves of a fresh exception at x -/
structure InitEnd_InvalidText (h h' : Heap) (x C dx t1 : Addr) (v : Value) : Prop where
  keep : ∀ b o, b ≠ x → h.get? b = some o → h'.get? b = some o
  obj : h'.get? x = some { cls := .ref C, dict := some dx, data := .fields #[.ref t1, .none, .none, .none, .bool false, .none] }
  dbig : h.objs.size ≤ dx
  dne : dx ≠ x
  ns : h'.Ns1 dx (fun y => if y = "at" then some v else none)
structure OwnMade_InvalidText (h h' : Heap) (e C d : Addr) (v : Value) : Prop where
  keep : ∀ b o, h.get? b = some o → h'.get? b = some o
  new : h.objs.size ≤ e
  obj : ∃ oe vs, h'.get? e = some oe ∧ oe.cls = .ref C ∧ oe.dict = some d ∧ oe.data = .fields vs ∧ vs[1]? = some .none
  dbig : h.objs.size ≤ d
  dne : d ≠ e
  ns : h'.Ns1 d (fun y => if y = "at" then some v else none)
section
variable {prog : Program} {w : World} {A : Around} {E : Value → Shared → Prop} {R : Result → Shared → Prop} {s : Shared} {K : Frag} {mg : Str → Option Value} {C fI : Addr}
theorem low_init_InvalidText (T : LowTxt_InvalidText K mg C fI) {x t0 : Addr} {v : Value} (X : K.In s.heap) (hlim : s.heap.NoLimit) (hx : s.heap.get? x = some (excO C t0)) (hnx : K.lookup x = none) (hroom : A.depth < recursionLimit)
    (hq : ∀ h' tk dx, InitEnd_InvalidText s.heap h' x C dx t0 v → R (.ok (.ret .none)) { s with heap := h', toks := tk }) :
    codeAny (model prog w) A (.call (.ref fI) ⟨[.ref x, v], []⟩) R s := by
  obtain ⟨oc, od, doc, pm, an, cdv, ct, osl, p1, p2, q1, q2, q3, q4, ho, hcd⟩ := T.fn
  obtain ⟨nm, q, N, bs, bm, sn, sub, ab, col, dd, k0, k1, k2, k3, k5, hC, hbm⟩ := T.cls
  have hcl : clsIn K C = some { name := nm, bases := bs, mro := .ref C :: bm, ns := N, qualname := q, hasDict := true, slotNames := sn, subclasses := sub, abstract := ab, collection := col, hasDel := false } := by unfold clsIn; rw [hC] <;> rfl
  refine Att.call_fn (binds := [("self", .ref x), ("at", v)]) X hlim ho hcd hroom (BindsTo.of_eq (by first | rfl | with_unfolding_all rfl)) (by first | rfl | decide | with_unfolding_all rfl) (fun s₁ IC => ?_) rfl rfl rfl
  obtain ⟨h₁, tk₁, rfl⟩ := IC.toInCall.same
  have k : ∀ b o, s.heap.get? b = some o → h₁.get? b = some o := IC.toInCall.keep
  have hn := IC.toInCall.ns
  have hxL : s.heap.objs.size ≠ x := Nat.ne_of_gt (Heap.lt_size hx)
  have X₁ : K.In h₁ := X.keeps k
  have hx₁ := k _ _ hx
  -- self.by = by
  show wpAny _ _ (execs _ _) _ _ _
  refine wpAny_execs_cons (plainObj_wpAny_Assign_Attribute ?_)
  refine ldC_InvalidText (v := v) hn (by first | rfl | with_unfolding_all rfl | kernel_rfl) (ldC_InvalidText (v := .ref x) hn (by first | rfl | with_unfolding_all rfl | kernel_rfl) ?_)
  refine set_plain X₁ (ox := excO C t0) (od := none) ⟨hx₁, rfl, rfl, trivial⟩ T.sa ?_
  refine exc_osa X₁ hx₁ hcl (show refsVE (.ref C :: bm) = true from hbm) rfl T.noN (fun h₃ tk₃ dx k₃ dn dne hx₃ hn₃ => ?_)
  show wpAny _ _ (execs _ _) _ _ _
  have z : s.heap.objs.size < h₁.objs.size := hn.lt
  exact wpAny_execs_nil (hq h₃ tk₃ dx ⟨fun b o hb e => k₃ b o hb (k b o e), hx₃, Nat.le_of_lt (Nat.lt_of_lt_of_le z dn), dne, hn₃⟩)
theorem low_made_InvalidText (T : LowTxt_InvalidText K mg C fI) {v : Value} (X : K.In s.heap) (hlim : s.heap.NoLimit) (hroom : A.depth + 1 < recursionLimit)
    (hq : ∀ h' tk e d, OwnMade_InvalidText s.heap h' e C d v → R (.ok (.ret (.ref e))) { s with heap := h', toks := tk }) :
    codeAny (model prog w) A (.call (.ref C) ⟨[v], []⟩) R s := by
  obtain ⟨nm, q, N, bs, bm, sn, sub, ab, col, dd, k0, k1, k2, k3, k5, hC, hbm⟩ := T.cls
  obtain ⟨hp, g, dr, tk, os⟩ := s
  have k : ∀ b o, hp.get? b = some o → ((hp.push (kdv_tup [v])).push (excO C hp.objs.size)).get? b = some o := fun b o e => Heap.get?_push_of_some _ (Heap.get?_push_of_some _ e)
  have hget : ((hp.push (kdv_tup [v])).push (excO C hp.objs.size)).get? (hp.objs.size + 1) = some (excO C hp.objs.size) := by heap_get
  have hnx : K.lookup (hp.objs.size + 1) = none := by
    cases e : K.lookup (hp.objs.size + 1) with
    | none => rfl
    | some o =>
      have z : hp.get? (hp.objs.size + 1) = some o := X _ _ e
      exact absurd (Nat.lt_of_succ_lt (Heap.lt_size z)) (Nat.lt_irrefl _)
  refine call_own F.excBase_ValueError (fun X => refsVE_contains X bm hbm) (X _ _ hC) (looks_findIn X T.iC) (fun self => bind_fn X self T.tC) (one_size_InvalidText v) ?_
  refine low_init_InvalidText (s := ⟨(hp.push (kdv_tup [v])).push (excO C hp.objs.size), g, dr, tk, os⟩) T (X.keeps k) (hlim.keeps k) hget hnx ?_ fun h' tk' dx ⟨k', hx, dn, dne, hns⟩ => ?_
  · show A.depth + 1 < recursionLimit
    exact hroom
  · have old : ∀ b o, hp.get? b = some o → h'.get? b = some o := fun b o e => k' b o (Nat.ne_of_lt (Nat.lt_succ_of_lt (Heap.lt_size e))) (k b o e)
    have z : hp.objs.size + 1 + 1 ≤ dx := by
      first
        | (simpa only [Heap.size_push] using dn)
        | exact dn
        | (have q := dn; rw [Heap.size_push, Heap.size_push] at q; exact q)
    exact ⟨rfl, hq h' tk' (hp.objs.size + 1) dx ⟨old, Nat.le_succ _, ⟨_, _, hx, rfl, rfl, rfl, rfl⟩, Nat.le_trans (Nat.le_trans (Nat.le_succ _) (Nat.le_succ _)) z, dne, hns⟩⟩
end
end LowX_InvalidText
end PySem
namespace L2
open PySem PySem.Spec PyProof.Rows
theorem relO_low_InvalidText {v : V} {v' : Value} (r : RelV v v') (f : Str) : RelO (List.lookup f [(("at" : Str), v)]) (if f = "at" then some v' else none) := by
  by_cases hw : f = "at"
  · subst hw
    rw [if_pos rfl]
    have q : List.lookup ("at" : Str) [(("at" : Str), v)] = some v := by simp [List.lookup]
    rw [q]
    exact r
  · rw [if_neg hw]
    have qw : (f == ("at" : Str)) = false := by simpa using hw
    have q2 : List.lookup f [(("at" : Str), v)] = none := by simp [List.lookup, qw]
    rw [q2]
    trivial
section
variable {X : Cx} {C fI : Addr}
/-- Low(e) -/
def tMkLow_InvalidText (C : Addr) (ta : TA) : St → Hp → XK → Prop := fun σ H Q => ta σ H fun vs H1 => ∃ v, vs = [v] ∧ ∀ d, H1 d = none → Q (.ref C) (some d) (upd H1 d (.xd [(("at" : Str), v)]))
theorem pmk_low_InvalidText {a : Expr} {ta : TA} {p pos : Pos} {k : Nat} (T : PySem.LowX_InvalidText.LowTxt_InvalidText X.K X.mg C fI) (hr : Room k X.A) (ha : PA X [a] ta) (hg : Gl X "InvalidText" := by rfl)
    (he : starEach (a :: []) X.env = (false, eval a X.env) :: starEach [] X.env := by rfl) (hpl : (backTo pos (starEach [] X.env)).any (·.1) = false := by rfl) :
    PMk X (.Call (.Name "InvalidText" p) [a] [] pos) (tMkLow_InvalidText C ta) := by
  intro pins s σ H Q I h
  refine wpAny_Call_Name_kw (ld_glob I hg T.gC ?_)
  refine PySem.W.callWith_K (h₀ := X.base) I.ok.mod.kin T.kC (thn (ha.run pos pins s σ H _ I h) fun us s1 hh => ?_) he hpl
  obtain ⟨vs, H1, I1, r1, v, ev, q1⟩ := hh
  subst ev
  refine ⟨I1.kIn, ?_⟩
  cases r1 with
  | cons rv rn =>
    rename_i v' us'
    cases rn
    show wpAny _ _ (call (.ref C) [v']) _ _ _
    have hlim := I1.nolimit
    obtain ⟨hp, g, dr, tk, os⟩ := s1
    refine wpAny_call (PySem.LowX_InvalidText.low_made_InvalidText T I1.kIn hlim (by have := hr.dp; omega) fun h' tk' e d M => ?_)
    show MkP X pins σ Q (.ref e) ⟨h', g, dr, tk', os⟩
    obtain ⟨oe, fv, hoe, hc, hd, hdat, h1⟩ := M.obj
    have hns := M.ns
    obtain ⟨G', g1, g2⟩ := restrict h' fun b => decide (b ≠ e)
    have gk : ∀ b, b ≠ e → G'.get? b = h'.get? b := fun b hb => g1 b (decide_eq_true hb)
    have ge : G'.get? e = none := g2 e (by simp)
    have old : ∀ b o, hp.get? b = some o → G'.get? b = some o := fun b o q => (gk b (Nat.ne_of_lt (Nat.lt_of_lt_of_le (Heap.lt_size q) M.new))).trans (M.keep b o q)
    have ob : ObjOk X.prog X.w (upd H1 d (.xd [(("at" : Str), v)])) G' d (.xd [(("at" : Str), v)]) :=
      ⟨_, hns.at (fun o q => (gk d M.dne).trans q), fun f => relO_low_InvalidText rv f⟩
    have J : Inv X pins σ (upd H1 d (.xd [(("at" : Str), v)])) ⟨G', g, dr, tk', os⟩ := I1.laid (t' := tk') old M.dbig ob
    refine ⟨e, oe, fv, ⟨G', g, dr, tk', os⟩, _, .ref C, some d, rfl, J, fun b o q => ?_, ge, hoe, ⟨hc, hd⟩, hdat, h1, ?_, rfl, I1.bare, raises_own T.exC T.tyC, q1 d (I1.hok.fresh M.dbig)⟩
    · by_cases hb : b = e
      · have q' : G'.get? b = some o := q
        rw [hb, ge] at q'; cases q'
      · exact (gk b hb).symm.trans q
    · rw [upd_ne (Ne.symm M.dne)]
      exact I1.hok.fresh M.new
/-- raise Low(e) -/
def tRaiseLow_InvalidText (C : Addr) (W : WX) (ta : TA) : TS := fun _ σ H => tMkLow_InvalidText C ta σ H fun cls d H' => W cls d σ H'
theorem ps_raiseLow_InvalidText {a : Expr} {ta : TA} {W : WX} {p pos pos2 : Pos} {k : Nat} (hc : X.calm = true) (T : PySem.LowX_InvalidText.LowTxt_InvalidText X.K X.mg C fI) (hr : Room k X.A) (tk : Takes X W) (ha : PA X [a] ta) (hg : Gl X "InvalidText" := by rfl)
    (he : starEach (a :: []) X.env = (false, eval a X.env) :: starEach [] X.env := by rfl) (hpl : (backTo pos (starEach [] X.env)).any (·.1) = false := by rfl) :
    PS X (.Raise (some (.Call (.Name "InvalidText" p) [a] [] pos)) none pos2) (tRaiseLow_InvalidText C W ta) := ps_raise hc tk (pmk_low_InvalidText T hr ha hg he hpl)
/-- low.by, low the exception that the suite holds (at a; its class cls, its dict d) -/
def tByLow_InvalidText (C : Addr) (a : Addr) (cls : Value) (d : Option Addr) (te : TE) : TE := fun σ H Q => te σ H fun x H1 => x = .ref a ∧ cls = .ref C ∧ ∃ (dd : Addr) (v : V), d = some dd ∧ H1 dd = some (.xd [(("at" : Str), v)]) ∧ Q v H1
theorem pe_byLow_InvalidText {a : Addr} {oe : Obj} {cls : Value} {d : Option Addr} {pn : List (Addr × Obj)} {e : Expr} {te : TE} {pos : Pos} (T : PySem.LowX_InvalidText.LowTxt_InvalidText X.K X.mg C fI) (hz : Zc cls d oe) (hf : ∃ vs, oe.data = .fields vs) (he : PE (X.suite a ((a, oe) :: pn)) e te)
    (hb : attributeBase e "at" X.env (eval e X.env) = eval e X.env := by rfl) :
    PE (X.suite a ((a, oe) :: pn)) (.Attribute e "at" pos) (tByLow_InvalidText C a cls d te) := by
  refine ⟨fun pins s σ H Q I h => ?_⟩
  refine attr_of hb (thn (he.run pins s σ H _ I h) fun u s1 hh => ?_)
  obtain ⟨x, H1, I1, rx, ex, ec, dd, v, ed, ea, q⟩ := hh
  subst ex
  obtain rfl : u = Value.ref a := rx
  subst ec
  subst ed
  obtain ⟨ha, _⟩ := I1.pin (a, oe) (List.mem_append_left _ List.mem_cons_self)
  obtain ⟨vs, hd⟩ := hf
  have hx : ObjOk X.prog X.w H1 s1.heap dd (.xd [(("at" : Str), v)]) := I1.hok dd _ ea
  obtain ⟨mA, hns, hr⟩ := hx
  obtain ⟨od, ho, hl⟩ := lookIn_ns hns
  have l : List.lookup ("at" : Str) [(("at" : Str), v)] = some v := by simp [List.lookup]
  obtain ⟨u, hu, ru⟩ := RelO.some_of (v := v) (o := mA "at") (by rw [← l]; exact hr "at")
  have J : PySem.W.InstAt s1.heap a oe C (some od) := ⟨ha, hz.1, by unfold PySem.W.notCls; rw [hd] <;> rfl, by rw [hz.2]; exact ho⟩
  exact HandSPX.exc_get I1.kIn J T.ga T.gg T.exC (PySem.W.findObj_own T.hdC T.noN rfl (by rw [hl, hu])) (handed_of ru) ⟨v, H1, I1.tok _, ru, q⟩
end
end L2


namespace L2.Wk
open PySem PySem.Spec PyProof.Rows
abbrev s_Formula_read : Stmt := inClass (top 16) 3
abbrev N_Formula_read : List Str := ["cls", "text", "words"]
theorem sc_Formula_read : FnScope N_Formula_read ["cls", "text"] (defScope s_Formula_read) := ⟨rfl, rfl, rfl, by decide +kernel, rfl, by decide +kernel, by decide +kernel⟩
abbrev s_check_words : Stmt := top 17
abbrev N_check_words : List Str := ["words", "wanted", "at", "word"]
theorem sc_check_words : FnScope N_check_words ["words"] (defScope s_check_words) := ⟨rfl, rfl, rfl, by decide +kernel, rfl, by decide +kernel, by decide +kernel⟩
abbrev s_steps_of_words : Stmt := top 18
abbrev N_steps_of_words : List Str := ["words", "steps", "waiting", "word"]
theorem sc_steps_of_words : FnScope N_steps_of_words ["words"] (defScope s_steps_of_words) := ⟨rfl, rfl, rfl, by decide +kernel, rfl, by decide +kernel, by decide +kernel⟩
/-! ### words of a formula -/
def okW (z : Str) : Bool := decide (z ∈ signsV) || (decide (z ∈ constV) || isName z)
/-- the place of the first word that cannot stand there, so many formulas wanted -/
def dueW : Nat → Nat → List Str → Option Nat
  | _, 0, [] => none
  | i, _ + 1, [] => some i
  | i, 0, _ :: _ => some i
  | i, n + 1, w :: ws => if okW w = true then dueW (i + 1) (n + arityW w) ws else some i
theorem arity_le (z : Str) : arityW z ≤ 2 := by
  unfold arityW
  split
  · split <;> omega
  · omega
theorem get_map_strG {zs : List Str} {i : Nat} {x : V} (h : (zs.map V.str)[i]? = some x) : ∃ z, z ∈ zs ∧ zs[i]? = some z ∧ x = V.str z := by
  rw [List.getElem?_map] at h
  obtain ⟨z, hz, rfl⟩ := Option.map_eq_some_iff.mp h
  exact ⟨z, List.mem_of_getElem? hz, hz, rfl⟩
structure Hf where
  check : Addr
  steps : Addr
  read : Addr
structure TxtR (K : PySem.W.Frag) (w : World) (mg : Str → Option Value) (a : Wf) (g : Gf) (c : Fg) (h : Hf) (IT fIT : Addr) : Prop extends TxtFg K w mg a g c, TxtG K mg g where
  low_InvalidText : PySem.LowX_InvalidText.LowTxt_InvalidText K mg IT fIT
  b_enumerate : mg "enumerate" = none
  g__check_words : mg "_check_words" = some (.ref h.check)
  k__check_words : PySem.W.keepIn K (.ref h.check) = true
  g__steps_of_words : mg "_steps_of_words" = some (.ref h.steps)
  k__steps_of_words : PySem.W.keepIn K (.ref h.steps) = true
def spCheck (K : PySem.W.Frag) (IT : Addr) : Sp := fun vs H Q E => ∃ (l : Addr) (ws : List Str), vs = [.ref l] ∧ SqL K H l (ws.map V.str) ∧ ws.length ≤ 900 ∧ (∀ z ∈ ws, z.length ≤ 1000) ∧
  (dueW 0 1 ws = none → ∀ H', Same H H' → Q .non H') ∧ (∀ n, dueW 0 1 ws = some n → ∀ (d : Addr) (H' : Hp), Same H H' → H' d = some (.xd [("at", .int (n : Nat))]) → E (.ref IT) (some d) H')
section
variable {P : Program} {w : World} {K : PySem.W.Frag} {mg : Str → Option Value} {base : Heap} {a : Wf} {g : Gf} {c : Fg} {h : Hf} {IT fIT : Addr} {f : Addr} {fd : FuncData}
theorem ok_check {f1 : FuncData} (F : Fun K "_check_words" "_check_words" s_check_words f fd) (T : TxtR K w mg a g c h IT fIT) (G_is_name : FnOk P w K mg base CX0 1 a.is_name f1 ["value"] (spTxt isName)) (b_is_name : Binds K f1 ["value"] []) :
    FnOk P w K mg base (L2.CX P w) 2 f fd ["words"] (spCheck K IT) := by
  refine F.okX sc_check_words (fun vs H Q E h => ?_) (fun cdv A outer s H vs Q E hr h => ?_)
  · obtain ⟨_, _, rfl, _⟩ := h
    rfl
  · obtain ⟨l, ws, rfl, hl, hn, hz, k, kE⟩ := h
    refine ⟨_, (pss_cons (ps_set (i := 1) sc_check_words.nd rfl (Or.inl rfl) pe_int)
    (pss_cons (ps_for (passes_of rfl) rfl (pi_enum (by rfl) T.b_enumerate (pa_cons (pv 0) pa_nil)) (pg_tup rfl (pgs_cons (pg_name (i := 2) sc_check_words.nd rfl (Or.inl rfl)) (pgs_cons (pg_name (i := 3) sc_check_words.nd rfl (Or.inl rfl)) pgs_nil)))
      (pss_cons (ps_if (PW.pt (pw_or (pt_cmpR op_eq (pv 1) pe_int (nomark _)) (pw_or1 (pt_not (PW.pt (pw_or (pt_cmpR (op_in_kdK (K := K) rfl rfl T.d_SIGNS) (pv 3) (pe_gr rfl T.g_SIGNS) (by rfl)) (pw_or (pt_cmpR op_in_seq (pv 3) (pe_gr rfl T.g_CONSTANTS) (by rfl)) (pw_or1 (pt_val (pe_call G_is_name (hr.mono (by decide)) rfl T.g_is_name T.k_is_name b_is_name .nil pass0 (pa_cons (pv 3) pa_nil))))))))))) (pss_one (ps_raiseLow_InvalidText rfl T.low_InvalidText hr (takes_of rfl rfl rfl rfl) (pa_cons (pv 2) pa_nil))) pss_nil)
      (pss_one (ps_set (i := 1) sc_check_words.nd rfl (Or.inl rfl) (pe_op op_add (pe_op op_sub (pv 1) pe_int) (pe_kget2 (K := K) rfl rfl T.d_SIGNS (pe_gr rfl T.g_SIGNS) (pv 3) pe_int ⟨rfl, rfl, rfl, rfl⟩))))))
    (pss_one (ps_if (pt_cmpR op_gt (pv 1) pe_int (nomark _)) (pss_one (ps_raiseLow_InvalidText rfl T.low_InvalidText hr (takes_of rfl rfl rfl rfl) (pa_cons (pe_callB call_len (by rfl) T.b_len PySem.boot_len (pa_cons (pv 0) pa_nil)) pa_nil))) pss_nil)))), ?_⟩
    refine ⟨_, rfl, l, _, rfl, hl, ?_⟩
    refine for_enumL (fun i σ H' => ∃ (v2 v3 : Option V) (n : Nat), σ = [some (.ref l), some (.int (n : Nat)), v2, v3] ∧ Same H H' ∧ dueW 0 1 ws = dueW i n (ws.drop i)) ⟨_, _, 1, rfl, Same.refl _, rfl⟩ (fun i σ H' _ ⟨_, _, _, _, h, _⟩ => Same.sqL h hl) ?_ ?_
    · rintro i x σ H1 Tp hx ⟨v2, v3, n, rfl, s1, hd⟩ hTp
      obtain ⟨z, hzm, hzi, rfl⟩ := get_map_strG hx
      have hzl := hz z hzm
      have hi : i < ws.length := (List.getElem?_eq_some_iff.mp hzi).1
      have ed : ws.drop i = z :: ws.drop (i + 1) := by
        rw [List.drop_eq_getElem_cons hi]
        congr 1
        exact (List.getElem?_eq_some_iff.mp hzi).2
      rw [ed] at hd
      have sT := s1.trans (Same.upd_new (o := .tup [.int (i : Nat), .str z]) hTp)
      refine ⟨Tp, _, rfl, .inl (.inl upd_same), rfl, _, _, rfl, _, _, rfl, rfl, ?_⟩
      generalize upd H1 Tp _ = H2 at sT ⊢
      refine ⟨_, rfl, rfl, _, rfl, ?_⟩
      have raise : dueW 0 1 ws = some i → ∀ d, H2 d = none → E (.ref IT) (some d) (upd H2 d (.xd [("at", .int (i : Nat))])) := fun e d hd => kE i e d _ (sT.trans (Same.upd_new hd)) upd_same
      cases n with
      | zero =>
        refine iteTh rfl (iteT ?_)
        exact ⟨_, rfl, _, rfl, raise hd⟩
      | succ m =>
      refine iteFh (decide_eq_false fun e => by injection e with e; omega) ?_
      obtain ⟨r, r1, r2, r3⟩ := T.sig z
      refine ⟨_, rfl, z, r, rfl, rfl, r1, _, rfl, ?_⟩
      rw [r2]
      cases e1 : decide (z ∈ signsV) with
      | true =>
        refine iteTh rfl (iteFh rfl ?_)
        have dn : dueW 0 1 ws = dueW (i + 1) (m + arityW z) (ws.drop (i + 1)) := by
          rw [hd]
          show (if okW z = true then _ else _) = _
          rw [if_pos (by unfold okW; rw [e1]; rfl)]
        refine ⟨_, rfl, _, _, rfl, rfl, _, rfl, z, r, .int (arityW z : Nat), rfl, r1, fun f hf => r3 f hf, _, _, rfl, rfl, ?_⟩
        refine ⟨some (.int (i : Nat)), some (.str z), m + arityW z, ?_, sT, dn⟩
        show [some (V.ref l), some (V.int (((m + 1 : Nat) : Int) - 1 + (arityW z : Nat))), _, _] = _
        rw [show ((m + 1 : Nat) : Int) - 1 + (arityW z : Nat) = ((m + arityW z : Nat) : Int) by omega]
      | false =>
      refine iteFh rfl ?_
      refine ⟨_, rfl, c.CONSTANTS, _, rfl, .inr (T.s_CONSTANTS _), rfl, flat_txts _, _, rfl, ?_⟩
      show if inV (V.str z) (constV.map V.str) = true then _ else _
      rw [inV_sgn]
      cases e2 : decide (z ∈ constV) with
      | true =>
        refine iteTh rfl (iteFh rfl ?_)
        have dn : dueW 0 1 ws = dueW (i + 1) (m + arityW z) (ws.drop (i + 1)) := by
          rw [hd]
          show (if okW z = true then _ else _) = _
          rw [if_pos (by unfold okW; rw [e1, e2]; rfl)]
        refine ⟨_, rfl, _, _, rfl, rfl, _, rfl, z, r, .int (arityW z : Nat), rfl, r1, fun f hf => r3 f hf, _, _, rfl, rfl, ?_⟩
        refine ⟨some (.int (i : Nat)), some (.str z), m + arityW z, ?_, sT, dn⟩
        show [some (V.ref l), some (V.int (((m + 1 : Nat) : Int) - 1 + (arityW z : Nat))), _, _] = _
        rw [show ((m + 1 : Nat) : Int) - 1 + (arityW z : Nat) = ((m + arityW z : Nat) : Int) by omega]
      | false =>
      refine iteFh rfl ?_
      refine ⟨_, rfl, z, rfl, hzl, fun H3 s3 => ⟨_, rfl, ?_⟩⟩
      replace sT := sT.trans s3
      cases e3 : isName z with
      | true =>
        refine iteFh rfl ?_
        have dn : dueW 0 1 ws = dueW (i + 1) (m + arityW z) (ws.drop (i + 1)) := by
          rw [hd]
          show (if okW z = true then _ else _) = _
          rw [if_pos (by unfold okW; rw [e1, e2, e3]; rfl)]
        refine ⟨_, rfl, _, _, rfl, rfl, _, rfl, z, r, .int (arityW z : Nat), rfl, r1, fun f hf => r3 f hf, _, _, rfl, rfl, ?_⟩
        refine ⟨some (.int (i : Nat)), some (.str z), m + arityW z, ?_, sT, dn⟩
        show [some (V.ref l), some (V.int (((m + 1 : Nat) : Int) - 1 + (arityW z : Nat))), _, _] = _
        rw [show ((m + 1 : Nat) : Int) - 1 + (arityW z : Nat) = ((m + arityW z : Nat) : Int) by omega]
      | false =>
        refine iteTh rfl ?_
        refine ⟨_, rfl, _, rfl, fun d hd3 => ?_⟩
        refine kE i ?_ d _ (sT.trans (Same.upd_new hd3)) upd_same
        rw [hd]
        show (if okW z = true then _ else _) = _
        rw [if_neg (by unfold okW; rw [e1, e2, e3]; decide)]
    · rintro σ H1 ⟨v2, v3, n, rfl, s1, hd⟩
      rw [List.length_map, List.drop_length] at hd
      cases n with
      | zero =>
        refine ⟨_, rfl, _, _, rfl, rfl, _, rfl, iteFh rfl ?_⟩
        exact k hd _ s1
      | succ m =>
        refine ⟨_, rfl, _, _, rfl, rfl, _, rfl, iteTh (decide_eq_true (by omega)) ?_⟩
        refine ⟨_, rfl, _, ws.length, rfl, .inl ⟨_, Same.sqL s1 hl, by rw [List.length_map]⟩, _, rfl, fun d hdn => ?_⟩
        exact kE ws.length hd d _ (s1.trans (Same.upd_new hdn)) upd_same
end
end L2.Wk
namespace L2.Wk
open PySem PySem.Spec PyProof.Rows
/-! ### steps of words: frames that wait for formulas, the last one first -/
def settle1 (S : List Step) (f : Step) : List Step → List Step × List Step
  | [] => if f.2.length < arityW f.1 then (S, [f]) else (S ++ [f], [])
  | g :: gs => if f.2.length < arityW f.1 then (S, f :: g :: gs) else settle1 (S ++ [f]) (g.1, g.2 ++ [S.length]) gs
def settle (S : List Step) : List Step → List Step × List Step
  | [] => (S, [])
  | f :: fs => settle1 S f fs
def feed (d : List Step × List Step) (w : Str) : List Step × List Step := settle1 d.1 (w, []) d.2
def stepsOf (ws : List Str) : List Step × List Step := ws.foldl feed ([], [])
theorem settle1_go {S : List Step} {f : Step} {fs : List Step} (h : f.2.length < arityW f.1) : settle1 S f fs = (S, f :: fs) := by
  cases fs with
  | nil => unfold settle1; rw [if_pos h]
  | cons g gs => unfold settle1; rw [if_pos h]
theorem settle1_up {S : List Step} {f : Step} {fs : List Step} (h : ¬ f.2.length < arityW f.1) : settle1 S f fs = settle (S ++ [f]) (match fs with | [] => [] | g :: gs => (g.1, g.2 ++ [S.length]) :: gs) := by
  cases fs with
  | nil => unfold settle1 settle; rw [if_neg h]
  | cons g gs =>
    conv => lhs; unfold settle1
    rw [if_neg h]
    rfl
/-- frames of which each waits for more; the last one may have all -/
def WaitF (f : Step) : Prop := f.2.length < arityW f.1
theorem settle1_inc : ∀ (fs : List Step) (S : List Step) (f : Step), (∀ g ∈ fs, WaitF g) → (∀ g ∈ (settle1 S f fs).2, WaitF g) ∧ (settle1 S f fs).1.length + (settle1 S f fs).2.length = S.length + 1 + fs.length
  | [], S, f, _ => by
    unfold settle1
    split
    · rename_i h
      exact ⟨fun g hg => by rw [List.mem_singleton.mp hg]; exact h, by simp⟩
    · exact ⟨(fun g hg => by cases hg), by simp⟩
  | g :: gs, S, f, hf => by
    unfold settle1
    split
    · rename_i h
      refine ⟨fun x hx => ?_, by simp; omega⟩
      rcases List.mem_cons.mp hx with rfl | hx
      · exact h
      · exact hf x hx
    · obtain ⟨h1, h2⟩ := settle1_inc gs (S ++ [f]) (g.1, g.2 ++ [S.length]) fun x hx => hf x (List.mem_cons_of_mem _ hx)
      refine ⟨h1, ?_⟩
      rw [h2, List.length_append, List.length_cons]
      simp
      omega
theorem stepsOf_take (ws : List Str) (i : Nat) (z : Str) (h : ws[i]? = some z) : stepsOf (ws.take (i + 1)) = feed (stepsOf (ws.take i)) z := by
  rw [List.take_add_one, h]
  unfold stepsOf
  show (ws.take i ++ [z]).foldl feed _ = _
  rw [List.foldl_append]
  rfl
theorem stepsOf_inc (ws : List Str) : (∀ g ∈ (stepsOf ws).2, WaitF g) ∧ (stepsOf ws).1.length + (stepsOf ws).2.length = ws.length := by
  have q : ∀ (ws : List Str) (d : List Step × List Step), (∀ g ∈ d.2, WaitF g) → (∀ g ∈ (ws.foldl feed d).2, WaitF g) ∧ (ws.foldl feed d).1.length + (ws.foldl feed d).2.length = d.1.length + d.2.length + ws.length := by
    intro ws
    induction ws with
    | nil => intro d h; exact ⟨h, rfl⟩
    | cons z ws ih =>
      intro d h
      obtain ⟨a1, a2⟩ := settle1_inc d.2 d.1 (z, []) h
      obtain ⟨b1, b2⟩ := ih (feed d z) a1
      refine ⟨b1, ?_⟩
      rw [List.foldl_cons, b2, List.length_cons]
      unfold feed
      omega
  have := q ws ([], []) fun g hg => by cases hg
  unfold stepsOf
  simpa using this
def FrAt (H : Hp) (v : V) (f : Step) : Prop := ∃ q, v = .ref q ∧ H q = some (.lst (stepV f))
structure StkW (K : PySem.W.Frag) (H0 H : Hp) (ps pw : Addr) (rs us : List V) (S fs : List Step) : Prop where
  keep : ∀ b o, H0 b = some o → H b = some o
  hps : H ps = some (.lst rs)
  hpw : H pw = some (.lst us.reverse)
  hS : AllAt (StepAt K H) rs S
  hF : AllAt (FrAt H) us fs
  nd : us.Nodup
  nx : ∀ q, V.ref q ∈ us → q ≠ ps ∧ q ≠ pw ∧ H0 q = none
  ne : ps ≠ pw
  n1 : H0 ps = none
  n2 : H0 pw = none
theorem frAll_upd {H : Hp} {x : Addr} {o : HO} : ∀ {us : List V} {fs : List Step}, (∀ q, V.ref q ∈ us → q ≠ x) → AllAt (FrAt H) us fs → AllAt (FrAt (upd H x o)) us fs
  | [], [], _, _ => True.intro
  | v :: us, f :: fs, n, h => by
    obtain ⟨⟨q, rfl, hq⟩, h2⟩ := h
    exact ⟨⟨q, rfl, by rw [upd_ne (n q (List.mem_cons_self ..))]; exact hq⟩, frAll_upd (fun q' hq' => n q' (List.mem_cons_of_mem _ hq')) h2⟩
  | [], _ :: _, _, h => h.elim
  | _ :: _, [], _, h => h.elim
theorem frAll_some {H : Hp} : ∀ {us : List V} {fs : List Step}, AllAt (FrAt H) us fs → ∀ q, V.ref q ∈ us → ∃ xs, H q = some (.lst xs)
  | v :: us, f :: fs, h, q, hq => by
    obtain ⟨⟨q', rfl, h1⟩, h2⟩ := h
    rcases List.mem_cons.mp hq with e | hq
    · cases e
      exact ⟨_, h1⟩
    · exact frAll_some h2 q hq
  | [], _, _, q, hq => by cases hq
  | _ :: _, [], h, _, _ => h.elim
theorem frAll_same {H H' : Hp} (s : Same H H') {us : List V} {fs : List Step} (h : AllAt (FrAt H) us fs) : AllAt (FrAt H') us fs := h.imp fun v f ⟨q, e, hq⟩ => ⟨q, e, s _ _ hq⟩
theorem StkW.same {K : PySem.W.Frag} {H0 H H' : Hp} {ps pw : Addr} {rs us : List V} {S fs : List Step} (W : StkW K H0 H ps pw rs us S fs) (s : Same H H') : StkW K H0 H' ps pw rs us S fs :=
  ⟨fun b o e => s b o (W.keep b o e), s _ _ W.hps, s _ _ W.hpw, W.hS.imp (StepAt.same s), frAll_same s W.hF, W.nd, W.nx, W.ne, W.n1, W.n2⟩
theorem StkW.push {K : PySem.W.Frag} {H0 H : Hp} {ps pw pf : Addr} {rs us : List V} {S fs : List Step} {z : Str} (W : StkW K H0 H ps pw rs us S fs) (hpf : H pf = none) :
    StkW K H0 (upd (upd H pf (.lst [.str z])) pw (.lst (us.reverse ++ [.ref pf]))) ps pw rs (.ref pf :: us) S ((z, []) :: fs) := by
  have s := Same.upd_new (o := .lst [.str z]) hpf
  have npw : pf ≠ pw := (ne_of_none W.hpw hpf).symm
  have nps : pf ≠ ps := (ne_of_none W.hps hpf).symm
  have hw := s _ _ W.hpw
  refine ⟨fun b o e => ?_, ?_, ?_, ?_, ⟨⟨pf, rfl, ?_⟩, ?_⟩, ?_, fun q hq => ?_, W.ne, W.n1, W.n2⟩
  · rw [upd_ne (ne_of_none e W.n2)]
    exact s _ _ (W.keep b o e)
  · rw [upd_ne W.ne]
    exact s _ _ W.hps
  · rw [List.reverse_cons]
    exact upd_same
  · exact (W.hS.imp (StepAt.same s)).imp fun v st h => StepAt.upd hw h
  · rw [upd_ne npw]
    exact upd_same
  · exact frAll_upd (fun q hq => (W.nx q hq).2.1) (frAll_same s W.hF)
  · refine List.nodup_cons.mpr ⟨fun hm => ?_, W.nd⟩
    obtain ⟨xs, e⟩ := frAll_some W.hF pf hm
    rw [hpf] at e
    cases e
  · rcases List.mem_cons.mp hq with e | hq
    · cases e
      refine ⟨nps, npw, ?_⟩
      cases e0 : H0 pf with
      | none => rfl
      | some o => rw [W.keep _ _ e0] at hpf; cases hpf
    · exact W.nx q hq
/-- the last frame off, a tuple of it behind the steps -/
theorem StkW.pop {K : PySem.W.Frag} {H0 H H1 : Hp} {ps pw tq q0 : Addr} {rs us : List V} {S fs : List Step} {f : Step} (W : StkW K H0 H ps pw rs (.ref q0 :: us) S (f :: fs)) (s : Same (upd H pw (.lst us.reverse)) H1) (ht : SqT K H1 tq (stepV f)) :
    StkW K H0 (upd H1 ps (.lst (rs ++ [.ref tq]))) ps pw (rs ++ [.ref tq]) us (S ++ [f]) fs := by
  have nd := List.nodup_cons.mp W.nd
  have hps1 : H1 ps = some (.lst rs) := s _ _ (by rw [upd_ne W.ne]; exact W.hps)
  refine ⟨fun b o e => ?_, upd_same, ?_, ?_, ?_, nd.2, fun q hq => W.nx q (List.mem_cons_of_mem _ hq), W.ne, W.n1, W.n2⟩
  · rw [upd_ne (ne_of_none e W.n1)]
    refine s _ _ ?_
    rw [upd_ne (ne_of_none e W.n2)]
    exact W.keep b o e
  · rw [upd_ne W.ne.symm]
    exact s _ _ upd_same
  · refine AllAt.app ?_ ⟨StepAt.upd hps1 ⟨tq, rfl, ht⟩, True.intro⟩
    exact ((W.hS.imp fun v st h => StepAt.upd W.hpw h).imp (StepAt.same s)).imp fun v st h => StepAt.upd hps1 h
  · exact frAll_upd (fun q hq => (W.nx q (List.mem_cons_of_mem _ hq)).1) (frAll_same s (frAll_upd (fun q hq => (W.nx q (List.mem_cons_of_mem _ hq)).2.1) W.hF.2))
/-- a number behind the last frame -/
theorem StkW.note {K : PySem.W.Frag} {H0 H : Hp} {ps pw q0 : Addr} {rs us : List V} {S fs : List Step} {f : Step} {n : Nat} (W : StkW K H0 H ps pw rs (.ref q0 :: us) S (f :: fs)) :
    StkW K H0 (upd H q0 (.lst (stepV f ++ [.int (n : Nat)]))) ps pw rs (.ref q0 :: us) S ((f.1, f.2 ++ [n]) :: fs) := by
  have nd := List.nodup_cons.mp W.nd
  obtain ⟨n1, n2, n3⟩ := W.nx q0 (List.mem_cons_self ..)
  obtain ⟨⟨q, e, hq⟩, hF⟩ := W.hF
  cases e
  refine ⟨fun b o e => ?_, ?_, ?_, W.hS.imp fun v st h => StepAt.upd hq h, ⟨⟨q0, rfl, ?_⟩, ?_⟩, W.nd, W.nx, W.ne, W.n1, W.n2⟩
  · rw [upd_ne (ne_of_none e n3)]
    exact W.keep b o e
  · rw [upd_ne n1.symm]
    exact W.hps
  · rw [upd_ne n2.symm]
    exact W.hpw
  · rw [upd_same]
    unfold stepV
    rw [List.map_append]
    rfl
  · refine frAll_upd (fun q hq e => nd.1 (by rw [← e]; exact hq)) hF
def spSteps (K : PySem.W.Frag) : Sp := fun vs H Q _ => ∃ (l : Addr) (ws : List Str), vs = [.ref l] ∧ SqL K H l (ws.map V.str) ∧ ws.length ≤ 900 ∧ (∀ st ∈ (stepsOf ws).1, st.2.length ≤ 2) ∧ WfS (stepsOf ws).1 ∧
  ∀ (t : Addr) (us : List V) H', SqT K H' t us → AllAt (StepAt K H') us (eachS (stepsOf ws).1).1 → Same H H' → Q (.ref t) H'
section
variable {P : Program} {w : World} {K : PySem.W.Frag} {mg : Str → Option Value} {base : Heap} {a : Wf} {g : Gf} {c : Fg} {h : Hf} {IT fIT : Addr} {f : Addr} {fd : FuncData}
theorem ok_steps {f1 : FuncData} (F : Fun K "_steps_of_words" "_steps_of_words" s_steps_of_words f fd) (T : TxtR K w mg a g c h IT fIT) (G__each_once : FnOk P w K mg base CX0 1 g.each f1 ["steps"] (spEach K)) (b__each_once : Binds K f1 ["steps"] []) :
    FnOk P w K mg base CX0 2 f fd ["words"] (spSteps K) := by
  refine F.ok sc_steps_of_words (fun vs H Q E h => ?_) (fun cdv A outer s H vs Q E hr h => ?_)
  · obtain ⟨_, _, rfl, _⟩ := h
    rfl
  · obtain ⟨l, ws, rfl, hl, hn, ar, wf, k⟩ := h
    refine ⟨_, (pss_cons (ps_set (i := 1) sc_steps_of_words.nd rfl (Or.inl rfl) (pe_lst pa_nil))
    (pss_cons (ps_set (i := 2) sc_steps_of_words.nd rfl (Or.inl rfl) (pe_lst pa_nil))
    (pss_cons (ps_for PassesOwn.never rfl (pi_list (pv 0)) (pg_name (i := 3) sc_steps_of_words.nd rfl (Or.inl rfl))
      (pss_cons (ps_expr (pe_bm PySem.F.plainAttrs_list PySem.F.slot_list_append PySem.F.type_list_append mt_append (pv 2) (pa_cons (pe_lst (pa_cons (pv 3) pa_nil)) pa_nil)))
      (pss_one (ps_while PassesOwn.never (PW.pt (pw_and (pt_truth (pv 2) (by intro _; rfl)) (pw_and1 (pt_cmpR op_gt (pe_callB call_len (by rfl) T.b_len PySem.boot_len (pa_cons (pe_ix ix_list (pv 2) (pe_un un_neg pe_int) (fun _ _ => rfl)) pa_nil)) (pe_kget2 (K := K) rfl rfl T.d_SIGNS (pe_gr rfl T.g_SIGNS) (pe_ix ix_list (pe_ix ix_list (pv 2) (pe_un un_neg pe_int) (fun _ _ => rfl)) pe_int (fun _ _ => rfl)) pe_int ⟨rfl, rfl, rfl, rfl⟩) (nomark _))))) (pss_cons (ps_expr (pe_bm PySem.F.plainAttrs_list PySem.F.slot_list_append PySem.F.type_list_append mt_append (pv 1) (pa_cons (pe_callTy call_tupS (by rfl) T.b_tuple (by decide +kernel) (pa_cons (pe_bm0 PySem.F.plainAttrs_list PySem.F.slot_list_pop PySem.F.type_list_pop mt_pop (pv 2)) pa_nil)) pa_nil)))
    (pss_one (ps_if (pt_truth (pv 2) (by intro _; rfl)) (pss_one (ps_expr (pe_bm PySem.F.plainAttrs_list PySem.F.slot_list_append PySem.F.type_list_append mt_append (pe_ix ix_list (pv 2) (pe_un un_neg pe_int) (fun _ _ => rfl)) (pa_cons (pe_op op_sub (pe_callB call_len (by rfl) T.b_len PySem.boot_len (pa_cons (pv 1) pa_nil)) pe_int) pa_nil)))) pss_nil)))))))
    (pss_one (ps_ret (pe_call G__each_once (hr.mono (by decide)) rfl T.g__each_once T.k__each_once b__each_once .nil pass0 (pa_cons (pv 1) pa_nil))))))), ?_⟩
    refine ⟨by decide, fun ps hps => ⟨by decide, fun pw hpw => ?_⟩⟩
    have n1 : ps ≠ pw := ne_of_none upd_same hpw
    have s2 := (Same.upd_new (o := .lst []) hps).trans (Same.upd_new (o := .lst []) hpw)
    have pw0 : H pw = none := (Same.upd_new (o := .lst []) hps).free hpw
    have W0 : StkW K H (upd (upd H ps (.lst [])) pw (.lst [])) ps pw [] [] [] [] := ⟨s2, by rw [upd_ne n1]; exact upd_same, upd_same, True.intro, True.intro, List.nodup_nil, (fun q hq => by cases hq), n1, hps, pw0⟩
    generalize upd (upd H ps (.lst [])) pw (.lst []) = H2 at s2 W0 ⊢
    refine ⟨_, rfl, l, rfl, ⟨_, Same.sqL s2 hl⟩, for_list (K := K) (a := l) (xs := ws.map V.str) (fun i σ H' => ∃ (v3 : Option V) (rs us : List V), σ = [some (.ref l), some (.ref ps), some (.ref pw), v3] ∧ StkW K H H' ps pw rs us (stepsOf (ws.take i)).1 (stepsOf (ws.take i)).2) ⟨_, [], [], rfl, W0⟩ (fun i σ H' _ ⟨_, _, _, _, W⟩ => Same.sqL W.keep hl) ?_ ?_⟩
    · rintro i x σ H3 hx ⟨v3, rs, us, rfl, W⟩
      obtain ⟨z, hzm, hz, rfl⟩ := get_map_strG hx
      obtain ⟨inc, len⟩ := stepsOf_inc (ws.take i)
      have et := stepsOf_take ws i z hz
      have hi : i < ws.length := (List.getElem?_eq_some_iff.mp hz).1
      rw [List.length_take] at len
      generalize stepsOf (ws.take i) = d at *
      obtain ⟨S, fs⟩ := d
      dsimp only at *
      refine ⟨_, rfl, .inl ⟨rfl, _, .inl (.inl W.hpw)⟩, _, rfl, (by show 1 ≤ sizeLine; decide), fun pf hpf => ?_⟩
      have WP := W.push (z := z) hpf
      have hpw3 : (upd H3 pf (.lst [.str z])) pw = some (.lst us.reverse) := (Same.upd_new (o := .lst [.str z]) hpf) _ _ W.hpw
      have lu := W.hF.len
      refine ⟨pw, _, _, rfl, rfl, hpw3, ?_, ?_⟩
      · rw [List.length_reverse, lu]
        exact small1000 (by omega)
      have cs : settle S ((z, []) :: fs) = stepsOf (ws.take (i + 1)) := et.symm
      generalize upd (upd H3 pf (.lst [.str z])) pw (.lst (us.reverse ++ [.ref pf])) = H4 at WP ⊢
      refine ⟨fun m σ H' => ∃ (rs us : List V) (S fs : List Step), σ = [some (.ref l), some (.ref ps), some (.ref pw), some (.str z)] ∧ StkW K H H' ps pw rs us S fs ∧ settle S fs = stepsOf (ws.take (i + 1)) ∧ (∀ g ∈ fs.tail, WaitF g) ∧ (∀ g ∈ fs, g.2.length ≤ 2) ∧ S.length + fs.length ≤ 900 ∧ m = fs.length, ⟨_, rs, .ref pf :: us, S, (z, []) :: fs, rfl, WP, cs, inc, ?_, by rw [List.length_cons]; omega, rfl⟩, ?_⟩
      · intro g hg
        rcases List.mem_cons.mp hg with rfl | hg
        · exact Nat.zero_le _
        · have := inc g hg
          have := arity_le g.1
          unfold WaitF at *
          omega
      clear WP cs et W inc lu hpw3 hpf len H4 H3 v3 rs us S fs
      rintro m σ H4 ⟨rs, us, S, fs, rfl, W, cs, inc, two, len, rfl⟩
      have lu := W.hF.len
      have eiU : us.reverse.isEmpty = us.isEmpty := by cases us <;> simp
      refine ⟨_, rfl, _, .inl ⟨_, .inl (.inl W.hpw), rfl⟩, ?_⟩
      rw [eiU]
      match us, fs, lu, W, cs, inc, two, len with
      | [], [], _, W, cs, _, _, _ =>
        refine iteFh rfl (iteF ?_)
        refine ⟨_, rs, [], rfl, ?_⟩
        rw [← cs]
        exact W
      | v :: us, [], lu, _, _, _, _, _ => cases lu
      | [], f :: fs, lu, _, _, _, _, _ => cases lu
      | v :: us, f :: fs, lu, W, cs, inc, two, len =>
      refine iteTh rfl ?_
      obtain ⟨⟨q0, rfl, hq0⟩, hF⟩ := W.hF
      have hpw := W.hpw
      rw [List.reverse_cons] at hpw
      have hla : atI (us.reverse ++ [V.ref q0]) (-1) = some (.ref q0) := at_lastG _ _
      refine ⟨_, rfl, 1, rfl, pw, _, _, _, rfl, rfl, .inl (.inl hpw), hla, _, (stepV f).length, rfl, .inl ⟨_, .inl (.inl hq0), rfl⟩, ?_⟩
      obtain ⟨r, r1, r2, r3⟩ := T.sig f.1
      refine ⟨_, rfl, 1, rfl, pw, _, _, _, rfl, rfl, .inl (.inl hpw), hla, q0, _, _, _, rfl, rfl, .inl (.inl hq0), atI_nat (j := 0) rfl, f.1, r, .int (arityW f.1 : Nat), rfl, r1, r3, _, _, rfl, rfl, _, rfl, ?_⟩
      have lsv : (stepV f).length = f.2.length + 1 := by
        unfold stepV
        rw [List.length_cons, List.length_map]
      by_cases hw : f.2.length < arityW f.1
      · refine iteFh (decide_eq_false (by rw [lsv]; omega)) ?_
        refine ⟨_, rs, .ref q0 :: us, rfl, ?_⟩
        rw [← cs]
        show StkW K H H4 ps pw rs (V.ref q0 :: us) (settle1 S f fs).1 (settle1 S f fs).2
        rw [settle1_go hw]
        exact W
      refine iteTh (decide_eq_true (by rw [lsv]; omega)) ?_
      refine ⟨fun σ' H' => ∃ m', m' < (f :: fs).length ∧ ∃ rs us S fs, σ' = [some (.ref l), some (.ref ps), some (.ref pw), some (.str z)] ∧ StkW K H H' ps pw rs us S fs ∧ settle S fs = stepsOf (ws.take (i + 1)) ∧ (∀ g ∈ fs.tail, WaitF g) ∧ (∀ g ∈ fs, g.2.length ≤ 2) ∧ S.length + fs.length ≤ 900 ∧ m' = fs.length, fun σ' H' h => h, ?_⟩
      have lr := W.hS.len
      refine ⟨_, rfl, .inl ⟨rfl, _, .inl (.inl W.hps)⟩, _, rfl, .inl ⟨rfl, _, .inl (.inl hpw)⟩, ?_⟩
      have hll : (us.reverse ++ [V.ref q0])[(us.reverse ++ [V.ref q0]).length - 1]? = some (V.ref q0) := by
        rw [List.length_append, show us.reverse.length + [V.ref q0].length - 1 = us.reverse.length from rfl, List.getElem?_append_right (Nat.le_refl _), Nat.sub_self]
        rfl
      refine ⟨pw, _, _, rfl, rfl, hpw, hll, ?_⟩
      rw [List.dropLast_concat]
      obtain ⟨x1, x2, x3⟩ := W.nx q0 (List.mem_cons_self ..)
      have hq5 : (upd H4 pw (.lst us.reverse)) q0 = some (.lst (stepV f)) := by
        rw [upd_ne x2]
        exact hq0
      dsimp only [tNil]
      refine rTup_of (K := K) (a := q0) (xs := stepV f) (.inl (.inl (.inl hq5))) fun tq H5 ht5 s5 => ?_
      have hps5 : H5 ps = some (.lst rs) := s5 _ _ (by rw [upd_ne W.ne]; exact W.hps)
      refine ⟨ps, _, _, rfl, rfl, hps5, ?_, ?_⟩
      · rw [lr]
        exact small1000 (by rw [List.length_cons] at len; omega)
      have WP := W.pop s5 ht5
      have e1 := settle1_up (S := S) (f := f) (fs := fs) hw
      have cs' : settle1 S f fs = stepsOf (ws.take (i + 1)) := cs
      rw [cs'] at e1
      generalize upd H5 ps (.lst (rs ++ [V.ref tq])) = H6 at WP ⊢
      have lu6 := WP.hF.len
      have eiU6 : us.reverse.isEmpty = us.isEmpty := by cases us <;> simp
      refine ⟨_, rfl, _, .inl ⟨_, .inl (.inl WP.hpw), rfl⟩, ?_⟩
      rw [eiU6]
      match us, fs, lu6, WP, e1, inc, two, len with
      | [], [], _, WP, e1, _, _, len =>
        refine iteFh rfl ?_
        exact ⟨0, Nat.succ_pos _, rs ++ [.ref tq], [], S ++ [f], [], rfl, WP, e1.symm, (fun g hg => by cases hg), (fun g hg => by cases hg), (by simp only [List.length_append, List.length_cons, List.length_nil] at *; omega), rfl⟩
      | v :: us, [], lu6, _, _, _, _, _ => cases lu6
      | [], g :: gs, lu6, _, _, _, _, _ => cases lu6
      | v :: us, g :: gs, lu6, WP, e1, inc, two, len =>
      refine iteTh rfl ?_
      obtain ⟨⟨q1, rfl, hq1⟩, _⟩ := WP.hF
      have hpw6 := WP.hpw
      rw [List.reverse_cons] at hpw6
      have hla6 : atI (us.reverse ++ [V.ref q1]) (-1) = some (.ref q1) := at_lastG _ _
      have lr6 := WP.hS.len
      refine ⟨_, rfl, 1, rfl, pw, _, _, _, rfl, rfl, .inl (.inl hpw6), hla6, .inl ⟨rfl, _, .inl (.inl hq1)⟩, _, rfl, _, (rs ++ [V.ref tq]).length, rfl, .inl ⟨_, .inl (.inl WP.hps), rfl⟩, _, _, rfl, rfl, q1, _, _, rfl, rfl, hq1, ?_, ?_⟩
      · have := two g (List.mem_cons_of_mem _ (List.mem_cons_self ..))
        unfold stepV
        rw [List.length_cons, List.length_map]
        exact small1000 (by omega)
      have en : (((rs ++ [V.ref tq]).length : Nat) : Int) - 1 = ((S.length : Nat) : Int) := by
        rw [lr6, List.length_append]
        simp
      have WN : StkW K H (upd H6 q1 (.lst (stepV g ++ [V.int ((((rs ++ [V.ref tq]).length : Nat) : Int) - 1)]))) ps pw (rs ++ [.ref tq]) (.ref q1 :: us) (S ++ [f]) ((g.1, g.2 ++ [S.length]) :: gs) := by
        rw [en]
        exact WP.note (n := S.length)
      refine ⟨(g :: gs).length, by simp, rs ++ [.ref tq], .ref q1 :: us, S ++ [f], (g.1, g.2 ++ [S.length]) :: gs, rfl, WN, e1.symm, fun x hx => inc x (List.mem_cons_of_mem _ hx), fun x hx => ?_, ?_, by simp⟩
      · rcases List.mem_cons.mp hx with rfl | hx
        · have hg : WaitF g := inc g (List.mem_cons_self ..)
          have := arity_le g.1
          unfold WaitF at hg
          show (g.2 ++ [S.length]).length ≤ 2
          rw [List.length_append, List.length_singleton]
          omega
        · exact two x (List.mem_cons_of_mem _ (List.mem_cons_of_mem _ hx))
      · simp only [List.length_append, List.length_cons, List.length_nil] at *
        omega
    · rintro σ H3 ⟨v3, rs, us, rfl, W⟩
      rw [List.length_map, List.take_length] at W
      refine ⟨_, rfl, ps, rs, (stepsOf ws).1, rfl, .inl (.inl W.hps), W.hS, ?_, wf, ar, fun t us' H4 h4 h5 s4 => k t us' H4 h4 h5 (fun b o e => s4 b o (W.keep b o e))⟩
      have := (stepsOf_inc ws).2
      omega
end
end L2.Wk
namespace L2.Wk
open PySem PySem.Spec PyProof.Rows
/-! ### words that make a formula: the steps have these words -/
theorem getD_pre {α : Type} {A T : List α} {j : Nat} {d : α} (h : j < A.length) : (A ++ T).getD j d = A.getD j d := by
  rw [List.getD_eq_getElem?_getD, List.getD_eq_getElem?_getD, List.getElem?_append_left h]
theorem wordsS_pre {A T : List (List Str)} {f : Step} (h : ∀ j ∈ f.2, j < A.length) : wordsS (A ++ T) f = wordsS A f := by
  unfold wordsS
  congr 1
  have q : ∀ l : List Nat, (∀ j ∈ l, j < A.length) → (l.flatMap fun j => (A ++ T).getD j []) = l.flatMap fun j => A.getD j [] := by
    intro l
    induction l with
    | nil => intro _; rfl
    | cons a l ih =>
      intro hl
      rw [List.flatMap_cons, List.flatMap_cons, ih fun j hj => hl j (List.mem_cons_of_mem _ hj), getD_pre (hl a (List.mem_cons_self ..))]
  exact q f.2 h
def Flat (S fs : List Step) : List Str := fs.reverse.flatMap (wordsS (wordsL S))
theorem Flat_pre {S T fs : List Step} (h : ∀ f ∈ fs, ∀ j ∈ f.2, j < S.length) : Flat (S ++ T) fs = Flat S fs := by
  unfold Flat
  obtain ⟨W, e⟩ := wordsL_pre S T
  rw [e]
  have q : ∀ l : List Step, (∀ f ∈ l, ∀ j ∈ f.2, j < S.length) → l.flatMap (wordsS (wordsL S ++ W)) = l.flatMap (wordsS (wordsL S)) := by
    intro l
    induction l with
    | nil => intro _; rfl
    | cons a l ih =>
      intro hl
      rw [List.flatMap_cons, List.flatMap_cons, ih fun f hf => hl f (List.mem_cons_of_mem _ hf), wordsS_pre (by rw [wordsL_len]; exact hl a (List.mem_cons_self ..))]
  exact q _ fun f hf => h f (List.mem_reverse.mp hf)
theorem Flat_cons (S : List Step) (f : Step) (fs : List Step) : Flat S (f :: fs) = Flat S fs ++ wordsS (wordsL S) f := by
  unfold Flat
  rw [List.reverse_cons, List.flatMap_append]
  simp
theorem last_words (S : List Step) (f : Step) : (wordsL (S ++ [f])).getLastD [] = wordsS (wordsL S) f := by
  rw [wordsL_snoc, List.getLastD_concat]
/-- what is wanted still: of the last frame all its missing ones, of the others one less -/
def needF : List Step → Nat
  | [] => 0
  | f :: fs => (arityW f.1 - f.2.length) + (fs.map fun g => arityW g.1 - g.2.length - 1).sum
/-- what holds of steps and frames -/
structure PoI (S fs : List Step) : Prop where
  wf : WfS S
  ar : ∀ st ∈ S, st.2.length = arityW st.1
  lt : ∀ f ∈ fs, ∀ j ∈ f.2, j < S.length
  pa : ∀ i, i < S.length → (∃ (p : Nat) (st : Step), S[p]? = some st ∧ i ∈ st.2) ∨ (∃ f ∈ fs, i ∈ f.2) ∨ (fs = [] ∧ i + 1 = S.length)
theorem PoI.up {S fs : List Step} {f : Step} (h : PoI S (f :: fs)) (hc : f.2.length = arityW f.1) : PoI (S ++ [f]) (match fs with | [] => [] | g :: gs => (g.1, g.2 ++ [S.length]) :: gs) := by
  refine ⟨fun i st hi j hj => ?_, fun st hs => ?_, fun x hx j hj => ?_, fun i hi => ?_⟩
  · by_cases hl : i < S.length
    · rw [List.getElem?_append_left hl] at hi
      exact h.wf i st hi j hj
    · rw [List.getElem?_append_right (by omega)] at hi
      have e : i - S.length = 0 := by
        have := (List.getElem?_eq_some_iff.mp hi).1
        simpa using this
      rw [e] at hi
      cases hi
      have := h.lt _ (List.mem_cons_self ..) j hj
      omega
  · rcases List.mem_append.mp hs with hs | hs
    · exact h.ar st hs
    · rw [List.mem_singleton.mp hs]
      exact hc
  · rw [List.length_append]
    cases fs with
    | nil => cases hx
    | cons g gs =>
      rcases List.mem_cons.mp hx with rfl | hx
      · rcases List.mem_append.mp hj with hj | hj
        · have := h.lt g (by simp) j hj
          omega
        · rw [List.mem_singleton.mp hj]
          simp
      · have := h.lt x (by simp [hx]) j hj
        omega
  · rw [List.length_append] at hi
    by_cases hl : i < S.length
    · rcases h.pa i hl with ⟨p, st, hp, hm⟩ | ⟨x, hx, hm⟩ | ⟨e, _⟩
      · refine .inl ⟨p, st, ?_, hm⟩
        rw [List.getElem?_append_left (List.getElem?_eq_some_iff.mp hp).1]
        exact hp
      · rcases List.mem_cons.mp hx with rfl | hx
        · refine .inl ⟨S.length, x, ?_, hm⟩
          rw [List.getElem?_append_right (Nat.le_refl _), Nat.sub_self]
          rfl
        · cases fs with
          | nil => cases hx
          | cons g gs =>
            rcases List.mem_cons.mp hx with rfl | hx
            · exact .inr (.inl ⟨_, List.mem_cons_self .., List.mem_append_left _ hm⟩)
            · exact .inr (.inl ⟨x, List.mem_cons_of_mem _ hx, hm⟩)
      · cases e
    · have e : i = S.length := by
        simp at hi
        omega
      subst e
      cases fs with
      | nil => exact .inr (.inr ⟨rfl, by simp⟩)
      | cons g gs => exact .inr (.inl ⟨_, List.mem_cons_self .., List.mem_append_right _ (List.mem_singleton.mpr rfl)⟩)
theorem settle1_ok : ∀ (fs S : List Step) (f : Step), PoI S (f :: fs) → f.2.length ≤ arityW f.1 → (∀ g ∈ fs, WaitF g) →
    PoI (settle1 S f fs).1 (settle1 S f fs).2 ∧ needF (settle1 S f fs).2 = needF (f :: fs) ∧
    ((settle1 S f fs).2 ≠ [] → Flat (settle1 S f fs).1 (settle1 S f fs).2 = Flat S (f :: fs)) ∧
    ((settle1 S f fs).2 = [] → (settle1 S f fs).1 ≠ [] ∧ (wordsL (settle1 S f fs).1).getLastD [] = Flat S (f :: fs))
  | [], S, f, h, le, inc => by
    by_cases hw : f.2.length < arityW f.1
    · rw [settle1_go hw]
      exact ⟨h, rfl, (fun _ => rfl), (fun e => by cases e)⟩
    · have e : settle1 S f [] = (S ++ [f], []) := by unfold settle1; rw [if_neg hw]
      rw [e]
      refine ⟨h.up (by omega), ?_, (fun e => absurd rfl e), fun _ => ⟨by simp, ?_⟩⟩
      · unfold needF
        simp
        omega
      · show (wordsL (S ++ [f])).getLastD [] = _
        rw [last_words, Flat_cons]
        rfl
  | g :: gs, S, f, h, le, inc => by
    by_cases hw : f.2.length < arityW f.1
    · rw [settle1_go hw]
      exact ⟨h, rfl, (fun _ => rfl), (fun e => by cases e)⟩
    · have e : settle1 S f (g :: gs) = settle1 (S ++ [f]) (g.1, g.2 ++ [S.length]) gs := by
        conv => lhs; unfold settle1
        rw [if_neg hw]
      have hg : WaitF g := inc g (List.mem_cons_self ..)
      have up := h.up (by omega)
      obtain ⟨q1, q2, q3, q4⟩ := settle1_ok gs (S ++ [f]) (g.1, g.2 ++ [S.length]) up (by unfold WaitF at hg; simp; omega) fun x hx => inc x (List.mem_cons_of_mem _ hx)
      have fl : Flat (S ++ [f]) ((g.1, g.2 ++ [S.length]) :: gs) = Flat S (f :: g :: gs) := by
        rw [Flat_cons, Flat_cons, Flat_cons, Flat_pre fun x hx => h.lt x (by simp [hx]), List.append_assoc]
        congr 1
        have e1 : wordsS (wordsL (S ++ [f])) g = wordsS (wordsL S) g := by
          rw [wordsL_snoc]
          exact wordsS_pre (by rw [wordsL_len]; exact h.lt g (by simp))
        have e2 : (wordsL (S ++ [f])).getD S.length [] = wordsS (wordsL S) f := by
          rw [wordsL_snoc, List.getD_eq_getElem?_getD, List.getElem?_append_right (by rw [wordsL_len]; exact Nat.le_refl _), wordsL_len, Nat.sub_self]
          rfl
        rw [← e1, ← e2]
        unfold wordsS
        rw [List.flatMap_append]
        simp
      rw [e]
      refine ⟨q1, ?_, fun hne => (q3 hne).trans fl, fun he => ⟨(q4 he).1, (q4 he).2.trans fl⟩⟩
      rw [q2]
      unfold needF WaitF at *
      simp only [List.map_cons, List.sum_cons, List.length_append, List.length_singleton]
      omega
/-- all that has been taken: words ws, steps and frames, so many wanted -/
structure FoI (ws : List Str) (S fs : List Step) (n : Nat) : Prop where
  pi : PoI S fs
  inc : ∀ g ∈ fs, WaitF g
  open_ : fs ≠ [] → Flat S fs = ws ∧ n = needF fs
  done : fs = [] → (S = [] ∧ ws = [] ∧ n = 1) ∨ (S ≠ [] ∧ (wordsL S).getLastD [] = ws ∧ n = 0)
theorem FoI.step {ws : List Str} {S fs : List Step} {m : Nat} {w : Str} (h : FoI ws S fs (m + 1)) : FoI (ws ++ [w]) (feed (S, fs) w).1 (feed (S, fs) w).2 (m + arityW w) := by
  have p0 : PoI S ((w, []) :: fs) := by
    refine ⟨h.pi.wf, h.pi.ar, fun f hf j hj => ?_, fun i hi => ?_⟩
    · rcases List.mem_cons.mp hf with rfl | hf
      · cases hj
      · exact h.pi.lt f hf j hj
    · rcases h.pi.pa i hi with q | ⟨f, hf, q⟩ | ⟨e, q⟩
      · exact .inl q
      · exact .inr (.inl ⟨f, List.mem_cons_of_mem _ hf, q⟩)
      · rcases h.done e with ⟨e2, _⟩ | ⟨_, _, e3⟩
        · rw [e2] at hi
          cases hi
        · omega
  obtain ⟨q1, q2, q3, q4⟩ := settle1_ok fs S (w, []) p0 (Nat.zero_le _) h.inc
  have inc := (settle1_inc fs S (w, []) h.inc).1
  have fl : Flat S ((w, []) :: fs) = ws ++ [w] := by
    rw [Flat_cons]
    cases fs with
    | nil =>
      rcases h.done rfl with ⟨_, e2, _⟩ | ⟨_, _, e3⟩
      · rw [e2]
        rfl
      · omega
    | cons f fs =>
      rw [(h.open_ (by simp)).1]
      rfl
  have nd : needF ((w, []) :: fs) = m + arityW w := by
    cases fs with
    | nil =>
      rcases h.done rfl with ⟨_, _, e3⟩ | ⟨_, _, e3⟩
      · unfold needF
        simp
        omega
      · omega
    | cons f fs =>
      have e := (h.open_ (by simp)).2
      have hf : WaitF f := h.inc f (List.mem_cons_self ..)
      unfold needF WaitF at *
      simp only [List.map_cons, List.sum_cons, List.length_nil] at *
      omega
  refine ⟨q1, inc, fun hne => ⟨(q3 hne).trans fl, (q2.trans nd).symm⟩, fun he => .inr ⟨(q4 he).1, (q4 he).2.trans fl, ?_⟩⟩
  have e0 : needF (settle1 S (w, []) fs).2 = 0 := by
    have he' : (settle1 S (w, []) fs).2 = [] := he
    rw [he']
    rfl
  omega
theorem due_steps : ∀ (rest ws : List Str) (i n : Nat) (d : List Step × List Step), FoI ws d.1 d.2 n → dueW i n rest = none → ∃ S, rest.foldl feed d = (S, []) ∧ FoI (ws ++ rest) S [] 0
  | [], ws, i, n, d, h, e => by
    cases n with
    | succ n => cases e
    | zero =>
      obtain ⟨S, fs⟩ := d
      cases fs with
      | nil => exact ⟨S, rfl, by rw [List.append_nil]; exact h⟩
      | cons f fs =>
        exfalso
        have e2 : 0 = (arityW f.1 - f.2.length) + (fs.map fun g => arityW g.1 - g.2.length - 1).sum := (h.open_ (by simp)).2
        have hf : f.2.length < arityW f.1 := h.inc f (List.mem_cons_self ..)
        omega
  | w :: rest, ws, i, n, d, h, e => by
    cases n with
    | zero => cases e
    | succ m =>
      have e' : (if okW w = true then dueW (i + 1) (m + arityW w) rest else some i) = none := e
      split at e'
      · obtain ⟨S, q1, q2⟩ := due_steps rest (ws ++ [w]) (i + 1) (m + arityW w) (feed d w) h.step e'
        exact ⟨S, q1, by rw [List.append_assoc] at q2; exact q2⟩
      · cases e'
theorem steps_ok {ws : List Str} (h : dueW 0 1 ws = none) : ∃ S, stepsOf ws = (S, []) ∧ PoI S [] ∧ S ≠ [] ∧ (wordsL S).getLastD [] = ws := by
  have h0 : FoI [] [] [] 1 := ⟨⟨(fun i st hi => by cases hi), (fun st hs => by cases hs), (fun f hf => by cases hf), (fun i hi => by cases hi)⟩, (fun g hg => by cases hg), (fun e => absurd rfl e), fun _ => .inl ⟨rfl, rfl, rfl⟩⟩
  obtain ⟨S, q1, q2⟩ := due_steps ws [] 0 1 ([], []) h0 h
  refine ⟨S, q1, q2.pi, ?_⟩
  rcases q2.done rfl with ⟨_, _, e⟩ | ⟨e1, e2, _⟩
  · cases e
  · exact ⟨e1, e2⟩
end L2.Wk
namespace L2.Wk
open PySem PySem.Spec PyProof.Rows
/-! ### each step once: the same words -/
theorem words_at {S : List Step} {i : Nat} {st : Step} (wf : WfS S) (h : S[i]? = some st) : (wordsL S).getD i [] = wordsS (wordsL S) st := by
  have hi := (List.getElem?_eq_some_iff.mp h).1
  have tk := words_take S i st h
  have li : (wordsL (S.take i)).length = i := by
    rw [wordsL_len, List.length_take]
    omega
  obtain ⟨T, e⟩ := wordsL_pre (S.take (i + 1)) (S.drop (i + 1))
  obtain ⟨T2, e2⟩ := wordsL_pre (S.take i) (S.drop i)
  rw [List.take_append_drop] at e e2
  have a1 : (wordsL S).getD i [] = wordsS (wordsL (S.take i)) st := by
    rw [e, tk, getD_pre (by rw [List.length_append, li]; simp), List.getD_eq_getElem?_getD, List.getElem?_append_right (by omega), li, Nat.sub_self]
    rfl
  rw [a1, e2, wordsS_pre]
  rw [li]
  exact wf i st h
structure EoI (S : List Step) (i : Nat) (d : List Step × List Nat) : Prop where
  len : d.2.length = i
  map : ∀ j, j < i → d.2.getD j 0 < d.1.length ∧ (wordsL d.1).getD (d.2.getD j 0) [] = (wordsL S).getD j []
  sur : ∀ k, k < d.1.length → ∃ j, j < i ∧ d.2.getD j 0 = k
  wf : WfS d.1
  ar : ∀ st ∈ d.1, st.2.length = arityW st.1
  nm : ∀ st ∈ d.1, ∃ st0 ∈ S, st0.1 = st.1
theorem getD_last (M : List Nat) (k : Nat) : (M ++ [k]).getD M.length 0 = k := by
  rw [List.getD_eq_getElem?_getD, List.getElem?_append_right (Nat.le_refl _), Nat.sub_self]
  rfl
theorem new_words {S : List Step} {i : Nat} {st : Step} {d : List Step × List Nat} (I : EoI S i d) (hs : ∀ j ∈ st.2, j < i) : wordsS (wordsL d.1) (newS d.2 st) = wordsS (wordsL S) st := by
  unfold wordsS newS
  congr 1
  have q : ∀ l : List Nat, (∀ j ∈ l, j < i) → ((l.map fun a => d.2.getD a 0).flatMap fun j => (wordsL d.1).getD j []) = l.flatMap fun j => (wordsL S).getD j [] := by
    intro l
    induction l with
    | nil => intro _; rfl
    | cons a l ih =>
      intro h
      rw [List.map_cons, List.flatMap_cons, List.flatMap_cons, ih fun j hj => h j (List.mem_cons_of_mem _ hj), (I.map a (h a (List.mem_cons_self ..))).2]
  exact q st.2 hs
theorem EoI.step {S : List Step} {i : Nat} {st : Step} {d : List Step × List Nat} (wf : WfS S) (ar : ∀ st ∈ S, st.2.length = arityW st.1) (h : S[i]? = some st) (I : EoI S i d) : EoI S (i + 1) (eStep d st) := by
  have hs := wf i st h
  have nw := new_words I hs
  have at_ := words_at wf h
  have nar : (newS d.2 st).2.length = arityW (newS d.2 st).1 := by
    unfold newS
    rw [List.length_map]
    exact ar st (List.mem_of_getElem? h)
  have nlt : ∀ j ∈ (newS d.2 st).2, j < d.1.length := fun j hj => by
    obtain ⟨a, ha, rfl⟩ := List.mem_map.mp hj
    exact (I.map a (hs a ha)).1
  have nn : (newS d.2 st).1 = st.1 := rfl
  unfold eStep
  generalize newS d.2 st = N at *
  split
  · rename_i hm
    have hk : d.1.idxOf N < d.1.length := List.idxOf_lt_length_of_mem hm
    have gk : d.1[d.1.idxOf N]? = some N := by
      rw [List.getElem?_eq_getElem hk, List.getElem_idxOf hk]
    refine ⟨by simp [I.len], fun j hj => ?_, fun k hk' => ?_, I.wf, I.ar, I.nm⟩
    · by_cases e : j < i
      · rw [getD_pre (by rw [I.len]; exact e)]
        exact I.map j e
      · have e : j = d.2.length := by have := I.len; omega
        subst e
        rw [getD_last]
        refine ⟨hk, ?_⟩
        have := words_at I.wf gk
        dsimp only
        rw [this, nw, I.len, at_]
    · obtain ⟨j, h1, h2⟩ := I.sur k hk'
      exact ⟨j, by omega, by rw [getD_pre (by rw [I.len]; exact h1)]; exact h2⟩
  · rename_i hm
    refine ⟨by simp [I.len], fun j hj => ?_, fun k hk' => ?_, fun a x ha y hy => ?_, fun x hx => ?_, fun x hx => ?_⟩
    · by_cases e : j < i
      · rw [getD_pre (by rw [I.len]; exact e)]
        obtain ⟨m1, m2⟩ := I.map j e
        refine ⟨by rw [List.length_append, List.length_singleton]; omega, ?_⟩
        rw [wordsL_snoc, getD_pre (by rw [wordsL_len]; exact m1)]
        exact m2
      · have e : j = d.2.length := by have := I.len; omega
        subst e
        rw [getD_last]
        refine ⟨by simp, ?_⟩
        rw [wordsL_snoc, List.getD_eq_getElem?_getD, List.getElem?_append_right (by rw [wordsL_len]; exact Nat.le_refl _), wordsL_len, Nat.sub_self]
        show wordsS (wordsL d.1) N = _
        rw [nw, I.len, at_]
    · simp at hk'
      by_cases e : k < d.1.length
      · obtain ⟨j, h1, h2⟩ := I.sur k e
        exact ⟨j, by omega, by rw [getD_pre (by rw [I.len]; exact h1)]; exact h2⟩
      · have e : k = d.1.length := by omega
        subst e
        exact ⟨d.2.length, by have := I.len; omega, getD_last _ _⟩
    · by_cases e : a < d.1.length
      · rw [List.getElem?_append_left e] at ha
        exact I.wf a x ha y hy
      · rw [List.getElem?_append_right (by omega)] at ha
        have e0 : a - d.1.length = 0 := by
          have := (List.getElem?_eq_some_iff.mp ha).1
          simpa using this
        rw [e0] at ha
        cases ha
        have := nlt y hy
        omega
    · rcases List.mem_append.mp hx with hx | hx
      · exact I.ar x hx
      · rw [List.mem_singleton.mp hx]
        exact nar
    · rcases List.mem_append.mp hx with hx | hx
      · exact I.nm x hx
      · rw [List.mem_singleton.mp hx]
        exact ⟨st, List.mem_of_getElem? h, nn.symm⟩
theorem each_inv {S : List Step} (wf : WfS S) (ar : ∀ st ∈ S, st.2.length = arityW st.1) : ∀ i, i ≤ S.length → EoI S i (eachS (S.take i))
  | 0, _ => ⟨rfl, (fun j hj => by cases hj), (fun k hk => by cases hk), (fun i st h => by cases h), (fun st h => by cases h), (fun st h => by cases h)⟩
  | i + 1, hi => by
    have h : S[i]? = some S[i] := List.getElem?_eq_getElem (by omega)
    rw [eachS_take S i _ h]
    exact EoI.step wf ar h (each_inv wf ar i (by omega))
theorem mem_flat_len {A : List (List Str)} {j : Nat} : ∀ {l : List Nat}, j ∈ l → (A.getD j []).length ≤ (l.flatMap fun a => A.getD a []).length
  | a :: l, h => by
    rw [List.flatMap_cons, List.length_append]
    rcases List.mem_cons.mp h with rfl | h
    · omega
    · have := mem_flat_len (A := A) h
      omega
theorem lt_last {S : List Step} (h : PoI S []) : ∀ n j, j + n + 1 = S.length → j + 1 < S.length → ((wordsL S).getD j []).length < ((wordsL S).getD (S.length - 1) []).length := by
  intro n
  induction n using Nat.strongRecOn with
  | _ n ih =>
    intro j e hj
    rcases h.pa j (by omega) with ⟨p, st, hp, hm⟩ | ⟨f, hf, _⟩ | ⟨_, e2⟩
    · have hjp := h.wf p st hp j hm
      have hpl := (List.getElem?_eq_some_iff.mp hp).1
      have l1 : ((wordsL S).getD j []).length < ((wordsL S).getD p []).length := by
        rw [words_at h.wf hp]
        unfold wordsS
        rw [List.length_cons]
        have := mem_flat_len (A := wordsL S) hm
        omega
      by_cases e3 : p + 1 = S.length
      · rw [show S.length - 1 = p by omega]
        exact l1
      · have := ih (S.length - 1 - p) (by omega) p (by omega) (by omega)
        omega
    · cases hf
    · omega
theorem getD_getLast {S : List Step} (h : S ≠ []) : (wordsL S).getD (S.length - 1) [] = (wordsL S).getLastD [] := by
  have hl : (wordsL S).length = S.length := wordsL_len S
  have h0 : 0 < S.length := List.length_pos_iff.mpr h
  rcases List.eq_nil_or_concat (wordsL S) with e | ⟨m, c, e⟩
  · rw [e] at hl
    simp at hl
    omega
  · rw [List.concat_eq_append] at e
    have hm : m.length = S.length - 1 := by
      rw [e] at hl
      simp at hl
      omega
    rw [e, List.getLastD_concat, List.getD_eq_getElem?_getD, ← hm, List.getElem?_append_right (Nat.le_refl _), Nat.sub_self]
    rfl
theorem each_ok_words {S : List Step} (h : PoI S []) (ne : S ≠ []) : WfS (eachS S).1 ∧ (∀ st ∈ (eachS S).1, st.2.length ≤ 2) ∧ (eachS S).1 ≠ [] ∧ (wordsL (eachS S).1).getLastD [] = (wordsL S).getLastD [] ∧ (∀ st ∈ (eachS S).1, ∃ st0 ∈ S, st0.1 = st.1) := by
  have hpos : 0 < S.length := List.length_pos_iff.mpr ne
  have IF := each_inv h.wf h.ar S.length (Nat.le_refl _)
  rw [List.take_length] at IF
  obtain ⟨n, hn⟩ : ∃ n, S.length = n + 1 := ⟨S.length - 1, by omega⟩
  have hst : S[n]? = some S[n] := List.getElem?_eq_getElem (by omega)
  have I := each_inv h.wf h.ar n (by omega)
  have et := eachS_take S n _ hst
  rw [← hn, List.take_length] at et
  have nw := new_words I (h.wf n _ hst)
  have at_ := words_at h.wf hst
  have hl := getD_getLast ne
  rw [hn, Nat.add_sub_cancel] at hl
  generalize S[n] = st at *
  have nm : newS (eachS (S.take n)).2 st ∉ (eachS (S.take n)).1 := fun hm => by
    have hk : (eachS (S.take n)).1.idxOf (newS (eachS (S.take n)).2 st) < (eachS (S.take n)).1.length := List.idxOf_lt_length_of_mem hm
    have gk : (eachS (S.take n)).1[(eachS (S.take n)).1.idxOf (newS (eachS (S.take n)).2 st)]? = some (newS (eachS (S.take n)).2 st) := by
      rw [List.getElem?_eq_getElem hk, List.getElem_idxOf hk]
    obtain ⟨j, j1, j2⟩ := I.sur _ hk
    have w1 := words_at I.wf gk
    have w2 := (I.map j j1).2
    rw [j2, w1, nw, ← at_] at w2
    have := lt_last h (n - j) j (by omega) (by omega)
    rw [hn, Nat.add_sub_cancel, ← w2] at this
    omega
  unfold eStep at et
  rw [if_neg nm] at et
  rw [et] at IF ⊢
  refine ⟨IF.wf, fun x hx => ?_, by simp, ?_, IF.nm⟩
  · rw [IF.ar x hx]
    exact arity_le _
  · dsimp only
    rw [last_words, nw, ← at_, hl]
end L2.Wk
namespace L2.Wk
open PySem PySem.Spec PyProof.Rows
/-! ### Formula.read -/
theorem settle1_heads : ∀ (fs S : List Step) (f : Step) (x : Step), x ∈ (settle1 S f fs).1 ∨ x ∈ (settle1 S f fs).2 → ∃ y, (y ∈ S ∨ y ∈ f :: fs) ∧ y.1 = x.1
  | [], S, f, x, h => by
    unfold settle1 at h
    split at h
    · rcases h with h | h
      · exact ⟨x, .inl h, rfl⟩
      · exact ⟨x, .inr h, rfl⟩
    · rcases h with h | h
      · rcases List.mem_append.mp h with h | h
        · exact ⟨x, .inl h, rfl⟩
        · exact ⟨x, .inr h, rfl⟩
      · cases h
  | g :: gs, S, f, x, h => by
    unfold settle1 at h
    split at h
    · rcases h with h | h
      · exact ⟨x, .inl h, rfl⟩
      · exact ⟨x, .inr h, rfl⟩
    · obtain ⟨y, hy, e⟩ := settle1_heads gs (S ++ [f]) (g.1, g.2 ++ [S.length]) x h
      rcases hy with hy | hy
      · rcases List.mem_append.mp hy with hy | hy
        · exact ⟨y, .inl hy, e⟩
        · exact ⟨y, .inr (by rw [List.mem_singleton.mp hy]; exact List.mem_cons_self ..), e⟩
      · rcases List.mem_cons.mp hy with rfl | hy
        · exact ⟨g, .inr (by simp), e⟩
        · exact ⟨y, .inr (by simp [hy]), e⟩
theorem steps_heads (ws : List Str) : ∀ x, x ∈ (stepsOf ws).1 ∨ x ∈ (stepsOf ws).2 → x.1 ∈ ws := by
  have q : ∀ (rest ws : List Str) (d : List Step × List Step), (∀ x, x ∈ d.1 ∨ x ∈ d.2 → x.1 ∈ ws) → ∀ x, x ∈ (rest.foldl feed d).1 ∨ x ∈ (rest.foldl feed d).2 → x.1 ∈ ws ++ rest := by
    intro rest
    induction rest with
    | nil => intro ws d h x hx; rw [List.append_nil]; exact h x hx
    | cons w rest ih =>
      intro ws d h x hx
      have := ih (ws ++ [w]) (feed d w) (fun y hy => ?_) x hx
      · rw [List.append_assoc] at this
        exact this
      · obtain ⟨z, hz, e⟩ := settle1_heads d.2 d.1 (w, []) y hy
        rw [← e]
        rcases hz with hz | hz
        · exact List.mem_append_left _ (h z (.inl hz))
        · rcases List.mem_cons.mp hz with rfl | hz
          · exact List.mem_append_right _ (List.mem_singleton.mpr rfl)
          · exact List.mem_append_left _ (h z (.inr hz))
  have := q ws [] ([], []) fun x hx => by rcases hx with hx | hx <;> cases hx
  rw [List.nil_append] at this
  exact this
theorem words_heads (S : List Step) : ∀ l ∈ wordsL S, ∀ x ∈ l, ∃ st ∈ S, st.1 = x := by
  have q : ∀ (R : List Step) (acc : List (List Str)), (∀ st ∈ R, st ∈ S) → (∀ l ∈ acc, ∀ x ∈ l, ∃ st ∈ S, st.1 = x) → ∀ l ∈ R.foldl (fun acc st => acc ++ [wordsS acc st]) acc, ∀ x ∈ l, ∃ st ∈ S, st.1 = x := by
    intro R
    induction R with
    | nil => intro acc _ h; exact h
    | cons st R ih =>
      intro acc hR h
      rw [List.foldl_cons]
      refine ih _ (fun s hs => hR s (List.mem_cons_of_mem _ hs)) fun l hl x hx => ?_
      rcases List.mem_append.mp hl with hl | hl
      · exact h l hl x hx
      · rw [List.mem_singleton.mp hl] at hx
        rcases List.mem_cons.mp hx with rfl | hx
        · exact ⟨st, hR st (List.mem_cons_self ..), rfl⟩
        · obtain ⟨j, hj, hx⟩ := List.mem_flatMap.mp hx
          rw [List.getD_eq_getElem?_getD] at hx
          cases e : acc[j]? with
          | none => rw [e] at hx; cases hx
          | some l2 =>
            rw [e] at hx
            exact h l2 (List.mem_of_getElem? e) x hx
  exact q S [] (fun st h => h) fun l hl => by cases hl
/-- steps that have been read off words -/
structure RdS (ws : List Str) (S : List Step) : Prop where
  ne : S ≠ []
  len : S.length ≤ 1000
  wf : WfS S
  ar : ∀ st ∈ S, st.2.length ≤ 2
  last : (wordsL S).getLastD [] = ws
  big : ∀ l ∈ wordsL S, (l.map fun x => x.length).sum + l.length ≤ 100000
  hd : ∀ st ∈ S, st.1 ∈ ws
theorem read_ok {ws : List Str} (h : dueW 0 1 ws = none) (hl : ws.length ≤ 60) (hz : ∀ z ∈ ws, z.length ≤ 1000) : WfS (stepsOf ws).1 ∧ (∀ st ∈ (stepsOf ws).1, st.2.length ≤ 2) ∧ RdS ws (eachS (stepsOf ws).1).1 := by
  obtain ⟨S, e1, pi, ne, last⟩ := steps_ok h
  have hh := steps_heads ws
  have cnt := (stepsOf_inc ws).2
  rw [e1] at hh cnt ⊢
  dsimp only at *
  have hS : ∀ st ∈ S, st.1 ∈ ws := fun st hs => hh st (.inl hs)
  obtain ⟨k1, k2, k3, k4, k5⟩ := each_ok_words pi ne
  have kl := (eachS_lens S).2
  have khd : ∀ st ∈ (eachS S).1, st.1 ∈ ws := fun st hs => by
    obtain ⟨s0, h0, e⟩ := k5 st hs
    rw [← e]
    exact hS s0 h0
  have IF := each_inv pi.wf pi.ar S.length (Nat.le_refl _)
  rw [List.take_length] at IF
  have lenS : ∀ j, j < S.length → ((wordsL S).getD j []).length ≤ ws.length := fun j hj => by
    have e := getD_getLast ne
    rw [last] at e
    by_cases e2 : j + 1 = S.length
    · rw [show j = S.length - 1 by omega, e]
      exact Nat.le_refl _
    · have := lt_last pi (S.length - 1 - j) j (by omega) (by omega)
      rw [e] at this
      omega
  simp only [List.length_nil, Nat.add_zero] at cnt
  refine ⟨pi.wf, fun st hs => by rw [pi.ar st hs]; exact arity_le _, k3, by omega, k1, k2, k4.trans last, fun l hl2 => ?_, khd⟩
  obtain ⟨k, hk, rfl⟩ := List.getElem_of_mem hl2
  have hk' : k < (eachS S).1.length := by rw [wordsL_len] at hk; exact hk
  obtain ⟨j, j1, j2⟩ := IF.sur k hk'
  have e3 := (IF.map j j1).2
  have e4 : (wordsL (eachS S).1).getD k [] = (wordsL (eachS S).1)[k] := by
    rw [List.getD_eq_getElem?_getD, List.getElem?_eq_getElem hk]
    rfl
  rw [j2, e4] at e3
  have ll := lenS j j1
  rw [← e3] at ll
  have sm := sum_leG (c := 1000) (l := (wordsL (eachS S).1)[k]) fun x hx => by
    obtain ⟨st, hs, e⟩ := words_heads _ _ hl2 x hx
    rw [← e]
    exact hz _ (khd st hs)
  omega
theorem big_okG {n : Nat} (h : n ≤ 60000) : n ≤ sizeLine := by
  rw [sizeLine_eq]
  omega
def spReadF (K : PySem.W.Frag) (c : Fg) (IT : Addr) : Sp := fun vs H Q E => ∃ z : Str, vs = [.ref c.Formula, .str z] ∧ z.length ≤ 50000 ∧ (Txt.split z (Str.ofString " ")).length ≤ 60 ∧ (∀ y ∈ Txt.split z (Str.ofString " "), y.length ≤ 1000) ∧
  (dueW 0 1 (Txt.split z (Str.ofString " ")) = none → ∀ p H' S, FoAt K c.Formula H' p S → RdS (Txt.split z (Str.ofString " ")) S → Same H H' → Q (.ref p) H') ∧
  (∀ n, dueW 0 1 (Txt.split z (Str.ofString " ")) = some n → ∀ (d : Addr) (H' : Hp), Same H H' → H' d = some (.xd [("at", .int (n : Nat))]) → E (.ref IT) (some d) H')
section
variable {P : Program} {w : World} {K : PySem.W.Frag} {mg : Str → Option Value} {base : Heap} {a : Wf} {g : Gf} {c : Fg} {h : Hf} {IT fIT : Addr} {f : Addr} {fd : FuncData}
theorem ok_readF {f1 f2 f3 : FuncData} (F : Fun K "read" "Formula.read" s_Formula_read f fd) (T : TxtR K w mg a g c h IT fIT)
    (G__check_words : FnOk P w K mg base (L2.CX P w) 2 h.check f1 ["words"] (spCheck K IT)) (b__check_words : Binds K f1 ["words"] [])
    (G__steps_of_words : FnOk P w K mg base CX0 2 h.steps f2 ["words"] (spSteps K)) (b__steps_of_words : Binds K f2 ["words"] [])
    (G_Formula : FnOk P w K mg base CX0 2 c.fInit f3 ["self", "steps"] (spFormG K c)) (b_Formula : Binds K f3 ["self", "steps"] []) :
    FnOk P w K mg base (L2.CX P w) 4 f fd ["cls", "text"] (spReadF K c IT) := by
  have M_Formula := T.M
  refine F.okX sc_Formula_read (fun vs H Q E h => ?_) (fun cdv A outer s H vs Q E hr h => ?_)
  · obtain ⟨_, rfl, _⟩ := h
    rfl
  · obtain ⟨z, rfl, hzl, hn, hw, k, kE⟩ := h
    refine ⟨_, (pss_cons (ps_set (i := 2) sc_Formula_read.nd rfl (Or.inl rfl) (pe_split (pv 1) pe_str))
    (pss_cons (ps_expr (pe_call G__check_words (hr.mono (by decide)) rfl T.g__check_words T.k__check_words b__check_words .nil (passes_call (E := E) (takes_of rfl rfl rfl rfl) (fun _ _ _ _ h => h)) (pa_cons (pv 2) pa_nil)))
    (pss_one (ps_ret (pe_makeL (i := 0) M_Formula G_Formula (hr.mono (by decide)) rfl (Or.inl rfl) b_Formula .nil (E := fun _ => E0) at0 (pa_cons (pe_call G__steps_of_words (hr.mono (by decide)) rfl T.g__steps_of_words T.k__steps_of_words b__steps_of_words .nil pass0 (pa_cons (pv 2) pa_nil)) pa_nil)))))), ?_⟩
    refine ⟨_, rfl, ⟨_, rfl⟩, z, Str.ofString " ", rfl, rfl, by decide +kernel, big_okG (by omega), fun pw hpw => ?_⟩
    have s1 := Same.upd_new (o := .lst ((Txt.split z (Str.ofString " ")).map V.str)) hpw
    have hw1 : (upd H pw (.lst ((Txt.split z (Str.ofString " ")).map V.str))) pw = some (.lst ((Txt.split z (Str.ofString " ")).map V.str)) := upd_same
    generalize upd H pw _ = H1 at s1 hw1 ⊢
    generalize Txt.split z (Str.ofString " ") = ws at *
    refine ⟨_, rfl, pw, ws, rfl, .inl (.inl hw1), by omega, hw, fun hd H2 s2 => ?_, fun n hn d H' s' hd' => kE n hn d H' (s1.trans s') hd'⟩
    obtain ⟨r1, r2, r3⟩ := read_ok hd hn hw
    have s12 := s1.trans s2
    refine ⟨rfl, _, rfl, pw, ws, rfl, .inl (.inl (s2 _ _ hw1)), by omega, r2, r1, fun t us H3 h3 h4 s3 => ?_⟩
    have s13 := s12.trans s3
    refine fun yy dy ny nd ne => ?_
    have s0 : Same H3 (upd (upd H3 dy (.own yy)) yy (.ins c.Formula dy [])) := made_same ny nd
    refine ⟨yy, dy, t, us, _, rfl, upd_same, Same.sqT s0 h3, h4.imp (StepAt.same s0), r3.len, ⟨ws, fun x hx => ?_, by omega⟩, fun H4 hF hk => ⟨rfl, ?_⟩⟩
    · unfold namesS at hx
      obtain ⟨st, hs, rfl⟩ := List.mem_map.mp (List.mem_filter.mp hx).1
      exact r3.hd st hs
    · exact k hd yy H4 _ hF r3 (s13.trans (made_keep ny nd hk))
end
end L2.Wk
namespace L2.Wk
open PySem PySem.Spec PyProof.Rows
local macro_rules | `(tactic| walk_at "tsr1") => `(tactic| first
  | exact q_tsr_next | exact q_ter_var _ | exact q_ter_c _ | exact q_tar_nil | exact q_tsr_retN | exact q_tsr_break | exact q_tsr_cont | exact q_tsr_never | exact q_tbr_yes | exact q_tor_none | exact q_tgsr_nil | exact q_tgr_name _ | exact q_ter_dnew | exact q_ter_dnewT | exact q_tpr_nil | exact q_ter_pop
  | exact opt_cmp | exact opt_I0 | exact opt_I | exact opt_eq | exact opt_ne | exact opt_eqD | exact opt_neD | exact opt_ixL | exact opt_ixT | exact opt_ixS | exact opt_in | exact opt_notIn | exact opt_inS | exact opt_addS | exact opt_cat | exact opt_catA | exact opt_kd | exact opt_notkd | exact opt_isN | exact opt_notN | exact opt_isB | exact opt_notB | exact unt_U
  | exact cbt_len | exact cbt_all | exact cbt_any | exact cbt_abs | exact cbt_int | exact cbt_bool | exact cbt_strI | exact cbt_strS | exact cbt_list | exact cbt_tuple | exact cbt_dict | exact cbt_isi | exact cbt_repr
  | exact m1t_split | exact m1t_partition | exact m1t_join | exact slt_L | exact slt_S | exact slt_T | exact slt_TA
  | apply q_tsr_augS use_self | apply q_tsr_augS use_pure | apply q_tsr_augS (by assumption)
  | apply q_tsr_seq | apply q_tsr_ret | apply q_tsr_if | apply q_tsr_set | apply q_tsr_dset | apply q_tsr_fld | apply q_tsr_augI | apply q_tsr_parN | apply q_tsr_par | apply q_tsr_par3 | apply q_tsr_asg | apply q_tsr_drop | apply q_tsr_for | apply q_tsr_while | (apply q_tsr_tryC; intro _) | apply q_tsr_raiseG (fun _ _ _ _ h => h)
  | apply q_tar_cons | apply q_tar_star | apply q_ter_append | apply q_ter_extend | apply q_ter_popAt
  | exact q_ter_kb | apply q_ter_tup | apply q_ter_lst | apply q_ter_disp | apply q_tpr_cons | apply q_ter_dc | apply q_ter_kget2 | apply q_ter_eqOwn | apply q_ter_neOwn | apply q_ter_opOwn | apply q_ter_unOwn | apply q_ter_strOwn | apply q_ter_lenOwn | apply q_ter_sortB | apply q_ter_sortL | apply q_ter_prop | apply q_ter_cmeth use_self | apply q_ter_cmeth use_pure | apply q_ter_cmeth (by assumption) | (apply q_ter_cmethS; rfl) | (apply q_ter_cmethX; (intro _; rfl)) | apply q_ter_makeL (fun _ => usei_self) | apply q_ter_makeL (fun _ => usei_pure) | (apply q_ter_makeLX; rfl) | apply q_ter_make usei_self | apply q_ter_make usei_pure | (apply q_ter_makeS; rfl) | apply q_ter_chain | apply q_ter_call use_self | apply q_ter_call use_pure | apply q_ter_call (by assumption) | (apply q_ter_callX; (intro _; rfl)) | (apply q_ter_makeX; (intro _; rfl)) | apply q_ter_call | apply q_ter_meth | apply q_ter_make | apply q_ter_fld | apply q_ter_sl | apply q_ter_rev | apply q_ter_m1 | apply q_ter_dget | apply q_ter_din | apply q_ter_dnotin | apply q_ter_lc | apply q_ter_andV | apply q_ter_orV | apply q_ter_notV | apply q_ter_if
  | apply q_ter_cb1 | apply q_ter_cb2 | apply q_ter_op | apply q_ter_un
  | apply q_tor_some
  | apply q_tbr_test | apply q_tbr_b | apply q_tbr_and | apply q_tbr_or | apply q_tbr_not | apply q_tbr_truth
  | apply q_tir_list | apply q_tir_tup | apply q_tir_seq | apply q_tir_str | apply q_tir_rng1 | apply q_tir_rng2 | apply q_tir_rng3 | apply q_tir_enumL | apply q_tir_enumT | apply q_tir_enumK | apply q_tir_zipL | apply q_tir_zipM
  | apply q_tgr_tup | apply q_tgr_unl | apply q_tgsr_cons
  | exact tgw_name (by simp) | exact tgm_name _ | apply tgw_tup | apply tgm_tup | exact tgsw_nil | exact tgsm_nil | apply tgsw_cons | apply tgsm_cons
  | exact fun _ => Reps.nil | assumption | exact use_self | exact use_pure | exact usei_self | exact usei_pure | exact fun _ => usei_pure | exact usex_pure | exact fun _ => usex_pure | exact useix_pure | exact fun _ => useix_pure | (intro _; assumption))
local macro_rules | `(tactic| walk_at "tsr") => `(tactic| repeat' (walk_at "tsr1"))
/-! ### each step once, in trees -/
def stepT (st : Step) : Tv := .tup (.str st.1 :: st.2.map fun j => Tv.int (j : Nat))
def kvsT : Nat → List Step → List (List Key × Tv)
  | _, [] => []
  | i, s :: ss => (keyF s, .int (i : Nat)) :: kvsT (i + 1) ss
theorem kvsT_snoc : ∀ (L : List Step) (i : Nat) (s : Step), kvsT i (L ++ [s]) = kvsT i L ++ [(keyF s, .int ((i + L.length : Nat) : Int))]
  | [], i, s => rfl
  | a :: L, i, s => by
    show (keyF a, Tv.int (i : Nat)) :: kvsT (i + 1) (L ++ [s]) = _
    rw [kvsT_snoc L (i + 1) s, List.length_cons, show i + 1 + L.length = i + (L.length + 1) by omega]
    rfl
theorem kvsT_len : ∀ (L : List Step) (i : Nat), (kvsT i L).length = L.length
  | [], _ => rfl
  | a :: L, i => by
    show (kvsT (i + 1) L).length + 1 = _
    rw [kvsT_len L (i + 1)]
    rfl
theorem kvsT_val (st : Step) : ∀ (L : List Step) (i : Nat), valT (kvsT i L) (keyF st) = if st ∈ L then some (.int ((i + L.idxOf st : Nat) : Int)) else none
  | [], _ => rfl
  | a :: L, i => by
    unfold valT
    show (((keyF a, Tv.int (i : Nat)) :: kvsT (i + 1) L).find? fun kv => decide (kv.1 = keyF st)).map _ = _
    by_cases h : a = st
    · subst h
      rw [if_pos (List.mem_cons_self ..), List.idxOf_cons_self, List.find?_cons_of_pos (by simp)]
      rfl
    · have hk : ¬ keyF a = keyF st := fun e => h (keyF_inj e)
      rw [List.find?_cons_of_neg (by simpa using hk)]
      have e := kvsT_val st L (i + 1)
      unfold valT at e
      rw [e, show (a :: L).idxOf st = L.idxOf st + 1 by rw [List.idxOf_cons, show (a == st) = false by simpa using h]; rfl]
      by_cases hm : st ∈ L
      · rw [if_pos hm, if_pos (List.mem_cons_of_mem _ hm), show i + 1 + L.idxOf st = i + (L.idxOf st + 1) by omega]
      · rw [if_neg hm, if_neg (fun e => by rcases List.mem_cons.mp e with e | e; exact h e.symm; exact hm e)]
theorem kvsT_put {st : Step} {L : List Step} (h : st ∉ L) (v : Tv) : putKT (kvsT 0 L) (keyF st) v = kvsT 0 L ++ [(keyF st, v)] := by
  unfold putKT
  have q : ∀ (L : List Step) (i : Nat), st ∉ L → ((kvsT i L).any fun kv => decide (kv.1 = keyF st)) = false := by
    intro L
    induction L with
    | nil => intro i _; rfl
    | cons a L ih =>
      intro i hm
      rw [List.mem_cons, not_or] at hm
      show (decide (keyF a = keyF st) || _) = false
      rw [ih (i + 1) hm.2, decide_eq_false fun e => hm.1 (keyF_inj e).symm]
      rfl
  rw [q L 0 h]
  rfl
theorem keys_step (w : Str) (js : List Nat) : keysT (.str w :: js.map fun j => Tv.int (j : Nat)) = some (keyF (w, js)) := by
  have e : keysT (js.map fun j => Tv.int (j : Nat)) = some (js.map fun j => (.inl (j : Nat) : Key)) := keysT_map _ _ (fun _ => rfl) js
  unfold keysT
  rw [e]
  rfl
def fEach : FT := fun ts P => ∃ S : List Step, ts = [.lst (S.map stepT)] ∧ S.length ≤ 1000 ∧ WfS S ∧ (∀ st ∈ S, st.2.length ≤ 2) ∧ P (.val (.tup ((eachS S).1.map stepT)))
theorem cutT_one (x : Tv) (xs : List Tv) : cutL (x :: xs) (some 1) none = xs := by
  unfold cutL
  rw [show (1 : Int) = ((1 : Nat) : Int) from rfl, HT.sIx_nat]
  have e : HT.sIx (x :: xs).length (x :: xs).length none = (x :: xs).length := rfl
  rw [e]
  simp
section
variable {P : Program} {w : World} {K : PySem.W.Frag} {mg : Str → Option Value} {base : Heap} {g : Gf} {f : Addr} {fd : FuncData}
theorem ok_eachT (F : Fun K "_each_once" "_each_once" s_each_once f fd) (T : TxtG K mg g) : FnOk P w K mg base CX0 1 f fd ["steps"] (spT K Rs.pure fEach) := by
  refine F.ok sc_each_once (spT_len fun ts P ⟨_, h, _⟩ => by rw [h]; rfl) (fun cdv A outer s H vs Q E hr h => ?_)
  obtain ⟨S, ts, P0, sS, hi, ho, rs, hf, k⟩ := h
  refine ⟨_, (pss_cons (ps_set (i := 1) sc_each_once.nd rfl (Or.inl rfl) (pe_lst pa_nil))
    (pss_cons (ps_set (i := 2) sc_each_once.nd rfl (Or.inl rfl) pe_dnewT)
    (pss_cons (ps_set (i := 3) sc_each_once.nd rfl (Or.inr rfl) (pe_lst pa_nil))
    (pss_cons (ps_for PassesOwn.never rfl (pi_list (pv 0)) (pg_name (i := 4) sc_each_once.nd rfl (Or.inl rfl))
      (pss_cons (ps_set (i := 5) sc_each_once.nd rfl (Or.inl rfl) (pe_tup (pa_cons (pe_ix ix_tup (pv 4) pe_int (fun _ _ => rfl)) (StX.pa_star (pe_lc (own := [("at", 6)]) (g := gName 6) (tt := tYes) rfl sc_each_once.nd (pi_tup (pe_slice sl_tup (pv 4) (po_some pe_int) po_none)) (blkOk_by (N := N_each_once) (sc := defScope s_each_once) (by decide +kernel)) (fun _ _ _ _ _ => (pg_name (i := 6) sc_each_once.nd rfl (Or.inl rfl))) (fun _ _ _ _ _ => pts_nil) (fun _ _ _ _ _ => (pe_ix (ix_listK (K := K) rfl) (pv 3) (pv 6) (fun _ _ => rfl)))) pa_nil))))
      (pss_cons (ps_if (pt_cmp (pc_dnotin (Nat.lt_of_le_of_lt (Nat.add_le_add_left (by decide : 1 ≤ 64) _) hr.units) (pv 5) (pv 2)) (by rfl)) (pss_cons (ps_asg (pe_callB call_len (by rfl) T.b_len PySem.boot_len (pa_cons (pv 1) pa_nil)) (pg_sub (pv 2) (pv 5) (set_dict (Nat.lt_of_le_of_lt (Nat.add_le_add_left (by decide : 1 ≤ 64) _) hr.units))))
    (pss_one (ps_expr (pe_bm PySem.F.plainAttrs_list PySem.F.slot_list_append PySem.F.type_list_append mt_append (pv 1) (pa_cons (pv 5) pa_nil))))) pss_nil)
      (pss_one (ps_expr (pe_bm PySem.F.plainAttrs_list PySem.F.slot_list_append PySem.F.type_list_append mt_append (pv 3) (pa_cons (pe_dget (Nat.lt_of_le_of_lt (Nat.add_le_add_left (by decide : 1 ≤ 64) _) hr.units) (pv 2) (pv 5) (fun _ _ => rfl)) pa_nil)))))))
    (pss_one (ps_ret (pe_callTy call_tupS (by rfl) T.b_tuple (by decide +kernel) (pa_cons (pv 1) pa_nil)))))))), ?_⟩
  refine fn_treeq (K := K) (R := Rs.pure) exok_pure (by walk_at "tsr") sS hi ho rs k ?_
  obtain ⟨L, rfl, hn, wf, ar, hp⟩ := hf
  refine ⟨by decide, by decide, fun i τ => ∃ v4 v5 : Option Sl, τ = [some (.val (.lst (L.map stepT))), some (.own (.lst ((eachS (L.take i)).1.map stepT))), some (.own (.dtt (kvsT 0 (eachS (L.take i)).1))), some (.own (.lst ((eachS (L.take i)).2.map fun j => Tv.int (j : Nat)))), v4, v5, none], ⟨_, _, rfl⟩, ?_, ?_⟩
  · rintro i t τ ht ⟨v4, v5, rfl⟩
    rw [List.getElem?_map] at ht
    obtain ⟨st, hst, rfl⟩ := Option.map_eq_some_iff.mp ht
    have har := ar _ (List.mem_of_getElem? hst)
    have wfi := wf i _ hst
    have et := eachS_take L i st hst
    have hi : i < L.length := (List.getElem?_eq_some_iff.mp hst).1
    obtain ⟨ml, kl⟩ := eachS_lens (L.take i)
    rw [List.length_take] at ml kl
    simp only [et]
    obtain ⟨w0, args⟩ := st
    dsimp only at har wfi
    generalize eachS (L.take i) = d at *
    refine getK_of (atI_nat (j := 0) rfl) ⟨by rw [List.length_cons]; exact not_all1 _, ?_⟩
    rw [cutT_one]
    have la : args.length ≤ 2 := har
    refine ⟨by rw [List.length_map]; exact len1000 (Nat.le_trans la (by decide)), fun j acc => acc = (args.take j).map fun a => Tv.int (d.2.getD a 0 : Nat), rfl, ?_, ?_⟩
    · rintro j t acc hj rfl
      rw [List.getElem?_map] at hj
      obtain ⟨a, ha, rfl⟩ := Option.map_eq_some_iff.mp hj
      have hai := wfi a (List.mem_of_getElem? ha)
      have e : (d.2.map fun j => Tv.int (j : Nat))[a]? = some (Tv.int (d.2.getD a 0 : Nat)) := by
        rw [List.getElem?_map, List.getElem?_eq_getElem (by omega), List.getD_eq_getElem?_getD, List.getElem?_eq_getElem (by omega)]
        rfl
      refine getK_of (atI_nat e) ⟨rfl, ?_⟩
      show _ = List.map (fun a => Tv.int (d.2.getD a 0 : Nat)) (args.take (j + 1))
      rw [List.take_add_one, ha, List.map_append]
      rfl
    · rintro acc rfl
      rw [List.length_map, List.take_length]
      refine ⟨?_, ?_⟩
      · rw [List.length_cons, List.append_nil, List.length_map]
        exact len1000 (Nat.le_trans (Nat.succ_le_succ la) (by decide))
      have en : (Tv.str w0 :: ((args.map fun a => Tv.int (d.2.getD a 0 : Nat)) ++ [])) = (Tv.str (newS d.2 (w0, args)).1 :: (newS d.2 (w0, args)).2.map fun j => Tv.int (j : Nat)) := by
        rw [List.append_nil]
        show _ = Tv.str w0 :: ((args.map fun a => d.2.getD a 0).map fun j => Tv.int (j : Nat))
        rw [List.map_map]
        rfl
      rw [en]
      have ks := keys_step (newS d.2 (w0, args)).1 (newS d.2 (w0, args)).2
      refine dgK_of (getK_of ks ?_)
      rw [show keyF ((newS d.2 (w0, args)).1, (newS d.2 (w0, args)).2) = keyF (newS d.2 (w0, args)) from rfl, kvsT_val]
      unfold eStep
      by_cases hm : newS d.2 (w0, args) ∈ d.1
      · rw [if_pos hm, if_pos hm]
        refine dgK_of (getK_of ks ?_)
        rw [show keyF ((newS d.2 (w0, args)).1, (newS d.2 (w0, args)).2) = keyF (newS d.2 (w0, args)) from rfl, kvsT_val, if_pos hm]
        refine ⟨by rw [List.length_map]; exact small1000 (by omega), ?_⟩
        exact ⟨_, _, by rw [List.map_append, Nat.zero_add]; rfl⟩
      · rw [if_neg hm, if_neg hm]
        refine getK_of ks ⟨by rw [kvsT_len]; exact small1000 (by omega), ?_⟩
        rw [show keyF ((newS d.2 (w0, args)).1, (newS d.2 (w0, args)).2) = keyF (newS d.2 (w0, args)) from rfl, kvsT_put hm, List.length_map]
        refine ⟨by rw [List.length_map]; exact small1000 (by omega), ?_⟩
        refine dgK_of (getK_of ks ?_)
        rw [show keyF ((newS d.2 (w0, args)).1, (newS d.2 (w0, args)).2) = keyF (newS d.2 (w0, args)) from rfl]
        have e2 : kvsT 0 d.1 ++ [(keyF (newS d.2 (w0, args)), Tv.int (d.1.length : Nat))] = kvsT 0 (d.1 ++ [newS d.2 (w0, args)]) := by
          rw [kvsT_snoc, Nat.zero_add]
        rw [e2, kvsT_val, if_pos (List.mem_append_right _ (List.mem_singleton.mpr rfl)), idx_snoc hm, Nat.zero_add]
        refine ⟨by rw [List.length_map]; exact small1000 (by omega), ?_⟩
        exact ⟨_, _, by rw [List.map_append, List.map_append]; rfl⟩
  · rintro τ ⟨v4, v5, rfl⟩
    rw [List.length_map, List.take_length]
    exact hp
end
end L2.Wk
namespace L2.Wk
open PySem PySem.Spec PyProof.Rows
/-! ### formulas by their words -/
structure FrmS (ws : List Str) (S : List Step) : Prop where
  pi : PoI S []
  ne : S ≠ []
  last : (wordsL S).getLastD [] = ws
  hd : ∀ st ∈ S, st.1 ∈ ws
theorem FrmS.ar2 {ws : List Str} {S : List Step} (h : FrmS ws S) : ∀ st ∈ S, st.2.length ≤ 2 := fun st hs => by
  rw [h.pi.ar st hs]
  exact arity_le _
theorem FrmS.pos {ws : List Str} {S : List Step} (h : FrmS ws S) : 0 < S.length := List.length_pos_iff.mpr h.ne
theorem FrmS.wlen {ws : List Str} {S : List Step} (h : FrmS ws S) : ∀ l ∈ wordsL S, l.length ≤ ws.length := fun l hl => by
  obtain ⟨k, hk, rfl⟩ := List.getElem_of_mem hl
  have hk' : k < S.length := by rw [wordsL_len] at hk; exact hk
  have e := getD_getLast h.ne
  rw [h.last] at e
  have e4 : (wordsL S).getD k [] = (wordsL S)[k] := by
    rw [List.getD_eq_getElem?_getD, List.getElem?_eq_getElem hk]
    rfl
  rw [← e4]
  by_cases e2 : k + 1 = S.length
  · rw [show k = S.length - 1 by omega, e]
    exact Nat.le_refl _
  · have := lt_last h.pi (S.length - 1 - k) k (by omega) (by omega)
    rw [e] at this
    omega
theorem FrmS.wmem {ws : List Str} {S : List Step} (h : FrmS ws S) : ∀ l ∈ wordsL S, ∀ x ∈ l, x ∈ ws := fun l hl x hx => by
  obtain ⟨st, hs, rfl⟩ := words_heads S l hl x hx
  exact h.hd st hs
theorem FrmS.big {ws : List Str} {S : List Step} (h : FrmS ws S) {c : Nat} (hz : ∀ z ∈ ws, z.length ≤ c) : ∀ l ∈ wordsL S, (l.map fun x => x.length).sum + l.length ≤ (c + 1) * ws.length := fun l hl => by
  have := sum_leG (c := c) (l := l) fun x hx => hz x (h.wmem l hl x hx)
  have l2 := h.wlen l hl
  have : c * l.length + l.length ≤ (c + 1) * ws.length := by
    rw [← Nat.succ_mul]
    exact Nat.mul_le_mul_left _ l2
  omega
theorem FrmS.mem {ws : List Str} {S : List Step} (h : FrmS ws S) (z : Str) : z ∈ ws ↔ ∃ st ∈ S, st.1 = z := by
  refine ⟨fun hz => ?_, fun ⟨st, hs, e⟩ => e ▸ h.hd st hs⟩
  have hl : ws ∈ wordsL S := by
    rw [← h.last]
    have : wordsL S ≠ [] := by
      intro e
      have := wordsL_len S
      rw [e] at this
      have := h.pos
      simp at *
      omega
    rcases List.eq_nil_or_concat (wordsL S) with e | ⟨m, c, e⟩
    · exact absurd e this
    · rw [e, List.concat_eq_append, List.getLastD_concat]
      simp
  exact words_heads S ws hl z hz
theorem FrmS.names {ws : List Str} {S : List Step} (h : FrmS ws S) (z : Str) : z ∈ namesS S ↔ z ∈ ws ∧ z ∉ signsV ∧ z ∉ constV := by
  unfold namesS
  rw [List.mem_filter, List.mem_map, h.mem]
  simp
theorem newS_mem {mv : List Nat} {st : Step} {j : Nat} (h : j ∈ st.2) : mv.getD j 0 ∈ (newS mv st).2 := List.mem_map.mpr ⟨j, h, rfl⟩
/-- what each step became stands there -/
theorem each_at {S : List Step} (wf : WfS S) (ar : ∀ st ∈ S, st.2.length = arityW st.1) : ∀ i, i ≤ S.length → ∀ j st, j < i → S[j]? = some st → (eachS (S.take i)).1[(eachS (S.take i)).2.getD j 0]? = some (newS (eachS (S.take i)).2 st)
  | 0, _, j, st, hj, _ => absurd hj (Nat.not_lt_zero _)
  | i + 1, hi, j, st, hj, hs => by
    have hsi : S[i]? = some S[i] := List.getElem?_eq_getElem (by omega)
    have I := each_inv wf ar i (by omega)
    have et := eachS_take S i _ hsi
    have wi := wf i _ hsi
    have wj := wf j st hs
    have ih := each_at wf ar i (by omega) j st
    generalize S[i] = si at *
    have stab : ∀ (x : Nat) (M : List Nat), (∀ k, k < i → (M.getD k 0) = (eachS (S.take i)).2.getD k 0) → ∀ t : Step, (∀ a ∈ t.2, a < i) → newS M t = newS (eachS (S.take i)).2 t := fun x M hM t ht => by
      unfold newS
      congr 1
      exact List.map_congr_left fun a ha => hM a (ht a ha)
    rw [et]
    unfold eStep
    have pre : ∀ (k x : Nat), k < i → ((eachS (S.take i)).2 ++ [x]).getD k 0 = (eachS (S.take i)).2.getD k 0 := fun k x hk => getD_pre (by rw [I.len]; exact hk)
    by_cases hm : newS (eachS (S.take i)).2 si ∈ (eachS (S.take i)).1
    · rw [if_pos hm]
      dsimp only
      by_cases e : j = i
      · subst e
        obtain rfl : st = si := Option.some.inj (hs.symm.trans hsi)
        rw [stab 0 _ (fun k hk => pre k _ hk) st wi]
        have : ((eachS (S.take j)).2 ++ [(eachS (S.take j)).1.idxOf (newS (eachS (S.take j)).2 st)]).getD j 0 = (eachS (S.take j)).1.idxOf (newS (eachS (S.take j)).2 st) := by
          have := getD_last (eachS (S.take j)).2 ((eachS (S.take j)).1.idxOf (newS (eachS (S.take j)).2 st))
          rw [I.len] at this
          exact this
        rw [this]
        have hk := List.idxOf_lt_length_of_mem hm
        rw [List.getElem?_eq_getElem hk, List.getElem_idxOf hk]
      · have ji : j < i := by omega
        rw [pre j _ ji, stab 0 _ (fun k hk => pre k _ hk) st (fun a ha => Nat.lt_trans (wj a ha) ji)]
        exact ih ji hs
    · rw [if_neg hm]
      dsimp only
      by_cases e : j = i
      · subst e
        obtain rfl : st = si := Option.some.inj (hs.symm.trans hsi)
        rw [stab 0 _ (fun k hk => pre k _ hk) st wi]
        have : ((eachS (S.take j)).2 ++ [(eachS (S.take j)).1.length]).getD j 0 = (eachS (S.take j)).1.length := by
          have := getD_last (eachS (S.take j)).2 ((eachS (S.take j)).1.length)
          rw [I.len] at this
          exact this
        rw [this, List.getElem?_append_right (Nat.le_refl _), Nat.sub_self]
        rfl
      · have ji : j < i := by omega
        rw [pre j _ ji, stab 0 _ (fun k hk => pre k _ hk) st (fun a ha => Nat.lt_trans (wj a ha) ji)]
        have := ih ji hs
        rw [List.getElem?_append_left (List.getElem?_eq_some_iff.mp this).1]
        exact this
/-- each step once: the same formula -/
theorem each_frm {ws : List Str} {S : List Step} (h : PoI S []) (ne : S ≠ []) (last : (wordsL S).getLastD [] = ws) (hd : ∀ st ∈ S, st.1 ∈ ws) : FrmS ws (eachS S).1 := by
  obtain ⟨k1, k2, k3, k4, k5⟩ := each_ok_words h ne
  have IF := each_inv h.wf h.ar S.length (Nat.le_refl _)
  have AT := each_at h.wf h.ar S.length (Nat.le_refl _)
  rw [List.take_length] at IF AT
  have pos : 0 < S.length := List.length_pos_iff.mpr ne
  have hlw : (wordsL S).getD (S.length - 1) [] = ws := by rw [getD_getLast ne, last]
  have hle := getD_getLast k3
  rw [k4, last] at hle
  have P : PoI (eachS S).1 [] := by
    refine ⟨k1, IF.ar, fun f hf => (by cases hf), fun k hk => ?_⟩
    obtain ⟨j, j1, rfl⟩ := IF.sur k hk
    rcases h.pa j j1 with ⟨p, st, hp, hm⟩ | ⟨f, hf, _⟩ | ⟨_, e2⟩
    · refine .inl ⟨_, _, AT p st (List.getElem?_eq_some_iff.mp hp).1 hp, newS_mem hm⟩
    · cases hf
    · by_cases e3 : (eachS S).2.getD j 0 + 1 = (eachS S).1.length
      · exact .inr (.inr ⟨rfl, e3⟩)
      · -- the last one of all stands behind: its words are longer
        have w1 := (IF.map j j1).2
        rw [show j = S.length - 1 by omega, hlw] at w1
        exfalso
        -- its number of words is that of the whole: then it is no part
        obtain ⟨n, hn⟩ : ∃ n, S.length = n + 1 := ⟨S.length - 1, by omega⟩
        have ej : j = n := by omega
        subst ej
        have hst : S[j]? = some S[j] := List.getElem?_eq_getElem (by omega)
        have I := each_inv h.wf h.ar j (by omega)
        have et := eachS_take S j _ hst
        rw [← hn, List.take_length] at et
        have hl2 := eachS_lens (S.take j)
        rw [et] at e3 hk
        unfold eStep at e3 hk
        split at e3
        · rename_i hmem
          -- the newest one is old: then the words agree with those of an earlier one
          have hk2 : (eachS (S.take j)).1.idxOf (newS (eachS (S.take j)).2 S[j]) < (eachS (S.take j)).1.length := List.idxOf_lt_length_of_mem hmem
          have gk : (eachS (S.take j)).1[(eachS (S.take j)).1.idxOf (newS (eachS (S.take j)).2 S[j])]? = some (newS (eachS (S.take j)).2 S[j]) := by
            rw [List.getElem?_eq_getElem hk2, List.getElem_idxOf hk2]
          obtain ⟨j', j1', j2'⟩ := I.sur _ hk2
          have v1 := words_at I.wf gk
          have v2 := (I.map j' j1').2
          rw [j2', v1, new_words I (h.wf j _ hst), ← words_at h.wf hst] at v2
          have := lt_last h (j - j') j' (by omega) (by omega)
          rw [show S.length - 1 = j by omega, ← v2] at this
          omega
        · rename_i hmem
          dsimp only at e3
          have gl := getD_last (eachS (S.take j)).2 (eachS (S.take j)).1.length
          rw [I.len] at gl
          rw [gl, List.length_append] at e3
          exact e3 rfl
  refine ⟨P, k3, k4.trans last, fun st hs => ?_⟩
  obtain ⟨s0, h0, e⟩ := k5 st hs
  rw [← e]
  exact hd s0 h0
end L2.Wk
namespace L2.Wk
open PySem PySem.Spec PyProof.Rows
/-! ### steps with others in the place of names -/
def shiftS (n : Nat) (p : Step) : Step := (p.1, p.2.map fun a => n + a)
def pOne (g : Str → Option (List Step)) (d : List Step × List Nat) (st : Step) : List Step :=
  match g st.1 with
  | some G => d.1 ++ G.map (shiftS d.1.length)
  | none => d.1 ++ [newS d.2 st]
def pStep (g : Str → Option (List Step)) (d : List Step × List Nat) (st : Step) : List Step × List Nat := (pOne g d st, d.2 ++ [(pOne g d st).length - 1])
def putL (g : Str → Option (List Step)) (S : List Step) : List Step × List Nat := S.foldl (pStep g) ([], [])
theorem putL_take (g : Str → Option (List Step)) (S : List Step) (i : Nat) (st : Step) (h : S[i]? = some st) : putL g (S.take (i + 1)) = pStep g (putL g (S.take i)) st := by
  unfold putL
  rw [List.take_add_one, h, List.foldl_append]
  rfl
def subW (gw : Str → Option (List Str)) (z : Str) : List Str := (gw z).getD [z]
theorem words_shift (L : List Step) : ∀ G : List Step, WfS G → wordsL (L ++ G.map (shiftS L.length)) = wordsL L ++ wordsL G := by
  have q : ∀ (n : Nat) (G : List Step), G.length = n → WfS G → wordsL (L ++ G.map (shiftS L.length)) = wordsL L ++ wordsL G := by
    intro n
    induction n with
    | zero =>
      intro G hl _
      rw [List.length_eq_zero_iff.mp hl, List.map_nil, List.append_nil]
      show _ = wordsL L ++ []
      rw [List.append_nil]
    | succ n ih =>
      intro G hl wf
      rcases List.eq_nil_or_concat G with e | ⟨G0, p, e⟩
      · rw [e] at hl; simp at hl
      · rw [e, List.concat_eq_append] at hl wf ⊢
        have l0 : G0.length = n := by simpa using hl
        have wf0 : WfS G0 := fun i st hs => wf i st (by rw [List.getElem?_append_left (List.getElem?_eq_some_iff.mp hs).1]; exact hs)
        have hp : ∀ j ∈ p.2, j < G0.length := wf G0.length p (by rw [List.getElem?_append_right (Nat.le_refl _), Nat.sub_self]; rfl)
        rw [List.map_append, ← List.append_assoc, List.map_cons, List.map_nil, wordsL_snoc, ih G0 l0 wf0, wordsL_snoc, ← List.append_assoc]
        congr 2
        unfold wordsS shiftS
        dsimp only
        congr 1
        have : ∀ l : List Nat, (∀ j ∈ l, j < G0.length) → ((l.map fun a => L.length + a).flatMap fun j => (wordsL L ++ wordsL G0).getD j []) = l.flatMap fun j => (wordsL G0).getD j [] := by
          intro l
          induction l with
          | nil => intro _; rfl
          | cons a l ihl =>
            intro h
            rw [List.map_cons, List.flatMap_cons, List.flatMap_cons, ihl fun j hj => h j (List.mem_cons_of_mem _ hj)]
            congr 1
            rw [List.getD_eq_getElem?_getD, List.getD_eq_getElem?_getD, List.getElem?_append_right (by rw [wordsL_len]; omega), wordsL_len, Nat.add_sub_cancel_left]
        exact this p.2 hp
  exact fun G wf => q _ G rfl wf
structure GivW (g : Str → Option (List Step)) (gw : Str → Option (List Str)) (S : List Step) : Prop where
  no : ∀ st ∈ S, g st.1 = none → gw st.1 = none
  yes : ∀ st ∈ S, ∀ G, g st.1 = some G → arityW st.1 = 0 ∧ ∃ ws, FrmS ws G ∧ gw st.1 = some ws
structure PuI (g : Str → Option (List Step)) (gw : Str → Option (List Str)) (S : List Step) (i : Nat) (d : List Step × List Nat) : Prop where
  len : d.2.length = i
  wf : WfS d.1
  ar : ∀ st ∈ d.1, st.2.length = arityW st.1
  map : ∀ j, j < i → d.2.getD j 0 < d.1.length ∧ (wordsL d.1).getD (d.2.getD j 0) [] = ((wordsL S).getD j []).flatMap (subW gw)
  lst : ∀ j, j + 1 = i → d.2.getD j 0 + 1 = d.1.length
  pa : ∀ k, k < d.1.length → (∃ (p : Nat) (st : Step), d.1[p]? = some st ∧ k ∈ st.2) ∨ ∃ j, j < i ∧ d.2.getD j 0 = k
  at_ : ∀ j st, j < i → S[j]? = some st → g st.1 = none → d.1[d.2.getD j 0]? = some (newS d.2 st)
  hd : ∀ st ∈ d.1, ∃ s0 ∈ S, st.1 ∈ subW gw s0.1
theorem newS_ext {M N : List Nat} {st : Step} (h : ∀ a ∈ st.2, M.getD a 0 = N.getD a 0) : newS M st = newS N st := by
  unfold newS
  congr 1
  exact List.map_congr_left h
theorem flat_flat {A : List (List Str)} {f : Str → List Str} (l : List Nat) : (l.flatMap fun j => A.getD j []).flatMap f = l.flatMap fun j => (A.getD j []).flatMap f := by
  rw [List.flatMap_assoc]
theorem PuI.step {g : Str → Option (List Step)} {gw : Str → Option (List Str)} {S : List Step} {i : Nat} {d : List Step × List Nat} {st : Step} (W : GivW g gw S) (wf : WfS S) (ar : ∀ st ∈ S, st.2.length = arityW st.1) (hi : S[i]? = some st) (I : PuI g gw S i d) :
    PuI g gw S (i + 1) (pStep g d st) := by
  have hm := List.mem_of_getElem? hi
  have wi := wf i st hi
  have pre : ∀ (k x : Nat), k < i → (d.2 ++ [x]).getD k 0 = d.2.getD k 0 := fun k x hk => getD_pre (by rw [I.len]; exact hk)
  have lst : ∀ x, (d.2 ++ [x]).getD i 0 = x := fun x => by
    have := getD_last d.2 x
    rw [I.len] at this
    exact this
  have wa := words_at wf hi
  cases hg : g st.1 with
  | none =>
    have e : pOne g d st = d.1 ++ [newS d.2 st] := by unfold pOne; rw [hg]
    unfold pStep
    rw [e]
    have ll : (d.1 ++ [newS d.2 st]).length - 1 = d.1.length := by simp
    rw [ll]
    have gn := W.no st hm hg
    have nst : ∀ (x : Nat) (t : Step), (∀ a ∈ t.2, a < i) → newS (d.2 ++ [x]) t = newS d.2 t := fun x t ht => newS_ext fun a ha => pre a x (ht a ha)
    refine ⟨by simp [I.len], fun k t hk a ha => ?_, fun t ht => ?_, fun j hj => ?_, fun j hj => ?_, fun k hk => ?_, fun j t hj ht hgt => ?_, fun t ht => ?_⟩
    · by_cases hl : k < d.1.length
      · rw [List.getElem?_append_left hl] at hk
        exact I.wf k t hk a ha
      · have kl := (List.getElem?_eq_some_iff.mp hk).1
        have ek : k = d.1.length := by simp at kl; omega
        subst ek
        rw [List.getElem?_append_right (Nat.le_refl _), Nat.sub_self] at hk
        cases hk
        obtain ⟨b, hb, rfl⟩ := List.mem_map.mp ha
        exact (I.map b (wi b hb)).1
    · rcases List.mem_append.mp ht with ht | ht
      · exact I.ar t ht
      · rw [List.mem_singleton.mp ht]
        show (st.2.map _).length = arityW st.1
        rw [List.length_map]
        exact ar st hm
    · dsimp only
      by_cases ej : j = i
      · subst ej
        rw [lst]
        refine ⟨by simp, ?_⟩
        rw [wordsL_snoc, List.getD_eq_getElem?_getD, List.getElem?_append_right (by rw [wordsL_len]; exact Nat.le_refl _), wordsL_len, Nat.sub_self]
        show wordsS (wordsL d.1) (newS d.2 st) = _
        rw [wa]
        unfold wordsS newS
        rw [List.flatMap_cons, show subW gw st.1 = [st.1] by unfold subW; rw [gn]; rfl]
        show st.1 :: _ = st.1 :: ([] ++ _)
        rw [List.nil_append, flat_flat]
        congr 1
        have : ∀ l : List Nat, (∀ a ∈ l, a < j) → ((l.map fun a => d.2.getD a 0).flatMap fun k => (wordsL d.1).getD k []) = l.flatMap fun k => ((wordsL S).getD k []).flatMap (subW gw) := by
          intro l
          induction l with
          | nil => intro _; rfl
          | cons a l ih =>
            intro h
            rw [List.map_cons, List.flatMap_cons, List.flatMap_cons, ih fun b hb => h b (List.mem_cons_of_mem _ hb), (I.map a (h a (List.mem_cons_self ..))).2]
        exact this st.2 wi
      · have ji : j < i := by omega
        rw [pre j _ ji]
        obtain ⟨m1, m2⟩ := I.map j ji
        refine ⟨by rw [List.length_append]; omega, ?_⟩
        rw [wordsL_snoc, getD_pre (by rw [wordsL_len]; exact m1)]
        exact m2
    · dsimp only
      have : j = i := by omega
      subst this
      rw [lst]
      simp
    · dsimp only at hk ⊢
      by_cases hl : k < d.1.length
      · rcases I.pa k hl with ⟨p, t, hp, hkt⟩ | ⟨j, hj, ej⟩
        · exact .inl ⟨p, t, by rw [List.getElem?_append_left (List.getElem?_eq_some_iff.mp hp).1]; exact hp, hkt⟩
        · exact .inr ⟨j, by omega, by rw [pre j _ hj]; exact ej⟩
      · refine .inr ⟨i, by omega, ?_⟩
        rw [lst]
        simp at hk
        omega
    · dsimp only
      by_cases ej : j = i
      · subst ej
        obtain rfl : t = st := Option.some.inj (ht.symm.trans hi)
        rw [lst, nst _ _ wi, List.getElem?_append_right (Nat.le_refl _), Nat.sub_self]
        rfl
      · have ji : j < i := by omega
        rw [pre j _ ji, nst _ _ fun a ha => Nat.lt_trans (wf j t ht a ha) ji]
        have := I.at_ j t ji ht hgt
        rw [List.getElem?_append_left (List.getElem?_eq_some_iff.mp this).1]
        exact this
    · rcases List.mem_append.mp ht with ht | ht
      · exact I.hd t ht
      · rw [List.mem_singleton.mp ht]
        refine ⟨st, hm, ?_⟩
        unfold subW
        rw [gn]
        exact List.mem_singleton.mpr rfl
  | some G =>
    have e : pOne g d st = d.1 ++ G.map (shiftS d.1.length) := by unfold pOne; rw [hg]
    obtain ⟨a0, wsG, FG, gy⟩ := W.yes st hm G hg
    have st0 : st.2 = [] := List.length_eq_zero_iff.mp (by rw [ar st hm]; exact a0)
    unfold pStep
    rw [e]
    have gp := FG.pos
    have ll : (d.1 ++ G.map (shiftS d.1.length)).length - 1 = d.1.length + (G.length - 1) := by simp; omega
    rw [ll]
    have nst : ∀ (x : Nat) (t : Step), (∀ a ∈ t.2, a < i) → newS (d.2 ++ [x]) t = newS d.2 t := fun x t ht => newS_ext fun a ha => pre a x (ht a ha)
    refine ⟨by simp [I.len], fun k t hk a ha => ?_, fun t ht => ?_, fun j hj => ?_, fun j hj => ?_, fun k hk => ?_, fun j t hj ht hgt => ?_, fun t ht => ?_⟩
    · by_cases hl : k < d.1.length
      · rw [List.getElem?_append_left hl] at hk
        exact I.wf k t hk a ha
      · rw [List.getElem?_append_right (by omega), List.getElem?_map] at hk
        obtain ⟨p, hp, rfl⟩ := Option.map_eq_some_iff.mp hk
        obtain ⟨b, hb, rfl⟩ := List.mem_map.mp ha
        have := FG.pi.wf _ p hp b hb
        omega
    · rcases List.mem_append.mp ht with ht | ht
      · exact I.ar t ht
      · obtain ⟨p, hp, rfl⟩ := List.mem_map.mp ht
        show (p.2.map _).length = arityW p.1
        rw [List.length_map]
        exact FG.pi.ar p hp
    · dsimp only
      by_cases ej : j = i
      · subst ej
        rw [lst]
        refine ⟨by simp; omega, ?_⟩
        rw [words_shift _ G FG.pi.wf, List.getD_eq_getElem?_getD, List.getElem?_append_right (by rw [wordsL_len]; omega), wordsL_len, Nat.add_sub_cancel_left, ← List.getD_eq_getElem?_getD, getD_getLast FG.ne, FG.last, wa]
        unfold wordsS
        rw [st0]
        show wsG = ([st.1] : List Str).flatMap (subW gw)
        rw [List.flatMap_cons, List.flatMap_nil, List.append_nil]
        unfold subW
        rw [gy]
        rfl
      · have ji : j < i := by omega
        rw [pre j _ ji]
        obtain ⟨m1, m2⟩ := I.map j ji
        refine ⟨by rw [List.length_append]; omega, ?_⟩
        rw [words_shift _ G FG.pi.wf, getD_pre (by rw [wordsL_len]; exact m1)]
        exact m2
    · dsimp only
      have : j = i := by omega
      subst this
      rw [lst]
      simp
      omega
    · dsimp only at hk ⊢
      by_cases hl : k < d.1.length
      · rcases I.pa k hl with ⟨p, t, hp, hkt⟩ | ⟨j, hj, ej⟩
        · exact .inl ⟨p, t, by rw [List.getElem?_append_left (List.getElem?_eq_some_iff.mp hp).1]; exact hp, hkt⟩
        · exact .inr ⟨j, by omega, by rw [pre j _ hj]; exact ej⟩
      · have hk2 : k - d.1.length < G.length := by simp at hk; omega
        rcases FG.pi.pa (k - d.1.length) hk2 with ⟨p, t, hp, hkt⟩ | ⟨f, hf, _⟩ | ⟨_, e2⟩
        · refine .inl ⟨d.1.length + p, shiftS d.1.length t, ?_, ?_⟩
          · rw [List.getElem?_append_right (by omega), Nat.add_sub_cancel_left, List.getElem?_map, hp]
            rfl
          · exact List.mem_map.mpr ⟨_, hkt, by omega⟩
        · cases hf
        · refine .inr ⟨i, by omega, ?_⟩
          rw [lst]
          omega
    · dsimp only
      by_cases ej : j = i
      · subst ej
        obtain rfl : t = st := Option.some.inj (ht.symm.trans hi)
        rw [hg] at hgt
        cases hgt
      · have ji : j < i := by omega
        rw [pre j _ ji, nst _ _ fun a ha => Nat.lt_trans (wf j t ht a ha) ji]
        have := I.at_ j t ji ht hgt
        rw [List.getElem?_append_left (List.getElem?_eq_some_iff.mp this).1]
        exact this
    · rcases List.mem_append.mp ht with ht | ht
      · exact I.hd t ht
      · obtain ⟨p, hp, rfl⟩ := List.mem_map.mp ht
        refine ⟨st, hm, ?_⟩
        unfold subW
        rw [gy]
        exact FG.hd p hp
theorem put_inv {g : Str → Option (List Step)} {gw : Str → Option (List Str)} {S : List Step} (W : GivW g gw S) (wf : WfS S) (ar : ∀ st ∈ S, st.2.length = arityW st.1) : ∀ i, i ≤ S.length → PuI g gw S i (putL g (S.take i))
  | 0, _ => ⟨rfl, fun _ _ h => by simp [putL] at h, fun _ h => by simp [putL] at h, fun _ h => absurd h (Nat.not_lt_zero _), fun _ h => absurd h (by omega), fun _ h => by simp [putL] at h, fun _ _ h => absurd h (Nat.not_lt_zero _), fun _ h => by simp [putL] at h⟩
  | i + 1, h => by
    have hs : S[i]? = some S[i] := List.getElem?_eq_getElem (by omega)
    rw [putL_take g S i _ hs]
    exact (put_inv W wf ar i (by omega)).step W wf ar hs
/-- what is put in the place of names -/
theorem put_ok {ws : List Str} {g : Str → Option (List Step)} {gw : Str → Option (List Str)} {S : List Step} (F : FrmS ws S) (W : GivW g gw S) :
    PoI (putL g S).1 [] ∧ (putL g S).1 ≠ [] ∧ (wordsL (putL g S).1).getLastD [] = ws.flatMap (subW gw) ∧ ∀ st ∈ (putL g S).1, st.1 ∈ ws.flatMap (subW gw) := by
  have I := put_inv W F.pi.wf F.pi.ar S.length (Nat.le_refl _)
  rw [List.take_length] at I
  have pos := F.pos
  have l1 := I.lst (S.length - 1) (by omega)
  have m1 := (I.map (S.length - 1) (by omega)).2
  have ne : (putL g S).1 ≠ [] := fun e => by rw [e] at l1; simp at l1
  refine ⟨⟨I.wf, I.ar, fun f hf => (by cases hf), fun k hk => ?_⟩, ne, ?_, fun st hs => ?_⟩
  · rcases I.pa k hk with h | ⟨j, hj, rfl⟩
    · exact .inl h
    · rcases F.pi.pa j hj with ⟨p, st, hp, hm⟩ | ⟨f, hf, _⟩ | ⟨_, e2⟩
      · have hmS := List.mem_of_getElem? hp
        have hg : g st.1 = none := by
          cases q : g st.1 with
          | none => rfl
          | some G =>
            have a0 := (W.yes st hmS G q).1
            rw [← F.pi.ar st hmS] at a0
            rw [List.length_eq_zero_iff.mp a0] at hm
            cases hm
        exact .inl ⟨_, _, I.at_ p st (List.getElem?_eq_some_iff.mp hp).1 hp hg, newS_mem hm⟩
      · cases hf
      · exact .inr (.inr ⟨rfl, I.lst j e2⟩)
  · rw [← getD_getLast ne, show (putL g S).1.length - 1 = (putL g S).2.getD (S.length - 1) 0 by omega, m1, getD_getLast F.ne, F.last]
  · obtain ⟨s0, h0, e⟩ := I.hd st hs
    exact List.mem_flatMap.mpr ⟨s0.1, F.hd s0 h0, e⟩
end L2.Wk
namespace L2.Wk
open PySem PySem.Spec PyProof.Rows
local macro_rules | `(tactic| walk_at "tsr1") => `(tactic| first
  | exact q_tsr_next | exact q_ter_var _ | exact q_ter_c _ | exact q_tar_nil | exact q_tsr_retN | exact q_tsr_break | exact q_tsr_cont | exact q_tsr_never | exact q_tbr_yes | exact q_tor_none | exact q_tgsr_nil | exact q_tgr_name _ | exact q_ter_dnew | exact q_ter_dnewT | exact q_tpr_nil | exact q_ter_pop
  | exact opt_cmp | exact opt_I0 | exact opt_I | exact opt_eq | exact opt_ne | exact opt_eqD | exact opt_neD | exact opt_ixL | exact opt_ixT | exact opt_ixS | exact opt_in | exact opt_notIn | exact opt_inS | exact opt_addS | exact opt_cat | exact opt_catA | exact opt_kd | exact opt_notkd | exact opt_isN | exact opt_notN | exact opt_isB | exact opt_notB | exact unt_U
  | exact cbt_len | exact cbt_all | exact cbt_any | exact cbt_abs | exact cbt_int | exact cbt_bool | exact cbt_strI | exact cbt_strS | exact cbt_list | exact cbt_tuple | exact cbt_dict | exact cbt_isi | exact cbt_repr
  | exact m1t_split | exact m1t_partition | exact m1t_join | exact slt_L | exact slt_S | exact slt_T | exact slt_TA
  | apply q_tsr_augS use_self | apply q_tsr_augS use_pure | apply q_tsr_augS (by assumption)
  | apply q_tsr_seq | apply q_tsr_ret | apply q_tsr_if | apply q_tsr_set | apply q_tsr_dset | apply q_tsr_fld | apply q_tsr_augI | apply q_tsr_parN | apply q_tsr_par | apply q_tsr_par3 | apply q_tsr_asg | apply q_tsr_drop | apply q_tsr_for | apply q_tsr_while | (apply q_tsr_tryC; intro _) | apply q_tsr_raiseG (fun _ _ _ _ h => h)
  | apply q_tar_cons | apply q_tar_star | apply q_ter_append | apply q_ter_extend | apply q_ter_popAt
  | exact q_ter_kb | apply q_ter_tup | apply q_ter_lst | apply q_ter_disp | apply q_tpr_cons | apply q_ter_dc | apply q_ter_kget2 | apply q_ter_eqOwn | apply q_ter_neOwn | apply q_ter_opOwn | apply q_ter_unOwn | apply q_ter_strOwn | apply q_ter_lenOwn | apply q_ter_sortB | apply q_ter_sortL | apply q_ter_prop | apply q_ter_cmeth use_self | apply q_ter_cmeth use_pure | apply q_ter_cmeth (by assumption) | (apply q_ter_cmethS; rfl) | (apply q_ter_cmethX; (intro _; rfl)) | apply q_ter_makeL (fun _ => usei_self) | apply q_ter_makeL (fun _ => usei_pure) | (apply q_ter_makeLX; rfl) | apply q_ter_make usei_self | apply q_ter_make usei_pure | (apply q_ter_makeS; rfl) | apply q_ter_chain | apply q_ter_call use_self | apply q_ter_call use_pure | apply q_ter_call (by assumption) | (apply q_ter_callX; (intro _; rfl)) | (apply q_ter_makeX; (intro _; rfl)) | apply q_ter_call | apply q_ter_meth | apply q_ter_make | apply q_ter_fld | apply q_ter_sl | apply q_ter_rev | apply q_ter_m1 | apply q_ter_dget | apply q_ter_din | apply q_ter_dnotin | apply q_ter_lc | apply q_ter_andV | apply q_ter_orV | apply q_ter_notV | apply q_ter_if
  | apply q_ter_cb1 | apply q_ter_cb2 | apply q_ter_op | apply q_ter_un
  | apply q_tor_some
  | apply q_tbr_test | apply q_tbr_b | apply q_tbr_and | apply q_tbr_or | apply q_tbr_not | apply q_tbr_truth
  | apply q_tir_list | apply q_tir_tup | apply q_tir_seq | apply q_tir_str | apply q_tir_rng1 | apply q_tir_rng2 | apply q_tir_rng3 | apply q_tir_enumL | apply q_tir_enumT | apply q_tir_enumK | apply q_tir_zipL | apply q_tir_zipM
  | apply q_tgr_tup | apply q_tgr_unl | apply q_tgsr_cons
  | exact tgw_name (by simp) | exact tgm_name _ | apply tgw_tup | apply tgm_tup | exact tgsw_nil | exact tgsm_nil | apply tgsw_cons | apply tgsm_cons
  | exact fun _ => Reps.nil | assumption | exact use_self | exact use_pure | exact usei_self | exact usei_pure | exact fun _ => usei_pure | exact usex_pure | exact fun _ => usex_pure | exact useix_pure | exact fun _ => useix_pure | (intro _; assumption))
local macro_rules | `(tactic| walk_at "tsr") => `(tactic| repeat' (walk_at "tsr1"))
abbrev s_put : Stmt := top 20
abbrev N_put : List Str := ["steps", "given", "longer", "moved", "step", "ahead", "part", "at"]
theorem sc_put : FnScope N_put ["steps", "given"] (defScope s_put) := ⟨rfl, rfl, rfl, by decide +kernel, rfl, by decide +kernel, by decide +kernel⟩
abbrev s_joined : Stmt := top 21
abbrev N_joined : List Str := ["sign", "left", "right"]
theorem sc_joined : FnScope N_joined ["sign", "left", "right"] (defScope s_joined) := ⟨rfl, rfl, rfl, by decide +kernel, rfl, by decide +kernel, by decide +kernel⟩
/-! ### formulas, in trees -/
theorem in_wtp {x : Str} {zs : List Str} {k : Bool → Prop} (h : k (decide (x ∈ zs))) : inT (.str x) (.wtp (zs.map Tv.str)) k := by
  refine inT_of ?_
  show getK (flT (Tv.str x)) fun y => getK (flTs (zs.map Tv.str)) fun xs => k (inV y xs)
  rw [flTs_strs]
  show k (inV (V.str x) (zs.map V.str))
  rw [inV_sgn]
  exact h
def strsL (xs : List Str) : List Tv := xs.map Tv.str
def formT (S : List Step) (ys : List Str) : List (Str × Tv) := [("steps", .tup (S.map stepT)), ("names", .tup (ys.map Tv.str))]
def fewN (xs : List Str) : Prop := ∃ ds : List Str, (∀ x ∈ xs, x ∈ ds) ∧ ds.length < 64
def fAsc : FT := fun ts P => ∃ xs : List Str, ts = [.lst (xs.map Tv.str)] ∧ xs.length ≤ 4000 ∧ fewN xs ∧ ∀ ys, Asc ys xs → P (.val (.tup (ys.map Tv.str)))
def fFormI : FI := fun ts P => ∃ S : List Step, ts = [.tup (S.map stepT)] ∧ S.length ≤ 1000 ∧ fewN (namesS S) ∧ ∀ ys, Asc ys (namesS S) → P (formT S ys)
structure Tf where
  put : Addr
  joined : Addr
structure TxtT (K : PySem.W.Frag) (w : World) (mg : Str → Option Value) (a : Wf) (g : Gf) (c : Fg) (h : Hf) (IT fIT : Addr) (u : Tf) : Prop extends TxtR K w mg a g c h IT fIT where
  g__put : mg "_put" = some (.ref u.put)
  k__put : PySem.W.keepIn K (.ref u.put) = true
  g__joined : mg "_joined" = some (.ref u.joined)
  k__joined : PySem.W.keepIn K (.ref u.joined) = true
  b_NotImplemented : mg "NotImplemented" = none
section
variable {P : Program} {w : World} {K : PySem.W.Frag} {mg : Str → Option Value} {base : Heap} {a : Wf} {g : Gf} {c : Fg} {h : Hf} {IT fIT : Addr} {u : Tf} {f : Addr} {fd : FuncData}
theorem ok_ascT (F : Fun K "ascending" "ascending" s_ascending f fd) (T : TxtW K mg a) : FnOk P w K mg base CX0 1 f fd ["names"] (spT K Rs.pure fAsc) := by
  refine F.ok sc_ascending (spT_len fun ts P ⟨_, h, _⟩ => by rw [h]; rfl) (fun cdv A outer s H vs Q E hr h => ?_)
  obtain ⟨S, ts, P0, sS, hi, ho, rs, hf, k⟩ := h
  refine ⟨_, (pss_one (ps_ret (pe_callTy call_tupS (by rfl) T.b_tuple (by decide +kernel) (pa_cons (pe_callB (cr_sortT rfl) (by rfl) T.b_sorted (by decide +kernel) (pa_cons (pe_callTy (cr_setB rfl) (by rfl) T.b_set (by decide +kernel) (pa_cons (pv 0) pa_nil)) pa_nil)) pa_nil)))), ?_⟩
  refine fn_treeq (K := K) (R := Rs.pure) exok_pure (by walk_at "tsr") sS hi ho rs k ?_
  obtain ⟨xs, rfl, hn, few, hp⟩ := hf
  refine getK_of (strsT_map xs) ⟨hn, few, fun ys hy => ?_⟩
  exact hp ys hy
theorem sigT (T : TxtFg K w mg a g c) (z : Str) : ∃ r, PySem.W.nsIn K c.SIGNS z = some r ∧ r.isSome = decide (z ∈ signsV) := by
  obtain ⟨r, h1, h2, _⟩ := T.sig z
  exact ⟨r, h1, h2⟩
theorem ok_FormT {f1 : FuncData} (F : Fun K "__init__" "Formula.__init__" s_Formula_init f fd) (T : TxtFg K w mg a g c) (G_ascending : FnOk P w K mg base CX0 1 a.ascending f1 ["names"] (spT K Rs.pure fAsc)) (b_ascending : Binds K f1 ["names"] []) :
    FnOk P w K mg base CX0 2 f fd ["self", "steps"] (spI K Rs.pure c.Formula fFormI) := by
  refine F.ok sc_Formula_init (spI_len fun ts P ⟨_, h, _⟩ => by rw [h]; rfl) (fun cdv A outer s H vs Q E hr h => ?_)
  obtain ⟨S, H1, x, dx, ts, ws, P0, rfl, rfl, sS, hi, ho, hx, hdx, ne, rs, hf, k⟩ := h
  refine ⟨_, (pss_cons (ps_fld (pv 0) (pv 1) rfl)
    (pss_one (ps_fld (pv 0) (pe_call G_ascending (hr.mono (by decide)) rfl T.g_ascending T.k_ascending b_ascending .nil pass0 (pa_cons (pe_lc (own := [("step", 2)]) (g := gName 2) rfl sc_Formula_init.nd (pi_tup (pv 1)) (blkOk_by (N := N_Formula_init) (sc := defScope s_Formula_init) (by decide +kernel)) (fun _ _ _ _ _ => (pg_name (i := 2) sc_Formula_init.nd rfl (Or.inl rfl))) (fun _ _ _ _ _ => (pts_one (PW.pt (pw_and (pt_cmpR (op_notIn_kdK (K := K) rfl rfl T.d_SIGNS) (pe_ix (ix_tupK (K := K) rfl) (pv 2) pe_int (fun _ _ => rfl)) (pe_gr rfl T.g_SIGNS) (by rfl)) (pw_and1 (pt_cmpR (op_notIn_seqK (K := K) rfl) (pe_ix (ix_tupK (K := K) rfl) (pv 2) pe_int (fun _ _ => rfl)) (pe_gr rfl T.g_CONSTANTS) (by rfl))))))) (fun _ _ _ _ _ => (pe_ix (ix_tupK (K := K) rfl) (pv 2) pe_int (fun _ _ => rfl)))) pa_nil)) rfl))), ?_⟩
  refine fn_initq (K := K) (R := Rs.pure) exok_pure (by walk_at "tsr") sS hi ho hx hdx ne rs k ?_ (by decide)
  obtain ⟨S, rfl, hn, few, hp⟩ := hf
  refine ⟨⟨T.cl, T.n_steps⟩, (by show 0 < 1000; decide), ?_⟩
  refine ⟨by rw [List.length_map]; exact len1000 hn, fun i acc => acc = (namesS (S.take i)).map Tv.str, rfl, ?_, ?_⟩
  · rintro i t acc ht rfl
    rw [List.getElem?_map] at ht
    obtain ⟨st, hst, rfl⟩ := Option.map_eq_some_iff.mp ht
    obtain ⟨r, r1, r2⟩ := sigT T st.1
    have tk := names_take S i st hst
    refine getK_of (atI_nat (j := 0) rfl) ⟨.adr _, fun _ => .adr _, rfl, getK_of r1 ?_⟩
    rw [r2]
    cases e1 : decide (st.1 ∈ signsV) with
    | true =>
      refine ⟨rfl, ?_⟩
      show _ = List.map Tv.str (namesS (S.take (i + 1)))
      rw [tk, e1]
      simp
    | false =>
    refine getK_of (atI_nat (j := 0) rfl) ⟨.wtp (constV.map Tv.str), fun S => .wtp (T.s_CONSTANTS S) (reps_strs _), ?_⟩
    refine in_wtp ?_
    cases e2 : decide (st.1 ∈ constV) with
    | true =>
      refine ⟨rfl, ?_⟩
      show _ = List.map Tv.str (namesS (S.take (i + 1)))
      rw [tk, e1, e2]
      simp
    | false =>
      refine getK_of (atI_nat (j := 0) rfl) ⟨rfl, ?_⟩
      show _ = List.map Tv.str (namesS (S.take (i + 1)))
      rw [tk, e1, e2]
      simp
  · rintro acc rfl
    rw [List.length_map, List.take_length]
    refine ⟨_, rfl, Nat.le_trans (Nat.le_trans (names_le S) hn) (by decide), few, fun ys hy => ?_⟩
    exact ⟨⟨T.cl, T.n_names⟩, (by show 1 < 1000; decide), rfl, rfl, hp ys hy⟩
/-! ### _put, _joined -/
def givT (gs : List (Str × List Step)) : Tv := .dct (gs.map fun p => (Sum.inr p.1, Tv.tup (p.2.map stepT)))
def givS (gs : List (Str × List Step)) (z : Str) : Option (List Step) := (gs.find? fun p => decide (p.1 = z)).map (·.2)
theorem givT_val (gs : List (Str × List Step)) (z : Str) : valT (gs.map fun p => ((Sum.inr p.1 : Key), Tv.tup (p.2.map stepT))) (.inr z) = (givS gs z).map fun G => Tv.tup (G.map stepT) := by
  unfold valT givS
  induction gs with
  | nil => rfl
  | cons p gs ih =>
    rw [List.map_cons]
    by_cases e : p.1 = z
    · rw [List.find?_cons_of_pos (by simpa using e), List.find?_cons_of_pos (by simpa using e)]
      rfl
    · rw [List.find?_cons_of_neg (by simpa using e), List.find?_cons_of_neg (by simpa using e)]
      exact ih
/-- bounds for what is put together: each step, or what stands for it -/
def fPut : FT := fun ts P => ∃ (S : List Step) (gs : List (Str × List Step)) (b : Nat), ts = [.tup (S.map stepT), givT gs] ∧ 1 ≤ b ∧ S.length * b ≤ 900 ∧ (∀ p ∈ gs, p.2.length ≤ b ∧ p.2 ≠ [] ∧ ∀ st ∈ p.2, st.2.length ≤ 2) ∧ WfS S ∧ (∀ st ∈ S, st.2.length ≤ 2) ∧ PoI (putL (givS gs) S).1 [] ∧
  P (.val (.tup ((eachS (putL (givS gs) S).1).1.map stepT)))
theorem putL_len (gs : List (Str × List Step)) (b : Nat) (hb : 1 ≤ b) (hg : ∀ p ∈ gs, p.2.length ≤ b ∧ p.2 ≠ [] ∧ ∀ st ∈ p.2, st.2.length ≤ 2) (S : List Step) : (putL (givS gs) S).1.length ≤ S.length * b ∧ (putL (givS gs) S).2.length = S.length := by
  have q : ∀ (S : List Step) (d : List Step × List Nat), (S.foldl (pStep (givS gs)) d).1.length ≤ d.1.length + S.length * b ∧ (S.foldl (pStep (givS gs)) d).2.length = d.2.length + S.length := by
    intro S
    induction S with
    | nil => intro d; simp
    | cons st S ih =>
      intro d
      obtain ⟨i1, i2⟩ := ih (pStep (givS gs) d st)
      have h1 : (pStep (givS gs) d st).1.length ≤ d.1.length + b := by
        show (pOne (givS gs) d st).length ≤ _
        unfold pOne
        split
        · rename_i G hG
          have hm : ∃ p ∈ gs, p.2 = G := by
            unfold givS at hG
            obtain ⟨p, hp, e⟩ := Option.map_eq_some_iff.mp hG
            exact ⟨p, List.mem_of_find?_eq_some hp, e⟩
          obtain ⟨p, hp, rfl⟩ := hm
          have := (hg p hp).1
          rw [List.length_append, List.length_map]
          omega
        · rw [List.length_append]
          show _ + 1 ≤ _
          omega
      have h2 : (pStep (givS gs) d st).2.length = d.2.length + 1 := by
        show (d.2 ++ [_]).length = _
        rw [List.length_append]
        rfl
      rw [List.foldl_cons, List.length_cons, Nat.succ_mul]
      omega
  have := q S ([], [])
  simp only [List.length_nil, Nat.zero_add] at this
  exact this
theorem dg_giv (gs : List (Str × List Step)) (z : Str) {k : Option Tv → Prop} (h : k ((givS gs z).map fun G => Tv.tup (G.map stepT))) : dgK (givT gs) (.str z) k := by
  refine dgK_of ?_
  show k (valT _ _)
  rw [givT_val]
  exact h
theorem givS_mem {gs : List (Str × List Step)} {z : Str} {G : List Step} (h : givS gs z = some G) : ∃ p ∈ gs, p.2 = G := by
  unfold givS at h
  obtain ⟨p, hp, e⟩ := Option.map_eq_some_iff.mp h
  exact ⟨p, List.mem_of_find?_eq_some hp, e⟩
theorem ok_putT {f1 : FuncData} (F : Fun K "_put" "_put" s_put f fd) (T : TxtT K w mg a g c h IT fIT u) (G__each_once : FnOk P w K mg base CX0 1 g.each f1 ["steps"] (spT K Rs.pure fEach)) (b__each_once : Binds K f1 ["steps"] []) :
    FnOk P w K mg base CX0 2 f fd ["steps", "given"] (spT K Rs.pure fPut) := by
  refine F.ok sc_put (spT_len fun ts P ⟨_, _, _, h, _⟩ => by rw [h]; rfl) (fun cdv A outer s H vs Q E hr h => ?_)
  obtain ⟨S, ts, P0, sS, hi, ho, rs, hf, k⟩ := h
  refine ⟨_, (pss_cons (ps_set (i := 2) sc_put.nd rfl (Or.inl rfl) (pe_lst pa_nil))
    (pss_cons (ps_set (i := 3) sc_put.nd rfl (Or.inr rfl) (pe_lst pa_nil))
    (pss_cons (ps_for PassesOwn.never rfl (pi_tup (pv 0)) (pg_name (i := 4) sc_put.nd rfl (Or.inl rfl))
      (pss_cons (ps_if (pt_cmp (pc_din (Nat.lt_of_le_of_lt (Nat.add_le_add_left (by decide : 1 ≤ 64) _) hr.units) (pe_ix ix_tup (pv 4) pe_int (fun _ _ => rfl)) (pv 1)) (by rfl)) (pss_cons (ps_set (i := 5) sc_put.nd rfl (Or.inr rfl) (pe_callB call_len (by rfl) T.b_len PySem.boot_len (pa_cons (pv 2) pa_nil)))
    (pss_one (ps_expr (pe_bm PySem.F.plainAttrs_list PySem.F.slot_list_extend PySem.F.type_list_extend mt_extend (pv 2) (pa_cons (pe_lc (own := [("part", 6)]) (g := gName 6) (tt := tYes) rfl sc_put.nd (pi_tup (pe_dget (Nat.lt_of_le_of_lt (Nat.add_le_add_left (by decide : 1 ≤ 64) _) hr.units) (pv 1) (pe_ix ix_tup (pv 4) pe_int (fun _ _ => rfl)) (fun _ _ => rfl))) (blkOk_by (N := N_put) (sc := defScope s_put) (by decide +kernel)) (fun _ _ _ _ _ => (pg_name (i := 6) sc_put.nd rfl (Or.inl rfl))) (fun _ _ _ _ _ => pts_nil) (fun _ _ _ _ _ => (pe_tup (pa_cons (pe_ix (ix_tupK (K := K) rfl) (pv 6) pe_int (fun _ _ => rfl)) (pa_starK (K := K) rfl (pe_lc (own := [("at", 7)]) (g := gName 7) (tt := tYes) rfl sc_put.nd (pi_tupK (K := K) rfl (pe_slice (sl_tupK (K := K) rfl) (pv 6) (po_some pe_int) po_none)) (blkOk_by (N := N_put) (by rfl)) (fun _ _ _ _ _ => (pg_name (i := 7) sc_put.nd rfl (Or.inl rfl))) (fun _ _ _ _ _ => pts_nil) (fun _ _ _ _ _ => (pe_op op_add (pv 5) (pv 7)))) pa_nil))))) pa_nil))))) (pss_one (ps_expr (pe_bm PySem.F.plainAttrs_list PySem.F.slot_list_append PySem.F.type_list_append mt_append (pv 2) (pa_cons (pe_tup (pa_cons (pe_ix ix_tup (pv 4) pe_int (fun _ _ => rfl)) (StX.pa_star (pe_lc (own := [("at", 7)]) (g := gName 7) (tt := tYes) rfl sc_put.nd (pi_tup (pe_slice sl_tup (pv 4) (po_some pe_int) po_none)) (blkOk_by (N := N_put) (sc := defScope s_put) (by decide +kernel)) (fun _ _ _ _ _ => (pg_name (i := 7) sc_put.nd rfl (Or.inl rfl))) (fun _ _ _ _ _ => pts_nil) (fun _ _ _ _ _ => (pe_ix (ix_listK (K := K) rfl) (pv 3) (pv 7) (fun _ _ => rfl)))) pa_nil))) pa_nil)))))
      (pss_one (ps_expr (pe_bm PySem.F.plainAttrs_list PySem.F.slot_list_append PySem.F.type_list_append mt_append (pv 3) (pa_cons (pe_op op_sub (pe_callB call_len (by rfl) T.b_len PySem.boot_len (pa_cons (pv 2) pa_nil)) pe_int) pa_nil))))))
    (pss_one (ps_ret (pe_call G__each_once (hr.mono (by decide)) rfl T.g__each_once T.k__each_once b__each_once .nil pass0 (pa_cons (pv 2) pa_nil))))))), ?_⟩
  refine fn_treeq (K := K) (R := Rs.pure) exok_pure (by walk_at "tsr") sS hi ho rs k ?_
  obtain ⟨S, gs, b, rfl, b1, hn, hg, wf, ar, pi, hp⟩ := hf
  refine ⟨by decide, by decide, fun i τ => ∃ v4 v5 : Option Sl, τ = [some (.val (.tup (S.map stepT))), some (.val (givT gs)), some (.own (.lst ((putL (givS gs) (S.take i)).1.map stepT))), some (.own (.lst ((putL (givS gs) (S.take i)).2.map fun j => Tv.int (j : Nat)))), v4, v5, none, none], ⟨none, none, rfl⟩, ?_, ?_⟩
  · rintro i t τ ht ⟨v4, v5, rfl⟩
    rw [List.getElem?_map] at ht
    obtain ⟨st, hst, rfl⟩ := Option.map_eq_some_iff.mp ht
    have har := ar _ (List.mem_of_getElem? hst)
    have wfi := wf i _ hst
    have et := putL_take (givS gs) S i st hst
    have hi : i < S.length := (List.getElem?_eq_some_iff.mp hst).1
    obtain ⟨kl, ml⟩ := putL_len gs b b1 hg (S.take i)
    rw [List.length_take] at kl ml
    simp only [et]
    obtain ⟨w0, args⟩ := st
    dsimp only at har wfi
    generalize putL (givS gs) (S.take i) = d at *
    have hS9 : S.length ≤ 900 := Nat.le_trans (Nat.le_mul_of_pos_right _ b1) hn
    refine getK_of (atI_nat (j := 0) rfl) ?_
    refine dg_giv gs w0 ?_
    unfold pStep pOne
    dsimp only
    cases hgs : givS gs w0 with
    | some G =>
      obtain ⟨p, hp, rfl⟩ := givS_mem hgs
      obtain ⟨g1, g2, g3⟩ := hg p hp
      refine getK_of (atI_nat (j := 0) rfl) ?_
      refine dg_giv gs w0 ?_
      rw [hgs]
      refine getK_of rfl ⟨by rw [List.length_map]; exact len1000 (by have := Nat.le_mul_of_pos_left b (show 0 < S.length by omega); omega), fun j acc => acc = (p.2.take j).map fun q => stepT (shiftS d.1.length q), rfl, ?_, ?_⟩
      · rintro j t acc hj rfl
        rw [List.getElem?_map] at hj
        obtain ⟨q, hq, rfl⟩ := Option.map_eq_some_iff.mp hj
        have q2 := g3 _ (List.mem_of_getElem? hq)
        refine getK_of (atI_nat (j := 0) rfl) ⟨by rw [List.length_cons]; exact not_all1 _, ?_⟩
        rw [cutT_one]
        refine ⟨by rw [List.length_map]; exact len1000 (by omega), fun l acc => acc = (q.2.take l).map fun a => Tv.int ((d.1.length + a : Nat) : Int), rfl, ?_, ?_⟩
        · rintro l t acc hl rfl
          rw [List.getElem?_map] at hl
          obtain ⟨x, hx, rfl⟩ := Option.map_eq_some_iff.mp hl
          refine ⟨rfl, ?_⟩
          show _ ++ [Tv.int (((d.1.map stepT).length : Int) + (x : Int))] = List.map _ (q.2.take (l + 1))
          rw [List.take_add_one, hx, List.map_append, List.length_map]
          simp
        · rintro acc rfl
          rw [List.length_map, List.take_length]
          refine ⟨?_, rfl, ?_⟩
          · rw [List.length_cons, List.append_nil, List.length_map]
            exact len1000 (by omega)
          · show _ ++ [_] = List.map _ (p.2.take (j + 1))
            rw [List.take_add_one, hq, List.map_append, List.append_nil]
            simp [stepT, shiftS]
      · rintro acc rfl
        rw [List.length_map, List.take_length]
        have gp : 0 < p.2.length := List.length_pos_iff.mpr g2
        have hb2 : p.2.length ≤ 900 := by have := Nat.le_mul_of_pos_left b (show 0 < S.length by omega); omega
        have hd9 : d.1.length ≤ 900 := Nat.le_trans kl (Nat.le_trans (Nat.mul_le_mul_right _ (Nat.min_le_right _ _)) hn)
        refine ⟨by rw [List.length_map, List.length_map]; exact Nat.le_trans (by omega : _ ≤ 1800) (by decide), ?_⟩
        refine ⟨by rw [List.length_map]; exact small1000 (by omega), ?_⟩
        have e1 : ((d.1.map stepT ++ p.2.map fun q => stepT (shiftS d.1.length q)).length : Int) - 1 = ((d.1 ++ p.2.map (shiftS d.1.length)).length - 1 : Nat) := by
          simp only [List.length_append, List.length_map]
          omega
        exact ⟨_, _, by
          rw [List.map_append, List.map_append, List.map_map]
          show _ = [_, _, _, some (Sl.own (Tv.lst (List.map (fun j => Tv.int ((j : Nat) : Int)) d.2 ++ [Tv.int (((d.1 ++ p.2.map (shiftS d.1.length)).length - 1 : Nat) : Int)]))), _, _, _, _]
          rw [← e1]
          rfl⟩
    | none =>
      have hd9 : d.1.length ≤ 900 := Nat.le_trans kl (Nat.le_trans (Nat.mul_le_mul_right _ (Nat.min_le_right _ _)) hn)
      refine getK_of (atI_nat (j := 0) rfl) ⟨by rw [List.length_cons]; exact not_all1 _, ?_⟩
      rw [cutT_one]
      refine ⟨by rw [List.length_map]; exact len1000 (Nat.le_trans har (by decide)), fun j acc => acc = (args.take j).map fun a => Tv.int (d.2.getD a 0 : Nat), rfl, ?_, ?_⟩
      · rintro j t acc hj rfl
        rw [List.getElem?_map] at hj
        obtain ⟨x, hx, rfl⟩ := Option.map_eq_some_iff.mp hj
        have hai := wfi x (List.mem_of_getElem? hx)
        have e : (d.2.map fun j => Tv.int (j : Nat))[x]? = some (Tv.int (d.2.getD x 0 : Nat)) := by
          rw [List.getElem?_map, List.getElem?_eq_getElem (by omega), List.getD_eq_getElem?_getD, List.getElem?_eq_getElem (by omega)]
          rfl
        refine getK_of (atI_nat e) ⟨rfl, ?_⟩
        show _ = List.map (fun a => Tv.int (d.2.getD a 0 : Nat)) (args.take (j + 1))
        rw [List.take_add_one, hx, List.map_append]
        rfl
      · rintro acc rfl
        rw [List.length_map, List.take_length]
        refine ⟨?_, ?_⟩
        · rw [List.length_cons, List.append_nil, List.length_map]
          exact len1000 (Nat.le_trans (Nat.succ_le_succ har) (by decide))
        refine ⟨by rw [List.length_map]; exact small1000 (by omega), ?_⟩
        refine ⟨by rw [List.length_map]; exact small1000 (by omega), ?_⟩
        have e1 : ((d.1.map stepT ++ [stepT (newS d.2 (w0, args))]).length : Int) - 1 = ((d.1 ++ [newS d.2 (w0, args)]).length - 1 : Nat) := by
          simp only [List.length_append, List.length_map, List.length_cons, List.length_nil]
          omega
        have e2 : stepT (newS d.2 (w0, args)) = Tv.tup (Tv.str w0 :: ((args.map fun a => Tv.int (d.2.getD a 0 : Nat)) ++ [])) := by
          rw [List.append_nil]
          show Tv.tup (Tv.str w0 :: ((args.map fun a => d.2.getD a 0).map fun j => Tv.int (j : Nat))) = _
          rw [List.map_map]
          rfl
        exact ⟨_, _, by
          rw [List.map_append, List.map_append]
          show _ = [_, _, some (Sl.own (Tv.lst (d.1.map stepT ++ [stepT (newS d.2 (w0, args))]))), some (Sl.own (Tv.lst (List.map (fun j => Tv.int ((j : Nat) : Int)) d.2 ++ [Tv.int (((d.1 ++ [newS d.2 (w0, args)]).length - 1 : Nat) : Int)]))), _, _, _, _]
          rw [← e1, e2]
          rfl⟩
  · rintro τ ⟨v4, v5, rfl⟩
    rw [List.length_map, List.take_length]
    have l9 := (putL_len gs b b1 hg S).1
    exact ⟨_, rfl, by omega, pi.wf, fun st hs => by rw [pi.ar st hs]; exact arity_le _, hp⟩
end
end L2.Wk
namespace L2.Wk
open PySem PySem.Spec PyProof.Rows
local macro_rules | `(tactic| walk_at "tsr1") => `(tactic| first
  | exact q_tsr_next | exact q_ter_var _ | exact q_ter_c _ | exact q_tar_nil | exact q_tsr_retN | exact q_tsr_break | exact q_tsr_cont | exact q_tsr_never | exact q_tbr_yes | exact q_tor_none | exact q_tgsr_nil | exact q_tgr_name _ | exact q_ter_dnew | exact q_ter_dnewT | exact q_tpr_nil | exact q_ter_pop
  | exact opt_cmp | exact opt_I0 | exact opt_I | exact opt_eq | exact opt_ne | exact opt_eqD | exact opt_neD | exact opt_ixL | exact opt_ixT | exact opt_ixS | exact opt_in | exact opt_notIn | exact opt_inS | exact opt_addS | exact opt_cat | exact opt_catA | exact opt_kd | exact opt_notkd | exact opt_isN | exact opt_notN | exact opt_isB | exact opt_notB | exact unt_U
  | exact cbt_len | exact cbt_all | exact cbt_any | exact cbt_abs | exact cbt_int | exact cbt_bool | exact cbt_strI | exact cbt_strS | exact cbt_list | exact cbt_tuple | exact cbt_dict | exact cbt_isi | exact cbt_repr
  | exact m1t_split | exact m1t_partition | exact m1t_join | exact slt_L | exact slt_S | exact slt_T | exact slt_TA
  | apply q_tsr_augS use_self | apply q_tsr_augS use_pure | apply q_tsr_augS (by assumption)
  | apply q_tsr_seq | apply q_tsr_ret | apply q_tsr_if | apply q_tsr_set | apply q_tsr_dset | apply q_tsr_fld | apply q_tsr_augI | apply q_tsr_parN | apply q_tsr_par | apply q_tsr_par3 | apply q_tsr_asg | apply q_tsr_drop | apply q_tsr_for | apply q_tsr_while | (apply q_tsr_tryC; intro _) | apply q_tsr_raiseG (fun _ _ _ _ h => h)
  | apply q_tar_cons | apply q_tar_star | apply q_ter_append | apply q_ter_extend | apply q_ter_popAt
  | exact q_ter_kb | apply q_ter_tup | apply q_ter_lst | apply q_ter_disp | apply q_tpr_cons | apply q_ter_dc | apply q_ter_kget2 | apply q_ter_eqOwn | apply q_ter_neOwn | apply q_ter_opOwn | apply q_ter_unOwn | apply q_ter_strOwn | apply q_ter_lenOwn | apply q_ter_sortB | apply q_ter_sortL | apply q_ter_prop | apply q_ter_cmeth use_self | apply q_ter_cmeth use_pure | apply q_ter_cmeth (by assumption) | (apply q_ter_cmethS; rfl) | (apply q_ter_cmethX; (intro _; rfl)) | apply q_ter_makeL (fun _ => usei_self) | apply q_ter_makeL (fun _ => usei_pure) | (apply q_ter_makeLX; rfl) | apply q_ter_make usei_self | apply q_ter_make usei_pure | (apply q_ter_makeS; rfl) | apply q_ter_chain | apply q_ter_call use_self | apply q_ter_call use_pure | apply q_ter_call (by assumption) | (apply q_ter_callX; (intro _; rfl)) | (apply q_ter_makeX; (intro _; rfl)) | apply q_ter_call | apply q_ter_meth | apply q_ter_make | apply q_ter_fld | apply q_ter_sl | apply q_ter_rev | apply q_ter_m1 | apply q_ter_dget | apply q_ter_din | apply q_ter_dnotin | apply q_ter_lc | apply q_ter_andV | apply q_ter_orV | apply q_ter_notV | apply q_ter_if
  | apply q_ter_cb1 | apply q_ter_cb2 | apply q_ter_op | apply q_ter_un
  | apply q_tor_some
  | apply q_tbr_test | apply q_tbr_b | apply q_tbr_and | apply q_tbr_or | apply q_tbr_not | apply q_tbr_truth
  | apply q_tir_list | apply q_tir_tup | apply q_tir_seq | apply q_tir_str | apply q_tir_rng1 | apply q_tir_rng2 | apply q_tir_rng3 | apply q_tir_enumL | apply q_tir_enumT | apply q_tir_enumK | apply q_tir_zipL | apply q_tir_zipM
  | apply q_tgr_tup | apply q_tgr_unl | apply q_tgsr_cons
  | exact tgw_name (by simp) | exact tgm_name _ | apply tgw_tup | apply tgm_tup | exact tgsw_nil | exact tgsm_nil | apply tgsw_cons | apply tgsm_cons
  | exact fun _ => Reps.nil | assumption | exact use_self | exact use_pure | exact usei_self | exact usei_pure | exact fun _ => usei_pure | exact usex_pure | exact fun _ => usex_pure | exact useix_pure | exact fun _ => useix_pure | (intro _; assumption))
local macro_rules | `(tactic| walk_at "tsr") => `(tactic| repeat' (walk_at "tsr1"))
abbrev s_Formula_of : Stmt := inClass (top 16) 1
abbrev N_Formula_of : List Str := ["cls", "name"]
theorem sc_Formula_of : FnScope N_Formula_of ["cls", "name"] (defScope s_Formula_of) := ⟨rfl, rfl, rfl, by decide +kernel, rfl, by decide +kernel, by decide +kernel⟩
abbrev s_Formula_always : Stmt := inClass (top 16) 2
abbrev N_Formula_always : List Str := ["cls", "value"]
theorem sc_Formula_always : FnScope N_Formula_always ["cls", "value"] (defScope s_Formula_always) := ⟨rfl, rfl, rfl, by decide +kernel, rfl, by decide +kernel, by decide +kernel⟩
abbrev s_Formula_and : Stmt := inClass (top 16) 9
abbrev N_Formula_and : List Str := ["self", "other"]
theorem sc_Formula_and : FnScope N_Formula_and ["self", "other"] (defScope s_Formula_and) := ⟨rfl, rfl, rfl, by decide +kernel, rfl, by decide +kernel, by decide +kernel⟩
abbrev s_Formula_or : Stmt := inClass (top 16) 10
abbrev N_Formula_or : List Str := ["self", "other"]
theorem sc_Formula_or : FnScope N_Formula_or ["self", "other"] (defScope s_Formula_or) := ⟨rfl, rfl, rfl, by decide +kernel, rfl, by decide +kernel, by decide +kernel⟩
abbrev s_Formula_xor : Stmt := inClass (top 16) 11
abbrev N_Formula_xor : List Str := ["self", "other"]
theorem sc_Formula_xor : FnScope N_Formula_xor ["self", "other"] (defScope s_Formula_xor) := ⟨rfl, rfl, rfl, by decide +kernel, rfl, by decide +kernel, by decide +kernel⟩
abbrev s_Formula_invert : Stmt := inClass (top 16) 12
abbrev N_Formula_invert : List Str := ["self"]
theorem sc_Formula_invert : FnScope N_Formula_invert ["self"] (defScope s_Formula_invert) := ⟨rfl, rfl, rfl, by decide +kernel, rfl, by decide +kernel, by decide +kernel⟩
/-! ### two formulas behind a sign -/
def FoT (C : Addr) (n : Nat) (ws : List Str) (t : Tv) : Prop := ∃ S ys, FrmS ws S ∧ S.length ≤ n ∧ Asc ys (namesS S) ∧ t = .ins C (formT S ys)
theorem FoT.le {C : Addr} {n m : Nat} {ws : List Str} {t : Tv} (h : FoT C n ws t) (l : n ≤ m) : FoT C m ws t := by
  obtain ⟨S, ys, h1, h2, h3, h4⟩ := h
  exact ⟨S, ys, h1, Nat.le_trans h2 l, h3, h4⟩
def tmp2 (sign : Str) : List Step := [("p", []), ("q", []), (sign, [0, 1])]
def tmp1 : List Step := [("p", []), ("~", [0])]
theorem ar_p : arityW "p" = 0 ∧ arityW "q" = 0 ∧ arityW "~" = 1 ∧ (Str.ofString "p") ≠ Str.ofString "q" ∧ (Str.ofString "p") ≠ Str.ofString "~" := by decide +kernel
theorem tmp2_ok {sign : Str} (h : arityW sign = 2) : FrmS [sign, "p", "q"] (tmp2 sign) := by
  have P : PoI (tmp2 sign) [] := by
    refine ⟨fun i st hi j hj => ?_, fun st hs => ?_, fun f hf => (by cases hf), fun i hi => ?_⟩
    · match i, hi with
      | 0, hi => cases hi; cases hj
      | 1, hi => cases hi; cases hj
      | 2, hi =>
        cases hi
        have hj : j ∈ [0, 1] := hj
        simp at hj
        omega
      | n + 3, hi => cases hi
    · have hs : st ∈ [(("p" : Str), ([] : List Nat)), ("q", []), (sign, [0, 1])] := hs
      simp only [List.mem_cons, List.not_mem_nil, or_false] at hs
      rcases hs with rfl | rfl | rfl
      · exact ar_p.1.symm
      · exact ar_p.2.1.symm
      · exact h.symm
    · have hi : i < 3 := hi
      match i, hi with
      | 0, _ => exact .inl ⟨2, _, rfl, by simp⟩
      | 1, _ => exact .inl ⟨2, _, rfl, by simp⟩
      | 2, _ => exact .inr (.inr ⟨rfl, rfl⟩)
  refine ⟨P, by simp [tmp2], rfl, fun st hs => ?_⟩
  have hs : st ∈ [(("p" : Str), ([] : List Nat)), ("q", []), (sign, [0, 1])] := hs
  simp only [List.mem_cons, List.not_mem_nil, or_false] at hs
  rcases hs with rfl | rfl | rfl <;> simp
theorem tmp1_ok : FrmS ["~", "p"] tmp1 := by
  have P : PoI tmp1 [] := by
    refine ⟨fun i st hi j hj => ?_, fun st hs => ?_, fun f hf => (by cases hf), fun i hi => ?_⟩
    · match i, hi with
      | 0, hi => cases hi; cases hj
      | 1, hi =>
        cases hi
        have hj : j ∈ [0] := hj
        simp at hj
        omega
      | n + 2, hi => cases hi
    · have hs : st ∈ [(("p" : Str), ([] : List Nat)), ("~", [0])] := hs
      simp only [List.mem_cons, List.not_mem_nil, or_false] at hs
      rcases hs with rfl | rfl
      · exact ar_p.1.symm
      · exact ar_p.2.2.1.symm
    · have hi : i < 2 := hi
      match i, hi with
      | 0, _ => exact .inl ⟨1, _, rfl, by simp⟩
      | 1, _ => exact .inr (.inr ⟨rfl, rfl⟩)
  refine ⟨P, by simp [tmp1], rfl, fun st hs => ?_⟩
  have hs : st ∈ [(("p" : Str), ([] : List Nat)), ("~", [0])] := hs
  simp only [List.mem_cons, List.not_mem_nil, or_false] at hs
  rcases hs with rfl | rfl <;> simp
theorem giv_p (gs : List (Str × List Step)) (z : Str) (G : List Step) : givS ((z, G) :: gs) z = some G := by
  unfold givS
  rw [List.find?_cons_of_pos (by simp)]
  rfl
theorem giv_n {gs : List (Str × List Step)} {z y : Str} (G : List Step) (h : y ≠ z) : givS ((y, G) :: gs) z = givS gs z := by
  unfold givS
  rw [List.find?_cons_of_neg (by simpa using h)]
theorem join_ok {sign : Str} {w1 w2 : List Str} {S1 S2 : List Step} (h : arityW sign = 2) (F1 : FrmS w1 S1) (F2 : FrmS w2 S2) :
    PoI (putL (givS [("p", S1), ("q", S2)]) (tmp2 sign)).1 [] ∧ FrmS (sign :: (w1 ++ w2)) (eachS (putL (givS [("p", S1), ("q", S2)]) (tmp2 sign)).1).1 ∧ (putL (givS [("p", S1), ("q", S2)]) (tmp2 sign)).1.length = 1 + S1.length + S2.length := by
  obtain ⟨a1, a2, _, a4, _⟩ := ar_p
  have np : Str.ofString "p" ≠ sign := fun e => by rw [e] at a1; omega
  have nq : Str.ofString "q" ≠ sign := fun e => by rw [e] at a2; omega
  have gp : givS [("p", S1), ("q", S2)] "p" = some S1 := giv_p _ _ _
  have gq : givS [("p", S1), ("q", S2)] "q" = some S2 := by rw [giv_n _ a4]; exact giv_p _ _ _
  have gs : givS [("p", S1), ("q", S2)] sign = none := by rw [giv_n _ np, giv_n _ nq]; rfl
  let gw : Str → Option (List Str) := fun z => if z = "p" then some w1 else if z = "q" then some w2 else none
  have wp : gw "p" = some w1 := if_pos rfl
  have wq : gw "q" = some w2 := by show (if _ then _ else _) = _; rw [if_neg (fun e => a4 e.symm), if_pos rfl]
  have wsn : gw sign = none := by show (if _ then _ else _) = _; rw [if_neg (fun e => np e.symm), if_neg (fun e => nq e.symm)]
  have W : GivW (givS [("p", S1), ("q", S2)]) gw (tmp2 sign) := by
    refine ⟨fun st hs hg => ?_, fun st hs G hg => ?_⟩
    · have hs : st ∈ [(("p" : Str), ([] : List Nat)), ("q", []), (sign, [0, 1])] := hs
      simp only [List.mem_cons, List.not_mem_nil, or_false] at hs
      rcases hs with rfl | rfl | rfl
      · rw [gp] at hg; cases hg
      · rw [gq] at hg; cases hg
      · exact wsn
    · have hs : st ∈ [(("p" : Str), ([] : List Nat)), ("q", []), (sign, [0, 1])] := hs
      simp only [List.mem_cons, List.not_mem_nil, or_false] at hs
      rcases hs with rfl | rfl | rfl
      · rw [gp] at hg; cases hg; exact ⟨a1, w1, F1, wp⟩
      · rw [gq] at hg; cases hg; exact ⟨a2, w2, F2, wq⟩
      · rw [gs] at hg; cases hg
  obtain ⟨p1, p2, p3, p4⟩ := put_ok (tmp2_ok h) W
  have ew : ([sign, "p", "q"] : List Str).flatMap (subW gw) = sign :: (w1 ++ w2) := by
    simp only [List.flatMap_cons, List.flatMap_nil, subW, wp, wq, wsn]
    simp
  rw [ew] at p3 p4
  refine ⟨p1, each_frm p1 p2 p3 p4, ?_⟩
  unfold putL tmp2
  simp only [List.foldl_cons, List.foldl_nil, pStep, pOne, gp, gq, gs, List.length_append, List.length_map, List.length_cons, List.length_nil]
  omega
theorem inv_ok {w1 : List Str} {S1 : List Step} (F1 : FrmS w1 S1) :
    PoI (putL (givS [("p", S1)]) tmp1).1 [] ∧ FrmS (("~" : Str) :: w1) (eachS (putL (givS [("p", S1)]) tmp1).1).1 ∧ (putL (givS [("p", S1)]) tmp1).1.length = 1 + S1.length := by
  obtain ⟨a1, _, _, _, a5⟩ := ar_p
  have gp : givS [("p", S1)] "p" = some S1 := giv_p _ _ _
  have gs : givS [("p", S1)] "~" = none := by rw [giv_n _ a5]; rfl
  let gw : Str → Option (List Str) := fun z => if z = "p" then some w1 else none
  have wp : gw "p" = some w1 := if_pos rfl
  have wsn : gw "~" = none := if_neg (fun e => a5 e.symm)
  have W : GivW (givS [("p", S1)]) gw tmp1 := by
    refine ⟨fun st hs hg => ?_, fun st hs G hg => ?_⟩
    · have hs : st ∈ [(("p" : Str), ([] : List Nat)), ("~", [0])] := hs
      simp only [List.mem_cons, List.not_mem_nil, or_false] at hs
      rcases hs with rfl | rfl
      · rw [gp] at hg; cases hg
      · exact wsn
    · have hs : st ∈ [(("p" : Str), ([] : List Nat)), ("~", [0])] := hs
      simp only [List.mem_cons, List.not_mem_nil, or_false] at hs
      rcases hs with rfl | rfl
      · rw [gp] at hg; cases hg; exact ⟨a1, w1, F1, wp⟩
      · rw [gs] at hg; cases hg
  obtain ⟨p1, p2, p3, p4⟩ := put_ok tmp1_ok W
  have ew : ([Str.ofString "~", "p"] : List Str).flatMap (subW gw) = ("~" : Str) :: w1 := by
    simp only [List.flatMap_cons, List.flatMap_nil, subW, wp, wsn]
    simp
  rw [ew] at p3 p4
  refine ⟨p1, each_frm p1 p2 p3 p4, ?_⟩
  unfold putL tmp1
  simp only [List.foldl_cons, List.foldl_nil, pStep, pOne, gp, gs, List.length_append, List.length_map, List.length_cons, List.length_nil]
  omega
theorem merge_pq (t1 t2 : Tv) : mergeT [] [((Sum.inr (Str.ofString "p") : Key), t1), ((Sum.inr (Str.ofString "q") : Key), t2)] = [((Sum.inr (Str.ofString "p") : Key), t1), ((Sum.inr (Str.ofString "q") : Key), t2)] := by
  have h : ¬ (Sum.inr (Str.ofString "p") : Key) = Sum.inr (Str.ofString "q") := by decide +kernel
  simp [mergeT, putKT, h]
def fJoined : FT := fun ts P => ∃ sign w1 w2 S1 S2, ts = [.str sign, .tup (S1.map stepT), .tup (S2.map stepT)] ∧ arityW sign = 2 ∧ FrmS w1 S1 ∧ FrmS w2 S2 ∧ S1.length ≤ 300 ∧ S2.length ≤ 300 ∧ ∀ S', FrmS (sign :: (w1 ++ w2)) S' → S'.length ≤ 1 + S1.length + S2.length → P (.val (.tup (S'.map stepT)))
def fewW (ws : List Str) : Prop := ∃ ds : List Str, (∀ x ∈ ws, x ∈ ds) ∧ ds.length < 60
theorem few_of {ws : List Str} {S : List Step} (F : FrmS ws S) (h : fewW ws) : fewN (namesS S) := by
  obtain ⟨ds, h1, h2⟩ := h
  exact ⟨ds, fun x hx => h1 x ((F.names x).mp hx).1, by omega⟩
theorem fewW_bin {sign : Str} {w1 w2 : List Str} (hs : sign ∈ signsV) {S : List Step} (F : FrmS (sign :: (w1 ++ w2)) S) (h : fewW (w1 ++ w2)) : fewN (namesS S) := by
  obtain ⟨ds, h1, h2⟩ := h
  refine ⟨ds, fun x hx => ?_, by omega⟩
  obtain ⟨q1, q2, _⟩ := (F.names x).mp hx
  rcases List.mem_cons.mp q1 with e | q1
  · exact absurd (e ▸ hs) q2
  · exact h1 x q1
def fBin (C : Addr) (sign : Str) : FT := fun ts P => ∃ n1 n2 w1 w2 t1 t2, ts = [t1, t2] ∧ FoT C n1 w1 t1 ∧ FoT C n2 w2 t2 ∧ n1 ≤ 300 ∧ n2 ≤ 300 ∧ fewW (w1 ++ w2) ∧ ∀ t, FoT C (1 + n1 + n2) (sign :: (w1 ++ w2)) t → P (.own t)
def fInv (C : Addr) : FT := fun ts P => ∃ n1 w1 t1, ts = [t1] ∧ FoT C n1 w1 t1 ∧ n1 ≤ 300 ∧ fewW w1 ∧ ∀ t, FoT C (1 + n1) (("~" : Str) :: w1) t → P (.own t)
structure TxtO (K : PySem.W.Frag) (w : World) (mg : Str → Option Value) (a : Wf) (g : Gf) (c : Fg) (h : Hf) (IT fIT : Addr) (u : Tf) : Prop extends TxtT K w mg a g c h IT fIT u where
  isF : IsC K c.Formula
  kit_FF : PySem.W.kitOne K (.ref c.Formula) (.ref c.Formula) = some true
section
variable {P : Program} {w : World} {K : PySem.W.Frag} {mg : Str → Option Value} {base : Heap} {a : Wf} {g : Gf} {c : Fg} {h : Hf} {IT fIT : Addr} {u : Tf} {f : Addr} {fd : FuncData}
theorem ok_joinedT {f1 : FuncData} (F : Fun K "_joined" "_joined" s_joined f fd) (T : TxtT K w mg a g c h IT fIT u) (G__put : FnOk P w K mg base CX0 2 u.put f1 ["steps", "given"] (spT K Rs.pure fPut)) (b__put : Binds K f1 ["steps", "given"] []) :
    FnOk P w K mg base CX0 3 f fd ["sign", "left", "right"] (spT K Rs.pure fJoined) := by
  refine F.ok sc_joined (spT_len fun ts P ⟨_, _, _, _, _, h, _⟩ => by rw [h]; rfl) (fun cdv A outer s H vs Q E hr h => ?_)
  obtain ⟨S, ts, P0, sS, hi, ho, rs, hf, k⟩ := h
  refine ⟨_, (pss_one (ps_ret (pe_call G__put (hr.mono (by decide)) rfl T.g__put T.k__put b__put .nil pass0 (pa_cons (pe_tup (pa_cons (pe_tup (pa_cons pe_str pa_nil)) (pa_cons (pe_tup (pa_cons pe_str pa_nil)) (pa_cons (pe_tup (pa_cons (pv 0) (pa_cons pe_int (pa_cons pe_int pa_nil)))) pa_nil)))) (pa_cons (pe_disp (pps_cons pe_str (pv 1) (pps_cons pe_str (pv 2) pps_nil)) rfl rfl (by simp) (by decide)) pa_nil))))), ?_⟩
  refine fn_treeq (K := K) (R := Rs.pure) exok_pure (by walk_at "tsr") sS hi ho rs k ?_
  obtain ⟨sign, w1, w2, S1, S2, rfl, ha, F1, F2, n1, n2, hp⟩ := hf
  obtain ⟨j1, j2, j3⟩ := join_ok ha F1 F2
  have le : ∀ {α : Type} {l : List α}, Nat.ble l.length 1000 = true → l.length ≤ sizeLine := fun h => len1000 (Nat.le_of_ble_eq_true h)
  refine ⟨le rfl, le rfl, le rfl, le rfl, Nat.le_of_ble_eq_true rfl, ?_⟩
  rw [merge_pq]
  refine ⟨tmp2 sign, [("p", S1), ("q", S2)], 300, rfl, by decide, (by show 3 * 300 ≤ 900; decide), fun p hp => ?_, (tmp2_ok ha).pi.wf, (tmp2_ok ha).ar2, j1, hp _ j2 (by have := (eachS_lens (putL (givS [("p", S1), ("q", S2)]) (tmp2 sign)).1).2; omega)⟩
  simp only [List.mem_cons, List.not_mem_nil, or_false] at hp
  rcases hp with rfl | rfl
  · exact ⟨n1, F1.ne, F1.ar2⟩
  · exact ⟨n2, F2.ne, F2.ar2⟩
theorem ok_andT {f1 f2 : FuncData} (F : Fun K "__and__" "Formula.__and__" s_Formula_and f fd) (T : TxtO K w mg a g c h IT fIT u) (M_Formula : Mk K c.Formula c.fInit) (G_Formula : FnOk P w K mg base CX0 2 c.fInit f1 ["self", "steps"] (spI K Rs.pure c.Formula fFormI)) (b_Formula : Binds K f1 ["self", "steps"] [])
    (G__joined : FnOk P w K mg base CX0 3 u.joined f2 ["sign", "left", "right"] (spT K Rs.pure fJoined)) (b__joined : Binds K f2 ["sign", "left", "right"] []) :
    FnOk P w K mg base CX0 4 f fd ["self", "other"] (spT K Rs.pure (fBin c.Formula "&")) := by
  refine F.ok sc_Formula_and (spT_len fun ts P ⟨_, _, _, _, _, _, h, _⟩ => by rw [h]; rfl) (fun cdv A outer s H vs Q E hr h => ?_)
  obtain ⟨S, ts, P0, sS, hi, ho, rs, hf, k⟩ := h
  refine ⟨_, (pss_cons (ps_if (pt_not (pt_val (pe_callB call_isi (by rfl) T.b_isinstance (by decide +kernel) (pa_cons (pv 1) (pa_cons (pe_gr rfl T.g_Formula) pa_nil))))) (pss_one ps_never) pss_nil)
    (pss_one (ps_ret (pe_make M_Formula G_Formula (hr.mono (by decide)) rfl T.g_Formula b_Formula .nil pass0 (pa_cons (pe_call G__joined (hr.mono (by decide)) rfl T.g__joined T.k__joined b__joined .nil pass0 (pa_cons pe_str (pa_cons (pe_fld (pv 0) rfl) (pa_cons (pe_fld (pv 1) rfl) pa_nil)))) pa_nil))))), ?_⟩
  refine fn_treeq (K := K) (R := Rs.pure) exok_pure (by walk_at "tsr") sS hi ho rs k ?_
  obtain ⟨n1, n2, w1, w2, t1, t2, rfl, ⟨S1, y1, F1, l1, A1, rfl⟩, ⟨S2, y2, F2, l2, A2, rfl⟩, b1, b2, few, hp⟩ := hf
  refine ⟨.adr _, fun _ => .adr _, T.isF, getK_of T.kit_FF ?_⟩
  refine ⟨⟨T.cl, T.n_steps⟩, getK_of rfl ⟨⟨T.cl, T.n_steps⟩, getK_of rfl ?_⟩⟩
  refine ⟨"&", w1, w2, S1, S2, rfl, by decide +kernel, F1, F2, by omega, by omega, fun S' F' l' => ?_⟩
  exact ⟨S', rfl, by omega, fewW_bin (by decide +kernel) F' few, fun ys hy => hp _ ⟨S', ys, F', by omega, hy, rfl⟩⟩
theorem ok_orT {f1 f2 : FuncData} (F : Fun K "__or__" "Formula.__or__" s_Formula_or f fd) (T : TxtO K w mg a g c h IT fIT u) (M_Formula : Mk K c.Formula c.fInit) (G_Formula : FnOk P w K mg base CX0 2 c.fInit f1 ["self", "steps"] (spI K Rs.pure c.Formula fFormI)) (b_Formula : Binds K f1 ["self", "steps"] [])
    (G__joined : FnOk P w K mg base CX0 3 u.joined f2 ["sign", "left", "right"] (spT K Rs.pure fJoined)) (b__joined : Binds K f2 ["sign", "left", "right"] []) :
    FnOk P w K mg base CX0 4 f fd ["self", "other"] (spT K Rs.pure (fBin c.Formula "|")) := by
  refine F.ok sc_Formula_or (spT_len fun ts P ⟨_, _, _, _, _, _, h, _⟩ => by rw [h]; rfl) (fun cdv A outer s H vs Q E hr h => ?_)
  obtain ⟨S, ts, P0, sS, hi, ho, rs, hf, k⟩ := h
  refine ⟨_, (pss_cons (ps_if (pt_not (pt_val (pe_callB call_isi (by rfl) T.b_isinstance (by decide +kernel) (pa_cons (pv 1) (pa_cons (pe_gr rfl T.g_Formula) pa_nil))))) (pss_one ps_never) pss_nil)
    (pss_one (ps_ret (pe_make M_Formula G_Formula (hr.mono (by decide)) rfl T.g_Formula b_Formula .nil pass0 (pa_cons (pe_call G__joined (hr.mono (by decide)) rfl T.g__joined T.k__joined b__joined .nil pass0 (pa_cons pe_str (pa_cons (pe_fld (pv 0) rfl) (pa_cons (pe_fld (pv 1) rfl) pa_nil)))) pa_nil))))), ?_⟩
  refine fn_treeq (K := K) (R := Rs.pure) exok_pure (by walk_at "tsr") sS hi ho rs k ?_
  obtain ⟨n1, n2, w1, w2, t1, t2, rfl, ⟨S1, y1, F1, l1, A1, rfl⟩, ⟨S2, y2, F2, l2, A2, rfl⟩, b1, b2, few, hp⟩ := hf
  refine ⟨.adr _, fun _ => .adr _, T.isF, getK_of T.kit_FF ?_⟩
  refine ⟨⟨T.cl, T.n_steps⟩, getK_of rfl ⟨⟨T.cl, T.n_steps⟩, getK_of rfl ?_⟩⟩
  refine ⟨"|", w1, w2, S1, S2, rfl, by decide +kernel, F1, F2, by omega, by omega, fun S' F' l' => ?_⟩
  exact ⟨S', rfl, by omega, fewW_bin (by decide +kernel) F' few, fun ys hy => hp _ ⟨S', ys, F', by omega, hy, rfl⟩⟩
theorem ok_xorT {f1 f2 : FuncData} (F : Fun K "__xor__" "Formula.__xor__" s_Formula_xor f fd) (T : TxtO K w mg a g c h IT fIT u) (M_Formula : Mk K c.Formula c.fInit) (G_Formula : FnOk P w K mg base CX0 2 c.fInit f1 ["self", "steps"] (spI K Rs.pure c.Formula fFormI)) (b_Formula : Binds K f1 ["self", "steps"] [])
    (G__joined : FnOk P w K mg base CX0 3 u.joined f2 ["sign", "left", "right"] (spT K Rs.pure fJoined)) (b__joined : Binds K f2 ["sign", "left", "right"] []) :
    FnOk P w K mg base CX0 4 f fd ["self", "other"] (spT K Rs.pure (fBin c.Formula "^")) := by
  refine F.ok sc_Formula_xor (spT_len fun ts P ⟨_, _, _, _, _, _, h, _⟩ => by rw [h]; rfl) (fun cdv A outer s H vs Q E hr h => ?_)
  obtain ⟨S, ts, P0, sS, hi, ho, rs, hf, k⟩ := h
  refine ⟨_, (pss_cons (ps_if (pt_not (pt_val (pe_callB call_isi (by rfl) T.b_isinstance (by decide +kernel) (pa_cons (pv 1) (pa_cons (pe_gr rfl T.g_Formula) pa_nil))))) (pss_one ps_never) pss_nil)
    (pss_one (ps_ret (pe_make M_Formula G_Formula (hr.mono (by decide)) rfl T.g_Formula b_Formula .nil pass0 (pa_cons (pe_call G__joined (hr.mono (by decide)) rfl T.g__joined T.k__joined b__joined .nil pass0 (pa_cons pe_str (pa_cons (pe_fld (pv 0) rfl) (pa_cons (pe_fld (pv 1) rfl) pa_nil)))) pa_nil))))), ?_⟩
  refine fn_treeq (K := K) (R := Rs.pure) exok_pure (by walk_at "tsr") sS hi ho rs k ?_
  obtain ⟨n1, n2, w1, w2, t1, t2, rfl, ⟨S1, y1, F1, l1, A1, rfl⟩, ⟨S2, y2, F2, l2, A2, rfl⟩, b1, b2, few, hp⟩ := hf
  refine ⟨.adr _, fun _ => .adr _, T.isF, getK_of T.kit_FF ?_⟩
  refine ⟨⟨T.cl, T.n_steps⟩, getK_of rfl ⟨⟨T.cl, T.n_steps⟩, getK_of rfl ?_⟩⟩
  refine ⟨"^", w1, w2, S1, S2, rfl, by decide +kernel, F1, F2, by omega, by omega, fun S' F' l' => ?_⟩
  exact ⟨S', rfl, by omega, fewW_bin (by decide +kernel) F' few, fun ys hy => hp _ ⟨S', ys, F', by omega, hy, rfl⟩⟩
theorem merge_p (t1 : Tv) : mergeT [] [((Sum.inr (Str.ofString "p") : Key), t1)] = [((Sum.inr (Str.ofString "p") : Key), t1)] := rfl
theorem ok_invT {f1 f2 : FuncData} (F : Fun K "__invert__" "Formula.__invert__" s_Formula_invert f fd) (T : TxtO K w mg a g c h IT fIT u) (M_Formula : Mk K c.Formula c.fInit) (G_Formula : FnOk P w K mg base CX0 2 c.fInit f1 ["self", "steps"] (spI K Rs.pure c.Formula fFormI)) (b_Formula : Binds K f1 ["self", "steps"] [])
    (G__put : FnOk P w K mg base CX0 2 u.put f2 ["steps", "given"] (spT K Rs.pure fPut)) (b__put : Binds K f2 ["steps", "given"] []) :
    FnOk P w K mg base CX0 4 f fd ["self"] (spT K Rs.pure (fInv c.Formula)) := by
  refine F.ok sc_Formula_invert (spT_len fun ts P ⟨_, _, _, h, _⟩ => by rw [h]; rfl) (fun cdv A outer s H vs Q E hr h => ?_)
  obtain ⟨S, ts, P0, sS, hi, ho, rs, hf, k⟩ := h
  refine ⟨_, (pss_one (ps_ret (pe_make M_Formula G_Formula (hr.mono (by decide)) rfl T.g_Formula b_Formula .nil pass0 (pa_cons (pe_call G__put (hr.mono (by decide)) rfl T.g__put T.k__put b__put .nil pass0 (pa_cons (pe_tup (pa_cons (pe_tup (pa_cons pe_str pa_nil)) (pa_cons (pe_tup (pa_cons pe_str (pa_cons pe_int pa_nil))) pa_nil))) (pa_cons (pe_disp (pps_cons pe_str (pe_fld (pv 0) rfl) pps_nil) rfl rfl (by simp) (by decide)) pa_nil))) pa_nil)))), ?_⟩
  refine fn_treeq (K := K) (R := Rs.pure) exok_pure (by walk_at "tsr") sS hi ho rs k ?_
  obtain ⟨n1, w1, t1, rfl, ⟨S1, y1, F1, l1, A1, rfl⟩, b1, few, hp⟩ := hf
  obtain ⟨j1, j2, j3⟩ := inv_ok F1
  have le : ∀ {α : Type} {l : List α}, Nat.ble l.length 1000 = true → l.length ≤ sizeLine := fun h => len1000 (Nat.le_of_ble_eq_true h)
  refine ⟨le rfl, le rfl, le rfl, ⟨T.cl, T.n_steps⟩, getK_of rfl ⟨Nat.le_of_ble_eq_true rfl, ?_⟩⟩
  rw [merge_p]
  have kl := (eachS_lens (putL (givS [("p", S1)]) tmp1).1).2
  refine ⟨tmp1, [("p", S1)], 300, rfl, by decide, (by show 2 * 300 ≤ 900; decide), fun p hp => ?_, tmp1_ok.pi.wf, tmp1_ok.ar2, j1, ?_⟩
  · simp only [List.mem_cons, List.not_mem_nil, or_false] at hp
    subst hp
    exact ⟨(show S1.length ≤ 300 by omega), F1.ne, F1.ar2⟩
  have fn : fewN (namesS (eachS (putL (givS [("p", S1)]) tmp1).1).1) := fewW_bin (sign := "~") (w2 := []) (by decide +kernel) (by rw [List.append_nil]; exact j2) (by rw [List.append_nil]; exact few)
  exact ⟨_, rfl, by omega, fn, fun ys hy => hp _ ⟨_, ys, j2, by omega, hy, rfl⟩⟩
/-! ### names, values -/
theorem name_plain {z : Str} (h : isName z = true) : z ∉ signsV ∧ z ∉ constV := by
  have q1 : ∀ x ∈ signsV, isName x = false := by decide +kernel
  have q2 : ∀ x ∈ constV, isName x = false := by decide +kernel
  refine ⟨fun m => ?_, fun m => ?_⟩
  · have := q1 z m
    rw [h] at this
    cases this
  · have := q2 z m
    rw [h] at this
    cases this
theorem frm_one {z : Str} (h : z ∉ signsV) : FrmS [z] [(z, [])] := by
  have a0 : arityW z = 0 := if_neg h
  refine ⟨⟨fun i st hi j hj => ?_, fun st hs => ?_, fun f hf => (by cases hf), fun i hi => ?_⟩, by simp, rfl, fun st hs => ?_⟩
  · match i, hi with
    | 0, hi => cases hi; cases hj
    | n + 1, hi => cases hi
  · rw [List.mem_singleton.mp hs]
    exact a0.symm
  · have hi : i < 1 := hi
    exact .inr (.inr ⟨rfl, by show i + 1 = 1; omega⟩)
  · rw [List.mem_singleton.mp hs]
    exact List.mem_singleton.mpr rfl
def fIsN : FT := fun ts P => ∃ z : Str, ts = [.str z] ∧ z.length ≤ 1000 ∧ P (.val (.bl (isName z)))
theorem use_isN {R : Rs} {E : XK} : UseT K R (spTxt isName) E fIsN := use_scal fun S H ts vs Q P rs s ⟨z, e, hz, p⟩ k => by
  subst e
  cases rs with | cons h1 rs => cases rs; cases h1; exact ⟨z, rfl, hz, fun H' s' => k _ _ H' s' (.bl _) p⟩
def fOf (C : Addr) : FT := fun ts P => ∃ z : Str, ts = [.adr C, .str z] ∧ isName z = true ∧ z.length ≤ 1000 ∧ ∀ t, FoT C 1 [z] t → P (.own t)
theorem ok_ofT {f1 f2 : FuncData} (F : Fun K "of" "Formula.of" s_Formula_of f fd) (T : TxtO K w mg a g c h IT fIT u) (M_Formula : Mk K c.Formula c.fInit) (G_Formula : FnOk P w K mg base CX0 2 c.fInit f1 ["self", "steps"] (spI K Rs.pure c.Formula fFormI)) (b_Formula : Binds K f1 ["self", "steps"] [])
    (G_is_name : FnOk P w K mg base CX0 1 a.is_name f2 ["value"] (spTxt isName)) (b_is_name : Binds K f2 ["value"] []) :
    FnOk P w K mg base CX0 4 f fd ["cls", "name"] (spT K Rs.pure (fOf c.Formula)) := by
  refine F.ok sc_Formula_of (spT_len fun ts P ⟨_, h, _⟩ => by rw [h]; rfl) (fun cdv A outer s H vs Q E hr h => ?_)
  obtain ⟨S, ts, P0, sS, hi, ho, rs, hf, k⟩ := h
  refine ⟨_, (pss_cons (ps_if (pt_not (pt_val (pe_call G_is_name (hr.mono (by decide)) rfl T.g_is_name T.k_is_name b_is_name .nil pass0 (pa_cons (pv 1) pa_nil)))) (pss_one ps_never) pss_nil)
    (pss_one (ps_ret (pe_makeL (i := 0) M_Formula G_Formula (hr.mono (by decide)) rfl (Or.inl rfl) b_Formula .nil (E := fun _ => E0) at0 (pa_cons (pe_tup (pa_cons (pe_tup (pa_cons (pv 1) pa_nil)) pa_nil)) pa_nil))))), ?_⟩
  have U := use_isN (K := K) (R := Rs.pure) (E := E0)
  refine fn_treeq (K := K) (R := Rs.pure) exok_pure (by walk_at "tsr") sS hi ho rs k ?_
  obtain ⟨z, rfl, hz, lz, hp⟩ := hf
  obtain ⟨z1, z2⟩ := name_plain hz
  have le : ∀ {α : Type} {l : List α}, Nat.ble l.length 1000 = true → l.length ≤ sizeLine := fun h => len1000 (Nat.le_of_ble_eq_true h)
  refine ⟨z, rfl, lz, ?_⟩
  rw [hz]
  refine ⟨rfl, le rfl, le rfl, [(z, [])], rfl, by show 1 ≤ 1000; decide, ?_, fun ys hy => hp _ ⟨_, ys, frm_one z1, Nat.le_refl _, hy, rfl⟩⟩
  exact ⟨[z], fun x hx => ((frm_one z1).names x).mp hx |>.1, by show 1 < 64; decide⟩
def fAlways (C : Addr) : FT := fun ts P => ∃ b : Bool, ts = [.adr C, .bl b] ∧ ∀ t, FoT C 1 [if b then "1" else "0"] t → P (.own t)
theorem ok_alwaysT {f1 : FuncData} (F : Fun K "always" "Formula.always" s_Formula_always f fd) (T : TxtO K w mg a g c h IT fIT u) (b_bool : mg "bool" = none) (M_Formula : Mk K c.Formula c.fInit) (G_Formula : FnOk P w K mg base CX0 2 c.fInit f1 ["self", "steps"] (spI K Rs.pure c.Formula fFormI)) (b_Formula : Binds K f1 ["self", "steps"] []) :
    FnOk P w K mg base CX0 4 f fd ["cls", "value"] (spT K Rs.pure (fAlways c.Formula)) := by
  refine F.ok sc_Formula_always (spT_len fun ts P ⟨_, h, _⟩ => by rw [h]; rfl) (fun cdv A outer s H vs Q E hr h => ?_)
  obtain ⟨S, ts, P0, sS, hi, ho, rs, hf, k⟩ := h
  refine ⟨_, (pss_cons (ps_if (pt_not (pt_val (pe_callB call_isi (by rfl) T.b_isinstance (by decide +kernel) (pa_cons (pv 1) (pa_cons (pe_tyB (T := "bool") (by rfl) b_bool (by decide +kernel)) pa_nil))))) (pss_one ps_never) pss_nil)
    (pss_one (ps_ret (pe_makeL (i := 0) M_Formula G_Formula (hr.mono (by decide)) rfl (Or.inl rfl) b_Formula .nil (E := fun _ => E0) at0 (pa_cons (pe_tup (pa_cons (pe_tup (pa_cons (pe_ifExp (pt_truth (pv 1) (by intro _; rfl)) pe_str pe_str) pa_nil)) pa_nil)) pa_nil))))), ?_⟩
  refine fn_treeq (K := K) (R := Rs.pure) exok_pure (by walk_at "tsr") sS hi ho rs k ?_
  obtain ⟨b, rfl, hp⟩ := hf
  have le : ∀ {α : Type} {l : List α}, Nat.ble l.length 1000 = true → l.length ≤ sizeLine := fun h => len1000 (Nat.le_of_ble_eq_true h)
  have q : ∀ z, z ∈ constV → z ∉ signsV := by decide +kernel
  refine getK_of (kit_ty (a := "bool") (b := "bool") (r := true) (by decide +kernel)) ?_
  cases b with
  | true =>
    have z1 : (Str.ofString "1") ∉ signsV := q _ (by decide +kernel)
    refine ⟨rfl, le rfl, le rfl, [("1", [])], rfl, by show 1 ≤ 1000; decide, ?_, fun ys hy => hp _ ⟨_, ys, frm_one z1, Nat.le_refl _, hy, rfl⟩⟩
    exact ⟨["1"], fun x hx => ((frm_one z1).names x).mp hx |>.1, by show 1 < 64; decide⟩
  | false =>
    have z1 : (Str.ofString "0") ∉ signsV := q _ (by decide +kernel)
    refine ⟨rfl, le rfl, le rfl, [("0", [])], rfl, by show 1 ≤ 1000; decide, ?_, fun ys hy => hp _ ⟨_, ys, frm_one z1, Nat.le_refl _, hy, rfl⟩⟩
    exact ⟨["0"], fun x hx => ((frm_one z1).names x).mp hx |>.1, by show 1 < 64; decide⟩
/-! ### texts -/
theorem at_lastT (xs : List Tv) (y : Tv) : atI (xs ++ [y]) (-1) = some y := by
  unfold atI ixN
  have hl : (xs ++ [y]).length = xs.length + 1 := by
    rw [List.length_append]
    rfl
  rw [hl, if_neg (by decide), if_pos (by omega)]
  have e : ((-1 : Int) + ((xs.length + 1 : Nat) : Int)).toNat = xs.length := by omega
  rw [e]
  show (xs ++ [y])[xs.length]? = some y
  rw [List.getElem?_append_right (Nat.le_refl _)]
  simp
def fText : FT := fun ts P => ∃ ws S, ts = [.tup (S.map stepT)] ∧ FrmS ws S ∧ S.length ≤ 1000 ∧ ws.length ≤ 900 ∧ (∀ z ∈ ws, z.length ≤ 50) ∧ P (.val (.str (txtW ws)))
theorem ok_textT (F : Fun K "_text" "_text" s_text f fd) (T : TxtG K mg g) : FnOk P w K mg base CX0 1 f fd ["steps"] (spT K Rs.pure fText) := by
  refine F.ok sc_text (spT_len fun ts P ⟨_, _, h, _⟩ => by rw [h]; rfl) (fun cdv A outer s H vs Q E hr h => ?_)
  obtain ⟨S, ts, P0, sS, hi, ho, rs, hf, k⟩ := h
  refine ⟨_, (pss_cons (ps_set (i := 1) sc_text.nd rfl (Or.inr rfl) (pe_lst pa_nil))
    (pss_cons (ps_for PassesOwn.never rfl (pi_tup (pv 0)) (pg_name (i := 2) sc_text.nd rfl (Or.inl rfl))
      (pss_one (ps_expr (pe_bm PySem.F.plainAttrs_list PySem.F.slot_list_append PySem.F.type_list_append mt_append (pv 1) (pa_cons (pe_join pe_str (pe_lst (pa_cons (pe_ix ix_tup (pv 2) pe_int (fun _ _ => rfl)) (StX.pa_star (pe_lc (own := [("at", 3)]) (g := gName 3) (tt := tYes) rfl sc_text.nd (pi_tup (pe_slice sl_tup (pv 2) (po_some pe_int) po_none)) (blkOk_by (N := N_text) (sc := defScope s_text) (by decide +kernel)) (fun _ _ _ _ _ => (pg_name (i := 3) sc_text.nd rfl (Or.inl rfl))) (fun _ _ _ _ _ => pts_nil) (fun _ _ _ _ _ => (pe_ix (ix_listK (K := K) rfl) (pv 1) (pv 3) (fun _ _ => rfl)))) pa_nil)))) pa_nil)))))
    (pss_one (ps_ret (pe_ix ix_list (pv 1) (pe_un un_neg pe_int) (fun _ _ => rfl)))))), ?_⟩
  refine fn_treeq (K := K) (R := Rs.pure) exok_pure (by walk_at "tsr") sS hi ho rs k ?_
  obtain ⟨ws, S, rfl, FS, hn, hw, hz, hp⟩ := hf
  refine ⟨by decide, fun i τ => ∃ v2 : Option Sl, τ = [some (.val (.tup (S.map stepT))), some (.own (.lst ((wordsL (S.take i)).map fun ws => Tv.str (txtW ws)))), v2, none], ⟨none, rfl⟩, ?_, ?_⟩
  · rintro i t τ ht ⟨v2, rfl⟩
    rw [List.getElem?_map] at ht
    obtain ⟨st, hst, rfl⟩ := Option.map_eq_some_iff.mp ht
    obtain ⟨w0, args⟩ := st
    have tk := words_take S i _ hst
    have har := FS.ar2 _ (List.mem_of_getElem? hst)
    have wfi := FS.pi.wf i _ hst
    have hi : i < S.length := (List.getElem?_eq_some_iff.mp hst).1
    dsimp only at har wfi
    have big := FS.big hz
    have tl : (wordsL (S.take i)).length = i := by
      rw [wordsL_len, List.length_take]
      omega
    have arg : ∀ a ∈ args, ∃ l, (wordsL (S.take i))[a]? = some l ∧ (wordsL (S.take i)).getD a [] = l ∧ l ∈ wordsL (S.take i) := fun a ha => by
      have hai : a < (wordsL (S.take i)).length := by rw [tl]; exact wfi a ha
      refine ⟨(wordsL (S.take i))[a], List.getElem?_eq_getElem hai, ?_, List.getElem_mem hai⟩
      rw [List.getD_eq_getElem?_getD, List.getElem?_eq_getElem hai]
      rfl
    have lw : w0.length ≤ 50 := hz _ (FS.hd _ (List.mem_of_getElem? hst))
    have lt : ∀ a ∈ args, (txtW ((wordsL (S.take i)).getD a [])).length ≤ 45900 := fun a ha => by
      obtain ⟨l, _, e2, e3⟩ := arg a ha
      rw [e2]
      have := big l (wordsL_mem e3)
      have := txt_len l
      have : (50 + 1) * ws.length ≤ 51 * 900 := Nat.mul_le_mul_left _ hw
      omega
    refine getK_of (atI_nat (j := 0) rfl) ⟨by rw [List.length_cons]; exact not_all1 _, ?_⟩
    rw [cutT_one]
    refine ⟨by rw [List.length_map]; exact len1000 (by show args.length ≤ 1000; omega), fun j acc => acc = (args.take j).map fun a => Tv.str (txtW ((wordsL (S.take i)).getD a [])), rfl, ?_, ?_⟩
    · rintro j t acc hj rfl
      rw [List.getElem?_map] at hj
      obtain ⟨x, hx, rfl⟩ := Option.map_eq_some_iff.mp hj
      obtain ⟨l, e1, e2, _⟩ := arg x (List.mem_of_getElem? hx)
      refine getK_of (atI_nat (show ((wordsL (S.take i)).map fun ws => Tv.str (txtW ws))[x]? = some (Tv.str (txtW l)) by rw [List.getElem?_map, e1]; rfl)) ⟨rfl, ?_⟩
      show _ = List.map (fun a => Tv.str (txtW ((wordsL (S.take i)).getD a []))) (args.take (j + 1))
      rw [List.take_add_one, hx, List.map_append, ← e2]
      rfl
    · rintro acc rfl
      rw [List.length_map, List.take_length]
      have em : Tv.str w0 :: ((args.map fun a => Tv.str (txtW ((wordsL (S.take i)).getD a []))) ++ []) = (w0 :: args.map fun a => txtW ((wordsL (S.take i)).getD a [])).map Tv.str := by
        rw [List.append_nil, List.map_cons, List.map_map]
        rfl
      have ej : Txt.join (Str.ofString " ") (w0 :: args.map fun a => txtW ((wordsL (S.take i)).getD a [])) = txtW (wordsS (wordsL (S.take i)) (w0, args)) := by
        have q := txt_flat w0 (args.map fun a => (wordsL (S.take i)).getD a []) fun x hx => by
          obtain ⟨a, ha, rfl⟩ := List.mem_map.mp hx
          obtain ⟨l, _, e2, e3⟩ := arg a ha
          rw [e2]
          exact wordsL_ne _ _ e3
        rw [List.map_map] at q
        exact q
      have ls : ((args.map fun a => txtW ((wordsL (S.take i)).getD a [])).map fun x => x.length).sum ≤ 45900 * args.length := by
        have q := sum_leG (c := 45900) (l := args.map fun a => txtW ((wordsL (S.take i)).getD a [])) fun z hz => by
          obtain ⟨a, ha, rfl⟩ := List.mem_map.mp hz
          exact lt a ha
        rw [List.length_map] at q
        exact q
      have e1 : (Str.ofString " ").length = 1 := by decide +kernel
      refine ⟨?_, ?_⟩
      · rw [List.length_cons, List.append_nil, List.length_map]
        exact len1000 (by show args.length + 1 ≤ 1000; omega)
      rw [em]
      refine getK_of (strsT_map _) ⟨?_, ?_⟩
      · rw [e1, List.map_cons, List.sum_cons, List.length_cons, List.length_map]
        omega
      rw [ej]
      refine ⟨by rw [List.length_map, tl]; exact small1000 (by omega), ?_⟩
      exact ⟨_, by rw [tk, List.map_append]; rfl⟩
  · rintro τ ⟨v2, rfl⟩
    rw [List.length_map, List.take_length]
    rcases List.eq_nil_or_concat (wordsL S) with e | ⟨m, c, e⟩
    · have := wordsL_len S
      rw [e] at this
      have := FS.pos
      simp at *
      omega
    · have hl := FS.last
      rw [e, List.concat_eq_append, List.getLastD_concat] at hl
      subst hl
      rw [e, List.concat_eq_append, List.map_append]
      exact getK_of (at_lastT _ _) hp
def fStr (C : Addr) : FT := fun ts P => ∃ n ws t, ts = [t] ∧ FoT C n ws t ∧ n ≤ 1000 ∧ ws.length ≤ 900 ∧ (∀ z ∈ ws, z.length ≤ 50) ∧ P (.val (.str (txtW ws)))
theorem ok_strT {f1 : FuncData} (F : Fun K "__str__" "Formula.__str__" s_Formula_str f fd) (T : TxtO K w mg a g c h IT fIT u) (G__text : FnOk P w K mg base CX0 1 g.text f1 ["steps"] (spT K Rs.pure fText)) (b__text : Binds K f1 ["steps"] []) :
    FnOk P w K mg base CX0 2 f fd ["self"] (spT K Rs.pure (fStr c.Formula)) := by
  refine F.ok sc_Formula_str (spT_len fun ts P ⟨_, _, _, h, _⟩ => by rw [h]; rfl) (fun cdv A outer s H vs Q E hr h => ?_)
  obtain ⟨S, ts, P0, sS, hi, ho, rs, hf, k⟩ := h
  refine ⟨_, (pss_one (ps_ret (pe_callTy SkE.call_str_str (by rfl) T.b_str (by decide +kernel) (pa_cons (pe_call G__text (hr.mono (by decide)) rfl T.g__text T.k__text b__text .nil pass0 (pa_cons (pe_fld (pv 0) rfl) pa_nil)) pa_nil)))), ?_⟩
  refine fn_treeq (K := K) (R := Rs.pure) exok_pure (by walk_at "tsr") sS hi ho rs k ?_
  obtain ⟨n, ws, t, rfl, ⟨S, ys, FS, l1, A1, rfl⟩, hn, hw, hz, hp⟩ := hf
  exact ⟨⟨T.cl, T.n_steps⟩, getK_of rfl ⟨ws, S, rfl, FS, by omega, hw, hz, hp⟩⟩
end
end L2.Wk
namespace L2.Wk
open PySem PySem.Spec PyProof.Rows
local macro_rules | `(tactic| walk_at "tsr1") => `(tactic| first
  | exact q_tsr_next | exact q_ter_var _ | exact q_ter_c _ | exact q_tar_nil | exact q_tsr_retN | exact q_tsr_break | exact q_tsr_cont | exact q_tsr_never | exact q_tbr_yes | exact q_tor_none | exact q_tgsr_nil | exact q_tgr_name _ | exact q_ter_dnew | exact q_ter_dnewT | exact q_tpr_nil | exact q_ter_pop
  | exact opt_cmp | exact opt_I0 | exact opt_I | exact opt_eq | exact opt_ne | exact opt_eqD | exact opt_neD | exact opt_ixL | exact opt_ixT | exact opt_ixS | exact opt_in | exact opt_notIn | exact opt_inS | exact opt_addS | exact opt_cat | exact opt_catA | exact opt_kd | exact opt_notkd | exact opt_isN | exact opt_notN | exact opt_isB | exact opt_notB | exact unt_U
  | exact cbt_len | exact cbt_all | exact cbt_any | exact cbt_abs | exact cbt_int | exact cbt_bool | exact cbt_strI | exact cbt_strS | exact cbt_list | exact cbt_tuple | exact cbt_dict | exact cbt_isi | exact cbt_repr
  | exact m1t_split | exact m1t_partition | exact m1t_join | exact slt_L | exact slt_S | exact slt_T | exact slt_TA
  | apply q_tsr_augS use_self | apply q_tsr_augS use_pure | apply q_tsr_augS (by assumption)
  | apply q_tsr_seq | apply q_tsr_ret | apply q_tsr_if | apply q_tsr_set | apply q_tsr_dset | apply q_tsr_fld | apply q_tsr_augI | apply q_tsr_parN | apply q_tsr_par | apply q_tsr_par3 | apply q_tsr_asg | apply q_tsr_drop | apply q_tsr_for | apply q_tsr_while | (apply q_tsr_tryC; intro _) | apply q_tsr_raiseG (fun _ _ _ _ h => h)
  | apply q_tar_cons | apply q_tar_star | apply q_ter_append | apply q_ter_extend | apply q_ter_popAt
  | exact q_ter_kb | apply q_ter_tup | apply q_ter_lst | apply q_ter_disp | apply q_tpr_cons | apply q_ter_dc | apply q_ter_kget2 | apply q_ter_eqOwn | apply q_ter_neOwn | apply q_ter_opOwn | apply q_ter_unOwn | apply q_ter_strOwn | apply q_ter_lenOwn | apply q_ter_sortB | apply q_ter_sortL | apply q_ter_prop | apply q_ter_cmeth use_self | apply q_ter_cmeth use_pure | apply q_ter_cmeth (by assumption) | (apply q_ter_cmethS; rfl) | (apply q_ter_cmethX; (intro _; rfl)) | apply q_ter_makeL (fun _ => usei_self) | apply q_ter_makeL (fun _ => usei_pure) | (apply q_ter_makeLX; rfl) | apply q_ter_make usei_self | apply q_ter_make usei_pure | (apply q_ter_makeS; rfl) | apply q_ter_chain | apply q_ter_call use_self | apply q_ter_call use_pure | apply q_ter_call (by assumption) | (apply q_ter_callX; (intro _; rfl)) | (apply q_ter_makeX; (intro _; rfl)) | apply q_ter_call | apply q_ter_meth | apply q_ter_make | apply q_ter_fld | apply q_ter_sl | apply q_ter_rev | apply q_ter_m1 | apply q_ter_dget | apply q_ter_din | apply q_ter_dnotin | apply q_ter_lc | apply q_ter_andV | apply q_ter_orV | apply q_ter_notV | apply q_ter_if
  | apply q_ter_cb1 | apply q_ter_cb2 | apply q_ter_op | apply q_ter_un
  | apply q_tor_some
  | apply q_tbr_test | apply q_tbr_b | apply q_tbr_and | apply q_tbr_or | apply q_tbr_not | apply q_tbr_truth
  | apply q_tir_list | apply q_tir_tup | apply q_tir_seq | apply q_tir_str | apply q_tir_rng1 | apply q_tir_rng2 | apply q_tir_rng3 | apply q_tir_enumL | apply q_tir_enumT | apply q_tir_enumK | apply q_tir_zipL | apply q_tir_zipM
  | apply q_tgr_tup | apply q_tgr_unl | apply q_tgsr_cons
  | exact tgw_name (by simp) | exact tgm_name _ | apply tgw_tup | apply tgm_tup | exact tgsw_nil | exact tgsm_nil | apply tgsw_cons | apply tgsm_cons
  | exact fun _ => Reps.nil | assumption | exact use_self | exact use_pure | exact usei_self | exact usei_pure | exact fun _ => usei_pure | exact usex_pure | exact fun _ => usex_pure | exact useix_pure | exact fun _ => useix_pure | (intro _; assumption))
local macro_rules | `(tactic| walk_at "tsr") => `(tactic| repeat' (walk_at "tsr1"))
abbrev s_Formula_value : Stmt := inClass (top 16) 5
abbrev N_Formula_value : List Str := ["self", "known", "name"]
theorem sc_Formula_value : FnScope N_Formula_value ["self", "known"] (defScope s_Formula_value) := ⟨rfl, rfl, rfl, by decide +kernel, rfl, by decide +kernel, by decide +kernel⟩
abbrev s_inside : Stmt := top 23
abbrev N_inside : List Str := ["many"]
theorem sc_inside : FnScope N_inside ["many"] (defScope s_inside) := ⟨rfl, rfl, rfl, by decide +kernel, rfl, by decide +kernel, by decide +kernel⟩
abbrev s_everywhere : Stmt := top 24
abbrev N_everywhere : List Str := ["many"]
theorem sc_everywhere : FnScope N_everywhere ["many"] (defScope s_everywhere) := ⟨rfl, rfl, rfl, by decide +kernel, rfl, by decide +kernel, by decide +kernel⟩
abbrev s_column : Stmt := top 25
abbrev N_column : List Str := ["at", "many", "width", "column", "place"]
theorem sc_column : FnScope N_column ["at", "many"] (defScope s_column) := ⟨rfl, rfl, rfl, by decide +kernel, rfl, by decide +kernel, by decide +kernel⟩
abbrev s_table : Stmt := top 26
abbrev N_table : List Str := ["steps", "names", "known", "everywhere", "columns", "name", "at", "pages", "number"]
theorem sc_table : FnScope N_table ["steps", "names", "known"] (defScope s_table) := ⟨rfl, rfl, rfl, by decide +kernel, rfl, by decide +kernel, by decide +kernel⟩
abbrev s_page : Stmt := top 27
abbrev N_page : List Str := ["steps", "columns", "everywhere", "found", "step", "word"]
theorem sc_page : FnScope N_page ["steps", "columns", "everywhere"] (defScope s_page) := ⟨rfl, rfl, rfl, by decide +kernel, rfl, by decide +kernel, by decide +kernel⟩
/-! ### tables -/
def foldF {α : Type} (d : α) (f : Str → List α → α) (S : List Step) : List α := S.foldl (fun acc st => acc ++ [f st.1 (st.2.map fun j => acc.getD j d)]) []
theorem foldF_take {α : Type} (d : α) (f : Str → List α → α) (S : List Step) (i : Nat) (st : Step) (h : S[i]? = some st) : foldF d f (S.take (i + 1)) = foldF d f (S.take i) ++ [f st.1 (st.2.map fun j => (foldF d f (S.take i)).getD j d)] := by
  unfold foldF
  rw [List.take_add_one, h, List.foldl_append]
  rfl
theorem foldF_len {α : Type} (d : α) (f : Str → List α → α) (S : List Step) : (foldF d f S).length = S.length := by
  have q : ∀ (S : List Step) (acc : List α), (S.foldl (fun acc st => acc ++ [f st.1 (st.2.map fun j => acc.getD j d)]) acc).length = acc.length + S.length := by
    intro S
    induction S with
    | nil => intro acc; rfl
    | cons st S ih =>
      intro acc
      rw [List.foldl_cons, ih, List.length_append]
      simp only [List.length_cons, List.length_nil]
      omega
  have := q S []
  unfold foldF
  rw [this]
  simp
def opW (every : Int) (col : Str → Int) (w : Str) (as : List Int) : Int :=
  if w = Str.ofString "&" then Builtin.bitAnd (as.getD 0 0) (as.getD 1 0)
  else if w = Str.ofString "|" then Builtin.bitOr (as.getD 0 0) (as.getD 1 0)
  else if w = Str.ofString "^" then Builtin.bitXor (as.getD 0 0) (as.getD 1 0)
  else if w = Str.ofString "~" then Builtin.bitXor (as.getD 0 0) every
  else if w ∈ constV then (if w = Str.ofString "1" then every else 0) else col w
theorem ar_signs : arityW "&" = 2 ∧ arityW "|" = 2 ∧ arityW "^" = 2 ∧ arityW "~" = 1 := by decide +kernel
theorem dg_str {cols : List (Key × Tv)} {z : Str} {t : Tv} {k : Tv → Prop} (e : valT cols (.inr z) = some t) (h : k t) : dgK (.dct cols) (.str z) fun o => getK o k := by
  refine dgK_of ?_
  show getK (valT cols (.inr z)) k
  exact getK_of e h
theorem two_of {l : List Nat} (h : l.length = 2) : ∃ x y, l = [x, y] := by
  match l, h with
  | [x, y], _ => exact ⟨x, y, rfl⟩
theorem one_of {l : List Nat} (h : l.length = 1) : ∃ x, l = [x] := by
  match l, h with
  | [x], _ => exact ⟨x, rfl⟩
theorem at_int {L : List Int} {x : Nat} (h : x < L.length) : (L.map Tv.int)[x]? = some (Tv.int (L.getD x 0)) := by
  rw [List.getElem?_map, List.getElem?_eq_getElem h, List.getD_eq_getElem?_getD, List.getElem?_eq_getElem h]
  rfl
def fPage : FT := fun ts P => ∃ (S : List Step) (cols : List (Key × Tv)) (every : Int) (col : Str → Int), ts = [.tup (S.map stepT), .dct cols, .int every] ∧ S ≠ [] ∧ S.length ≤ 1000 ∧ WfS S ∧ (∀ st ∈ S, st.2.length = arityW st.1) ∧
  (∀ st ∈ S, st.1 ∉ signsV → st.1 ∉ constV → valT cols (.inr st.1) = some (.int (col st.1))) ∧ P (.val (.int ((foldF 0 (opW every col) S).getLastD 0)))
section
variable {P : Program} {w : World} {K : PySem.W.Frag} {mg : Str → Option Value} {base : Heap} {a : Wf} {g : Gf} {c : Fg} {h : Hf} {IT fIT : Addr} {u : Tf} {f : Addr} {fd : FuncData}
theorem ok_pageT (F : Fun K "_page" "_page" s_page f fd) (T : TxtO K w mg a g c h IT fIT u) : FnOk P w K mg base CX0 1 f fd ["steps", "columns", "everywhere"] (spT K Rs.pure fPage) := by
  refine F.ok sc_page (spT_len fun ts P ⟨_, _, _, _, h, _⟩ => by rw [h]; rfl) (fun cdv A outer s H vs Q E hr h => ?_)
  obtain ⟨S, ts, P0, sS, hi, ho, rs, hf, k⟩ := h
  refine ⟨_, (pss_cons (ps_set (i := 3) sc_page.nd rfl (Or.inl rfl) (pe_lst pa_nil))
    (pss_cons (ps_for PassesOwn.never rfl (pi_tup (pv 0)) (pg_name (i := 4) sc_page.nd rfl (Or.inl rfl))
      (pss_cons (ps_set (i := 5) sc_page.nd rfl (Or.inl rfl) (pe_ix ix_tup (pv 4) pe_int (fun _ _ => rfl)))
      (pss_one (ps_if (pt_cmpR op_eq (pv 5) pe_str (nomark _)) (pss_one (ps_expr (pe_bm PySem.F.plainAttrs_list PySem.F.slot_list_append PySem.F.type_list_append mt_append (pv 3) (pa_cons (pe_op op_and (pe_ix ix_list (pv 3) (pe_ix ix_tup (pv 4) pe_int (fun _ _ => rfl)) (fun _ _ => rfl)) (pe_ix ix_list (pv 3) (pe_ix ix_tup (pv 4) pe_int (fun _ _ => rfl)) (fun _ _ => rfl))) pa_nil)))) (pss_one (ps_if (pt_cmpR op_eq (pv 5) pe_str (nomark _)) (pss_one (ps_expr (pe_bm PySem.F.plainAttrs_list PySem.F.slot_list_append PySem.F.type_list_append mt_append (pv 3) (pa_cons (pe_op op_or (pe_ix ix_list (pv 3) (pe_ix ix_tup (pv 4) pe_int (fun _ _ => rfl)) (fun _ _ => rfl)) (pe_ix ix_list (pv 3) (pe_ix ix_tup (pv 4) pe_int (fun _ _ => rfl)) (fun _ _ => rfl))) pa_nil)))) (pss_one (ps_if (pt_cmpR op_eq (pv 5) pe_str (nomark _)) (pss_one (ps_expr (pe_bm PySem.F.plainAttrs_list PySem.F.slot_list_append PySem.F.type_list_append mt_append (pv 3) (pa_cons (pe_op op_xor (pe_ix ix_list (pv 3) (pe_ix ix_tup (pv 4) pe_int (fun _ _ => rfl)) (fun _ _ => rfl)) (pe_ix ix_list (pv 3) (pe_ix ix_tup (pv 4) pe_int (fun _ _ => rfl)) (fun _ _ => rfl))) pa_nil)))) (pss_one (ps_if (pt_cmpR op_eq (pv 5) pe_str (nomark _)) (pss_one (ps_expr (pe_bm PySem.F.plainAttrs_list PySem.F.slot_list_append PySem.F.type_list_append mt_append (pv 3) (pa_cons (pe_op op_xor (pe_ix ix_list (pv 3) (pe_ix ix_tup (pv 4) pe_int (fun _ _ => rfl)) (fun _ _ => rfl)) (pv 2)) pa_nil)))) (pss_one (ps_if (pt_cmpR op_in_seq (pv 5) (pe_gr rfl T.g_CONSTANTS) (by rfl)) (pss_one (ps_expr (pe_bm PySem.F.plainAttrs_list PySem.F.slot_list_append PySem.F.type_list_append mt_append (pv 3) (pa_cons (pe_ifExp (pt_cmpR op_eq (pv 5) pe_str (nomark _)) (pv 2) pe_int) pa_nil)))) (pss_one (ps_expr (pe_bm PySem.F.plainAttrs_list PySem.F.slot_list_append PySem.F.type_list_append mt_append (pv 3) (pa_cons (pe_dget (Nat.lt_of_le_of_lt (Nat.add_le_add_left (by decide : 1 ≤ 64) _) hr.units) (pv 1) (pv 5) (fun _ _ => rfl)) pa_nil))))))))))))))))
    (pss_one (ps_ret (pe_ix ix_list (pv 3) (pe_un un_neg pe_int) (fun _ _ => rfl)))))), ?_⟩
  refine fn_treeq (K := K) (R := Rs.pure) exok_pure (by walk_at "tsr") sS hi ho rs k ?_
  obtain ⟨S, cols, every, col, rfl, ne, hn, wf, ar, hc, hp⟩ := hf
  refine ⟨by decide, fun i τ => ∃ v4 v5 : Option Sl, τ = [some (.val (.tup (S.map stepT))), some (.val (.dct cols)), some (.val (.int every)), some (.own (.lst ((foldF 0 (opW every col) (S.take i)).map Tv.int))), v4, v5], ⟨none, none, rfl⟩, ?_, ?_⟩
  · rintro i t τ ht ⟨v4, v5, rfl⟩
    rw [List.getElem?_map] at ht
    obtain ⟨st, hst, rfl⟩ := Option.map_eq_some_iff.mp ht
    have hm := List.mem_of_getElem? hst
    have har := ar st hm
    have wfi := wf i st hst
    have hi : i < S.length := (List.getElem?_eq_some_iff.mp hst).1
    have tk := foldF_take 0 (opW every col) S i st hst
    have hc := hc st hm
    have tl : (foldF 0 (opW every col) (S.take i)).length = i := by rw [foldF_len, List.length_take]; omega
    obtain ⟨w0, args⟩ := st
    dsimp only at har wfi hc tk
    simp only [tk]
    generalize foldF 0 (opW every col) (S.take i) = L at *
    refine getK_of (atI_nat (j := 0) rfl) ?_
    refine eqS_str ?_
    by_cases h1 : w0 = Str.ofString "&"
    · rw [decide_eq_true h1]
      have a2 : args.length = 2 := by rw [har, h1]; exact ar_signs.1
      obtain ⟨x, y, rfl⟩ := two_of a2
      have ex := at_int (L := L) (show x < L.length by rw [tl]; exact wfi x (by simp))
      have ey := at_int (L := L) (show y < L.length by rw [tl]; exact wfi y (by simp))
      have eo : opW every col w0 (([x, y] : List Nat).map fun j => L.getD j 0) = Builtin.bitAnd (L.getD x 0) (L.getD y 0) := by
        unfold opW
        rw [if_pos h1]
        rfl
      refine getK_of (atI_nat (j := 1) rfl) (getK_of (atI_nat ex) ?_)
      refine getK_of (atI_nat (j := 2) rfl) (getK_of (atI_nat ey) ?_)
      exact ⟨by rw [List.length_map, tl]; exact small1000 (by omega), _, _, by rw [eo, List.map_append]; rfl⟩
    rw [decide_eq_false h1]
    refine eqS_str ?_
    by_cases h2 : w0 = Str.ofString "|"
    · rw [decide_eq_true h2]
      have a2 : args.length = 2 := by rw [har, h2]; exact ar_signs.2.1
      obtain ⟨x, y, rfl⟩ := two_of a2
      have ex := at_int (L := L) (show x < L.length by rw [tl]; exact wfi x (by simp))
      have ey := at_int (L := L) (show y < L.length by rw [tl]; exact wfi y (by simp))
      have eo : opW every col w0 (([x, y] : List Nat).map fun j => L.getD j 0) = Builtin.bitOr (L.getD x 0) (L.getD y 0) := by
        unfold opW
        rw [if_neg h1, if_pos h2]
        rfl
      refine getK_of (atI_nat (j := 1) rfl) (getK_of (atI_nat ex) ?_)
      refine getK_of (atI_nat (j := 2) rfl) (getK_of (atI_nat ey) ?_)
      exact ⟨by rw [List.length_map, tl]; exact small1000 (by omega), _, _, by rw [eo, List.map_append]; rfl⟩
    rw [decide_eq_false h2]
    refine eqS_str ?_
    by_cases h3 : w0 = Str.ofString "^"
    · rw [decide_eq_true h3]
      have a2 : args.length = 2 := by rw [har, h3]; exact ar_signs.2.2.1
      obtain ⟨x, y, rfl⟩ := two_of a2
      have ex := at_int (L := L) (show x < L.length by rw [tl]; exact wfi x (by simp))
      have ey := at_int (L := L) (show y < L.length by rw [tl]; exact wfi y (by simp))
      have eo : opW every col w0 (([x, y] : List Nat).map fun j => L.getD j 0) = Builtin.bitXor (L.getD x 0) (L.getD y 0) := by
        unfold opW
        rw [if_neg h1, if_neg h2, if_pos h3]
        rfl
      refine getK_of (atI_nat (j := 1) rfl) (getK_of (atI_nat ex) ?_)
      refine getK_of (atI_nat (j := 2) rfl) (getK_of (atI_nat ey) ?_)
      exact ⟨by rw [List.length_map, tl]; exact small1000 (by omega), _, _, by rw [eo, List.map_append]; rfl⟩
    rw [decide_eq_false h3]
    refine eqS_str ?_
    by_cases h4 : w0 = Str.ofString "~"
    · rw [decide_eq_true h4]
      have a1 : args.length = 1 := by rw [har, h4]; exact ar_signs.2.2.2
      obtain ⟨x, rfl⟩ := one_of a1
      have ex := at_int (L := L) (show x < L.length by rw [tl]; exact wfi x (by simp))
      have eo : opW every col w0 (([x] : List Nat).map fun j => L.getD j 0) = Builtin.bitXor (L.getD x 0) every := by
        unfold opW
        rw [if_neg h1, if_neg h2, if_neg h3, if_pos h4]
        rfl
      refine getK_of (atI_nat (j := 1) rfl) (getK_of (atI_nat ex) ?_)
      exact ⟨by rw [List.length_map, tl]; exact small1000 (by omega), _, _, by rw [eo, List.map_append]; rfl⟩
    rw [decide_eq_false h4]
    have hs : w0 ∉ signsV := fun hm => by
      have hm : w0 ∈ [Str.ofString "&", Str.ofString "|", Str.ofString "^", Str.ofString "~"] := hm
      simp only [List.mem_cons, List.not_mem_nil, or_false] at hm
      rcases hm with e | e | e | e
      · exact h1 e
      · exact h2 e
      · exact h3 e
      · exact h4 e
    have e5 : opW every col w0 (args.map fun j => L.getD j 0) = if w0 ∈ constV then (if w0 = Str.ofString "1" then every else 0) else col w0 := by
      unfold opW
      rw [if_neg h1, if_neg h2, if_neg h3, if_neg h4]
    rw [e5]
    refine ⟨.wtp (constV.map Tv.str), fun S => .wtp (T.s_CONSTANTS S) (reps_strs _), ?_⟩
    refine in_wtp ?_
    by_cases h5 : w0 ∈ constV
    · rw [decide_eq_true h5, if_pos h5]
      refine eqS_str ?_
      by_cases h6 : w0 = Str.ofString "1"
      · rw [decide_eq_true h6, if_pos h6]
        exact ⟨by rw [List.length_map, tl]; exact small1000 (by omega), _, _, by rw [List.map_append]; rfl⟩
      · rw [decide_eq_false h6, if_neg h6]
        exact ⟨by rw [List.length_map, tl]; exact small1000 (by omega), _, _, by rw [List.map_append]; rfl⟩
    · rw [decide_eq_false h5, if_neg h5]
      refine dg_str (hc hs h5) ?_
      exact ⟨by rw [List.length_map, tl]; exact small1000 (by omega), _, _, by rw [List.map_append]; rfl⟩
  · rintro τ ⟨v4, v5, rfl⟩
    rw [List.length_map, List.take_length]
    rcases List.eq_nil_or_concat (foldF 0 (opW every col) S) with e | ⟨m, z, e⟩
    · have := foldF_len 0 (opW every col) S
      rw [e] at this
      exact absurd (List.length_eq_zero_iff.mp this.symm) ne
    · rw [e, List.concat_eq_append, List.getLastD_concat] at hp
      rw [e, List.concat_eq_append, List.map_append]
      exact getK_of (at_lastT _ _) hp
end
end L2.Wk
namespace L2.Wk
open PySem PySem.Spec PyProof.Rows
local macro_rules | `(tactic| walk_at "tsr1") => `(tactic| first
  | exact q_tsr_next | exact q_ter_var _ | exact q_ter_c _ | exact q_tar_nil | exact q_tsr_retN | exact q_tsr_break | exact q_tsr_cont | exact q_tsr_never | exact q_tbr_yes | exact q_tor_none | exact q_tgsr_nil | exact q_tgr_name _ | exact q_ter_dnew | exact q_ter_dnewT | exact q_tpr_nil | exact q_ter_pop
  | exact opt_cmp | exact opt_I0 | exact opt_I | exact opt_eq | exact opt_ne | exact opt_eqD | exact opt_neD | exact opt_ixL | exact opt_ixT | exact opt_ixS | exact opt_in | exact opt_notIn | exact opt_inS | exact opt_addS | exact opt_cat | exact opt_catA | exact opt_kd | exact opt_notkd | exact opt_isN | exact opt_notN | exact opt_isB | exact opt_notB | exact unt_U
  | exact cbt_len | exact cbt_all | exact cbt_any | exact cbt_abs | exact cbt_int | exact cbt_bool | exact cbt_strI | exact cbt_strS | exact cbt_list | exact cbt_tuple | exact cbt_dict | exact cbt_isi | exact cbt_repr
  | exact m1t_split | exact m1t_partition | exact m1t_join | exact slt_L | exact slt_S | exact slt_T | exact slt_TA
  | apply q_tsr_augS use_self | apply q_tsr_augS use_pure | apply q_tsr_augS (by assumption)
  | apply q_tsr_seq | apply q_tsr_ret | apply q_tsr_if | apply q_tsr_set | apply q_tsr_dset | apply q_tsr_fld | apply q_tsr_augI | apply q_tsr_parN | apply q_tsr_par | apply q_tsr_par3 | apply q_tsr_asg | apply q_tsr_drop | apply q_tsr_for | apply q_tsr_while | (apply q_tsr_tryC; intro _) | apply q_tsr_raiseG (fun _ _ _ _ h => h)
  | apply q_tar_cons | apply q_tar_star | apply q_ter_append | apply q_ter_extend | apply q_ter_popAt
  | exact q_ter_kb | apply q_ter_tup | apply q_ter_lst | apply q_ter_disp | apply q_tpr_cons | apply q_ter_dc | apply q_ter_kget2 | apply q_ter_eqOwn | apply q_ter_neOwn | apply q_ter_opOwn | apply q_ter_unOwn | apply q_ter_strOwn | apply q_ter_lenOwn | apply q_ter_sortB | apply q_ter_sortL | apply q_ter_prop | apply q_ter_cmeth use_self | apply q_ter_cmeth use_pure | apply q_ter_cmeth (by assumption) | (apply q_ter_cmethS; rfl) | (apply q_ter_cmethX; (intro _; rfl)) | apply q_ter_makeL (fun _ => usei_self) | apply q_ter_makeL (fun _ => usei_pure) | (apply q_ter_makeLX; rfl) | apply q_ter_make usei_self | apply q_ter_make usei_pure | (apply q_ter_makeS; rfl) | apply q_ter_chain | apply q_ter_call use_self | apply q_ter_call use_pure | apply q_ter_call (by assumption) | (apply q_ter_callX; (intro _; rfl)) | (apply q_ter_makeX; (intro _; rfl)) | apply q_ter_call | apply q_ter_meth | apply q_ter_make | apply q_ter_fld | apply q_ter_sl | apply q_ter_rev | apply q_ter_m1 | apply q_ter_dget | apply q_ter_din | apply q_ter_dnotin | apply q_ter_lc | apply q_ter_andV | apply q_ter_orV | apply q_ter_notV | apply q_ter_if
  | apply q_ter_cb1 | apply q_ter_cb2 | apply q_ter_op | apply q_ter_un
  | apply q_tor_some
  | apply q_tbr_test | apply q_tbr_b | apply q_tbr_and | apply q_tbr_or | apply q_tbr_not | apply q_tbr_truth
  | apply q_tir_list | apply q_tir_tup | apply q_tir_seq | apply q_tir_str | apply q_tir_rng1 | apply q_tir_rng2 | apply q_tir_rng3 | apply q_tir_enumL | apply q_tir_enumT | apply q_tir_enumK | apply q_tir_zipL | apply q_tir_zipM
  | apply q_tgr_tup | apply q_tgr_unl | apply q_tgsr_cons
  | exact tgw_name (by simp) | exact tgm_name _ | apply tgw_tup | apply tgm_tup | exact tgsw_nil | exact tgsm_nil | apply tgsw_cons | apply tgsm_cons
  | exact fun _ => Reps.nil | assumption | exact use_self | exact use_pure | exact usei_self | exact usei_pure | exact fun _ => usei_pure | exact usex_pure | exact fun _ => usex_pure | exact useix_pure | exact fun _ => useix_pure | (intro _; assumption))
local macro_rules | `(tactic| walk_at "tsr") => `(tactic| repeat' (walk_at "tsr1"))
/-! ### the tables' columns, for up to six names -/
def evrI (n : Nat) : Int := (2 ^ (2 ^ n) : Nat) - 1
def colI (at_ n : Nat) : Int := (List.range (n - (at_ + 1))).foldl (fun c i => Builtin.bitOr c (c * 2 ^ (2 ^ (at_ + 1 + i)))) ((2 ^ (2 ^ at_) - 1) * 2 ^ (2 ^ at_))
def colP (i j : Nat) : Int := (List.range j).foldl (fun c k => Builtin.bitOr c (c * 2 ^ (2 ^ (i + 1 + k)))) ((2 ^ (2 ^ i) - 1) * 2 ^ (2 ^ i))
theorem colP_succ (i j : Nat) : colP i (j + 1) = Builtin.bitOr (colP i j) (colP i j * 2 ^ (2 ^ (i + 1 + j))) := by
  unfold colP
  rw [List.range_succ, List.foldl_append]
  rfl
theorem col_bound : ∀ i, i < 6 → ∀ j, j < 6 → i + 1 + j < 6 → (colP i j).natAbs < 2 ^ 64 := by decide +kernel
structure Bf where
  tPAGE : Tok
  inside : Addr
  everywhere : Addr
  column : Addr
  table : Addr
  page : Addr
structure TxtB (K : PySem.W.Frag) (w : World) (mg : Str → Option Value) (a : Wf) (g : Gf) (c : Fg) (h : Hf) (IT fIT : Addr) (u : Tf) (b : Bf) : Prop extends TxtO K w mg a g c h IT fIT u where
  g_PAGE_NAMES : mg "PAGE_NAMES" = some (.int 11 b.tPAGE)
  g__inside : mg "_inside" = some (.ref b.inside)
  k__inside : PySem.W.keepIn K (.ref b.inside) = true
  g__everywhere : mg "_everywhere" = some (.ref b.everywhere)
  k__everywhere : PySem.W.keepIn K (.ref b.everywhere) = true
  g__column : mg "_column" = some (.ref b.column)
  k__column : PySem.W.keepIn K (.ref b.column) = true
  g__table : mg "_table" = some (.ref b.table)
  k__table : PySem.W.keepIn K (.ref b.table) = true
  g__page : mg "_page" = some (.ref b.page)
  k__page : PySem.W.keepIn K (.ref b.page) = true
  b_range : mg "range" = none
theorem seven {n : Nat} (h : n ≤ 6) : n = 0 ∨ n = 1 ∨ n = 2 ∨ n = 3 ∨ n = 4 ∨ n = 5 ∨ n = 6 := by omega
def fInside : FT := fun ts P => ∃ n : Nat, ts = [.int (n : Nat)] ∧ n ≤ 6 ∧ P (.val (.int (n : Nat)))
def fEvery : FT := fun ts P => ∃ n : Nat, ts = [.int (n : Nat)] ∧ n ≤ 6 ∧ P (.val (.int (evrI n)))
def fColumn : FT := fun ts P => ∃ i n : Nat, ts = [.int (i : Nat), .int (n : Nat)] ∧ i < n ∧ n ≤ 6 ∧ P (.val (.int (colI i n)))
section
variable {P : Program} {w : World} {K : PySem.W.Frag} {mg : Str → Option Value} {base : Heap} {a : Wf} {g : Gf} {c : Fg} {h : Hf} {IT fIT : Addr} {u : Tf} {b : Bf} {f : Addr} {fd : FuncData}
theorem ok_insideT (F : Fun K "_inside" "_inside" s_inside f fd) (T : TxtB K w mg a g c h IT fIT u b) : FnOk P w K mg base CX0 1 f fd ["many"] (spT K Rs.pure fInside) := by
  refine F.ok sc_inside (spT_len fun ts P ⟨_, h, _⟩ => by rw [h]; rfl) (fun cdv A outer s H vs Q E hr h => ?_)
  obtain ⟨S, ts, P0, sS, hi, ho, rs, hf, k⟩ := h
  refine ⟨_, (pss_one (ps_ret (pe_ifExp (pt_cmpR op_lt (pv 0) (pe_gi rfl T.g_PAGE_NAMES) (nomark _)) (pv 0) (pe_gi rfl T.g_PAGE_NAMES)))), ?_⟩
  refine fn_treeq (K := K) (R := Rs.pure) exok_pure (by walk_at "tsr") sS hi ho rs k ?_
  obtain ⟨n, rfl, hn, hp⟩ := hf
  rcases seven hn with rfl | rfl | rfl | rfl | rfl | rfl | rfl <;> exact hp
theorem ok_everyT {f1 : FuncData} (F : Fun K "_everywhere" "_everywhere" s_everywhere f fd) (T : TxtB K w mg a g c h IT fIT u b) (G__inside : FnOk P w K mg base CX0 1 b.inside f1 ["many"] (spT K Rs.pure fInside)) (b__inside : Binds K f1 ["many"] []) :
    FnOk P w K mg base CX0 2 f fd ["many"] (spT K Rs.pure fEvery) := by
  refine F.ok sc_everywhere (spT_len fun ts P ⟨_, h, _⟩ => by rw [h]; rfl) (fun cdv A outer s H vs Q E hr h => ?_)
  obtain ⟨S, ts, P0, sS, hi, ho, rs, hf, k⟩ := h
  refine ⟨_, (pss_one (ps_ret (pe_op op_sub (pe_op op_shl pe_int (pe_op op_shl pe_int (pe_call G__inside (hr.mono (by decide)) rfl T.g__inside T.k__inside b__inside .nil pass0 (pa_cons (pv 0) pa_nil)))) pe_int))), ?_⟩
  refine fn_treeq (K := K) (R := Rs.pure) exok_pure (by walk_at "tsr") sS hi ho rs k ?_
  obtain ⟨n, rfl, hn, hp⟩ := hf
  refine ⟨n, rfl, hn, ?_⟩
  rcases seven hn with rfl | rfl | rfl | rfl | rfl | rfl | rfl <;> exact ⟨⟨by decide, by decide, by decide⟩, ⟨by decide, by decide, by decide⟩, hp⟩
theorem ok_columnT {f1 : FuncData} (F : Fun K "_column" "_column" s_column f fd) (T : TxtB K w mg a g c h IT fIT u b) (G__inside : FnOk P w K mg base CX0 1 b.inside f1 ["many"] (spT K Rs.pure fInside)) (b__inside : Binds K f1 ["many"] []) :
    FnOk P w K mg base CX0 2 f fd ["at", "many"] (spT K Rs.pure fColumn) := by
  refine F.ok sc_column (spT_len fun ts P ⟨_, _, h, _⟩ => by rw [h]; rfl) (fun cdv A outer s H vs Q E hr h => ?_)
  obtain ⟨S, ts, P0, sS, hi, ho, rs, hf, k⟩ := h
  refine ⟨_, (pss_cons (ps_set (i := 2) sc_column.nd rfl (Or.inl rfl) (pe_op op_shl pe_int (pv 0)))
    (pss_cons (ps_set (i := 3) sc_column.nd rfl (Or.inl rfl) (pe_op op_shl (pe_op op_sub (pe_op op_shl pe_int (pv 2)) pe_int) (pv 2)))
    (pss_cons (ps_for PassesOwn.never rfl (pi_range2 rfl T.b_range (pa_cons (pe_op op_add (pv 0) pe_int) (pa_cons (pe_call G__inside (hr.mono (by decide)) rfl T.g__inside T.k__inside b__inside .nil pass0 (pa_cons (pv 1) pa_nil)) pa_nil))) (pg_name (i := 4) sc_column.nd rfl (Or.inl rfl))
      (pss_one (ps_set (i := 3) sc_column.nd rfl (Or.inl rfl) (pe_op op_or (pv 3) (pe_op op_shl (pv 3) (pe_op op_shl pe_int (pv 4)))))))
    (pss_one (ps_ret (pv 3)))))), ?_⟩
  refine fn_treeq (K := K) (R := Rs.pure) exok_pure (by walk_at "tsr") sS hi ho rs k ?_
  obtain ⟨i, n, rfl, hi', hn, hp⟩ := hf
  have e0 : ∀ k : Nat, (1 * 2 ^ ((k : Nat) : Int).toNat : Int) = ((2 ^ k : Nat) : Int) := fun k => by
    rw [Int.one_mul, Int.toNat_natCast]
    simp
  have e1 : ∀ k : Nat, (1 * 2 ^ ((k : Nat) : Int).toNat : Int).toNat = 2 ^ k := fun k => by
    rw [e0, Int.toNat_natCast]
  have i5 : i ≤ 5 := by omega
  have w5 : ∀ k, k ≤ 5 → 2 ^ k ≤ 32 := fun k hk => Nat.le_trans (Nat.pow_le_pow_right (by decide) hk) (by decide)
  have c1 : ∀ k : Nat, k ≤ 5 → CPow 1 (k : Nat) := fun k hk => ⟨by omega, by omega, by decide⟩
  have c2 : ∀ (k : Nat) (x : Int), k ≤ 5 → x.natAbs < 2 ^ 64 → CPow x (1 * 2 ^ ((k : Nat) : Int).toNat) := fun k x hk hx => by
    have := w5 k hk
    have e3 := e0 k
    generalize (1 * 2 ^ ((k : Nat) : Int).toNat : Int) = y at e3 ⊢
    generalize 2 ^ k = m at e3 this
    exact ⟨by omega, by omega, hx⟩
  have hb := col_bound i (by omega)
  have hx0 : (1 * 2 ^ (1 * 2 ^ ((i : Nat) : Int).toNat : Int).toNat - 1 : Int).natAbs < 2 ^ 64 := by
    rw [e1]
    have : ∀ k, k ≤ 5 → (1 * 2 ^ (2 ^ k) - 1 : Int).natAbs < 2 ^ 64 := by decide +kernel
    exact this i i5
  refine ⟨c1 i i5, c2 i 1 i5 (by decide), c2 i _ i5 hx0, n, rfl, hn, ⟨by omega, by omega, by omega, by omega⟩, fun j τ => ∃ (v2 v4 : Option Sl) (x : Int), τ = [some (.val (.int (i : Nat))), some (.val (.int (n : Nat))), v2, some (.val (.int x)), v4] ∧ x = colP i j, ⟨_, none, _, rfl, ?_⟩, ?_, ?_⟩
  · rw [e1]
    show _ = ((2 ^ (2 ^ i) - 1) * 2 ^ (2 ^ i) : Int)
    rw [Int.one_mul]
  · rintro j t τ ht ⟨v2, v4, x, rfl, rfl⟩
    have hj := (List.getElem?_eq_some_iff.mp ht).1
    rw [rngT_len] at hj
    rw [rngT_get hj] at ht
    cases ht
    have hk : i + 1 + j ≤ 5 := by omega
    have ek : ((i : Nat) : Int) + 1 + ((j : Nat) : Int) = ((i + 1 + j : Nat) : Int) := by omega
    rw [ek]
    refine ⟨c1 _ hk, c2 _ _ hk (hb j (by omega) (by omega)), _, _, _, rfl, ?_⟩
    rw [colP_succ, e1]
  · rintro τ ⟨v2, v4, x, rfl, rfl⟩
    have : (rngT (((i : Nat) : Int) + 1) (((n : Nat) : Int) - (((i : Nat) : Int) + 1)).toNat).length = n - (i + 1) := by rw [rngT_len]; omega
    rw [this]
    exact hp
end
end L2.Wk
namespace L2.Wk
open PySem PySem.Spec PyProof.Rows
/-! ### the table of a formula, for up to six names -/
theorem pt_truthK {X : Cx} {K : PySem.W.Frag} {a : Expr} {ta : TE} (hK : X.K = K) (ha : PE X a ta) (he : ∀ whole, isTrue a X.env whole = (do let v ← whole; standAt a.pos; holding [v] (truthy v))) : PT X a (fun σ H Q => ta σ H fun x H' => ∃ k, TruV K x H' k ∧ Q k H') := by
  subst hK
  exact pt_truth ha he
section
variable {X : Cx}
theorem sw_dict {kx vx : Expr} {gs : List Comprehension} {scope : Scope} {pos py : Pos} {y : Str} {l : Nat} {env : Env} (hk : env.scope.kind = .function) (hy : env.scope.names.lookup y = some .local) (hl : (py.line == pos.line) = true)
    (ha : (scope.names.any fun (n, k) => n == y && (k == .local || k == .cell)) = false) : swapsWith (.DictComp kx vx gs scope pos) (some (.Name y py)) l env = pure true := by
  have q1 : env.kindOf y = some .local := hy
  have q2 : env.blockKind = .function := by
    unfold Env.blockKind
    rw [hk] <;> rfl
  unfold swapsWith
  simp only [q1, q2, ha, hl, Expr.pos]
  rfl
theorem ps_setDc {i : Nat} {y : Str} {py : Pos} {kx vx tg iter : Expr} {ifs : List Expr} {scope : Scope} {own : List (Str × Nat)} {pos spos : Pos} {wi : TI} {g : TG} {tt : TT} {tk tv : TE} (hc : X.calm = true) (nd : X.N.Nodup) (hy : X.N[i]? = some y) (loc : X.env.scope.names.lookup y = some .local)
    (sw : swapsWith (.DictComp kx vx [⟨tg, iter, ifs, 0⟩] scope pos) (some (.Name y py)) spos.line X.env = pure true) (hi : PI X tg iter wi) (ok : BlkOk X.N X.env.scope scope own)
    (pg : ∀ (s : Shared) (H : Hp) (C : Addr) (cl : List (Str × Addr)) (fp : List Addr), PG (X.blk s H scope (compEnvC scope cl C X.env) fp) tg g) (pt : ∀ (s : Shared) (H : Hp) (C : Addr) (cl : List (Str × Addr)) (fp : List Addr), PTs (X.blk s H scope (compEnvC scope cl C X.env) fp) ifs tt)
    (pk : ∀ (s : Shared) (H : Hp) (C : Addr) (cl : List (Str × Addr)) (fp : List Addr), PE (X.blk s H scope (compEnvC scope cl C X.env) fp) kx tk)
    (pv : ∀ (s : Shared) (H : Hp) (C : Addr) (cl : List (Str × Addr)) (fp : List Addr), PE (X.blk s H scope (compEnvC scope cl C X.env) fp) vx tv) (fs : ∀ x, foldedSetIterable iter X.env x = pure x := by intro _; rfl) :
    PS X (.Assign [.Name y py] (.DictComp kx vx [⟨tg, iter, ifs, 0⟩] scope pos) spos) (tAsg (tDc wi g tt tk tv (own.map (·.2))) (gName i)) := by
  refine ⟨fun pins s σ H D I h => ?_⟩
  rw [exec_Assign_Name_used _ _ _ _ sw]
  refine wpAny_bind (wpAny_standAt (wpAny_bind ?_))
  have h2 : tDc wi g tt tk tv (own.map (·.2)) σ H (fun x H1 => gName i x σ H1 D.nx) := h
  show wpAny _ X.A (do let _ ← comprehension (.DictComp kx vx [⟨tg, iter, ifs, 0⟩] scope pos) scope X.env (firstIterPos [⟨tg, iter, ifs, 0⟩] pos) newDict false (eval iter X.env) (some (assign (.Name y py) X.env))) _ _ s
  refine wpAny_bind (thn (dc_core (Qf := fun _ s' => SP X pins D .next s') hc nd I hi ok pg pt pk pv fs h2 fun L C s' m H' J q ns f => ?_) fun _ s' z => wpAny_pure (wpAny_pure z))
  show wpAny _ _ (assign (.Name y py) X.env (.ref L)) _ _ _
  obtain ⟨f0, f1, f2, f3, f4, f5⟩ := f
  refine wpAny_assign_Name (store_ok2 (v := V.ref L) J nd hy (.inl loc) rfl (fun s2 J2 ⟨a, sb, ha⟩ => ?_) (.inr loc))
  refine ⟨m, ns.sameBut sb ?_, fun h3 sb3 => ⟨_, H', J2.turned (t' := s2.toks) (fun b o hb e => (sb3.2 b hb).trans e) f0 f1 f3 f4 f5, q⟩⟩
  rcases ha with z | z
  · rw [z]
    exact f1
  · exact fun e => f4 y a z e.symm
theorem ps_setDcL {st : Stmt} {te : TE} {i : Nat} (h : PS X st (tAsg te (gName i))) : PS X st (tAsg (tLockE te) (gName i)) := ⟨fun pins s σ H D I q => (ps_lock h).run pins s σ H D I q⟩
end
theorem valT_put {κ : Type} [DecidableEq κ] (k j : κ) (v : Tv) : ∀ kvs : List (κ × Tv), valT (putKT kvs k v) j = if j = k then some v else valT kvs j := by
  have hm : ∀ kvs : List (κ × Tv), valT (kvs.map fun kv => if kv.1 = k then (kv.1, v) else kv) j = (valT kvs j).map fun x => if j = k then v else x := by
    intro kvs
    induction kvs with
    | nil => rfl
    | cons p kvs ih =>
      unfold valT at ih ⊢
      rw [List.map_cons]
      by_cases h : p.1 = j
      · by_cases h2 : p.1 = k
        · rw [if_pos h2, List.find?_cons_of_pos (by simpa using h), List.find?_cons_of_pos (by simpa using h)]
          simp [h.symm.trans h2]
        · rw [if_neg h2, List.find?_cons_of_pos (by simpa using h), List.find?_cons_of_pos (by simpa using h)]
          have : ¬ j = k := fun e => h2 (h.trans e)
          simp [this]
      · by_cases h2 : p.1 = k
        · rw [if_pos h2, List.find?_cons_of_neg (by simpa using h), List.find?_cons_of_neg (by simpa using h)]
          exact ih
        · rw [if_neg h2, List.find?_cons_of_neg (by simpa using h), List.find?_cons_of_neg (by simpa using h)]
          exact ih
  intro kvs
  unfold putKT
  split
  · rename_i h
    rw [hm]
    obtain ⟨p, hp, e⟩ := List.any_eq_true.mp h
    have e := of_decide_eq_true e
    by_cases h2 : j = k
    · have : ∃ x, valT kvs j = some x := by
        unfold valT
        cases q : kvs.find? fun kv => decide (kv.1 = j) with
        | some y => exact ⟨_, rfl⟩
        | none =>
          have := List.find?_eq_none.mp q p hp
          simp [h2, e] at this
      obtain ⟨x, hx⟩ := this
      rw [hx]
      simp [h2]
    · simp [h2]
  · rename_i h
    unfold valT
    rw [List.find?_append]
    by_cases h2 : j = k
    · have : (kvs.find? fun kv => decide (kv.1 = j)) = none := by
        rw [List.find?_eq_none]
        intro p hp e
        exact h (List.any_eq_true.mpr ⟨p, hp, by rw [← h2]; exact e⟩)
      rw [this]
      simp [h2]
    · have h3 : ¬ k = j := fun e => h2 e.symm
      simp [h2, h3]
theorem cutL_whole {ts : List Tv} {lo hi : Option Int} (h : HT.sIx ts.length 0 lo = 0 ∧ HT.sIx ts.length ts.length hi = ts.length) : cutL ts lo hi = ts := by
  unfold cutL
  rw [h.1, h.2]
  simp
@[reducible] def cutAT : Tv → Option Int → Option Int → (List Tv → Prop) → Prop
  | .tup ts, lo, hi, k => k (cutL ts lo hi)
  | _, _, _, _ => False
theorem slt_TA {K : PySem.W.Frag} : SlT K (rSlA K) (fun a lo hi P => cutAT a lo hi fun ts => P (.val (.tup ts))) := by
  intro S H x a lo hi Q P s la h k
  cases a <;> first | exact h.elim | skip
  rename_i ts
  have lr : Rep K S (.tup ts) x := by
    rcases la with la | ⟨_, _, la⟩
    · exact la
    · cases la
  obtain ⟨p, vs, rfl, h1, h2⟩ := la.tup s
  refine ⟨p, vs, rfl, h1, fun hw => ?_, fun hw r hr => ?_⟩
  · have e : cutL ts lo hi = ts := cutL_whole (by rw [h2.len]; exact hw)
    have h' : P (.val (.tup (cutL ts lo hi))) := h
    rw [e] at h'
    exact k (.val (.tup ts)) _ _ (.inl ⟨rfl, lr⟩) h'
  · exact k (.val (.tup _)) _ _ (.inr ⟨r, _, rfl, hr, rfl, .tup upd_same ((h2.cut lo hi).mono (Same.upd_new (s.free hr)))⟩) h
local macro_rules | `(tactic| walk_at "tsr1") => `(tactic| first
  | exact q_tsr_next | exact q_ter_var _ | exact q_ter_c _ | exact q_tar_nil | exact q_tsr_retN | exact q_tsr_break | exact q_tsr_cont | exact q_tsr_never | exact q_tbr_yes | exact q_tor_none | exact q_tgsr_nil | exact q_tgr_name _ | exact q_ter_dnew | exact q_ter_dnewT | exact q_tpr_nil | exact q_ter_pop
  | exact opt_cmp | exact opt_I0 | exact opt_I | exact opt_eq | exact opt_ne | exact opt_eqD | exact opt_neD | exact opt_ixL | exact opt_ixT | exact opt_ixS | exact opt_in | exact opt_notIn | exact opt_inS | exact opt_addS | exact opt_cat | exact opt_catA | exact opt_kd | exact opt_notkd | exact opt_isN | exact opt_notN | exact opt_isB | exact opt_notB | exact unt_U
  | exact cbt_len | exact cbt_all | exact cbt_any | exact cbt_abs | exact cbt_int | exact cbt_bool | exact cbt_strI | exact cbt_strS | exact cbt_list | exact cbt_tuple | exact cbt_dict | exact cbt_isi | exact cbt_repr
  | exact m1t_split | exact m1t_partition | exact m1t_join | exact slt_L | exact slt_S | exact slt_T | exact slt_TA
  | apply q_tsr_augS use_self | apply q_tsr_augS use_pure | apply q_tsr_augS (by assumption)
  | apply q_tsr_seq | apply q_tsr_ret | apply q_tsr_if | apply q_tsr_set | apply q_tsr_dset | apply q_tsr_fld | apply q_tsr_augI | apply q_tsr_parN | apply q_tsr_par | apply q_tsr_par3 | apply q_tsr_asg | apply q_tsr_drop | apply q_tsr_for | apply q_tsr_while | (apply q_tsr_tryC; intro _) | apply q_tsr_raiseG (fun _ _ _ _ h => h)
  | apply q_tar_cons | apply q_tar_star | apply q_ter_append | apply q_ter_extend | apply q_ter_popAt
  | exact q_ter_kb | apply q_ter_tup | apply q_ter_lst | apply q_ter_disp | apply q_tpr_cons | apply q_ter_dc | apply q_ter_kget2 | apply q_ter_eqOwn | apply q_ter_neOwn | apply q_ter_opOwn | apply q_ter_unOwn | apply q_ter_strOwn | apply q_ter_lenOwn | apply q_ter_sortB | apply q_ter_sortL | apply q_ter_prop | apply q_ter_cmeth use_self | apply q_ter_cmeth use_pure | apply q_ter_cmeth (by assumption) | (apply q_ter_cmethS; rfl) | (apply q_ter_cmethX; (intro _; rfl)) | apply q_ter_makeL (fun _ => usei_self) | apply q_ter_makeL (fun _ => usei_pure) | (apply q_ter_makeLX; rfl) | apply q_ter_make usei_self | apply q_ter_make usei_pure | (apply q_ter_makeS; rfl) | apply q_ter_chain | apply q_ter_call use_self | apply q_ter_call use_pure | apply q_ter_call (by assumption) | (apply q_ter_callX; (intro _; rfl)) | (apply q_ter_makeX; (intro _; rfl)) | apply q_ter_call | apply q_ter_meth | apply q_ter_make | apply q_ter_fld | apply q_ter_sl | apply q_ter_rev | apply q_ter_m1 | apply q_ter_dget | apply q_ter_din | apply q_ter_dnotin | apply q_ter_lc | apply q_ter_andV | apply q_ter_orV | apply q_ter_notV | apply q_ter_if
  | apply q_ter_cb1 | apply q_ter_cb2 | apply q_ter_op | apply q_ter_un
  | apply q_tor_some
  | apply q_tbr_test | apply q_tbr_b | apply q_tbr_and | apply q_tbr_or | apply q_tbr_not | apply q_tbr_truth
  | apply q_tir_list | apply q_tir_tup | apply q_tir_seq | apply q_tir_str | apply q_tir_rng1 | apply q_tir_rng2 | apply q_tir_rng3 | apply q_tir_enumL | apply q_tir_enumT | apply q_tir_enumK | apply q_tir_zipL | apply q_tir_zipM
  | apply q_tgr_tup | apply q_tgr_unl | apply q_tgsr_cons
  | exact tgw_name (by simp) | exact tgm_name _ | apply tgw_tup | apply tgm_tup | exact tgsw_nil | exact tgsm_nil | apply tgsw_cons | apply tgsm_cons
  | exact fun _ => Reps.nil | assumption | exact use_self | exact use_pure | exact usei_self | exact usei_pure | exact fun _ => usei_pure | exact usex_pure | exact fun _ => usex_pure | exact useix_pure | exact fun _ => useix_pure | (intro _; assumption))
local macro_rules | `(tactic| walk_at "tsr") => `(tactic| repeat' (walk_at "tsr1"))
/-- the columns of the first names -/
def colsT (base : List (Key × Tv)) (ns : List Str) (n : Nat) : Nat → List (Key × Tv)
  | 0 => base
  | i + 1 => match ns[i]? with
    | some z => putKT (colsT base ns n i) (.inr z) (.int (colI i n))
    | none => colsT base ns n i
theorem colsT_val (base : List (Key × Tv)) (ns : List Str) (n : Nat) (nd : ns.Nodup) : ∀ i, i ≤ ns.length → ∀ z, valT (colsT base ns n i) (.inr z) = if z ∈ ns.take i then some (.int (colI (ns.idxOf z) n)) else valT base (.inr z)
  | 0, _, z => rfl
  | i + 1, hi, z => by
    have e : ns[i]? = some ns[i] := List.getElem?_eq_getElem (by omega)
    have ih := colsT_val base ns n nd i (by omega) z
    show valT (match ns[i]? with | some z => putKT (colsT base ns n i) (.inr z) (.int (colI i n)) | none => colsT base ns n i) (.inr z) = _
    rw [e]
    dsimp only
    rw [valT_put, ih, show ns.take (i + 1) = ns.take i ++ [ns[i]] by rw [List.take_add_one, e]; rfl]
    have hmem : z ∈ ns.take i ++ [ns[i]] ↔ z ∈ ns.take i ∨ z = ns[i] := by
      rw [List.mem_append, List.mem_singleton]
    by_cases h : z = ns[i]
    · rw [if_pos (by rw [h])]
      rw [if_pos (hmem.mpr (.inr h)), h]
      have : ns.idxOf ns[i] = i := List.Nodup.idxOf_getElem nd i (by omega)
      rw [this]
    · have h2 : ¬ (Sum.inr z : Key) = Sum.inr ns[i] := fun e => h (Sum.inr.inj e)
      rw [if_neg h2]
      by_cases h3 : z ∈ ns.take i
      · rw [if_pos h3, if_pos (hmem.mpr (.inl h3))]
      · rw [if_neg h3, if_neg (fun e => by rcases hmem.mp e with e | e; exact h3 e; exact h e)]
def knownI (kvs : List (Key × Bool)) (n : Nat) : List (Key × Tv) := kvs.map fun p => (p.1, Tv.int (if p.2 then evrI n else 0))
def fTable (lst : Bool) : FT := fun ts P => ∃ (S : List Step) (ns : List Str) (kvs : List (Key × Bool)) (col : Str → Int), ts = [.tup (S.map stepT), (if lst then Tv.lst (ns.map Tv.str) else Tv.tup (ns.map Tv.str)), .dct (blK kvs)] ∧ S ≠ [] ∧ S.length ≤ 1000 ∧ WfS S ∧ (∀ st ∈ S, st.2.length = arityW st.1) ∧ ns.Nodup ∧ ns.length ≤ 6 ∧
  (kvs.map Prod.fst).Nodup ∧ kvs.length ≤ 900 ∧ (∀ st ∈ S, st.1 ∉ signsV → st.1 ∉ constV → (if st.1 ∈ ns then some (Tv.int (colI (ns.idxOf st.1) ns.length)) else valT (knownI kvs ns.length) (.inr st.1)) = some (.int (col st.1))) ∧
  P (.own (.lst [.int ((foldF 0 (opW (evrI ns.length) col) S).getLastD 0)]))
section
variable {P : Program} {w : World} {K : PySem.W.Frag} {mg : Str → Option Value} {base : Heap} {a : Wf} {g : Gf} {c : Fg} {h : Hf} {IT fIT : Addr} {u : Tf} {b : Bf} {f : Addr} {fd : FuncData}
theorem ok_tableT {f1 f2 f3 : FuncData} (F : Fun K "_table" "_table" s_table f fd) (T : TxtB K w mg a g c h IT fIT u b) (G__everywhere : FnOk P w K mg base CX0 2 b.everywhere f1 ["many"] (spT K Rs.pure fEvery)) (b__everywhere : Binds K f1 ["many"] [])
    (G__column : FnOk P w K mg base CX0 2 b.column f2 ["at", "many"] (spT K Rs.pure fColumn)) (b__column : Binds K f2 ["at", "many"] []) (G__page : FnOk P w K mg base CX0 1 b.page f3 ["steps", "columns", "everywhere"] (spT K Rs.pure fPage)) (b__page : Binds K f3 ["steps", "columns", "everywhere"] []) :
    FnOk P w K mg base CX0 3 f fd ["steps", "names", "known"] (spT K Rs.pure (fTable false)) := by
  refine F.ok sc_table (spT_len fun ts P ⟨_, _, _, _, h, _⟩ => by rw [h]; rfl) (fun cdv A outer s H vs Q E hr h => ?_)
  obtain ⟨S, ts, P0, sS, hi, ho, rs, hf, k⟩ := h
  refine ⟨_, (pss_cons (ps_set (i := 3) sc_table.nd rfl (Or.inr rfl) (pe_call G__everywhere (hr.mono (by decide)) rfl T.g__everywhere T.k__everywhere b__everywhere .nil pass0 (pa_cons (pe_callB call_len (by rfl) T.b_len PySem.boot_len (pa_cons (pv 1) pa_nil)) pa_nil)))
    (pss_cons (ps_setDcL (ps_setDc (i := 4) (own := [("name", 5)]) (g := gName 5) (tt := tYes) rfl sc_table.nd rfl rfl (sw_dict rfl rfl rfl (by decide +kernel)) (pi_keys (pv 2)) (blkOk_by (N := N_table) (sc := defScope s_table) (by decide +kernel)) (fun _ _ _ _ _ => (pg_name (i := 5) sc_table.nd rfl (Or.inl rfl))) (fun _ _ _ _ _ => pts_nil) (fun _ _ _ _ _ => (pv 5)) (fun _ _ _ _ _ => (pe_ifExp (pt_truthK (K := K) rfl (pe_dget (Nat.lt_of_le_of_lt (Nat.add_le_add_left (by decide : 1 ≤ 64) _) hr.units) (pv 2) (pv 5) (fun _ _ => rfl)) (by intro _; rfl)) (pv 3) pe_int))))
    (pss_cons (ps_for PassesOwn.never rfl (pi_enumT (by rfl) T.b_enumerate (pa_cons (pe_slice sl_tupA (pv 1) po_none (po_some (pe_gi rfl T.g_PAGE_NAMES))) pa_nil)) (pg_tup rfl (pgs_cons (pg_name (i := 6) sc_table.nd rfl (Or.inl rfl)) (pgs_cons (pg_name (i := 5) sc_table.nd rfl (Or.inl rfl)) pgs_nil)))
      (pss_one (ps_asg (pe_call G__column (hr.mono (by decide)) rfl T.g__column T.k__column b__column .nil pass0 (pa_cons (pv 6) (pa_cons (pe_callB call_len (by rfl) T.b_len PySem.boot_len (pa_cons (pv 1) pa_nil)) pa_nil))) (pg_sub (pv 4) (pv 5) (set_dict (Nat.lt_of_le_of_lt (Nat.add_le_add_left (by decide : 1 ≤ 64) _) hr.units))))))
    (pss_cons (ps_set (i := 7) sc_table.nd rfl (Or.inl rfl) (pe_lst pa_nil))
    (pss_cons (ps_for PassesOwn.never rfl (pi_range1 rfl T.b_range (pa_cons (pe_op op_shl pe_int (pe_callB call_len (by rfl) T.b_len PySem.boot_len (pa_cons (pe_slice sl_tupA (pv 1) (po_some (pe_gi rfl T.g_PAGE_NAMES)) po_none) pa_nil))) pa_nil)) (pg_name (i := 8) sc_table.nd rfl (Or.inl rfl))
      (pss_cons (ps_for PassesOwn.never rfl (pi_enumT (by rfl) T.b_enumerate (pa_cons (pe_slice sl_tupA (pv 1) (po_some (pe_gi rfl T.g_PAGE_NAMES)) po_none) pa_nil)) (pg_tup rfl (pgs_cons (pg_name (i := 6) sc_table.nd rfl (Or.inl rfl)) (pgs_cons (pg_name (i := 5) sc_table.nd rfl (Or.inl rfl)) pgs_nil)))
      (pss_one (ps_asg (pe_ifExp (pt_truth (pe_op op_and (pe_op op_shr (pv 8) (pv 6)) pe_int) (by intro _; rfl)) (pv 3) pe_int) (pg_sub (pv 4) (pv 5) (set_dict (Nat.lt_of_le_of_lt (Nat.add_le_add_left (by decide : 1 ≤ 64) _) hr.units))))))
      (pss_one (ps_expr (pe_bm PySem.F.plainAttrs_list PySem.F.slot_list_append PySem.F.type_list_append mt_append (pv 7) (pa_cons (pe_call G__page (hr.mono (by decide)) rfl T.g__page T.k__page b__page .nil pass0 (pa_cons (pv 0) (pa_cons (pv 4) (pa_cons (pv 3) pa_nil)))) pa_nil))))))
    (pss_one (ps_ret (pv 7)))))))), ?_⟩
  refine fn_treeq (K := K) (R := Rs.pure) exok_pure (by walk_at "tsr") sS hi ho rs k ?_
  obtain ⟨S, ns, kvs, col, rfl, ne, hn, wf, ar, nd, h6, ndk, hk, hc, hp⟩ := hf
  refine ⟨_, rfl, by rw [List.length_map]; exact h6, ?_⟩
  refine ⟨by simp, by simp, by simp, (by show 5 < 9; decide), kvs, rfl, ndk, by omega, _, rfl, ?_⟩
  have cw : ∀ n, n ≤ 6 → HT.sIx n 0 none = 0 ∧ HT.sIx n n (some 11) = n ∧ HT.sIx n 0 (some 11) = n := fun n hn => by
    rcases seven hn with rfl | rfl | rfl | rfl | rfl | rfl | rfl <;> exact ⟨rfl, rfl, rfl⟩
  have hcut : cutL (ns.map Tv.str) none (some 11) = ns.map Tv.str := cutL_whole (by rw [List.length_map]; exact ⟨(cw _ h6).1, (cw _ h6).2.1⟩)
  have hcut2 : cutL (ns.map Tv.str) (some 11) none = [] := by
    unfold cutL
    rw [List.length_map, (cw _ h6).2.2, List.drop_of_length_le (by rw [List.length_map]; exact Nat.le_refl _)]
    simp
  have lk : ∀ i, (colsT (knownI kvs ns.length) ns ns.length i).length ≤ 900 + i := by
    intro i
    induction i with
    | zero =>
      show (kvs.map _).length ≤ _
      rw [List.length_map]
      omega
    | succ i ih =>
      show (match ns[i]? with | some z => putKT (colsT (knownI kvs ns.length) ns ns.length i) (.inr z) (.int (colI i ns.length)) | none => colsT (knownI kvs ns.length) ns ns.length i).length ≤ _
      split
      · unfold putKT
        split
        · rw [List.length_map]; omega
        · rw [List.length_append]
          show _ + 1 ≤ _
          omega
      · omega
  refine ⟨fun i τ => ∃ v5 v6 : Option Sl, τ = [some (.val (.tup (S.map stepT))), some (.val (.tup (ns.map Tv.str))), some (.val (.dct (blK kvs))), some (.val (.int (evrI ns.length))), some (.own (.dct (colsT (knownI kvs ns.length) ns ns.length i))), v5, v6, none, none], ⟨none, none, ?_⟩, ?_, ?_⟩
  · rw [List.length_map]
    rfl
  · rintro i t τ ht ⟨v5, v6, rfl⟩
    rw [hcut, enumT_get, List.getElem?_map] at ht
    cases hz : ns[i]? with
    | none => rw [hz] at ht; cases ht
    | some z =>
      rw [hz] at ht
      cases ht
      have hi2 : i < ns.length := (List.getElem?_eq_some_iff.mp hz).1
      refine ⟨rfl, i, ns.length, ?_, hi2, h6, getK_of rfl ⟨small1000 (by have := lk i; omega), ?_⟩⟩
      · show [Tv.int (0 + (i : Int)), Tv.int (((ns.map Tv.str).length : Nat) : Int)] = _
        rw [Int.zero_add, List.length_map]
      · exact ⟨_, _, by
          show _ = [_, _, _, _, some (Sl.own (Tv.dct (match ns[i]? with | some z => putKT (colsT (knownI kvs ns.length) ns ns.length i) (.inr z) (.int (colI i ns.length)) | none => colsT (knownI kvs ns.length) ns ns.length i))), _, _, _, _]
          rw [hz]
          rfl⟩
  · rintro τ ⟨v5, v6, rfl⟩
    have hle : (enumT 0 (cutL (ns.map Tv.str) none (some 11))).length = ns.length := by rw [hcut, enumT_len, List.length_map]
    have hl0 : (cutL (ns.map Tv.str) (some 11) none).length = 0 := by rw [hcut2]; rfl
    have le : ∀ {α : Type} {l : List α}, Nat.ble l.length 1000 = true → l.length ≤ sizeLine := fun h => len1000 (Nat.le_of_ble_eq_true h)
    have hv : ∀ st ∈ S, st.1 ∉ signsV → st.1 ∉ constV → valT (colsT (knownI kvs ns.length) ns ns.length (enumT 0 (cutL (ns.map Tv.str) none (some 11))).length) (.inr st.1) = some (.int (col st.1)) := fun st h1 h2 h3 => by
      rw [hle, colsT_val _ _ _ nd _ (Nat.le_refl _), List.take_length]
      exact hc st h1 h2 h3
    generalize colsT (knownI kvs ns.length) ns ns.length (enumT 0 (cutL (ns.map Tv.str) none (some 11))).length = cols at hv ⊢
    have hr1 : (rngT 0 (1 * 2 ^ (((cutL (ns.map Tv.str) (some 11) none).length : Nat) : Int).toNat : Int).toNat).length = 1 := by
      rw [hl0, rngT_len]
      rfl
    refine ⟨le rfl, ⟨by omega, by omega, by decide⟩, by rw [hl0]; decide, by rw [hl0]; decide, fun j τ => (j = 0 ∧ ∃ v5 v6 v8 : Option Sl, τ = [some (.val (.tup (S.map stepT))), some (.val (.tup (ns.map Tv.str))), some (.val (.dct (blK kvs))), some (.val (.int (evrI ns.length))), some (.own (.dct cols)), v5, v6, some (.own (.lst [])), v8]) ∨
      (j = 1 ∧ ∃ v4 v5 v6 v8 : Option Sl, τ = [some (.val (.tup (S.map stepT))), some (.val (.tup (ns.map Tv.str))), some (.val (.dct (blK kvs))), some (.val (.int (evrI ns.length))), v4, v5, v6, some (.own (.lst [.int ((foldF 0 (opW (evrI ns.length) col) S).getLastD 0)])), v8]), .inl ⟨rfl, _, _, _, rfl⟩, ?_, ?_⟩
    · rintro j t τ ht hI
      have hj := (List.getElem?_eq_some_iff.mp ht).1
      rw [hr1] at hj
      obtain rfl : j = 0 := by omega
      rcases hI with ⟨_, v5, v6, v8, rfl⟩ | ⟨z, _⟩
      · refine ⟨fun i τ => τ = [some (.val (.tup (S.map stepT))), some (.val (.tup (ns.map Tv.str))), some (.val (.dct (blK kvs))), some (.val (.int (evrI ns.length))), some (.own (.dct cols)), v5, v6, some (.own (.lst [])), some (.val t)], rfl, ?_, ?_⟩
        · rintro i t τ ht _
          rw [enumT_get, hcut2] at ht
          cases ht
        · rintro τ rfl
          refine ⟨S, cols, evrI ns.length, col, rfl, ne, hn, wf, ar, hv, ?_⟩
          exact ⟨by decide, .inr ⟨rfl, _, _, _, _, rfl⟩⟩
      · cases z
    · rintro τ hI
      rw [hr1] at hI
      rcases hI with ⟨z, _⟩ | ⟨_, v4, v5, v6, v8, rfl⟩
      · cases z
      · exact hp
end
end L2.Wk
namespace L2.Wk
open PySem PySem.Spec PyProof.Rows
local macro_rules | `(tactic| walk_at "tsr1") => `(tactic| first
  | exact q_tsr_next | exact q_ter_var _ | exact q_ter_c _ | exact q_tar_nil | exact q_tsr_retN | exact q_tsr_break | exact q_tsr_cont | exact q_tsr_never | exact q_tbr_yes | exact q_tor_none | exact q_tgsr_nil | exact q_tgr_name _ | exact q_ter_dnew | exact q_ter_dnewT | exact q_tpr_nil | exact q_ter_pop
  | exact opt_cmp | exact opt_I0 | exact opt_I | exact opt_eq | exact opt_ne | exact opt_eqD | exact opt_neD | exact opt_ixL | exact opt_ixT | exact opt_ixS | exact opt_in | exact opt_notIn | exact opt_inS | exact opt_addS | exact opt_cat | exact opt_catA | exact opt_kd | exact opt_notkd | exact opt_isN | exact opt_notN | exact opt_isB | exact opt_notB | exact unt_U
  | exact cbt_len | exact cbt_all | exact cbt_any | exact cbt_abs | exact cbt_int | exact cbt_bool | exact cbt_strI | exact cbt_strS | exact cbt_list | exact cbt_tuple | exact cbt_dict | exact cbt_isi | exact cbt_repr
  | exact m1t_split | exact m1t_partition | exact m1t_join | exact slt_L | exact slt_S | exact slt_T | exact slt_TA
  | apply q_tsr_augS use_self | apply q_tsr_augS use_pure | apply q_tsr_augS (by assumption)
  | apply q_tsr_seq | apply q_tsr_ret | apply q_tsr_if | apply q_tsr_set | apply q_tsr_dset | apply q_tsr_fld | apply q_tsr_augI | apply q_tsr_parN | apply q_tsr_par | apply q_tsr_par3 | apply q_tsr_asg | apply q_tsr_drop | apply q_tsr_for | apply q_tsr_while | (apply q_tsr_tryC; intro _) | apply q_tsr_raiseG (fun _ _ _ _ h => h)
  | apply q_tar_cons | apply q_tar_star | apply q_ter_append | apply q_ter_extend | apply q_ter_popAt
  | exact q_ter_kb | apply q_ter_tup | apply q_ter_lst | apply q_ter_disp | apply q_tpr_cons | apply q_ter_dc | apply q_ter_kget2 | apply q_ter_eqOwn | apply q_ter_neOwn | apply q_ter_opOwn | apply q_ter_unOwn | apply q_ter_strOwn | apply q_ter_lenOwn | apply q_ter_sortB | apply q_ter_sortL | apply q_ter_prop | apply q_ter_cmeth use_self | apply q_ter_cmeth use_pure | apply q_ter_cmeth (by assumption) | (apply q_ter_cmethS; rfl) | (apply q_ter_cmethX; (intro _; rfl)) | apply q_ter_makeL (fun _ => usei_self) | apply q_ter_makeL (fun _ => usei_pure) | (apply q_ter_makeLX; rfl) | apply q_ter_make usei_self | apply q_ter_make usei_pure | (apply q_ter_makeS; rfl) | apply q_ter_chain | apply q_ter_call use_self | apply q_ter_call use_pure | apply q_ter_call (by assumption) | (apply q_ter_callX; (intro _; rfl)) | (apply q_ter_makeX; (intro _; rfl)) | apply q_ter_call | apply q_ter_meth | apply q_ter_make | apply q_ter_fld | apply q_ter_sl | apply q_ter_rev | apply q_ter_m1 | apply q_ter_dget | apply q_ter_din | apply q_ter_dnotin | apply q_ter_lc | apply q_ter_andV | apply q_ter_orV | apply q_ter_notV | apply q_ter_if
  | apply q_ter_cb1 | apply q_ter_cb2 | apply q_ter_op | apply q_ter_un
  | apply q_tor_some
  | apply q_tbr_test | apply q_tbr_b | apply q_tbr_and | apply q_tbr_or | apply q_tbr_not | apply q_tbr_truth
  | apply q_tir_list | apply q_tir_tup | apply q_tir_seq | apply q_tir_str | apply q_tir_rng1 | apply q_tir_rng2 | apply q_tir_rng3 | apply q_tir_enumL | apply q_tir_enumT | apply q_tir_enumK | apply q_tir_zipL | apply q_tir_zipM
  | apply q_tgr_tup | apply q_tgr_unl | apply q_tgsr_cons
  | exact tgw_name (by simp) | exact tgm_name _ | apply tgw_tup | apply tgm_tup | exact tgsw_nil | exact tgsm_nil | apply tgsw_cons | apply tgsm_cons
  | exact fun _ => Reps.nil | assumption | exact use_self | exact use_pure | exact usei_self | exact usei_pure | exact fun _ => usei_pure | exact usex_pure | exact fun _ => usex_pure | exact useix_pure | exact fun _ => useix_pure | (intro _; assumption))
local macro_rules | `(tactic| walk_at "tsr") => `(tactic| repeat' (walk_at "tsr1"))
/-! ### the value of a formula -/
theorem blK_val (kvs : List (Key × Bool)) (k : Key) : valT (blK kvs) k = ((kvs.find? fun p => decide (p.1 = k)).map fun p => Tv.bl p.2) := by
  unfold valT blK
  induction kvs with
  | nil => rfl
  | cons p kvs ih =>
    rw [List.map_cons]
    by_cases h : p.1 = k
    · rw [List.find?_cons_of_pos (by simpa using h), List.find?_cons_of_pos (by simpa using h)]
      rfl
    · rw [List.find?_cons_of_neg (by simpa using h), List.find?_cons_of_neg (by simpa using h)]
      exact ih
theorem knownI_val (kvs : List (Key × Bool)) (n : Nat) (k : Key) : valT (knownI kvs n) k = ((kvs.find? fun p => decide (p.1 = k)).map fun p => Tv.int (if p.2 then evrI n else 0)) := by
  unfold valT knownI
  induction kvs with
  | nil => rfl
  | cons p kvs ih =>
    rw [List.map_cons]
    by_cases h : p.1 = k
    · rw [List.find?_cons_of_pos (by simpa using h), List.find?_cons_of_pos (by simpa using h)]
      rfl
    · rw [List.find?_cons_of_neg (by simpa using h), List.find?_cons_of_neg (by simpa using h)]
      exact ih
def knB (kvs : List (Key × Bool)) (z : Str) : Option Bool := (kvs.find? fun p => decide (p.1 = (Sum.inr z : Key))).map (·.2)
theorem dg_blk {kvs : List (Key × Bool)} {z : Str} {k : Option Tv → Prop} (h : k ((knB kvs z).map Tv.bl)) : dgK (.dct (blK kvs)) (.str z) k := by
  refine dgK_of ?_
  show k (valT (blK kvs) (.inr z))
  rw [blK_val]
  unfold knB at h
  rw [Option.map_map] at h
  exact h
theorem shaped_int1 (x : Int) : SeqAt.shaped (.list [.int x]) = true := by
  simp [SeqAt.shaped, PyData.canLay0, PyData.canLayAll0, PyData.depth, PyData.depthAll]
theorem eqv_int1 (x y : Int) : PyData.eqv (.list [.int x]) (.list [.int y]) = decide (x = y) := by
  simp only [PyData.eqv, PyData.eqvAll, Bool.and_true]
  rfl
/-- the page of one row -/
def pageB (kvs : List (Key × Bool)) (S : List Step) : Int := (foldF 0 (opW 1 fun z => if (knB kvs z).getD false then 1 else 0) S).getLastD 0
def fValue (C : Addr) : FT := fun ts P => ∃ (S : List Step) (ys ws : List Str) (kvs : List (Key × Bool)), ts = [.ins C (formT S ys), .dct (blK kvs)] ∧ FrmS ws S ∧ Asc ys (namesS S) ∧ S.length ≤ 1000 ∧ (kvs.map Prod.fst).Nodup ∧ kvs.length ≤ 900 ∧ (∀ z ∈ namesS S, ∃ x, knB kvs z = some x) ∧ P (.val (.bl (decide (pageB kvs S = 1))))
section
variable {P : Program} {w : World} {K : PySem.W.Frag} {mg : Str → Option Value} {base : Heap} {a : Wf} {g : Gf} {c : Fg} {h : Hf} {IT fIT : Addr} {u : Tf} {b : Bf} {f : Addr} {fd : FuncData}
theorem ok_valueT {f1 : FuncData} (F : Fun K "value" "Formula.value" s_Formula_value f fd) (T : TxtB K w mg a g c h IT fIT u b) (G__table : FnOk P w K mg base CX0 3 b.table f1 ["steps", "names", "known"] (spT K Rs.pure (fTable false))) (b__table : Binds K f1 ["steps", "names", "known"] []) :
    FnOk P w K mg base CX0 4 f fd ["self", "known"] (spT K Rs.pure (fValue c.Formula)) := by
  refine F.ok sc_Formula_value (spT_len fun ts P ⟨_, _, _, _, h, _⟩ => by rw [h]; rfl) (fun cdv A outer s H vs Q E hr h => ?_)
  obtain ⟨S, ts, P0, sS, hi, ho, rs, hf, k⟩ := h
  refine ⟨_, (pss_cons (ps_for PassesOwn.never rfl (pi_tup (pe_fld (pv 0) rfl)) (pg_name (i := 2) sc_Formula_value.nd rfl (Or.inl rfl))
      (pss_one (ps_if (pt_cmp (pc_dnotin (Nat.lt_of_le_of_lt (Nat.add_le_add_left (by decide : 1 ≤ 64) _) hr.units) (pv 2) (pv 1)) (by rfl)) (pss_one ps_never) pss_nil)))
    (pss_one (ps_ret (pe_cmpR (op_eqD hr.units) (pe_call G__table (hr.mono (by decide)) rfl T.g__table T.k__table b__table .nil pass0 (pa_cons (pe_fld (pv 0) rfl) (pa_cons (pe_tup pa_nil) (pa_cons (pv 1) pa_nil)))) (pe_lst (pa_cons pe_int pa_nil)) (nomark _))))), ?_⟩
  refine fn_treeq (K := K) (R := Rs.pure) exok_pure (by walk_at "tsr") sS hi ho rs k ?_
  obtain ⟨S, ys, ws, kvs, rfl, FS, A1, hn, nd, hk, hkn, hp⟩ := hf
  refine ⟨⟨T.cl, T.n_names⟩, getK_of rfl ⟨fun i τ => ∃ v2 : Option Sl, τ = [some (.val (.ins c.Formula (formT S ys))), some (.val (.dct (blK kvs))), v2], ⟨none, rfl⟩, ?_, ?_⟩⟩
  · rintro i t τ ht ⟨v2, rfl⟩
    rw [List.getElem?_map] at ht
    obtain ⟨z, hz, rfl⟩ := Option.map_eq_some_iff.mp ht
    obtain ⟨x, hx⟩ := hkn z ((A1.mem z).mp (List.mem_of_getElem? hz))
    refine dg_blk ?_
    rw [hx]
    exact ⟨_, rfl⟩
  · rintro τ ⟨v2, rfl⟩
    refine ⟨⟨T.cl, T.n_steps⟩, getK_of rfl ?_⟩
    refine ⟨Nat.zero_le _, S, [], kvs, fun z => if (knB kvs z).getD false then 1 else 0, rfl, FS.ne, hn, FS.pi.wf, FS.pi.ar, List.nodup_nil, by decide, nd, hk, fun st hs h1 h2 => ?_, ?_⟩
    · have hm : st.1 ∈ namesS S := (FS.names st.1).mpr ⟨FS.hd st hs, h1, h2⟩
      obtain ⟨x, hx⟩ := hkn st.1 hm
      rw [if_neg (by simp), knownI_val]
      obtain ⟨p, hp1, hp2⟩ := Option.map_eq_some_iff.mp (show (kvs.find? fun p => decide (p.1 = (Sum.inr st.1 : Key))).map (fun p => p.2) = some x from hx)
      rw [hp1]
      show some (Tv.int (if p.2 = true then evrI 0 else 0)) = some (Tv.int (if (knB kvs st.1).getD false = true then 1 else 0))
      rw [hx, hp2]
      cases x <;> rfl
    · refine ⟨(by decide : 1 ≤ sizeLine), getK_of rfl (getK_of rfl ⟨shaped_int1 _, shaped_int1 _, ?_⟩)⟩
      rw [eqv_int1]
      exact hp
end
end L2.Wk
namespace L2.Wk
open PySem PySem.Spec PyProof.Rows
/-! ### what is told of steps is told of words: from the right, with a stack -/
def pushW {α : Type} (f : Str → List α → α) (w : Str) (st : List α) : List α := f w (st.take (arityW w)) :: st.drop (arityW w)
def evW {α : Type} (f : Str → List α → α) (ws : List Str) (st : List α) : List α := ws.foldr (pushW f) st
theorem evW_app {α : Type} (f : Str → List α → α) (xs ys : List Str) (st : List α) : evW f (xs ++ ys) st = evW f xs (evW f ys st) := by
  unfold evW
  rw [List.foldr_append]
theorem foldF_pre {α : Type} (d : α) (f : Str → List α → α) (S : List Step) (i j : Nat) (hj : j < i) (hi : i ≤ S.length) : (foldF d f S).getD j d = (foldF d f (S.take i)).getD j d := by
  have q : ∀ n, i + n ≤ S.length → (foldF d f (S.take (i + n))).getD j d = (foldF d f (S.take i)).getD j d := by
    intro n
    induction n with
    | zero => intro _; rfl
    | succ n ih =>
      intro h
      have e : S[i + n]? = some S[i + n] := List.getElem?_eq_getElem (by omega)
      rw [show i + (n + 1) = (i + n) + 1 by omega, foldF_take d f S (i + n) _ e, getD_pre (by rw [foldF_len, List.length_take]; omega)]
      exact ih (by omega)
  have := q (S.length - i) (by omega)
  rw [show i + (S.length - i) = S.length by omega, List.take_length] at this
  exact this
theorem foldF_at {α : Type} (d : α) (f : Str → List α → α) {S : List Step} {i : Nat} {st : Step} (wf : WfS S) (h : S[i]? = some st) : (foldF d f S).getD i d = f st.1 (st.2.map fun j => (foldF d f S).getD j d) := by
  have hi : i < S.length := (List.getElem?_eq_some_iff.mp h).1
  rw [foldF_pre d f S (i + 1) i (by omega) hi, foldF_take d f S i st h]
  have e : (foldF d f (S.take i)).length = i := by rw [foldF_len, List.length_take]; omega
  rw [List.getD_eq_getElem?_getD, List.getElem?_append_right (by omega), e, Nat.sub_self]
  show f st.1 _ = f st.1 _
  congr 1
  exact List.map_congr_left fun j hj => (foldF_pre d f S i j (wf i st h j hj) (by omega)).symm
theorem ev_words {α : Type} (d : α) (f : Str → List α → α) {S : List Step} (wf : WfS S) (ar : ∀ st ∈ S, st.2.length = arityW st.1) : ∀ i, i < S.length → ∀ rest, evW f ((wordsL S).getD i []) rest = (foldF d f S).getD i d :: rest := by
  intro i
  induction i using Nat.strongRecOn with
  | _ i ih =>
    intro hi rest
    have h : S[i]? = some S[i] := List.getElem?_eq_getElem hi
    have har := ar _ (List.mem_of_getElem? h)
    have hw := wf i _ h
    rw [words_at wf h, foldF_at d f wf h]
    generalize S[i] = st at *
    obtain ⟨w, args⟩ := st
    dsimp only at har hw ⊢
    have q : ∀ l : List Nat, (∀ j ∈ l, j < i) → evW f (l.flatMap fun j => (wordsL S).getD j []) rest = (l.map fun j => (foldF d f S).getD j d) ++ rest := by
      intro l
      induction l with
      | nil => intro _; rfl
      | cons a l ihl =>
        intro hl
        rw [List.flatMap_cons, evW_app, ihl fun j hj => hl j (List.mem_cons_of_mem _ hj)]
        rw [ih a (hl a (List.mem_cons_self ..)) (Nat.lt_trans (hl a (List.mem_cons_self ..)) hi)]
        rfl
    show pushW f w (evW f (args.flatMap fun j => (wordsL S).getD j []) rest) = _
    rw [q args hw]
    unfold pushW
    have hl : (args.map fun j => (foldF d f S).getD j d).length = arityW w := by rw [List.length_map, har]
    rw [← hl, List.take_left, List.drop_left]
/-- the last step's: that of the words -/
theorem frm_ev {α : Type} (d : α) (f : Str → List α → α) {ws : List Str} {S : List Step} (F : FrmS ws S) : evW f ws [] = [(foldF d f S).getLastD d] := by
  have pos := F.pos
  have h := ev_words d f F.pi.wf F.pi.ar (S.length - 1) (by omega) []
  rw [getD_getLast F.ne, F.last] at h
  rw [h]
  congr 1
  have l := foldF_len d f S
  rcases List.eq_nil_or_concat (foldF d f S) with e | ⟨m, z, e⟩
  · rw [e] at l
    simp at l
    omega
  · rw [e, List.concat_eq_append] at l ⊢
    rw [List.getLastD_concat, List.getD_eq_getElem?_getD]
    have : m.length = S.length - 1 := by simp at l; omega
    rw [← this, List.getElem?_append_right (Nat.le_refl _), Nat.sub_self]
    rfl
end L2.Wk
namespace L2.Wk
open PySem PySem.Spec PyProof.Rows
abbrev s_law_shuffled : Stmt := top 35
abbrev N_law_shuffled : List Str := ["_law_deal", "_law_some", "_law_rest", "_law_found", "_law_turn"]
theorem sc_law_shuffled : FnScope N_law_shuffled ["_law_deal", "_law_some"] (defScope s_law_shuffled) := ⟨rfl, rfl, rfl, by decide +kernel, rfl, by decide +kernel, by decide +kernel⟩
abbrev s_law_words : Stmt := top 36
abbrev N_law_words : List Str := ["_law_deal", "_law_many", "_law_some"]
theorem sc_law_words : FnScope N_law_words ["_law_deal", "_law_many"] (defScope s_law_words) := ⟨rfl, rfl, rfl, by decide +kernel, rfl, by decide +kernel, by decide +kernel⟩
theorem DealA.nd {d l p : Addr} {H : Hp} (D : DealA H d l) (h : H p = none) : p ≠ d := by
  obtain ⟨cs, b, h1, h2, _⟩ := D.ex
  exact (ne_of_none h1 h).symm
theorem DealA.nl {d l p : Addr} {H : Hp} (D : DealA H d l) (h : H p = none) : p ≠ l := by
  obtain ⟨cs, b, h1, h2, _⟩ := D.ex
  exact (ne_of_none h2 h).symm
theorem DealA.upd {d l p : Addr} {H : Hp} {o : HO} (D : DealA H d l) (h1 : p ≠ d) (h2 : p ≠ l) : DealA (upd H p o) d l := by
  obtain ⟨cs, b, e1, e2, h⟩ := D.ex
  exact ⟨cs, b, by rw [upd_ne h1.symm]; exact e1, by rw [upd_ne h2.symm]; exact e2, h⟩
theorem lay_strs {zs : List Str} (h : ∀ z ∈ zs, PyData.strOk z = true) : PyData.canLayAll0 (zs.map PyData.str) = true ∧ PyData.depthAll (zs.map PyData.str) = 0 := by
  induction zs with
  | nil => exact ⟨by simp [PyData.canLayAll0], by simp [PyData.depthAll]⟩
  | cons z zs ih =>
    obtain ⟨i1, i2⟩ := ih fun y hy => h y (List.mem_cons_of_mem _ hy)
    have hz := h z (List.mem_cons_self ..)
    rw [List.map_cons]
    exact ⟨by simp [PyData.canLayAll0, PyData.canLay0, hz, i1], by simp [PyData.depthAll, PyData.depth, i2]⟩
theorem shaped_strs {zs : List Str} (h : ∀ z ∈ zs, PyData.strOk z = true) : SeqAt.shaped (.list (zs.map PyData.str)) = true := by
  obtain ⟨h1, h2⟩ := lay_strs h
  unfold SeqAt.shaped
  simp [PyData.canLay0, PyData.depth, h1, h2]
theorem seq_ix {j n : Nat} (h : j < n) : seqIndex? (j : Int) n = some j := by
  unfold seqIndex?
  have h1 : ¬ ((j : Int) < 0) := by omega
  have h2 : (j : Int) < (n : Int) := by omega
  simp [h1, h2]
  try omega
theorem map_erase {α β : Type} (f : α → β) : ∀ (l : List α) (j : Nat), (l.map f).eraseIdx j = (l.eraseIdx j).map f
  | [], _ => rfl
  | _ :: _, 0 => rfl
  | a :: l, j + 1 => by
    rw [List.map_cons, List.eraseIdx_cons_succ, List.eraseIdx_cons_succ, List.map_cons, map_erase f l j]
theorem dp_strs {K : PySem.W.Frag} {H : Hp} : ∀ zs : List Str, DpAll K H (zs.map V.str) (zs.map PyData.str)
  | [] => .nil
  | z :: zs => .cons (.str z) (dp_strs zs)
/-- (a, b) != (c, d), texts -/
structure Ls where
  draw : Addr
  shuffled : Addr
structure TxtSh (K : PySem.W.Frag) (mg : Str → Option Value) (ls : Ls) : Prop where
  b_len : mg "len" = none
  b_list : mg "list" = none
  b_range : mg "range" = none
  g__law_draw : mg "_law_draw" = some (.ref ls.draw)
  k__law_draw : PySem.W.keepIn K (.ref ls.draw) = true
  g__law_shuffled : mg "_law_shuffled" = some (.ref ls.shuffled)
  k__law_shuffled : PySem.W.keepIn K (.ref ls.shuffled) = true
def spShuf : Sp := fun vs H Q _ => ∃ (d l s : Addr) (zs : List Str), vs = [.ref d, .ref s] ∧ DealA H d l ∧ H s = some (.lst (zs.map V.str)) ∧ zs.length ≤ 1000 ∧
  ∀ (p : Addr) (ys : List Str) (H' : Hp), H p = none → H' p = some (.lst (ys.map V.str)) → ys.length = zs.length → (∀ y ∈ ys, y ∈ zs) → DealA H' d l → Keep d l H H' → Q (.ref p) H'
def poolW : List Str := txts ["x", "y", "z", "a", "ab", "abc", "b", "cut", "save", "load", "open", "run", "bit", "of", "to", "off", "zzzz"]
def spWordsN : Sp := fun vs H Q _ => ∃ (d l : Addr) (n : Nat), vs = [.ref d, .int (n : Nat)] ∧ DealA H d l ∧ n ≤ 17 ∧ ∀ (p : Addr) (ys : List Str) (H' : Hp), H p = none → H' p = some (.lst (ys.map V.str)) → ys.length = n → (∀ y ∈ ys, y ∈ poolW) → DealA H' d l → Keep d l H H' → Q (.ref p) H'
section
variable {P : Program} {w : World} {K : PySem.W.Frag} {mg : Str → Option Value} {base : Heap} {ls : Ls} {f : Addr} {fd : FuncData}
theorem ok_shuffled {f1 : FuncData} (F : Fun K "_law_shuffled" "_law_shuffled" s_law_shuffled f fd) (T : TxtSh K mg ls) (G__law_draw : FnOk P w K mg base CX0 1 ls.draw f1 ["_law_deal", "_law_wide"] spDrawA) (b__law_draw : Binds K f1 ["_law_deal", "_law_wide"] []) :
    FnOk P w K mg base CX0 2 f fd ["_law_deal", "_law_some"] spShuf := by
  refine F.ok sc_law_shuffled (fun vs H Q E h => ?_) (fun cdv A outer s H vs Q E hr h => ?_)
  · obtain ⟨_, _, _, _, rfl, _⟩ := h
    rfl
  · obtain ⟨d, l, sa, zs, rfl, D, hs, hlen, k⟩ := h
    refine ⟨_, (pss_cons (ps_par (i := 2) (j := 3) rfl sc_law_shuffled.nd rfl rfl (by decide) rfl rfl (pa_cons (pe_callTy call_list_of (by rfl) T.b_list (by decide +kernel) (pa_cons (pv 1) pa_nil)) (pa_cons (pe_lst pa_nil) pa_nil)) rfl)
    (pss_cons (ps_for PassesOwn.never rfl (pi_range1 rfl T.b_range (pa_cons (pe_callB call_len (by rfl) T.b_len PySem.boot_len (pa_cons (pv 2) pa_nil)) pa_nil)) (pg_name (i := 4) sc_law_shuffled.nd rfl (Or.inl rfl))
      (pss_one (ps_expr (pe_bm PySem.F.plainAttrs_list PySem.F.slot_list_append PySem.F.type_list_append mt_append (pv 3) (pa_cons (pe_bm PySem.F.plainAttrs_list PySem.F.slot_list_pop PySem.F.type_list_pop mt_popAt (pv 2) (pa_cons (pe_call G__law_draw (hr.mono (by decide)) rfl T.g__law_draw T.k__law_draw b__law_draw .nil pass0 (pa_cons (pv 0) (pa_cons (pe_callB call_len (by rfl) T.b_len PySem.boot_len (pa_cons (pv 2) pa_nil)) pa_nil))) pa_nil)) pa_nil)))))
    (pss_one (ps_ret (pv 3))))), ?_⟩
    refine ⟨_, rfl, _, _, rfl, .inl (.inl (.inl hs)), fun L hL => ⟨by decide, fun FF hF => ⟨_, _, rfl, ?_⟩⟩⟩
    have nLF : L ≠ FF := ne_of_none upd_same hF
    have hF0 : H FF = none := by
      rw [upd_ne nLF.symm] at hF
      exact hF
    have sm : Same H (upd (upd H L (.lst (zs.map V.str))) FF (.lst [])) := (Same.upd_new hL).trans (Same.upd_new hF)
    have dL := D.nd hL
    have lL := D.nl hL
    have dF := D.nd hF0
    have lF := D.nl hF0
    have h1 : (upd (upd H L (.lst (zs.map V.str))) FF (.lst [])) L = some (.lst (zs.map V.str)) := by rw [upd_ne nLF]; exact upd_same
    refine ⟨_, rfl, _, zs.length, rfl, .inl ⟨_, .inl (.inl h1), (by rw [List.length_map])⟩, _, rfl, by omega, by omega, ?_⟩
    refine for_range (lo := 0) (n := zs.length) (fun i σ H' => ∃ (v4 : Option V) (xs ys : List Str), σ = [some (.ref d), some (.ref sa), some (.ref L), some (.ref FF), v4] ∧ H' L = some (.lst (xs.map V.str)) ∧ H' FF = some (.lst (ys.map V.str)) ∧
      (∀ x ∈ xs, x ∈ zs) ∧ (∀ y ∈ ys, y ∈ zs) ∧ ys.length = i ∧ xs.length + i = zs.length ∧ DealA H' d l ∧ Keep d l H H') ⟨_, zs, [], rfl, h1, upd_same, (fun _ h => h), (fun _ h => by cases h), rfl, rfl, D.same sm, Keep.same sm⟩ ?_ ?_
    · rintro i σ H1 hi ⟨v4, xs, ys, rfl, h1, h2, x1, y1, l1, l2, D1, kp⟩
      have hpos : 0 < xs.length := by omega
      refine ⟨_, rfl, .inl ⟨rfl, _, .inl (.inl h2)⟩, _, rfl, .inl ⟨rfl, _, .inl (.inl h1)⟩, _, rfl, _, rfl, _, xs.length, rfl, .inl ⟨_, .inl (.inl h1), by rw [List.length_map]⟩, d, l, _, rfl, D1, by omega, by omega, fun r H3 r0 r1 D3 kp3 => ?_⟩
      obtain ⟨j, rfl⟩ := Int.eq_ofNat_of_zero_le r0
      have hj : j < xs.length := by omega
      have h13 := kp3 _ _ h1 dL lL
      have h23 := kp3 _ _ h2 dF lF
      refine ⟨L, _, (j : Int), j, V.str xs[j], rfl, rfl, h13, by omega, by omega, ?_, ?_, ?_⟩
      · rw [List.length_map]
        exact seq_ix hj
      · rw [List.getElem?_map, List.getElem?_eq_getElem hj]
        rfl
      refine ⟨FF, ys.map V.str, _, rfl, rfl, (by rw [upd_ne nLF.symm]; exact h23), ?_, _, xs.eraseIdx j, ys ++ [xs[j]], rfl, ?_, ?_, ?_, ?_, ?_, ?_, ?_, ?_⟩
      · rw [List.length_map]
        exact small1000 (by omega)
      · rw [upd_ne nLF, upd_same, map_erase]
      · rw [List.map_append]
        exact upd_same
      · intro x hx
        exact x1 x (List.mem_of_mem_eraseIdx hx)
      · intro y hy
        rcases List.mem_append.mp hy with hy | hy
        · exact y1 y hy
        · rw [List.mem_singleton.mp hy]
          exact x1 _ (List.getElem_mem hj)
      · rw [List.length_append]
        simp only [List.length_cons, List.length_nil]
        omega
      · rw [List.length_eraseIdx_of_lt hj]
        omega
      · exact (D3.upd dL lL).upd dF lF
      · exact fun b o e q1 q2 => by
          rw [upd_ne (ne_of_none e hF0), upd_ne (ne_of_none e hL)]
          exact (kp.trans kp3) b o e q1 q2
    · rintro σ H1 ⟨v4, xs, ys, rfl, h1, h2, x1, y1, l1, l2, D1, kp⟩
      exact ⟨_, rfl, k FF ys H1 hF0 h2 l1 y1 D1 kp⟩
theorem ok_wordsN {f1 : FuncData} (F : Fun K "_law_words" "_law_words" s_law_words f fd) (T : TxtSh K mg ls) (G__law_shuffled : FnOk P w K mg base CX0 2 ls.shuffled f1 ["_law_deal", "_law_some"] spShuf) (b__law_shuffled : Binds K f1 ["_law_deal", "_law_some"] []) :
    FnOk P w K mg base CX0 3 f fd ["_law_deal", "_law_many"] spWordsN := by
  refine F.ok sc_law_words (fun vs H Q E h => ?_) (fun cdv A outer s H vs Q E hr h => ?_)
  · obtain ⟨_, _, _, rfl, _⟩ := h
    rfl
  · obtain ⟨d, l, n, rfl, D, hn, k⟩ := h
    refine ⟨_, (pss_cons (ps_set (i := 2) sc_law_words.nd rfl (Or.inl rfl) (pe_lst (pa_cons pe_str (pa_cons pe_str (pa_cons pe_str (pa_cons pe_str (pa_cons pe_str (pa_cons pe_str (pa_cons pe_str (pa_cons pe_str (pa_cons pe_str (pa_cons pe_str (pa_cons pe_str (pa_cons pe_str pa_nil))))))))))))))
    (pss_one (ps_ret (pe_slice sl_list (pe_call G__law_shuffled (hr.mono (by decide)) rfl T.g__law_shuffled T.k__law_shuffled b__law_shuffled .nil pass0 (pa_cons (pv 0) (pa_cons (pe_op op_cat (pv 2) (pe_lst (pa_cons pe_str (pa_cons pe_str (pa_cons pe_str (pa_cons pe_str (pa_cons pe_str pa_nil))))))) pa_nil))) po_none (po_some (pv 1)))))), ?_⟩
    refine ⟨(by show 12 ≤ sizeLine; decide), fun l1 hl1 => ?_⟩
    have s1 := Same.upd_new (o := .lst ((txts ["x", "y", "z", "a", "ab", "abc", "b", "cut", "save", "load", "open", "run"]).map V.str)) hl1
    have d1 := D.nd hl1
    refine ⟨_, rfl, _, rfl, (by show 5 ≤ sizeLine; decide), fun l2 hl2 => ?_⟩
    have s2 := s1.trans (Same.upd_new (o := .lst ((txts ["bit", "of", "to", "off", "zzzz"]).map V.str)) hl2)
    have ne2 : l1 ≠ l2 := ne_of_none upd_same hl2
    refine ⟨l1, l2, _, _, rfl, rfl, (by rw [upd_ne ne2]; exact upd_same), upd_same, (by show 17 ≤ sizeLine; decide), fun l3 hl3 => ?_⟩
    have s3 := s2.trans (Same.upd_new (o := .lst (poolW.map V.str)) hl3)
    refine ⟨d, l, l3, poolW, rfl, D.same s3, upd_same, (by decide), fun p ys H1 hp h1 l4 m4 D1 kp => ?_⟩
    have hpH : H p = none := s3.free hp
    refine ⟨_, rfl, _, rfl, p, _, rfl, .inl (.inl h1), fun q hq => ?_⟩
    rw [cut_to, ← List.map_take]
    have q1 : H1 q = none := hq
    have hqH : H q = none := by
      cases e : H q with
      | none => rfl
      | some o =>
        have := kp q o (s3 _ _ e) (D1.nd q1) (D1.nl q1)
        rw [q1] at this
        cases this
    refine k q (ys.take n) _ hqH upd_same ?_ (fun y hy => m4 y (List.mem_of_mem_take hy)) (D1.same (Same.upd_new q1)) fun b o e n1 n2 => ?_
    · rw [List.length_take, l4]
      have : poolW.length = 17 := rfl
      omega
    · rw [upd_ne (ne_of_none e hqH)]
      exact kp b o (s3 _ _ e) n1 n2
end
end L2.Wk
namespace L2.Wk
open PySem PySem.Spec PyProof.Rows
/-! ### ints compared, told by the answer -/
structure cmpS (f : Int → Int → Bool) (a b : Tv) (k : Bool → Prop) : Prop where
  un : i2 a b fun i j => k (f i j)
theorem cmpS_of {f : Int → Int → Bool} {i j : Int} {k : Bool → Prop} (h : k (f i j)) : cmpS f (.int i) (.int j) k := ⟨h⟩
theorem cmpS_t {f : Int → Int → Bool} {i j : Int} {k : Bool → Prop} (e : f i j = true) (h : k true) : cmpS f (.int i) (.int j) k := ⟨by show k (f i j); rw [e]; exact h⟩
theorem cmpS_f {f : Int → Int → Bool} {i j : Int} {k : Bool → Prop} (e : f i j = false) (h : k false) : cmpS f (.int i) (.int j) k := ⟨by show k (f i j); rw [e]; exact h⟩
theorem opt_cmp {K : PySem.W.Frag} {f : Int → Int → Bool} : OpT K (rI0 fun i j => V.bl (f i j)) (fun a b P => cmpS f a b fun c => P (.val (.bl c))) := by
  intro S H x y a b Q P s la lb h k
  obtain ⟨i, j, rfl, rfl, q⟩ := i2_at h.un
  exact ⟨i, j, la.tV rfl, lb.tV rfl, k (.val (.bl _)) _ _ (.inl ⟨rfl, .bl _⟩) q⟩
theorem fewL {α : Type} {l : List α} (h : Nat.ble l.length 1000 = true) : l.length ≤ sizeLine := Nat.le_trans (Nat.le_of_ble_eq_true h) (by decide)
theorem eqS_t {x y : Tv} {k : Bool → Prop} (e : eqS x y fun b => b = true) (h : k true) : eqS x y k := by
  refine eqS_of ?_
  have e := e.un
  cases x <;> cases y <;> first | exact e.elim | (simp only [eqS0] at e ⊢; first | (rw [e]; exact h) | exact h | cases e)
theorem eqS_f {x y : Tv} {k : Bool → Prop} (e : eqS x y fun b => b = false) (h : k false) : eqS x y k := by
  refine eqS_of ?_
  have e := e.un
  cases x <;> cases y <;> first | exact e.elim | (simp only [eqS0] at e ⊢; first | (rw [e]; exact h) | exact h | cases e)
/-! ### what is one's own may be handed back shared -/
@[reducible] def asV : Rv → Rv
  | .own t => .val t
  | r => r
theorem ret_val {K : PySem.W.Frag} {R : Rs} {S H : Hp} {Q : VK} {P : Rv → Prop} (hi : R.I S H) (k : ∀ r v S' H', Aft R S H S' H' → RetOk K H S' H' r v → P r → Q v H') :
    ∀ r v S' H', Aft R S H S' H' → RetOk K H S' H' r v → P (asV r) → Q v H' := by
  intro r v S' H' A h p
  cases r with
  | val t => exact k (.val t) v S' H' A h p
  | brw i => exact h.elim
  | own t =>
    obtain ⟨a, rfl, h1, h2, ow⟩ := h
    obtain ⟨o, ho⟩ := ow.some
    have s : Same S' (upd S' a o) := Same.upd_new h1
    have hM : ¬ R.M a := fun m => by
      obtain ⟨u, e⟩ := R.alloc hi m
      rw [h2] at e
      cases e
    refine k (.val t) (.ref a) (upd S' a o) H' ⟨A.sS.trans s, fun b u e => ?_, A.fr, fun b hb => ?_, R.mono s (fun _ _ => rfl) A.res, fun b m => ?_⟩ (ow.rep s fun u e => by rw [ho] at e; cases e; exact upd_same) p
    · rcases upd_all e with ⟨rfl, rfl⟩ | ⟨_, e⟩
      · exact ho
      · exact A.sH _ _ e
    · by_cases e : b = a
      · exact .inr (e ▸ h2)
      · rw [upd_ne e] at hb
        exact A.nw b hb
    · rw [upd_ne fun e : b = a => hM (e ▸ m)]
      exact A.off b m
/-! ### xs[i] op= e, by an own operator -/
def rGetL : V → V → Hp → VK → Prop := fun x y H Q => ∃ p xs i v, x = .ref p ∧ y = .int i ∧ H p = some (.lst xs) ∧ 0 ≤ i ∧ i < 1000 ∧ xs[i.toNat]? = some v ∧ Q v H
theorem pget_list {X : Cx} : PGet X rGetL := by
  intro pins s σ H x y v u Q I rx ry h
  obtain ⟨p, xs, i, z, rfl, rfl, hq, h0, h1, he, q⟩ := h
  cases rx
  obtain ⟨t, rfl⟩ := ry
  obtain ⟨its, r, pl, hz⟩ := I.list (.inl (.inl hq))
  obtain ⟨w, ew, rw'⟩ := r.get he
  exact getItem_listL pl.isList h0 (by omega) ew ⟨z, H, I, rw', q⟩
section
variable {F : Fr}
def gAugS (i : Nat) (c : Int) (j : Nat) (C : Addr) (f : FT) : TTS := fun τ D => 0 ≤ c ∧ c < 1000 ∧ ownK τ i fun t => lstK t fun ts => getK ts[c.toNat]? fun a => slotV τ j False fun b => match a, b with
  | .ins C1 fs, .ins C2 gs => C1 = C ∧ C2 = C ∧ f [.ins C1 fs, .ins C2 gs] fun r => sharR r τ fun t τ1 => ownK τ1 i fun t' => lstK t' fun ts' => c.toNat < ts'.length ∧ D.nx (τ1.set i (some (.own (.lst (ts'.set c.toNat t)))))
  | _, _ => False
theorem tsr_augS {i j : Nat} {c : Int} {C : Addr} {sp : Sp} {E : XK} {f : FT} (u : UseT F.K F.R sp E f) : TSr F (tAugS (tVar i) (tC (.int c)) (tVar j) rGetL (rAddOwn C sp E) L2.rSetL) (gAugS i c j C f) := fun σ τ S H D DD Ev q e => by
  obtain ⟨c0, c1, q⟩ := q
  obtain ⟨t, e1, q⟩ := ownK_at q
  obtain ⟨ts, rfl, q⟩ := lstK_at q
  obtain ⟨a, e2, q⟩ := getK_at q
  rcases slotV_at q with ⟨_, _, _, _, z⟩ | ⟨b, e3, q⟩
  · exact z.elim
  obtain ⟨p, vs, h1, h2, h3⟩ := Ev.ownL e1
  obtain ⟨va, h4, ra⟩ := h3.getT e2
  obtain ⟨vb, h5, rb⟩ := Ev.sl j _ e3
  have rb : Rep F.K S b vb := rb
  refine ⟨_, h1, p, vs, c, va, rfl, rfl, h2, c0, c1, h4, vb, h5, ?_⟩
  cases a <;> cases b <;> first | exact (show False from q).elim | skip
  obtain ⟨rfl, rfl, q⟩ : _ ∧ _ ∧ _ := q
  cases ra with
  | ins h6 e6 r6 => cases rb with
    | ins h7 e7 r7 =>
      refine ⟨_, _, _, _, _, _, rfl, rfl, Ev.sH _ _ h6, Ev.sH _ _ h7, ?_⟩
      refine u S H _ _ _ _ Ev.sH Ev.res Ev.off (.cons (.ins h6 e6 r6) (.cons (.ins h7 e7 r7) .nil)) q fun r v S5 H5 A hr hp => ?_
      have E5 := Ev.aft A
      obtain ⟨t, τ1, S6, s6, E6, rp, q6⟩ := E5.shar (Ev.ret A hr) hp
      obtain ⟨t', e8, q6⟩ := ownK_at q6
      obtain ⟨ts', rfl, q6, q7⟩ := lstK_at q6
      obtain ⟨p', vs', h8, h9, h10⟩ := E6.ownL e8
      rw [h1] at h8
      cases h8
      have hl : c.toNat < vs'.length := by rw [← h10.len]; exact q6
      refine ⟨p, vs', c, c.toNat, rfl, rfl, h9, ?_, ?_⟩
      · unfold ixN
        rw [if_pos c0, if_pos (by omega)]
      · exact e.nx _ _ S6 _ (A.sS.trans s6) (E6.mut e8 h1 (.lst upd_same (h10.set _ rp))) q7
end
theorem q_tsr_augS {K : PySem.W.Frag} {R : Rs} {i j : Nat} {c : Int} {C : Addr} {sp : Sp} {E : XK} {f : FT} (u : UseT K R sp E f) : TSrq K R (tAugS (tVar i) (tC (.int c)) (tVar j) rGetL (rAddOwn C sp E) L2.rSetL) (gAugS i c j C f) := fun H0 S0 => tsr_augS (F := ⟨K, R, H0, S0⟩) u
/-! ### a law's def, called where no repr is under way -/
theorem okG {P : Program} {w : World} {K : PySem.W.Frag} {mg : Str → Option Value} {base : Heap} {x qual : Str} {st : Stmt} {f : Addr} {fd : FuncData} {N ps : List Str} {k : Nat} {sp : Sp} (F : Fun K x qual st f fd) (S : FnScope N ps (defScope st)) (len : ∀ vs H Q E, sp vs H Q E → vs.length = ps.length)
    (hbody : ∀ (cdv : Value) (A : Around) (outer : List Env) (s : Shared) (H : Hp) (vs : List V) (Q : VK) (E : XK), A.guards = some [] → Room k (A.deeper (envOfC qual (defScope st) s.heap.objs.size f cdv)) → sp vs H Q E →
      ∃ t, PSs (cxOf CX0 P w K mg base N qual (defScope st) f cdv A outer s H E).nox (defBody st) t ∧ t { nx := fun _ H' => Q .non H', rt := Q } (start N vs) H) : FnG P w K mg base CX0 (k + 1) f fd ps sp := by
  obtain ⟨oc, od, kV, doc, pm, an, cdv, ct, osl, rfl, lk, hcd⟩ := F.ex
  refine fnG_of lk hcd S len fun A outer s H vs Q E hA hr hsp => ?_
  obtain ⟨t, h, q⟩ := hbody cdv A outer s H vs Q E hA hr hsp
  exact ⟨t, h.nox, q⟩
theorem eqS_same {x : Str} {k : Bool → Prop} (h : k true) : eqS (.str x) (.str x) k := eqS_str (by rw [decide_eq_true rfl]; exact h)
theorem eqS_sameS {x y : Str} {k : Bool → Prop} (e : x = y) (h : k true) : eqS (.str x) (.str y) k := eqS_str (by rw [decide_eq_true e]; exact h)
theorem eqS_sameB {x y : Bool} {k : Bool → Prop} (e : x = y) (h : k true) : eqS (.bl x) (.bl y) k := eqS_bl (by rw [decide_eq_true e]; exact h)
end L2.Wk
namespace L2.Wk
open PySem PySem.Spec PyProof.Rows
/-! ### the deal of the laws, as a resource of the tree layer -/
def dealR (d l : Addr) : Rs :=
  { M := fun b => b = d ∨ b = l, I := fun _ H => DealA H d l
    mono := fun {S S' H H'} _ e D => by
      obtain ⟨cs, b, h1, h2, h⟩ := D.ex
      exact ⟨cs, b, by rw [e d (.inl rfl)]; exact h1, by rw [e l (.inr rfl)]; exact h2, h⟩
    alloc := fun {S H b} D m => by
      obtain ⟨cs, c, h1, h2, h⟩ := D.ex
      rcases m with rfl | rfl
      · exact ⟨_, h1⟩
      · exact ⟨_, h2⟩ }
theorem exok_deal {K : PySem.W.Frag} {d l : Addr} {H S : Hp} : ExOk ⟨K, dealR d l, H, S⟩ := exok_calm fun _ _ _ _ z => z
def spD (K : PySem.W.Frag) (f : Addr → FT) : Sp := fun vs H Q E => ∃ d l, spT K (dealR d l) (f d) vs H Q E
section
variable {K : PySem.W.Frag} {d l : Addr} {S H H' : Hp} {E : XK}
theorem aft_keep (s : Same S H) (o : ∀ b, (dealR d l).M b → S b = none) (D : DealA H' d l) (k : Keep d l H H') : Aft (dealR d l) S H S H' := by
  refine ⟨Same.refl S, fun b u e => k b u (s b u e) (fun z => ?_) (fun z => ?_), fun b u e m => k b u e (fun z => m (.inl z)) (fun z => m (.inr z)), fun b h => .inl h, D, o⟩
  · rw [o b (.inl z)] at e; cases e
  · rw [o b (.inr z)] at e; cases e
theorem use_deal {f : Addr → FT} : UseT K (dealR d l) (spD K f) E (f d) := fun S H ts vs Q P s i o r h k => ⟨d, l, use_self (E := E) S H ts vs Q P s i o r h k⟩
theorem spD_len {f : Addr → FT} {ps : List Str} (h : ∀ d ts P, f d ts P → ts.length = ps.length) : ∀ vs H Q (E : XK), spD K f vs H Q E → vs.length = ps.length := fun vs H Q E ⟨d, l, q⟩ => spT_len (h d) vs H Q E q
theorem Same.none {p : Addr} (s : Same S H) (h : H p = none) : S p = none := by
  cases e : S p with
  | none => rfl
  | some o => rw [s p o e] at h; cases h
def fDraw (d : Addr) : FT := fun ts P => ∃ n : Int, ts = [.adr d, .int n] ∧ 0 < n ∧ n ≤ 1000 ∧ ∀ r : Int, 0 ≤ r → r < n → P (.val (.int r))
theorem use_draw : UseT K (dealR d l) spDrawA E (fDraw d) := fun S H ts vs Q P s i o r h k => by
  obtain ⟨n, rfl, h1, h2, hp⟩ := h
  cases r with
  | cons ra r =>
    cases ra
    cases r with
    | cons rb r =>
      cases rb
      cases r
      exact ⟨d, l, n, rfl, i, h1, h2, fun x H' x0 x1 D' kp => k (.val (.int x)) _ S H' (aft_keep s o D' kp) (.int x) (hp x x0 x1)⟩
def fPick (d : Addr) : FT := fun ts P => ∃ us : List Tv, ts = [.adr d, .lst us] ∧ us ≠ [] ∧ us.length ≤ 1000 ∧ ∀ t, t ∈ us → P (.val t)
theorem use_pick : UseT K (dealR d l) (spPickA K) E (fPick d) := fun S H ts vs Q P s i o r h k => by
  obtain ⟨us, rfl, h1, h2, hp⟩ := h
  cases r with
  | cons ra r =>
    cases ra
    cases r with
    | cons rb r =>
      cases r
      cases rb with
      | lst ha rs =>
        rename_i a ws
        refine ⟨d, l, a, ws, rfl, i, s _ _ ha, (fun z => ?_), (fun z => ?_), (fun z => ?_), by rw [← rs.len]; exact h2, fun v H' hv D' kp => ?_⟩
        · rw [z, o d (.inl rfl)] at ha; cases ha
        · rw [z, o l (.inr rfl)] at ha; cases ha
        · subst z
          have := rs.len
          exact h1 (List.length_eq_zero_iff.mp this)
        · obtain ⟨n, hn⟩ := List.getElem?_of_mem hv
          obtain ⟨t, e1, e2⟩ := rs.get hn
          exact k (.val t) _ S H' (aft_keep s o D' kp) e2 (hp t (List.mem_of_getElem? e1))
def fWordsN (d : Addr) : FT := fun ts P => ∃ n : Nat, ts = [.adr d, .int n] ∧ n ≤ 17 ∧ ∀ ys : List Str, ys.length = n → (∀ y ∈ ys, y ∈ poolW) → P (.own (.lst (ys.map Tv.str)))
theorem use_wordsN : UseT K (dealR d l) spWordsN E (fWordsN d) := fun S H ts vs Q P s i o r h k => by
  obtain ⟨n, rfl, h1, hp⟩ := h
  cases r with
  | cons ra r =>
    cases ra
    cases r with
    | cons rb r =>
      cases rb
      cases r
      refine ⟨d, l, n, rfl, i, h1, fun p ys H' hp0 hp1 ln mm D' kp => k (.own (.lst (ys.map Tv.str))) _ S H' (aft_keep s o D' kp) ?_ (hp ys ln mm)⟩
      exact ⟨p, rfl, Same.none s hp0, hp0, .lst hp1 (reps_strs ys)⟩
end
end L2.Wk
namespace L2.Wk
open PySem PySem.Spec PyProof.Rows
local macro_rules | `(tactic| walk_at "tsr1") => `(tactic| first
  | exact q_tsr_next | exact q_ter_var _ | exact q_ter_c _ | exact q_tar_nil | exact q_tsr_retN | exact q_tsr_break | exact q_tsr_cont | exact q_tsr_never | exact q_tbr_yes | exact q_tor_none | exact q_tgsr_nil | exact q_tgr_name _ | exact q_ter_dnew | exact q_ter_dnewT | exact q_tpr_nil | exact q_ter_pop
  | exact opt_cmp | exact opt_I0 | exact opt_I | exact opt_eq | exact opt_ne | exact opt_eqD | exact opt_neD | exact opt_ixL | exact opt_ixT | exact opt_ixS | exact opt_in | exact opt_notIn | exact opt_inS | exact opt_addS | exact opt_cat | exact opt_catA | exact opt_kd | exact opt_notkd | exact opt_isN | exact opt_notN | exact opt_isB | exact opt_notB | exact unt_U
  | exact cbt_len | exact cbt_all | exact cbt_any | exact cbt_abs | exact cbt_int | exact cbt_bool | exact cbt_strI | exact cbt_strS | exact cbt_list | exact cbt_tuple | exact cbt_dict | exact cbt_isi | exact cbt_repr
  | exact m1t_split | exact m1t_partition | exact m1t_join | exact slt_L | exact slt_S | exact slt_T | exact slt_TA
  | apply q_tsr_augS use_self | apply q_tsr_augS use_pure | apply q_tsr_augS (by assumption)
  | apply q_tsr_seq | apply q_tsr_ret | apply q_tsr_if | apply q_tsr_set | apply q_tsr_dset | apply q_tsr_fld | apply q_tsr_augI | apply q_tsr_parN | apply q_tsr_par | apply q_tsr_par3 | apply q_tsr_asg | apply q_tsr_drop | apply q_tsr_for | apply q_tsr_while | (apply q_tsr_tryC; intro _) | apply q_tsr_raiseG (fun _ _ _ _ h => h)
  | apply q_tar_cons | apply q_tar_star | apply q_ter_append | apply q_ter_extend | apply q_ter_popAt
  | exact q_ter_kb | apply q_ter_tup | apply q_ter_lst | apply q_ter_disp | apply q_tpr_cons | apply q_ter_dc | apply q_ter_kget2 | apply q_ter_eqOwn | apply q_ter_neOwn | apply q_ter_opOwn | apply q_ter_unOwn | apply q_ter_strOwn | apply q_ter_lenOwn | apply q_ter_sortB | apply q_ter_sortL | apply q_ter_prop | apply q_ter_cmeth use_self | apply q_ter_cmeth use_pure | apply q_ter_cmeth (by assumption) | (apply q_ter_cmethS; rfl) | (apply q_ter_cmethX; (intro _; rfl)) | apply q_ter_makeL (fun _ => usei_self) | apply q_ter_makeL (fun _ => usei_pure) | (apply q_ter_makeLX; rfl) | apply q_ter_make usei_self | apply q_ter_make usei_pure | (apply q_ter_makeS; rfl) | apply q_ter_chain | apply q_ter_call use_self | apply q_ter_call use_pure | apply q_ter_call (by assumption) | (apply q_ter_callX; (intro _; rfl)) | (apply q_ter_makeX; (intro _; rfl)) | apply q_ter_call | apply q_ter_meth | apply q_ter_make | apply q_ter_fld | apply q_ter_sl | apply q_ter_rev | apply q_ter_m1 | apply q_ter_dget | apply q_ter_din | apply q_ter_dnotin | apply q_ter_lc | apply q_ter_andV | apply q_ter_orV | apply q_ter_notV | apply q_ter_if
  | apply q_ter_cb1 | apply q_ter_cb2 | apply q_ter_op | apply q_ter_un
  | apply q_tor_some
  | apply q_tbr_test | apply q_tbr_b | apply q_tbr_and | apply q_tbr_or | apply q_tbr_not | apply q_tbr_truth
  | apply q_tir_list | apply q_tir_tup | apply q_tir_seq | apply q_tir_str | apply q_tir_rng1 | apply q_tir_rng2 | apply q_tir_rng3 | apply q_tir_enumL | apply q_tir_enumT | apply q_tir_enumK | apply q_tir_zipL | apply q_tir_zipM
  | apply q_tgr_tup | apply q_tgr_unl | apply q_tgsr_cons
  | exact tgw_name (by simp) | exact tgm_name _ | apply tgw_tup | apply tgm_tup | exact tgsw_nil | exact tgsm_nil | apply tgsw_cons | apply tgsm_cons
  | exact fun _ => Reps.nil | assumption | exact use_self | exact use_pure | exact usei_self | exact usei_pure | exact fun _ => usei_pure | exact usex_pure | exact fun _ => usex_pure | exact useix_pure | exact fun _ => useix_pure | (intro _; assumption))
local macro_rules | `(tactic| walk_at "tsr") => `(tactic| repeat' (walk_at "tsr1"))
abbrev s_law_tree : Stmt := top 37
abbrev N_law_tree : List Str := ["_law_deal", "_law_names_here", "_law_many", "_law_deep", "_law_form", "_law_left", "_law_one"]
theorem sc_law_tree : FnScope N_law_tree ["_law_deal", "_law_names_here", "_law_many", "_law_deep"] (defScope s_law_tree) := ⟨rfl, rfl, rfl, by decide +kernel, rfl, by decide +kernel, by decide +kernel⟩
abbrev s_law_tokens : Stmt := top 38
abbrev N_law_tokens : List Str := ["_law_tree_here", "_law_found", "_law_part"]
theorem sc_law_tokens : FnScope N_law_tokens ["_law_tree_here"] (defScope s_law_tokens) := ⟨rfl, rfl, rfl, by decide +kernel, rfl, by decide +kernel, by decide +kernel⟩
abbrev s_law_made : Stmt := top 39
abbrev N_law_made : List Str := ["_law_tree_here", "_law_one", "_law_two"]
theorem sc_law_made : FnScope N_law_made ["_law_tree_here"] (defScope s_law_made) := ⟨rfl, rfl, rfl, by decide +kernel, rfl, by decide +kernel, by decide +kernel⟩
abbrev s_law_names : Stmt := top 40
abbrev N_law_names : List Str := ["_law_tree_here", "_law_word"]
theorem sc_law_names : FnScope N_law_names ["_law_tree_here"] (defScope s_law_names) := ⟨rfl, rfl, rfl, by decide +kernel, rfl, by decide +kernel, by decide +kernel⟩
abbrev s_law_worth : Stmt := top 41
abbrev N_law_worth : List Str := ["_law_tree_here", "_law_known", "_law_one", "_law_two"]
theorem sc_law_worth : FnScope N_law_worth ["_law_tree_here", "_law_known"] (defScope s_law_worth) := ⟨rfl, rfl, rfl, by decide +kernel, rfl, by decide +kernel, by decide +kernel⟩
abbrev s_law_all : Stmt := top 42
abbrev N_law_all : List Str := ["_law_names_here", "_law_found", "_law_name", "_law_longer", "_law_known", "_law_value", "_law_more"]
theorem sc_law_all : FnScope N_law_all ["_law_names_here"] (defScope s_law_all) := ⟨rfl, rfl, rfl, by decide +kernel, rfl, by decide +kernel, by decide +kernel⟩
/-! ### drawn trees -/
inductive Tr where
  | name (z : Str)
  | val (b : Bool)
  | neg (t : Tr)
  | two (o : Str) (t u : Tr)
def sgnT : List Str := txts ["&", "|", "^"]
def Tr.deep : Tr → Nat
  | .name _ => 0
  | .val _ => 0
  | .neg t => t.deep + 1
  | .two _ t u => max t.deep u.deep + 1
def Tr.toks : Tr → List Str
  | .name z => [z]
  | .val b => [if b = true then Str.ofString "1" else Str.ofString "0"]
  | .neg t => Str.ofString "~" :: t.toks
  | .two o t u => o :: (t.toks ++ u.toks)
def trV : Tr → Tv
  | .name z => .tup [.str (Str.ofString "name"), .str z]
  | .val b => .tup [.str (Str.ofString "value"), .bl b]
  | .neg t => .tup [.str (Str.ofString "~"), trV t]
  | .two o t u => .tup [.str o, trV t, trV u]
def Tr.Ok (zs : List Str) : Tr → Prop
  | .name z => z ∈ zs
  | .val _ => True
  | .neg t => t.Ok zs
  | .two o t u => o ∈ sgnT ∧ t.Ok zs ∧ u.Ok zs
structure Lt where
  draw : Addr
  pick : Addr
  tree : Addr
  toks : Addr
  made : Addr
  names : Addr
  worth : Addr
  all : Addr
structure TxtLt (K : PySem.W.Frag) (mg : Str → Option Value) (lt : Lt) : Prop where
  b_str : mg "str" = none
  b_int : mg "int" = none
  b_sorted : mg "sorted" = none
  b_set : mg "set" = none
  b_dict : mg "dict" = none
  g__law_draw : mg "_law_draw" = some (.ref lt.draw)
  k__law_draw : PySem.W.keepIn K (.ref lt.draw) = true
  g__law_pick : mg "_law_pick" = some (.ref lt.pick)
  k__law_pick : PySem.W.keepIn K (.ref lt.pick) = true
  g__law_tree : mg "_law_tree" = some (.ref lt.tree)
  k__law_tree : PySem.W.keepIn K (.ref lt.tree) = true
  g__law_tokens : mg "_law_tokens" = some (.ref lt.toks)
  k__law_tokens : PySem.W.keepIn K (.ref lt.toks) = true
  g__law_made : mg "_law_made" = some (.ref lt.made)
  k__law_made : PySem.W.keepIn K (.ref lt.made) = true
  g__law_names : mg "_law_names" = some (.ref lt.names)
  k__law_names : PySem.W.keepIn K (.ref lt.names) = true
  g__law_worth : mg "_law_worth" = some (.ref lt.worth)
  k__law_worth : PySem.W.keepIn K (.ref lt.worth) = true
  g__law_all : mg "_law_all" = some (.ref lt.all)
  k__law_all : PySem.W.keepIn K (.ref lt.all) = true
def fTree (n : Nat) (d : Addr) : FT := fun ts P => ∃ (zs : List Str) (m : Nat), ts = [.adr d, .lst (zs.map Tv.str), .int (m : Nat), .int (n : Nat)] ∧ zs ≠ [] ∧ zs.length ≤ 100 ∧ (∀ z ∈ zs, PyData.strOk z = true) ∧ 1 ≤ m ∧ m ≤ 100 ∧
  ∀ t : Tr, t.deep ≤ n → t.toks.length ≤ m → t.Ok zs → P (.val (trV t))
section
variable {P : Program} {w : World} {K : PySem.W.Frag} {mg : Str → Option Value} {base : Heap} {lt : Lt} {f : Addr} {fd : FuncData}
theorem ok_treeT {f1 f2 f3 : FuncData} {j n : Nat} {fS : Addr → FT} (F : Fun K "_law_tree" "_law_tree" s_law_tree f fd) (T : TxtLt K mg lt) (hj : 2 ≤ j)
    (G__law_draw : FnOk P w K mg base CX0 1 lt.draw f1 ["_law_deal", "_law_wide"] spDrawA) (b__law_draw : Binds K f1 ["_law_deal", "_law_wide"] [])
    (G__law_pick : FnOk P w K mg base CX0 2 lt.pick f2 ["_law_deal", "_law_some"] (spPickA K)) (b__law_pick : Binds K f2 ["_law_deal", "_law_some"] [])
    (hS : n = 0 ∨ fS = fTree (n - 1)) (G__law_tree : FnOk P w K mg base CX0 j lt.tree f3 ["_law_deal", "_law_names_here", "_law_many", "_law_deep"] (spD K fS)) (b__law_tree : Binds K f3 ["_law_deal", "_law_names_here", "_law_many", "_law_deep"] []) :
    FnOk P w K mg base CX0 (j + 1) f fd ["_law_deal", "_law_names_here", "_law_many", "_law_deep"] (spD K (fTree n)) := by
  refine F.ok sc_law_tree (spD_len fun d ts P ⟨_, _, h, _⟩ => by rw [h]; rfl) (fun cdv A outer s H vs Q E hr h => ?_)
  obtain ⟨d, l, S, ts, P0, sS, hi, ho, rs, hf, k⟩ := h
  refine ⟨_, (pss_cons (ps_set (i := 4) sc_law_tree.nd rfl (Or.inl rfl) (pe_call G__law_draw (hr.mono (by omega)) rfl T.g__law_draw T.k__law_draw b__law_draw .nil pass0 (pa_cons (pv 0) (pa_cons pe_int pa_nil))))
    (pss_cons (ps_if (PW.pt (pw_or (pt_cmpR op_lt (pv 2) pe_int (nomark _)) (pw_or (pt_cmpR op_lt (pv 3) pe_int (nomark _)) (pw_or1 (pt_cmpR op_eq (pv 4) pe_int (nomark _)))))) (pss_cons (ps_if (PW.pt (pw_or (pt_cmpR (op_eqD hr.units) (pv 1) (pe_lst pa_nil) (nomark _)) (pw_or1 (pt_cmpR op_eq (pe_call G__law_draw (hr.mono (by omega)) rfl T.g__law_draw T.k__law_draw b__law_draw .nil pass0 (pa_cons (pv 0) (pa_cons pe_int pa_nil))) pe_int (nomark _))))) (pss_one (ps_ret (pe_tup (pa_cons pe_str (pa_cons (pe_cmpR op_eq (pe_call G__law_draw (hr.mono (by omega)) rfl T.g__law_draw T.k__law_draw b__law_draw .nil pass0 (pa_cons (pv 0) (pa_cons pe_int pa_nil))) pe_int (nomark _)) pa_nil))))) pss_nil)
    (pss_one (ps_ret (pe_tup (pa_cons pe_str (pa_cons (pe_call G__law_pick (hr.mono (by omega)) rfl T.g__law_pick T.k__law_pick b__law_pick .nil pass0 (pa_cons (pv 0) (pa_cons (pv 1) pa_nil))) pa_nil)))))) pss_nil)
    (pss_cons (ps_if (PW.pt (pw_or (pt_cmpR op_lt (pv 2) pe_int (nomark _)) (pw_or1 (pt_cmpR op_eq (pv 4) pe_int (nomark _))))) (pss_one (ps_ret (pe_tup (pa_cons pe_str (pa_cons (pe_call G__law_tree (hr.mono (by omega)) rfl T.g__law_tree T.k__law_tree b__law_tree .nil pass0 (pa_cons (pv 0) (pa_cons (pv 1) (pa_cons (pe_op op_sub (pv 2) pe_int) (pa_cons (pe_op op_sub (pv 3) pe_int) pa_nil))))) pa_nil))))) pss_nil)
    (pss_cons (ps_set (i := 5) sc_law_tree.nd rfl (Or.inl rfl) (pe_op op_add pe_int (pe_call G__law_draw (hr.mono (by omega)) rfl T.g__law_draw T.k__law_draw b__law_draw .nil pass0 (pa_cons (pv 0) (pa_cons (pe_op op_sub (pv 2) pe_int) pa_nil)))))
    (pss_cons (ps_set (i := 6) sc_law_tree.nd rfl (Or.inl rfl) (pe_call G__law_tree (hr.mono (by omega)) rfl T.g__law_tree T.k__law_tree b__law_tree .nil pass0 (pa_cons (pv 0) (pa_cons (pv 1) (pa_cons (pv 5) (pa_cons (pe_op op_sub (pv 3) pe_int) pa_nil))))))
    (pss_one (ps_ret (pe_tup (pa_cons (pe_call G__law_pick (hr.mono (by omega)) rfl T.g__law_pick T.k__law_pick b__law_pick .nil pass0 (pa_cons (pv 0) (pa_cons (pe_lst (pa_cons pe_str (pa_cons pe_str (pa_cons pe_str pa_nil)))) pa_nil))) (pa_cons (pv 6) (pa_cons (pe_call G__law_tree (hr.mono (by omega)) rfl T.g__law_tree T.k__law_tree b__law_tree .nil pass0 (pa_cons (pv 0) (pa_cons (pv 1) (pa_cons (pe_op op_sub (pe_op op_sub (pv 2) pe_int) (pv 5)) (pa_cons (pe_op op_sub (pv 3) pe_int) pa_nil))))) pa_nil))))))))))), ?_⟩
  have U1 := use_draw (K := K) (d := d) (l := l) (E := E0)
  have U2 := use_pick (K := K) (d := d) (l := l) (E := E0)
  have U3 := use_deal (K := K) (d := d) (l := l) (E := E0) (f := fS)
  refine fn_treeq (K := K) (R := dealR d l) exok_deal (by walk_at "tsr") sS hi ho rs k ?_
  obtain ⟨zs, m, rfl, hne, hlen, hok, hm1, hm2, hp⟩ := hf
  have dz : dpT (.lst (zs.map Tv.str)) = some (.list (zs.map PyData.str)) := by
    unfold dpT
    rw [dpTs_map Tv.str PyData.str fun _ => rfl]
    rfl
  have eqv : PyData.eqv (.list (zs.map PyData.str)) (.list []) = false := by
    cases zs with
    | nil => exact absurd rfl hne
    | cons a t => rfl
  refine ⟨9, rfl, by decide, by decide, fun r1 r10 r11 => ?_⟩
  by_cases c1 : m < 2
  · refine cmpS_t (decide_eq_true (by omega)) ?_
    refine ⟨Nat.zero_le _, getK_of dz (getK_of rfl ⟨shaped_strs hok, by decide, ?_⟩)⟩
    rw [eqv]
    refine ⟨10, rfl, by decide, by decide, fun r2 r20 r21 => ?_⟩
    refine eqS_int ?_
    by_cases e2 : r2 = 0
    · rw [decide_eq_true e2]
      refine ⟨2, rfl, by decide, by decide, fun r3 r30 r31 => ?_⟩
      refine eqS_int ?_
      exact ⟨fewL rfl, hp (.val (decide (r3 = 1))) (Nat.zero_le _) hm1 trivial⟩
    · rw [decide_eq_false e2]
      refine ⟨zs.map Tv.str, rfl, fun z => hne (List.map_eq_nil_iff.mp z), by rw [List.length_map]; omega, fun t ht => ?_⟩
      obtain ⟨z, hz, rfl⟩ := List.mem_map.mp ht
      exact ⟨fewL rfl, hp (.name z) (Nat.zero_le _) hm1 hz⟩
  refine cmpS_f (decide_eq_false (by omega)) ?_
  by_cases c2 : n < 1
  · refine cmpS_t (decide_eq_true (by omega)) ?_
    refine ⟨Nat.zero_le _, getK_of dz (getK_of rfl ⟨shaped_strs hok, by decide, ?_⟩)⟩
    rw [eqv]
    refine ⟨10, rfl, by decide, by decide, fun r2 r20 r21 => ?_⟩
    refine eqS_int ?_
    by_cases e2 : r2 = 0
    · rw [decide_eq_true e2]
      refine ⟨2, rfl, by decide, by decide, fun r3 r30 r31 => ?_⟩
      refine eqS_int ?_
      exact ⟨fewL rfl, hp (.val (decide (r3 = 1))) (Nat.zero_le _) hm1 trivial⟩
    · rw [decide_eq_false e2]
      refine ⟨zs.map Tv.str, rfl, fun z => hne (List.map_eq_nil_iff.mp z), by rw [List.length_map]; omega, fun t ht => ?_⟩
      obtain ⟨z, hz, rfl⟩ := List.mem_map.mp ht
      exact ⟨fewL rfl, hp (.name z) (Nat.zero_le _) hm1 hz⟩
  refine cmpS_f (decide_eq_false (by omega)) ?_
  refine eqS_int ?_
  by_cases c3 : r1 = 0
  · rw [decide_eq_true c3]
    refine ⟨Nat.zero_le _, getK_of dz (getK_of rfl ⟨shaped_strs hok, by decide, ?_⟩)⟩
    rw [eqv]
    refine ⟨10, rfl, by decide, by decide, fun r2 r20 r21 => ?_⟩
    refine eqS_int ?_
    by_cases e2 : r2 = 0
    · rw [decide_eq_true e2]
      refine ⟨2, rfl, by decide, by decide, fun r3 r30 r31 => ?_⟩
      refine eqS_int ?_
      exact ⟨fewL rfl, hp (.val (decide (r3 = 1))) (Nat.zero_le _) hm1 trivial⟩
    · rw [decide_eq_false e2]
      refine ⟨zs.map Tv.str, rfl, fun z => hne (List.map_eq_nil_iff.mp z), by rw [List.length_map]; omega, fun t ht => ?_⟩
      obtain ⟨z, hz, rfl⟩ := List.mem_map.mp ht
      exact ⟨fewL rfl, hp (.name z) (Nat.zero_le _) hm1 hz⟩
  rw [decide_eq_false c3]
  rcases hS with e | rfl
  · omega
  by_cases c4 : m < 3
  · refine cmpS_t (decide_eq_true (by omega)) ?_
    refine ⟨zs, m - 1, ?_, hne, hlen, hok, by omega, by omega, fun t hd ht hx => ?_⟩
    · show [Tv.adr d, Tv.lst (zs.map Tv.str), Tv.int ((m : Int) - 1), Tv.int ((n : Int) - 1)] = [Tv.adr d, Tv.lst (zs.map Tv.str), Tv.int ((m - 1 : Nat) : Int), Tv.int ((n - 1 : Nat) : Int)]
      rw [show (m : Int) - 1 = ((m - 1 : Nat) : Int) by omega, show (n : Int) - 1 = ((n - 1 : Nat) : Int) by omega]
    exact ⟨fewL rfl, hp (.neg t) (by show t.deep + 1 ≤ n; omega) (by show (Str.ofString "~" :: t.toks).length ≤ m; rw [List.length_cons]; omega) hx⟩
  refine cmpS_f (decide_eq_false (by omega)) ?_
  refine eqS_int ?_
  by_cases c5 : r1 = 1
  · rw [decide_eq_true c5]
    refine ⟨zs, m - 1, ?_, hne, hlen, hok, by omega, by omega, fun t hd ht hx => ?_⟩
    · show [Tv.adr d, Tv.lst (zs.map Tv.str), Tv.int ((m : Int) - 1), Tv.int ((n : Int) - 1)] = [Tv.adr d, Tv.lst (zs.map Tv.str), Tv.int ((m - 1 : Nat) : Int), Tv.int ((n - 1 : Nat) : Int)]
      rw [show (m : Int) - 1 = ((m - 1 : Nat) : Int) by omega, show (n : Int) - 1 = ((n - 1 : Nat) : Int) by omega]
    exact ⟨fewL rfl, hp (.neg t) (by show t.deep + 1 ≤ n; omega) (by show (Str.ofString "~" :: t.toks).length ≤ m; rw [List.length_cons]; omega) hx⟩
  rw [decide_eq_false c5]
  refine ⟨(m : Int) - 2, rfl, by omega, by omega, fun c c0 c1' => ?_⟩
  obtain ⟨c, rfl⟩ := Int.eq_ofNat_of_zero_le c0
  refine ⟨zs, 1 + c, ?_, hne, hlen, hok, by omega, by omega, fun t1 hd1 ht1 hx1 => ?_⟩
  · show [Tv.adr d, Tv.lst (zs.map Tv.str), Tv.int (1 + (c : Int)), Tv.int ((n : Int) - 1)] = [Tv.adr d, Tv.lst (zs.map Tv.str), Tv.int ((1 + c : Nat) : Int), Tv.int ((n - 1 : Nat) : Int)]
    rw [show 1 + (c : Int) = ((1 + c : Nat) : Int) by omega, show (n : Int) - 1 = ((n - 1 : Nat) : Int) by omega]
  refine ⟨fewL rfl, [Tv.str "&", Tv.str "|", Tv.str "^"], rfl, (by simp), (by show 3 ≤ 1000; decide), fun ot ho => ?_⟩
  obtain ⟨o, hso, rfl⟩ : ∃ o, o ∈ sgnT ∧ ot = Tv.str o := by
    simp only [List.mem_cons, List.not_mem_nil, or_false] at ho
    rcases ho with rfl | rfl | rfl
    · exact ⟨_, by unfold sgnT txts; simp, rfl⟩
    · exact ⟨_, by unfold sgnT txts; simp, rfl⟩
    · exact ⟨_, by unfold sgnT txts; simp, rfl⟩
  refine ⟨zs, m - 1 - (1 + c), ?_, hne, hlen, hok, by omega, by omega, fun t2 hd2 ht2 hx2 => ?_⟩
  · show [Tv.adr d, Tv.lst (zs.map Tv.str), Tv.int ((m : Int) - 1 - (1 + (c : Int))), Tv.int ((n : Int) - 1)] = [Tv.adr d, Tv.lst (zs.map Tv.str), Tv.int ((m - 1 - (1 + c) : Nat) : Int), Tv.int ((n - 1 : Nat) : Int)]
    rw [show (m : Int) - 1 - (1 + (c : Int)) = ((m - 1 - (1 + c) : Nat) : Int) by omega, show (n : Int) - 1 = ((n - 1 : Nat) : Int) by omega]
  refine ⟨fewL rfl, hp (.two o t1 t2) (by show max t1.deep t2.deep + 1 ≤ n; omega) ?_ ⟨hso, hx1, hx2⟩⟩
  show (o :: (t1.toks ++ t2.toks)).length ≤ m
  rw [List.length_cons, List.length_append]
  omega
end
end L2.Wk
namespace L2.Wk
open PySem PySem.Spec PyProof.Rows
local macro_rules | `(tactic| walk_at "tsr1") => `(tactic| first
  | exact q_tsr_next | exact q_ter_var _ | exact q_ter_c _ | exact q_tar_nil | exact q_tsr_retN | exact q_tsr_break | exact q_tsr_cont | exact q_tsr_never | exact q_tbr_yes | exact q_tor_none | exact q_tgsr_nil | exact q_tgr_name _ | exact q_ter_dnew | exact q_ter_dnewT | exact q_tpr_nil | exact q_ter_pop
  | exact opt_cmp | exact opt_I0 | exact opt_I | exact opt_eq | exact opt_ne | exact opt_eqD | exact opt_neD | exact opt_ixL | exact opt_ixT | exact opt_ixS | exact opt_in | exact opt_notIn | exact opt_inS | exact opt_addS | exact opt_cat | exact opt_catA | exact opt_kd | exact opt_notkd | exact opt_isN | exact opt_notN | exact opt_isB | exact opt_notB | exact unt_U
  | exact cbt_len | exact cbt_all | exact cbt_any | exact cbt_abs | exact cbt_int | exact cbt_bool | exact cbt_strI | exact cbt_strS | exact cbt_list | exact cbt_tuple | exact cbt_dict | exact cbt_isi | exact cbt_repr
  | exact m1t_split | exact m1t_partition | exact m1t_join | exact slt_L | exact slt_S | exact slt_T | exact slt_TA
  | apply q_tsr_augS use_self | apply q_tsr_augS use_pure | apply q_tsr_augS (by assumption)
  | apply q_tsr_seq | apply q_tsr_ret | apply q_tsr_if | apply q_tsr_set | apply q_tsr_dset | apply q_tsr_fld | apply q_tsr_augI | apply q_tsr_parN | apply q_tsr_par | apply q_tsr_par3 | apply q_tsr_asg | apply q_tsr_drop | apply q_tsr_for | apply q_tsr_while | (apply q_tsr_tryC; intro _) | apply q_tsr_raiseG (fun _ _ _ _ h => h)
  | apply q_tar_cons | apply q_tar_star | apply q_ter_append | apply q_ter_extend | apply q_ter_popAt
  | exact q_ter_kb | apply q_ter_tup | apply q_ter_lst | apply q_ter_disp | apply q_tpr_cons | apply q_ter_dc | apply q_ter_kget2 | apply q_ter_eqOwn | apply q_ter_neOwn | apply q_ter_opOwn | apply q_ter_unOwn | apply q_ter_strOwn | apply q_ter_lenOwn | apply q_ter_sortB | apply q_ter_sortL | apply q_ter_prop | apply q_ter_cmeth use_self | apply q_ter_cmeth use_pure | apply q_ter_cmeth (by assumption) | (apply q_ter_cmethS; rfl) | (apply q_ter_cmethX; (intro _; rfl)) | apply q_ter_makeL (fun _ => usei_self) | apply q_ter_makeL (fun _ => usei_pure) | (apply q_ter_makeLX; rfl) | apply q_ter_make usei_self | apply q_ter_make usei_pure | (apply q_ter_makeS; rfl) | apply q_ter_chain | apply q_ter_call use_self | apply q_ter_call use_pure | apply q_ter_call (by assumption) | (apply q_ter_callX; (intro _; rfl)) | (apply q_ter_makeX; (intro _; rfl)) | apply q_ter_call | apply q_ter_meth | apply q_ter_make | apply q_ter_fld | apply q_ter_sl | apply q_ter_rev | apply q_ter_m1 | apply q_ter_dget | apply q_ter_din | apply q_ter_dnotin | apply q_ter_lc | apply q_ter_andV | apply q_ter_orV | apply q_ter_notV | apply q_ter_if
  | apply q_ter_cb1 | apply q_ter_cb2 | apply q_ter_op | apply q_ter_un
  | apply q_tor_some
  | apply q_tbr_test | apply q_tbr_b | apply q_tbr_and | apply q_tbr_or | apply q_tbr_not | apply q_tbr_truth
  | apply q_tir_list | apply q_tir_tup | apply q_tir_seq | apply q_tir_str | apply q_tir_rng1 | apply q_tir_rng2 | apply q_tir_rng3 | apply q_tir_enumL | apply q_tir_enumT | apply q_tir_enumK | apply q_tir_zipL | apply q_tir_zipM
  | apply q_tgr_tup | apply q_tgr_unl | apply q_tgsr_cons
  | exact tgw_name (by simp) | exact tgm_name _ | apply tgw_tup | apply tgm_tup | exact tgsw_nil | exact tgsm_nil | apply tgsw_cons | apply tgsm_cons
  | exact fun _ => Reps.nil | assumption | exact use_self | exact use_pure | exact usei_self | exact usei_pure | exact fun _ => usei_pure | exact usex_pure | exact fun _ => usex_pure | exact useix_pure | exact fun _ => useix_pure | (intro _; assumption))
local macro_rules | `(tactic| walk_at "tsr") => `(tactic| repeat' (walk_at "tsr1"))
/-! ### words, names, worth of a drawn tree -/
theorem cutT_some1 (x : Tv) (xs : List Tv) : cutL (x :: xs) (some 1) none = xs := cutT_one x xs
def fToks (n : Nat) : FT := fun ts P => ∃ (zs : List Str) (t : Tr), ts = [trV t] ∧ t.Ok zs ∧ t.deep ≤ n ∧ t.toks.length ≤ 400 ∧ P (.own (.lst (t.toks.map Tv.str)))
def Tr.vars : Tr → List Str
  | .name z => [z]
  | .val _ => []
  | .neg t => t.vars
  | .two _ t u => t.vars ++ u.vars
def Tr.worth (kn : Str → Bool) : Tr → Bool
  | .name z => kn z
  | .val b => b
  | .neg t => !t.worth kn
  | .two o t u => if o = Str.ofString "&" then (t.worth kn && u.worth kn) else if o = Str.ofString "|" then (t.worth kn || u.worth kn) else !decide (t.worth kn = u.worth kn)
theorem vars_ok {zs : List Str} : ∀ {t : Tr}, t.Ok zs → ∀ x ∈ t.vars, x ∈ zs
  | .name z, h, x, hx => by rw [List.mem_singleton.mp hx]; exact h
  | .val _, _, x, hx => by cases hx
  | .neg t, h, x, hx => vars_ok (t := t) h x hx
  | .two o t u, h, x, hx => by
    rcases List.mem_append.mp hx with hx | hx
    · exact vars_ok h.2.1 x hx
    · exact vars_ok h.2.2 x hx
def fWorth (n : Nat) : FT := fun ts P => ∃ (zs : List Str) (t : Tr) (kvs : List (Key × Bool)), ts = [trV t, .dct (blK kvs)] ∧ t.Ok zs ∧ t.deep ≤ n ∧ (∀ z ∈ t.vars, ∃ b, knB kvs z = some b) ∧ P (.val (.bl (t.worth fun z => (knB kvs z).getD false)))
def fNamesL : FT := fun ts P => ∃ (zs : List Str) (t : Tr), ts = [trV t] ∧ t.Ok zs ∧ (∀ z ∈ zs, isName z = true) ∧ t.deep ≤ 20 ∧ t.toks.length ≤ 60 ∧ ∀ ys, Asc ys t.vars → P (.own (.lst (ys.map Tv.str)))
def symT : List Str := txts ["&", "|", "^", "~", "0", "1"]
theorem sgn_ne : ∀ o ∈ sgnT, decide (o = Str.ofString "name") = false ∧ decide (o = Str.ofString "value") = false ∧ decide (o = Str.ofString "~") = false := by decide +kernel
theorem lit_ne : (decide (Str.ofString "value" = Str.ofString "name") = false ∧ decide (Str.ofString "~" = Str.ofString "name") = false) ∧ decide (Str.ofString "~" = Str.ofString "value") = false := by decide +kernel
theorem in_tup {x : Str} {zs : List Str} {k : Bool → Prop} (h : k (decide (x ∈ zs))) : inT (.str x) (.tup (zs.map Tv.str)) k := by
  refine inT_of ?_
  show getK (flT (Tv.str x)) fun y => getK (flTs (zs.map Tv.str)) fun xs => k (inV y xs)
  rw [flTs_strs]
  show k (inV (V.str x) (zs.map V.str))
  rw [inV_sgn]
  exact h
theorem sym_no : ∀ x ∈ symT, isName x = false := by decide +kernel
theorem toks_vars {zs : List Str} (hz : ∀ z ∈ zs, isName z = true) : ∀ {t : Tr}, t.Ok zs → t.toks.filter (fun w => !decide (w ∈ symT)) = t.vars
  | .name z, h => by
    have : z ∉ symT := fun m => by
      have := sym_no z m
      rw [hz z h] at this
      cases this
    show List.filter _ [z] = [z]
    simp [this]
  | .val b, _ => by cases b <;> decide +kernel
  | .neg t, h => by
    show List.filter _ (Str.ofString "~" :: t.toks) = t.vars
    have : Str.ofString "~" ∈ symT := by decide +kernel
    rw [List.filter_cons_of_neg (by simp [this])]
    exact toks_vars hz (t := t) h
  | .two o t u, h => by
    show List.filter _ (o :: (t.toks ++ u.toks)) = t.vars ++ u.vars
    have q : ∀ o ∈ sgnT, o ∈ symT := by decide +kernel
    rw [List.filter_cons_of_neg (by simp [q o h.1]), List.filter_append, toks_vars hz h.2.1, toks_vars hz h.2.2]
theorem vars_le : ∀ t : Tr, t.vars.length ≤ t.toks.length
  | .name z => Nat.le_refl _
  | .val b => Nat.zero_le _
  | .neg t => by
    show t.vars.length ≤ (Str.ofString "~" :: t.toks).length
    have := vars_le t
    rw [List.length_cons]
    omega
  | .two o t u => by
    show (t.vars ++ u.vars).length ≤ (o :: (t.toks ++ u.toks)).length
    have := vars_le t
    have := vars_le u
    rw [List.length_cons, List.length_append, List.length_append]
    omega
def dctB (kvs : List (Key × Bool)) : Tv := .dct (blK kvs)
def extK (n : Str) (kvs : List (Key × Bool)) : List (List (Key × Bool)) := [kvs ++ [(.inr n, false)], kvs ++ [(.inr n, true)]]
def allK (ns : List Str) : List (List (Key × Bool)) := ns.foldl (fun acc n => acc.flatMap (extK n)) [[]]
theorem allK_take (ns : List Str) (i : Nat) (n : Str) (h : ns[i]? = some n) : allK (ns.take (i + 1)) = (allK (ns.take i)).flatMap (extK n) := by
  unfold allK
  rw [List.take_add_one, h, List.foldl_append]
  rfl
theorem allK_snoc (ns : List Str) (n : Str) : allK (ns ++ [n]) = (allK ns).flatMap (extK n) := by
  unfold allK
  rw [List.foldl_append]
  rfl
theorem allK_keys (ns : List Str) : ∀ kvs ∈ allK ns, kvs.map Prod.fst = ns.map fun n => (Sum.inr n : Key) := by
  have q : ∀ (l : List Str) (acc : List (List (Key × Bool))) (pre : List Str), (∀ kvs ∈ acc, kvs.map Prod.fst = pre.map fun n => (Sum.inr n : Key)) → ∀ kvs ∈ l.foldl (fun acc n => acc.flatMap (extK n)) acc, kvs.map Prod.fst = (pre ++ l).map fun n => (Sum.inr n : Key) := by
    intro l
    induction l with
    | nil => intro acc pre h kvs hk; rw [List.append_nil]; exact h kvs hk
    | cons n l ih =>
      intro acc pre h kvs hk
      have := ih (acc.flatMap (extK n)) (pre ++ [n]) (fun k hk => by
        obtain ⟨k0, h0, h1⟩ := List.mem_flatMap.mp hk
        unfold extK at h1
        simp only [List.mem_cons, List.not_mem_nil, or_false] at h1
        rcases h1 with rfl | rfl <;> rw [List.map_append, h k0 h0, List.map_append] <;> rfl) kvs hk
      rw [this]
      simp
  exact q ns [[]] [] (fun kvs h => by rw [List.mem_singleton.mp h]; rfl)
theorem allK_len (ns : List Str) : (allK ns).length = 2 ^ ns.length := by
  have q : ∀ (l : List Str) (acc : List (List (Key × Bool))), (l.foldl (fun acc n => acc.flatMap (extK n)) acc).length = acc.length * 2 ^ l.length := by
    intro l
    induction l with
    | nil => intro acc; simp
    | cons n l ih =>
      intro acc
      have e : (acc.flatMap (extK n)).length = acc.length * 2 := by
        induction acc with
        | nil => rfl
        | cons a acc iha => rw [List.flatMap_cons, List.length_append, iha, List.length_cons]; show 2 + _ = _; omega
      rw [List.foldl_cons, ih, e, List.length_cons, Nat.pow_succ]
      rw [Nat.mul_assoc, Nat.mul_comm 2]
  have := q ns [[]]
  unfold allK
  rw [this]
  simp
theorem put_blK {kvs : List (Key × Bool)} {k : Key} (b : Bool) (h : k ∉ kvs.map Prod.fst) : putKT (blK kvs) k (.bl b) = blK (kvs ++ [(k, b)]) := by
  unfold putKT
  rw [if_neg]
  · unfold blK
    rw [List.map_append]
    rfl
  · intro q
    obtain ⟨p, hp, e⟩ := List.any_eq_true.mp q
    unfold blK at hp
    obtain ⟨p0, h0, rfl⟩ := List.mem_map.mp hp
    exact h (List.mem_map.mpr ⟨p0, h0, of_decide_eq_true e⟩)
def fAllK : FT := fun ts P => ∃ ns : List Str, ts = [.lst (ns.map Tv.str)] ∧ ns.length ≤ 6 ∧ ns.Nodup ∧ P (.val (.lst ((allK ns).map dctB)))
theorem Tr.parts {zs : List Str} : ∀ t : Tr, t.Ok zs → (∃ z, t = .name z) ∨ (∃ b, t = .val b) ∨ ∃ (o : Str) (qs : List Tr), trV t = .tup (.str o :: qs.map trV) ∧ t.toks = o :: qs.flatMap Tr.toks ∧ (∀ q ∈ qs, q.Ok zs ∧ q.deep + 1 ≤ t.deep ∧ q.toks.length < t.toks.length) ∧ ((∃ a, qs = [a]) ∨ ∃ a b, qs = [a, b]) ∧ decide (o = Str.ofString "name") = false ∧ decide (o = Str.ofString "value") = false
  | .name z, _ => .inl ⟨z, rfl⟩
  | .val b, _ => .inr (.inl ⟨b, rfl⟩)
  | .neg t, h => by
    refine .inr (.inr ⟨Str.ofString "~", [t], rfl, by simp [Tr.toks], fun q hq => ?_, .inl ⟨t, rfl⟩, lit_ne.1.2, lit_ne.2⟩)
    rw [List.mem_singleton.mp hq]
    exact ⟨h, Nat.le_refl _, Nat.lt_succ_self _⟩
  | .two o t u, h => by
    refine .inr (.inr ⟨o, [t, u], rfl, by simp [Tr.toks], fun q hq => ?_, .inr ⟨t, u, rfl⟩, (sgn_ne o h.1).1, (sgn_ne o h.1).2.1⟩)
    have hl : (Tr.two o t u).toks.length = t.toks.length + u.toks.length + 1 := by simp [Tr.toks]
    have hd : (Tr.two o t u).deep = max t.deep u.deep + 1 := rfl
    rcases List.mem_cons.mp hq with rfl | hq
    · exact ⟨h.2.1, by omega, by omega⟩
    · rw [List.mem_singleton.mp hq]
      exact ⟨h.2.2, by omega, by omega⟩
theorem flat_le {qs : List Tr} {b : Nat} (h : ∀ q ∈ qs, q.toks.length ≤ b) : (qs.flatMap Tr.toks).length ≤ b * qs.length := by
  induction qs with
  | nil => simp
  | cons q qs ih =>
    have h1 := ih fun x hx => h x (List.mem_cons_of_mem _ hx)
    have h2 := h q (List.mem_cons_self ..)
    rw [List.flatMap_cons, List.length_append, List.length_cons, Nat.mul_add]
    omega
theorem int_txt : Str.ofString (toString (0 : Int)) = Str.ofString "0" ∧ Str.ofString (toString (1 : Int)) = Str.ofString "1" := by decide +kernel
section
variable {P : Program} {w : World} {K : PySem.W.Frag} {mg : Str → Option Value} {base : Heap} {lt : Lt} {f : Addr} {fd : FuncData}
theorem ok_toksT {f1 : FuncData} {j n : Nat} {fS : FT} (F : Fun K "_law_tokens" "_law_tokens" s_law_tokens f fd) (T : TxtLt K mg lt)
    (hS : n = 0 ∨ fS = fToks (n - 1)) (G__law_tokens : FnOk P w K mg base CX0 j lt.toks f1 ["_law_tree_here"] (spT K Rs.pure fS)) (b__law_tokens : Binds K f1 ["_law_tree_here"] []) :
    FnOk P w K mg base CX0 (j + 1) f fd ["_law_tree_here"] (spT K Rs.pure (fToks n)) := by
  refine F.ok sc_law_tokens (spT_len fun ts P ⟨_, _, h, _⟩ => by rw [h]; rfl) (fun cdv A outer s H vs Q E hr h => ?_)
  obtain ⟨S, ts, P0, sS, hi, ho, rs, hf, k⟩ := h
  refine ⟨_, (pss_cons (ps_if (pt_cmpR op_eq (pe_ix ix_tup (pv 0) pe_int (fun _ _ => rfl)) pe_str (nomark _)) (pss_one (ps_ret (pe_lst (pa_cons (pe_ix ix_tup (pv 0) pe_int (fun _ _ => rfl)) pa_nil)))) pss_nil)
    (pss_cons (ps_if (pt_cmpR op_eq (pe_ix ix_tup (pv 0) pe_int (fun _ _ => rfl)) pe_str (nomark _)) (pss_one (ps_ret (pe_lst (pa_cons (pe_callTy call_str_int (by rfl) T.b_str (by decide +kernel) (pa_cons (pe_callTy call_int1 (by rfl) T.b_int (by decide +kernel) (pa_cons (pe_ix ix_tup (pv 0) pe_int (fun _ _ => rfl)) pa_nil)) pa_nil)) pa_nil)))) pss_nil)
    (pss_cons (ps_set (i := 1) sc_law_tokens.nd rfl (Or.inl rfl) (pe_lst (pa_cons (pe_ix ix_tup (pv 0) pe_int (fun _ _ => rfl)) pa_nil)))
    (pss_cons (ps_for PassesOwn.never rfl (pi_tup (pe_slice sl_tup (pv 0) (po_some pe_int) po_none)) (pg_name (i := 2) sc_law_tokens.nd rfl (Or.inl rfl))
      (pss_one (ps_expr (pe_bm PySem.F.plainAttrs_list PySem.F.slot_list_extend PySem.F.type_list_extend mt_extend (pv 1) (pa_cons (pe_call G__law_tokens (hr.mono (by omega)) rfl T.g__law_tokens T.k__law_tokens b__law_tokens .nil pass0 (pa_cons (pv 2) pa_nil)) pa_nil)))))
    (pss_one (ps_ret (pv 1))))))), ?_⟩
  refine fn_treeq (K := K) (R := Rs.pure) exok_pure (by walk_at "tsr") sS hi ho rs k ?_
  obtain ⟨zs, t, rfl, hz, hd, hl, hp⟩ := hf
  rcases Tr.parts t hz with ⟨z, rfl⟩ | ⟨b, rfl⟩ | ⟨o, qs, e1, e2, hq, ql, n1, n2⟩
  · refine eqS_str ?_
    rw [decide_eq_true rfl]
    exact ⟨fewL rfl, hp⟩
  · refine eqS_str ?_
    rw [lit_ne.1.1]
    refine eqS_str ?_
    rw [decide_eq_true rfl]
    cases b
    · refine ⟨by decide, fewL rfl, ?_⟩
      show P0 (Rv.own (.lst [Tv.str (Str.ofString (toString (0 : Int)))]))
      rw [int_txt.1]
      exact hp
    · refine ⟨by decide, fewL rfl, ?_⟩
      show P0 (Rv.own (.lst [Tv.str (Str.ofString (toString (1 : Int)))]))
      rw [int_txt.2]
      exact hp
  have hl2 : qs.length ≤ 2 := by rcases ql with ⟨a, rfl⟩ | ⟨a, b, rfl⟩ <;> simp
  rcases ql with ⟨a, eq⟩ | ⟨a, b, eq⟩
  · rw [eq] at e1
    rw [e1]
    refine eqS_str ?_
    rw [n1]
    refine eqS_str ?_
    rw [n2]
    refine ⟨fewL rfl, by rw [List.length_cons]; exact not_all1 _, ?_⟩
    rw [cutT_one, ← e1, ← eq]
    refine ⟨fun i τ => ∃ v2 : Option Sl, τ = [some (.val (trV t)), some (.own (.lst ((o :: (qs.take i).flatMap Tr.toks).map Tv.str))), v2], ⟨none, rfl⟩, ?_, ?_⟩
    · rintro i x τ hx ⟨v2, rfl⟩
      rw [List.getElem?_map] at hx
      obtain ⟨q, hqi, rfl⟩ := Option.map_eq_some_iff.mp hx
      obtain ⟨q1, q2, q3⟩ := hq q (List.mem_of_getElem? hqi)
      rcases hS with e | rfl
      · omega
      refine ⟨zs, q, rfl, q1, by omega, by omega, ?_⟩
      have lf := flat_le (qs := qs.take i) (b := 400) fun x hx => by
        have := (hq x (List.mem_of_mem_take hx)).2.2
        omega
      have li : (qs.take i).length ≤ 2 := by rw [List.length_take]; omega
      refine ⟨?_, some (.val (trV q)), ?_⟩
      · rw [List.length_map, List.length_map, List.length_cons]
        have : sizeLine = 16777216 := sizeLine_eq
        have : 400 * (qs.take i).length ≤ 400 * 2 := Nat.mul_le_mul_left _ li
        omega
      · rw [show (o :: (qs.take (i + 1)).flatMap Tr.toks).map Tv.str = (o :: (qs.take i).flatMap Tr.toks).map Tv.str ++ q.toks.map Tv.str by rw [List.take_add_one, hqi, List.flatMap_append]; simp]
        rfl
    · rintro τ ⟨v2, rfl⟩
      rw [List.length_map, List.take_length, ← e2]
      exact hp
  · rw [eq] at e1
    rw [e1]
    refine eqS_str ?_
    rw [n1]
    refine eqS_str ?_
    rw [n2]
    refine ⟨fewL rfl, by rw [List.length_cons]; exact not_all1 _, ?_⟩
    rw [cutT_one, ← e1, ← eq]
    refine ⟨fun i τ => ∃ v2 : Option Sl, τ = [some (.val (trV t)), some (.own (.lst ((o :: (qs.take i).flatMap Tr.toks).map Tv.str))), v2], ⟨none, rfl⟩, ?_, ?_⟩
    · rintro i x τ hx ⟨v2, rfl⟩
      rw [List.getElem?_map] at hx
      obtain ⟨q, hqi, rfl⟩ := Option.map_eq_some_iff.mp hx
      obtain ⟨q1, q2, q3⟩ := hq q (List.mem_of_getElem? hqi)
      rcases hS with e | rfl
      · omega
      refine ⟨zs, q, rfl, q1, by omega, by omega, ?_⟩
      have lf := flat_le (qs := qs.take i) (b := 400) fun x hx => by
        have := (hq x (List.mem_of_mem_take hx)).2.2
        omega
      have li : (qs.take i).length ≤ 2 := by rw [List.length_take]; omega
      refine ⟨?_, some (.val (trV q)), ?_⟩
      · rw [List.length_map, List.length_map, List.length_cons]
        have : sizeLine = 16777216 := sizeLine_eq
        have : 400 * (qs.take i).length ≤ 400 * 2 := Nat.mul_le_mul_left _ li
        omega
      · rw [show (o :: (qs.take (i + 1)).flatMap Tr.toks).map Tv.str = (o :: (qs.take i).flatMap Tr.toks).map Tv.str ++ q.toks.map Tv.str by rw [List.take_add_one, hqi, List.flatMap_append]; simp]
        rfl
    · rintro τ ⟨v2, rfl⟩
      rw [List.length_map, List.take_length, ← e2]
      exact hp
theorem ok_worthT {f1 : FuncData} {j n : Nat} {fS : FT} (F : Fun K "_law_worth" "_law_worth" s_law_worth f fd) (T : TxtLt K mg lt)
    (hS : n = 0 ∨ fS = fWorth (n - 1)) (G__law_worth : FnOk P w K mg base CX0 j lt.worth f1 ["_law_tree_here", "_law_known"] (spT K Rs.pure fS)) (b__law_worth : Binds K f1 ["_law_tree_here", "_law_known"] []) :
    FnOk P w K mg base CX0 (j + 1) f fd ["_law_tree_here", "_law_known"] (spT K Rs.pure (fWorth n)) := by
  refine F.ok sc_law_worth (spT_len fun ts P ⟨_, _, _, h, _⟩ => by rw [h]; rfl) (fun cdv A outer s H vs Q E hr h => ?_)
  obtain ⟨S, ts, P0, sS, hi, ho, rs, hf, k⟩ := h
  refine ⟨_, (pss_cons (ps_if (pt_cmpR op_eq (pe_ix ix_tup (pv 0) pe_int (fun _ _ => rfl)) pe_str (nomark _)) (pss_one (ps_ret (pe_dget (Nat.lt_of_le_of_lt (Nat.add_le_add_left (by decide : 1 ≤ 64) _) hr.units) (pv 1) (pe_ix ix_tup (pv 0) pe_int (fun _ _ => rfl)) (fun _ _ => rfl)))) pss_nil)
    (pss_cons (ps_if (pt_cmpR op_eq (pe_ix ix_tup (pv 0) pe_int (fun _ _ => rfl)) pe_str (nomark _)) (pss_one (ps_ret (pe_ix ix_tup (pv 0) pe_int (fun _ _ => rfl)))) pss_nil)
    (pss_cons (ps_if (pt_cmpR op_eq (pe_ix ix_tup (pv 0) pe_int (fun _ _ => rfl)) pe_str (nomark _)) (pss_one (ps_ret (pe_not (pe_call G__law_worth (hr.mono (by omega)) rfl T.g__law_worth T.k__law_worth b__law_worth .nil pass0 (pa_cons (pe_ix ix_tup (pv 0) pe_int (fun _ _ => rfl)) (pa_cons (pv 1) pa_nil)))))) pss_nil)
    (pss_cons (ps_par (i := 2) (j := 3) rfl sc_law_worth.nd rfl rfl (by decide) rfl rfl (pa_cons (pe_call G__law_worth (hr.mono (by omega)) rfl T.g__law_worth T.k__law_worth b__law_worth .nil pass0 (pa_cons (pe_ix ix_tup (pv 0) pe_int (fun _ _ => rfl)) (pa_cons (pv 1) pa_nil))) (pa_cons (pe_call G__law_worth (hr.mono (by omega)) rfl T.g__law_worth T.k__law_worth b__law_worth .nil pass0 (pa_cons (pe_ix ix_tup (pv 0) pe_int (fun _ _ => rfl)) (pa_cons (pv 1) pa_nil))) pa_nil)) rfl)
    (pss_cons (ps_if (pt_cmpR op_eq (pe_ix ix_tup (pv 0) pe_int (fun _ _ => rfl)) pe_str (nomark _)) (pss_one (ps_ret (pe_and (pv 2) (pe_one (pv 3))))) pss_nil)
    (pss_one (ps_ret (pe_ifExp (pt_cmpR op_eq (pe_ix ix_tup (pv 0) pe_int (fun _ _ => rfl)) pe_str (nomark _)) (pe_or (pv 2) (pe_one (pv 3))) (pe_cmpR op_ne (pv 2) (pv 3) (nomark _)))))))))), ?_⟩
  refine fn_treeq (K := K) (R := Rs.pure) exok_pure (by walk_at "tsr") sS hi ho rs k ?_
  obtain ⟨zs, t, kvs, rfl, hz, hd, hk, hp⟩ := hf
  cases t with
  | name z =>
    refine eqS_str ?_
    rw [decide_eq_true rfl]
    obtain ⟨b, hb⟩ := hk z (List.mem_singleton.mpr rfl)
    refine dg_blk ?_
    rw [hb]
    have e : Tr.worth (fun z => (knB kvs z).getD false) (.name z) = b := by
      show (knB kvs z).getD false = b
      rw [hb]
      rfl
    rw [e] at hp
    exact hp
  | val b =>
    refine eqS_str ?_
    rw [lit_ne.1.1]
    refine eqS_str ?_
    rw [decide_eq_true rfl]
    exact hp
  | neg t =>
    refine eqS_str ?_
    rw [lit_ne.1.2]
    refine eqS_str ?_
    rw [lit_ne.2]
    refine eqS_str ?_
    rw [decide_eq_true rfl]
    rcases hS with e | rfl
    · exact absurd hd (by rw [e]; exact Nat.not_succ_le_zero _)
    exact ⟨zs, t, kvs, rfl, hz, Nat.le_sub_one_of_lt hd, hk, hp⟩
  | two o t u =>
    obtain ⟨n1, n2, n3⟩ := sgn_ne o hz.1
    refine eqS_str ?_
    rw [n1]
    refine eqS_str ?_
    rw [n2]
    refine eqS_str ?_
    rw [n3]
    have hd' : max t.deep u.deep + 1 ≤ n := hd
    rcases hS with e | rfl
    · omega
    refine ⟨zs, t, kvs, rfl, hz.2.1, by omega, fun z h => hk z (List.mem_append_left _ h), ?_⟩
    refine ⟨zs, u, kvs, rfl, hz.2.2, by omega, fun z h => hk z (List.mem_append_right _ h), ?_⟩
    have ew : Tr.worth (fun z => (knB kvs z).getD false) (.two o t u) = if o = Str.ofString "&" then (t.worth (fun z => (knB kvs z).getD false) && u.worth fun z => (knB kvs z).getD false) else if o = Str.ofString "|" then (t.worth (fun z => (knB kvs z).getD false) || u.worth fun z => (knB kvs z).getD false) else !decide (t.worth (fun z => (knB kvs z).getD false) = u.worth fun z => (knB kvs z).getD false) := rfl
    rw [ew] at hp
    generalize t.worth (fun z => (knB kvs z).getD false) = x at hp
    generalize u.worth (fun z => (knB kvs z).getD false) = y at hp
    refine eqS_str ?_
    by_cases o1 : o = Str.ofString "&"
    · rw [decide_eq_true o1]
      rw [if_pos o1] at hp
      cases x <;> cases y <;> exact hp
    rw [decide_eq_false o1]
    rw [if_neg o1] at hp
    refine eqS_str ?_
    by_cases o2 : o = Str.ofString "|"
    · rw [decide_eq_true o2]
      rw [if_pos o2] at hp
      cases x <;> cases y <;> exact hp
    rw [decide_eq_false o2]
    rw [if_neg o2] at hp
    exact eqS_bl hp
theorem ok_namesT {f1 : FuncData} (F : Fun K "_law_names" "_law_names" s_law_names f fd) (T : TxtLt K mg lt)
    (G__law_tokens : FnOk P w K mg base CX0 21 lt.toks f1 ["_law_tree_here"] (spT K Rs.pure (fToks 20))) (b__law_tokens : Binds K f1 ["_law_tree_here"] []) :
    FnOk P w K mg base CX0 22 f fd ["_law_tree_here"] (spT K Rs.pure fNamesL) := by
  refine F.ok sc_law_names (spT_len fun ts P ⟨_, _, h, _⟩ => by rw [h]; rfl) (fun cdv A outer s H vs Q E hr h => ?_)
  obtain ⟨S, ts, P0, sS, hi, ho, rs, hf, k⟩ := h
  refine ⟨_, (pss_one (ps_ret (pe_callB (cr_sortT rfl) (by rfl) T.b_sorted (by decide +kernel) (pa_cons (pe_callTy (cr_setL rfl) (by rfl) T.b_set (by decide +kernel) (pa_cons (pe_lc (own := [("_law_word", 1)]) (g := gName 1) rfl sc_law_names.nd (pi_list (pe_call G__law_tokens (hr.mono (by omega)) rfl T.g__law_tokens T.k__law_tokens b__law_tokens .nil pass0 (pa_cons (pv 0) pa_nil))) (blkOk_by (N := N_law_names) (sc := defScope s_law_names) (by decide +kernel)) (fun _ _ _ _ _ => (pg_name (i := 1) sc_law_names.nd rfl (Or.inl rfl))) (fun _ _ _ _ _ => (pts_one (pt_cmpR (op_notIn_seqK (K := K) rfl) (pv 1) (pe_tup (pa_cons pe_str (pa_cons pe_str (pa_cons pe_str (pa_cons pe_str (pa_cons pe_str (pa_cons pe_str pa_nil))))))) (by rfl)))) (fun _ _ _ _ _ => (pe_callTy SkE.call_str_str (by rfl) T.b_str (by decide +kernel) (pa_cons (pv 1) pa_nil)))) pa_nil)) pa_nil)))), ?_⟩
  refine fn_treeq (K := K) (R := Rs.pure) exok_pure (by walk_at "tsr") sS hi ho rs k ?_
  obtain ⟨zs, t, rfl, hz, hn, hd, hl, hp⟩ := hf
  refine ⟨zs, t, rfl, hz, hd, by omega, ?_⟩
  refine ⟨by rw [List.length_map]; exact len1000 (by omega), fun i acc => acc = ((t.toks.take i).filter fun w => !decide (w ∈ symT)).map Tv.str, rfl, ?_, ?_⟩
  · rintro i x acc hx rfl
    rw [List.getElem?_map] at hx
    obtain ⟨z, hzi, rfl⟩ := Option.map_eq_some_iff.mp hx
    refine ⟨fewL rfl, in_tup (zs := symT) ?_⟩
    have tk : (t.toks.take (i + 1)).filter (fun w => !decide (w ∈ symT)) = (t.toks.take i).filter (fun w => !decide (w ∈ symT)) ++ (if decide (z ∈ symT) = true then [] else [z]) := by
      rw [List.take_add_one, hzi, List.filter_append]
      congr 1
      cases e : decide (z ∈ symT)
      · simp [e]
      · simp [e]
    cases e : decide (z ∈ symT) with
    | true =>
      rw [e] at tk
      refine ⟨rfl, ?_⟩
      show _ = List.map Tv.str _
      rw [tk]
      simp
    | false =>
      rw [e] at tk
      refine ⟨rfl, ?_⟩
      show _ = List.map Tv.str _
      rw [tk]
      simp
  · rintro acc rfl
    rw [List.length_map, List.take_length, toks_vars hn hz]
    exact getK_of (strsT_map _) ⟨by have := vars_le t; omega, fun ys hy => hp ys hy⟩
theorem ok_allT (F : Fun K "_law_all" "_law_all" s_law_all f fd) (T : TxtLt K mg lt) : FnOk P w K mg base CX0 1 f fd ["_law_names_here"] (spT K Rs.pure fAllK) := by
  refine F.ok sc_law_all (spT_len fun ts P ⟨_, h, _⟩ => by rw [h]; rfl) (fun cdv A outer s H vs Q E hr h => ?_)
  obtain ⟨S, ts, P0, sS, hi, ho, rs, hf, k⟩ := h
  refine ⟨_, (pss_cons (ps_set (i := 1) sc_law_all.nd rfl (Or.inl rfl) (pe_lst (pa_cons pe_dnewK pa_nil)))
    (pss_cons (ps_for PassesOwn.never rfl (pi_list (pv 0)) (pg_name (i := 2) sc_law_all.nd rfl (Or.inl rfl))
      (pss_cons (ps_set (i := 3) sc_law_all.nd rfl (Or.inl rfl) (pe_lst pa_nil))
      (pss_cons (ps_for PassesOwn.never rfl (pi_list (pv 1)) (pg_name (i := 4) sc_law_all.nd rfl (Or.inl rfl))
      (pss_one (ps_for PassesOwn.never rfl (pi_tup (pe_tup (pa_cons pe_bl (pa_cons pe_bl pa_nil)))) (pg_name (i := 5) sc_law_all.nd rfl (Or.inl rfl))
      (pss_cons (ps_set (i := 6) sc_law_all.nd rfl (Or.inl rfl) (pe_callTy call_dictD (by rfl) T.b_dict (by decide +kernel) (pa_cons (pv 4) pa_nil)))
      (pss_cons (ps_asg (pv 5) (pg_sub (pv 6) (pv 2) (set_dict (Nat.lt_of_le_of_lt (Nat.add_le_add_left (by decide : 1 ≤ 64) _) hr.units))))
      (pss_one (ps_expr (pe_bm PySem.F.plainAttrs_list PySem.F.slot_list_append PySem.F.type_list_append mt_append (pv 3) (pa_cons (pv 6) pa_nil)))))))))
      (pss_one (ps_set (i := 1) sc_law_all.nd rfl (Or.inl rfl) (pv 3))))))
    (pss_one (ps_ret (pv 1))))), ?_⟩
  refine fn_treeq (K := K) (R := Rs.pure) exok_pure (by walk_at "tsr") sS hi ho rs (ret_val hi k) ?_
  obtain ⟨ns, rfl, hn, nd, hp⟩ := hf
  refine ⟨fewL rfl, fun i τ => ∃ (s1 : Sl) (v2 v3 v4 v5 v6 : Option Sl), (s1 = .own (.lst ((allK (ns.take i)).map dctB)) ∨ s1 = .val (.lst ((allK (ns.take i)).map dctB))) ∧ τ = [some (.val (.lst (ns.map Tv.str))), some s1, v2, v3, v4, v5, v6], ⟨_, none, none, none, none, none, .inl rfl, rfl⟩, ?_, ?_⟩
  · rintro i x τ hx ⟨s1, v2, v3, v4, v5, v6, hs, rfl⟩
    rw [List.getElem?_map] at hx
    obtain ⟨n, hni, rfl⟩ := Option.map_eq_some_iff.mp hx
    have hi : i < ns.length := (List.getElem?_eq_some_iff.mp hni).1
    have ek := allK_take ns i n hni
    have nk := allK_keys (ns.take i)
    have nn : n ∉ ns.take i := fun m => by
      obtain ⟨j, hj, e⟩ := List.getElem_of_mem m
      rw [List.length_take] at hj
      rw [List.getElem_take] at e
      obtain ⟨_, e2⟩ := List.getElem?_eq_some_iff.mp hni
      have := (List.getElem_inj nd).mp (e.trans e2.symm)
      omega
    have ll := allK_len (ns.take i)
    generalize ens : ns.take i = ms at *
    have hms : ms.length ≤ 6 := by rw [← ens, List.length_take]; omega
    rcases hs with rfl | rfl
    · refine ⟨fewL rfl, fun j τ => ∃ v4 v5 v6 : Option Sl, τ = [some (.val (.lst (ns.map Tv.str))), some (.val (.lst ((allK ms).map dctB))), some (.val (.str n)), some (.own (.lst ((((allK ms).take j).flatMap (extK n)).map dctB))), v4, v5, v6], ⟨_, _, _, rfl⟩, ?_, ?_⟩
      · rintro j x τ hx ⟨v4, v5, v6, rfl⟩
        rw [List.getElem?_map] at hx
        obtain ⟨kvs, hkj, rfl⟩ := Option.map_eq_some_iff.mp hx
        have hj : j < (allK ms).length := (List.getElem?_eq_some_iff.mp hkj).1
        have hk := nk kvs (List.mem_of_getElem? hkj)
        have nin : (Sum.inr n : Key) ∉ kvs.map Prod.fst := fun m => by
          rw [hk] at m
          obtain ⟨z, hz, e⟩ := List.mem_map.mp m
          cases e
          exact nn hz
        have lk : kvs.length ≤ 6 := by
          have := congrArg List.length hk
          rw [List.length_map, List.length_map] at this
          omega
        have p6 : 2 ^ ms.length ≤ 64 := Nat.le_trans (Nat.pow_le_pow_right (by decide) hms) (by decide)
        have fl : (((allK ms).take j).flatMap (extK n)).length ≤ 128 := by
          have q : ∀ l : List (List (Key × Bool)), (l.flatMap (extK n)).length = 2 * l.length := fun l => by
            induction l with
            | nil => rfl
            | cons a l ih => rw [List.flatMap_cons, List.length_append, ih, List.length_cons]; show 2 + _ = _; omega
          rw [q, List.length_take]
          omega
        refine ⟨fewL rfl, fun m τ => ∃ v5 v6 : Option Sl, τ = [some (.val (.lst (ns.map Tv.str))), some (.val (.lst ((allK ms).map dctB))), some (.val (.str n)), some (.own (.lst ((((allK ms).take j).flatMap (extK n) ++ (extK n kvs).take m).map dctB))), some (.val (dctB kvs)), v5, v6], ⟨_, _, by rw [List.take_zero, List.append_nil]; rfl⟩, ?_, ?_⟩
        · have turn : ∀ (m : Nat) (b : Bool), (extK n kvs)[m]? = some (kvs ++ [(Sum.inr n, b)]) → (((allK ms).take j).flatMap (extK n) ++ (extK n kvs).take (m + 1)).map dctB = (((allK ms).take j).flatMap (extK n) ++ (extK n kvs).take m).map dctB ++ [.dct (putKT (blK kvs) (.inr n) (.bl b))] := fun m b h => by
            rw [List.take_add_one, h, put_blK b nin, List.map_append, List.map_append, List.map_append, ← List.append_assoc]
            rfl
          have fm : ∀ m, ((((allK ms).take j).flatMap (extK n) ++ (extK n kvs).take m).map dctB).length < sizeLine := fun m => by
            rw [List.length_map, List.length_append, List.length_take]
            have e : (extK n kvs).length = 2 := rfl
            exact small1000 (by omega)
          have bl : (blK kvs).length < sizeLine := by
            unfold blK
            rw [List.length_map]
            exact small1000 (by omega)
          rintro m x τ hx ⟨v5, v6, rfl⟩
          match m, hx with
          | 0, hx =>
            cases hx
            refine ⟨bl, fm 0, some (.val (.bl false)), some (.val (.dct (putKT (blK kvs) (.inr n) (.bl false)))), ?_⟩
            rw [turn 0 false rfl]
            rfl
          | 1, hx =>
            cases hx
            refine ⟨bl, fm 1, some (.val (.bl true)), some (.val (.dct (putKT (blK kvs) (.inr n) (.bl true)))), ?_⟩
            rw [turn 1 true rfl]
            rfl
          | m + 2, hx => cases hx
        · rintro τ ⟨v5, v6, rfl⟩
          refine ⟨some (.val (dctB kvs)), v5, v6, ?_⟩
          have e : ((allK ms).take (j + 1)).flatMap (extK n) = ((allK ms).take j).flatMap (extK n) ++ (extK n kvs).take 2 := by
            rw [List.take_add_one, hkj, List.flatMap_append]
            simp [extK]
          rw [e]
          rfl
      · rintro τ ⟨v4, v5, v6, rfl⟩
        rw [List.length_map, List.take_length, ← ek]
        exact ⟨_, some (.val (.str n)), some (.val (.lst ((allK (ns.take (i + 1))).map dctB))), v4, v5, v6, .inr rfl, rfl⟩
    · refine ⟨fewL rfl, fun j τ => ∃ v4 v5 v6 : Option Sl, τ = [some (.val (.lst (ns.map Tv.str))), some (.val (.lst ((allK ms).map dctB))), some (.val (.str n)), some (.own (.lst ((((allK ms).take j).flatMap (extK n)).map dctB))), v4, v5, v6], ⟨_, _, _, rfl⟩, ?_, ?_⟩
      · rintro j x τ hx ⟨v4, v5, v6, rfl⟩
        rw [List.getElem?_map] at hx
        obtain ⟨kvs, hkj, rfl⟩ := Option.map_eq_some_iff.mp hx
        have hj : j < (allK ms).length := (List.getElem?_eq_some_iff.mp hkj).1
        have hk := nk kvs (List.mem_of_getElem? hkj)
        have nin : (Sum.inr n : Key) ∉ kvs.map Prod.fst := fun m => by
          rw [hk] at m
          obtain ⟨z, hz, e⟩ := List.mem_map.mp m
          cases e
          exact nn hz
        have lk : kvs.length ≤ 6 := by
          have := congrArg List.length hk
          rw [List.length_map, List.length_map] at this
          omega
        have p6 : 2 ^ ms.length ≤ 64 := Nat.le_trans (Nat.pow_le_pow_right (by decide) hms) (by decide)
        have fl : (((allK ms).take j).flatMap (extK n)).length ≤ 128 := by
          have q : ∀ l : List (List (Key × Bool)), (l.flatMap (extK n)).length = 2 * l.length := fun l => by
            induction l with
            | nil => rfl
            | cons a l ih => rw [List.flatMap_cons, List.length_append, ih, List.length_cons]; show 2 + _ = _; omega
          rw [q, List.length_take]
          omega
        refine ⟨fewL rfl, fun m τ => ∃ v5 v6 : Option Sl, τ = [some (.val (.lst (ns.map Tv.str))), some (.val (.lst ((allK ms).map dctB))), some (.val (.str n)), some (.own (.lst ((((allK ms).take j).flatMap (extK n) ++ (extK n kvs).take m).map dctB))), some (.val (dctB kvs)), v5, v6], ⟨_, _, by rw [List.take_zero, List.append_nil]; rfl⟩, ?_, ?_⟩
        · have turn : ∀ (m : Nat) (b : Bool), (extK n kvs)[m]? = some (kvs ++ [(Sum.inr n, b)]) → (((allK ms).take j).flatMap (extK n) ++ (extK n kvs).take (m + 1)).map dctB = (((allK ms).take j).flatMap (extK n) ++ (extK n kvs).take m).map dctB ++ [.dct (putKT (blK kvs) (.inr n) (.bl b))] := fun m b h => by
            rw [List.take_add_one, h, put_blK b nin, List.map_append, List.map_append, List.map_append, ← List.append_assoc]
            rfl
          have fm : ∀ m, ((((allK ms).take j).flatMap (extK n) ++ (extK n kvs).take m).map dctB).length < sizeLine := fun m => by
            rw [List.length_map, List.length_append, List.length_take]
            have e : (extK n kvs).length = 2 := rfl
            exact small1000 (by omega)
          have bl : (blK kvs).length < sizeLine := by
            unfold blK
            rw [List.length_map]
            exact small1000 (by omega)
          rintro m x τ hx ⟨v5, v6, rfl⟩
          match m, hx with
          | 0, hx =>
            cases hx
            refine ⟨bl, fm 0, some (.val (.bl false)), some (.val (.dct (putKT (blK kvs) (.inr n) (.bl false)))), ?_⟩
            rw [turn 0 false rfl]
            rfl
          | 1, hx =>
            cases hx
            refine ⟨bl, fm 1, some (.val (.bl true)), some (.val (.dct (putKT (blK kvs) (.inr n) (.bl true)))), ?_⟩
            rw [turn 1 true rfl]
            rfl
          | m + 2, hx => cases hx
        · rintro τ ⟨v5, v6, rfl⟩
          refine ⟨some (.val (dctB kvs)), v5, v6, ?_⟩
          have e : ((allK ms).take (j + 1)).flatMap (extK n) = ((allK ms).take j).flatMap (extK n) ++ (extK n kvs).take 2 := by
            rw [List.take_add_one, hkj, List.flatMap_append]
            simp [extK]
          rw [e]
          rfl
      · rintro τ ⟨v4, v5, v6, rfl⟩
        rw [List.length_map, List.take_length, ← ek]
        exact ⟨_, some (.val (.str n)), some (.val (.lst ((allK (ns.take (i + 1))).map dctB))), v4, v5, v6, .inr rfl, rfl⟩
  · rintro τ ⟨s1, v2, v3, v4, v5, v6, hs, rfl⟩
    rw [List.length_map, List.take_length] at hs
    rcases hs with rfl | rfl <;> exact hp
end
end L2.Wk
namespace L2.Wk
open PySem PySem.Spec PyProof.Rows
local macro_rules | `(tactic| walk_at "tsr1") => `(tactic| first
  | exact q_tsr_next | exact q_ter_var _ | exact q_ter_c _ | exact q_tar_nil | exact q_tsr_retN | exact q_tsr_break | exact q_tsr_cont | exact q_tsr_never | exact q_tbr_yes | exact q_tor_none | exact q_tgsr_nil | exact q_tgr_name _ | exact q_ter_dnew | exact q_ter_dnewT | exact q_tpr_nil | exact q_ter_pop
  | exact opt_cmp | exact opt_I0 | exact opt_I | exact opt_eq | exact opt_ne | exact opt_eqD | exact opt_neD | exact opt_ixL | exact opt_ixT | exact opt_ixS | exact opt_in | exact opt_notIn | exact opt_inS | exact opt_addS | exact opt_cat | exact opt_catA | exact opt_kd | exact opt_notkd | exact opt_isN | exact opt_notN | exact opt_isB | exact opt_notB | exact unt_U
  | exact cbt_len | exact cbt_all | exact cbt_any | exact cbt_abs | exact cbt_int | exact cbt_bool | exact cbt_strI | exact cbt_strS | exact cbt_list | exact cbt_tuple | exact cbt_dict | exact cbt_isi | exact cbt_repr
  | exact m1t_split | exact m1t_partition | exact m1t_join | exact slt_L | exact slt_S | exact slt_T | exact slt_TA
  | apply q_tsr_augS use_self | apply q_tsr_augS use_pure | apply q_tsr_augS (by assumption)
  | apply q_tsr_seq | apply q_tsr_ret | apply q_tsr_if | apply q_tsr_set | apply q_tsr_dset | apply q_tsr_fld | apply q_tsr_augI | apply q_tsr_parN | apply q_tsr_par | apply q_tsr_par3 | apply q_tsr_asg | apply q_tsr_drop | apply q_tsr_for | apply q_tsr_while | (apply q_tsr_tryC; intro _) | apply q_tsr_raiseG (fun _ _ _ _ h => h)
  | apply q_tar_cons | apply q_tar_star | apply q_ter_append | apply q_ter_extend | apply q_ter_popAt
  | exact q_ter_kb | apply q_ter_tup | apply q_ter_lst | apply q_ter_disp | apply q_tpr_cons | apply q_ter_dc | apply q_ter_kget2 | apply q_ter_eqOwn | apply q_ter_neOwn | apply q_ter_opOwn | apply q_ter_unOwn | apply q_ter_strOwn | apply q_ter_lenOwn | apply q_ter_sortB | apply q_ter_sortL | apply q_ter_prop | apply q_ter_cmeth use_self | apply q_ter_cmeth use_pure | apply q_ter_cmeth (by assumption) | (apply q_ter_cmethS; rfl) | (apply q_ter_cmethX; (intro _; rfl)) | apply q_ter_makeL (fun _ => usei_self) | apply q_ter_makeL (fun _ => usei_pure) | (apply q_ter_makeLX; rfl) | apply q_ter_make usei_self | apply q_ter_make usei_pure | (apply q_ter_makeS; rfl) | apply q_ter_chain | apply q_ter_call use_self | apply q_ter_call use_pure | apply q_ter_call (by assumption) | (apply q_ter_callX; (intro _; rfl)) | (apply q_ter_makeX; (intro _; rfl)) | apply q_ter_call | apply q_ter_meth | apply q_ter_make | apply q_ter_fld | apply q_ter_sl | apply q_ter_rev | apply q_ter_m1 | apply q_ter_dget | apply q_ter_din | apply q_ter_dnotin | apply q_ter_lc | apply q_ter_andV | apply q_ter_orV | apply q_ter_notV | apply q_ter_if
  | apply q_ter_cb1 | apply q_ter_cb2 | apply q_ter_op | apply q_ter_un
  | apply q_tor_some
  | apply q_tbr_test | apply q_tbr_b | apply q_tbr_and | apply q_tbr_or | apply q_tbr_not | apply q_tbr_truth
  | apply q_tir_list | apply q_tir_tup | apply q_tir_seq | apply q_tir_str | apply q_tir_rng1 | apply q_tir_rng2 | apply q_tir_rng3 | apply q_tir_enumL | apply q_tir_enumT | apply q_tir_enumK | apply q_tir_zipL | apply q_tir_zipM
  | apply q_tgr_tup | apply q_tgr_unl | apply q_tgsr_cons
  | exact tgw_name (by simp) | exact tgm_name _ | apply tgw_tup | apply tgm_tup | exact tgsw_nil | exact tgsm_nil | apply tgsw_cons | apply tgsm_cons
  | exact fun _ => Reps.nil | assumption | exact use_self | exact use_pure | exact usei_self | exact usei_pure | exact fun _ => usei_pure | exact usex_pure | exact fun _ => usex_pure | exact useix_pure | exact fun _ => useix_pure | (intro _; assumption))
local macro_rules | `(tactic| walk_at "tsr") => `(tactic| repeat' (walk_at "tsr1"))
/-! ### the package's formula of a drawn tree -/
structure Fo where
  pof : Addr
  fof : Addr
  pal : Addr
  fal : Addr
  and : Addr
  or : Addr
  xor : Addr
  inv : Addr
structure TxtFo (K : PySem.W.Frag) (mg : Str → Option Value) (lt : Lt) (c : Fg) (o : Fo) : Prop extends TxtLt K mg lt where
  g_Formula : mg "Formula" = some (.ref c.Formula)
  cr_Formula : ClX.CRead K c.Formula (.type "type")
  cm_Formula_of : ClX.CMet K c.Formula (.type "type") "of" o.pof o.fof
  cm_Formula_always : ClX.CMet K c.Formula (.type "type") "always" o.pal o.fal
  s_Formula : PySem.W.selfFirst K c.Formula = true
  a_Formula_and : PySem.W.findIn K (.ref c.Formula) "__and__" = some (some (.ref o.and))
  i_Formula_and : PySem.W.isFn K (.ref o.and) = true
  a_Formula_or : PySem.W.findIn K (.ref c.Formula) "__or__" = some (some (.ref o.or))
  i_Formula_or : PySem.W.isFn K (.ref o.or) = true
  a_Formula_xor : PySem.W.findIn K (.ref c.Formula) "__xor__" = some (some (.ref o.xor))
  i_Formula_xor : PySem.W.isFn K (.ref o.xor) = true
  a_Formula_invert : PySem.W.findIn K (.ref c.Formula) "__invert__" = some (some (.ref o.inv))
  i_Formula_invert : PySem.W.isFn K (.ref o.inv) = true
theorem toks_in {zs : List Str} : ∀ {t : Tr}, t.Ok zs → ∀ x ∈ t.toks, x ∈ zs ++ symT
  | .name z, h, x, hx => by rw [List.mem_singleton.mp hx]; exact List.mem_append_left _ h
  | .val b, _, x, hx => by
    rw [List.mem_singleton.mp hx]
    refine List.mem_append_right _ ?_
    cases b <;> decide +kernel
  | .neg t, h, x, hx => by
    rcases List.mem_cons.mp (show x ∈ Str.ofString "~" :: t.toks from hx) with rfl | hx
    · exact List.mem_append_right _ (by decide +kernel)
    · exact toks_in (t := t) h x hx
  | .two o t u, h, x, hx => by
    rcases List.mem_cons.mp (show x ∈ o :: (t.toks ++ u.toks) from hx) with rfl | hx
    · have q : ∀ o ∈ sgnT, o ∈ symT := by decide +kernel
      exact List.mem_append_right _ (q _ h.1)
    · rcases List.mem_append.mp hx with hx | hx
      · exact toks_in h.2.1 x hx
      · exact toks_in h.2.2 x hx
theorem toks_few {zs ws : List Str} (hn : zs.length ≤ 50) (h : ∀ x ∈ ws, x ∈ zs ++ symT) : fewW ws :=
  ⟨zs ++ symT, h, by rw [List.length_append]; have : symT.length = 6 := rfl; omega⟩
def fMade (C : Addr) (n : Nat) : FT := fun ts P => ∃ (zs : List Str) (t : Tr), ts = [trV t] ∧ t.Ok zs ∧ (∀ z ∈ zs, isName z = true ∧ z.length ≤ 50) ∧ zs.length ≤ 50 ∧ t.deep ≤ n ∧ t.toks.length ≤ 300 ∧ ∀ ft, FoT C t.toks.length t.toks ft → P (.own ft)
theorem sgn_of {o : Str} (h : o ∈ sgnT) (h1 : o ≠ Str.ofString "&") (h2 : o ≠ Str.ofString "|") : o = Str.ofString "^" := by
  have h : o ∈ [Str.ofString "&", Str.ofString "|", Str.ofString "^"] := h
  simp only [List.mem_cons, List.not_mem_nil, or_false] at h
  rcases h with h | h | h
  · exact absurd h h1
  · exact absurd h h2
  · exact h
section
variable {P : Program} {w : World} {K : PySem.W.Frag} {mg : Str → Option Value} {base : Heap} {lt : Lt} {c : Fg} {o : Fo} {f : Addr} {fd : FuncData}
theorem ok_madeT {f1 f2 f3 f4 f5 : FuncData} {j n : Nat} {fS : FT} (F : Fun K "_law_made" "_law_made" s_law_made f fd) (T : TxtFo K mg lt c o) (hj : 4 ≤ j)
    (R_Formula_of : FnR P w K mg base CX0 4 o.fof (spT K Rs.pure (fOf c.Formula))) (R_Formula_always : FnR P w K mg base CX0 4 o.fal (spT K Rs.pure (fAlways c.Formula)))
    (G_Formula_and : FnOk P w K mg base CX0 4 o.and f1 ["self", "other"] (spT K Rs.pure (fBin c.Formula "&"))) (b_Formula_and : Binds K f1 ["self", "other"] [])
    (G_Formula_or : FnOk P w K mg base CX0 4 o.or f2 ["self", "other"] (spT K Rs.pure (fBin c.Formula "|"))) (b_Formula_or : Binds K f2 ["self", "other"] [])
    (G_Formula_xor : FnOk P w K mg base CX0 4 o.xor f3 ["self", "other"] (spT K Rs.pure (fBin c.Formula "^"))) (b_Formula_xor : Binds K f3 ["self", "other"] [])
    (G_Formula_invert : FnOk P w K mg base CX0 4 o.inv f4 ["self"] (spT K Rs.pure (fInv c.Formula))) (b_Formula_invert : Binds K f4 ["self"] [])
    (hS : n = 0 ∨ fS = fMade c.Formula (n - 1)) (G__law_made : FnOk P w K mg base CX0 j lt.made f5 ["_law_tree_here"] (spT K Rs.pure fS)) (b__law_made : Binds K f5 ["_law_tree_here"] []) :
    FnOk P w K mg base CX0 (j + 1) f fd ["_law_tree_here"] (spT K Rs.pure (fMade c.Formula n)) := by
  refine F.ok sc_law_made (spT_len fun ts P ⟨_, _, h, _⟩ => by rw [h]; rfl) (fun cdv A outer s H vs Q E hr h => ?_)
  obtain ⟨S, ts, P0, sS, hi, ho, rs, hf, k⟩ := h
  refine ⟨_, (pss_cons (ps_if (pt_cmpR op_eq (pe_ix ix_tup (pv 0) pe_int (fun _ _ => rfl)) pe_str (nomark _)) (pss_one (ps_ret (ClX.pe_cmeth (pe_gr rfl T.g_Formula) T.cr_Formula T.cm_Formula_of R_Formula_of (hr.mono (by omega)) (E := E0) pass0 (pa_cons (pe_ix ix_tup (pv 0) pe_int (fun _ _ => rfl)) pa_nil)))) pss_nil)
    (pss_cons (ps_if (pt_cmpR op_eq (pe_ix ix_tup (pv 0) pe_int (fun _ _ => rfl)) pe_str (nomark _)) (pss_one (ps_ret (ClX.pe_cmeth (pe_gr rfl T.g_Formula) T.cr_Formula T.cm_Formula_always R_Formula_always (hr.mono (by omega)) (E := E0) pass0 (pa_cons (pe_ix ix_tup (pv 0) pe_int (fun _ _ => rfl)) pa_nil)))) pss_nil)
    (pss_cons (ps_if (pt_cmpR op_eq (pe_ix ix_tup (pv 0) pe_int (fun _ _ => rfl)) pe_str (nomark _)) (pss_one (ps_ret (pe_un (un_invOwn (E := E0) T.a_Formula_invert T.i_Formula_invert G_Formula_invert b_Formula_invert (hr.mono (by omega)) pass0) (pe_call G__law_made (hr.mono (by omega)) rfl T.g__law_made T.k__law_made b__law_made .nil pass0 (pa_cons (pe_ix ix_tup (pv 0) pe_int (fun _ _ => rfl)) pa_nil))))) pss_nil)
    (pss_cons (ps_par (i := 1) (j := 2) rfl sc_law_made.nd rfl rfl (by decide) rfl rfl (pa_cons (pe_call G__law_made (hr.mono (by omega)) rfl T.g__law_made T.k__law_made b__law_made .nil pass0 (pa_cons (pe_ix ix_tup (pv 0) pe_int (fun _ _ => rfl)) pa_nil)) (pa_cons (pe_call G__law_made (hr.mono (by omega)) rfl T.g__law_made T.k__law_made b__law_made .nil pass0 (pa_cons (pe_ix ix_tup (pv 0) pe_int (fun _ _ => rfl)) pa_nil)) pa_nil)) rfl)
    (pss_cons (ps_if (pt_cmpR op_eq (pe_ix ix_tup (pv 0) pe_int (fun _ _ => rfl)) pe_str (nomark _)) (pss_one (ps_ret (pe_op (op_own (E := E0) T.a_Formula_and T.i_Formula_and T.s_Formula G_Formula_and b_Formula_and (hr.mono (by omega)) pass0) (pv 1) (pv 2)))) pss_nil)
    (pss_one (ps_ret (pe_ifExp (pt_cmpR op_eq (pe_ix ix_tup (pv 0) pe_int (fun _ _ => rfl)) pe_str (nomark _)) (pe_op (op_own (E := E0) T.a_Formula_or T.i_Formula_or T.s_Formula G_Formula_or b_Formula_or (hr.mono (by omega)) pass0) (pv 1) (pv 2)) (pe_op (op_own (E := E0) T.a_Formula_xor T.i_Formula_xor T.s_Formula G_Formula_xor b_Formula_xor (hr.mono (by omega)) pass0) (pv 1) (pv 2)))))))))), ?_⟩
  refine fn_treeq (K := K) (R := Rs.pure) exok_pure (by walk_at "tsr") sS hi ho rs k ?_
  obtain ⟨zs, t, rfl, hz, hn, hzl, hd, hl, hp⟩ := hf
  cases t with
  | name z =>
    refine eqS_str ?_
    rw [decide_eq_true rfl]
    refine ⟨.adr _, fun _ => .adr _, rfl, z, rfl, (hn z hz).1, by have := (hn z hz).2; omega, hp⟩
  | val b =>
    refine eqS_str ?_
    rw [lit_ne.1.1]
    refine eqS_str ?_
    rw [decide_eq_true rfl]
    exact ⟨.adr _, fun _ => .adr _, rfl, b, rfl, fun t ht => hp t (by cases b <;> exact ht)⟩
  | neg t =>
    refine eqS_str ?_
    rw [lit_ne.1.2]
    refine eqS_str ?_
    rw [lit_ne.2]
    refine eqS_str ?_
    rw [decide_eq_true rfl]
    rcases hS with e | rfl
    · exact absurd hd (by rw [e]; exact Nat.not_succ_le_zero _)
    have hl' : (Str.ofString "~" :: t.toks).length ≤ 300 := hl
    rw [List.length_cons] at hl'
    refine ⟨zs, t, rfl, hz, hn, hzl, Nat.le_sub_one_of_lt hd, by omega, fun ft hf => ?_⟩
    obtain ⟨S1, y1, F1, l1, A1, rfl⟩ := hf
    refine ⟨rfl, t.toks.length, t.toks, _, rfl, ⟨S1, y1, F1, l1, A1, rfl⟩, by omega, toks_few hzl fun x hx => toks_in (t := t) hz x hx, fun ft hf => hp ft ?_⟩
    exact hf.le (by show 1 + t.toks.length ≤ (Str.ofString "~" :: t.toks).length; rw [List.length_cons]; omega)
  | two o t u =>
    obtain ⟨n1, n2, n3⟩ := sgn_ne o hz.1
    refine eqS_str ?_
    rw [n1]
    refine eqS_str ?_
    rw [n2]
    refine eqS_str ?_
    rw [n3]
    have hd' : max t.deep u.deep + 1 ≤ n := hd
    rcases hS with e | rfl
    · omega
    have hl' : (o :: (t.toks ++ u.toks)).length ≤ 300 := hl
    rw [List.length_cons, List.length_append] at hl'
    have ll : (Tr.two o t u).toks.length = 1 + t.toks.length + u.toks.length := by
      show (o :: (t.toks ++ u.toks)).length = _
      rw [List.length_cons, List.length_append]
      omega
    refine ⟨zs, t, rfl, hz.2.1, hn, hzl, by omega, by omega, fun ft hf => ?_⟩
    obtain ⟨S1, y1, F1, l1, A1, rfl⟩ := hf
    refine ⟨zs, u, rfl, hz.2.2, hn, hzl, by omega, by omega, fun ft hf => ?_⟩
    obtain ⟨S2, y2, F2, l2, A2, rfl⟩ := hf
    have few : fewW (t.toks ++ u.toks) := toks_few hzl fun x hx => by
      rcases List.mem_append.mp hx with hx | hx
      · exact toks_in hz.2.1 x hx
      · exact toks_in hz.2.2 x hx
    have hp : ∀ ft, FoT c.Formula (1 + t.toks.length + u.toks.length) (o :: (t.toks ++ u.toks)) ft → P0 (.own ft) := fun ft hf => hp ft (by rw [ll]; exact hf)
    refine eqS_str ?_
    by_cases o1 : o = Str.ofString "&"
    · rw [decide_eq_true o1]
      rw [o1] at hp
      exact ⟨rfl, rfl, t.toks.length, u.toks.length, t.toks, u.toks, _, _, rfl, ⟨S1, y1, F1, l1, A1, rfl⟩, ⟨S2, y2, F2, l2, A2, rfl⟩, by omega, by omega, few, hp⟩
    rw [decide_eq_false o1]
    refine eqS_str ?_
    by_cases o2 : o = Str.ofString "|"
    · rw [decide_eq_true o2]
      rw [o2] at hp
      exact ⟨rfl, rfl, t.toks.length, u.toks.length, t.toks, u.toks, _, _, rfl, ⟨S1, y1, F1, l1, A1, rfl⟩, ⟨S2, y2, F2, l2, A2, rfl⟩, by omega, by omega, few, hp⟩
    rw [decide_eq_false o2]
    rw [sgn_of hz.1 o1 o2] at hp
    exact ⟨rfl, rfl, t.toks.length, u.toks.length, t.toks, u.toks, _, _, rfl, ⟨S1, y1, F1, l1, A1, rfl⟩, ⟨S2, y2, F2, l2, A2, rfl⟩, by omega, by omega, few, hp⟩
end
end L2.Wk
namespace L2.Wk
open PySem PySem.Spec PyProof.Rows
/-! ### the value of a formula is the worth of its tree -/
def bI (b : Bool) : Int := if b then 1 else 0
theorem bI_one (b : Bool) : decide (bI b = 1) = b := by cases b <;> decide
theorem bI_and (a b : Bool) : Builtin.bitAnd (bI a) (bI b) = bI (a && b) := by cases a <;> cases b <;> decide
theorem bI_or (a b : Bool) : Builtin.bitOr (bI a) (bI b) = bI (a || b) := by cases a <;> cases b <;> decide
theorem bI_xor (a b : Bool) : Builtin.bitXor (bI a) (bI b) = bI (!decide (a = b)) := by cases a <;> cases b <;> decide
theorem bI_not (a : Bool) : Builtin.bitXor (bI a) 1 = bI (!a) := by cases a <;> decide
theorem sym_iff (z : Str) : z ∈ symT ↔ z ∈ signsV ∨ z ∈ constV := by
  have e : symT = signsV ++ constV := by decide +kernel
  rw [e, List.mem_append]
theorem name_ops {z : Str} (h : isName z = true) : z ≠ Str.ofString "&" ∧ z ≠ Str.ofString "|" ∧ z ≠ Str.ofString "^" ∧ z ≠ Str.ofString "~" ∧ z ∉ constV ∧ arityW z = 0 := by
  obtain ⟨h1, h2⟩ := name_plain h
  have q : Str.ofString "&" ∈ signsV ∧ Str.ofString "|" ∈ signsV ∧ Str.ofString "^" ∈ signsV ∧ Str.ofString "~" ∈ signsV := by decide +kernel
  exact ⟨fun e => h1 (e ▸ q.1), fun e => h1 (e ▸ q.2.1), fun e => h1 (e ▸ q.2.2.1), fun e => h1 (e ▸ q.2.2.2), h2, if_neg h1⟩
theorem con_ops : ∀ z ∈ constV, z ≠ Str.ofString "&" ∧ z ≠ Str.ofString "|" ∧ z ≠ Str.ofString "^" ∧ z ≠ Str.ofString "~" ∧ arityW z = 0 := by decide +kernel
theorem sgn_ops : (Str.ofString "|" ≠ Str.ofString "&") ∧ (Str.ofString "^" ≠ Str.ofString "&") ∧ (Str.ofString "^" ≠ Str.ofString "|") ∧ (Str.ofString "~" ≠ Str.ofString "&") ∧ (Str.ofString "~" ≠ Str.ofString "|") ∧ (Str.ofString "~" ≠ Str.ofString "^") ∧ arityW (Str.ofString "&") = 2 ∧ arityW (Str.ofString "|") = 2 ∧ arityW (Str.ofString "^") = 2 ∧ arityW (Str.ofString "~") = 1 ∧ (Str.ofString "0" ≠ Str.ofString "1") ∧ (Str.ofString "0" ∈ constV) ∧ (Str.ofString "1" ∈ constV) := by decide +kernel
theorem ev_tree {kn : Str → Bool} {zs : List Str} (hz : ∀ z ∈ zs, isName z = true) : ∀ {t : Tr}, t.Ok zs → ∀ st, evW (opW 1 fun z => if kn z then 1 else 0) t.toks st = bI (t.worth kn) :: st
  | .name z, h, st => by
    obtain ⟨n1, n2, n3, n4, n5, n6⟩ := name_ops (hz z h)
    show pushW _ z st = _
    unfold pushW
    rw [n6]
    show opW 1 _ z [] :: st = _
    unfold opW
    rw [if_neg n1, if_neg n2, if_neg n3, if_neg n4, if_neg n5]
    rfl
  | .val b, _, st => by
    obtain ⟨_, _, _, _, _, _, _, _, _, _, s1, s2, s3⟩ := sgn_ops
    cases b
    · obtain ⟨n1, n2, n3, n4, n6⟩ := con_ops _ s2
      show pushW _ (Str.ofString "0") st = _
      unfold pushW
      rw [n6]
      show opW 1 _ (Str.ofString "0") [] :: st = _
      unfold opW
      rw [if_neg n1, if_neg n2, if_neg n3, if_neg n4, if_pos s2, if_neg s1]
      rfl
    · obtain ⟨n1, n2, n3, n4, n6⟩ := con_ops _ s3
      show pushW _ (Str.ofString "1") st = _
      unfold pushW
      rw [n6]
      show opW 1 _ (Str.ofString "1") [] :: st = _
      unfold opW
      rw [if_neg n1, if_neg n2, if_neg n3, if_neg n4, if_pos s3, if_pos rfl]
      rfl
  | .neg t, h, st => by
    obtain ⟨_, _, _, a1, a2, a3, _, _, _, a4, _⟩ := sgn_ops
    have i := ev_tree (kn := kn) hz (t := t) h st
    show pushW _ (Str.ofString "~") (evW _ t.toks st) = _
    rw [i]
    unfold pushW
    rw [a4]
    show opW 1 _ (Str.ofString "~") [bI (t.worth kn)] :: st = _
    unfold opW
    rw [if_neg a1, if_neg a2, if_neg a3, if_pos rfl]
    show Builtin.bitXor (bI (t.worth kn)) 1 :: st = _
    rw [bI_not]
    rfl
  | .two o t u, h, st => by
    obtain ⟨b1, b2, b3, _, _, _, c1, c2, c3, _⟩ := sgn_ops
    have i := ev_tree (kn := kn) hz h.2.1 (evW (opW 1 fun z => if kn z then 1 else 0) u.toks st)
    have j := ev_tree (kn := kn) hz h.2.2 st
    show pushW _ o (evW _ (t.toks ++ u.toks) st) = _
    rw [evW_app, i, j]
    unfold pushW
    by_cases o1 : o = Str.ofString "&"
    · subst o1
      rw [c1]
      show opW 1 _ (Str.ofString "&") [bI (t.worth kn), bI (u.worth kn)] :: st = bI (if Str.ofString "&" = Str.ofString "&" then _ else _) :: st
      rw [if_pos rfl]
      unfold opW
      rw [if_pos rfl]
      show Builtin.bitAnd (bI (t.worth kn)) (bI (u.worth kn)) :: st = _
      rw [bI_and]
    by_cases o2 : o = Str.ofString "|"
    · subst o2
      rw [c2]
      show opW 1 _ (Str.ofString "|") [bI (t.worth kn), bI (u.worth kn)] :: st = bI (if Str.ofString "|" = Str.ofString "&" then _ else if Str.ofString "|" = Str.ofString "|" then _ else _) :: st
      rw [if_neg b1, if_pos rfl]
      unfold opW
      rw [if_neg b1, if_pos rfl]
      show Builtin.bitOr (bI (t.worth kn)) (bI (u.worth kn)) :: st = _
      rw [bI_or]
    have o3 := sgn_of h.1 o1 o2
    subst o3
    rw [c3]
    show opW 1 _ (Str.ofString "^") [bI (t.worth kn), bI (u.worth kn)] :: st = bI (if Str.ofString "^" = Str.ofString "&" then _ else if Str.ofString "^" = Str.ofString "|" then _ else _) :: st
    rw [if_neg b2, if_neg b3]
    unfold opW
    rw [if_neg b2, if_neg b3, if_pos rfl]
    show Builtin.bitXor (bI (t.worth kn)) (bI (u.worth kn)) :: st = _
    rw [bI_xor]
theorem page_worth {kvs : List (Key × Bool)} {zs : List Str} {t : Tr} {S : List Step} (hz : ∀ z ∈ zs, isName z = true) (h : t.Ok zs) (F : FrmS t.toks S) : decide (pageB kvs S = 1) = t.worth fun z => (knB kvs z).getD false := by
  have e := frm_ev 0 (opW 1 fun z => if (knB kvs z).getD false then 1 else 0) F
  rw [ev_tree hz h []] at e
  have e : pageB kvs S = bI (t.worth fun z => (knB kvs z).getD false) := by
    unfold pageB
    injection e with e _
    exact e.symm
  rw [e, bI_one]
theorem frm_vars {zs : List Str} {t : Tr} {S : List Step} (hz : ∀ z ∈ zs, isName z = true) (h : t.Ok zs) (F : FrmS t.toks S) (z : Str) : z ∈ namesS S ↔ z ∈ t.vars := by
  rw [F.names z, ← toks_vars hz h, List.mem_filter]
  simp only [sym_iff, Bool.not_eq_true', decide_eq_false_iff_not, not_or]
/-- the ascending names: of the formula, of the law -/
theorem asc_vars {zs ys xs : List Str} {t : Tr} {S : List Step} (hz : ∀ z ∈ zs, isName z = true) (h : t.Ok zs) (F : FrmS t.toks S) (a : Asc ys (namesS S)) (b : Asc xs t.vars) : ys = xs :=
  asc_eq a.up a.nd b.up b.nd fun k => (a.mem k).trans ((frm_vars hz h F k).trans (b.mem k).symm)
def fVal (C : Addr) : FT := fun ts P => ∃ (zs : List Str) (t : Tr) (ft : Tv) (n : Nat) (kvs : List (Key × Bool)), ts = [ft, .dct (blK kvs)] ∧ t.Ok zs ∧ (∀ z ∈ zs, isName z = true) ∧ FoT C n t.toks ft ∧ n ≤ 1000 ∧ (kvs.map Prod.fst).Nodup ∧ kvs.length ≤ 900 ∧ (∀ z ∈ t.vars, ∃ x, knB kvs z = some x) ∧ P (.val (.bl (t.worth fun z => (knB kvs z).getD false)))
theorem use_val {K : PySem.W.Frag} {R : Rs} {E : XK} {C : Addr} : UseT K R (spT K Rs.pure (fValue C)) E (fVal C) := fun S H ts vs Q P s i o r h k => by
  obtain ⟨zs, t, ft, n, kvs, rfl, hz, hn, ⟨S0, ys, F, l, A, rfl⟩, hl, nd, hk, hv, hp⟩ := h
  refine use_pure (E := E) S H _ vs Q P s i o r ⟨S0, ys, t.toks, kvs, rfl, F, A, by omega, nd, hk, fun z hm => hv z ((frm_vars hn hz F z).mp hm), ?_⟩ k
  rw [page_worth hn hz F]
  exact hp
end L2.Wk
namespace L2.Wk
open PySem PySem.Spec PyProof.Rows
/-! ### what is shown -/
theorem tl_mem {z : Str} : PyData.strOk z = true ↔ ∀ c ∈ TL.tl z, c < 0x110000 := by
  unfold PyData.strOk
  rw [← Array.all_toList, List.all_eq_true]
  constructor
  · intro h c hc
    exact of_decide_eq_true (h c hc)
  · intro h c hc
    exact decide_eq_true (h c hc)
theorem joinL_memT {S : List Nat} {c : Nat} : ∀ {L : List (List Nat)}, c ∈ TL.joinL S L → c ∈ S ∨ ∃ p ∈ L, c ∈ p
  | [], h => by cases h
  | [p], h => .inr ⟨p, List.mem_cons_self .., h⟩
  | p :: q :: r, h => by
    rcases List.mem_append.mp (show c ∈ p ++ (S ++ TL.joinL S (q :: r)) from h) with h | h
    · exact .inr ⟨p, List.mem_cons_self .., h⟩
    · rcases List.mem_append.mp h with h | h
      · exact .inl h
      · rcases joinL_memT h with h | ⟨x, hx, h⟩
        · exact .inl h
        · exact .inr ⟨x, List.mem_cons_of_mem _ hx, h⟩
theorem strOk_txt {ws : List Str} (h : ∀ z ∈ ws, PyData.strOk z = true) : PyData.strOk (txtW ws) = true := by
  rw [tl_mem]
  intro c hc
  unfold txtW at hc
  rw [TL.join_eq, TL.tl_join] at hc
  rcases joinL_memT hc with hc | ⟨p, hp, hc⟩
  · exact (tl_mem (z := Str.ofString " ")).mp (by decide +kernel) c hc
  · obtain ⟨z, hz, rfl⟩ := List.mem_map.mp hp
    exact (tl_mem (z := z)).mp (h z hz) c hc
theorem show_of {d : PyData} (h1 : d.canLay0 = true) (h2 : d.depth ≤ 64) (h3 : d.weight ≤ 2 ^ 20) (h4 : d.intsShort 13 = true) : SeqAt.shaped d = true ∧ d.shown.length ≤ sizeLine := by
  refine ⟨?_, ?_⟩
  · unfold SeqAt.shaped
    rw [h1, decide_eq_true h2]
    rfl
  · have := shown_le13 (d := d) (by unfold PyData.layable0; rw [h1, decide_eq_true h2, decide_eq_true h3]; rfl) h4
    have : sizeLine = 16777216 := sizeLine_eq
    omega
theorem show_str {z : Str} (h : PyData.strOk z = true) (hl : z.length ≤ 1000000) : (PyData.str z).showable = true ∧ SeqAt.shaped (.str z) = true ∧ (PyData.str z).shown.length ≤ sizeLine := by
  refine ⟨by simp [PyData.showable], show_of (by simpa [PyData.canLay0] using h) (by simp [PyData.depth]) ?_ (by simp [PyData.intsShort])⟩
  have : PyData.weight (.str z) = z.length := by simp [PyData.weight, Str.length]
  have : (2 : Nat) ^ 20 = 1048576 := by decide
  omega
theorem weight_strs : ∀ {zs : List Str}, (∀ z ∈ zs, z.length ≤ 100) → PyData.weightAll (zs.map PyData.str) ≤ 101 * zs.length
  | [], _ => by simp [PyData.weightAll]
  | z :: zs, h => by
    have h1 := h z (List.mem_cons_self ..)
    have h2 := weight_strs (zs := zs) fun x hx => h x (List.mem_cons_of_mem _ hx)
    rw [List.map_cons, List.length_cons]
    have e : PyData.weightAll (.str z :: zs.map PyData.str) = z.length + 1 + PyData.weightAll (zs.map PyData.str) := by simp [PyData.weightAll, PyData.weight, Str.length]
    rw [e]
    omega
theorem short_strs : ∀ zs : List Str, PyData.intsShortAll 13 (zs.map PyData.str) = true ∧ PyData.showableAll (zs.map PyData.str) = true
  | [] => ⟨by simp [PyData.intsShortAll], by simp [PyData.showableAll]⟩
  | z :: zs => by
    obtain ⟨h1, h2⟩ := short_strs zs
    rw [List.map_cons]
    exact ⟨by simp [PyData.intsShortAll, PyData.intsShort, h1], by simp [PyData.showableAll, PyData.showable, h2]⟩
theorem show_tup {zs : List Str} (h : ∀ z ∈ zs, PyData.strOk z = true) (hz : ∀ z ∈ zs, z.length ≤ 100) (hl : zs.length ≤ 1000) : (PyData.tuple (zs.map PyData.str)).showable = true ∧ SeqAt.shaped (.tuple (zs.map PyData.str)) = true ∧ (PyData.tuple (zs.map PyData.str)).shown.length ≤ sizeLine := by
  obtain ⟨l1, l2⟩ := lay_strs h
  obtain ⟨s1, s2⟩ := short_strs zs
  refine ⟨by simp [PyData.showable, s2], show_of (by simp [PyData.canLay0, l1]) (by simp [PyData.depth, l2]) ?_ (by simp [PyData.intsShort, s1])⟩
  have e : PyData.weight (.tuple (zs.map PyData.str)) = PyData.weightAll (zs.map PyData.str) := by simp [PyData.weight]
  have := weight_strs hz
  have : (2 : Nat) ^ 20 = 1048576 := by decide
  omega
theorem show_bool (b : Bool) : (PyData.bool b).showable = true ∧ SeqAt.shaped (.bool b) = true ∧ (PyData.bool b).shown.length ≤ sizeLine := by
  cases b <;> exact ⟨rfl, rfl, by decide +kernel⟩
theorem dp_tup (zs : List Str) : dpT (.tup (zs.map Tv.str)) = some (.tuple (zs.map PyData.str)) := by
  unfold dpT
  rw [dpTs_map Tv.str PyData.str fun _ => rfl]
  rfl
/-! ### texts put together -/
theorem joinL_snoc {a p : List Nat} : ∀ {x : List (List Nat)}, x ≠ [] → TL.joinL a (x ++ [p]) = TL.joinL a x ++ (a ++ p)
  | [], h => absurd rfl h
  | [q], _ => rfl
  | q :: r :: x, _ => by
    show q ++ (a ++ TL.joinL a (r :: x ++ [p])) = (q ++ (a ++ TL.joinL a (r :: x))) ++ (a ++ p)
    rw [joinL_snoc (x := r :: x) (by simp)]
    simp [List.append_assoc]
theorem txt_cons {o : Str} {ws : List Str} (h : ws ≠ []) : txtW (o :: ws) = o ++ (Str.ofString " " ++ txtW ws) := by
  refine TL.ext_tl ?_
  unfold txtW
  rw [TL.tl_append, TL.tl_append, TL.join_eq, TL.join_eq, TL.tl_join, TL.tl_join]
  cases ws with
  | nil => exact absurd rfl h
  | cons w ws => rfl
theorem txt_snoc {z : Str} {ws : List Str} (h : ws ≠ []) : txtW (ws ++ [z]) = txtW ws ++ (Str.ofString " " ++ z) := by
  refine TL.ext_tl ?_
  unfold txtW
  rw [TL.tl_append, TL.tl_append, TL.join_eq, TL.join_eq, TL.tl_join, TL.tl_join, List.map_append]
  exact joinL_snoc (by simpa using h)
theorem str_assoc (a b c : Str) : a ++ b ++ c = a ++ (b ++ c) := by
  refine TL.ext_tl ?_
  rw [TL.tl_append, TL.tl_append, TL.tl_append, TL.tl_append, List.append_assoc]
/-- "& " + text + " x" -/
theorem txt_bin {o o' : Str} {ws : List Str} (ho : o ++ Str.ofString " " = o') (h : ws ≠ []) : (o' ++ txtW ws) ++ Str.ofString " x" = txtW (o :: (ws ++ [Str.ofString "x"])) := by
  rw [txt_cons (by simp), txt_snoc h, ← ho]
  rw [show Str.ofString " x" = Str.ofString " " ++ Str.ofString "x" by decide +kernel]
  rw [str_assoc, str_assoc]
theorem txt_un {ws : List Str} (h : ws ≠ []) : Str.ofString "~ " ++ txtW ws = txtW (Str.ofString "~" :: ws) := by
  rw [txt_cons h, show Str.ofString "~ " = Str.ofString "~" ++ Str.ofString " " by decide +kernel, str_assoc]
theorem txt_one (z : Str) : txtW [z] = z := by
  refine TL.ext_tl ?_
  unfold txtW
  rw [TL.join_eq, TL.tl_join]
  rfl
theorem bin_lits : Str.ofString "&" ++ Str.ofString " " = Str.ofString "& " ∧ Str.ofString "|" ++ Str.ofString " " = Str.ofString "| " ∧ Str.ofString "^" ++ Str.ofString " " = Str.ofString "^ " := by decide +kernel
theorem toks_ne : ∀ t : Tr, t.toks ≠ []
  | .name z => by simp [Tr.toks]
  | .val b => by simp [Tr.toks]
  | .neg t => by simp [Tr.toks]
  | .two o t u => by simp [Tr.toks]
theorem sym_ok : ∀ z ∈ symT, PyData.strOk z = true ∧ z.length ≤ 1 := by decide +kernel
theorem toks_all {zs : List Str} {t : Tr} (h : t.Ok zs) (hz : ∀ z ∈ zs, PyData.strOk z = true ∧ z.length ≤ 50) : ∀ z ∈ t.toks, PyData.strOk z = true ∧ z.length ≤ 50 := fun z hm => by
  rcases List.mem_append.mp (toks_in h z hm) with hm | hm
  · exact hz z hm
  · exact ⟨(sym_ok z hm).1, by have := (sym_ok z hm).2; omega⟩
theorem txt_le {ws : List Str} {b : Nat} (h : ∀ z ∈ ws, z.length ≤ b) : (txtW ws).length ≤ (b + 1) * ws.length := by
  have h1 := txt_len ws
  have h2 := sum_leG (c := b) (l := ws) h
  rw [Nat.add_mul, Nat.one_mul]
  omega
end L2.Wk
namespace L2.Wk
open PySem PySem.Spec PyProof.Rows
local macro_rules | `(tactic| walk_at "tsr1") => `(tactic| first
  | exact q_tsr_next | exact q_ter_var _ | exact q_ter_c _ | exact q_tar_nil | exact q_tsr_retN | exact q_tsr_break | exact q_tsr_cont | exact q_tsr_never | exact q_tbr_yes | exact q_tor_none | exact q_tgsr_nil | exact q_tgr_name _ | exact q_ter_dnew | exact q_ter_dnewT | exact q_tpr_nil | exact q_ter_pop
  | exact opt_cmp | exact opt_I0 | exact opt_I | exact opt_eq | exact opt_ne | exact opt_eqD | exact opt_neD | exact opt_ixL | exact opt_ixT | exact opt_ixS | exact opt_in | exact opt_notIn | exact opt_inS | exact opt_addS | exact opt_cat | exact opt_catA | exact opt_kd | exact opt_notkd | exact opt_isN | exact opt_notN | exact opt_isB | exact opt_notB | exact unt_U
  | exact cbt_len | exact cbt_all | exact cbt_any | exact cbt_abs | exact cbt_int | exact cbt_bool | exact cbt_strI | exact cbt_strS | exact cbt_list | exact cbt_tuple | exact cbt_dict | exact cbt_isi | exact cbt_repr
  | exact m1t_split | exact m1t_partition | exact m1t_join | exact slt_L | exact slt_S | exact slt_T | exact slt_TA
  | apply q_tsr_augS use_self | apply q_tsr_augS use_pure | apply q_tsr_augS (by assumption)
  | apply q_tsr_seq | apply q_tsr_ret | apply q_tsr_if | apply q_tsr_set | apply q_tsr_dset | apply q_tsr_fld | apply q_tsr_augI | apply q_tsr_parN | apply q_tsr_par | apply q_tsr_par3 | apply q_tsr_asg | apply q_tsr_drop | apply q_tsr_for | apply q_tsr_while | (apply q_tsr_tryC; intro _) | apply q_tsr_raiseG (fun _ _ _ _ h => h)
  | apply q_tar_cons | apply q_tar_star | apply q_ter_append | apply q_ter_extend | apply q_ter_popAt
  | exact q_ter_kb | apply q_ter_tup | apply q_ter_lst | apply q_ter_disp | apply q_tpr_cons | apply q_ter_dc | apply q_ter_kget2 | apply q_ter_eqOwn | apply q_ter_neOwn | apply q_ter_opOwn | apply q_ter_unOwn | apply q_ter_strOwn | apply q_ter_lenOwn | apply q_ter_sortB | apply q_ter_sortL | apply q_ter_prop | apply q_ter_cmeth use_self | apply q_ter_cmeth use_pure | apply q_ter_cmeth (by assumption) | (apply q_ter_cmethS; rfl) | (apply q_ter_cmethX; (intro _; rfl)) | apply q_ter_makeL (fun _ => usei_self) | apply q_ter_makeL (fun _ => usei_pure) | (apply q_ter_makeLX; rfl) | apply q_ter_make usei_self | apply q_ter_make usei_pure | (apply q_ter_makeS; rfl) | apply q_ter_chain | apply q_ter_call use_self | apply q_ter_call use_pure | apply q_ter_call (by assumption) | (apply q_ter_callX; (intro _; rfl)) | (apply q_ter_makeX; (intro _; rfl)) | apply q_ter_call | apply q_ter_meth | apply q_ter_make | apply q_ter_fld | apply q_ter_sl | apply q_ter_rev | apply q_ter_m1 | apply q_ter_dget | apply q_ter_din | apply q_ter_dnotin | apply q_ter_lc | apply q_ter_andV | apply q_ter_orV | apply q_ter_notV | apply q_ter_if
  | apply q_ter_cb1 | apply q_ter_cb2 | apply q_ter_op | apply q_ter_un
  | apply q_tor_some
  | apply q_tbr_test | apply q_tbr_b | apply q_tbr_and | apply q_tbr_or | apply q_tbr_not | apply q_tbr_truth
  | apply q_tir_list | apply q_tir_tup | apply q_tir_seq | apply q_tir_str | apply q_tir_rng1 | apply q_tir_rng2 | apply q_tir_rng3 | apply q_tir_enumL | apply q_tir_enumT | apply q_tir_enumK | apply q_tir_zipL | apply q_tir_zipM
  | apply q_tgr_tup | apply q_tgr_unl | apply q_tgsr_cons
  | exact tgw_name (by simp) | exact tgm_name _ | apply tgw_tup | apply tgm_tup | exact tgsw_nil | exact tgsm_nil | apply tgsw_cons | apply tgsm_cons
  | exact fun _ => Reps.nil | assumption | exact use_self | exact use_pure | exact usei_self | exact usei_pure | exact fun _ => usei_pure | exact usex_pure | exact fun _ => usex_pure | exact useix_pure | exact fun _ => useix_pure | (intro _; assumption))
local macro_rules | `(tactic| walk_at "tsr") => `(tactic| repeat' (walk_at "tsr1"))
abbrev s_law : Stmt := top 43
abbrev N_law : List Str := ["_law_script", "_law_deal", "_law_turn", "_law_names_here", "_law_tree_here", "_law_made_here", "_law_known", "_law_more", "_law_other", "_law_kept", "_law_found", "_law_word", "_law_one"]
theorem sc_law : FnScope N_law ["_law_script"] (defScope s_law) := ⟨rfl, rfl, rfl, by decide +kernel, rfl, by decide +kernel, by decide +kernel⟩
structure Lw where
  source : Addr
  words : Addr
  value : Addr
structure TxtLw (K : PySem.W.Frag) (mg : Str → Option Value) (lt : Lt) (c : Fg) (o : Fo) (lw : Lw) (cd : ClassData) : Prop extends TxtFo K mg lt c o where
  b_range : mg "range" = none
  b_repr : mg "repr" = none
  b_isinstance : mg "isinstance" = none
  b_tuple : mg "tuple" = none
  g__law_source : mg "_law_source" = some (.ref lw.source)
  k__law_source : PySem.W.keepIn K (.ref lw.source) = true
  g__law_words : mg "_law_words" = some (.ref lw.words)
  k__law_words : PySem.W.keepIn K (.ref lw.words) = true
  clF : Cls K c.Formula
  n_steps : NoAttr K c.Formula "steps"
  n_names : NoAttr K c.Formula "names"
  m_value : Meth K c.Formula "value" lw.value
  a_Formula_str : PySem.W.findIn K (.ref c.Formula) "__str__" = some (some (.ref c.str))
  i_Formula_str : PySem.W.isFn K (.ref c.str) = true
  c_Formula : PySem.W.clsIn K c.Formula = some cd
  co_Formula : cd.mro = [.ref c.Formula, .type "object"]
  ia_Formula_and : PySem.W.findIn K (.ref c.Formula) "__iand__" = some none
  ia_Formula_or : PySem.W.findIn K (.ref c.Formula) "__ior__" = some none
  ia_Formula_xor : PySem.W.findIn K (.ref c.Formula) "__ixor__" = some none
  isF : IsC K c.Formula
  kit_FF : PySem.W.kitOne K (.ref c.Formula) (.ref c.Formula) = some true
def spLaw (K : PySem.W.Frag) : Sp := fun vs H Q _ => ∃ (s : Addr) (ns : List Int), vs = [.ref s] ∧ SqL K H s (ns.map V.int) ∧ ns.length ≤ 63 ∧ ∀ H', Q (.bl true) H'
theorem pool_ok : ∀ z ∈ poolW, isName z = true ∧ z.length ≤ 4 ∧ PyData.strOk z = true := by decide +kernel
theorem eqvAll_strs : ∀ zs : List Str, PyData.eqvAll (zs.map PyData.str) (zs.map PyData.str) = true
  | [] => by simp [PyData.eqvAll]
  | z :: zs => by
    rw [List.map_cons]
    simp [PyData.eqvAll, PyData.eqv, eqvAll_strs zs]
theorem eqv_strs (zs : List Str) : PyData.eqv (.list (zs.map PyData.str)) (.list (zs.map PyData.str)) = true := by
  simp [PyData.eqv, eqvAll_strs]
theorem nodup_inr {ns : List Str} (h : ns.Nodup) : (ns.map fun n => (Sum.inr n : Key)).Nodup := by
  induction ns with
  | nil => exact List.nodup_nil
  | cons n ns ih =>
    rw [List.nodup_cons] at h
    rw [List.map_cons, List.nodup_cons]
    refine ⟨fun m => ?_, ih h.2⟩
    obtain ⟨z, hz, e⟩ := List.mem_map.mp m
    cases e
    exact h.1 hz
theorem knB_some {kvs : List (Key × Bool)} {z : Str} (h : (Sum.inr z : Key) ∈ kvs.map Prod.fst) : ∃ b, knB kvs z = some b := by
  unfold knB
  cases e : kvs.find? fun p => decide (p.1 = (Sum.inr z : Key)) with
  | some p => exact ⟨p.2, rfl⟩
  | none =>
    obtain ⟨p, hp, ep⟩ := List.mem_map.mp h
    have := List.find?_eq_none.mp e p hp
    exact absurd (decide_eq_true ep) (by simpa using this)
theorem knB_app {kvs : List (Key × Bool)} {l : List (Key × Bool)} {z : Str} {b : Bool} (h : knB kvs z = some b) : knB (kvs ++ l) z = some b := by
  unfold knB at *
  obtain ⟨p, h1, h2⟩ := Option.map_eq_some_iff.mp h
  rw [List.find?_append, h1]
  exact congrArg some h2
theorem worth_ext {kn kn' : Str → Bool} : ∀ {t : Tr}, (∀ z ∈ t.vars, kn z = kn' z) → t.worth kn = t.worth kn'
  | .name z, h => h z (List.mem_singleton.mpr rfl)
  | .val b, _ => rfl
  | .neg t, h => by
    show (!t.worth kn) = !t.worth kn'
    rw [worth_ext (t := t) h]
  | .two o t u, h => by
    have h1 := worth_ext (t := t) fun z hz => h z (List.mem_append_left _ hz)
    have h2 := worth_ext (t := u) fun z hz => h z (List.mem_append_right _ hz)
    show (if _ then (t.worth kn && u.worth kn) else if _ then (t.worth kn || u.worth kn) else !decide (t.worth kn = u.worth kn)) = _
    rw [h1, h2]
    rfl
theorem filt_take (f : Str → Bool) (ys : List Str) (j : Nat) (z : Str) (h : ys[j]? = some z) : (ys.take (j + 1)).filter f = (ys.take j).filter f ++ (if f z = true then [z] else []) := by
  rw [List.take_add_one, h, List.filter_append]
  congr 1
  cases e : f z <;> simp [e]
theorem cutL_mapT {α β : Type} (f : α → β) (xs : List α) (lo hi : Option Int) : cutL (xs.map f) lo hi = (cutL xs lo hi).map f := by
  unfold cutL
  rw [List.length_map, List.map_take, List.map_drop]
section
variable {P : Program} {w : World} {K : PySem.W.Frag} {mg : Str → Option Value} {base : Heap} {lt : Lt} {c : Fg} {o : Fo} {lw : Lw} {cd : ClassData} {f : Addr} {fd : FuncData}
theorem ok_law {f1 f2 f3 f4 f5 f6 f7 f8 f9 g1 g2 g3 g4 g5 g6 : FuncData} (F : Fun K "law" "law" s_law f fd) (T : TxtLw K mg lt c o lw cd)
    (G__law_source : FnOk P w K mg base CX0 1 lw.source f1 ["_law_script", "_law_base"] (spSourceA K)) (b__law_source : Binds K f1 ["_law_script", "_law_base"] [])
    (G__law_draw : FnOk P w K mg base CX0 1 lt.draw f2 ["_law_deal", "_law_wide"] spDrawA) (b__law_draw : Binds K f2 ["_law_deal", "_law_wide"] [])
    (G__law_words : FnOk P w K mg base CX0 3 lw.words f3 ["_law_deal", "_law_many"] spWordsN) (b__law_words : Binds K f3 ["_law_deal", "_law_many"] [])
    (G__law_tree : FnOk P w K mg base CX0 10 lt.tree f4 ["_law_deal", "_law_names_here", "_law_many", "_law_deep"] (spD K (fTree 7))) (b__law_tree : Binds K f4 ["_law_deal", "_law_names_here", "_law_many", "_law_deep"] [])
    (G__law_made : FnOk P w K mg base CX0 13 lt.made f5 ["_law_tree_here"] (spT K Rs.pure (fMade c.Formula 8))) (b__law_made : Binds K f5 ["_law_tree_here"] [])
    (G__law_tokens : FnOk P w K mg base CX0 21 lt.toks f6 ["_law_tree_here"] (spT K Rs.pure (fToks 20))) (b__law_tokens : Binds K f6 ["_law_tree_here"] [])
    (G__law_names : FnOk P w K mg base CX0 22 lt.names f7 ["_law_tree_here"] (spT K Rs.pure fNamesL)) (b__law_names : Binds K f7 ["_law_tree_here"] [])
    (G__law_worth : FnOk P w K mg base CX0 9 lt.worth f8 ["_law_tree_here", "_law_known"] (spT K Rs.pure (fWorth 8))) (b__law_worth : Binds K f8 ["_law_tree_here", "_law_known"] [])
    (G__law_all : FnOk P w K mg base CX0 1 lt.all f9 ["_law_names_here"] (spT K Rs.pure fAllK)) (b__law_all : Binds K f9 ["_law_names_here"] [])
    (R_Formula_of : FnR P w K mg base CX0 4 o.fof (spT K Rs.pure (fOf c.Formula))) (R_Formula_always : FnR P w K mg base CX0 4 o.fal (spT K Rs.pure (fAlways c.Formula)))
    (G_Formula_and : FnOk P w K mg base CX0 4 o.and g1 ["self", "other"] (spT K Rs.pure (fBin c.Formula "&"))) (b_Formula_and : Binds K g1 ["self", "other"] [])
    (G_Formula_or : FnOk P w K mg base CX0 4 o.or g2 ["self", "other"] (spT K Rs.pure (fBin c.Formula "|"))) (b_Formula_or : Binds K g2 ["self", "other"] [])
    (G_Formula_xor : FnOk P w K mg base CX0 4 o.xor g3 ["self", "other"] (spT K Rs.pure (fBin c.Formula "^"))) (b_Formula_xor : Binds K g3 ["self", "other"] [])
    (G_Formula_invert : FnOk P w K mg base CX0 4 o.inv g4 ["self"] (spT K Rs.pure (fInv c.Formula))) (b_Formula_invert : Binds K g4 ["self"] [])
    (G_Formula_str : FnOk P w K mg base CX0 2 c.str g5 ["self"] (spT K Rs.pure (fStr c.Formula))) (b_Formula_str : Binds K g5 ["self"] [])
    (G_value : FnOk P w K mg base CX0 4 lw.value g6 ["self", "known"] (spT K Rs.pure (fValue c.Formula))) (b_value : Binds K g6 ["self", "known"] []) :
    FnG P w K mg base CX0 25 f fd ["_law_script"] (spLaw K) := by
  refine okG F sc_law (fun vs H Q E h => ?_) (fun cdv A outer s H vs Q E hA hr h => ?_)
  · obtain ⟨_, _, rfl, _⟩ := h
    rfl
  obtain ⟨sa, ns, rfl, hS, hlen, k⟩ := h
  have hu : (A.deeper (envOfC "law" (defScope s_law) s.heap.objs.size f cdv)).units + 66 < cLine := by have := hr.un; omega
  have rest : ∃ t, PSs (cxOf CX0 P w K mg base N_law "law" (defScope s_law) f cdv A outer s H E).nox ((defBody s_law).drop 1) t ∧
      ∀ (d l : Addr) (H1 : Hp), DealA H1 d l → t { nx := fun _ H' => Q .non H', rt := Q } (start N_law [.ref sa, .ref d]) H1 := by
    refine ⟨_, (pss_cons (ps_for PassesOwn.never rfl (pi_range1 rfl T.b_range (pa_cons pe_int pa_nil)) (pg_name (i := 2) sc_law.nd rfl (Or.inl rfl))
      (pss_cons (ps_set (i := 3) sc_law.nd rfl (Or.inl rfl) (pe_op op_cat (pe_lst (pa_cons pe_str pa_nil)) (pe_slice sl_list (pe_lc (own := [("_law_word", 11)]) (g := gName 11) rfl sc_law.nd (pi_list (pe_call G__law_words (hr.mono (by decide)) rfl T.g__law_words T.k__law_words b__law_words .nil pass0 (pa_cons (pv 1) (pa_cons pe_int pa_nil)))) (blkOk_by (N := N_law) (sc := defScope s_law) (by decide +kernel)) (fun _ _ _ _ _ => (pg_name (i := 11) sc_law.nd rfl (Or.inl rfl))) (fun _ _ _ _ _ => (pts_one (pt_cmpR op_ne (pv 11) pe_str (nomark _)))) (fun _ _ _ _ _ => (pv 11))) po_none (po_some pe_int))))
      (pss_cons (ps_set (i := 4) sc_law.nd rfl (Or.inl rfl) (pe_call G__law_tree (hr.mono (by decide)) rfl T.g__law_tree T.k__law_tree b__law_tree .nil pass0 (pa_cons (pv 1) (pa_cons (pv 3) (pa_cons (pe_op op_add pe_int (pe_call G__law_draw (hr.mono (by decide)) rfl T.g__law_draw T.k__law_draw b__law_draw .nil pass0 (pa_cons (pv 1) (pa_cons pe_int pa_nil)))) (pa_cons pe_int pa_nil))))))
      (pss_cons (ps_set (i := 5) sc_law.nd rfl (Or.inl rfl) (pe_call G__law_made (hr.mono (by decide)) rfl T.g__law_made T.k__law_made b__law_made .nil pass0 (pa_cons (pv 4) pa_nil)))
      (pss_cons (ps_if (PW.pt (pw_or (pt_not (pt_val (pe_callB call_isi (by rfl) T.b_isinstance (by decide +kernel) (pa_cons (pv 5) (pa_cons (pe_gr rfl T.g_Formula) pa_nil))))) (pw_or1 (pt_cmpR op_ne (pe_callB (call_reprD hA hu) (by rfl) T.b_repr (by decide +kernel) (pa_cons (pe_callTy (call_strOwn (E := E0) T.a_Formula_str T.i_Formula_str G_Formula_str b_Formula_str (hr.mono (by decide)) pass0) (by rfl) T.b_str (by decide +kernel) (pa_cons (pv 5) pa_nil)) pa_nil)) (pe_callB (call_reprD hA hu) (by rfl) T.b_repr (by decide +kernel) (pa_cons (pe_join pe_str (pe_call G__law_tokens (hr.mono (by decide)) rfl T.g__law_tokens T.k__law_tokens b__law_tokens .nil pass0 (pa_cons (pv 4) pa_nil))) pa_nil)) (nomark _))))) (pss_one (ps_ret pe_bl)) pss_nil)
      (pss_cons (ps_if (pt_cmpR op_ne (pe_callB (call_reprD hA hu) (by rfl) T.b_repr (by decide +kernel) (pa_cons (pe_fld (pv 5) rfl) pa_nil)) (pe_callB (call_reprD hA hu) (by rfl) T.b_repr (by decide +kernel) (pa_cons (pe_callTy call_tupS (by rfl) T.b_tuple (by decide +kernel) (pa_cons (pe_call G__law_names (hr.mono (by decide)) rfl T.g__law_names T.k__law_names b__law_names .nil pass0 (pa_cons (pv 4) pa_nil)) pa_nil)) pa_nil)) (nomark _)) (pss_one (ps_ret pe_bl)) pss_nil)
      (pss_cons (ps_for PassesOwn.never rfl (pi_list (pe_call G__law_all (hr.mono (by decide)) rfl T.g__law_all T.k__law_all b__law_all .nil pass0 (pa_cons (pe_call G__law_names (hr.mono (by decide)) rfl T.g__law_names T.k__law_names b__law_names .nil pass0 (pa_cons (pv 4) pa_nil)) pa_nil))) (pg_name (i := 6) sc_law.nd rfl (Or.inl rfl))
      (pss_cons (ps_set (i := 7) sc_law.nd rfl (Or.inl rfl) (pe_callTy call_dictD (by rfl) T.b_dict (by decide +kernel) (pa_cons (pv 6) pa_nil)))
      (pss_cons (ps_asg (pe_cmpR op_eq (pe_call G__law_draw (hr.mono (by decide)) rfl T.g__law_draw T.k__law_draw b__law_draw .nil pass0 (pa_cons (pv 1) (pa_cons pe_int pa_nil))) pe_int (nomark _)) (pg_sub (pv 7) pe_str (set_dict (Nat.lt_of_le_of_lt (Nat.add_le_add_left (by decide : 1 ≤ 64) _) hr.units))))
      (pss_one (ps_if (PW.pt (pw_or (pt_cmpR op_ne (pe_callB (call_reprD hA hu) (by rfl) T.b_repr (by decide +kernel) (pa_cons (pe_meth (pv 5) T.clF T.m_value G_value (hr.mono (by decide)) b_value .nil (E := E0) pass0 (pa_cons (pv 6) pa_nil)) pa_nil)) (pe_callB (call_reprD hA hu) (by rfl) T.b_repr (by decide +kernel) (pa_cons (pe_call G__law_worth (hr.mono (by decide)) rfl T.g__law_worth T.k__law_worth b__law_worth .nil pass0 (pa_cons (pv 4) (pa_cons (pv 6) pa_nil))) pa_nil)) (nomark _)) (pw_or1 (pt_cmpR op_ne (pe_meth (pv 5) T.clF T.m_value G_value (hr.mono (by decide)) b_value .nil (E := E0) pass0 (pa_cons (pv 7) pa_nil)) (pe_meth (pv 5) T.clF T.m_value G_value (hr.mono (by decide)) b_value .nil (E := E0) pass0 (pa_cons (pv 6) pa_nil)) (nomark _))))) (pss_one (ps_ret pe_bl)) pss_nil)))))
      (pss_cons (ps_par (i := 8) (j := 9) rfl sc_law.nd rfl rfl (by decide) rfl rfl (pa_cons (ClX.pe_cmeth (pe_gr rfl T.g_Formula) T.cr_Formula T.cm_Formula_of R_Formula_of (hr.mono (by decide)) (E := E0) pass0 (pa_cons pe_str pa_nil)) (pa_cons (pe_callTy (call_strOwn (E := E0) T.a_Formula_str T.i_Formula_str G_Formula_str b_Formula_str (hr.mono (by decide)) pass0) (by rfl) T.b_str (by decide +kernel) (pa_cons (pv 5) pa_nil)) pa_nil)) rfl)
      (pss_cons (ps_set (i := 10) sc_law.nd rfl (Or.inl rfl) (pe_lst (pa_cons (pv 5) (pa_cons (pv 5) (pa_cons (pv 5) pa_nil)))))
      (pss_cons (ps_augS (pv 10) pe_int pget_list (pv 8) (ip_andOwn (E := E0) T.c_Formula T.co_Formula T.ia_Formula_and T.a_Formula_and T.i_Formula_and G_Formula_and b_Formula_and (hr.mono (by decide)) pass0) set_list)
      (pss_cons (ps_augS (pv 10) pe_int pget_list (pv 8) (ip_orOwn (E := E0) T.c_Formula T.co_Formula T.ia_Formula_or T.a_Formula_or T.i_Formula_or G_Formula_or b_Formula_or (hr.mono (by decide)) pass0) set_list)
      (pss_cons (ps_augS (pv 10) pe_int pget_list (pv 8) (ip_xorOwn (E := E0) T.c_Formula T.co_Formula T.ia_Formula_xor T.a_Formula_xor T.i_Formula_xor G_Formula_xor b_Formula_xor (hr.mono (by decide)) pass0) set_list)
      (pss_cons (ps_if (pt_cmpR (op_neD hr.units) (pe_lc (own := [("_law_one", 12)]) (g := gName 12) (tt := tYes) rfl sc_law.nd (pi_list (pv 10)) (blkOk_by (N := N_law) (sc := defScope s_law) (by decide +kernel)) (fun _ _ _ _ _ => (pg_name (i := 12) sc_law.nd rfl (Or.inl rfl))) (fun _ _ _ _ _ => pts_nil) (fun _ _ _ _ _ => (pe_callTy (call_strOwn (E := E0) T.a_Formula_str T.i_Formula_str G_Formula_str b_Formula_str (hr.mono (by decide)) pass0) (by rfl) T.b_str (by decide +kernel) (pa_cons (pv 12) pa_nil)))) (pe_lst (pa_cons (pe_op op_add_str (pe_op op_add_str pe_str (pv 9)) pe_str) (pa_cons (pe_op op_add_str (pe_op op_add_str pe_str (pv 9)) pe_str) (pa_cons (pe_op op_add_str (pe_op op_add_str pe_str (pv 9)) pe_str) pa_nil)))) (nomark _)) (pss_one (ps_ret pe_bl)) pss_nil)
      (pss_one (ps_if (PW.pt (pw_or (pt_cmpR op_ne (pe_callTy (call_strOwn (E := E0) T.a_Formula_str T.i_Formula_str G_Formula_str b_Formula_str (hr.mono (by decide)) pass0) (by rfl) T.b_str (by decide +kernel) (pa_cons (pv 5) pa_nil)) (pv 9) (nomark _)) (pw_or (pt_cmpR op_ne (pe_callTy (call_strOwn (E := E0) T.a_Formula_str T.i_Formula_str G_Formula_str b_Formula_str (hr.mono (by decide)) pass0) (by rfl) T.b_str (by decide +kernel) (pa_cons (pv 8) pa_nil)) pe_str (nomark _)) (pw_or1 (pt_cmpR op_ne (pe_callTy (call_strOwn (E := E0) T.a_Formula_str T.i_Formula_str G_Formula_str b_Formula_str (hr.mono (by decide)) pass0) (by rfl) T.b_str (by decide +kernel) (pa_cons (pe_un (un_invOwn (E := E0) T.a_Formula_invert T.i_Formula_invert G_Formula_invert b_Formula_invert (hr.mono (by decide)) pass0) (pv 5)) pa_nil)) (pe_op op_add_str pe_str (pv 9)) (nomark _)))))) (pss_one (ps_ret pe_bl)) pss_nil)))))))))))))))
    (pss_one (ps_ret (pe_cmpR (op_eqD hr.units) (pe_lst (pa_cons (pe_callTy (call_strOwn (E := E0) T.a_Formula_str T.i_Formula_str G_Formula_str b_Formula_str (hr.mono (by decide)) pass0) (by rfl) T.b_str (by decide +kernel) (pa_cons (ClX.pe_cmeth (pe_gr rfl T.g_Formula) T.cr_Formula T.cm_Formula_always R_Formula_always (hr.mono (by decide)) (E := E0) pass0 (pa_cons pe_bl pa_nil)) pa_nil)) (pa_cons (pe_callTy (call_strOwn (E := E0) T.a_Formula_str T.i_Formula_str G_Formula_str b_Formula_str (hr.mono (by decide)) pass0) (by rfl) T.b_str (by decide +kernel) (pa_cons (ClX.pe_cmeth (pe_gr rfl T.g_Formula) T.cr_Formula T.cm_Formula_always R_Formula_always (hr.mono (by decide)) (E := E0) pass0 (pa_cons pe_bl pa_nil)) pa_nil)) (pa_cons (pe_fld (ClX.pe_cmeth (pe_gr rfl T.g_Formula) T.cr_Formula T.cm_Formula_always R_Formula_always (hr.mono (by decide)) (E := E0) pass0 (pa_cons pe_bl pa_nil)) rfl) pa_nil)))) (pe_lst (pa_cons pe_str (pa_cons pe_str (pa_cons (pe_tup pa_nil) pa_nil)))) (nomark _))))), fun d l H1 D => ?_⟩
    have U1 := use_draw (K := K) (d := d) (l := l) (E := E0)
    have U2 := use_wordsN (K := K) (d := d) (l := l) (E := E0)
    have U3 := use_deal (K := K) (d := d) (l := l) (E := E0) (f := fTree 7)
    have U4 := use_val (K := K) (R := dealR d l) (E := E0) (C := c.Formula)
    refine fn_treeq (K := K) (R := dealR d l) (S := fun _ => none) (ts := [.adr sa, .adr d]) (P := fun r => r = .val (.bl true)) exok_deal (by walk_at "tsr") (fun _ _ e => by cases e) D (fun _ _ => rfl) (.cons (.adr _) (.cons (.adr _) .nil)) (fun r v S' H' _ hr e => ?_) ?_
    · subst e
      cases hr
      exact k _
    clear k hS hr
    refine ⟨by decide, by decide, fun i τ => ∃ v2 v3 v4 v5 v6 v7 v8 v9 v10 v11 v12 : Option Sl, τ = [some (.val (.adr sa)), some (.val (.adr d)), v2, v3, v4, v5, v6, v7, v8, v9, v10, v11, v12], ⟨none, none, none, none, none, none, none, none, none, none, none, rfl⟩, ?_, ?_⟩
    · rintro i x τ _ ⟨v2, v3, v4, v5, v6, v7, v8, v9, v10, v11, v12, rfl⟩
      refine ⟨fewL rfl, 5, rfl, by decide, fun ys yl yp => ?_⟩
      refine ⟨by rw [List.length_map]; exact len1000 (by omega), fun j acc => acc = ((ys.take j).filter fun z => !decide (z = Str.ofString "x")).map Tv.str, rfl, ?_, ?_⟩
      · rintro j u acc hj rfl
        rw [List.getElem?_map] at hj
        obtain ⟨z, hz, rfl⟩ := Option.map_eq_some_iff.mp hj
        have tk := filt_take (fun z => !decide (z = Str.ofString "x")) ys j z hz
        refine eqS_str ?_
        cases e : decide (z = Str.ofString "x") with
        | true =>
          refine ⟨rfl, ?_⟩
          show _ = List.map Tv.str _
          rw [tk, e]
          simp
        | false =>
          refine ⟨rfl, ?_⟩
          show _ = List.map Tv.str _
          rw [tk, e]
          simp
      rintro acc rfl
      rw [List.length_map, List.take_length]
      obtain ⟨zs, ez, zne, zl, zp⟩ : ∃ zs : List Str, [Tv.str (Str.ofString "x")] ++ cutL ((ys.filter fun z => !decide (z = Str.ofString "x")).map Tv.str) none (some 4) = zs.map Tv.str ∧ zs ≠ [] ∧ zs.length ≤ 5 ∧ ∀ z ∈ zs, z ∈ poolW := by
        refine ⟨Str.ofString "x" :: cutL (ys.filter fun z => !decide (z = Str.ofString "x")) none (some 4), ?_, by simp, ?_, fun z hz => ?_⟩
        · rw [cutL_mapT]
          rfl
        · rw [List.length_cons]
          have := cutL_len0 (ys.filter fun z => !decide (z = Str.ofString "x")) 4
          have : (cutL (ys.filter fun z => !decide (z = Str.ofString "x")) none (some 4)).length = min 4 (ys.filter fun z => !decide (z = Str.ofString "x")).length := this
          omega
        · rcases List.mem_cons.mp hz with rfl | hz
          · decide +kernel
          · exact yp z (List.mem_filter.mp (cutL_mem hz)).1
      refine ⟨by rw [← List.length_append, ez, List.length_map]; exact len1000 (by omega), ?_⟩
      rw [ez]
      clear ez yp yl
      refine ⟨18, rfl, by decide, by decide, fun r r0 r1 => ?_⟩
      obtain ⟨m, rfl⟩ := Int.eq_ofNat_of_zero_le r0
      have hzn : ∀ z ∈ zs, isName z = true ∧ z.length ≤ 50 := fun z hz => ⟨(pool_ok z (zp z hz)).1, by have := (pool_ok z (zp z hz)).2.1; omega⟩
      have hzi : ∀ z ∈ zs, isName z = true := fun z hz => (hzn z hz).1
      refine ⟨zs, 1 + m, ?_, zne, by omega, fun z hz => (pool_ok z (zp z hz)).2.2, by omega, by omega, fun t td tl tok => ?_⟩
      · show [Tv.adr d, Tv.lst (zs.map Tv.str), Tv.int (1 + (m : Int)), Tv.int 7] = [Tv.adr d, Tv.lst (zs.map Tv.str), Tv.int ((1 + m : Nat) : Int), Tv.int ((7 : Nat) : Int)]
        rw [show 1 + (m : Int) = ((1 + m : Nat) : Int) by omega]
        rfl
      refine ⟨zs, t, rfl, tok, hzn, by omega, by omega, by omega, fun ft hft => ?_⟩
      obtain ⟨S0, ns0, F0, l0, A0, rfl⟩ := hft
      have fo : FoT c.Formula t.toks.length t.toks (.ins c.Formula (formT S0 ns0)) := ⟨S0, ns0, F0, l0, A0, rfl⟩
      have ta := toks_all tok fun z hz => ⟨(pool_ok z (zp z hz)).2.2, (hzn z hz).2⟩
      have ta2 : ∀ z ∈ t.toks, z.length ≤ 50 := fun z hz => (ta z hz).2
      have st := strOk_txt fun z hz => (ta z hz).1
      have tx := txt_le ta2
      have tn := toks_ne t
      have t19 : t.toks.length ≤ 18 := by omega
      have tx1 : (txtW t.toks).length ≤ 1000 := by
        have : (50 + 1) * t.toks.length ≤ 51 * 18 := Nat.mul_le_mul_left _ t19
        omega
      obtain ⟨w1, w2, w3⟩ := show_str st (by omega)
      refine ⟨.adr _, fun _ => .adr _, T.isF, getK_of T.kit_FF ?_⟩
      refine ⟨rfl, t.toks.length, t.toks, _, rfl, fo, by omega, by omega, ta2, w1, w2, w3, ?_⟩
      refine ⟨zs, t, rfl, tok, by omega, by omega, ?_⟩
      refine getK_of (strsT_map _) ⟨?_, w1, w2, w3, eqS_same ?_⟩
      · have := sum_leG (c := 50) (l := t.toks) ta2
        rw [show (Str.ofString " ").length = 1 by decide +kernel]
        omega
      -- names
      have nz : ∀ z ∈ ns0, z ∈ zs := fun z hz => vars_ok tok z ((frm_vars hzi tok F0 z).mp ((A0.mem z).mp hz))
      have nl : ns0.length ≤ zs.length := few_len A0.nd nz
      obtain ⟨v1, v2', v3'⟩ := show_tup (zs := ns0) (fun z hz => (pool_ok z (zp z (nz z hz))).2.2) (fun z hz => by have := (hzn z (nz z hz)).2; omega) (by omega)
      refine ⟨⟨T.clF, T.n_names⟩, getK_of rfl (getK_of (dp_tup ns0) ⟨v1, v2', v3', ?_⟩)⟩
      refine ⟨zs, t, rfl, tok, hzi, by omega, by omega, fun xs hxs => ?_⟩
      obtain rfl : ns0 = xs := asc_vars hzi tok F0 A0 hxs
      refine getK_of (dp_tup ns0) ⟨v1, v2', v3', eqS_same ?_⟩
      refine ⟨zs, t, rfl, tok, hzi, by omega, by omega, fun xs hxs => ?_⟩
      have exs : ns0 = xs := asc_vars hzi tok F0 A0 hxs
      subst exs
      refine ⟨ns0, rfl, by omega, A0.nd, ?_⟩
      refine ⟨fun j τ => ∃ v6 v7 : Option Sl, τ = [some (.val (.adr sa)), some (.val (.adr d)), some (.val x), some (.val (.lst (zs.map Tv.str))), some (.val (trV t)), some (.val (.ins c.Formula (formT S0 ns0))), v6, v7, v8, v9, v10, none, v12], ⟨v6, v7, rfl⟩, ?_, ?_⟩
      · rintro j u τ hj ⟨v6, v7, rfl⟩
        rw [List.getElem?_map] at hj
        obtain ⟨kvs, hk, rfl⟩ := Option.map_eq_some_iff.mp hj
        have km := List.mem_of_getElem? hk
        have kk := allK_keys ns0 kvs km
        have kn : kvs.length ≤ 5 := by
          have := congrArg List.length kk
          rw [List.length_map, List.length_map] at this
          omega
        have knd : (kvs.map Prod.fst).Nodup := by rw [kk]; exact nodup_inr A0.nd
        have zno : Str.ofString "zzzy" ∉ poolW := by decide +kernel
        have nin : (Sum.inr (Str.ofString "zzzy") : Key) ∉ kvs.map Prod.fst := fun m => by
          rw [kk] at m
          obtain ⟨z, hz, e⟩ := List.mem_map.mp m
          cases e
          exact zno (zp _ (nz _ hz))
        have hv : ∀ z ∈ t.vars, ∃ b, knB kvs z = some b := fun z hz => knB_some (by rw [kk]; exact List.mem_map.mpr ⟨z, (A0.mem z).mpr ((frm_vars hzi tok F0 z).mpr hz), rfl⟩)
        refine ⟨2, rfl, by decide, by decide, fun q q0 q1 => eqS_int ⟨?_, ?_⟩⟩
        · unfold blK
          rw [List.length_map]
          exact small1000 (by omega)
        rw [put_blK _ nin]
        generalize decide (q = 0) = b
        have hv2 : ∀ z ∈ t.vars, ∃ x, knB (kvs ++ [(Sum.inr (Str.ofString "zzzy"), b)]) z = some x := fun z hz => by
          obtain ⟨x, hx⟩ := hv z hz
          exact ⟨x, knB_app hx⟩
        have ew : t.worth (fun z => (knB (kvs ++ [(Sum.inr (Str.ofString "zzzy"), b)]) z).getD false) = t.worth fun z => (knB kvs z).getD false := worth_ext fun z hz => by
          obtain ⟨x, hx⟩ := hv z hz
          show (knB (kvs ++ [(Sum.inr (Str.ofString "zzzy"), b)]) z).getD false = (knB kvs z).getD false
          rw [hx, knB_app hx]
        have knd2 : ((kvs ++ [((Sum.inr (Str.ofString "zzzy") : Key), b)]).map Prod.fst).Nodup := by
          rw [List.map_append]
          exact List.nodup_append.mpr ⟨knd, by simp, fun a ha c hc => by
            rw [List.map_singleton, List.mem_singleton] at hc
            rintro rfl
            rw [hc] at ha
            exact nin ha⟩
        obtain ⟨b1, b2, b3⟩ := show_bool (t.worth fun z => (knB kvs z).getD false)
        refine ⟨rfl, rfl, zs, t, _, t.toks.length, kvs, rfl, tok, hzi, fo, by omega, knd, by omega, hv, b1, b2, b3, ?_⟩
        refine ⟨zs, t, kvs, rfl, tok, by omega, hv, b1, b2, b3, eqS_same ?_⟩
        refine ⟨rfl, rfl, zs, t, _, t.toks.length, kvs ++ [(Sum.inr (Str.ofString "zzzy"), b)], rfl, tok, hzi, fo, by omega, knd2, by rw [List.length_append]; show kvs.length + 1 ≤ 900; omega, hv2, ?_⟩
        refine ⟨rfl, rfl, zs, t, _, t.toks.length, kvs, rfl, tok, hzi, fo, by omega, knd, by omega, hv, eqS_sameB ew ?_⟩
        exact ⟨_, _, rfl⟩
      rintro τ ⟨v6, v7, rfl⟩
      refine ⟨.adr _, fun _ => .adr _, rfl, Str.ofString "x", rfl, by decide +kernel, by decide +kernel, fun fx hfx => ?_⟩
      obtain ⟨Sx, nsx, Fx, lx, Ax, rfl⟩ := hfx
      have fox : FoT c.Formula 1 [Str.ofString "x"] (.ins c.Formula (formT Sx nsx)) := ⟨Sx, nsx, Fx, lx, Ax, rfl⟩
      have xl : ∀ z ∈ [Str.ofString "x"], z.length ≤ 50 := by decide +kernel
      refine ⟨rfl, t.toks.length, t.toks, _, rfl, fo, by omega, by omega, ta2, ?_⟩
      refine ⟨fewL rfl, ?_⟩
      have few : fewW (t.toks ++ [Str.ofString "x"]) := toks_few (zs := poolW) (by decide) fun z hz => by
        rcases List.mem_append.mp hz with hz | hz
        · rcases List.mem_append.mp (toks_in tok z hz) with hz | hz
          · exact List.mem_append_left _ (zp z hz)
          · exact List.mem_append_right _ hz
        · rw [List.mem_singleton.mp hz]
          exact List.mem_append_left _ (by decide +kernel)
      refine ⟨by decide, by decide, rfl, rfl, t.toks.length, 1, t.toks, [Str.ofString "x"], _, _, rfl, fo, fox, by omega, by omega, few, fun fa ha => ⟨by show 0 < 3; decide, ?_⟩⟩
      refine ⟨by decide, by decide, rfl, rfl, t.toks.length, 1, t.toks, [Str.ofString "x"], _, _, rfl, fo, fox, by omega, by omega, few, fun fb hb => ⟨by show 1 < 3; decide, ?_⟩⟩
      refine ⟨by decide, by decide, rfl, rfl, t.toks.length, 1, t.toks, [Str.ofString "x"], _, _, rfl, fo, fox, by omega, by omega, few, fun fc hc => ⟨by show 2 < 3; decide, ?_⟩⟩
      obtain ⟨Sa, na, Fa, la, Aa, rfl⟩ := ha
      obtain ⟨Sb, nb, Fb, lb, Ab, rfl⟩ := hb
      obtain ⟨Sc, nc, Fc, lc, Ac, rfl⟩ := hc
      have lo : ∀ (o : Str) (z : Str), o.length ≤ 1 → z ∈ o :: (t.toks ++ [Str.ofString "x"]) → z.length ≤ 50 := fun o z h1 hz => by
        rcases List.mem_cons.mp hz with rfl | hz
        · omega
        · rcases List.mem_append.mp hz with hz | hz
          · exact ta2 z hz
          · exact xl z hz
      have ln : ∀ o : Str, (o :: (t.toks ++ [Str.ofString "x"])).length ≤ 900 := fun o => by
        rw [List.length_cons, List.length_append]
        show t.toks.length + 1 + 1 ≤ 900
        omega
      have s1 : (Str.ofString "&").length ≤ 1 ∧ (Str.ofString "|").length ≤ 1 ∧ (Str.ofString "^").length ≤ 1 ∧ (Str.ofString "~").length ≤ 1 := by decide +kernel
      refine ⟨fewL rfl, fun j acc => acc = (([txtW (Str.ofString "&" :: (t.toks ++ [Str.ofString "x"])), txtW (Str.ofString "|" :: (t.toks ++ [Str.ofString "x"])), txtW (Str.ofString "^" :: (t.toks ++ [Str.ofString "x"]))].take j).map Tv.str), rfl, ?_, ?_⟩
      · rintro j u acc hj rfl
        match j, hj with
        | 0, hj =>
          cases hj
          exact ⟨rfl, 1 + t.toks.length + 1, _, _, rfl, ⟨Sa, na, Fa, la, Aa, rfl⟩, by omega, ln _, fun z hz => lo _ z s1.1 hz, rfl, rfl⟩
        | 1, hj =>
          cases hj
          exact ⟨rfl, 1 + t.toks.length + 1, _, _, rfl, ⟨Sb, nb, Fb, lb, Ab, rfl⟩, by omega, ln _, fun z hz => lo _ z s1.2.1 hz, rfl, rfl⟩
        | 2, hj =>
          cases hj
          exact ⟨rfl, 1 + t.toks.length + 1, _, _, rfl, ⟨Sc, nc, Fc, lc, Ac, rfl⟩, by omega, ln _, fun z hz => lo _ z s1.2.2.1 hz, rfl, rfl⟩
        | n + 3, hj => cases hj
      rintro acc rfl
      have z1 : ∀ o : Str, o.length ≤ 5 → o.length + (txtW t.toks).length ≤ sizeLine := fun o h => by
        have : sizeLine = 16777216 := sizeLine_eq
        omega
      have z2 : ∀ o : Str, o.length ≤ 5 → (o ++ txtW t.toks).length + (Str.ofString " x").length ≤ sizeLine := fun o h => by
        have : sizeLine = 16777216 := sizeLine_eq
        have e1 : (o ++ txtW t.toks).length = o.length + (txtW t.toks).length := Str.length_append ..
        have e2 : (Str.ofString " x").length = 2 := by decide +kernel
        omega
      have s2 : (Str.ofString "& ").length ≤ 5 ∧ (Str.ofString "| ").length ≤ 5 ∧ (Str.ofString "^ ").length ≤ 5 ∧ (Str.ofString "~ ").length ≤ 5 := by decide +kernel
      refine ⟨z1 _ s2.1, z2 _ s2.1, z1 _ s2.2.1, z2 _ s2.2.1, z1 _ s2.2.2.1, z2 _ s2.2.2.1, fewL rfl, ?_⟩
      rw [txt_bin bin_lits.1 tn, txt_bin bin_lits.2.1 tn, txt_bin bin_lits.2.2 tn]
      have so : ∀ o : Str, o ∈ symT → PyData.strOk (txtW (o :: (t.toks ++ [Str.ofString "x"]))) = true := fun o ho => strOk_txt fun z hz => by
        rcases List.mem_cons.mp hz with rfl | hz
        · exact (sym_ok _ ho).1
        · rcases List.mem_append.mp hz with hz | hz
          · exact (ta z hz).1
          · rw [List.mem_singleton.mp hz]
            decide +kernel
      have sm : Str.ofString "&" ∈ symT ∧ Str.ofString "|" ∈ symT ∧ Str.ofString "^" ∈ symT := by decide +kernel
      have dz : dpT (.lst [Tv.str (txtW (Str.ofString "&" :: (t.toks ++ [Str.ofString "x"]))), Tv.str (txtW (Str.ofString "|" :: (t.toks ++ [Str.ofString "x"]))), Tv.str (txtW (Str.ofString "^" :: (t.toks ++ [Str.ofString "x"])))]) = some (.list ([txtW (Str.ofString "&" :: (t.toks ++ [Str.ofString "x"])), txtW (Str.ofString "|" :: (t.toks ++ [Str.ofString "x"])), txtW (Str.ofString "^" :: (t.toks ++ [Str.ofString "x"]))].map PyData.str)) := rfl
      have sh : SeqAt.shaped (.list ([txtW (Str.ofString "&" :: (t.toks ++ [Str.ofString "x"])), txtW (Str.ofString "|" :: (t.toks ++ [Str.ofString "x"])), txtW (Str.ofString "^" :: (t.toks ++ [Str.ofString "x"]))].map PyData.str)) = true := by
        refine shaped_strs fun z hz => ?_
        simp only [List.mem_cons, List.not_mem_nil, or_false] at hz
        rcases hz with rfl | rfl | rfl
        · exact so _ sm.1
        · exact so _ sm.2.1
        · exact so _ sm.2.2
      refine getK_of dz (getK_of dz ⟨sh, sh, ?_⟩)
      rw [eqv_strs]
      refine ⟨rfl, t.toks.length, t.toks, _, rfl, fo, by omega, by omega, ta2, eqS_same ?_⟩
      refine ⟨rfl, 1, [Str.ofString "x"], _, rfl, fox, by omega, by decide, xl, eqS_sameS (txt_one _) ?_⟩
      refine ⟨rfl, t.toks.length, t.toks, _, rfl, fo, by omega, toks_few (zs := zs) (by omega) (toks_in tok), fun fi hfi => ?_⟩
      obtain ⟨Si, ni, Fi, li, Ai, rfl⟩ := hfi
      refine ⟨rfl, 1 + t.toks.length, Str.ofString "~" :: t.toks, _, rfl, ⟨Si, ni, Fi, li, Ai, rfl⟩, by omega, by rw [List.length_cons]; omega, fun z hz => ?_, z1 _ s2.2.2.2, eqS_sameS (txt_un tn).symm ?_⟩
      · rcases List.mem_cons.mp hz with rfl | hz
        · have := s1.2.2.2
          omega
        · exact ta2 z hz
      exact ⟨_, _, _, _, _, _, _, _, _, _, _, rfl⟩
    · rintro τ ⟨v2, v3, v4, v5, v6, v7, v8, v9, v10, v11, v12, rfl⟩
      have l1 : ∀ z ∈ [Str.ofString "1"], z.length ≤ 50 := by decide +kernel
      have l0 : ∀ z ∈ [Str.ofString "0"], z.length ≤ 50 := by decide +kernel
      refine ⟨.adr _, fun _ => .adr _, rfl, true, rfl, fun f1 h1 => ?_⟩
      obtain ⟨Sa, na, Fa, la, Aa, rfl⟩ := h1
      refine ⟨rfl, 1, [Str.ofString "1"], _, rfl, ⟨Sa, na, Fa, la, Aa, rfl⟩, by omega, by decide, l1, ?_⟩
      refine ⟨.adr _, fun _ => .adr _, rfl, false, rfl, fun f2 h2 => ?_⟩
      obtain ⟨Sb, nb, Fb, lb, Ab, rfl⟩ := h2
      refine ⟨rfl, 1, [Str.ofString "0"], _, rfl, ⟨Sb, nb, Fb, lb, Ab, rfl⟩, by omega, by decide, l0, ?_⟩
      refine ⟨.adr _, fun _ => .adr _, rfl, true, rfl, fun f3 h3 => ?_⟩
      obtain ⟨Sc, nc, Fc, lc, Ac, rfl⟩ := h3
      have cn : (Str.ofString "1") ∈ constV := by decide +kernel
      have nil : nc = [] := by
        cases nc with
        | nil => rfl
        | cons z nc =>
          exfalso
          have hm := (Fc.names z).mp ((Ac.mem z).mp (List.mem_cons_self ..))
          have : z = Str.ofString "1" := List.mem_singleton.mp hm.1
          exact hm.2.2 (this ▸ cn)
      subst nil
      refine ⟨⟨T.clF, T.n_names⟩, getK_of rfl ?_⟩
      rw [txt_one, txt_one]
      exact ⟨fewL rfl, fewL rfl, fewL rfl, by decide +kernel, by decide +kernel, rfl⟩
  obtain ⟨t, hrest, krest⟩ := rest
  refine ⟨_, pss_cons (ps_set (i := 1) sc_law.nd rfl (Or.inl rfl) (pe_call G__law_source (hr.mono (by decide)) rfl T.g__law_source T.k__law_source b__law_source .nil pass0 (pa_cons (pv 0) (pa_cons pe_int pa_nil)))) hrest, ?_⟩
  exact ⟨_, rfl, sa, ns, rfl, hS, hlen, fun d l H1 hd hl D s1 => krest d l H1 D⟩
end
end L2.Wk
namespace L2.Wk
open PySem PySem.Spec PyProof.Rows
/-- an error of the class at S is what «except S» names -/
theorem exm_self {K : PySem.W.Frag} {S : Addr} (h1 : PySem.W.subIn K (.ref S) (.type "BaseException") = some true) (h2 : PySem.W.isClsIn K S = true) (h3 : PySem.W.typeIn K (.ref S) = some (.type "type")) (h4 : PySem.W.subIn K (.ref S) (.ref S) = some true) :
    PySem.W.exmOne K (.ref S) (.ref S) = some true := by
  have e1 : (PySem.W.subIn K (.ref S) (.type "BaseException") == some true) = true := by rw [h1] <;> rfl
  have e2 : ((PySem.W.clsIn K S).isSome && PySem.W.typeIn K (.ref S) == some (.type "type")) = true := by
    have h2' : (PySem.W.clsIn K S).isSome = true := h2
    rw [h2', h3] <;> rfl
  show (if (PySem.W.subIn K (.ref S) (.type "BaseException") == some true) = true then (if ((PySem.W.clsIn K S).isSome && PySem.W.typeIn K (.ref S) == some (.type "type")) = true then PySem.W.subIn K (.ref S) (.ref S) else none) else none) = some true
  rw [if_pos e1, if_pos e2]
  exact h4
theorem sig_val {K : PySem.W.Frag} {d : Addr} {t0 t1 t2 t3 : Tok} (h0 : PySem.W.nsIn K d "&" = some (some (.int 2 t0))) (h1 : PySem.W.nsIn K d "|" = some (some (.int 2 t1))) (h2 : PySem.W.nsIn K d "^" = some (some (.int 2 t2))) (h3 : PySem.W.nsIn K d "~" = some (some (.int 1 t3))) :
    ∀ z ∈ signsV, ∃ u, PySem.W.nsIn K d z = some (some u) ∧ RelV (.int (arityW z : Nat)) u := by
  intro z hz
  simp only [signsV, txts, List.map_cons, List.map_nil, List.mem_cons, List.not_mem_nil, or_false] at hz
  rcases hz with rfl | rfl | rfl | rfl
  · exact ⟨_, h0, by rw [show arityW (Str.ofString "&") = 2 by decide +kernel]; exact ⟨_, rfl⟩⟩
  · exact ⟨_, h1, by rw [show arityW (Str.ofString "|") = 2 by decide +kernel]; exact ⟨_, rfl⟩⟩
  · exact ⟨_, h2, by rw [show arityW (Str.ofString "^") = 2 by decide +kernel]; exact ⟨_, rfl⟩⟩
  · exact ⟨_, h3, by rw [show arityW (Str.ofString "~") = 1 by decide +kernel]; exact ⟨_, rfl⟩⟩
theorem no_tree {P : Program} {w : World} {K : PySem.W.Frag} {mg : Str → Option Value} {base : Heap} {CX : CXT} {k : Nat} {f : Addr} {fd : FuncData} {ps : List Str} : FnOk P w K mg base CX k f fd ps (spD K fun _ _ _ => False) :=
  ⟨fun _ _ _ _ ⟨_, _, _, _, _, _, _, _, _, h, _⟩ => h.elim, fun _ _ _ _ _ _ _ _ _ _ _ _ _ ⟨_, _, _, _, _, _, _, _, _, h, _⟩ => h.elim⟩
theorem no_pure {P : Program} {w : World} {K : PySem.W.Frag} {mg : Str → Option Value} {base : Heap} {CX : CXT} {k : Nat} {f : Addr} {fd : FuncData} {ps : List Str} : FnOk P w K mg base CX k f fd ps (spT K Rs.pure fun _ _ => False) :=
  ⟨fun _ _ _ _ ⟨_, _, _, _, _, _, _, h, _⟩ => h.elim, fun _ _ _ _ _ _ _ _ _ _ _ _ _ ⟨_, _, _, _, _, _, _, h, _⟩ => h.elim⟩
theorem all_mk {P : Program} {w : World} {K : PySem.W.Frag} {h : Heap} {mg : Str → Option Value} {fa : Addr} (X : K.In h) (G : h.Ns mainGlobals mg) (hfa : mg "law" = some (.ref fa))
    {r_RESERVED : Addr} {rd_RESERVED : Option Addr} {ri_RESERVED : Array Value} {rn_RESERVED : Nat} {rs_RESERVED : Array (Option Value)}
    {t_LONGEST : Tok}
    {t_LETTERS : Tok}
    {f_is_name : Addr} {od_is_name an_is_name : Option Addr} {sl_is_name : Array (Option Value)} {oc_is_name kV_is_name dc_is_name pm_is_name cd_is_name ct_is_name : Value}
    {f_ascending : Addr} {od_ascending an_ascending : Option Addr} {sl_ascending : Array (Option Value)} {oc_ascending kV_ascending dc_ascending pm_ascending cd_ascending ct_ascending : Value}
    {r_CONSTANTS : Addr} {rd_CONSTANTS : Option Addr} {ri_CONSTANTS : Array Value} {rn_CONSTANTS : Nat} {rs_CONSTANTS : Array (Option Value)}
    {r_SIGNS : Addr} {es_SIGNS : Array DictEntry} {nn_SIGNS : Nat} {kt_SIGNS_0 kt_SIGNS_1 kt_SIGNS_2 kt_SIGNS_3 : Tok}
    {tv_0 tv_1 tv_2 tv_3 : Tok}
    {t_PAGE_NAMES : Tok}
    {C_Formula : Addr}
    {f_finit : Addr} {od_finit an_finit : Option Addr} {sl_finit : Array (Option Value)} {oc_finit kV_finit dc_finit pm_finit cd_finit ct_finit : Value}
    {f_Formula_str : Addr} {od_Formula_str an_Formula_str : Option Addr} {sl_Formula_str : Array (Option Value)} {oc_Formula_str kV_Formula_str dc_Formula_str pm_Formula_str cd_Formula_str ct_Formula_str : Value}
    {p_of : Addr} {rest_of : List Value}
    {f_of : Addr} {od_of an_of : Option Addr} {sl_of : Array (Option Value)} {oc_of kV_of dc_of pm_of cd_of ct_of : Value}
    {p_always : Addr} {rest_always : List Value}
    {f_always : Addr} {od_always an_always : Option Addr} {sl_always : Array (Option Value)} {oc_always kV_always dc_always pm_always cd_always ct_always : Value}
    {f_Formula_and : Addr} {od_Formula_and an_Formula_and : Option Addr} {sl_Formula_and : Array (Option Value)} {oc_Formula_and kV_Formula_and dc_Formula_and pm_Formula_and cd_Formula_and ct_Formula_and : Value}
    {f_Formula_or : Addr} {od_Formula_or an_Formula_or : Option Addr} {sl_Formula_or : Array (Option Value)} {oc_Formula_or kV_Formula_or dc_Formula_or pm_Formula_or cd_Formula_or ct_Formula_or : Value}
    {f_Formula_xor : Addr} {od_Formula_xor an_Formula_xor : Option Addr} {sl_Formula_xor : Array (Option Value)} {oc_Formula_xor kV_Formula_xor dc_Formula_xor pm_Formula_xor cd_Formula_xor ct_Formula_xor : Value}
    {f_Formula_invert : Addr} {od_Formula_invert an_Formula_invert : Option Addr} {sl_Formula_invert : Array (Option Value)} {oc_Formula_invert kV_Formula_invert dc_Formula_invert pm_Formula_invert cd_Formula_invert ct_Formula_invert : Value}
    {f_value : Addr} {od_value an_value : Option Addr} {sl_value : Array (Option Value)} {oc_value kV_value dc_value pm_value cd_value ct_value : Value}
    {C_InvalidText f_InvalidText : Addr} {nm_InvalidText q_InvalidText : Str} {N_InvalidText : Addr} {bs_InvalidText : List Value} {sn_InvalidText : List Str} {sub_InvalidText : List Value} {ab_InvalidText : Bool} {col_InvalidText : Option Bool} {dd_InvalidText : Option Addr} {m0_InvalidText m1_InvalidText m2_InvalidText m3_InvalidText m5_InvalidText : Option Value} {B0_InvalidText : Addr} {od_InvalidText an_InvalidText : Option Addr} {sl_InvalidText : Array (Option Value)} {oc_InvalidText dc_InvalidText pm_InvalidText cd_InvalidText ct_InvalidText : Value}
    {f_text : Addr} {od_text an_text : Option Addr} {sl_text : Array (Option Value)} {oc_text kV_text dc_text pm_text cd_text ct_text : Value}
    {f_each_once : Addr} {od_each_once an_each_once : Option Addr} {sl_each_once : Array (Option Value)} {oc_each_once kV_each_once dc_each_once pm_each_once cd_each_once ct_each_once : Value}
    {f_check_words : Addr} {od_check_words an_check_words : Option Addr} {sl_check_words : Array (Option Value)} {oc_check_words kV_check_words dc_check_words pm_check_words cd_check_words ct_check_words : Value}
    {f_steps_of_words : Addr} {od_steps_of_words an_steps_of_words : Option Addr} {sl_steps_of_words : Array (Option Value)} {oc_steps_of_words kV_steps_of_words dc_steps_of_words pm_steps_of_words cd_steps_of_words ct_steps_of_words : Value}
    {f_put : Addr} {od_put an_put : Option Addr} {sl_put : Array (Option Value)} {oc_put kV_put dc_put pm_put cd_put ct_put : Value}
    {f_joined : Addr} {od_joined an_joined : Option Addr} {sl_joined : Array (Option Value)} {oc_joined kV_joined dc_joined pm_joined cd_joined ct_joined : Value}
    {f_inside : Addr} {od_inside an_inside : Option Addr} {sl_inside : Array (Option Value)} {oc_inside kV_inside dc_inside pm_inside cd_inside ct_inside : Value}
    {f_everywhere : Addr} {od_everywhere an_everywhere : Option Addr} {sl_everywhere : Array (Option Value)} {oc_everywhere kV_everywhere dc_everywhere pm_everywhere cd_everywhere ct_everywhere : Value}
    {f_column : Addr} {od_column an_column : Option Addr} {sl_column : Array (Option Value)} {oc_column kV_column dc_column pm_column cd_column ct_column : Value}
    {f_table : Addr} {od_table an_table : Option Addr} {sl_table : Array (Option Value)} {oc_table kV_table dc_table pm_table cd_table ct_table : Value}
    {f_page : Addr} {od_page an_page : Option Addr} {sl_page : Array (Option Value)} {oc_page kV_page dc_page pm_page cd_page ct_page : Value}
    {f_law_source : Addr} {od_law_source an_law_source : Option Addr} {sl_law_source : Array (Option Value)} {oc_law_source kV_law_source dc_law_source pm_law_source cd_law_source ct_law_source : Value}
    {f_law_draw : Addr} {od_law_draw an_law_draw : Option Addr} {sl_law_draw : Array (Option Value)} {oc_law_draw kV_law_draw dc_law_draw pm_law_draw cd_law_draw ct_law_draw : Value}
    {f_law_pick : Addr} {od_law_pick an_law_pick : Option Addr} {sl_law_pick : Array (Option Value)} {oc_law_pick kV_law_pick dc_law_pick pm_law_pick cd_law_pick ct_law_pick : Value}
    {kn_F kq_F : Str} {kb_F ku_F : List Value} {kN_F : Addr} {kh_F ka_F kd_F : Bool} {ks_F : List Str} {kc_F : Option Bool}
    {f_law_shuffled : Addr} {od_law_shuffled an_law_shuffled : Option Addr} {sl_law_shuffled : Array (Option Value)} {oc_law_shuffled kV_law_shuffled dc_law_shuffled pm_law_shuffled cd_law_shuffled ct_law_shuffled : Value}
    {f_law_words : Addr} {od_law_words an_law_words : Option Addr} {sl_law_words : Array (Option Value)} {oc_law_words kV_law_words dc_law_words pm_law_words cd_law_words ct_law_words : Value}
    {f_law_tree : Addr} {od_law_tree an_law_tree : Option Addr} {sl_law_tree : Array (Option Value)} {oc_law_tree kV_law_tree dc_law_tree pm_law_tree cd_law_tree ct_law_tree : Value}
    {f_law_tokens : Addr} {od_law_tokens an_law_tokens : Option Addr} {sl_law_tokens : Array (Option Value)} {oc_law_tokens kV_law_tokens dc_law_tokens pm_law_tokens cd_law_tokens ct_law_tokens : Value}
    {f_law_made : Addr} {od_law_made an_law_made : Option Addr} {sl_law_made : Array (Option Value)} {oc_law_made kV_law_made dc_law_made pm_law_made cd_law_made ct_law_made : Value}
    {f_law_names : Addr} {od_law_names an_law_names : Option Addr} {sl_law_names : Array (Option Value)} {oc_law_names kV_law_names dc_law_names pm_law_names cd_law_names ct_law_names : Value}
    {f_law_worth : Addr} {od_law_worth an_law_worth : Option Addr} {sl_law_worth : Array (Option Value)} {oc_law_worth kV_law_worth dc_law_worth pm_law_worth cd_law_worth ct_law_worth : Value}
    {f_law_all : Addr} {od_law_all an_law_all : Option Addr} {sl_law_all : Array (Option Value)} {oc_law_all kV_law_all dc_law_all pm_law_all cd_law_all ct_law_all : Value}
    {f_law : Addr} {od_law an_law : Option Addr} {sl_law : Array (Option Value)} {oc_law kV_law dc_law pm_law cd_law ct_law : Value}
    (n_RESERVED : PySem.W.nsIn K mainGlobals "RESERVED" = some (some (.ref r_RESERVED)))
    (l_RESERVED : K.lookup r_RESERVED = some ⟨.type "tuple", rd_RESERVED, .seq ri_RESERVED rn_RESERVED, rs_RESERVED⟩)
    (v_RESERVED : Vals ((resV).map V.str) ri_RESERVED.toList)
    (z_RESERVED : ri_RESERVED.size ≤ sizeLine)
    (n_LONGEST : PySem.W.nsIn K mainGlobals "LONGEST" = some (some (.int 4 t_LONGEST)))
    (n_LETTERS : PySem.W.nsIn K mainGlobals "LETTERS" = some (some (.str lettersS t_LETTERS)))
    (a_is_name : PySem.W.nsIn K mainGlobals "is_name" = some (some (.ref f_is_name)))
    (l_is_name : K.lookup f_is_name = some ⟨oc_is_name, od_is_name, .func (PySem.W.fnOf "is_name" "is_name" (defArgs s_is_name) (defBody s_is_name) (defScope s_is_name) .none kV_is_name dc_is_name pm_is_name an_is_name cd_is_name ct_is_name), sl_is_name⟩)
    (c_is_name : PySem.W.codeIn K cd_is_name "is_name" = true)
    (k_is_name : PySem.W.keepIn K (.ref f_is_name) = true)
    (a_ascending : PySem.W.nsIn K mainGlobals "ascending" = some (some (.ref f_ascending)))
    (l_ascending : K.lookup f_ascending = some ⟨oc_ascending, od_ascending, .func (PySem.W.fnOf "ascending" "ascending" (defArgs s_ascending) (defBody s_ascending) (defScope s_ascending) .none kV_ascending dc_ascending pm_ascending an_ascending cd_ascending ct_ascending), sl_ascending⟩)
    (c_ascending : PySem.W.codeIn K cd_ascending "ascending" = true)
    (k_ascending : PySem.W.keepIn K (.ref f_ascending) = true)
    (b_isinstance : PySem.W.nsIn K mainGlobals "isinstance" = some none)
    (b_str : PySem.W.nsIn K mainGlobals "str" = some none)
    (b_len : PySem.W.nsIn K mainGlobals "len" = some none)
    (b_all : PySem.W.nsIn K mainGlobals "all" = some none)
    (b_tuple : PySem.W.nsIn K mainGlobals "tuple" = some none)
    (b_set : PySem.W.nsIn K mainGlobals "set" = some none)
    (b_sorted : PySem.W.nsIn K mainGlobals "sorted" = some none)
    (n_CONSTANTS : PySem.W.nsIn K mainGlobals "CONSTANTS" = some (some (.ref r_CONSTANTS)))
    (l_CONSTANTS : K.lookup r_CONSTANTS = some ⟨.type "tuple", rd_CONSTANTS, .seq ri_CONSTANTS rn_CONSTANTS, rs_CONSTANTS⟩)
    (v_CONSTANTS : Vals ((constV).map V.str) ri_CONSTANTS.toList)
    (z_CONSTANTS : ri_CONSTANTS.size ≤ sizeLine)
    (n_SIGNS : PySem.W.nsIn K mainGlobals "SIGNS" = some (some (.ref r_SIGNS)))
    (l_SIGNS : K.lookup r_SIGNS = some ⟨.type "dict", none, .dict es_SIGNS nn_SIGNS, #[]⟩)
    (kl_SIGNS : PySem.W.KeysLit w.params es_SIGNS.toList)
    (ks_SIGNS : es_SIGNS.toList.map (·.key) = ([("&", kt_SIGNS_0), ("|", kt_SIGNS_1), ("^", kt_SIGNS_2), ("~", kt_SIGNS_3)] : List (Str × Tok)).map fun p => Value.str p.1 p.2)
    (lo_SIGNS : (r_SIGNS == sysModules) = false)
    (v_SIGNS_0 : PySem.W.nsIn K r_SIGNS "&" = some (some (.int 2 tv_0)))
    (v_SIGNS_1 : PySem.W.nsIn K r_SIGNS "|" = some (some (.int 2 tv_1)))
    (v_SIGNS_2 : PySem.W.nsIn K r_SIGNS "^" = some (some (.int 2 tv_2)))
    (v_SIGNS_3 : PySem.W.nsIn K r_SIGNS "~" = some (some (.int 1 tv_3)))
    (n_PAGE_NAMES : PySem.W.nsIn K mainGlobals "PAGE_NAMES" = some (some (.int 11 t_PAGE_NAMES)))
    (n_Formula : PySem.W.nsIn K mainGlobals "Formula" = some (some (.ref C_Formula)))
    (pg_Formula : PySem.W.plainGet K C_Formula Str.empty = true)
    (hd_Formula : PySem.W.hasDictIn K C_Formula = true)
    (po_Formula : PySem.W.plainOver K C_Formula = true)
    (sa_Formula : PySem.W.findIn K (.ref C_Formula) "__setattr__" = some (some (.builtin "object.__setattr__")))
    (mk_Formula : PySem.W.makesIn K C_Formula = true)
    (kc_Formula : PySem.W.keepIn K (.ref C_Formula) = true)
    (no_Formula_steps : PySem.W.findIn K (.ref C_Formula) "steps" = some none)
    (no_Formula_names : PySem.W.findIn K (.ref C_Formula) "names" = some none)
    (a_finit : PySem.W.findIn K (.ref C_Formula) "__init__" = some (some (.ref f_finit)))
    (i_finit : PySem.W.isFn K (.ref f_finit) = true)
    (l_finit : K.lookup f_finit = some ⟨oc_finit, od_finit, .func (PySem.W.fnOf "__init__" "Formula.__init__" (defArgs s_Formula_init) (defBody s_Formula_init) (defScope s_Formula_init) .none kV_finit dc_finit pm_finit an_finit cd_finit ct_finit), sl_finit⟩)
    (c_finit : PySem.W.codeIn K cd_finit "Formula.__init__" = true)
    (k_finit : PySem.W.keepIn K (.ref f_finit) = true)
    (a_Formula_str : PySem.W.findIn K (.ref C_Formula) "__str__" = some (some (.ref f_Formula_str)))
    (i_Formula_str : PySem.W.isFn K (.ref f_Formula_str) = true)
    (l_Formula_str : K.lookup f_Formula_str = some ⟨oc_Formula_str, od_Formula_str, .func (PySem.W.fnOf "__str__" "Formula.__str__" (defArgs s_Formula_str) (defBody s_Formula_str) (defScope s_Formula_str) .none kV_Formula_str dc_Formula_str pm_Formula_str an_Formula_str cd_Formula_str ct_Formula_str), sl_Formula_str⟩)
    (c_Formula_str : PySem.W.codeIn K cd_Formula_str "Formula.__str__" = true)
    (k_Formula_str : PySem.W.keepIn K (.ref f_Formula_str) = true)
    (at_of : PySem.W.findCls K (.ref C_Formula) (.type "type") "of" = some (.get (.builtin "classmethod.__get__") (.ref p_of) .none (.ref C_Formula)))
    (rc_of : PySem.W.recIn K p_of "classmethod" = some (.ref f_of :: rest_of))
    (l_of : K.lookup f_of = some ⟨oc_of, od_of, .func (PySem.W.fnOf "of" "Formula.of" (defArgs s_Formula_of) (defBody s_Formula_of) (defScope s_Formula_of) .none kV_of dc_of pm_of an_of cd_of ct_of), sl_of⟩)
    (c_of : PySem.W.codeIn K cd_of "Formula.of" = true)
    (k_of : PySem.W.keepIn K (.ref f_of) = true)
    (rd_Formula : PySem.W.readsIn K C_Formula (.type "type") = true)
    (rg_Formula : PySem.W.specialIn K (.ref C_Formula) "__getattribute__" = some (some (.builtin "type.__getattribute__")))
    (fi_of : PySem.W.fnIn K f_of = true)
    (at_always : PySem.W.findCls K (.ref C_Formula) (.type "type") "always" = some (.get (.builtin "classmethod.__get__") (.ref p_always) .none (.ref C_Formula)))
    (rc_always : PySem.W.recIn K p_always "classmethod" = some (.ref f_always :: rest_always))
    (l_always : K.lookup f_always = some ⟨oc_always, od_always, .func (PySem.W.fnOf "always" "Formula.always" (defArgs s_Formula_always) (defBody s_Formula_always) (defScope s_Formula_always) .none kV_always dc_always pm_always an_always cd_always ct_always), sl_always⟩)
    (c_always : PySem.W.codeIn K cd_always "Formula.always" = true)
    (k_always : PySem.W.keepIn K (.ref f_always) = true)
    (fi_always : PySem.W.fnIn K f_always = true)
    (a_Formula_and : PySem.W.findIn K (.ref C_Formula) "__and__" = some (some (.ref f_Formula_and)))
    (i_Formula_and : PySem.W.isFn K (.ref f_Formula_and) = true)
    (l_Formula_and : K.lookup f_Formula_and = some ⟨oc_Formula_and, od_Formula_and, .func (PySem.W.fnOf "__and__" "Formula.__and__" (defArgs s_Formula_and) (defBody s_Formula_and) (defScope s_Formula_and) .none kV_Formula_and dc_Formula_and pm_Formula_and an_Formula_and cd_Formula_and ct_Formula_and), sl_Formula_and⟩)
    (c_Formula_and : PySem.W.codeIn K cd_Formula_and "Formula.__and__" = true)
    (k_Formula_and : PySem.W.keepIn K (.ref f_Formula_and) = true)
    (a_Formula_or : PySem.W.findIn K (.ref C_Formula) "__or__" = some (some (.ref f_Formula_or)))
    (i_Formula_or : PySem.W.isFn K (.ref f_Formula_or) = true)
    (l_Formula_or : K.lookup f_Formula_or = some ⟨oc_Formula_or, od_Formula_or, .func (PySem.W.fnOf "__or__" "Formula.__or__" (defArgs s_Formula_or) (defBody s_Formula_or) (defScope s_Formula_or) .none kV_Formula_or dc_Formula_or pm_Formula_or an_Formula_or cd_Formula_or ct_Formula_or), sl_Formula_or⟩)
    (c_Formula_or : PySem.W.codeIn K cd_Formula_or "Formula.__or__" = true)
    (k_Formula_or : PySem.W.keepIn K (.ref f_Formula_or) = true)
    (a_Formula_xor : PySem.W.findIn K (.ref C_Formula) "__xor__" = some (some (.ref f_Formula_xor)))
    (i_Formula_xor : PySem.W.isFn K (.ref f_Formula_xor) = true)
    (l_Formula_xor : K.lookup f_Formula_xor = some ⟨oc_Formula_xor, od_Formula_xor, .func (PySem.W.fnOf "__xor__" "Formula.__xor__" (defArgs s_Formula_xor) (defBody s_Formula_xor) (defScope s_Formula_xor) .none kV_Formula_xor dc_Formula_xor pm_Formula_xor an_Formula_xor cd_Formula_xor ct_Formula_xor), sl_Formula_xor⟩)
    (c_Formula_xor : PySem.W.codeIn K cd_Formula_xor "Formula.__xor__" = true)
    (k_Formula_xor : PySem.W.keepIn K (.ref f_Formula_xor) = true)
    (a_Formula_invert : PySem.W.findIn K (.ref C_Formula) "__invert__" = some (some (.ref f_Formula_invert)))
    (i_Formula_invert : PySem.W.isFn K (.ref f_Formula_invert) = true)
    (l_Formula_invert : K.lookup f_Formula_invert = some ⟨oc_Formula_invert, od_Formula_invert, .func (PySem.W.fnOf "__invert__" "Formula.__invert__" (defArgs s_Formula_invert) (defBody s_Formula_invert) (defScope s_Formula_invert) .none kV_Formula_invert dc_Formula_invert pm_Formula_invert an_Formula_invert cd_Formula_invert ct_Formula_invert), sl_Formula_invert⟩)
    (c_Formula_invert : PySem.W.codeIn K cd_Formula_invert "Formula.__invert__" = true)
    (k_Formula_invert : PySem.W.keepIn K (.ref f_Formula_invert) = true)
    (a_value : PySem.W.findIn K (.ref C_Formula) "value" = some (some (.ref f_value)))
    (i_value : PySem.W.isFn K (.ref f_value) = true)
    (l_value : K.lookup f_value = some ⟨oc_value, od_value, .func (PySem.W.fnOf "value" "Formula.value" (defArgs s_Formula_value) (defBody s_Formula_value) (defScope s_Formula_value) .none kV_value dc_value pm_value an_value cd_value ct_value), sl_value⟩)
    (c_value : PySem.W.codeIn K cd_value "Formula.value" = true)
    (k_value : PySem.W.keepIn K (.ref f_value) = true)
    (n_InvalidText : PySem.W.nsIn K mainGlobals "InvalidText" = some (some (.ref C_InvalidText)))
    (x_InvalidText : K.lookup C_InvalidText = some (excClassObj nm_InvalidText q_InvalidText C_InvalidText N_InvalidText bs_InvalidText [.ref B0_InvalidText, .type "ValueError", .type "Exception", .type "BaseException", .type "object"] true sn_InvalidText sub_InvalidText ab_InvalidText col_InvalidText dd_InvalidText m0_InvalidText m1_InvalidText m2_InvalidText m3_InvalidText m5_InvalidText "ValueError.__new__"))
    (sa_InvalidText : PySem.W.findIn K (.ref C_InvalidText) "__setattr__" = some (some (.builtin "object.__setattr__")))
    (ga_InvalidText : PySem.W.findIn K (.ref C_InvalidText) "__getattribute__" = some (some (.builtin "BaseException.__getattribute__")))
    (gg_InvalidText : PySem.W.findIn K (.ref C_InvalidText) "__getattr__" = some none)
    (nb_InvalidText : PySem.W.findIn K (.ref C_InvalidText) "at" = some none)
    (a1_InvalidText : PySem.W.findIn K (.ref C_InvalidText) "__init__" = some (some (.ref f_InvalidText)))
    (t1_InvalidText : PySem.W.typeIn K (.ref f_InvalidText) = some (.type "function"))
    (l1_InvalidText : K.lookup f_InvalidText = some ⟨oc_InvalidText, od_InvalidText, .func (PySem.W.fnOf "__init__" "InvalidText.__init__" (PySem.LowX_InvalidText.iA ⟨13, 17, 13, 21⟩ ⟨13, 23, 13, 25⟩) (PySem.LowX_InvalidText.iB ⟨14, 8, 14, 12⟩ ⟨14, 8, 14, 15⟩ ⟨14, 18, 14, 20⟩ ⟨14, 8, 14, 20⟩) PySem.LowX_InvalidText.iS .none .none dc_InvalidText pm_InvalidText an_InvalidText cd_InvalidText ct_InvalidText), sl_InvalidText⟩)
    (c1_InvalidText : PySem.W.codeIn K cd_InvalidText "InvalidText.__init__" = true)
    (kC_InvalidText : PySem.W.keepIn K (.ref C_InvalidText) = true)
    (eC_InvalidText : PySem.W.subIn K (.ref C_InvalidText) (.type "BaseException") = some true)
    (tC_InvalidText : PySem.W.typeIn K (.ref C_InvalidText) = some (.type "type"))
    (hC_InvalidText : PySem.W.hasDictIn K C_InvalidText = true)
    (iC_InvalidText : PySem.W.isClsIn K C_InvalidText = true)
    (sC_InvalidText : PySem.W.subIn K (.ref C_InvalidText) (.ref C_InvalidText) = some true)
    (ca_F : PySem.W.findIn K (.ref C_Formula) "__class__" = some (some (.builtin "object.__class__")))
    (cm_F : PySem.W.mroIn K C_Formula (.type "object") = some true)
    (cn_F : PySem.W.specialIn K (.builtin "object.__class__") "__get__" = some (some (.builtin "getset_descriptor.__get__")))
    (ct_F : PySem.W.takesIn K (.builtin "object.__class__") = some true)
    (kit_FF : PySem.W.kitOne K (.ref C_Formula) (.ref C_Formula) = some true)
    (s_Formula : PySem.W.selfFirst K C_Formula = true)
    (a_text : PySem.W.nsIn K mainGlobals "_text" = some (some (.ref f_text)))
    (l_text : K.lookup f_text = some ⟨oc_text, od_text, .func (PySem.W.fnOf "_text" "_text" (defArgs s_text) (defBody s_text) (defScope s_text) .none kV_text dc_text pm_text an_text cd_text ct_text), sl_text⟩)
    (c_text : PySem.W.codeIn K cd_text "_text" = true)
    (k_text : PySem.W.keepIn K (.ref f_text) = true)
    (a_each_once : PySem.W.nsIn K mainGlobals "_each_once" = some (some (.ref f_each_once)))
    (l_each_once : K.lookup f_each_once = some ⟨oc_each_once, od_each_once, .func (PySem.W.fnOf "_each_once" "_each_once" (defArgs s_each_once) (defBody s_each_once) (defScope s_each_once) .none kV_each_once dc_each_once pm_each_once an_each_once cd_each_once ct_each_once), sl_each_once⟩)
    (c_each_once : PySem.W.codeIn K cd_each_once "_each_once" = true)
    (k_each_once : PySem.W.keepIn K (.ref f_each_once) = true)
    (a_check_words : PySem.W.nsIn K mainGlobals "_check_words" = some (some (.ref f_check_words)))
    (l_check_words : K.lookup f_check_words = some ⟨oc_check_words, od_check_words, .func (PySem.W.fnOf "_check_words" "_check_words" (defArgs s_check_words) (defBody s_check_words) (defScope s_check_words) .none kV_check_words dc_check_words pm_check_words an_check_words cd_check_words ct_check_words), sl_check_words⟩)
    (c_check_words : PySem.W.codeIn K cd_check_words "_check_words" = true)
    (k_check_words : PySem.W.keepIn K (.ref f_check_words) = true)
    (a_steps_of_words : PySem.W.nsIn K mainGlobals "_steps_of_words" = some (some (.ref f_steps_of_words)))
    (l_steps_of_words : K.lookup f_steps_of_words = some ⟨oc_steps_of_words, od_steps_of_words, .func (PySem.W.fnOf "_steps_of_words" "_steps_of_words" (defArgs s_steps_of_words) (defBody s_steps_of_words) (defScope s_steps_of_words) .none kV_steps_of_words dc_steps_of_words pm_steps_of_words an_steps_of_words cd_steps_of_words ct_steps_of_words), sl_steps_of_words⟩)
    (c_steps_of_words : PySem.W.codeIn K cd_steps_of_words "_steps_of_words" = true)
    (k_steps_of_words : PySem.W.keepIn K (.ref f_steps_of_words) = true)
    (a_put : PySem.W.nsIn K mainGlobals "_put" = some (some (.ref f_put)))
    (l_put : K.lookup f_put = some ⟨oc_put, od_put, .func (PySem.W.fnOf "_put" "_put" (defArgs s_put) (defBody s_put) (defScope s_put) .none kV_put dc_put pm_put an_put cd_put ct_put), sl_put⟩)
    (c_put : PySem.W.codeIn K cd_put "_put" = true)
    (k_put : PySem.W.keepIn K (.ref f_put) = true)
    (a_joined : PySem.W.nsIn K mainGlobals "_joined" = some (some (.ref f_joined)))
    (l_joined : K.lookup f_joined = some ⟨oc_joined, od_joined, .func (PySem.W.fnOf "_joined" "_joined" (defArgs s_joined) (defBody s_joined) (defScope s_joined) .none kV_joined dc_joined pm_joined an_joined cd_joined ct_joined), sl_joined⟩)
    (c_joined : PySem.W.codeIn K cd_joined "_joined" = true)
    (k_joined : PySem.W.keepIn K (.ref f_joined) = true)
    (a_inside : PySem.W.nsIn K mainGlobals "_inside" = some (some (.ref f_inside)))
    (l_inside : K.lookup f_inside = some ⟨oc_inside, od_inside, .func (PySem.W.fnOf "_inside" "_inside" (defArgs s_inside) (defBody s_inside) (defScope s_inside) .none kV_inside dc_inside pm_inside an_inside cd_inside ct_inside), sl_inside⟩)
    (c_inside : PySem.W.codeIn K cd_inside "_inside" = true)
    (k_inside : PySem.W.keepIn K (.ref f_inside) = true)
    (a_everywhere : PySem.W.nsIn K mainGlobals "_everywhere" = some (some (.ref f_everywhere)))
    (l_everywhere : K.lookup f_everywhere = some ⟨oc_everywhere, od_everywhere, .func (PySem.W.fnOf "_everywhere" "_everywhere" (defArgs s_everywhere) (defBody s_everywhere) (defScope s_everywhere) .none kV_everywhere dc_everywhere pm_everywhere an_everywhere cd_everywhere ct_everywhere), sl_everywhere⟩)
    (c_everywhere : PySem.W.codeIn K cd_everywhere "_everywhere" = true)
    (k_everywhere : PySem.W.keepIn K (.ref f_everywhere) = true)
    (a_column : PySem.W.nsIn K mainGlobals "_column" = some (some (.ref f_column)))
    (l_column : K.lookup f_column = some ⟨oc_column, od_column, .func (PySem.W.fnOf "_column" "_column" (defArgs s_column) (defBody s_column) (defScope s_column) .none kV_column dc_column pm_column an_column cd_column ct_column), sl_column⟩)
    (c_column : PySem.W.codeIn K cd_column "_column" = true)
    (k_column : PySem.W.keepIn K (.ref f_column) = true)
    (a_table : PySem.W.nsIn K mainGlobals "_table" = some (some (.ref f_table)))
    (l_table : K.lookup f_table = some ⟨oc_table, od_table, .func (PySem.W.fnOf "_table" "_table" (defArgs s_table) (defBody s_table) (defScope s_table) .none kV_table dc_table pm_table an_table cd_table ct_table), sl_table⟩)
    (c_table : PySem.W.codeIn K cd_table "_table" = true)
    (k_table : PySem.W.keepIn K (.ref f_table) = true)
    (a_page : PySem.W.nsIn K mainGlobals "_page" = some (some (.ref f_page)))
    (l_page : K.lookup f_page = some ⟨oc_page, od_page, .func (PySem.W.fnOf "_page" "_page" (defArgs s_page) (defBody s_page) (defScope s_page) .none kV_page dc_page pm_page an_page cd_page ct_page), sl_page⟩)
    (c_page : PySem.W.codeIn K cd_page "_page" = true)
    (k_page : PySem.W.keepIn K (.ref f_page) = true)
    (a_law_source : PySem.W.nsIn K mainGlobals "_law_source" = some (some (.ref f_law_source)))
    (l_law_source : K.lookup f_law_source = some ⟨oc_law_source, od_law_source, .func (PySem.W.fnOf "_law_source" "_law_source" (defArgs s_law_source) (defBody s_law_source) (defScope s_law_source) .none kV_law_source dc_law_source pm_law_source an_law_source cd_law_source ct_law_source), sl_law_source⟩)
    (c_law_source : PySem.W.codeIn K cd_law_source "_law_source" = true)
    (k_law_source : PySem.W.keepIn K (.ref f_law_source) = true)
    (a_law_draw : PySem.W.nsIn K mainGlobals "_law_draw" = some (some (.ref f_law_draw)))
    (l_law_draw : K.lookup f_law_draw = some ⟨oc_law_draw, od_law_draw, .func (PySem.W.fnOf "_law_draw" "_law_draw" (defArgs s_law_draw) (defBody s_law_draw) (defScope s_law_draw) .none kV_law_draw dc_law_draw pm_law_draw an_law_draw cd_law_draw ct_law_draw), sl_law_draw⟩)
    (c_law_draw : PySem.W.codeIn K cd_law_draw "_law_draw" = true)
    (k_law_draw : PySem.W.keepIn K (.ref f_law_draw) = true)
    (a_law_pick : PySem.W.nsIn K mainGlobals "_law_pick" = some (some (.ref f_law_pick)))
    (l_law_pick : K.lookup f_law_pick = some ⟨oc_law_pick, od_law_pick, .func (PySem.W.fnOf "_law_pick" "_law_pick" (defArgs s_law_pick) (defBody s_law_pick) (defScope s_law_pick) .none kV_law_pick dc_law_pick pm_law_pick an_law_pick cd_law_pick ct_law_pick), sl_law_pick⟩)
    (c_law_pick : PySem.W.codeIn K cd_law_pick "_law_pick" = true)
    (k_law_pick : PySem.W.keepIn K (.ref f_law_pick) = true)
    (b_abs : PySem.W.nsIn K mainGlobals "abs" = some none)
    (b_int : PySem.W.nsIn K mainGlobals "int" = some none)
    (b_range : PySem.W.nsIn K mainGlobals "range" = some none)
    (b_list : PySem.W.nsIn K mainGlobals "list" = some none)
    (b_enumerate : PySem.W.nsIn K mainGlobals "enumerate" = some none)
    (b_repr : PySem.W.nsIn K mainGlobals "repr" = some none)
    (b_NotImplemented : PySem.W.nsIn K mainGlobals "NotImplemented" = some none)
    (b_bool : PySem.W.nsIn K mainGlobals "bool" = some none)
    (b_dict : PySem.W.nsIn K mainGlobals "dict" = some none)
    (c_Formula : PySem.W.clsIn K C_Formula = some ⟨kn_F, kb_F, [.ref C_Formula, .type "object"], kN_F, kq_F, kh_F, ks_F, ku_F, ka_F, kc_F, kd_F⟩)
    (ia_Formula_and : PySem.W.findIn K (.ref C_Formula) "__iand__" = some none)
    (ia_Formula_or : PySem.W.findIn K (.ref C_Formula) "__ior__" = some none)
    (ia_Formula_xor : PySem.W.findIn K (.ref C_Formula) "__ixor__" = some none)
    (a_law_shuffled : PySem.W.nsIn K mainGlobals "_law_shuffled" = some (some (.ref f_law_shuffled)))
    (l_law_shuffled : K.lookup f_law_shuffled = some ⟨oc_law_shuffled, od_law_shuffled, .func (PySem.W.fnOf "_law_shuffled" "_law_shuffled" (defArgs s_law_shuffled) (defBody s_law_shuffled) (defScope s_law_shuffled) .none kV_law_shuffled dc_law_shuffled pm_law_shuffled an_law_shuffled cd_law_shuffled ct_law_shuffled), sl_law_shuffled⟩)
    (c_law_shuffled : PySem.W.codeIn K cd_law_shuffled "_law_shuffled" = true)
    (k_law_shuffled : PySem.W.keepIn K (.ref f_law_shuffled) = true)
    (a_law_words : PySem.W.nsIn K mainGlobals "_law_words" = some (some (.ref f_law_words)))
    (l_law_words : K.lookup f_law_words = some ⟨oc_law_words, od_law_words, .func (PySem.W.fnOf "_law_words" "_law_words" (defArgs s_law_words) (defBody s_law_words) (defScope s_law_words) .none kV_law_words dc_law_words pm_law_words an_law_words cd_law_words ct_law_words), sl_law_words⟩)
    (c_law_words : PySem.W.codeIn K cd_law_words "_law_words" = true)
    (k_law_words : PySem.W.keepIn K (.ref f_law_words) = true)
    (a_law_tree : PySem.W.nsIn K mainGlobals "_law_tree" = some (some (.ref f_law_tree)))
    (l_law_tree : K.lookup f_law_tree = some ⟨oc_law_tree, od_law_tree, .func (PySem.W.fnOf "_law_tree" "_law_tree" (defArgs s_law_tree) (defBody s_law_tree) (defScope s_law_tree) .none kV_law_tree dc_law_tree pm_law_tree an_law_tree cd_law_tree ct_law_tree), sl_law_tree⟩)
    (c_law_tree : PySem.W.codeIn K cd_law_tree "_law_tree" = true)
    (k_law_tree : PySem.W.keepIn K (.ref f_law_tree) = true)
    (a_law_tokens : PySem.W.nsIn K mainGlobals "_law_tokens" = some (some (.ref f_law_tokens)))
    (l_law_tokens : K.lookup f_law_tokens = some ⟨oc_law_tokens, od_law_tokens, .func (PySem.W.fnOf "_law_tokens" "_law_tokens" (defArgs s_law_tokens) (defBody s_law_tokens) (defScope s_law_tokens) .none kV_law_tokens dc_law_tokens pm_law_tokens an_law_tokens cd_law_tokens ct_law_tokens), sl_law_tokens⟩)
    (c_law_tokens : PySem.W.codeIn K cd_law_tokens "_law_tokens" = true)
    (k_law_tokens : PySem.W.keepIn K (.ref f_law_tokens) = true)
    (a_law_made : PySem.W.nsIn K mainGlobals "_law_made" = some (some (.ref f_law_made)))
    (l_law_made : K.lookup f_law_made = some ⟨oc_law_made, od_law_made, .func (PySem.W.fnOf "_law_made" "_law_made" (defArgs s_law_made) (defBody s_law_made) (defScope s_law_made) .none kV_law_made dc_law_made pm_law_made an_law_made cd_law_made ct_law_made), sl_law_made⟩)
    (c_law_made : PySem.W.codeIn K cd_law_made "_law_made" = true)
    (k_law_made : PySem.W.keepIn K (.ref f_law_made) = true)
    (a_law_names : PySem.W.nsIn K mainGlobals "_law_names" = some (some (.ref f_law_names)))
    (l_law_names : K.lookup f_law_names = some ⟨oc_law_names, od_law_names, .func (PySem.W.fnOf "_law_names" "_law_names" (defArgs s_law_names) (defBody s_law_names) (defScope s_law_names) .none kV_law_names dc_law_names pm_law_names an_law_names cd_law_names ct_law_names), sl_law_names⟩)
    (c_law_names : PySem.W.codeIn K cd_law_names "_law_names" = true)
    (k_law_names : PySem.W.keepIn K (.ref f_law_names) = true)
    (a_law_worth : PySem.W.nsIn K mainGlobals "_law_worth" = some (some (.ref f_law_worth)))
    (l_law_worth : K.lookup f_law_worth = some ⟨oc_law_worth, od_law_worth, .func (PySem.W.fnOf "_law_worth" "_law_worth" (defArgs s_law_worth) (defBody s_law_worth) (defScope s_law_worth) .none kV_law_worth dc_law_worth pm_law_worth an_law_worth cd_law_worth ct_law_worth), sl_law_worth⟩)
    (c_law_worth : PySem.W.codeIn K cd_law_worth "_law_worth" = true)
    (k_law_worth : PySem.W.keepIn K (.ref f_law_worth) = true)
    (a_law_all : PySem.W.nsIn K mainGlobals "_law_all" = some (some (.ref f_law_all)))
    (l_law_all : K.lookup f_law_all = some ⟨oc_law_all, od_law_all, .func (PySem.W.fnOf "_law_all" "_law_all" (defArgs s_law_all) (defBody s_law_all) (defScope s_law_all) .none kV_law_all dc_law_all pm_law_all an_law_all cd_law_all ct_law_all), sl_law_all⟩)
    (c_law_all : PySem.W.codeIn K cd_law_all "_law_all" = true)
    (k_law_all : PySem.W.keepIn K (.ref f_law_all) = true)
    (a_law : PySem.W.nsIn K mainGlobals "law" = some (some (.ref f_law)))
    (l_law : K.lookup f_law = some ⟨oc_law, od_law, .func (PySem.W.fnOf "law" "law" (defArgs s_law) (defBody s_law) (defScope s_law) .none kV_law dc_law pm_law an_law cd_law ct_law), sl_law⟩)
    (c_law : PySem.W.codeIn K cd_law "law" = true)
    (k_law : PySem.W.keepIn K (.ref f_law) = true) :
    ∃ fd : FuncData, (∀ (s : Shared) (v : Value), BindsTo s fd ⟨[v], []⟩ [("_law_script", v)]) ∧ ∀ base : Heap, K.In base → base.Ns mainGlobals mg → FnG P w K mg base CX0 25 fa fd ["_law_script"] (spLaw K) := by
  have e := hfa.symm.trans (PySem.W.mg_of X G a_law)
  cases e
  have low_InvalidText : PySem.LowX_InvalidText.LowTxt_InvalidText K mg C_InvalidText f_InvalidText :=
    { gC := PySem.W.mg_of X G n_InvalidText, cls := ⟨nm_InvalidText, q_InvalidText, N_InvalidText, bs_InvalidText, _, sn_InvalidText, sub_InvalidText, ab_InvalidText, col_InvalidText, dd_InvalidText, m0_InvalidText, m1_InvalidText, m2_InvalidText, m3_InvalidText, m5_InvalidText, x_InvalidText, by rfl⟩, sa := sa_InvalidText, ga := ga_InvalidText, gg := gg_InvalidText, noN := nb_InvalidText, iC := a1_InvalidText, tC := t1_InvalidText, kC := kC_InvalidText, exC := eC_InvalidText, tyC := tC_InvalidText, hdC := hC_InvalidText, te := exm_self eC_InvalidText iC_InvalidText tC_InvalidText sC_InvalidText,
      fn := ⟨_, _, _, _, _, _, _, _, _, _, _, _, _, _, l1_InvalidText, c1_InvalidText⟩ }
  have F_is_name := fun_mk (st := s_is_name) l_is_name c_is_name k_is_name
  have F_ascending := fun_mk (st := s_ascending) l_ascending c_ascending k_ascending
  have F_finit := fun_mk (st := s_Formula_init) l_finit c_finit k_finit
  have F_Formula_str := fun_mk (st := s_Formula_str) l_Formula_str c_Formula_str k_Formula_str
  have F_of := fun_mk (st := s_Formula_of) l_of c_of k_of
  have F_always := fun_mk (st := s_Formula_always) l_always c_always k_always
  have F_Formula_and := fun_mk (st := s_Formula_and) l_Formula_and c_Formula_and k_Formula_and
  have F_Formula_or := fun_mk (st := s_Formula_or) l_Formula_or c_Formula_or k_Formula_or
  have F_Formula_xor := fun_mk (st := s_Formula_xor) l_Formula_xor c_Formula_xor k_Formula_xor
  have F_Formula_invert := fun_mk (st := s_Formula_invert) l_Formula_invert c_Formula_invert k_Formula_invert
  have F_value := fun_mk (st := s_Formula_value) l_value c_value k_value
  have F_text := fun_mk (st := s_text) l_text c_text k_text
  have F_each_once := fun_mk (st := s_each_once) l_each_once c_each_once k_each_once
  have F_check_words := fun_mk (st := s_check_words) l_check_words c_check_words k_check_words
  have F_steps_of_words := fun_mk (st := s_steps_of_words) l_steps_of_words c_steps_of_words k_steps_of_words
  have F_put := fun_mk (st := s_put) l_put c_put k_put
  have F_joined := fun_mk (st := s_joined) l_joined c_joined k_joined
  have F_inside := fun_mk (st := s_inside) l_inside c_inside k_inside
  have F_everywhere := fun_mk (st := s_everywhere) l_everywhere c_everywhere k_everywhere
  have F_column := fun_mk (st := s_column) l_column c_column k_column
  have F_table := fun_mk (st := s_table) l_table c_table k_table
  have F_page := fun_mk (st := s_page) l_page c_page k_page
  have F_law_source := fun_mk (st := s_law_source) l_law_source c_law_source k_law_source
  have F_law_draw := fun_mk (st := s_law_draw) l_law_draw c_law_draw k_law_draw
  have F_law_pick := fun_mk (st := s_law_pick) l_law_pick c_law_pick k_law_pick
  have F_law_shuffled := fun_mk (st := s_law_shuffled) l_law_shuffled c_law_shuffled k_law_shuffled
  have F_law_words := fun_mk (st := s_law_words) l_law_words c_law_words k_law_words
  have F_law_tree := fun_mk (st := s_law_tree) l_law_tree c_law_tree k_law_tree
  have F_law_tokens := fun_mk (st := s_law_tokens) l_law_tokens c_law_tokens k_law_tokens
  have F_law_made := fun_mk (st := s_law_made) l_law_made c_law_made k_law_made
  have F_law_names := fun_mk (st := s_law_names) l_law_names c_law_names k_law_names
  have F_law_worth := fun_mk (st := s_law_worth) l_law_worth c_law_worth k_law_worth
  have F_law_all := fun_mk (st := s_law_all) l_law_all c_law_all k_law_all
  have F_law := fun_mk (st := s_law) l_law c_law k_law
  have b_is_name := F_is_name.binds (ps := ["value"]) fun _ _ _ _ _ _ us hl => match us, hl with | [_], _ => rfl
  have b_ascending := F_ascending.binds (ps := ["names"]) fun _ _ _ _ _ _ us hl => match us, hl with | [_], _ => rfl
  have b_finit := F_finit.binds (ps := ["self", "steps"]) fun _ _ _ _ _ _ us hl => match us, hl with | [_, _], _ => rfl
  have b_Formula_str := F_Formula_str.binds (ps := ["self"]) fun _ _ _ _ _ _ us hl => match us, hl with | [_], _ => rfl
  have b_of := F_of.binds (ps := ["cls", "name"]) fun _ _ _ _ _ _ us hl => match us, hl with | [_, _], _ => rfl
  have b_always := F_always.binds (ps := ["cls", "value"]) fun _ _ _ _ _ _ us hl => match us, hl with | [_, _], _ => rfl
  have b_Formula_and := F_Formula_and.binds (ps := ["self", "other"]) fun _ _ _ _ _ _ us hl => match us, hl with | [_, _], _ => rfl
  have b_Formula_or := F_Formula_or.binds (ps := ["self", "other"]) fun _ _ _ _ _ _ us hl => match us, hl with | [_, _], _ => rfl
  have b_Formula_xor := F_Formula_xor.binds (ps := ["self", "other"]) fun _ _ _ _ _ _ us hl => match us, hl with | [_, _], _ => rfl
  have b_Formula_invert := F_Formula_invert.binds (ps := ["self"]) fun _ _ _ _ _ _ us hl => match us, hl with | [_], _ => rfl
  have b_value := F_value.binds (ps := ["self", "known"]) fun _ _ _ _ _ _ us hl => match us, hl with | [_, _], _ => rfl
  have b_text := F_text.binds (ps := ["steps"]) fun _ _ _ _ _ _ us hl => match us, hl with | [_], _ => rfl
  have b_each_once := F_each_once.binds (ps := ["steps"]) fun _ _ _ _ _ _ us hl => match us, hl with | [_], _ => rfl
  have b_check_words := F_check_words.binds (ps := ["words"]) fun _ _ _ _ _ _ us hl => match us, hl with | [_], _ => rfl
  have b_steps_of_words := F_steps_of_words.binds (ps := ["words"]) fun _ _ _ _ _ _ us hl => match us, hl with | [_], _ => rfl
  have b_put := F_put.binds (ps := ["steps", "given"]) fun _ _ _ _ _ _ us hl => match us, hl with | [_, _], _ => rfl
  have b_joined := F_joined.binds (ps := ["sign", "left", "right"]) fun _ _ _ _ _ _ us hl => match us, hl with | [_, _, _], _ => rfl
  have b_inside := F_inside.binds (ps := ["many"]) fun _ _ _ _ _ _ us hl => match us, hl with | [_], _ => rfl
  have b_everywhere := F_everywhere.binds (ps := ["many"]) fun _ _ _ _ _ _ us hl => match us, hl with | [_], _ => rfl
  have b_column := F_column.binds (ps := ["at", "many"]) fun _ _ _ _ _ _ us hl => match us, hl with | [_, _], _ => rfl
  have b_table := F_table.binds (ps := ["steps", "names", "known"]) fun _ _ _ _ _ _ us hl => match us, hl with | [_, _, _], _ => rfl
  have b_page := F_page.binds (ps := ["steps", "columns", "everywhere"]) fun _ _ _ _ _ _ us hl => match us, hl with | [_, _, _], _ => rfl
  have b_law_source := F_law_source.binds (ps := ["_law_script", "_law_base"]) fun _ _ _ _ _ _ us hl => match us, hl with | [_, _], _ => rfl
  have b_law_draw := F_law_draw.binds (ps := ["_law_deal", "_law_wide"]) fun _ _ _ _ _ _ us hl => match us, hl with | [_, _], _ => rfl
  have b_law_pick := F_law_pick.binds (ps := ["_law_deal", "_law_some"]) fun _ _ _ _ _ _ us hl => match us, hl with | [_, _], _ => rfl
  have b_law_shuffled := F_law_shuffled.binds (ps := ["_law_deal", "_law_some"]) fun _ _ _ _ _ _ us hl => match us, hl with | [_, _], _ => rfl
  have b_law_words := F_law_words.binds (ps := ["_law_deal", "_law_many"]) fun _ _ _ _ _ _ us hl => match us, hl with | [_, _], _ => rfl
  have b_law_tree := F_law_tree.binds (ps := ["_law_deal", "_law_names_here", "_law_many", "_law_deep"]) fun _ _ _ _ _ _ us hl => match us, hl with | [_, _, _, _], _ => rfl
  have b_law_tokens := F_law_tokens.binds (ps := ["_law_tree_here"]) fun _ _ _ _ _ _ us hl => match us, hl with | [_], _ => rfl
  have b_law_made := F_law_made.binds (ps := ["_law_tree_here"]) fun _ _ _ _ _ _ us hl => match us, hl with | [_], _ => rfl
  have b_law_names := F_law_names.binds (ps := ["_law_tree_here"]) fun _ _ _ _ _ _ us hl => match us, hl with | [_], _ => rfl
  have b_law_worth := F_law_worth.binds (ps := ["_law_tree_here", "_law_known"]) fun _ _ _ _ _ _ us hl => match us, hl with | [_, _], _ => rfl
  have b_law_all := F_law_all.binds (ps := ["_law_names_here"]) fun _ _ _ _ _ _ us hl => match us, hl with | [_], _ => rfl
  have T : TxtB K w mg ⟨r_RESERVED, t_LONGEST, t_LETTERS, f_is_name, f_ascending⟩ ⟨f_text, f_each_once⟩ ⟨C_Formula, f_finit, r_SIGNS, es_SIGNS, nn_SIGNS, r_CONSTANTS, f_Formula_str⟩ ⟨f_check_words, f_steps_of_words, f_check_words⟩ C_InvalidText f_InvalidText ⟨f_put, f_joined⟩ ⟨t_PAGE_NAMES, f_inside, f_everywhere, f_column, f_table, f_page⟩ := { g_RESERVED := PySem.W.mg_of X G n_RESERVED, s_RESERVED := fun H => .inr ⟨_, _, _, l_RESERVED, rfl, rfl, z_RESERVED, v_RESERVED⟩, g_LONGEST := PySem.W.mg_of X G n_LONGEST, g_LETTERS := PySem.W.mg_of X G n_LETTERS, b_isinstance := PySem.W.mg_none_of X G b_isinstance, b_str := PySem.W.mg_none_of X G b_str, b_len := PySem.W.mg_none_of X G b_len, b_all := PySem.W.mg_none_of X G b_all, b_tuple := PySem.W.mg_none_of X G b_tuple, b_set := PySem.W.mg_none_of X G b_set, b_sorted := PySem.W.mg_none_of X G b_sorted, g_is_name := PySem.W.mg_of X G a_is_name, k_is_name := k_is_name, g_ascending := PySem.W.mg_of X G a_ascending, k_ascending := k_ascending, cl := ⟨pg_Formula, hd_Formula, po_Formula, sa_Formula⟩, M := ⟨mk_Formula, a_finit, i_finit, kc_Formula⟩, g_Formula := PySem.W.mg_of X G n_Formula, g_SIGNS := PySem.W.mg_of X G n_SIGNS, d_SIGNS := ⟨l_SIGNS, kl_SIGNS, lo_SIGNS⟩, m_SIGNS := fun z hz => ns_miss l_SIGNS ks_SIGNS hz, h_SIGNS := fun z hz => sig_val v_SIGNS_0 v_SIGNS_1 v_SIGNS_2 v_SIGNS_3 z hz, g_CONSTANTS := PySem.W.mg_of X G n_CONSTANTS, s_CONSTANTS := fun H => .inr ⟨_, _, _, l_CONSTANTS, rfl, rfl, z_CONSTANTS, v_CONSTANTS⟩, n_steps := no_Formula_steps, n_names := no_Formula_names, g__text := PySem.W.mg_of X G a_text, k__text := k_text, g__each_once := PySem.W.mg_of X G a_each_once, k__each_once := k_each_once, low_InvalidText := low_InvalidText, b_enumerate := PySem.W.mg_none_of X G b_enumerate, g__check_words := PySem.W.mg_of X G a_check_words, k__check_words := k_check_words, g__steps_of_words := PySem.W.mg_of X G a_steps_of_words, k__steps_of_words := k_steps_of_words, g__put := PySem.W.mg_of X G a_put, k__put := k_put, g__joined := PySem.W.mg_of X G a_joined, k__joined := k_joined, b_NotImplemented := PySem.W.mg_none_of X G b_NotImplemented, isF := ⟨⟨pg_Formula, hd_Formula, po_Formula, sa_Formula⟩, ca_F, cn_F, ct_F, cm_F⟩, kit_FF := kit_FF, g_PAGE_NAMES := PySem.W.mg_of X G n_PAGE_NAMES, g__inside := PySem.W.mg_of X G a_inside, k__inside := k_inside, g__everywhere := PySem.W.mg_of X G a_everywhere, k__everywhere := k_everywhere, g__column := PySem.W.mg_of X G a_column, k__column := k_column, g__table := PySem.W.mg_of X G a_table, k__table := k_table, g__page := PySem.W.mg_of X G a_page, k__page := k_page, b_range := PySem.W.mg_none_of X G b_range }
  have TL : TxtLw K mg ⟨f_law_draw, f_law_pick, f_law_tree, f_law_tokens, f_law_made, f_law_names, f_law_worth, f_law_all⟩ ⟨C_Formula, f_finit, r_SIGNS, es_SIGNS, nn_SIGNS, r_CONSTANTS, f_Formula_str⟩ ⟨p_of, f_of, p_always, f_always, f_Formula_and, f_Formula_or, f_Formula_xor, f_Formula_invert⟩ ⟨f_law_source, f_law_words, f_value⟩ ⟨kn_F, kb_F, [.ref C_Formula, .type "object"], kN_F, kq_F, kh_F, ks_F, ku_F, ka_F, kc_F, kd_F⟩ := { b_str := PySem.W.mg_none_of X G b_str, b_int := PySem.W.mg_none_of X G b_int, b_sorted := PySem.W.mg_none_of X G b_sorted, b_set := PySem.W.mg_none_of X G b_set, b_dict := PySem.W.mg_none_of X G b_dict, g__law_draw := PySem.W.mg_of X G a_law_draw, k__law_draw := k_law_draw, g__law_pick := PySem.W.mg_of X G a_law_pick, k__law_pick := k_law_pick, g__law_tree := PySem.W.mg_of X G a_law_tree, k__law_tree := k_law_tree, g__law_tokens := PySem.W.mg_of X G a_law_tokens, k__law_tokens := k_law_tokens, g__law_made := PySem.W.mg_of X G a_law_made, k__law_made := k_law_made, g__law_names := PySem.W.mg_of X G a_law_names, k__law_names := k_law_names, g__law_worth := PySem.W.mg_of X G a_law_worth, k__law_worth := k_law_worth, g__law_all := PySem.W.mg_of X G a_law_all, k__law_all := k_law_all, g_Formula := PySem.W.mg_of X G n_Formula, cr_Formula := ⟨rd_Formula, rg_Formula⟩, cm_Formula_of := ⟨at_of, ⟨_, rc_of⟩, fi_of⟩, cm_Formula_always := ⟨at_always, ⟨_, rc_always⟩, fi_always⟩, s_Formula := s_Formula, a_Formula_and := a_Formula_and, i_Formula_and := i_Formula_and, a_Formula_or := a_Formula_or, i_Formula_or := i_Formula_or, a_Formula_xor := a_Formula_xor, i_Formula_xor := i_Formula_xor, a_Formula_invert := a_Formula_invert, i_Formula_invert := i_Formula_invert, b_range := PySem.W.mg_none_of X G b_range, b_repr := PySem.W.mg_none_of X G b_repr, b_isinstance := PySem.W.mg_none_of X G b_isinstance, b_tuple := PySem.W.mg_none_of X G b_tuple, g__law_source := PySem.W.mg_of X G a_law_source, k__law_source := k_law_source, g__law_words := PySem.W.mg_of X G a_law_words, k__law_words := k_law_words, clF := ⟨pg_Formula, hd_Formula, po_Formula, sa_Formula⟩, n_steps := no_Formula_steps, n_names := no_Formula_names, m_value := ⟨a_value, i_value, k_value⟩, a_Formula_str := a_Formula_str, i_Formula_str := i_Formula_str, c_Formula := c_Formula, co_Formula := rfl, ia_Formula_and := ia_Formula_and, ia_Formula_or := ia_Formula_or, ia_Formula_xor := ia_Formula_xor, isF := ⟨⟨pg_Formula, hd_Formula, po_Formula, sa_Formula⟩, ca_F, cn_F, ct_F, cm_F⟩, kit_FF := kit_FF }
  refine ⟨PySem.W.fnOf "law" "law" (defArgs s_law) (defBody s_law) (defScope s_law) .none kV_law dc_law pm_law an_law cd_law ct_law, fun s v => .of_eq rfl, fun base _ _ => ?_⟩
  have TDD : TxtDA2 K mg f_law_draw := { b_int := PySem.W.mg_none_of X G b_int, b_len := PySem.W.mg_none_of X G b_len, b_abs := PySem.W.mg_none_of X G b_abs, g__law_draw := PySem.W.mg_of X G a_law_draw, k__law_draw := k_law_draw }
  have TSS : TxtSh K mg ⟨f_law_draw, f_law_shuffled⟩ := { b_len := PySem.W.mg_none_of X G b_len, b_list := PySem.W.mg_none_of X G b_list, b_range := PySem.W.mg_none_of X G b_range, g__law_draw := PySem.W.mg_of X G a_law_draw, k__law_draw := k_law_draw, g__law_shuffled := PySem.W.mg_of X G a_law_shuffled, k__law_shuffled := k_law_shuffled }
  have MF : Mk K C_Formula f_finit := ⟨mk_Formula, a_finit, i_finit, kc_Formula⟩
  have G1 := ok_is_name (P := P) (w := w) (base := base) F_is_name T.toTxtW
  have GA := ok_ascT (P := P) (w := w) (base := base) F_ascending T.toTxtW
  have GF := ok_FormT (P := P) (w := w) (base := base) F_finit T.toTxtFg GA b_ascending
  have EA := ok_eachT (P := P) (w := w) (base := base) F_each_once T.toTxtG
  have PU := ok_putT (P := P) (w := w) (base := base) F_put T.toTxtT EA b_each_once
  have JO := ok_joinedT (P := P) (w := w) (base := base) F_joined T.toTxtT PU b_put
  have AN := ok_andT (P := P) (w := w) (base := base) F_Formula_and T.toTxtO MF GF b_finit JO b_joined
  have ORR := ok_orT (P := P) (w := w) (base := base) F_Formula_or T.toTxtO MF GF b_finit JO b_joined
  have XO := ok_xorT (P := P) (w := w) (base := base) F_Formula_xor T.toTxtO MF GF b_finit JO b_joined
  have IV := ok_invT (P := P) (w := w) (base := base) F_Formula_invert T.toTxtO MF GF b_finit PU b_put
  have OF := ok_ofT (P := P) (w := w) (base := base) F_of T.toTxtO MF GF b_finit G1 b_is_name
  have AL := ok_alwaysT (P := P) (w := w) (base := base) F_always T.toTxtO (PySem.W.mg_none_of X G b_bool) MF GF b_finit
  have RO := (FnOk.raw OF b_of .nil).imp (sp' := spT K Rs.pure (fOf C_Formula)) (fun vs H Q E h => by rw [List.append_nil]; exact h)
  have RA := (FnOk.raw AL b_always .nil).imp (sp' := spT K Rs.pure (fAlways C_Formula)) (fun vs H Q E h => by rw [List.append_nil]; exact h)
  have TX := ok_textT (P := P) (w := w) (base := base) F_text T.toTxtG
  have ST := ok_strT (P := P) (w := w) (base := base) F_Formula_str T.toTxtO TX b_text
  have PG := ok_pageT (P := P) (w := w) (base := base) F_page T.toTxtO
  have IN := ok_insideT (P := P) (w := w) (base := base) F_inside T
  have EV := ok_everyT (P := P) (w := w) (base := base) F_everywhere T IN b_inside
  have CO := ok_columnT (P := P) (w := w) (base := base) F_column T IN b_inside
  have TB := ok_tableT (P := P) (w := w) (base := base) F_table T EV b_everywhere CO b_column PG b_page
  have VA := ok_valueT (P := P) (w := w) (base := base) F_value T TB b_table
  have D1 := ok_sourceA (P := P) (w := w) (base := base) F_law_source TDD
  have D2 := ok_drawA (P := P) (w := w) (base := base) F_law_draw TDD.toTxtDA
  have D3 := ok_pickA (P := P) (w := w) (base := base) F_law_pick TDD D2 b_law_draw
  have SH := ok_shuffled (P := P) (w := w) (base := base) F_law_shuffled TSS D2 b_law_draw
  have WD := ok_wordsN (P := P) (w := w) (base := base) F_law_words TSS SH b_law_shuffled
  have W0 := ok_treeT (n := 0) (j := 2) (fS := fun _ _ _ => False) (P := P) (w := w) (base := base) F_law_tree TL.toTxtLt (Nat.le_refl _) D2 b_law_draw D3 b_law_pick (.inl rfl) no_tree b_law_tree
  have W1 := ok_treeT (n := 1) (j := 3) (P := P) (w := w) (base := base) F_law_tree TL.toTxtLt (by decide) D2 b_law_draw D3 b_law_pick (.inr rfl) W0 b_law_tree
  have W2 := ok_treeT (n := 2) (j := 4) (P := P) (w := w) (base := base) F_law_tree TL.toTxtLt (by decide) D2 b_law_draw D3 b_law_pick (.inr rfl) W1 b_law_tree
  have W3 := ok_treeT (n := 3) (j := 5) (P := P) (w := w) (base := base) F_law_tree TL.toTxtLt (by decide) D2 b_law_draw D3 b_law_pick (.inr rfl) W2 b_law_tree
  have W4 := ok_treeT (n := 4) (j := 6) (P := P) (w := w) (base := base) F_law_tree TL.toTxtLt (by decide) D2 b_law_draw D3 b_law_pick (.inr rfl) W3 b_law_tree
  have W5 := ok_treeT (n := 5) (j := 7) (P := P) (w := w) (base := base) F_law_tree TL.toTxtLt (by decide) D2 b_law_draw D3 b_law_pick (.inr rfl) W4 b_law_tree
  have W6 := ok_treeT (n := 6) (j := 8) (P := P) (w := w) (base := base) F_law_tree TL.toTxtLt (by decide) D2 b_law_draw D3 b_law_pick (.inr rfl) W5 b_law_tree
  have W7 := ok_treeT (n := 7) (j := 9) (P := P) (w := w) (base := base) F_law_tree TL.toTxtLt (by decide) D2 b_law_draw D3 b_law_pick (.inr rfl) W6 b_law_tree
  have K0 := ok_toksT (n := 0) (j := 0) (fS := fun _ _ => False) (P := P) (w := w) (base := base) F_law_tokens TL.toTxtLt (.inl rfl) no_pure b_law_tokens
  have K1 := ok_toksT (n := 1) (j := 1) (P := P) (w := w) (base := base) F_law_tokens TL.toTxtLt (.inr rfl) K0 b_law_tokens
  have K2 := ok_toksT (n := 2) (j := 2) (P := P) (w := w) (base := base) F_law_tokens TL.toTxtLt (.inr rfl) K1 b_law_tokens
  have K3 := ok_toksT (n := 3) (j := 3) (P := P) (w := w) (base := base) F_law_tokens TL.toTxtLt (.inr rfl) K2 b_law_tokens
  have K4 := ok_toksT (n := 4) (j := 4) (P := P) (w := w) (base := base) F_law_tokens TL.toTxtLt (.inr rfl) K3 b_law_tokens
  have K5 := ok_toksT (n := 5) (j := 5) (P := P) (w := w) (base := base) F_law_tokens TL.toTxtLt (.inr rfl) K4 b_law_tokens
  have K6 := ok_toksT (n := 6) (j := 6) (P := P) (w := w) (base := base) F_law_tokens TL.toTxtLt (.inr rfl) K5 b_law_tokens
  have K7 := ok_toksT (n := 7) (j := 7) (P := P) (w := w) (base := base) F_law_tokens TL.toTxtLt (.inr rfl) K6 b_law_tokens
  have K8 := ok_toksT (n := 8) (j := 8) (P := P) (w := w) (base := base) F_law_tokens TL.toTxtLt (.inr rfl) K7 b_law_tokens
  have K9 := ok_toksT (n := 9) (j := 9) (P := P) (w := w) (base := base) F_law_tokens TL.toTxtLt (.inr rfl) K8 b_law_tokens
  have K10 := ok_toksT (n := 10) (j := 10) (P := P) (w := w) (base := base) F_law_tokens TL.toTxtLt (.inr rfl) K9 b_law_tokens
  have K11 := ok_toksT (n := 11) (j := 11) (P := P) (w := w) (base := base) F_law_tokens TL.toTxtLt (.inr rfl) K10 b_law_tokens
  have K12 := ok_toksT (n := 12) (j := 12) (P := P) (w := w) (base := base) F_law_tokens TL.toTxtLt (.inr rfl) K11 b_law_tokens
  have K13 := ok_toksT (n := 13) (j := 13) (P := P) (w := w) (base := base) F_law_tokens TL.toTxtLt (.inr rfl) K12 b_law_tokens
  have K14 := ok_toksT (n := 14) (j := 14) (P := P) (w := w) (base := base) F_law_tokens TL.toTxtLt (.inr rfl) K13 b_law_tokens
  have K15 := ok_toksT (n := 15) (j := 15) (P := P) (w := w) (base := base) F_law_tokens TL.toTxtLt (.inr rfl) K14 b_law_tokens
  have K16 := ok_toksT (n := 16) (j := 16) (P := P) (w := w) (base := base) F_law_tokens TL.toTxtLt (.inr rfl) K15 b_law_tokens
  have K17 := ok_toksT (n := 17) (j := 17) (P := P) (w := w) (base := base) F_law_tokens TL.toTxtLt (.inr rfl) K16 b_law_tokens
  have K18 := ok_toksT (n := 18) (j := 18) (P := P) (w := w) (base := base) F_law_tokens TL.toTxtLt (.inr rfl) K17 b_law_tokens
  have K19 := ok_toksT (n := 19) (j := 19) (P := P) (w := w) (base := base) F_law_tokens TL.toTxtLt (.inr rfl) K18 b_law_tokens
  have K20 := ok_toksT (n := 20) (j := 20) (P := P) (w := w) (base := base) F_law_tokens TL.toTxtLt (.inr rfl) K19 b_law_tokens
  have NA := ok_namesT (P := P) (w := w) (base := base) F_law_names TL.toTxtLt K20 b_law_tokens
  have ALL := ok_allT (P := P) (w := w) (base := base) F_law_all TL.toTxtLt
  have V0 := ok_worthT (n := 0) (j := 0) (fS := fun _ _ => False) (P := P) (w := w) (base := base) F_law_worth TL.toTxtLt (.inl rfl) no_pure b_law_worth
  have V1 := ok_worthT (n := 1) (j := 1) (P := P) (w := w) (base := base) F_law_worth TL.toTxtLt (.inr rfl) V0 b_law_worth
  have V2 := ok_worthT (n := 2) (j := 2) (P := P) (w := w) (base := base) F_law_worth TL.toTxtLt (.inr rfl) V1 b_law_worth
  have V3 := ok_worthT (n := 3) (j := 3) (P := P) (w := w) (base := base) F_law_worth TL.toTxtLt (.inr rfl) V2 b_law_worth
  have V4 := ok_worthT (n := 4) (j := 4) (P := P) (w := w) (base := base) F_law_worth TL.toTxtLt (.inr rfl) V3 b_law_worth
  have V5 := ok_worthT (n := 5) (j := 5) (P := P) (w := w) (base := base) F_law_worth TL.toTxtLt (.inr rfl) V4 b_law_worth
  have V6 := ok_worthT (n := 6) (j := 6) (P := P) (w := w) (base := base) F_law_worth TL.toTxtLt (.inr rfl) V5 b_law_worth
  have V7 := ok_worthT (n := 7) (j := 7) (P := P) (w := w) (base := base) F_law_worth TL.toTxtLt (.inr rfl) V6 b_law_worth
  have V8 := ok_worthT (n := 8) (j := 8) (P := P) (w := w) (base := base) F_law_worth TL.toTxtLt (.inr rfl) V7 b_law_worth
  have M0 := ok_madeT (n := 0) (j := 4) (fS := fun _ _ => False) (P := P) (w := w) (base := base) F_law_made TL.toTxtFo (Nat.le_refl _) RO RA AN b_Formula_and ORR b_Formula_or XO b_Formula_xor IV b_Formula_invert (.inl rfl) no_pure b_law_made
  have M1 := ok_madeT (n := 1) (j := 5) (P := P) (w := w) (base := base) F_law_made TL.toTxtFo (by decide) RO RA AN b_Formula_and ORR b_Formula_or XO b_Formula_xor IV b_Formula_invert (.inr rfl) M0 b_law_made
  have M2 := ok_madeT (n := 2) (j := 6) (P := P) (w := w) (base := base) F_law_made TL.toTxtFo (by decide) RO RA AN b_Formula_and ORR b_Formula_or XO b_Formula_xor IV b_Formula_invert (.inr rfl) M1 b_law_made
  have M3 := ok_madeT (n := 3) (j := 7) (P := P) (w := w) (base := base) F_law_made TL.toTxtFo (by decide) RO RA AN b_Formula_and ORR b_Formula_or XO b_Formula_xor IV b_Formula_invert (.inr rfl) M2 b_law_made
  have M4 := ok_madeT (n := 4) (j := 8) (P := P) (w := w) (base := base) F_law_made TL.toTxtFo (by decide) RO RA AN b_Formula_and ORR b_Formula_or XO b_Formula_xor IV b_Formula_invert (.inr rfl) M3 b_law_made
  have M5 := ok_madeT (n := 5) (j := 9) (P := P) (w := w) (base := base) F_law_made TL.toTxtFo (by decide) RO RA AN b_Formula_and ORR b_Formula_or XO b_Formula_xor IV b_Formula_invert (.inr rfl) M4 b_law_made
  have M6 := ok_madeT (n := 6) (j := 10) (P := P) (w := w) (base := base) F_law_made TL.toTxtFo (by decide) RO RA AN b_Formula_and ORR b_Formula_or XO b_Formula_xor IV b_Formula_invert (.inr rfl) M5 b_law_made
  have M7 := ok_madeT (n := 7) (j := 11) (P := P) (w := w) (base := base) F_law_made TL.toTxtFo (by decide) RO RA AN b_Formula_and ORR b_Formula_or XO b_Formula_xor IV b_Formula_invert (.inr rfl) M6 b_law_made
  have M8 := ok_madeT (n := 8) (j := 12) (P := P) (w := w) (base := base) F_law_made TL.toTxtFo (by decide) RO RA AN b_Formula_and ORR b_Formula_or XO b_Formula_xor IV b_Formula_invert (.inr rfl) M7 b_law_made
  exact ok_law F_law TL D1 b_law_source D2 b_law_draw WD b_law_words W7 b_law_tree M8 b_law_made K20 b_law_tokens NA b_law_names V8 b_law_worth ALL b_law_all RO RA AN b_Formula_and ORR b_Formula_or XO b_Formula_xor IV b_Formula_invert ST b_Formula_str VA b_value
theorem walk {l : PySem.W.OpenLaw} {q : Program} {loose : List Str} {XP : (Str → Option Value) → Heap → Prop} {YP : World → Heap → Prop} {d : DefRec} {K : Params → PySem.W.Frag} (hn : l.most = some 63) (hdf : d.params.defaults = [])
    (hY : ∀ (w : World) (h : Heap), YP w h → (K w.params).In h)
    (F : ∀ (w : World) (mg : Str → Option Value) (fa : Addr) (h : Heap), (K w.params).In h → h.Ns mainGlobals mg → mg d.name = some (.ref fa) →
      ∃ fd : FuncData, (∀ (s : Shared) (u : Value), BindsTo s fd ⟨[u], []⟩ [("_law_script", u)]) ∧ ∀ base : Heap, (K w.params).In base → base.Ns mainGlobals mg → FnG l.prog w (K w.params) mg base CX0 25 fa fd ["_law_script"] (spLaw (K w.params))) :
    PySem.W.WalkO q loose XP YP l.row.toRowW d [] (fun f vs => PySem.call f vs) :=
  walkG (n := 63) (k := 25) (x := "_law_script") (CX := fun _ => CX0) (sp := fun w => spLaw (K w.params)) hn (by decide) hdf ⟨rfl, by decide, by decide⟩ hY F (fun _ _ a ns hl _ hS => ⟨a, ns, rfl, hS, hl, fun _ => rfl⟩) fun _ _ _ _ _ z => z
end L2.Wk
open PySem PySem.W PyProof.Rows
set_option maxRecDepth 100000 in
set_option maxHeartbeats 0 in
theorem PySem.Challenge.cw_wakesafe_k02_formulas_made_holds : PySem.Challenge.rw_wakesafe_k02_formulas_made.Holds := by
  w_on; o_law; k_head; (case hw => w_witness2)
  k_fill
  refine L2.Wk.walk (l := PySem.Challenge.rw_wakesafe_k02_formulas_made) rfl rfl (fun w h Y => PySem.W.kIn_of Y) ?F
  case F =>
    intro w mg fa h KX G hmg
    refine' L2.Wk.all_mk KX G hmg ?n_RESERVED ?l_RESERVED ?v_RESERVED ?z_RESERVED ?n_LONGEST ?n_LETTERS ?a_is_name ?l_is_name ?c_is_name ?k_is_name ?a_ascending ?l_ascending ?c_ascending ?k_ascending ?b_isinstance ?b_str ?b_len ?b_all ?b_tuple ?b_set ?b_sorted ?n_CONSTANTS ?l_CONSTANTS ?v_CONSTANTS ?z_CONSTANTS ?n_SIGNS ?l_SIGNS ?kl_SIGNS ?ks_SIGNS ?lo_SIGNS ?v_SIGNS_0 ?v_SIGNS_1 ?v_SIGNS_2 ?v_SIGNS_3 ?n_PAGE_NAMES ?n_Formula ?pg_Formula ?hd_Formula ?po_Formula ?sa_Formula ?mk_Formula ?kc_Formula ?no_Formula_steps ?no_Formula_names ?a_finit ?i_finit ?l_finit ?c_finit ?k_finit ?a_Formula_str ?i_Formula_str ?l_Formula_str ?c_Formula_str ?k_Formula_str ?at_of ?rc_of ?l_of ?c_of ?k_of ?rd_Formula ?rg_Formula ?fi_of ?at_always ?rc_always ?l_always ?c_always ?k_always ?fi_always ?a_Formula_and ?i_Formula_and ?l_Formula_and ?c_Formula_and ?k_Formula_and ?a_Formula_or ?i_Formula_or ?l_Formula_or ?c_Formula_or ?k_Formula_or ?a_Formula_xor ?i_Formula_xor ?l_Formula_xor ?c_Formula_xor ?k_Formula_xor ?a_Formula_invert ?i_Formula_invert ?l_Formula_invert ?c_Formula_invert ?k_Formula_invert ?a_value ?i_value ?l_value ?c_value ?k_value ?n_InvalidText ?x_InvalidText ?sa_InvalidText ?ga_InvalidText ?gg_InvalidText ?nb_InvalidText ?a1_InvalidText ?t1_InvalidText ?l1_InvalidText ?c1_InvalidText ?kC_InvalidText ?eC_InvalidText ?tC_InvalidText ?hC_InvalidText ?iC_InvalidText ?sC_InvalidText ?ca_F ?cm_F ?cn_F ?ct_F ?kit_FF ?s_Formula ?a_text ?l_text ?c_text ?k_text ?a_each_once ?l_each_once ?c_each_once ?k_each_once ?a_check_words ?l_check_words ?c_check_words ?k_check_words ?a_steps_of_words ?l_steps_of_words ?c_steps_of_words ?k_steps_of_words ?a_put ?l_put ?c_put ?k_put ?a_joined ?l_joined ?c_joined ?k_joined ?a_inside ?l_inside ?c_inside ?k_inside ?a_everywhere ?l_everywhere ?c_everywhere ?k_everywhere ?a_column ?l_column ?c_column ?k_column ?a_table ?l_table ?c_table ?k_table ?a_page ?l_page ?c_page ?k_page ?a_law_source ?l_law_source ?c_law_source ?k_law_source ?a_law_draw ?l_law_draw ?c_law_draw ?k_law_draw ?a_law_pick ?l_law_pick ?c_law_pick ?k_law_pick ?b_abs ?b_int ?b_range ?b_list ?b_enumerate ?b_repr ?b_NotImplemented ?b_bool ?b_dict ?c_Formula ?ia_Formula_and ?ia_Formula_or ?ia_Formula_xor ?a_law_shuffled ?l_law_shuffled ?c_law_shuffled ?k_law_shuffled ?a_law_words ?l_law_words ?c_law_words ?k_law_words ?a_law_tree ?l_law_tree ?c_law_tree ?k_law_tree ?a_law_tokens ?l_law_tokens ?c_law_tokens ?k_law_tokens ?a_law_made ?l_law_made ?c_law_made ?k_law_made ?a_law_names ?l_law_names ?c_law_names ?k_law_names ?a_law_worth ?l_law_worth ?c_law_worth ?k_law_worth ?a_law_all ?l_law_all ?c_law_all ?k_law_all ?a_law ?l_law ?c_law ?k_law
    (case n_RESERVED => k_is)
    (case l_RESERVED => k_is)
    (case v_RESERVED => exact (.cons ⟨_, rfl⟩ (.cons ⟨_, rfl⟩ (.cons ⟨_, rfl⟩ (.cons ⟨_, rfl⟩ (.cons ⟨_, rfl⟩ (.cons ⟨_, rfl⟩ (.cons ⟨_, rfl⟩ (.cons ⟨_, rfl⟩ (.cons ⟨_, rfl⟩ (.cons ⟨_, rfl⟩ (.nil))))))))))))
    (case z_RESERVED => decide)
    (case n_LONGEST => k_is)
    (case n_LETTERS => k_is)
    (case a_is_name => k_is)
    (case l_is_name => k_is)
    (case c_is_name => k_is)
    (case k_is_name => k_is)
    (case a_ascending => k_is)
    (case l_ascending => k_is)
    (case c_ascending => k_is)
    (case k_ascending => k_is)
    (case b_isinstance => k_is)
    (case b_str => k_is)
    (case b_len => k_is)
    (case b_all => k_is)
    (case b_tuple => k_is)
    (case b_set => k_is)
    (case b_sorted => k_is)
    (case n_CONSTANTS => k_is)
    (case l_CONSTANTS => k_is)
    (case v_CONSTANTS => exact (.cons ⟨_, rfl⟩ (.cons ⟨_, rfl⟩ (.nil))))
    (case z_CONSTANTS => decide)
    (case n_SIGNS => k_is)
    (case l_SIGNS => k_is)
    (case kl_SIGNS => exact ⟨⟨_, _, rfl, rfl⟩, ⟨_, _, rfl, rfl⟩, ⟨_, _, rfl, rfl⟩, ⟨_, _, rfl, rfl⟩, True.intro⟩)
    (case ks_SIGNS => rfl)
    (case lo_SIGNS => rfl)
    (case v_SIGNS_0 => k_is)
    (case v_SIGNS_1 => k_is)
    (case v_SIGNS_2 => k_is)
    (case v_SIGNS_3 => k_is)
    (case n_PAGE_NAMES => k_is)
    (case n_Formula => k_is)
    (case pg_Formula => k_is)
    (case hd_Formula => k_is)
    (case po_Formula => k_is)
    (case sa_Formula => k_is)
    (case mk_Formula => k_is)
    (case kc_Formula => k_is)
    (case no_Formula_steps => k_is)
    (case no_Formula_names => k_is)
    (case a_finit => k_is)
    (case i_finit => k_is)
    (case l_finit => k_is)
    (case c_finit => k_is)
    (case k_finit => k_is)
    (case a_Formula_str => k_is)
    (case i_Formula_str => k_is)
    (case l_Formula_str => k_is)
    (case c_Formula_str => k_is)
    (case k_Formula_str => k_is)
    (case at_of => first | rfl | k_is)
    (case rc_of => first | rfl | k_is)
    (case l_of => k_is)
    (case c_of => k_is)
    (case k_of => k_is)
    (case rd_Formula => first | rfl | k_is)
    (case rg_Formula => first | rfl | k_is)
    (case fi_of => first | rfl | k_is)
    (case at_always => first | rfl | k_is)
    (case rc_always => first | rfl | k_is)
    (case l_always => k_is)
    (case c_always => k_is)
    (case k_always => k_is)
    (case fi_always => first | rfl | k_is)
    (case a_Formula_and => k_is)
    (case i_Formula_and => k_is)
    (case l_Formula_and => k_is)
    (case c_Formula_and => k_is)
    (case k_Formula_and => k_is)
    (case a_Formula_or => k_is)
    (case i_Formula_or => k_is)
    (case l_Formula_or => k_is)
    (case c_Formula_or => k_is)
    (case k_Formula_or => k_is)
    (case a_Formula_xor => k_is)
    (case i_Formula_xor => k_is)
    (case l_Formula_xor => k_is)
    (case c_Formula_xor => k_is)
    (case k_Formula_xor => k_is)
    (case a_Formula_invert => k_is)
    (case i_Formula_invert => k_is)
    (case l_Formula_invert => k_is)
    (case c_Formula_invert => k_is)
    (case k_Formula_invert => k_is)
    (case a_value => k_is)
    (case i_value => k_is)
    (case l_value => k_is)
    (case c_value => k_is)
    (case k_value => k_is)
    (case n_InvalidText => k_is)
    (case x_InvalidText => k_is)
    (case sa_InvalidText => k_is)
    (case ga_InvalidText => k_is)
    (case gg_InvalidText => k_is)
    (case nb_InvalidText => k_is)
    (case a1_InvalidText => k_is)
    (case t1_InvalidText => k_is)
    (case l1_InvalidText => k_is)
    (case c1_InvalidText => k_is)
    (case kC_InvalidText => k_is)
    (case eC_InvalidText => k_is)
    (case tC_InvalidText => k_is)
    (case hC_InvalidText => k_is)
    (case iC_InvalidText => k_is)
    (case sC_InvalidText => first | rfl | k_is)
    (case ca_F => k_is)
    (case cm_F => k_is)
    (case cn_F => k_is)
    (case ct_F => k_is)
    (case kit_FF => first | rfl | k_is)
    (case s_Formula => k_is)
    (case a_text => k_is)
    (case l_text => k_is)
    (case c_text => k_is)
    (case k_text => k_is)
    (case a_each_once => k_is)
    (case l_each_once => k_is)
    (case c_each_once => k_is)
    (case k_each_once => k_is)
    (case a_check_words => k_is)
    (case l_check_words => k_is)
    (case c_check_words => k_is)
    (case k_check_words => k_is)
    (case a_steps_of_words => k_is)
    (case l_steps_of_words => k_is)
    (case c_steps_of_words => k_is)
    (case k_steps_of_words => k_is)
    (case a_put => k_is)
    (case l_put => k_is)
    (case c_put => k_is)
    (case k_put => k_is)
    (case a_joined => k_is)
    (case l_joined => k_is)
    (case c_joined => k_is)
    (case k_joined => k_is)
    (case a_inside => k_is)
    (case l_inside => k_is)
    (case c_inside => k_is)
    (case k_inside => k_is)
    (case a_everywhere => k_is)
    (case l_everywhere => k_is)
    (case c_everywhere => k_is)
    (case k_everywhere => k_is)
    (case a_column => k_is)
    (case l_column => k_is)
    (case c_column => k_is)
    (case k_column => k_is)
    (case a_table => k_is)
    (case l_table => k_is)
    (case c_table => k_is)
    (case k_table => k_is)
    (case a_page => k_is)
    (case l_page => k_is)
    (case c_page => k_is)
    (case k_page => k_is)
    (case a_law_source => k_is)
    (case l_law_source => k_is)
    (case c_law_source => k_is)
    (case k_law_source => k_is)
    (case a_law_draw => k_is)
    (case l_law_draw => k_is)
    (case c_law_draw => k_is)
    (case k_law_draw => k_is)
    (case a_law_pick => k_is)
    (case l_law_pick => k_is)
    (case c_law_pick => k_is)
    (case k_law_pick => k_is)
    (case b_abs => k_is)
    (case b_int => k_is)
    (case b_range => k_is)
    (case b_list => k_is)
    (case b_enumerate => k_is)
    (case b_repr => k_is)
    (case b_NotImplemented => k_is)
    (case b_bool => k_is)
    (case b_dict => k_is)
    (case c_Formula => k_is)
    (case ia_Formula_and => k_is)
    (case ia_Formula_or => k_is)
    (case ia_Formula_xor => k_is)
    (case a_law_shuffled => k_is)
    (case l_law_shuffled => k_is)
    (case c_law_shuffled => k_is)
    (case k_law_shuffled => k_is)
    (case a_law_words => k_is)
    (case l_law_words => k_is)
    (case c_law_words => k_is)
    (case k_law_words => k_is)
    (case a_law_tree => k_is)
    (case l_law_tree => k_is)
    (case c_law_tree => k_is)
    (case k_law_tree => k_is)
    (case a_law_tokens => k_is)
    (case l_law_tokens => k_is)
    (case c_law_tokens => k_is)
    (case k_law_tokens => k_is)
    (case a_law_made => k_is)
    (case l_law_made => k_is)
    (case c_law_made => k_is)
    (case k_law_made => k_is)
    (case a_law_names => k_is)
    (case l_law_names => k_is)
    (case c_law_names => k_is)
    (case k_law_names => k_is)
    (case a_law_worth => k_is)
    (case l_law_worth => k_is)
    (case c_law_worth => k_is)
    (case k_law_worth => k_is)
    (case a_law_all => k_is)
    (case l_law_all => k_is)
    (case c_law_all => k_is)
    (case k_law_all => k_is)
    (case a_law => k_is)
    (case l_law => k_is)
    (case c_law => k_is)
    (case k_law => k_is)
