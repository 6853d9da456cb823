import PyProof.Rows.All
import Wide.All
import OpenK.AllK
import Wide.FinOn
import PyProof.EqAt
import PyProof.EqKinds
import PyProof.TupleCall
import HandS.ForMost
import HandS.ForExc
import HandS.Style
import HandS.IsInst
import HandS.TupAny
import HandS.TupMul
import HandS.Defaults
import HandS.Wide
import HandS.Set
import HandS.Strs
import HandS.SetFor
import HandS.RaiseMore
import HandS.FStr
import HandS.SlotsOwn
import HandS.NoneIn
import PyProof.Rows.Range3
import HandS.OwnEq
import HandS.More
import HandS.Star
import KE.KIsAll
import KE.KTryMore
import HandS.ExcIs
import HandS.CallLocal
import HandS.ClsMeth
import HandS.TryOnly
import KE.GoesEnumKw
import KE.GoesZip
import KE.KExcInit
import KE.KOpsOwn
import HandS.ExcOwn
import HandS.WrittenGet
import HandS.Small
import HandS.Dict
import PySem.Challenge.RW_wakesafe_k07_texts_of_no_formula
set_option Elab.async false
set_option linter.all false
set_option maxRecDepth 100000
set_option maxHeartbeats 4000000
namespace L2.Wk
open PySem PySem.Spec PyProof.Rows
/-! ### heaps -/
theorem Same.upd_new {H : Hp} {p : Addr} {o : HO} (h : H p = none) : Same H (upd H p o) := fun b u e => by
  rw [upd_ne (ne_of_none e h)]; exact e
theorem Same.of_upd {H H' : Hp} {p : Addr} {o : HO} (h : Same (upd H p o) H') (hp : H p = none) : Same H H' := fun b u e => h b u (Same.upd_new hp b u e)
theorem Same.sqT {K : PySem.W.Frag} {H H' : Hp} {a : Addr} {xs : List V} (e : Same H H') (h : SqT K H a xs) : SqT K H' a xs := by
  rcases h with (h | ⟨o, h⟩) | h
  · exact .inl (.inl (e _ _ h))
  · exact .inl (.inr ⟨o, e _ _ h⟩)
  · exact .inr h
/-- a comprehension over the signs of a text -/
theorem lc_str {z : Str} {g : TG} {tt : TT} {te : TE} {vs : List Nat} {σ : St} {H1 : Hp} {D : Addr} {Qd : Hp → Prop} (Pv : Nat → Hp → Prop) (h0 : Pv 0 (upd H1 D (.lst [])))
    (hs : ∀ i c H, z.cps[i]? = some c → Pv i H → g (.str ⟨#[c]⟩) (wipe σ vs) H fun σ2 H2 => wipe σ2 vs = wipe σ vs ∧ tt σ2 H2 fun b H3 =>
      if b = true then te σ2 H3 fun y H4 => ∃ acc, H4 D = some (.lst acc) ∧ acc.length < sizeLine ∧ Pv (i + 1) (upd H4 D (.lst (acc ++ [y]))) else Pv (i + 1) H3) (hd : ∀ H, Pv z.cps.size H → Qd H) :
    ∃ W : Nat → Nat → Hp → Prop, (∃ m, W 0 m (upd H1 D (.lst []))) ∧ ∀ i m H, W i m H →
      ((Its z).stop i H ∧ Qd H) ∨ ((Its z).go i H ∧ ∃ Nx : Hp → Prop, (∀ H', Nx H' → ∃ m', m' < m ∧ W (i + 1) m' H') ∧ ∀ x H', (Its z).yld i H x H' → g x (wipe σ vs) H' fun σ2 H2 => wipe σ2 vs = wipe σ vs ∧ tt σ2 H2 fun b H3 =>
        if b = true then te σ2 H3 fun y H4 => ∃ acc, H4 D = some (.lst acc) ∧ acc.length < sizeLine ∧ Nx (upd H4 D (.lst (acc ++ [y]))) else Nx H3) := by
  refine ⟨fun i m H => m = z.cps.size - i ∧ i ≤ z.cps.size ∧ Pv i H, ⟨z.cps.size, by simp, Nat.zero_le _, h0⟩, ?_⟩
  rintro i m H ⟨rfl, hi, p⟩
  by_cases hlt : i < z.cps.size
  · refine .inr ⟨hlt, Pv (i + 1), fun H' p' => ⟨z.cps.size - (i + 1), by omega, rfl, hlt, p'⟩, fun x H' y => ?_⟩
    obtain ⟨e, c, hc, ex⟩ := y
    subst e
    subst ex
    exact hs i c _ hc p
  · have e : i = z.cps.size := by omega
    subst e
    exact .inl ⟨Nat.le_refl _, hd H p⟩
theorem take_succ_map {α β : Type} {l : List α} {i : Nat} {x : α} (f : α → β) (h : l[i]? = some x) : (l.take (i + 1)).map f = (l.take i).map f ++ [f x] := by
  rw [List.take_add_one, h]
  simp
theorem arr_list {c : Nat} {a : Array Nat} {i : Nat} (h : a[i]? = some c) : a.toList[i]? = some c := by simpa using h
/-! ### names of the module, by kind -/
section
variable {X : Cx} {x : Str} {pos : Pos}
theorem pe_gr {a : Addr} (hg : Gl X x) (hm : X.mg x = some (.ref a)) (hd : (x == ("__debug__" : Str)) = false := by decide) : PE X (.Name x pos) (tC (.ref a)) := pe_glob hg hm rfl hd
theorem pe_gs {z : Str} {t : Tok} (hg : Gl X x) (hm : X.mg x = some (.str z t)) (hd : (x == ("__debug__" : Str)) = false := by decide) : PE X (.Name x pos) (tC (.str z)) := pe_glob hg hm ⟨_, rfl⟩ hd
theorem pe_gi {z : Int} {t : Tok} (hg : Gl X x) (hm : X.mg x = some (.int z t)) (hd : (x == ("__debug__" : Str)) = false := by decide) : PE X (.Name x pos) (tC (.int z)) := pe_glob hg hm ⟨_, rfl⟩ hd
theorem pe_tyB {T : String} (hg : Gl X x) (hm : X.mg x = none) (hv : bootBuiltins x = some (.type T)) (hn : x ≠ "__name__" := by decide) (hd : (x == ("__debug__" : Str)) = false := by decide) : PE X (.Name x pos) (tC (.ty T)) := pe_bltn hg hm hv rfl hn hd
end
/-! ### within a comprehension: K named -/
section
variable {X : Cx} {K : PySem.W.Frag}
theorem ix_listK (h : X.K = K) : IxR X (rIxL K) := h ▸ ix_list
theorem op_in_seqK (h : X.K = K) : OpR X (compareOp .In) (rIn K false) := h ▸ op_in_seq
theorem op_notIn_seqK (h : X.K = K) : OpR X (compareOp .NotIn) (rIn K true) := h ▸ op_notIn_seq
theorem call_lenK (h : X.K = K) : CallR X (.builtin "len") (fun xs H Q => ∃ x n, xs = [x] ∧ LenV K x H n ∧ Q (.int n) H) := h ▸ call_len
theorem sl_listK (h : X.K = K) : SlR X (rSlL K) := h ▸ sl_list
end
/-! ### C(..) in a try: what is raised is wished for at the slots -/
section
variable {X : Cx} {CX : CXT} {k : Nat} {f C : Addr} {fd : FuncData} {ps : List Str} {sp : Sp} {dvs : List V} {ds : List Value} {E : St → XK} {x m : Str} {p pos apos : Pos} {e o : Expr} {es : List Expr} {ta : TE} {t : TA}
def tMakeS (C : Addr) (sp : Sp) (dvs : List V) (E : St → XK) (t : TA) : TE := fun σ H Q => t σ H fun vs H1 => ∀ x dx, H1 x = none → H1 dx = none → dx ≠ x →
  sp (.ref x :: (vs ++ dvs)) (upd (upd H1 dx (.own x)) x (.ins C dx [])) (fun v H2 => v = .non ∧ Q (.ref x) H2) (E σ)
theorem run_makeS {pins : List (Addr × Obj)} {σ : St} {H : Hp} {s : Shared} {Q : VK} {us : List Value} {vs : List V} (M : Mk X.K C f) (F : FnOk X.prog X.w X.K X.mg X.base CX k f fd ps sp) (hr : Room (k + 1) X.A) (hb : Binds X.K fd ps ds) (hd : Vals dvs ds)
    (hx : PassesAt CX X σ (E σ)) (I : Inv X pins σ H s) (r : Vals vs us)
    (h : ∀ x dx, H x = none → H dx = none → dx ≠ x → sp (.ref x :: (vs ++ dvs)) (upd (upd H dx (.own x)) x (.ins C dx [])) (fun v H2 => v = .non ∧ Q (.ref x) H2) (E σ)) :
    wpAny (model X.prog X.w) X.A (call (.ref C) us) (EP X pins σ Q) X.xe s := by
  have hq := h (s.heap.objs.size + 1) s.heap.objs.size (I.hok.fresh (Nat.le_succ _)) (I.hok.fresh (Nat.le_refl _)) (Nat.ne_of_lt (Nat.lt_succ_self _))
  have I2 := Inv.made (C := C) I
  have r2 : Vals (V.ref (s.heap.objs.size + 1) :: (vs ++ dvs)) (Value.ref (s.heap.objs.size + 1) :: (us ++ ds)) := .cons rfl (r.append hd)
  have hl : (Value.ref (s.heap.objs.size + 1) :: us ++ ds).length = ps.length := by
    have e := r2.length
    rw [F.len _ _ _ _ hq] at e
    exact e.symm
  refine wpAny_call (make_map (f := f) I.kIn M.makes M.init (beq_iff_eq.mp M.fn) (codeAny_mono (F.run _ X.stack _ _ ⟨Value.ref (s.heap.objs.size + 1) :: us, []⟩ (Value.ref (s.heap.objs.size + 1) :: (us ++ ds)) _ _ (E σ) (hr.make C us [])
    (I2.env0.make C us []) (hb _ (Value.ref (s.heap.objs.size + 1) :: us) I2.kIn hl) r2 hq) fun r s' hq' => ?_))
  cases r with
  | error e => exact hx pins _ _ e s' I2 hq'
  | ok fl =>
    cases fl with
    | ret u =>
      obtain ⟨v, H', I3, rv, ev, q3⟩ := I2.after hq'
      subst ev
      exact ⟨rv, ⟨V.ref (s.heap.objs.size + 1), H', I3, rfl, q3⟩⟩
    | next => exact False.elim hq'
    | brk => exact False.elim hq'
    | cont => exact False.elim hq'
theorem pe_makeS (M : Mk X.K C f) (F : FnOk X.prog X.w X.K X.mg X.base CX k f fd ps sp) (hr : Room (k + 1) X.A) (hg : Gl X x) (hm : X.mg x = some (.ref C)) (hb : Binds X.K fd ps ds) (hd : Vals dvs ds) (hx : ∀ σ, PassesAt CX X σ (E σ))
    (ha : PA X (e :: es) t) (hdb : (x == ("__debug__" : Str)) = false := by decide) (he : starEach (e :: es) X.env = (false, eval e X.env) :: starEach es X.env := by rfl) (hpl : (backTo pos (starEach es X.env)).any (·.1) = false := by rfl) :
    PE X (.Call (.Name x p) (e :: es) [] pos) (tMakeS C sp dvs E t) := by
  refine ⟨fun pins s σ H Q I h => ?_⟩
  refine wpAny_Call_Name_kw (ld_glob I hg hm ?_ hdb)
  refine PySem.W.callWith_K (h₀ := X.base) I.ok.mod.kin M.kp (thn (ha.run pos pins s σ H _ I h) fun us s1 ⟨vs, H1, I1, r, q⟩ => ⟨I1.kIn, ?_⟩) he hpl
  exact run_makeS M F hr hb hd (hx σ) I1 r q
end
/-! ### the draws: a list of what is left of the great cells, and a number that is stirred -/
structure DealAt (H : Hp) (d l : Addr) : Prop where
  ex : ∃ (cs : List Int) (b : Int), H d = some (.lst [.ref l, .int b]) ∧ H l = some (.lst (cs.map V.int)) ∧ (∀ c ∈ cs, 0 ≤ c) ∧ cs.length ≤ 63 ∧ 0 ≤ b ∧ b < 2147483647
/-- all but the deal stands as before -/
def Keep (d l : Addr) (H H' : Hp) : Prop := ∀ p o, H p = some o → p ≠ d → p ≠ l → H' p = some o
theorem Keep.refl (d l : Addr) (H : Hp) : Keep d l H H := fun _ _ e _ _ => e
theorem Keep.trans {d l : Addr} {H H1 H2 : Hp} (a : Keep d l H H1) (b : Keep d l H1 H2) : Keep d l H H2 := fun p o e h1 h2 => b p o (a p o e h1 h2) h1 h2
theorem Keep.same {d l : Addr} {H H' : Hp} (s : Same H H') : Keep d l H H' := fun p o e _ _ => s p o e
theorem DealAt.same {d l : Addr} {H H' : Hp} (D : DealAt H d l) (s : Same H H') : DealAt H' d l := by
  obtain ⟨cs, b, h1, h2, h3⟩ := D.ex
  exact ⟨⟨cs, b, s _ _ h1, s _ _ h2, h3⟩⟩
theorem DealAt.ne {d l : Addr} {H : Hp} (D : DealAt H d l) : d ≠ l := by
  obtain ⟨cs, b, h1, h2, _⟩ := D.ex
  refine ne_of h1 h2 fun e => ?_
  cases cs with
  | nil => cases e
  | cons c cs => cases e
theorem DealAt.nd {d l p : Addr} {H : Hp} (D : DealAt H d l) (h : H p = none) : p ≠ d := by
  obtain ⟨cs, b, h1, h2, _⟩ := D.ex
  exact (ne_of_none h1 h).symm
theorem DealAt.nl {d l p : Addr} {H : Hp} (D : DealAt H d l) (h : H p = none) : p ≠ l := by
  obtain ⟨cs, b, h1, h2, _⟩ := D.ex
  exact (ne_of_none h2 h).symm
/-- no tracked address is lost -/
theorem Keep.free {d l p : Addr} {H H' : Hp} (k : Keep d l H H') (D : DealAt H d l) (D' : DealAt H' d l) (h : H' p = none) : H p = none := by
  cases q : H p with
  | none => rfl
  | some o =>
    have e1 : p ≠ d := D'.nd h
    have e2 : p ≠ l := D'.nl h
    rw [k p o q e1 e2] at h
    cases h
end L2.Wk
namespace L2.Wk
open PySem PySem.Spec PyProof.Rows
/-! ### what a set of ints is -/
def keyS (e : Int × Value) : Str := match e.2 with | .str k _ => k | _ => Str.empty
def GoodS (w : World) (e : Int × Value) : Prop := ∃ k tk, e.2 = Value.str k tk ∧ e.1 = hashStr w k

/-- the set of ints at a: S its members, n their number; its table rises and can be walked -/
def SetS (w : World) (h : Heap) (a : Addr) (S : Str → Bool) (n : Nat) : Prop :=
  ∃ o es ep t, h.get? a = some o ∧ o.ExactSet ∧ o.data = .set es ep t ∧ (∀ e ∈ es.toList, GoodS w e) ∧ (es.toList.map keyS).Nodup ∧ (∀ k, S k = true ↔ k ∈ es.toList.map keyS) ∧
    es.size < scanBound ∧ t.fits es.size = true ∧ es.size = n ∧ Ris t.place.toList ∧ (w.params.followText "set-order" = true ∨ t.led = true)

section
variable {P : Program} {w : World} {h h' : Heap} {a : Addr} {S : Str → Bool} {n : Nat}

theorem SetS.at (R : SetS w h a S n) (k : ∀ o, h.get? a = some o → h'.get? a = some o) : SetS w h' a S n := by
  obtain ⟨o, es, ep, t, ho, r⟩ := R
  exact ⟨o, es, ep, t, k o ho, r⟩
theorem SetS.lt (R : SetS w h a S n) : a < h.objs.size := by
  obtain ⟨o, es, ep, t, ho, r⟩ := R
  exact Heap.lt_size ho
theorem SetS.congr {S' : Str → Bool} (R : SetS w h a S n) (e : ∀ k, S' k = S k) : SetS w h a S' n := by
  have q : S' = S := funext e
  rw [q]; exact R
theorem goodS_elems {l : List (Int × Value)} (g : ∀ e ∈ l, GoodS w e) : ElemsOf (PySem.strKind P w) l := fun e he => by
  obtain ⟨k, tk, h1, h2⟩ := g e he
  exact ⟨⟨k, by rw [h1]; exact PySem.strKind_is P w k tk, h2⟩, by rw [h1] <;> rfl⟩
theorem goodS_is {e : Int × Value} (g : GoodS w e) (k : Str) : (PySem.strKind P w).is k e.2 = true ↔ keyS e = k := by
  obtain ⟨k0, tk, h1, _⟩ := g
  unfold keyS
  rw [h1]
  show ((k0 == k) = true) ↔ k0 = k
  exact beq_iff_eq
theorem goodS_mem {l : List (Int × Value)} (g : ∀ e ∈ l, GoodS w e) (k : Str) : k ∈ l.map keyS ↔ ∃ e ∈ l, (PySem.strKind P w).is k e.2 = true := by
  rw [List.mem_map]
  constructor
  · rintro ⟨e, he, q⟩
    exact ⟨e, he, (goodS_is (g e he) k).2 q⟩
  · rintro ⟨e, he, q⟩
    exact ⟨e, he, (goodS_is (g e he) k).1 q⟩
theorem SetS.setOf (R : SetS w h a S n) : h.SetOf (PySem.strKind P w) a S n := by
  obtain ⟨o, es, ep, t, ho, hx, hd, g, nd, hm, hb, hf, hn, _⟩ := R
  exact ⟨o, es, ep, t, ho, hx, hd, goodS_elems g, fun k => (hm k).trans (goodS_mem g k), hb, hf, hn⟩
end

section
variable {P : Program} {w : World} {A : Around} {E : Value → Shared → Prop} {s : Shared} {a : Addr} {S : Str → Bool} {n : Nat}

/-! ### add -/
theorem setS_add_tail {g : Bool → Sem Unit} (hg : ∀ (b : Bool) (s₁ : Shared) (Q' : Unit → Shared → Prop), Q' () s₁ → wpAny (model P w) A (g b) Q' E s₁)
    {o : Obj} {es : Array (Int × Value)} {ep : Nat} {t : SetTable} (ho : s.heap.get? a = some o) (hex : o.ExactSet) (hd : o.data = .set es ep t)
    {es1 : Array (Int × Value)} {t2 : SetTable} {S' : Str → Bool} (g1 : ∀ e ∈ es1.toList, GoodS w e) (nd1 : (es1.toList.map keyS).Nodup) (m1 : ∀ k, S' k = true ↔ k ∈ es1.toList.map keyS)
    (hb1 : es1.size < scanBound) (hf2 : t2.fits es1.size = true) (hr : Ris t2.place.toList) (hl : w.params.followText "set-order" = true ∨ t2.led = true) {wasDummy : Bool} {R : Option Bool → Shared → Prop}
    (hR : ∀ h', Heap.SameBut a s.heap h' → SetS w h' a S' es1.size → R (some true) { s with heap := h' }) :
    wpAny (model P w) A (do
        storeSet a es1 t2
        if (!wasDummy && t2.tooFull) = true then do
            g (relayAll t2 es1 (SetTable.grown es1.size)).2.2
            storeSet a (relayAll t2 es1 (SetTable.grown es1.size)).1 (relayAll t2 es1 (SetTable.grown es1.size)).2.1
            pure (some true)
          else pure (some true)) R E s := by
  refine wpAny_bind (wpAny_storeSet_of ho hd ?_ (fits_of_scanBound hb1))
  have ho1 := store_at (es' := es1) (t' := t2) ho hd
  have sb1 := Heap.SameBut.update s.heap a (Obj.putSet es1 t2)
  split
  · have pm := relayAll_perm t2 es1 (SetTable.grown es1.size)
    have hf3 := relayAll_fits t2 es1 (SetTable.grown es1.size)
    have hr3 := relayAll_ris t2 es1 (SetTable.grown es1.size)
    have hl3 := relayAll_led t2 es1 (SetTable.grown es1.size)
    generalize relayAll t2 es1 (SetTable.grown es1.size) = Z at pm hf3 hr3 hl3 ⊢
    obtain ⟨es2, t3, gave⟩ := Z
    dsimp only at pm hf3 hr3 hl3 ⊢
    have hsz : es2.size = es1.size := by rw [← Array.length_toList, pm.length_eq, Array.length_toList]
    have hb2 : es2.size < scanBound := by rw [hsz]; exact hb1
    refine wpAny_bind (hg _ _ _ ?_)
    refine wpAny_bind (wpAny_storeSet_of ho1 rfl ?_ (fits_of_scanBound hb2))
    have ho2 := store_at (es' := es2) (t' := t3) ho1 rfl
    refine wpAny_pure (hR _ (sb1.trans (Heap.SameBut.update _ a _)) ?_)
    exact ⟨_, es2, _, t3, ho2, hex, rfl, fun e he => g1 e (pm.mem_iff.mp he), (pm.map keyS).nodup_iff.mpr nd1, fun k => (m1 k).trans (pm.map keyS).mem_iff.symm, hb2, hf3, hsz, hr3,
      hl.imp id fun z => by rw [hl3]; exact z⟩
  · exact wpAny_pure (hR _ sb1 ⟨_, es1, _, t2, ho1, hex, rfl, g1, nd1, m1, hb1, hf2, rfl, hr, hl⟩)

theorem setS_add_hashed {k : Str} {tk : Tok} {Q : Bool → Shared → Prop} (R : SetS w s.heap a S n) (room : n + 1 < scanBound)
    (hQ : ∀ h', Heap.SameBut a s.heap h' → SetS w h' a (fun j => S j || decide (j = k)) (if S k = true then n else n + 1) → Q (!S k) { s with heap := h' }) :
    wpAny (model P w) A (setAddHashed a (.str k tk) ((PySem.strKind P w).hash k)) Q E s := by
  obtain ⟨o, es, ep, t, ho, hex, hd, g, nd, hm, hb, hf, hn, hr, hl⟩ := R
  have hkey : (PySem.strKind P w).is k (.str k tk) = true := PySem.strKind_is P w k tk
  have hsc : (Value.str k tk).scannable = true := rfl
  have hel : ElemsOf (PySem.strKind P w) es.toList := goodS_elems g
  unfold setAddHashed setAddHashedIn
  refine wpAny_holding (wpAny_bind (wpAny_setState_of ho hd hf ?_))
  dsimp only
  rw [byScan_of hsc hb hel]
  simp only [↓reduceIte]
  unfold setAddByScan
  refine wpAny_bind ?_
  refine wpAny_bind (wpAny_rule ?_)
  refine wpAny_bind (wpAny_setScan_of hkey ho hd hf hel ?_)
  cases hfi : List.findIdx? (fun e => (PySem.strKind P w).is k e.2) es.toList with
  | some j =>
    dsimp only
    obtain ⟨hj, pj, _⟩ := List.findIdx?_eq_some_iff_getElem.mp hfi
    have hSk : S k = true := (hm k).2 ((goodS_mem (P := P) (w := w) g k).2 ⟨es.toList[j], List.getElem_mem hj, pj⟩)
    refine wpAny_pure (wpAny_pure ?_)
    have q := hQ s.heap (Heap.SameBut.refl a s.heap) ⟨o, es, ep, t, ho, hex, hd, g, nd, fun i => by
      rw [Bool.or_eq_true, decide_eq_true_eq, ← hm i]
      exact ⟨fun z => z.elim id (fun e => e ▸ hSk), .inl⟩, hb, hf, by rw [if_pos hSk]; exact hn, hr, hl⟩
    rw [hSk] at q
    exact q
  | none =>
    dsimp only
    have hnk : k ∉ es.toList.map keyS := fun z => by
      obtain ⟨e, he, q⟩ := (goodS_mem (P := P) (w := w) g k).1 z
      have c := List.findIdx?_eq_none_iff.mp hfi e he
      rw [q] at c
      cases c
    have hSk : S k = false := by
      cases q : S k with
      | false => rfl
      | true => exact absurd ((hm k).1 q) hnk
    have hgw : ∀ (b : Bool) {s₁ : Shared} {Q' : Unit → Shared → Prop}, Q' () s₁ → wpAny (model P w) A (match b with | true => rule "set.scan.the-table-gave-way" | false => pure ()) Q' E s₁ :=
      fun b s₁ Q' q => by cases b <;> first | exact wpAny_pure q | exact wpAny_rule q
    have pm := layNew_perm t es ((PySem.strKind P w).hash k) (.str k tk)
    have hf1 := layNew_fits t es ((PySem.strKind P w).hash k) (.str k tk)
    have hr1 := layNew_ris t es ((PySem.strKind P w).hash k) (.str k tk) hr
    have hl1 := layNew_led t es ((PySem.strKind P w).hash k) (.str k tk)
    generalize layNew t es ((PySem.strKind P w).hash k) (.str k tk) = Z at pm hf1 hr1 hl1 ⊢
    obtain ⟨es1, t1, wasDummy, gave⟩ := Z
    dsimp only at pm hf1 hr1 hl1 ⊢
    rw [Array.toList_push] at pm
    have pc : es1.toList.Perm (((PySem.strKind P w).hash k, Value.str k tk) :: es.toList) := pm.trans (List.perm_append_singleton _ _)
    have pk : (es1.toList.map keyS).Perm (k :: es.toList.map keyS) := pc.map keyS
    have g1 : ∀ e ∈ es1.toList, GoodS w e := fun e he => by
      rcases List.mem_cons.mp (pc.mem_iff.mp he) with z | z
      · rw [z]; exact ⟨k, tk, rfl, rfl⟩
      · exact g e z
    have nd1 : (es1.toList.map keyS).Nodup := pk.nodup_iff.mpr (List.nodup_cons.mpr ⟨hnk, nd⟩)
    have m1 : ∀ i, (S i || decide (i = k)) = true ↔ i ∈ es1.toList.map keyS := fun i => by
      rw [Bool.or_eq_true, decide_eq_true_eq, hm i, pk.mem_iff, List.mem_cons]
      exact Or.comm
    have hsz : es1.size = n + 1 := by rw [← Array.length_toList, pc.length_eq, List.length_cons, Array.length_toList, hn]
    have hb1 : es1.size < scanBound := by rw [hsz]; exact room
    have hled : w.params.followText "set-order" = true ∨ t1.led = true := hl.imp id fun z => by rw [hl1]; exact z
    have fin : ∀ h', Heap.SameBut a s.heap h' → SetS w h' a (fun j => S j || decide (j = k)) es1.size → Q true { s with heap := h' } := fun h' sb r => by
      have q := hQ h' sb
      rw [hSk] at q
      rw [hsz] at r
      exact q r
    refine wpAny_bind (hgw _ ?_)
    split
    · refine wpAny_bind ?_
      rw [hashByValue_scannable 8 hsc]
      refine wpAny_pure ?_
      refine setS_add_tail ?_ ho hex hd g1 nd1 m1 hb1 ?_ ?_ ?_ ?_
      · intro b s₁ Q' q; cases b <;> first | exact wpAny_pure q | exact wpAny_rule q
      · first | (split <;> first | exact hf1 | exact SetTable.fits_plain_off hf1) | exact hf1
      · first | (split <;> exact hr1) | exact hr1
      · first | (split <;> exact hled) | exact hled
      · intro h' sb r; dsimp only; exact wpAny_pure (fin h' sb r)
    · refine wpAny_bind (wpAny_pure ?_)
      simp only [↓reduceIte]
      refine setS_add_tail ?_ ho hex hd g1 nd1 m1 hb1 hf1 hr1 hled ?_
      · intro b s₁ Q' q; cases b <;> first | exact wpAny_pure q | exact wpAny_rule q
      · intro h' sb r; dsimp only; exact wpAny_pure (fin h' sb r)

end
/-! ### set(t) of a tuple of ints -/
theorem setS_new_at {w : World} {h : Heap} {a : Addr} {ns : List Str} (ho : h.get? a = some { cls := .type "set", dict := none, data := .set #[] 0 (.fresh 0 0 (!w.params.followText "set-order")) }) : SetS w h a (fun j => decide (j ∈ ns.take 0)) 0 :=
  ⟨_, #[], 0, _, ho, ⟨rfl, rfl, rfl⟩, rfl, (fun e he => by simp at he), (by simp), (fun k => by simp), (by decide), (by rfl), rfl, List.Pairwise.nil, by
    show _ ∨ (!w.params.followText "set-order") = true
    cases w.params.followText "set-order"
    · exact .inr rfl
    · exact .inl rfl⟩
section
variable {P : Program} {w : World} {A : Around} {E : Value → Shared → Prop} {s : Shared}
theorem set_update_strs {I : Addr} {fp wr : List Addr} {G : Array GenState → Array GenState → Prop} {n : Nat} {Pv : Nat → Value → Prop} {St : Nat → Shared → Prop} {R : Result → Shared → Prop}
    (W : WalksS P w A.in1 I fp wr G n Pv St) (S : Addr) (hSf : S ∉ fp) (ns : List Str) (hn : n = ns.length) (hb : ns.length + 1 < scanBound) (hval : ∀ i v, Pv i v → ∃ k t, ns[i]? = some k ∧ v = .str k t) :
    ∀ (k i : Nat) (s : Shared), n - i = k → i ≤ n → St i s → (∃ c, c ≤ i ∧ SetS w s.heap S (fun j => decide (j ∈ ns.take i)) c) →
      (∀ s' c, Moved (S :: wr) G s s' → c ≤ n → SetS w s'.heap S (fun j => decide (j ∈ ns)) c → R (.ok (.ret .none)) s') →
      codeAny (model P w) A (.builtin "set.update.loop" ⟨[.ref S, .ref I], []⟩) R s := by
  have hSw : S ∉ wr := fun h => hSf (W.sub _ h)
  have hsub : ∀ b ∈ wr, b ∈ S :: wr := fun b hb => List.mem_cons_of_mem _ hb
  intro k
  induction k with
  | zero =>
    intro i s hk' hi hst ⟨c, hc, hS⟩ hR
    have hin : i = n := by omega
    subst hin
    refine codeAny_builtin F.entry_set_update_loop ?_
    rw [Around.under_plainId F.plain_set_update_loop _]
    show wpAny _ A.in1 (pyNext (.ref I) >>= _) _ _ s
    refine wpAny_bind (W.done s _ _ hst fun s' hm => ?_)
    show wpAny _ A.in1 (ret Value.none) _ _ s'
    have e : ns.take i = ns := List.take_of_length_le (by omega)
    rw [e] at hS
    exact wpAny_pure (hR s' c (hm.mono hsub) hc (hS.at fun o e => hm.heap S o hSw e))
  | succ k ih =>
    intro i s hk' hi hst ⟨c, hc, hS⟩ hR
    have hlt : i < n := by omega
    refine codeAny_builtin F.entry_set_update_loop ?_
    rw [Around.under_plainId F.plain_set_update_loop _]
    show wpAny _ A.in1 (pyNext (.ref I) >>= _) _ _ s
    refine wpAny_bind (W.item i s _ _ hlt hst fun v s' hP hst' hm => ?_)
    obtain ⟨z, t, hz, rfl⟩ := hval i v hP
    have hS' : SetS w s'.heap S (fun j => decide (j ∈ ns.take i)) c := hS.at fun o e => hm.heap S o hSw e
    show wpAny _ A.in1 (holding [Value.str z t] (setAdd S (.str z t)) >>= _) _ _ s'
    refine wpAny_bind (wpAny_holding ?_)
    unfold setAdd
    refine wpAny_holding ?_
    refine wpAny_bind ((PySem.strKind P w).pyHash (k := z) (PySem.strKind_is _ _ _ _) ?_)
    refine setS_add_hashed (s := { s' with toks := s'.toks + 1 }) hS' (by omega) fun h' hsb hS2 => ?_
    have hS3 : SetS w h' S (fun j => decide (j ∈ ns.take (i + 1))) (if decide (z ∈ ns.take i) = true then c else c + 1) := hS2.congr fun j => by
      rw [List.take_add_one, hz]
      simp [List.mem_append]
    have hc3 : (if decide (z ∈ ns.take i) = true then c else c + 1) ≤ i + 1 := by
      split <;> omega
    refine wpAny_pure ⟨plainId_quiet F.plain_set_update_loop _, ih (i + 1) _ (by omega) hlt (W.frame _ s' _ _ hst' (Nat.le_succ _) fun b hb o e => ?_) ⟨_, hc3, hS3⟩ fun s'' c2 hm'' hc'' hS'' => ?_⟩
    · rw [hsb.2 b (fun h : b = S => hSf (by rw [← h]; exact hb))]; exact e
    · refine hR s'' c2 (Moved.trans W.gtrans ((hm.mono hsub).then_heap (Nat.le_succ _) fun b o hb e => ?_) hm'') hc'' hS''
      rw [hsb.2 b (fun h : b = S => hb (by rw [h]; exact List.mem_cons_self))]; exact e

set_option maxRecDepth 100000 in
set_option maxHeartbeats 3200000 in
theorem call_set_lstS {l : Addr} {items : Array Value} (ns : List Str) {Q : Value → Shared → Prop} (hh : A.handled = none) (hl : s.heap.IsList l items) (hit : StrsAre items.toList ns) (hb : ns.length + 1 < scanBound)
    (h : ∀ (h' : Heap) (tk c : Nat), SetS w h' s.heap.objs.size (fun j => decide (j ∈ ns)) c → c ≤ ns.length → (∀ b o, s.heap.get? b = some o → h'.get? b = some o) → Q (.ref s.heap.objs.size) { s with heap := h', toks := tk }) :
    wpAny (model P w) A (call (.type "set") [.ref l]) Q E s := by
  have hisz : items.size = ns.length := by
    have q := StrsAre.length hit
    rw [Array.length_toList] at q
    exact q
  obtain ⟨c, tl, hmro⟩ := F.called_set.mro
  have hmade := F.called_set.made
  have hsub := F.called_set.sub
  refine wpAny_call (codeAny_of_tree ?_)
  show wpAny _ _ (callAny (.type "set") _) _ _ _
  refine wpAny_pure ⟨Code.quiet_builtin _ (by decide +kernel), codeAny_builtin F.entry_type_call ?_⟩
  rw [Around.under_plain (weight_type_call_type "set" [.ref l] []) rfl]
  have h1 := F.called_set.notType
  have h2 := F.called_set.canCreate
  have hct := F.typeCall_set_1 (.ref l)
  repeat (any_goals (first | assumption | wp_step))

  refine codeAny_mono (code_set_led1 (.ref l) (E := E) (Q₁ := fun obj s₁ => obj = .ref s.heap.objs.size ∧ s₁ = { s with heap := s.heap.push { cls := .type "set", dict := none, data := .set #[] 0 (.fresh 0 0 (!w.params.followText "set-order")) } }) ⟨rfl, rfl⟩) fun r s₁ hr => ?_
  cases r with
  | error e => exact hr
  | ok fl =>
    cases fl with
    | ret obj =>
      obtain ⟨rfl, rfl⟩ := hr
      have hS : (s.heap.push { cls := .type "set", dict := none, data := .set #[] 0 (.fresh 0 0 (!w.params.followText "set-order")) }).get? s.heap.objs.size = some { cls := .type "set", dict := none, data := .set #[] 0 (.fresh 0 0 (!w.params.followText "set-order")) } := Heap.get?_push_size _ rfl
      have hT : Shared.TypeIs { s with heap := s.heap.push { cls := .type "set", dict := none, data := .set #[] 0 (.fresh 0 0 (!w.params.followText "set-order")) } } (.ref s.heap.objs.size) "set" := ⟨_, hS, rfl⟩
      have hli := F.called_set.init.lookup
      have hbi := F.called_set.init.bind (.ref s.heap.objs.size)
      repeat (any_goals (first | assumption | wp_step))

      refine codeAny_mono (codeAny_call_builtin (R := wants (fun r s₂ => r = .none ∧ ∃ h' tk c, s₂ = { s with heap := h', toks := tk } ∧ SetS w h' s.heap.objs.size (fun j => decide (j ∈ ns)) c ∧ c ≤ ns.length ∧
          (∀ b o, s.heap.get? b = some o → h'.get? b = some o)) E) F.called_set.init.plain F.entry_set_init (check_set_init_1 hT ?_)) fun r₂ s₂ hr₂ => ?_
      · obtain ⟨ol, hol, hcl, nl, hdl⟩ := hl
        obtain ⟨ocls, odict, odata, oslots⟩ := ol
        simp only at hcl hdl
        subst hcl; subst hdl
        have hol' : (s.heap.push { cls := .type "set", dict := none, data := .set #[] 0 (.fresh 0 0 (!w.params.followText "set-order")) }).get? l = some { cls := .type "list", dict := odict, data := .seq items nl, slots := oslots } := Heap.get?_push_of_some _ hol
        have hsls := F.sub_list_set
        have hslf := F.sub_list_frozenset
        have hne : (Value.type "list" == Value.type "dict") = false := by decide
        have hl1 : (s.heap.push { cls := .type "set", dict := none, data := .set #[] 0 (.fresh 0 0 (!w.params.followText "set-order")) }).IsList l items := ⟨_, hol', rfl, nl, rfl⟩
        unfold Builtin.«set.__init__» noKeywords Builtin.Frozenset.updateFrom
        generalize hPI : pyIter = PI
        wp_walk
        subst hPI

        refine wpAny_pyIter_list hl1 ?_
        refine wpAny_bind (wpAny_runValue ?_)
        have hlS : l < s.heap.objs.size := Heap.lt_size hol
        have hh3 : A.in1.in1.in1.handled = none := by simp [hh]
        have hz1 : (s.heap.push { cls := .type "set", dict := none, data := .set #[] 0 (.fresh 0 0 (!w.params.followText "set-order")) }).objs.size = s.heap.objs.size + 1 := Heap.size_push ..
        have hneI : l ≠ (s.heap.push { cls := .type "set", dict := none, data := .set #[] 0 (.fresh 0 0 (!w.params.followText "set-order")) }).objs.size := by
          rw [Heap.size_push]; exact Nat.ne_of_lt (Nat.lt_succ_of_lt hlS)
        have hSf : s.heap.objs.size ∉ [(s.heap.push { cls := .type "set", dict := none, data := .set #[] 0 (.fresh 0 0 (!w.params.followText "set-order")) }).objs.size, l] := by
          rw [Heap.size_push]; simp only [List.mem_cons, List.mem_singleton, List.not_mem_nil, or_false, not_or]
          exact ⟨Nat.ne_of_lt (Nat.lt_succ_self _), Nat.ne_of_gt hlS⟩
        have hval : ∀ (i : Nat) (v : Value), items[i]? = some v → ∃ k t, ns[i]? = some k ∧ v = .str k t := fun i v hv => by
          have hi : i < ns.length := by rw [← hisz]; exact (Array.getElem?_eq_some_iff.mp hv).1
          obtain ⟨t, e⟩ := SS.strs_at hit i v (by rw [Array.getElem?_toList]; exact hv)
          refine ⟨ns[i], t, List.getElem?_eq_getElem hi, ?_⟩
          rw [e, List.getD_eq_getElem?_getD, List.getElem?_eq_getElem hi] <;> rfl
        refine set_update_strs ((Walks.list hh3 _ l hneI items).toS) s.heap.objs.size
          hSf ns hisz hb hval (items.size - 0) 0 _ (by omega) (Nat.zero_le _)
          ⟨⟨_, Heap.get?_push_size _ rfl, rfl, rfl⟩, (hl1.push _)⟩ ?hS0 ?hR
        case hS0 =>
          have hget : ((s.heap.push { cls := .type "set", dict := none, data := .set #[] 0 (.fresh 0 0 (!w.params.followText "set-order")) }).push { cls := .type "list_iterator", data := .fields #[.ref l, .int 0 0] }).get? s.heap.objs.size
              = some { cls := .type "set", dict := none, data := .set #[] 0 (.fresh 0 0 (!w.params.followText "set-order")) } := Heap.get?_push_of_some _ hS
          exact ⟨0, Nat.le_refl 0, setS_new_at hget⟩
        case hR =>
          intro s' c' hm hc' hS'
          obtain ⟨h', g2, d', tk', os'⟩ := s'
          have eg : g2 = s.gens := hm.gens
          have ed : d' = s.drawn := hm.drawn
          have eo : os' = s.os := hm.os
          subst eg; subst ed; subst eo
          show wpAny _ _ _ _ _ _
          refine wpAny_pure ?_
          show wpAny _ _ (ret Value.none) _ _ _
          rw [hisz] at hc'
          refine wpAny_pure ⟨rfl, h', tk', c', rfl, hS', hc', fun b o e => ?_⟩
          have hb0 : b < s.heap.objs.size := Heap.lt_size e
          have hb1 : b ≠ s.heap.objs.size := Nat.ne_of_lt hb0
          have hb2 : b ≠ (s.heap.push { cls := .type "set", dict := none, data := .set #[] 0 (.fresh 0 0 (!w.params.followText "set-order")) }).objs.size := by
            rw [Heap.size_push]; exact Nat.ne_of_lt (Nat.lt_succ_of_lt hb0)
          exact hm.heap b o (by simp only [List.mem_cons, List.mem_singleton, List.not_mem_nil, or_false, not_or]; exact ⟨hb1, hb2⟩) (Heap.get?_push_of_some _ (Heap.get?_push_of_some _ e))

      · cases r₂ with
        | error e => exact hr₂
        | ok fl₂ =>
          cases fl₂ with
          | ret r =>
            obtain ⟨rfl, h', tk, c', rfl, hS', hc', hk'⟩ := hr₂
            repeat (any_goals (first | assumption | wp_step))
            exact h _ _ _ hS' hc' hk'
          | _ => exact hr₂.elim
    | _ => exact hr.elim

end

section
variable {P : Program} {w : World} {A : Around} {E : Value → Shared → Prop} {s : Shared} {a : Addr} {S : Str → Bool} {n : Nat}
theorem strs_of : ∀ (l : List Value), (∀ v ∈ l, ∃ k tk, v = Value.str k tk) → StrsAre l (l.map strOf) := fun l h => strsAre_map l h
/-- sorted(set of texts), fewer than 64: its members, each once, ascending -/
theorem sorted_setS {Q : Value → Shared → Prop} (R : SetS w s.heap a S n) (hh : A.handled = none) (h64 : n < 64)
    (hQ : ∀ s' p (out : Array Value) (c : Nat) (ys : List Str), (∀ b o, s.heap.get? b = some o → s'.heap.get? b = some o) → s'.gens = s.gens → s'.os = s.os → s.heap.objs.size ≤ p →
      s'.heap.get? p = some (seqObj "list" out c) → StrsAre out.toList ys → sortedS ys = true → ys.Nodup → (∀ k, k ∈ ys ↔ S k = true) → ys.length = n → Q (.ref p) s') :
    wpAny (model P w) A (call (.builtin "sorted") [.ref a]) Q E s := by
  obtain ⟨o, es, ep, t, ho, hex, hd, g, nd, hm, hb, hf, hn, hr, hl⟩ := R
  refine Calls.call_function_entry kind_sorted plain_sorted entry_sorted (args_sorted1 _) ?_
  unfold Builtin.«sorted»
  refine wpAny_bind (m := checkCount "sorted" 1 1 _) (wpAny_pure ?_)
  refine wpAny_bind (collect_set (A := A.in1) hh ⟨o, ho, hex.1, hd⟩ hf hb hr hl fun s1 vs k1 hz g1 o1 pm => ?_)
  have hvl : vs.length = n := by rw [pm.length_eq, List.length_map, Array.length_toList]; exact hn
  have hI : StrsAre vs (vs.map strOf) := strs_of vs fun v hv => by
    obtain ⟨e, he, q⟩ := List.mem_map.mp (pm.mem_iff.mp hv)
    obtain ⟨k, tk, h1, _⟩ := g e he
    exact ⟨k, tk, by rw [← q]; exact h1⟩
  have pk : (vs.map strOf).Perm (es.toList.map keyS) := by
    have q := pm.map strOf
    rw [List.map_map] at q
    refine q.trans (List.Perm.of_eq (List.map_congr_left fun e he => ?_))
    obtain ⟨k, tk, h1, _⟩ := g e he
    show strOf e.2 = keyS e
    unfold keyS
    rw [h1]
    rfl
  refine wpAny_bind (wpAny_newList ?_ (by rw [hvl, sizeLine_eq]; omega))
  have hoL : (s1.heap.push (seqObj "list" vs.toArray 0)).get? s1.heap.objs.size = some (seqObj "list" vs.toArray 0) := Heap.get?_push_size _ rfl
  refine wpAny_bind (wpAny_holding (wpAny_call_entry slot_list_sort ⟨_, hoL, rfl⟩ entry_list_sort (list_sort_treeK strKind_oneLt hoL hI.keysOf (fun v₁ v₂ rest e => keyKind_strs (by rw [← e]; exact hI)) (by rw [hvl]; exact h64) fun st' b1 b2 => ⟨_, rfl, ?_⟩) (args_list_sort _)))
  obtain ⟨ys, a1, a2, a3⟩ := sorted_out_str hI b1 b2
  obtain ⟨c, hc⟩ := sortedHeap_at (vs := vs) (out := (arrOf st').map (·.2)) hoL
  have pn : ys.Perm (es.toList.map keyS) := a2.trans pk
  refine wpAny_pure ⟨_, rfl, hQ _ s1.heap.objs.size _ c ys (fun b u e => ?_) g1 o1 hz hc a1 a3 (pn.nodup_iff.mpr nd) (fun k => by rw [pn.mem_iff, ← hm k]) ?_⟩
  · have q := k1 b u e
    have hlt := Heap.lt_size q
    show (sortedHeap (s1.heap.push (seqObj "list" vs.toArray 0)) s1.heap.objs.size vs ((arrOf st').map (·.2))).get? b = some u
    rw [sortedHeap_old (Nat.ne_of_lt hlt) (by rw [size_push']; exact Nat.lt_succ_of_lt hlt)]
    exact Heap.get?_push_of_some _ q
  · rw [pn.length_eq, List.length_map, Array.length_toList]; exact hn
end
/-! ### over the layer -/
def SetT (w : World) (a : Addr) (S : Str → Bool) (n : Nat) : HO := .ext fun h => SetS w h a S n
section
variable {X : Cx}
/-- set(a list of texts) -/
def rSetL (K : PySem.W.Frag) (w : World) : List V → Hp → VK → Prop := fun vs H Q => ∃ (l : Addr) (xs : List Str), vs = [V.ref l] ∧ SqL K H l (xs.map V.str) ∧ xs.length ≤ 63 ∧
  ∀ (p : Addr) (n : Nat), n ≤ xs.length → H p = none → Q (.ref p) (upd H p (SetT w p (fun k => decide (k ∈ xs)) n))
theorem cr_setL (hc : X.calm = true) : CallR X (.type "set") (rSetL X.K X.w) := by
  intro pins s σ H vs us Q I r h
  obtain ⟨l, xs, rfl, hs, h64, q⟩ := h
  obtain ⟨its, rv, hl, _⟩ := I.list hs
  rw [Vals.ref1 r]
  refine call_set_lstS xs (I.ok.hd hc) hl.isList (by simpa using strsAre_of rv) (by unfold scanBound; omega) fun h' tk c hS hn hk => ?_
  have ob : ObjOk X.prog X.w (upd H s.heap.objs.size (SetT X.w s.heap.objs.size (fun k => decide (k ∈ xs)) c)) h' s.heap.objs.size (SetT X.w s.heap.objs.size (fun k => decide (k ∈ xs)) c) := by
    obtain ⟨o, _, _, _, ho, _⟩ := id hS
    exact ⟨hS, ⟨o, ho⟩, fun h1 h2 p k => SetS.at p k⟩
  exact ⟨.ref _, _, I.laid (t' := tk) hk (Nat.le_refl _) ob, rfl, q _ c hn (I.hok.fresh (Nat.le_refl _))⟩
/-- sorted(a set of texts) -/
def rSortT (w : World) : List V → Hp → VK → Prop := fun vs H Q => ∃ (a : Addr) (S : Str → Bool) (n : Nat), vs = [V.ref a] ∧ H a = some (SetT w a S n) ∧ n < 64 ∧
  ∀ (ys : List Str) (p : Addr), sortedS ys = true → ys.Nodup → (∀ k, k ∈ ys ↔ S k = true) → ys.length = n → H p = none → Q (.ref p) (upd H p (.lst (ys.map V.str)))
theorem cr_sortT (hc : X.calm = true) : CallR X (.builtin "sorted") (rSortT X.w) := by
  intro pins s σ H vs us Q I r h
  obtain ⟨a, S, n, rfl, ha, h64, q⟩ := h
  have R : SetS X.w s.heap a S n := (I.hok a _ ha).1
  rw [Vals.ref1 r]
  refine sorted_setS R (I.ok.hd hc) h64 fun s' p out c ys k g o hp hg hi hs nd hm hl => ?_
  have hlen : (ys.map V.str).length ≤ sizeLine := by rw [List.length_map, hl, sizeLine_eq]; omega
  have hn : H p = none := I.hok.fresh hp
  have J : Inv X pins σ (upd H p (.lst (ys.map V.str))) { s with heap := s'.heap, gens := s'.gens, drawn := s'.drawn, toks := s'.toks } :=
    I.call (ch := []) (Un.laid k hp hn) (I.hok.laid k hp ⟨hlen, out.toList, c, vals_of_strs hi, hg⟩) (by rw [g]; exact I.bare) (fun _ z => nomatch z)
  have e : s' = { s with heap := s'.heap, gens := s'.gens, drawn := s'.drawn, toks := s'.toks } := by
    cases s'
    cases s
    cases o
    rfl
  rw [e]
  exact ⟨.ref p, _, J, rfl, q ys p hs nd hm hl hn⟩
end
end L2.Wk
namespace L2.Wk
open PySem PySem.Spec PyProof.Rows
section
variable {X : Cx} {K : PySem.W.Frag}
theorem ix_tupK (h : X.K = K) : IxR X (rIxT K) := h ▸ ix_tup
end
theorem ite_bool {b : Bool} {A B : Prop} (h1 : b = true → A) (h2 : b = false → B) : if b = true then A else B := by
  cases b with
  | true => exact iteT (h1 rfl)
  | false => exact iteF (h2 rfl)
theorem get_map_str {zs : List Str} {i : Nat} {x : V} (h : (zs.map V.str)[i]? = some x) : ∃ z, z ∈ zs ∧ zs[i]? = some z ∧ x = V.str z := by
  rw [List.getElem?_map] at h
  cases e : zs[i]? with
  | none => rw [e] at h; cases h
  | some z => rw [e] at h; exact ⟨z, List.mem_of_getElem? e, rfl, (Option.some.inj h).symm⟩
theorem get_map_ref {zs : List Addr} {i : Nat} {x : V} (h : (zs.map V.ref)[i]? = some x) : ∃ z, zs[i]? = some z ∧ x = V.ref z := by
  rw [List.getElem?_map] at h
  cases e : zs[i]? with
  | none => rw [e] at h; cases h
  | some z => rw [e] at h; exact ⟨z, rfl, (Option.some.inj h).symm⟩
/-- xs[i:j] within the list -/
theorem cut_mid (xs : List V) (i j : Nat) : cutV xs (some (i : Int)) (some (j : Int)) = (xs.drop (min i xs.length)).take (min j xs.length - min i xs.length) := by
  unfold cutV
  rw [HT.sIx_nat, HT.sIx_nat]
theorem cut_from (xs : List V) (i : Nat) : cutV xs (some (i : Int)) none = xs.drop i := by
  unfold cutV
  rw [HT.sIx_nat, HT.sIx_none]
  by_cases h : i ≤ xs.length
  · have e : min i xs.length = i := by omega
    rw [e, List.take_of_length_le (by rw [List.length_drop]; omega)]
  · have e : min i xs.length = xs.length := by omega
    rw [e, List.drop_of_length_le (by omega), List.drop_of_length_le (by omega)]
    simp
theorem cut_to (xs : List V) (j : Nat) : cutV xs none (some (j : Int)) = xs.take j := by
  unfold cutV
  rw [HT.sIx_nat, HT.sIx_none]
  simp [List.take_eq_take_iff]
theorem cut_mem {xs : List V} {lo hi : Option Int} {x : V} (h : x ∈ cutV xs lo hi) : x ∈ xs := List.mem_of_mem_drop (List.mem_of_mem_take h)
theorem app_len (a b : Str) : (a ++ b).length = a.length + b.length := by
  show (Str.append a b).cps.size = a.cps.size + b.cps.size
  exact Array.size_append
theorem snoc_ind {α : Type} {P : List α → Prop} (h0 : P []) (h1 : ∀ xs x, P xs → P (xs ++ [x])) : ∀ l, P l := fun l => by
  have : ∀ (n : Nat) (l : List α), l.length = n → P l := by
    intro n
    induction n with
    | zero => intro l hl; rw [List.eq_nil_of_length_eq_zero hl]; exact h0
    | succ n ih =>
      intro l hl
      have hne : l ≠ [] := by intro e; rw [e] at hl; cases hl
      have e := List.dropLast_concat_getLast hne
      rw [← e]
      exact h1 _ _ (ih _ (by rw [List.length_dropLast]; omega))
  exact this l.length l rfl
/-- a slice, of any items -/
def cutL {α : Type} (xs : List α) (lo hi : Option Int) : List α := (xs.drop (HT.sIx xs.length 0 lo)).take (HT.sIx xs.length xs.length hi - HT.sIx xs.length 0 lo)
theorem cut_map {α : Type} (f : α → V) (xs : List α) (lo hi : Option Int) : cutV (xs.map f) lo hi = (cutL xs lo hi).map f := by
  unfold cutV cutL
  rw [List.length_map, List.map_take, List.map_drop]
theorem cutL_mem {α : Type} {xs : List α} {lo hi : Option Int} {x : α} (h : x ∈ cutL xs lo hi) : x ∈ xs := List.mem_of_mem_drop (List.mem_of_mem_take h)
theorem cutL_len {α : Type} (xs : List α) (i j : Nat) : (cutL xs (some (i : Int)) (some (j : Int))).length = min j xs.length - min i xs.length := by
  unfold cutL
  rw [HT.sIx_nat, HT.sIx_nat, List.length_take, List.length_drop]
  omega
theorem cutL_len0 {α : Type} (xs : List α) (j : Nat) : (cutL xs none (some (j : Int))).length = min j xs.length := by
  unfold cutL
  rw [HT.sIx_nat, HT.sIx_none, List.length_take, List.length_drop]
  omega
/-- pairs of what stands and what it says -/
def AllAt {α : Type} (R : V → α → Prop) : List V → List α → Prop
  | [], [] => True
  | v :: vs, x :: xs => R v x ∧ AllAt R vs xs
  | [], _ :: _ => False
  | _ :: _, [] => False
theorem AllAt.len {α : Type} {R : V → α → Prop} : ∀ {vs : List V} {xs : List α}, AllAt R vs xs → vs.length = xs.length
  | [], [], _ => rfl
  | _ :: _, _ :: _, h => congrArg Nat.succ (AllAt.len h.2)
  | [], _ :: _, h => h.elim
  | _ :: _, [], h => h.elim
theorem AllAt.imp {α : Type} {R S : V → α → Prop} (f : ∀ v x, R v x → S v x) : ∀ {vs : List V} {xs : List α}, AllAt R vs xs → AllAt S vs xs
  | [], [], _ => True.intro
  | _ :: _, _ :: _, h => ⟨f _ _ h.1, AllAt.imp f h.2⟩
  | [], _ :: _, h => h.elim
  | _ :: _, [], h => h.elim
theorem AllAt.app {α : Type} {R : V → α → Prop} : ∀ {vs ws : List V} {xs ys : List α}, AllAt R vs xs → AllAt R ws ys → AllAt R (vs ++ ws) (xs ++ ys)
  | [], _, [], _, _, h => h
  | _ :: _, _, _ :: _, _, h, h' => ⟨h.1, AllAt.app h.2 h'⟩
  | [], _, _ :: _, _, h, _ => h.elim
  | _ :: _, _, [], _, h, _ => h.elim
theorem AllAt.get {α : Type} {R : V → α → Prop} : ∀ {vs : List V} {xs : List α} {i : Nat} {v : V}, AllAt R vs xs → vs[i]? = some v → ∃ x, xs[i]? = some x ∧ R v x
  | _ :: _, _ :: _, 0, _, h, e => by
    cases (Option.some.inj e)
    exact ⟨_, rfl, h.1⟩
  | _ :: _, _ :: _, i + 1, _, h, e => AllAt.get (i := i) h.2 e
  | [], _, _, _, _, e => by cases e
  | _ :: _, [], _, _, h, _ => h.elim
end L2.Wk
namespace L2.Wk
open PySem PySem.Spec PyProof.Rows
section
variable {prog : Program} {w : World} {A : Around} {E : Value → Shared → Prop} {s : Shared} {K : PySem.W.Frag} {x C f : Addr} {ox : Obj} {odd : Option Obj}
theorem str_from {Q : Value → Shared → Prop} (hu : A.units < cLine) (X : K.In s.heap) (I : PySem.W.InstAt s.heap x ox C odd) (hs : PySem.W.findIn K (.ref C) "__str__" = some (some (.ref f))) (hf : PySem.W.isFn K (.ref f) = true)
    (h : wpAny (model prog w) A (call (.ref f) [.ref x]) (fun r s₁ => ∃ z t, r = Value.str z t ∧ Q r s₁) E s) : wpAny (model prog w) A (Builtin.Str.strOf (.ref x)) Q E s := by
  unfold Builtin.Str.strOf
  refine PySem.W.KFB.if_not rfl ?_
  refine wpAny_bind (wpAny_cRoomFor hu ?_)
  refine wpAny_bind (m := callSpecial? (.ref x) (Str.ofString "__str__")) (PySem.W.special_fn X I hs (beq_iff_eq.mp hf) (wpAny_mono h (fun r s' hr => ?_) fun _ _ y => y))
  obtain ⟨z, t, rfl, hq⟩ := hr
  exact wpAny_pure hq
theorem str_own {Q : Value → Shared → Prop} (hu : A.in1.in1.units < cLine) (X : K.In s.heap) (I : PySem.W.InstAt s.heap x ox C odd) (hs : PySem.W.findIn K (.ref C) "__str__" = some (some (.ref f))) (hf : PySem.W.isFn K (.ref f) = true)
    (h : wpAny (model prog w) A.in1.in1 (call (.ref f) [.ref x]) (fun r s₁ => ∃ z t, r = Value.str z t ∧ Q r s₁) E s) : wpAny (model prog w) A (call (.type "str") [.ref x]) Q E s := by
  refine callType_newIn (S := fun A' R s' => wpAny (model prog w) A'.in1 (Builtin.Str.strOf (.ref x)) (fun r s'' => R (.ok (.ret r)) s'') (fun e s'' => R (.error e) s'') s') F.called_str (by decide) (F.typeCall_str_1 _) (F.newCall_str_1 _) (fun obj => F.args_object_init_2 obj _) F.entry_str_new (.of_wp fun A' R s' h' => ?_) ?_
  · rw [str_new_tree]
    refine wpAny_bind (wpAny_pure ?_)
    refine wpAny_bind (wpAny_of_eq isSubtype_str_str ?_)
    exact wpAny_bind (wpAny_mono h' (fun r s' h' => wpAny_pure ⟨_, rfl, h'⟩) fun _ _ e => e)
  · refine str_from hu X I hs hf (wpAny_mono h (fun r s₁ hr => ?_) fun _ _ y => y)
    obtain ⟨z, t, rfl, hq⟩ := hr
    exact ⟨z, t, rfl, typeIs_str _ _ _, hq⟩
end
section
variable {X : Cx} {CX : CXT} {pins : List (Addr × Obj)} {σ : L2.St} {H : Hp} {s : Shared} {C f : Addr} {fd : FuncData} {ps : List Str} {n : Nat} {sp : Sp} {E : XK}
/-- the callee runs below the running body -/
theorem run_ok {A : Around} {Q : VK} {us : List Value} {ws : List V} (F : FnOk X.prog X.w X.K X.mg X.base CX n f fd ps sp) (hb : Binds X.K fd ps []) (hr : Room n A) (e0 : Env0 X.prog X.w X.K X.mg X.base A X.stack s H) (hx : Passes CX X E) (I : Inv X pins σ H s) (r : Vals ws us) (h : sp ws H Q E) :
    codeAny (model X.prog X.w) A (.call (.ref f) ⟨us, []⟩) (fun r s' => match r with | .ok (.ret v) => EP X pins σ Q v s' | .ok _ => False | .error e => X.xe e s') s := by
  have hl := F.len _ _ _ _ h
  refine codeAny_mono (F.run A X.stack s H ⟨us, []⟩ us ws Q E hr e0 (by
    have := hb s us I.kIn (by rw [List.append_nil, ← r.length]; exact hl)
    simpa using this) r h) fun r s' hq => ?_
  cases r with
  | error e => exact hx pins σ H s e s' I hq
  | ok fl =>
    cases fl with
    | ret u => exact I.after hq
    | next => exact False.elim hq
    | brk => exact False.elim hq
    | cont => exact False.elim hq
/-- str(x) of an instance by its own __str__ -/
def rStrOwn (C : Addr) (sp : Sp) (E : XK) : List V → Hp → VK → Prop := fun xs H Q => ∃ a dx fs, xs = [V.ref a] ∧ H a = some (.ins C dx fs) ∧ sp [.ref a] H (fun z H' => ∃ y, z = .str y ∧ Q z H') E
theorem call_strOwn (hs : PySem.W.findIn X.K (.ref C) "__str__" = some (some (.ref f))) (hf : PySem.W.isFn X.K (.ref f) = true) (F : FnOk X.prog X.w X.K X.mg X.base CX n f fd ps sp) (hb : Binds X.K fd ps []) (hr : Room (n + 2) X.A) (hx : Passes CX X E) : CallR X (.type "str") (rStrOwn C sp E) := by
  intro pins s σ H xs us Q I r h
  obtain ⟨a, dx, fs, rfl, ha, q⟩ := h
  obtain ⟨u, rfl, ru⟩ := r.one
  cases (show u = Value.ref a from ru)
  obtain ⟨mA, J, _⟩ := ins_get I.hok ha
  obtain ⟨od, J, _⟩ := J.look
  have hr2 : Room n X.A.in1.in1 := (show Room (n + 1) X.A.in1 from Room.in1 hr).in1
  refine str_own hr2.units0 I.kIn J hs hf (wpAny_mono (wpAny_call (run_ok (us := [.ref a]) (ws := [.ref a]) F hb hr2 I.env0.in1.in1 hx I (.cons rfl .nil) q)) (fun w s' z => ?_) fun _ _ x => x)
  obtain ⟨z', H', I', rz, i, ei, qz⟩ := z
  subst ei
  obtain ⟨t, e⟩ := (show ∃ t, w = Value.str i t from rz)
  cases e
  exact ⟨i, t, rfl, .str i, H', I', ⟨t, rfl⟩, qz⟩
/-- what stands on the right of an own ==, and its type -/
inductive RgtOf (K : PySem.W.Frag) (H : Hp) (C : Addr) : V → Value → Prop where
  | str (z : Str) : RgtOf K H C (.str z) (.type "str")
  | non : RgtOf K H C .non (.type "NoneType")
  | int (i : Int) : RgtOf K H C (.int i) (.type "int")
  | ins {a D dx : Addr} {fs : List (Str × V)} (e : H a = some (.ins D dx fs)) : RgtOf K H C (.ref a) (.ref D)
  | lst {a : Addr} {xs : List V} (e : H a = some (.lst xs)) : RgtOf K H C (.ref a) (.type "list")
  | tup {a : Addr} {xs : List V} (e : H a = some (.tup xs)) : RgtOf K H C (.ref a) (.type "tuple")
  | bl (b : Bool) : RgtOf K H C (.bl b) (.type "bool")
  | fTup {a : Addr} {o : Obj} {xs : List V} (e : H a = some (.frz o (.tup xs))) : RgtOf K H C (.ref a) (.type "tuple")
  | kTup {a : Addr} {o : Obj} (e : K.lookup a = some o) (c : o.cls = .type "tuple") : RgtOf K H C (.ref a) (.type "tuple")
/-- x == y, x an instance of the class at C by its own == at f -/
def rEqOwn (K : PySem.W.Frag) (C : Addr) (sp : Sp) (E : XK) : R2 := fun x y H Q => ∃ a dx fs tb, x = .ref a ∧ H a = some (.ins C dx fs) ∧ RgtOf K H C y tb ∧ PySem.W.notFirst K C tb = true ∧ sp [.ref a, y] H Q E
theorem op_eqOwn (hs : PySem.W.findIn X.K (.ref C) "__eq__" = some (some (.ref f))) (hf : PySem.W.isFn X.K (.ref f) = true) (F : FnOk X.prog X.w X.K X.mg X.base CX n f fd ps sp) (hb : Binds X.K fd ps []) (hr : Room n X.A) (hx : Passes CX X E) :
    OpR X (compareOp .Eq) (rEqOwn X.K C sp E) := by
  intro pins s σ H x y v u Q I rx ry h
  obtain ⟨a, dx, fs, tb, rfl, ha, hy, hn, q⟩ := h
  cases (show v = Value.ref a from rx)
  obtain ⟨mA, J, _⟩ := ins_get I.hok ha
  obtain ⟨od, J, _⟩ := J.look
  obtain ⟨m, hF⟩ := I.fr
  have lk : PySem.W.Looks (model X.prog X.w) s.heap (typeOf u) tb := by
    cases hy with
    | str z => obtain ⟨t, e⟩ := (show ∃ t, u = Value.str z t from ry); cases e; exact PySem.W.Looks.of_pure rfl
    | non => cases (show u = Value.none from ry); exact PySem.W.Looks.of_pure rfl
    | int i => obtain ⟨t, e⟩ := (show ∃ t, u = Value.int i t from ry); cases e; exact PySem.W.Looks.of_pure rfl
    | bl b => cases (show u = Value.bool b from ry); exact PySem.W.Looks.of_pure rfl
    | @ins b D dy gs e =>
      cases (show u = Value.ref b from ry)
      obtain ⟨mB, J', _⟩ := ins_get I.hok e
      obtain ⟨od', J', _⟩ := J'.look
      exact J'.type
    | @lst b xs e =>
      cases (show u = Value.ref b from ry)
      obtain ⟨_, _, n, _, h1⟩ := (show ObjOk X.prog X.w H s.heap b (.lst xs) from I.hok b _ e)
      exact (PySem.W.Looks.ld h1).andThen .now
    | @tup b xs e =>
      cases (show u = Value.ref b from ry)
      obtain ⟨_, _, _, o, h1, h2, _⟩ := (show ObjOk X.prog X.w H s.heap b (.tup xs) from I.hok b _ e)
      exact h2 ▸ (PySem.W.Looks.ld h1).andThen .now
    | @kTup b o e c =>
      cases (show u = Value.ref b from ry)
      exact c ▸ (PySem.W.Looks.ld (I.kIn _ _ e)).andThen .now
    | @fTup b ob xs e =>
      cases (show u = Value.ref b from ry)
      obtain ⟨_, _, _, _, o, h1, h2, _⟩ := (show ObjOk X.prog X.w H s.heap b (.frz ob (.tup xs)) from I.hok b _ e)
      exact h2 ▸ (PySem.W.Looks.ld h1).andThen .now
  show wpAny (model X.prog X.w) X.A (richCompare .Eq (.ref a) u) (EP X pins σ Q) X.xe s
  refine PySem.W.cmp_K (op := .Eq) (tb := tb) hr.units0 hF I.ok.mod.kin J lk hn hs hf ?_
  refine wpAny_mono (wpAny_call (run_ok (us := [.ref a, u]) (ws := [.ref a, y]) F hb hr I.env0 hx I (.cons rfl (.cons ry .nil)) q)) (fun w s' z => ?_) fun _ _ x => x
  obtain ⟨z', H', I', rz, qz⟩ := z
  exact SlX.cmpback rz ⟨z', H', I', rz, qz⟩
/-- a walk over what is a list or a tuple -/
def iSeq (K : PySem.W.Frag) (tl : TE) : TI := fun σ H R => tl σ H fun x H1 => ∃ a, x = .ref a ∧ (((∃ xs, SqL K H1 a xs) ∧ R (Itl K a) H1) ∨ ((∃ xs, SqT K H1 a xs) ∧ R (Itt K a) H1))
theorem pi_seq {tg l : Expr} {tl : TE} (hl : PE X l tl) : PI X tg l (iSeq X.K tl) := by
  refine ⟨fun pins s σ H R I h => ?_⟩
  refine thn (hl.run pins s σ H _ I h) fun v s1 ⟨x, H1, I1, r1, q1⟩ => ?_
  obtain ⟨a, e, ⟨⟨xs, hq⟩, q⟩ | ⟨⟨xs, hq⟩, q⟩⟩ := q1
  · subst e
    cases r1
    obtain ⟨its, rv, p, hz⟩ := I1.list hq
    refine wpAny_pyIter_list p.isList ?_
    refine ⟨s1.heap.objs.size, [s1.heap.objs.size], _, _, H1, rfl, I1.kept (t' := s1.toks) fun b o e => Heap.get?_push_of_some _ e, turn_list a _, ⟨_, Heap.get?_push_size _ rfl, rfl, rfl⟩, fun b hb => ?_, q⟩
    have e : b = s1.heap.objs.size := by simpa using hb
    subst e
    exact I1.fpOk (Nat.le_refl _) (I1.hok.fresh (Nat.le_refl _))
  · subst e
    cases r1
    obtain ⟨its, rv, p, hz⟩ := I1.tuple hq
    refine wpAny_pyIter_tuple (show s1.heap.IsTuple a its.toArray from p) ?_
    refine ⟨s1.heap.objs.size, [s1.heap.objs.size], _, _, H1, rfl, I1.kept (t' := s1.toks) fun b o e => Heap.get?_push_of_some _ e, turn_tuple a _, ⟨_, Heap.get?_push_size _ rfl, rfl, rfl⟩, fun b hb => ?_, q⟩
    have e : b = s1.heap.objs.size := by simpa using hb
    subst e
    exact I1.fpOk (Nat.le_refl _) (I1.hok.fresh (Nat.le_refl _))
end
/-! ### a list or a tuple -/
section
variable {K : PySem.W.Frag} {H H' : Hp} {a : Addr} {xs : List V}
def Sq (K : PySem.W.Frag) (H : Hp) (a : Addr) (xs : List V) : Prop := SqL K H a xs ∨ SqT K H a xs
theorem Same.sqL (s : Same H H') (h : SqL K H a xs) : SqL K H' a xs := by
  rcases h with (h | ⟨o, h⟩) | h
  · exact .inl (.inl (s _ _ h))
  · exact .inl (.inr ⟨o, s _ _ h⟩)
  · exact .inr h
theorem Same.sq (s : Same H H') (h : Sq K H a xs) : Sq K H' a xs := h.elim (fun h => .inl (Same.sqL s h)) fun h => .inr (Same.sqT s h)
theorem tyx_L (h : SqL K H a xs) : TyX K H (.ref a) (.type "list") := by
  rcases h with (h | ⟨o, h⟩) | ⟨o, its, n, e, c, _⟩
  · exact .base (.lst h)
  · exact .base (.frz h)
  · exact .kList e c
theorem tyx_T (h : SqT K H a xs) : TyX K H (.ref a) (.type "tuple") := by
  rcases h with (h | ⟨o, h⟩) | ⟨o, its, n, e, c, _⟩
  · exact .base (.tup h)
  · exact .fTuple h
  · exact .kTuple e c
theorem rgt_T {C : Addr} (h : SqT K H a xs) : RgtOf K H C (.ref a) (.type "tuple") := by
  rcases h with (h | ⟨o, h⟩) | ⟨o, its, n, e, c, _⟩
  · exact .tup h
  · exact .fTup h
  · exact .kTup e c
/-- tuple(xs) -/
theorem tup_of {Q : VK} (h : Sq K H a xs) (k : ∀ t H1, SqT K H1 t xs → Same H H1 → Q (.ref t) H1) : (SqL K H a xs ∧ ∀ l, H l = none → Q (.ref l) (upd H l (.tup xs))) ∨ (SqT K H a xs ∧ Q (.ref a) H) :=
  h.elim (fun h => .inl ⟨h, fun l hl => k l _ (.inl (.inl upd_same)) (Same.upd_new hl)⟩) fun h => .inr ⟨h, k a H h (Same.refl _)⟩
def rTup (K : PySem.W.Frag) : List V → Hp → VK → Prop := fun xs H Q => ∃ p ys, xs = [.ref p] ∧ ((SqL K H p ys ∧ ∀ l, H l = none → Q (.ref l) (upd H l (.tup ys))) ∨ (SqT K H p ys ∧ Q (.ref p) H))
theorem call_tupS {X : Cx} : CallR X (.type "tuple") (rTup X.K) := call_tuple_of
theorem rTup_of {Q : VK} (h : Sq K H a xs) (k : ∀ t H1, SqT K H1 t xs → Same H H1 → Q (.ref t) H1) : rTup K [.ref a] H Q := ⟨a, xs, rfl, tup_of h k⟩
/-- a block over a list or a tuple that was there ahead -/
theorem seq_lc {g : TG} {tt : TT} {te : TE} {vs : List Nat} {σ : L2.St} {Qd : Addr → Hp → Prop} (h : Sq K H a xs) (hs : ∀ D, H D = none → ∃ Pv : Nat → Hp → Prop, Pv 0 (upd H D (.lst [])) ∧ (∀ i H', i ≤ xs.length → Pv i H' → ∀ o, H a = some o → H' a = some o) ∧
      (∀ i x H', xs[i]? = some x → Pv i H' → g x (wipe σ vs) H' fun σ2 H2 => wipe σ2 vs = wipe σ vs ∧ tt σ2 H2 fun b H3 =>
        if b = true then te σ2 H3 fun y H4 => ∃ acc, H4 D = some (.lst acc) ∧ acc.length < sizeLine ∧ Pv (i + 1) (upd H4 D (.lst (acc ++ [y]))) else Pv (i + 1) H3) ∧ ∀ H', Pv xs.length H' → Qd D H') :
    ((∃ xs, SqL K H a xs) ∧ ∀ D, H D = none → ∃ W : Nat → Nat → Hp → Prop, (∃ m, W 0 m (upd H D (.lst []))) ∧ ∀ i m H, W i m H →
      ((Itl K a).stop i H ∧ Qd D H) ∨ ((Itl K a).go i H ∧ ∃ Nx : Hp → Prop, (∀ H', Nx H' → ∃ m', m' < m ∧ W (i + 1) m' H') ∧ ∀ x H', (Itl K a).yld i H x H' → g x (wipe σ vs) H' fun σ2 H2 => wipe σ2 vs = wipe σ vs ∧ tt σ2 H2 fun b H3 =>
        if b = true then te σ2 H3 fun y H4 => ∃ acc, H4 D = some (.lst acc) ∧ acc.length < sizeLine ∧ Nx (upd H4 D (.lst (acc ++ [y]))) else Nx H3)) ∨
    ((∃ xs, SqT K H a xs) ∧ ∀ D, H D = none → ∃ W : Nat → Nat → Hp → Prop, (∃ m, W 0 m (upd H D (.lst []))) ∧ ∀ i m H, W i m H →
      ((Itt K a).stop i H ∧ Qd D H) ∨ ((Itt K a).go i H ∧ ∃ Nx : Hp → Prop, (∀ H', Nx H' → ∃ m', m' < m ∧ W (i + 1) m' H') ∧ ∀ x H', (Itt K a).yld i H x H' → g x (wipe σ vs) H' fun σ2 H2 => wipe σ2 vs = wipe σ vs ∧ tt σ2 H2 fun b H3 =>
        if b = true then te σ2 H3 fun y H4 => ∃ acc, H4 D = some (.lst acc) ∧ acc.length < sizeLine ∧ Nx (upd H4 D (.lst (acc ++ [y]))) else Nx H3)) := by
  rcases id h with hL | hT
  · refine .inl ⟨⟨_, hL⟩, fun D hD => ?_⟩
    obtain ⟨Pv, p0, pk, ps, pd⟩ := hs D hD
    refine lc_list (K := K) (a := a) (xs := xs) Pv p0 (fun i H' hi p => ?_) ps pd
    rcases hL with (h | ⟨o, h⟩) | h
    · exact .inl (.inl (pk i H' hi p _ h))
    · exact .inl (.inr ⟨o, pk i H' hi p _ h⟩)
    · exact .inr h
  · refine .inr ⟨⟨_, hT⟩, fun D hD => ?_⟩
    obtain ⟨Pv, p0, pk, ps, pd⟩ := hs D hD
    refine lc_tup (K := K) (a := a) (xs := xs) Pv p0 (fun i H' hi p => ?_) ps pd
    rcases hT with (h | ⟨o, h⟩) | h
    · exact .inl (.inl (pk i H' hi p _ h))
    · exact .inl (.inr ⟨o, pk i H' hi p _ h⟩)
    · exact .inr h
/-- a block that goes over texts in a list, each to a text -/
theorem lc_map {p D : Addr} {ys : List Str} {f : Str → Str} {i : Nat} {te : TE} {σ : L2.St} {Qd : Hp → Prop} (hp : H p = some (.lst (ys.map V.str))) (hn : ys.length ≤ 1000) (hD : H D = none)
    (hw : ∀ y : V, wipe ((wipe σ [i]).set i (some y)) [i] = wipe σ [i])
    (hte : ∀ y ∈ ys, ∀ (H' : Hp) (R : VK), R (.str (f y)) H' → te ((wipe σ [i]).set i (some (.str y))) H' R)
    (hd : ∀ H', Same H H' → H' D = some (.lst ((ys.map f).map V.str)) → Qd H') :
    ∃ W : Nat → Nat → Hp → Prop, (∃ m, W 0 m (upd H D (.lst []))) ∧ ∀ k m H, W k m H →
      ((Itl K p).stop k H ∧ Qd H) ∨ ((Itl K p).go k H ∧ ∃ Nx : Hp → Prop, (∀ H', Nx H' → ∃ m', m' < m ∧ W (k + 1) m' H') ∧ ∀ x H', (Itl K p).yld k H x H' → gName i x (wipe σ [i]) H' fun σ2 H2 => wipe σ2 [i] = wipe σ [i] ∧ tYes σ2 H2 fun b H3 =>
        if b = true then te σ2 H3 fun y H4 => ∃ acc, H4 D = some (.lst acc) ∧ acc.length < sizeLine ∧ Nx (upd H4 D (.lst (acc ++ [y]))) else Nx H3) := by
  refine lc_list (K := K) (a := p) (xs := ys.map V.str) (fun j H' => Same H H' ∧ H' D = some (.lst (((ys.take j).map f).map V.str))) ⟨Same.upd_new hD, upd_same⟩ (fun j H' _ h => .inl (.inl (h.1 _ _ hp))) ?_ ?_
  · rintro j x H' hx ⟨t1, t2⟩
    obtain ⟨y, hy, hyi, rfl⟩ := get_map_str hx
    have hj : j < ys.length := (List.getElem?_eq_some_iff.mp hyi).1
    refine ⟨hw _, ?_⟩
    refine hte y hy H' _ ⟨_, t2, ?_, fun b o e => ?_, ?_⟩
    · rw [List.length_map, List.length_map, List.length_take]
      exact small1000 (by omega)
    · rw [upd_ne (ne_of_none e hD)]
      exact t1 b o e
    · rw [take_succ_map _ hyi, List.map_append]
      exact upd_same
  · rintro H' ⟨t1, t2⟩
    rw [List.length_map, List.take_length] at t2
    exact hd H' t1 t2
end
section
variable {X : Cx} {K : PySem.W.Frag}
theorem call_isiN (h : X.K = K) : CallR X (.builtin "isinstance") (rIsi K) := h ▸ call_isi
theorem pe_fldK {e : Expr} {f : Str} {pos : Pos} {ta : TE} (h : X.K = K) (he : PE X e ta) (hb : attributeBase e f X.env (eval e X.env) = eval e X.env) : PE X (.Attribute e f pos) (tFld K ta f) := h ▸ pe_fld he hb
theorem sl_tupK (h : X.K = K) : SlR X (rSlT K) := h ▸ sl_tup
theorem op_catAK (h : X.K = K) : OpR X (binaryOp .Add) (rCatA K) := h ▸ op_catA
end
section
variable {K : PySem.W.Frag} {H : Hp} {a : Addr} {xs : List V}
/-- a loop over a list or a tuple that was there ahead -/
theorem seq_for {g : TG} {tb : TS} {D : Ends} {σ : L2.St} {H0 : Hp} (h : Sq K H0 a xs) (Pv : Nat → L2.St → Hp → Prop) (h0 : Pv 0 σ H) (hk : ∀ i σ' H', i ≤ xs.length → Pv i σ' H' → ∀ o, H0 a = some o → H' a = some o)
    (hs : ∀ i x σ H, xs[i]? = some x → Pv i σ H → g x σ H fun σ2 H2 => tb { D with nx := Pv (i + 1), ct := Pv (i + 1), bk := D.nx } σ2 H2) (hd : ∀ σ H, Pv xs.length σ H → D.nx σ H) :
    ((∃ xs, SqL K H a xs) ∧ ∃ W : Nat → Nat → L2.St → Hp → Prop, (∃ m, W 0 m σ H) ∧ ∀ i m σ H, W i m σ H →
      ((Itl K a).stop i H ∧ D.nx σ H) ∨ ((Itl K a).go i H ∧ ∃ N : L2.St → Hp → Prop, (∀ σ' H', N σ' H' → ∃ m', m' < m ∧ W (i + 1) m' σ' H') ∧ ∀ x H', (Itl K a).yld i H x H' → g x σ H' fun σ2 H2 => tb { D with nx := N, ct := N, bk := D.nx } σ2 H2)) ∨
    ((∃ xs, SqT K H a xs) ∧ ∃ W : Nat → Nat → L2.St → Hp → Prop, (∃ m, W 0 m σ H) ∧ ∀ i m σ H, W i m σ H →
      ((Itt K a).stop i H ∧ D.nx σ H) ∨ ((Itt K a).go i H ∧ ∃ N : L2.St → Hp → Prop, (∀ σ' H', N σ' H' → ∃ m', m' < m ∧ W (i + 1) m' σ' H') ∧ ∀ x H', (Itt K a).yld i H x H' → g x σ H' fun σ2 H2 => tb { D with nx := N, ct := N, bk := D.nx } σ2 H2)) := by
  rcases id h with hL | hT
  · have hL2 : ∀ i σ' H', i ≤ xs.length → Pv i σ' H' → SqL K H' a xs := fun i σ' H' hi p => by
      rcases hL with (h | ⟨o, h⟩) | h
      · exact .inl (.inl (hk i σ' H' hi p _ h))
      · exact .inl (.inr ⟨o, hk i σ' H' hi p _ h⟩)
      · exact .inr h
    exact .inl ⟨⟨_, hL2 0 σ H (Nat.zero_le _) h0⟩, for_list (K := K) (a := a) (xs := xs) Pv h0 hL2 hs hd⟩
  · have hT2 : ∀ i σ' H', i ≤ xs.length → Pv i σ' H' → SqT K H' a xs := fun i σ' H' hi p => by
      rcases hT with (h | ⟨o, h⟩) | h
      · exact .inl (.inl (hk i σ' H' hi p _ h))
      · exact .inl (.inr ⟨o, hk i σ' H' hi p _ h⟩)
      · exact .inr h
    exact .inr ⟨⟨_, hT2 0 σ H (Nat.zero_le _) h0⟩, for_tup (K := K) (a := a) (xs := xs) Pv h0 hT2 hs hd⟩
end
end L2.Wk
namespace WkGQ
open PySem PySem.SeqAt
open AutoSeq1 (wpAny_loadPart')
open MeetsSeq MeetsSeq2 MeetsSeq3 SeqRoads2
section
variable {prog : Program} {w : World} {A : Around} {R : Result → Shared → Prop}
/-- ==, != of two tuples, item by item, till two differ -/
theorem tuple_eqS (l b : Addr) (items items2 : Array Value) (n n2 : Nat) (dd dd2 : Option Addr) (sl sl2 : Array (Option Value)) (e : Nat → Bool) (I : Nat → Shared → Prop) (J : Shared → Prop)
    (turn : ∀ i (h1 : i < items.size) (h2 : i < items2.size) s, I i s → wpAny (model prog w) A.in1 (eqBool items[i] items2[i]) (fun r s' => r = e i ∧ (e i = true → I (i + 1) s') ∧ (e i = false → J s')) (fun e s' => R (.error e) s') s)
    (finF : ∀ s, J s → R (.ok (.ret (.bool false))) s) (finT : ∀ s, I (min items.size items2.size) s → R (.ok (.ret (.bool (items.size == items2.size)))) s)
    {s : Shared} (hl1 : s.heap.get? l = some { cls := .type "tuple", dict := dd, data := .seq items n, slots := sl }) (hb1 : s.heap.get? b = some { cls := .type "tuple", dict := dd2, data := .seq items2 n2, slots := sl2 }) (h : I 0 s) :
    wpAny (model prog w) A.in1 (Builtin.«tuple.__eq__» ⟨[.ref l, .ref b], []⟩) (GQ.FinOf prog w A R) (fun e s' => R (.error e) s') s := by
  have f2 := AutoSeq1.sub_tuple_tuple
  have hZ : (items.toList.zip items2.toList).length = min items.size items2.size := by simp
  have h0 := h
  obtain ⟨hp, g, d, tk, os⟩ := s
  wp_walk using wpAny_loadPart' hl1, wpAny_loadPart' hb1, wpAny_forIn_list _ (fun rest b s' => b.1 = none ∧ ∃ i, rest = (items.toList.zip items2.toList).drop i ∧ i ≤ min items.size items2.size ∧ I i s') _
  case turn =>
    rintro ⟨y, x⟩ rest b s' ⟨hb', i, hz, hi, hI⟩
    have hlt : i < (items.toList.zip items2.toList).length := by
      rcases Nat.lt_or_ge i (items.toList.zip items2.toList).length with h' | h'
      · exact h'
      · rw [List.drop_of_length_le h'] at hz; cases hz
    have hm : i < min items.size items2.size := hZ ▸ hlt
    have h1 : i < items.size := Nat.lt_of_lt_of_le hm (Nat.min_le_left _ _)
    have h2 : i < items2.size := Nat.lt_of_lt_of_le hm (Nat.min_le_right _ _)
    rw [List.drop_eq_getElem_cons hlt] at hz
    injection hz with hyx hrest
    have hy : y = items[i] := by have := congrArg Prod.fst hyx; simpa using this
    have hx : x = items2[i] := by have := congrArg Prod.snd hyx; simpa using this
    subst hy hx
    refine wpAny_bind (wpAny_mono (turn i h1 h2 s' hI) (fun r s2 q2 => ?_) fun _ _ x => x)
    obtain ⟨hr, q2, q3⟩ := q2
    cases hei : e i with
    | true =>
      rw [hei] at hr
      subst hr
      wp_walk
      exact ⟨rfl, i + 1, hrest, hm, q2 hei⟩
    | false =>
      rw [hei] at hr
      subst hr
      have hF := finF s2 (q3 hei)
      wp_walk
      first | exact hF | exact ⟨_, rfl, hF⟩
  case fin =>
    rintro ⟨b1, b2⟩ s' ⟨hb', i, hz, hi, hI⟩
    simp only at hb'
    subst hb'
    have hge : min items.size items2.size ≤ i := by
      rcases Nat.lt_or_ge i (items.toList.zip items2.toList).length with h' | h'
      · rw [List.drop_eq_getElem_cons h'] at hz; cases hz
      · exact hZ ▸ h'
    have hi' : i = min items.size items2.size := by omega
    have hR := finT s' (hi' ▸ hI)
    wp_walk
    simpa [Builtin.Tuple.tupleCompareSizes] using hR
  case h =>
    exact ⟨rfl, 0, rfl, Nat.zero_le _, h0⟩

theorem tuple_neS (l b : Addr) (items items2 : Array Value) (n n2 : Nat) (dd dd2 : Option Addr) (sl sl2 : Array (Option Value)) (e : Nat → Bool) (I : Nat → Shared → Prop) (J : Shared → Prop)
    (turn : ∀ i (h1 : i < items.size) (h2 : i < items2.size) s, I i s → wpAny (model prog w) A.in1 (eqBool items[i] items2[i]) (fun r s' => r = e i ∧ (e i = true → I (i + 1) s') ∧ (e i = false → J s')) (fun e s' => R (.error e) s') s)
    (finF : ∀ s, J s → R (.ok (.ret (.bool true))) s) (finT : ∀ s, I (min items.size items2.size) s → R (.ok (.ret (.bool (!(items.size == items2.size))))) s)
    {s : Shared} (hl1 : s.heap.get? l = some { cls := .type "tuple", dict := dd, data := .seq items n, slots := sl }) (hb1 : s.heap.get? b = some { cls := .type "tuple", dict := dd2, data := .seq items2 n2, slots := sl2 }) (h : I 0 s) :
    wpAny (model prog w) A.in1 (Builtin.«tuple.__ne__» ⟨[.ref l, .ref b], []⟩) (GQ.FinOf prog w A R) (fun e s' => R (.error e) s') s := by
  have f2 := AutoSeq1.sub_tuple_tuple
  have hZ : (items.toList.zip items2.toList).length = min items.size items2.size := by simp
  have h0 := h
  obtain ⟨hp, g, d, tk, os⟩ := s
  wp_walk using wpAny_loadPart' hl1, wpAny_loadPart' hb1, wpAny_forIn_list _ (fun rest b s' => b.1 = none ∧ ∃ i, rest = (items.toList.zip items2.toList).drop i ∧ i ≤ min items.size items2.size ∧ I i s') _
  case turn =>
    rintro ⟨y, x⟩ rest b s' ⟨hb', i, hz, hi, hI⟩
    have hlt : i < (items.toList.zip items2.toList).length := by
      rcases Nat.lt_or_ge i (items.toList.zip items2.toList).length with h' | h'
      · exact h'
      · rw [List.drop_of_length_le h'] at hz; cases hz
    have hm : i < min items.size items2.size := hZ ▸ hlt
    have h1 : i < items.size := Nat.lt_of_lt_of_le hm (Nat.min_le_left _ _)
    have h2 : i < items2.size := Nat.lt_of_lt_of_le hm (Nat.min_le_right _ _)
    rw [List.drop_eq_getElem_cons hlt] at hz
    injection hz with hyx hrest
    have hy : y = items[i] := by have := congrArg Prod.fst hyx; simpa using this
    have hx : x = items2[i] := by have := congrArg Prod.snd hyx; simpa using this
    subst hy hx
    refine wpAny_bind (wpAny_mono (turn i h1 h2 s' hI) (fun r s2 q2 => ?_) fun _ _ x => x)
    obtain ⟨hr, q2, q3⟩ := q2
    cases hei : e i with
    | true =>
      rw [hei] at hr
      subst hr
      wp_walk
      exact ⟨rfl, i + 1, hrest, hm, q2 hei⟩
    | false =>
      rw [hei] at hr
      subst hr
      have hF := finF s2 (q3 hei)
      wp_walk
      first | exact hF | exact ⟨_, rfl, hF⟩
  case fin =>
    rintro ⟨b1, b2⟩ s' ⟨hb', i, hz, hi, hI⟩
    simp only at hb'
    subst hb'
    have hge : min items.size items2.size ≤ i := by
      rcases Nat.lt_or_ge i (items.toList.zip items2.toList).length with h' | h'
      · rw [List.drop_eq_getElem_cons h'] at hz; cases hz
      · exact hZ ▸ h'
    have hi' : i = min items.size items2.size := by omega
    have hR := finT s' (hi' ▸ hI)
    wp_walk
    simpa [Builtin.Tuple.tupleCompareSizes, bne] using hR
  case h =>
    exact ⟨rfl, 0, rfl, Nat.zero_le _, h0⟩
theorem rc_tup_eqS {E : Value → Shared → Prop} {s : Shared} {l b : Addr} {items items2 : Array Value} {Q : Value → Shared → Prop} (e : Nat → Bool) (hu : A.units < cLine) (I : Nat → Shared → Prop) (J : Shared → Prop)
    (hl : s.heap.IsTuple l items) (hb : s.heap.IsTuple b items2)
    (turn : ∀ i (h1 : i < items.size) (h2 : i < items2.size) s, I i s → wpAny (model prog w) A.in1 (eqBool items[i] items2[i]) (fun r s' => r = e i ∧ (e i = true → I (i + 1) s') ∧ (e i = false → J s')) E s)
    (finF : ∀ s, J s → Q (.bool false) s) (finT : ∀ s, I (min items.size items2.size) s → Q (.bool (items.size == items2.size)) s) (h : I 0 s) : wpAny (model prog w) A (richCompare .Eq (.ref l) (.ref b)) Q E s := by
  obtain ⟨⟨cls, dd, data, sl⟩, ho, hc, n, hd⟩ := id hl
  obtain ⟨⟨cls2, dd2, data2, sl2⟩, ho2, hc2, n2, hd2⟩ := id hb
  simp only at hc hd hc2 hd2
  subst hc hd hc2 hd2
  refine wpAny_richCompare_same_room (op := .Eq) ⟨_, ho, rfl⟩ ⟨_, ho2, rfl⟩ F.slot_tuple_eq (GQ.call_here F.slot_tuple_eq ⟨_, ho, rfl⟩ F.entry_tuple_eq (F.args_tuple_eq_2 _ _) ?_) hu
  exact tuple_eqS (R := wants (fun v s' => v ≠ .notImplemented ∧ Q v s') E) l b items items2 n n2 dd dd2 sl sl2 e I J turn (fun s' q => ⟨(fun x => nomatch x), finF s' q⟩) (fun s' q => ⟨(fun x => nomatch x), finT s' q⟩) ho ho2 h
theorem rc_tup_neS {E : Value → Shared → Prop} {s : Shared} {l b : Addr} {items items2 : Array Value} {Q : Value → Shared → Prop} (e : Nat → Bool) (hu : A.units < cLine) (I : Nat → Shared → Prop) (J : Shared → Prop)
    (hl : s.heap.IsTuple l items) (hb : s.heap.IsTuple b items2)
    (turn : ∀ i (h1 : i < items.size) (h2 : i < items2.size) s, I i s → wpAny (model prog w) A.in1 (eqBool items[i] items2[i]) (fun r s' => r = e i ∧ (e i = true → I (i + 1) s') ∧ (e i = false → J s')) E s)
    (finF : ∀ s, J s → Q (.bool true) s) (finT : ∀ s, I (min items.size items2.size) s → Q (.bool (!(items.size == items2.size))) s) (h : I 0 s) : wpAny (model prog w) A (richCompare .NotEq (.ref l) (.ref b)) Q E s := by
  obtain ⟨⟨cls, dd, data, sl⟩, ho, hc, n, hd⟩ := id hl
  obtain ⟨⟨cls2, dd2, data2, sl2⟩, ho2, hc2, n2, hd2⟩ := id hb
  simp only at hc hd hc2 hd2
  subst hc hd hc2 hd2
  refine wpAny_richCompare_same_room (op := .NotEq) ⟨_, ho, rfl⟩ ⟨_, ho2, rfl⟩ F.slot_tuple_ne (GQ.call_here F.slot_tuple_ne ⟨_, ho, rfl⟩ F.entry_tuple_ne (F.args_tuple_ne_2 _ _) ?_) hu
  exact tuple_neS (R := wants (fun v s' => v ≠ .notImplemented ∧ Q v s') E) l b items items2 n n2 dd dd2 sl sl2 e I J turn (fun s' q => ⟨(fun x => nomatch x), finF s' q⟩) (fun s' q => ⟨(fun x => nomatch x), finT s' q⟩) ho ho2 h
/-- != by the class's own ==, at the library's level -/
theorem objNe_K {E : Value → Shared → Prop} {s : Shared} {K : PySem.W.Frag} {x C f : Addr} {ox : Obj} {od : Option Obj} {y : Value} (hu : A.units < cLine) (X : K.In s.heap) (I : PySem.W.InstAt s.heap x ox C od) (hs : PySem.W.findIn K (.ref C) "__eq__" = some (some (.ref f))) (hf : PySem.W.isFn K (.ref f) = true) {Q : Fin → Shared → Prop}
    (h : wpAny (model prog w) A (call (.ref f) [.ref x, y]) (fun v s' => ∃ b, v = .bool b ∧ Q (.done (.ret (.bool (!b)))) s') E s) : wpAny (model prog w) A (Builtin.«object.__ne__» ⟨[.ref x, y], []⟩) Q E s := by
  unfold Builtin.«object.__ne__»
  repeat (first
    | with_reducible refine wpAny_cRoomFor hu ?_
    | (refine wpAny_bind (m := callSpecialIfBound? (.ref x) (Str.ofString "__eq__") [y])
        (PySem.W.ifBound_K X I hs hf (wpAny_mono h (fun r s' hr => by
          obtain ⟨b, rfl, hq⟩ := hr
          repeat (first | exact hq | exact wpAny_pure hq | exact wpAny_truthy_bool hq | (refine wpAny_bind (m := truthy (.bool _)) (wpAny_truthy_bool ?_)) | wp_step)) fun _ _ e => e)))
    | wp_step)
theorem call_objNe {E : Value → Shared → Prop} {s : Shared} {K : PySem.W.Frag} {x C f : Addr} {ox : Obj} {od : Option Obj} {y : Value} (hu : A.in1.units < cLine) (X : K.In s.heap) (I : PySem.W.InstAt s.heap x ox C od) (hm : PySem.W.mroIn K C (.type "object") = some true) (hs : PySem.W.findIn K (.ref C) "__eq__" = some (some (.ref f))) (hf : PySem.W.isFn K (.ref f) = true) {Q : Value → Shared → Prop}
    (h : wpAny (model prog w) A.in1 (call (.ref f) [.ref x, y]) (fun v s' => ∃ b, v = .bool b ∧ Q (.bool (!b)) s') E s) : wpAny (model prog w) A (call (.builtin "object.__ne__") [.ref x, y]) Q E s :=
  wpAny_call (codeAny_call_builtin F.cmp_object.ne.plain F.cmpEntry_ne (PySem.W.check_slot F.cmpKind_ne F.cmpSplit_ne (I.type.andThen (PySem.W.looks_mroIn X hm)) (F.cmpArgs_ne _ _) (objNe_K hu X I hs hf h)))
theorem ifBound_objNe {M : Model} {E : Value → Shared → Prop} {s : Shared} {K : PySem.W.Frag} {x C : Addr} {ox : Obj} {od : Option Obj} {args : List Value} {Q : Option Value → Shared → Prop} (X : K.In s.heap) (I : PySem.W.InstAt s.heap x ox C od) (hs : PySem.W.findIn K (.ref C) "__ne__" = some (some (.builtin "object.__ne__")))
    (h : wpAny M A (call (.builtin "object.__ne__") (.ref x :: args)) (fun v => Q (some v)) E s) : wpAny M A (callSpecialIfBound? (.ref x) "__ne__" args) Q E s := by
  simp only [callSpecialIfBound?, bindSpecialIfBound?]
  refine wpAny_holding (wpAny_bind (wpAny_bind (wpAny_bind (I.type.here ((PySem.W.looks_findIn X hs).here ?_)))))
  refine wpAny_bind (wpAny_askSetting (wpAny_ite ?_))
  have fin : wpAny M A (call (.builtin "object.__ne__") ([.ref x] ++ args) >>= fun v => pure (some v)) Q E s := wpAny_bind (wpAny_mono h (fun v s' h' => wpAny_pure h') fun _ _ h' => h')
  split
  · exact wpAny_bind (wpAny_of_eq (F.cmp_object.ne.bind _) (wpAny_pure (by exact fin)))
  · exact wpAny_tryCatch (wpAny_bind (wpAny_of_eq (F.cmp_object.ne.bind _) (wpAny_pure (by exact fin))))
theorem ne_K {E : Value → Shared → Prop} {s : Shared} {K : PySem.W.Frag} {x C f : Addr} {ox od : Obj} {y tb : Value} {Q : Value → Shared → Prop} (hu : A.units < cLine) (hu1 : A.in1.units < cLine) (X : K.In s.heap) (I : PySem.W.InstAt s.heap x ox C od) (hb : PySem.W.Looks (model prog w) s.heap (typeOf y) tb) (hn : PySem.W.notFirst K C tb = true)
    (hm : PySem.W.mroIn K C (.type "object") = some true) (h1 : PySem.W.findIn K (.ref C) "__ne__" = some (some (.builtin "object.__ne__"))) (hs : PySem.W.findIn K (.ref C) "__eq__" = some (some (.ref f))) (hf : PySem.W.isFn K (.ref f) = true)
    (h : wpAny (model prog w) A.in1 (call (.ref f) [.ref x, y]) (fun v s' => ∃ b, v = .bool b ∧ Q (.bool (!b)) s') E s) : wpAny (model prog w) A (richCompare .NotEq (.ref x) y) Q E s := by
  have one : wpAny (model prog w) A (tryCompare (.ref x) (cmpInfo .NotEq).2.1 y) (fun r s' => ∃ v, r = some v ∧ Q v s') E s := by
    unfold tryCompare
    refine wpAny_bind (ifBound_objNe X I h1 (call_objNe hu1 X I hm hs hf (wpAny_mono h (fun v s' hv => ?_) fun _ _ e => e)))
    obtain ⟨b, rfl, hq⟩ := hv
    exact ⟨b, rfl, wpAny_pure ⟨_, rfl, hq⟩⟩
  unfold richCompare
  simp only [oneThing_ref]
  refine wpAny_holding (wpAny_bind (wpAny_cRoomFor hu ?_))
  refine wpAny_bind (I.type.here (wpAny_bind (hb.here ?_)))
  split
  · rename_i q
    have e : PySem.W.subIn K tb (.ref C) = some false := by
      rcases Bool.or_eq_true_iff.mp hn with e | e
      · rw [beq_iff_eq.mp e] at q; simp at q
      · exact beq_iff_eq.mp e
    refine wpAny_bind ((PySem.W.looks_subIn X e).here ?_)
    simp only [Bool.false_eq_true, if_false]
    refine wpAny_bind (wpAny_mono one (fun r s' z => ?_) fun _ _ e => e)
    obtain ⟨v, rfl, hq⟩ := z
    exact wpAny_pure hq
  · refine wpAny_bind (wpAny_pure ?_)
    simp only [Bool.false_eq_true, if_false]
    refine wpAny_bind (wpAny_mono one (fun r s' z => ?_) fun _ _ e => e)
    obtain ⟨v, rfl, hq⟩ := z
    exact wpAny_pure hq
end
end WkGQ
namespace L2.Wk
open PySem PySem.Spec PyProof.Rows
section
variable {X : Cx} {CX : CXT} {C f : Addr} {fd : FuncData} {ps : List Str} {n : Nat} {sp : Sp} {E : XK}
theorem looks_rgt {pins : List (Addr × Obj)} {σ : L2.St} {H : Hp} {s : Shared} {y : V} {u tb : Value} (I : Inv X pins σ H s) (ry : RelV y u) (hy : RgtOf X.K H C y tb) : PySem.W.Looks (model X.prog X.w) s.heap (typeOf u) tb := by
  cases hy with
  | str z => obtain ⟨t, e⟩ := (show ∃ t, u = Value.str z t from ry); cases e; exact PySem.W.Looks.of_pure rfl
  | non => cases (show u = Value.none from ry); exact PySem.W.Looks.of_pure rfl
  | int i => obtain ⟨t, e⟩ := (show ∃ t, u = Value.int i t from ry); cases e; exact PySem.W.Looks.of_pure rfl
  | bl b => cases (show u = Value.bool b from ry); exact PySem.W.Looks.of_pure rfl
  | @ins b D dy gs e =>
    cases (show u = Value.ref b from ry)
    obtain ⟨mB, J', _⟩ := ins_get I.hok e
    obtain ⟨od', J', _⟩ := J'.look
    exact J'.type
  | @lst b xs e =>
    cases (show u = Value.ref b from ry)
    obtain ⟨_, _, n, _, h1⟩ := (show ObjOk X.prog X.w H s.heap b (.lst xs) from I.hok b _ e)
    exact (PySem.W.Looks.ld h1).andThen .now
  | @tup b xs e =>
    cases (show u = Value.ref b from ry)
    obtain ⟨_, _, _, o, h1, h2, _⟩ := (show ObjOk X.prog X.w H s.heap b (.tup xs) from I.hok b _ e)
    exact h2 ▸ (PySem.W.Looks.ld h1).andThen .now
  | @kTup b o e c =>
    cases (show u = Value.ref b from ry)
    exact c ▸ (PySem.W.Looks.ld (I.kIn _ _ e)).andThen .now
  | @fTup b ob xs e =>
    cases (show u = Value.ref b from ry)
    obtain ⟨_, _, _, _, o, h1, h2, _⟩ := (show ObjOk X.prog X.w H s.heap b (.frz ob (.tup xs)) from I.hok b _ e)
    exact h2 ▸ (PySem.W.Looks.ld h1).andThen .now
/-- x != y, x an instance of the class at C by its own == at f -/
def rNeOwn (K : PySem.W.Frag) (C : Addr) (sp : Sp) (E : XK) : R2 := fun x y H Q => ∃ a dx fs tb, x = .ref a ∧ H a = some (.ins C dx fs) ∧ RgtOf K H C y tb ∧ PySem.W.notFirst K C tb = true ∧ sp [.ref a, y] H (fun z H' => ∃ b, z = .bl b ∧ Q (.bl (!b)) H') E
theorem op_neOwn (hm : PySem.W.mroIn X.K C (.type "object") = some true) (h1 : PySem.W.findIn X.K (.ref C) "__ne__" = some (some (.builtin "object.__ne__"))) (hs : PySem.W.findIn X.K (.ref C) "__eq__" = some (some (.ref f))) (hf : PySem.W.isFn X.K (.ref f) = true) (F : FnOk X.prog X.w X.K X.mg X.base CX n f fd ps sp) (hb : Binds X.K fd ps []) (hr : Room (n + 1) X.A) (hx : Passes CX X E) :
    OpR X (compareOp .NotEq) (rNeOwn X.K C sp E) := by
  intro pins s σ H x y v u Q I rx ry h
  obtain ⟨a, dx, fs, tb, rfl, ha, hy, hn, q⟩ := h
  cases (show v = Value.ref a from rx)
  obtain ⟨mA, J, _⟩ := ins_get I.hok ha
  obtain ⟨od, J, _⟩ := J.look
  show wpAny (model X.prog X.w) X.A (richCompare .NotEq (.ref a) u) (EP X pins σ Q) X.xe s
  refine WkGQ.ne_K hr.units0 hr.in1.units0 I.kIn J (looks_rgt I ry hy) hn hm h1 hs hf ?_
  refine wpAny_mono (wpAny_call (run_ok (us := [.ref a, u]) (ws := [.ref a, y]) F hb hr.in1 I.env0.in1 hx I (.cons rfl (.cons ry .nil)) q)) (fun w s' z => ?_) fun _ _ x => x
  obtain ⟨z', H', I', rz, b, eb, qz⟩ := z
  subst eb
  cases (show w = Value.bool b from rz)
  exact ⟨b, rfl, .bl (!b), H', I', rfl, qz⟩
/-! ### items that are compared, with either answer -/
abbrev EqD := V → V → Hp → Bool → Prop
def EqItem (X : Cx) (n : Nat) (D : EqD) : Prop := ∀ (A : Around) (pins : List (Addr × Obj)) (s : Shared) (σ : St) (H : Hp) (x y : V) (u v : Value) (b : Bool), Sub X n A → Inv X pins σ H s → RelV x u → RelV y v → D x y H b →
    wpAny (model X.prog X.w) A (eqBool u v) (fun r s' => r = b ∧ ∃ H', Inv X pins σ H' s' ∧ Same H H') X.xe s
def DOwn (C : Addr) (sp : Sp) (E : XK) : EqD := fun x y H b => ∃ p q dx fs dy gs, x = .ref p ∧ y = .ref q ∧ H p = some (.ins C dx fs) ∧ H q = some (.ins C dy gs) ∧ (p = q → b = true) ∧ sp [.ref p, .ref q] H (fun z H' => z = .bl b ∧ Same H H') E
theorem notFirst_self {K : PySem.W.Frag} : PySem.W.notFirst K C (.ref C) = true := by
  unfold PySem.W.notFirst
  rw [beq_self_eq_true]
  rfl
theorem eqItem_own (hs : PySem.W.findIn X.K (.ref C) "__eq__" = some (some (.ref f))) (hf : PySem.W.isFn X.K (.ref f) = true) (F : FnOk X.prog X.w X.K X.mg X.base CX n f fd ps sp) (hb : Binds X.K fd ps []) (hx : Passes CX X E) : EqItem X n (DOwn C sp E) := by
  intro A pins s σ H x y u v b sb I rx ry d
  obtain ⟨p, q, dx, fs, dy, gs, rfl, rfl, hp, hq, hpq, hsp⟩ := d
  cases (show u = Value.ref p from rx)
  cases (show v = Value.ref q from ry)
  by_cases e : p = q
  · subst e
    rw [hpq rfl]
    exact SeqAt.EqAt.same (A := A) (s := s) (.ref p) X.prog X.w X.xe _ ⟨rfl, H, I, Same.refl _⟩
  · obtain ⟨mA, J, _⟩ := ins_get I.hok hp
    obtain ⟨mB, J', _⟩ := ins_get I.hok hq
    obtain ⟨od, J, _⟩ := J.look
    obtain ⟨od', J', _⟩ := J'.look
    obtain ⟨m, hF⟩ := I.fr
    have e0 : Env0 X.prog X.w X.K X.mg X.base A X.stack s H := by
      have e := I.env0
      exact ⟨by rw [sb.fr]; exact e.frames, e.mod, e.bs, e.bsz, e.funs, e.frf, e.hok, e.bare⟩
    refine GQ.eqBool_refG e (PySem.W.cmp_K (op := .Eq) (tb := .ref C) sb.room.units0 hF I.ok.mod.kin J J'.type notFirst_self hs hf ?_)
    refine wpAny_mono (wpAny_call (run_ok (us := [.ref p, .ref q]) (ws := [.ref p, .ref q]) F hb sb.room e0 hx I (.cons rfl (.cons rfl .nil)) hsp)) (fun w s' z => ?_) fun _ _ x => x
    obtain ⟨z', H', I', rz, ez, sz⟩ := z
    subst ez
    cases (show w = Value.bool b from rz)
    exact ⟨b, rfl, rfl, H', I', sz⟩
/-- what the loop over the items keeps -/
def LoopS (X : Cx) (pins : List (Addr × Obj)) (σ : St) (H : Hp) (e : Nat → Bool) (i : Nat) (s' : Shared) : Prop := (∀ j, j < i → e j = true) ∧ ∃ H', Inv X pins σ H' s' ∧ Same H H'
def LoopJ (X : Cx) (pins : List (Addr × Obj)) (σ : St) (H : Hp) (e : Nat → Bool) (m : Nat) (s' : Shared) : Prop := (∃ j, j < m ∧ e j = false) ∧ ∃ H', Inv X pins σ H' s' ∧ Same H H'
def PrsD (D : EqD) (e : Nat → Bool) (xs ys : List V) (H : Hp) : Prop := ∀ (i : Nat) x y, xs[i]? = some x → ys[i]? = some y → ∀ H', Same H H' → D x y H' (e i)
theorem turnS {D : EqD} (h : EqItem X n D) {A : Around} (sb : Sub X (n + 1) A) {pins : List (Addr × Obj)} {σ : St} {H : Hp} {e : Nat → Bool} {xs ys : List V} {its its2 : List Value} (p : PrsD D e xs ys H) (r : Vals xs its) (r2 : Vals ys its2)
    (i : Nat) (h1 : i < its.toArray.size) (h2 : i < its2.toArray.size) (s' : Shared) (l : LoopS X pins σ H e i s') :
    wpAny (model X.prog X.w) A.in1 (eqBool its.toArray[i] its2.toArray[i]) (fun r s2 => r = e i ∧ (e i = true → LoopS X pins σ H e (i + 1) s2) ∧ (e i = false → LoopJ X pins σ H e (min its.toArray.size its2.toArray.size) s2)) X.xe s' := by
  obtain ⟨l0, H1, I1, e1⟩ := l
  have g1 : its[i]? = some its.toArray[i] := by
    have h1' : i < its.length := by simpa using h1
    rw [List.getElem?_eq_getElem h1'] <;> simp
  have g2 : its2[i]? = some its2.toArray[i] := by
    have h2' : i < its2.length := by simpa using h2
    rw [List.getElem?_eq_getElem h2'] <;> simp
  have k1 : i < xs.length := by rw [r.length]; simpa using h1
  have k2 : i < ys.length := by rw [r2.length]; simpa using h2
  obtain ⟨u, hu, ru⟩ := r.get (List.getElem?_eq_getElem k1)
  obtain ⟨v, hv, rv⟩ := r2.get (List.getElem?_eq_getElem k2)
  rw [g1] at hu
  rw [g2] at hv
  rw [Option.some.inj hu, Option.some.inj hv]
  refine wpAny_mono (h A.in1 pins s' σ H1 _ _ u v _ sb.in1 I1 ru rv (p i _ _ (List.getElem?_eq_getElem k1) (List.getElem?_eq_getElem k2) _ e1)) (fun r s2 q => ?_) fun _ _ x => x
  obtain ⟨hr, H2, I2, e2⟩ := q
  refine ⟨hr, fun et => ⟨fun j hj => ?_, H2, I2, e1.trans e2⟩, fun ef => ⟨⟨i, by omega, ef⟩, H2, I2, e1.trans e2⟩⟩
  by_cases hji : j < i
  · exact l0 j hji
  · have : j = i := by omega
    rw [this]
    exact et
def allE (e : Nat → Bool) (m : Nat) : Bool := (List.range m).all e
theorem allE_true {e : Nat → Bool} {m : Nat} (h : ∀ j, j < m → e j = true) : allE e m = true := by
  unfold allE
  rw [List.all_eq_true]
  exact fun j hj => h j (List.mem_range.mp hj)
theorem allE_false {e : Nat → Bool} {m : Nat} (h : ∃ j, j < m ∧ e j = false) : allE e m = false := by
  obtain ⟨j, hj, he⟩ := h
  unfold allE
  rw [List.all_eq_false]
  exact ⟨j, List.mem_range.mpr hj, by rw [he]; decide⟩
def rTupEq (K : PySem.W.Frag) (D : EqD) (neg : Bool) : R2 := fun x y H Q => ∃ a b xs ys e, x = .ref a ∧ y = .ref b ∧ SqT K H a xs ∧ SqT K H b ys ∧ PrsD D e xs ys H ∧ ∀ H', Same H H' → Q (.bl (neg != (allE e (min xs.length ys.length) && xs.length == ys.length))) H'
theorem op_tupEq {D : EqD} (h : EqItem X n D) (hr : Room (n + 1) X.A) : OpR X (compareOp .Eq) (rTupEq X.K D false) := by
  intro pins s σ H x y v u Q I rx ry hq
  obtain ⟨a, b, xs, ys, e, rfl, rfl, ha, hb, hp, q⟩ := hq
  cases (show v = Value.ref a from rx)
  cases (show u = Value.ref b from ry)
  obtain ⟨its, r, e1, z⟩ := I.tuple ha
  obtain ⟨its2, r2, e2, z2⟩ := I.tuple hb
  have l1 : its.toArray.size = xs.length := by rw [List.size_toArray, ← r.length]
  have l2 : its2.toArray.size = ys.length := by rw [List.size_toArray, ← r2.length]
  show wpAny (model X.prog X.w) X.A (richCompare .Eq (.ref a) (.ref b)) (EP X pins σ Q) X.xe s
  refine WkGQ.rc_tup_eqS e hr.units0 (fun i s' => LoopS X pins σ H e i s') (fun s' => LoopJ X pins σ H e (min its.toArray.size its2.toArray.size) s') e1 e2 (fun i h1 h2 s' l => turnS h ⟨hr, rfl⟩ hp r r2 i h1 h2 s' l) (fun s' j => ?_) (fun s' j => ?_) ⟨fun _ h => absurd h (Nat.not_lt_zero _), H, I, Same.refl _⟩
  · obtain ⟨j0, H', I', s1⟩ := j
    rw [l1, l2] at j0
    have := q H' s1
    rw [allE_false j0] at this
    exact ⟨.bl false, H', I', rfl, this⟩
  · obtain ⟨j0, H', I', s1⟩ := j
    rw [l1, l2] at j0
    have := q H' s1
    rw [allE_true j0] at this
    rw [l1, l2]
    refine ⟨.bl (xs.length == ys.length), H', I', rfl, ?_⟩
    simpa using this
theorem op_tupNe {D : EqD} (h : EqItem X n D) (hr : Room (n + 1) X.A) : OpR X (compareOp .NotEq) (rTupEq X.K D true) := by
  intro pins s σ H x y v u Q I rx ry hq
  obtain ⟨a, b, xs, ys, e, rfl, rfl, ha, hb, hp, q⟩ := hq
  cases (show v = Value.ref a from rx)
  cases (show u = Value.ref b from ry)
  obtain ⟨its, r, e1, z⟩ := I.tuple ha
  obtain ⟨its2, r2, e2, z2⟩ := I.tuple hb
  have l1 : its.toArray.size = xs.length := by rw [List.size_toArray, ← r.length]
  have l2 : its2.toArray.size = ys.length := by rw [List.size_toArray, ← r2.length]
  show wpAny (model X.prog X.w) X.A (richCompare .NotEq (.ref a) (.ref b)) (EP X pins σ Q) X.xe s
  refine WkGQ.rc_tup_neS e hr.units0 (fun i s' => LoopS X pins σ H e i s') (fun s' => LoopJ X pins σ H e (min its.toArray.size its2.toArray.size) s') e1 e2 (fun i h1 h2 s' l => turnS h ⟨hr, rfl⟩ hp r r2 i h1 h2 s' l) (fun s' j => ?_) (fun s' j => ?_) ⟨fun _ h => absurd h (Nat.not_lt_zero _), H, I, Same.refl _⟩
  · obtain ⟨j0, H', I', s1⟩ := j
    rw [l1, l2] at j0
    have := q H' s1
    rw [allE_false j0] at this
    exact ⟨.bl true, H', I', rfl, this⟩
  · obtain ⟨j0, H', I', s1⟩ := j
    rw [l1, l2] at j0
    have := q H' s1
    rw [allE_true j0] at this
    rw [l1, l2]
    refine ⟨.bl (!(xs.length == ys.length)), H', I', rfl, ?_⟩
    simpa using this
end
end L2.Wk
namespace L2.Wk
open PySem PySem.Spec PyProof.Rows
section
variable {X : Cx}
/-- set(a list of texts), of any length below 4000: how many there are -/
def rSetB (K : PySem.W.Frag) (w : World) : List V → Hp → VK → Prop := fun vs H Q => ∃ (l : Addr) (xs : List Str), vs = [V.ref l] ∧ SqL K H l (xs.map V.str) ∧ xs.length ≤ 4000 ∧
  ∀ (p : Addr) (ks : List Str), ks.Nodup → (∀ k, k ∈ ks ↔ k ∈ xs) → H p = none → Q (.ref p) (upd H p (SetT w p (fun k => decide (k ∈ xs)) ks.length))
theorem cr_setB (hc : X.calm = true) : CallR X (.type "set") (rSetB X.K X.w) := by
  intro pins s σ H vs us Q I r h
  obtain ⟨l, xs, rfl, hs, h64, q⟩ := h
  obtain ⟨its, rv, hl, _⟩ := I.list hs
  rw [Vals.ref1 r]
  refine call_set_lstS xs (I.ok.hd hc) hl.isList (by simpa using strsAre_of rv) (by unfold scanBound; omega) fun h' tk c hS hn hk => ?_
  have ob : ObjOk X.prog X.w (upd H s.heap.objs.size (SetT X.w s.heap.objs.size (fun k => decide (k ∈ xs)) c)) h' s.heap.objs.size (SetT X.w s.heap.objs.size (fun k => decide (k ∈ xs)) c) := by
    obtain ⟨o, _, _, _, ho, _⟩ := id hS
    exact ⟨hS, ⟨o, ho⟩, fun h1 h2 p k => SetS.at p k⟩
  obtain ⟨o, es, ep, t, _, _, _, _, nd, hm, _, _, hsz, _⟩ := id hS
  have e : c = (es.toList.map keyS).length := by rw [List.length_map, Array.length_toList, hsz]
  have q2 := q s.heap.objs.size (es.toList.map keyS) nd (fun k => by rw [← hm k, decide_eq_true_eq]) (I.hok.fresh (Nat.le_refl _))
  rw [← e] at q2
  exact ⟨.ref _, _, I.laid (t' := tk) hk (Nat.le_refl _) ob, rfl, q2⟩
end
theorem few_len : ∀ {ks ds : List Str}, ks.Nodup → (∀ k, k ∈ ks → k ∈ ds) → ks.length ≤ ds.length
  | [], _, _, _ => Nat.zero_le _
  | k :: ks, ds, nd, h => by
    obtain ⟨n1, n2⟩ := List.nodup_cons.mp nd
    have hk := h k (List.mem_cons_self ..)
    have ih := few_len (ks := ks) (ds := ds.filter fun x => !decide (x = k)) n2 fun x hx => by
      rw [List.mem_filter]
      refine ⟨h x (List.mem_cons_of_mem _ hx), ?_⟩
      have : x ≠ k := fun e => n1 (e ▸ hx)
      simp [this]
    have lt : (ds.filter fun x => !decide (x = k)).length < ds.length := by
      rcases Nat.lt_or_ge (ds.filter fun x => !decide (x = k)).length ds.length with h' | h'
      · exact h'
      · have e := List.length_filter_eq_length_iff.mp (Nat.le_antisymm (List.length_filter_le _ _) h')
        have := e k hk
        simp at this
    rw [List.length_cons]
    omega
/-- ascending, each once, the same as in xs -/
structure Asc (ys xs : List Str) : Prop where
  up : sortedS ys = true
  nd : ys.Nodup
  mem : ∀ k, k ∈ ys ↔ k ∈ xs
theorem not_lt_le {a b : Str} (h : ltCps b.cps.toList a.cps.toList = false) : a.cps.toList ≤ b.cps.toList := by
  rw [ltCps_eq] at h
  exact List.not_lt.mp (of_decide_eq_false h)
theorem rising_le : ∀ {p : Str} {l : List Str}, risingS p l = true → ∀ x ∈ l, p.cps.toList ≤ x.cps.toList
  | _, [], _, _, h => by cases h
  | p, y :: r, h, x, hx => by
    unfold risingS at h
    obtain ⟨h1, h2⟩ := Bool.and_eq_true_iff.mp h
    have l1 : p.cps.toList ≤ y.cps.toList := not_lt_le (by simpa using h1)
    rcases List.mem_cons.mp hx with rfl | hx
    · exact l1
    · exact List.le_trans l1 (rising_le h2 x hx)
theorem rising_sorted : ∀ {p : Str} {l : List Str}, risingS p l = true → sortedS l = true
  | _, [], _ => rfl
  | p, y :: r, h => by
    unfold risingS at h
    exact (Bool.and_eq_true_iff.mp h).2
theorem str_le_antisymm {a b : Str} (h1 : a.cps.toList ≤ b.cps.toList) (h2 : b.cps.toList ≤ a.cps.toList) : a = b := TL.ext_tl (List.le_antisymm h1 h2)
theorem asc_eq : ∀ {ys zs : List Str}, sortedS ys = true → ys.Nodup → sortedS zs = true → zs.Nodup → (∀ k, k ∈ ys ↔ k ∈ zs) → ys = zs
  | [], [], _, _, _, _, _ => rfl
  | [], z :: zs, _, _, _, _, h => by
    have := (h z).mpr (List.mem_cons_self ..)
    cases this
  | y :: ys, [], _, _, _, _, h => by
    have := (h y).mp (List.mem_cons_self ..)
    cases this
  | y :: ys, z :: zs, h1, n1, h2, n2, h => by
    have r1 : risingS y ys = true := h1
    have r2 : risingS z zs = true := h2
    have e : y = z := by
      rcases List.mem_cons.mp ((h y).mp (List.mem_cons_self ..)) with e | hy
      · exact e
      · rcases List.mem_cons.mp ((h z).mpr (List.mem_cons_self ..)) with e | hz
        · exact e.symm
        · exact str_le_antisymm (rising_le r1 z hz) (rising_le r2 y hy)
    subst e
    obtain ⟨a1, a2⟩ := List.nodup_cons.mp n1
    obtain ⟨b1, b2⟩ := List.nodup_cons.mp n2
    rw [asc_eq (rising_sorted r1) a2 (rising_sorted r2) b2 fun k => ⟨fun hk => ?_, fun hk => ?_⟩]
    · rcases List.mem_cons.mp ((h k).mp (List.mem_cons_of_mem _ hk)) with e | hk'
      · exact absurd (e ▸ hk) a1
      · exact hk'
    · rcases List.mem_cons.mp ((h k).mpr (List.mem_cons_of_mem _ hk)) with e | hk'
      · exact absurd (e ▸ hk) b1
      · exact hk'
theorem Asc.eq {ys zs xs : List Str} (a : Asc ys xs) (b : Asc zs xs) : ys = zs := asc_eq a.up a.nd b.up b.nd fun k => (a.mem k).trans (b.mem k).symm
end L2.Wk
namespace PySem.W
open PySem PySem.Spec PySem.Calls PyProof.Rows
section
variable {prog : Program} {w : World} {A : Around} {E : Value → Shared → Prop} {s : Shared} {K : Frag} {x D : Addr} {ox : Obj}
theorem wk_classE {Q : Option Value → Shared → Prop} (hga : findIn K (.ref D) "__getattribute__" = some (some (.builtin "BaseException.__getattribute__"))) (hgt : findIn K (.ref D) "__getattr__" = some none) (hsub : subIn K (.ref D) (.type "BaseException") = some true)
    (hdct : hasDictIn K D = true) (ha : findIn K (.ref D) "__class__" = some (some (.builtin "object.__class__")))
    (hn : specialIn K (.builtin "object.__class__") "__get__" = some (some (.builtin "getset_descriptor.__get__"))) (htk : takesIn K (.builtin "object.__class__") = some true) (hm : mroIn K D (.type "object") = some true)
    (X : K.In s.heap) {od0 : Obj} (I : InstAt s.heap x ox D (some od0)) (h : Q (some (.ref D)) { s with toks := s.toks + 1 }) : wpAny (model prog w) A (getAttr? (.ref x) "__class__") Q E s := by
  have hf : findObj K D (some od0) "__class__" = some (.bind (.builtin "getset_descriptor.__get__") (.builtin "object.__class__")) := findObj_data (by obtain ⟨cd, hc, _⟩ := any_some hdct; show (clsIn K D).isSome = true; rw [hc]; rfl) ha hn htk
  obtain ⟨hp, g, d, t, os⟩ := s
  have L0 := I.type (M := model prog w)
  have L1 := looks_findIn (M := model prog w) X hga
  have L2 := looks_findIn (M := model prog w) X hgt
  have L3 := looks_find (M := model prog w) X I hf
  have sub : Looks (model prog w) hp (isInstance (.ref x) (.type "BaseException")) true := L0.andThen (looks_subIn X hsub)
  have hx0 : (false && onTheHeap (Value.builtin "BaseException.__getattribute__")) = false := rfl
  have hx2 : (Value.builtin "BaseException.__getattribute__" == Value.builtin "object.__getattribute__") = false := by decide +kernel
  have hx1 : (onTheHeap (Value.ref D) && Value.builtin "BaseException.__getattribute__" == Value.builtin "object.__getattribute__") = false := by rw [hx2]; rfl
  unfold getAttr? getAttrBy? getAttrBy
  refine wpAny_bind (wpAny_mkText (wpAny_bind (wpAny_attempt (wpAny_holding (wpAny_bind (L0.at (wpAny_bind (L1.at ?_))))))))
  show wpAny _ _ (if (onTheHeap (Value.ref D) && Value.builtin "BaseException.__getattribute__" == Value.builtin "object.__getattribute__") = true then _ else _) _ _ _
  rw [hx1, if_neg Bool.false_ne_true]
  unfold getAttrByItsOwn hookBefore
  refine wpAny_bind ?_
  rw [if_pos (show onTheHeap (Value.ref D) = true from rfl)]
  refine L2.at ?_
  refine wpAny_bind (wpAny_attempt (wpAny_holding ?_))
  unfold callGetattribute
  rw [hx0, if_neg Bool.false_ne_true]
  unfold boundAndCalled
  rw [PySem.F.excAttr_ValueError.ga.bind (.ref x)]
  refine wpAny_bind (wpAny_pure ?_)
  show wpAny _ _ (call (.builtin "BaseException.__getattribute__") [.ref x, .str "__class__" t]) _ _ _
  refine wpAny_call (codeAny_call_builtin PySem.F.excAttr_ValueError.ga.plain PySem.F.entry_bexc_ga ?_)
  refine @check_slot (model prog w) _ _ ⟨hp, g, d, t + 1, os⟩ "BaseException.__getattribute__" "BaseException" "__getattribute__" (.ref x) [.str "__class__" t] [] _ (by decide +kernel) (by decide +kernel) sub (PySem.F.args_bexc_ga (.ref x) (.str "__class__" t)) ?_
  unfold Builtin.«object.__getattribute__»
  refine wpAny_bind (wpAny_of_eq (a := ((Value.ref x : Value), [Value.str "__class__" t])) (by first | rfl | (simp only [slotArgs]; rfl)) ?_)
  refine wpAny_bind (wpAny_pure (wpAny_bind (L0.at (wpAny_bind (L3.at ?_)))))
  show wpAny _ _ (holding [Value.builtin "object.__class__"] (call (.builtin "getset_descriptor.__get__") [.builtin "object.__class__", .ref x, .ref D]) >>= ret) _ _ _
  refine wpAny_bind (wpAny_holding (wpAny_call (class_get (s := ⟨hp, g, d, t + 1, os⟩) (ox := ox) (od := some od0) X I hm ?_)))
  refine wpAny_pure ?_
  show wpAny _ _ (handedOut (.ref D)) _ _ _
  rw [handedOut_of (v := .ref D) rfl]
  first
    | exact wpAny_pure (wpAny_pure h)
    | exact wpAny_pure h
    | exact wpAny_pure (wpAny_bind (wpAny_pure (wpAny_pure h)))
theorem wk_kitx_exc (hga : findIn K (.ref D) "__getattribute__" = some (some (.builtin "BaseException.__getattribute__"))) (hgt : findIn K (.ref D) "__getattr__" = some none) (hsub : subIn K (.ref D) (.type "BaseException") = some true) (hdct : hasDictIn K D = true) (ha : findIn K (.ref D) "__class__" = some (some (.builtin "object.__class__")))
    (hn : specialIn K (.builtin "object.__class__") "__get__" = some (some (.builtin "getset_descriptor.__get__"))) (htk : takesIn K (.builtin "object.__class__") = some true) (hm : mroIn K D (.type "object") = some true) :
    KitX K (.ref x) (.ref D) (fun h => ∃ od0, InstAt h x ox D (some od0)) where
  ty := fun _ _ _ ⟨_, I⟩ => I.type
  it := fun _ _ X _ => by
    obtain ⟨cdD, hcD, _⟩ := any_some hdct
    unfold clsIn at hcD
    split at hcD
    · rename_i c' d' cd' sl' ho
      intro A' Q' E' s' k q
      unfold isType loadHead
      exact wpAny_bind (wpAny_loadPart (k _ _ (X _ _ ho)) (wpAny_pure q))
    · cases hcD
  ne := fun h tp dd its n sl X htp => by
    obtain ⟨cdD, hcD, _⟩ := any_some hdct
    refine Bool.eq_false_iff.mpr fun q => ?_
    have e : D = tp := Value.ref.inj (beq_iff_eq.mp q)
    subst e
    unfold clsIn at hcD
    split at hcD
    · rename_i c' d' cd' sl' ho
      have z := (X _ _ ho).symm.trans htp
      cases z
    · cases hcD
  ca := fun X ⟨_, I⟩ k => wk_classE hga hgt hsub hdct ha hn htk hm X I k
end
end PySem.W
namespace L2.Wk
open PySem PySem.Spec PyProof.Rows
/-- isinstance(e, c), e the caught error of an own class with a dict of one entry -/
def rIsX (K : PySem.W.Frag) (D a : Addr) (d : Option Addr) : List V → Hp → VK → Prop := fun xs H Q => ∃ (c : V) (cv : Value) (b : Bool) (dd : Addr) (fs : List (Str × V)), xs = [.ref a, c] ∧ ClsV c cv ∧ d = some dd ∧ H dd = some (.xd fs) ∧ PySem.W.kitOne K (.ref D) cv = some b ∧ Q (.bl b) H
theorem call_isX {X : Cx} {a D : Addr} {oe : Obj} {d : Option Addr} {cls : Value} {pn : List (Addr × Obj)} (C : ExcC X.K D) (hz : Zc cls d oe) (hf : ∃ vs, oe.data = .fields vs) : CallR (X.suite a ((a, oe) :: pn)) (.builtin "isinstance") (fun xs H Q => cls = .ref D ∧ rIsX X.K D a d xs H Q) := by
  intro pins s σ H xs us Q I r h
  obtain ⟨ecl, c, cv, b, dd, fs, rfl, hcv, ed, ea, e, q⟩ := h
  subst ecl
  cases r with
  | cons rx rr =>
    cases rr with
    | cons rt rr =>
      cases rr
      cases rx
      have ec := hcv.eq rt
      subst ec
      subst ed
      obtain ⟨hget, _⟩ := I.pin (a, oe) (List.mem_append.mpr (.inl List.mem_cons_self))
      obtain ⟨vs, hv⟩ := hf
      have hx : ObjOk X.prog X.w H s.heap dd (.xd fs) := I.hok dd _ ea
      obtain ⟨mA, hns, hr⟩ := hx
      obtain ⟨od, ho, hl⟩ := lookIn_ns hns
      have J : PySem.W.InstAt s.heap a oe D (some od) := ⟨hget, hz.1, by unfold PySem.W.notCls; rw [hv] <;> rfl, by rw [hz.2]; exact ho⟩
      exact PySem.W.kia_one (PySem.W.wk_kitx_exc C.hg C.hk C.hs C.hd C.ha C.hn C.ht C.hm) I.kIn ⟨od, J⟩ e (fun z => nomatch z) fun tk => ⟨.bl b, H, I.kept (t' := tk) fun _ _ z => z, rfl, q⟩
/-- a promise by two -/
theorem fn_or {P : Program} {w : World} {K : PySem.W.Frag} {mg : Str → Option Value} {base : Heap} {CX : CXT} {k : Nat} {f : Addr} {fd : FuncData} {ps : List Str} {sp sp' : Sp} (F : FnOk P w K mg base CX k f fd ps sp) (G : FnOk P w K mg base CX k f fd ps sp') :
    FnOk P w K mg base CX k f fd ps (fun vs H Q E => sp vs H Q E ∨ sp' vs H Q E) :=
  ⟨fun vs H Q E h => h.elim (F.len vs H Q E) (G.len vs H Q E), fun A outer s H args us vs Q E hr he hb hv h => h.elim (F.run A outer s H args us vs Q E hr he hb hv) (G.run A outer s H args us vs Q E hr he hb hv)⟩
/-- a statement that is never come to -/
theorem ps_never {X : Cx} {s : Stmt} : PS X s (fun _ _ _ => False) := ⟨fun _ _ _ _ _ _ h => h.elim⟩
end L2.Wk
namespace L2.Wk
open PySem PySem.Spec PyProof.Rows
/-! ### enumerate(xs, start=c) -/
/-- the list at a, which holds xs throughout; each item in a new pair, counted from c -/
def Itk (K : PySem.W.Frag) (a : Addr) (c : Int) (xs : List V) : It :=
  ⟨fun i H => SqL K H a xs ∧ i < xs.length, fun i H v H' => ∃ T x, v = .ref T ∧ H T = none ∧ H' = upd H T (.tup [.int (c + (i : Nat)), x]) ∧ xs[i]? = some x, fun i H => SqL K H a xs ∧ i = xs.length⟩
theorem turn_enumC {P : Program} {w : World} {K : PySem.W.Frag} {elts : List Expr} {kk : Nat} {tpos : Pos} (a e it : Addr) (c : Int) (xs : List V) :
    Turn P w K (.Tuple elts kk tpos) (Itk K a c xs) [e, it] e (fun i h => (∃ old, IsEnum h e it (c + ((i : Nat) : Int)) old) ∧ h.IsListIter it a i ∧ e ≠ it ∧ a ≠ it ∧ a ≠ e) where
  mem := by simp
  obj := fun i h st b hb => by
    obtain ⟨⟨old, he⟩, ⟨o, ho, hc, hd⟩, _⟩ := st
    have e' : b = e ∨ b = it := by simpa using hb
    rcases e' with z | z
    · rw [z]; exact ⟨_, he, fun v q => nomatch q⟩
    · rw [z]; exact ⟨o, ho, fun v q => by rw [hd] at q; cases q⟩
  keep := fun i h h' st k => let ⟨⟨old, he⟩, hi, hne⟩ := st; ⟨⟨old, k e (by simp) _ he⟩, hi.at fun o q => k it (by simp) o q, hne⟩
  item := by
    intro X hP hw hK hc i pins s σ H E I hf st hg
    subst hP hw hK
    obtain ⟨⟨old, he⟩, hit, hne, hai, hae⟩ := st
    obtain ⟨hq, hi⟩ := hg
    obtain ⟨its, rv, p, hz⟩ := I.list hq
    have hl := rv.length
    have hel : e < s.heap.objs.size := Heap.lt_size he
    have hil : it < s.heap.objs.size := by obtain ⟨_, q, _⟩ := hit; exact Heap.lt_size q
    have hh : X.A.handled = none := I.ok.hd hc
    refine wpAny_pyNext_enum_itemC (Draws.list (A := X.A.in1) hh it a hai its.toArray) he ⟨hit, p.isList⟩ (by simp; omega) hne (by simp [hne, Ne.symm hae]) fun u h' tk hu ho hst hT hsz hk => ?_
    obtain ⟨x, hx, ru⟩ : ∃ x, xs[i]? = some x ∧ RelV x u := by
      obtain ⟨u', hu', ru⟩ := rv.get (i := i) (x := xs[i]) (List.getElem?_eq_getElem hi)
      have hu2 : its[i]? = some u := by simpa using hu
      rw [hu2] at hu'
      cases hu'
      exact ⟨_, List.getElem?_eq_getElem hi, ru⟩
    obtain ⟨hit', _⟩ := hst
    refine ⟨_, rfl, wpAny_letOwnedTupleGo_enum (s := { s with heap := h', toks := tk + 1 }) ho fun h'' he' sb => ?_⟩
    have hT2 : h''.get? s.heap.objs.size = some { cls := .type "tuple", data := .seq #[.int (c + (i : Int)) tk, u] } := (sb.2 _ (Nat.ne_of_gt hel)).trans hT
    have new : ObjOk X.prog X.w (upd H s.heap.objs.size (.tup [.int (c + (i : Nat)), x])) h'' s.heap.objs.size (.tup [.int (c + (i : Nat)), x]) :=
      ⟨by show 2 ≤ sizeLine; decide, [.int (c + (i : Int)) tk, u], .cons ⟨_, rfl⟩ (.cons ru .nil), ⟨_, hT2, rfl, _, rfl⟩⟩
    have I1 : Inv X pins σ (upd H s.heap.objs.size (.tup [.int (c + (i : Nat)), x])) { s with heap := h'', toks := tk + 1 } :=
      I.turnedNew (ch := [e, it]) (fun b ob hb q => (sb.2 b (fun z => hb (by simp [z]))).trans (hk b ob (fun z => hb (by simp [z])) (fun z => hb (by simp [z])) q)) hf (Nat.le_refl _) new
    refine ⟨.ref s.heap.objs.size, _, I1, rfl, ⟨_, x, rfl, I.hok.fresh (Nat.le_refl _), rfl, hx⟩, ⟨⟨u, ?_⟩, hit'.at fun o q => (sb.2 it (Ne.symm hne)).trans q, hne, hai, hae⟩, fun b hb => ?_⟩
    · have e1 : c + ((i + 1 : Nat) : Int) = c + (i : Int) + 1 := by omega
      rw [e1]; exact he'
    · have hb' : b < s.heap.objs.size := by
        have e' : b = e ∨ b = it := by simpa using hb
        rcases e' with z | z
        · rw [z]; exact hel
        · rw [z]; exact hil
      rw [upd_ne (Nat.ne_of_lt hb')]
      exact (hf b hb).1
  done := by
    intro X hP hw hK hc i pins s σ H E I hf st hg
    subst hP hw hK
    obtain ⟨⟨old, he⟩, hit, hne, hai, hae⟩ := st
    obtain ⟨hq, hx⟩ := hg
    obtain ⟨its, rv, p, hz⟩ := I.list hq
    obtain ⟨f0, f1, f2, f3, f4, f5⟩ := hf it (by simp)
    have hl := rv.length
    have hh : X.A.handled = none := I.ok.hd hc
    have hi : i = its.toArray.size := by simp; omega
    exact wpAny_pyNext_enum_endD (Draws.list (A := X.A.in1) hh it a hai its.toArray) he ⟨by rw [← hi]; exact hit, p.isList⟩ fun h' eb => ⟨rfl, I.turned (t' := s.toks) (fun b o hb q => eb b o hb q) f0 f1 f3 f4 f5⟩
  self := fun A i s Q E st h => let ⟨⟨_, he⟩, _⟩ := st; wpAny_pyIter_enum he h
theorem evalArgs_typeKw {M : Model} {A : Around} {E : Value → Shared → Prop} {s : Shared} {pos : Pos} {T : String} {args : List (Bool × Sem Value)} {keywords : List (Option Str × Sem Value)} {Q : Value → Shared → Prop}
    (hplain : args.any (·.1) = false) (hkw : keywords.any (·.1.isNone) = false)
    (h : wpAny M A (evalArgs (.type T) true args keywords) (fun a s₁ => wpAny M A (call (.type T) ([] ++ a.pos) a.kw) Q E s₁) E s) :
    wpAny M A (callWith pos (.type T) [] args keywords) Q E s := by
  unfold callWith
  refine wpAny_bind (wpAny_holding (wpAny_mono h (fun a s₁ h₁ => wpAny_bind (wpAny_standAt ?_)) fun _ _ x => x))
  simp only [hplain, hkw, Bool.or_false]
  refine wpAny_bind (wpAny_pure ?_)
  exact wpAny_bind (wpAny_mono h₁ (fun r s₂ hr => wpAny_bind (wpAny_holding (wpAny_point (wpAny_pure hr)))) fun _ _ x => x)
def iEnumK (K : PySem.W.Frag) (ta : TA) (te : TE) : TI := fun σ H R => ta σ H fun vs H1 => te σ H1 fun y H2 => ∃ a xs c, vs = [.ref a] ∧ y = .int c ∧ -(2 ^ 62) ≤ c ∧ c < 2 ^ 62 ∧ SqL K H2 a xs ∧ R (Itk K a c xs) H2
theorem pi_enumK {X : Cx} {e ek : Expr} {ta : TA} {te : TE} {p pos tpos kp : Pos} {elts : List Expr} {kk : Nat} (hg : Gl X "enumerate") (hm : X.mg "enumerate" = none) (ha : PA X [e] ta) (hk : PE X ek te) (hs : starEach [e] X.env = [(false, eval e X.env)] := by rfl) :
    PI X (.Tuple elts kk tpos) (.Call (.Name "enumerate" p) [e] [⟨some "start", ek, kp⟩] pos) (iEnumK X.K ta te) := by
  refine ⟨fun pins s σ H R I h => ?_⟩
  refine wpAny_Call_Name_kw (ld_blt I hg hm boot_enumerate (evalArgs_typeKw (by rw [hs]; rfl) (by rfl) ?_))
  have h0 := ha.run pos pins s σ H _ I h
  rw [hs] at h0 ⊢
  refine evalArgs_kwB (rest := []) (by rfl) (wpAny_mono h0 (fun us s1 hu => ?_) fun _ _ z => z)
  obtain ⟨vs, H1, I1, r1, q1⟩ := hu
  refine kws_cons (wpAny_mono (hk.run pins s1 σ H1 _ I1 q1) (fun u s2 hu2 => kws_nil ?_) fun _ _ z => z)
  obtain ⟨y, H2, I2, r2, a, xs, c, rfl, rfl, c0, c1, hq, q⟩ := hu2
  cases r1 with
  | cons r rr =>
    cases rr
    cases r
    obtain ⟨t, rfl⟩ := r2
    obtain ⟨its, rv, p', hz⟩ := I2.list hq
    have hal : a < s2.heap.objs.size := by obtain ⟨_, q, _⟩ := p'.isList; exact Heap.lt_size q
    refine enum_begins_start (begins_list a its.toArray) p'.isList (by omega) (by omega) fun h' he hit hsz hk => wpAny_pyIter_enum he ?_
    have I3 : Inv X pins σ H2 { s2 with heap := h' } := I2.kept (t' := s2.toks) hk
    refine ⟨s2.heap.objs.size + 1, [s2.heap.objs.size + 1, s2.heap.objs.size], _, _, H2, rfl, I3, turn_enumC a (s2.heap.objs.size + 1) s2.heap.objs.size c xs, ⟨⟨.none, by simpa using he⟩, ⟨_, hit, rfl, rfl⟩, Nat.succ_ne_self _, Nat.ne_of_lt hal, Nat.ne_of_lt (Nat.lt_succ_of_lt hal)⟩, fun b hb => ?_, q⟩
    have e' : b = s2.heap.objs.size + 1 ∨ b = s2.heap.objs.size := by simpa using hb
    have hle : s2.heap.objs.size ≤ b := by
      rcases e' with z | z
      · rw [z]; exact Nat.le_add_right _ _
      · rw [z]; exact Nat.le_refl _
    exact I2.fpOk hle (I2.hok.fresh hle)
theorem for_enumK {K : PySem.W.Frag} {a : Addr} {c : Int} {xs : List V} {g : TG} {tb : TS} {D : Ends} {σ : L2.St} {H : Hp} (Pv : Nat → L2.St → Hp → Prop) (h0 : Pv 0 σ H) (hl : ∀ i σ H, i ≤ xs.length → Pv i σ H → SqL K H a xs)
    (hs : ∀ i x σ H T, xs[i]? = some x → Pv i σ H → H T = none → g (.ref T) σ (upd H T (.tup [.int (c + (i : Nat)), x])) fun σ2 H2 => tb { D with nx := Pv (i + 1), ct := Pv (i + 1), bk := D.nx } σ2 H2) (hd : ∀ σ H, Pv xs.length σ H → D.nx σ H) :
    ∃ W : Nat → Nat → L2.St → Hp → Prop, (∃ m, W 0 m σ H) ∧ ∀ i m σ H, W i m σ H →
      ((Itk K a c xs).stop i H ∧ D.nx σ H) ∨ ((Itk K a c xs).go i H ∧ ∃ N : L2.St → Hp → Prop, (∀ σ' H', N σ' H' → ∃ m', m' < m ∧ W (i + 1) m' σ' H') ∧ ∀ x H', (Itk K a c xs).yld i H x H' → g x σ H' fun σ2 H2 => tb { D with nx := N, ct := N, bk := D.nx } σ2 H2) := by
  refine ⟨fun i m σ H => m = xs.length - i ∧ i ≤ xs.length ∧ Pv i σ H, ⟨xs.length, by simp, Nat.zero_le _, h0⟩, ?_⟩
  rintro i m σ H ⟨rfl, hi, p⟩
  by_cases hlt : i < xs.length
  · refine .inr ⟨⟨hl i σ H hi p, hlt⟩, Pv (i + 1), fun σ' H' p' => ⟨xs.length - (i + 1), by omega, rfl, hlt, p'⟩, fun x H' y => ?_⟩
    obtain ⟨T, x, rfl, hT, rfl, hx⟩ := y
    exact hs i x σ H T hx p hT
  · have e : i = xs.length := by omega
    exact .inl ⟨⟨hl i σ H hi p, e⟩, hd _ _ (e ▸ p)⟩
/-! ### zip(tuple, list) -/
def Itm (K : PySem.W.Frag) (a b : Addr) (xs ys : List V) : It :=
  ⟨fun i H => SqT K H a xs ∧ SqL K H b ys ∧ i < xs.length ∧ i < ys.length, fun i H v H' => ∃ T x y, v = .ref T ∧ H T = none ∧ H' = upd H T (.tup [x, y]) ∧ xs[i]? = some x ∧ ys[i]? = some y,
    fun i H => SqT K H a xs ∧ SqL K H b ys ∧ i ≤ xs.length ∧ i ≤ ys.length ∧ (i = xs.length ∨ i = ys.length)⟩
theorem val_at {xs : List V} {its : List Value} {i : Nat} {u : Value} (rv : Vals xs its) (h : its.toArray[i]? = some u) : ∃ x, xs[i]? = some x ∧ RelV x u := by
  have hu : its[i]? = some u := by simpa using h
  have hl := rv.length
  have hi : i < xs.length := by
    have := (List.getElem?_eq_some_iff.mp hu).1
    omega
  obtain ⟨u', hu', ru⟩ := rv.get (i := i) (x := xs[i]) (List.getElem?_eq_getElem hi)
  rw [hu] at hu'
  cases hu'
  exact ⟨_, List.getElem?_eq_getElem hi, ru⟩
theorem turn_zipM {P : Program} {w : World} {K : PySem.W.Frag} {elts : List Expr} {kk : Nat} {tpos : Pos} {a b z TI TO i1 i2 : Addr} (xs ys : List V) (S : ZipSep2 z TI TO i1 i2 [i1, a] [i2, b]) (ha : a ≠ i1) (hb : b ≠ i2) :
    Turn P w K (.Tuple elts kk tpos) (Itm K a b xs ys) [z, TI, TO, i1, i2] z (fun i h => IsZip h z TI TO .none ∧ IsTupOf2 h TI (.ref i1) (.ref i2) ∧ (∃ x y, IsTupOf2 h TO x y) ∧ h.IsTupleIter i1 a i ∧ h.IsListIter i2 b i) where
  mem := by simp
  obj := fun i h st c hc => by
    obtain ⟨hz, hTI, ⟨x, y, hTO⟩, ⟨o1, e1, _, d1⟩, ⟨o2, e2, _, d2⟩⟩ := st
    have e' : c = z ∨ c = TI ∨ c = TO ∨ c = i1 ∨ c = i2 := by simpa using hc
    rcases e' with q | q | q | q | q
    · rw [q]; exact ⟨_, hz, fun v q => nomatch q⟩
    · rw [q]; exact ⟨_, hTI, fun v q => nomatch q⟩
    · rw [q]; exact ⟨_, hTO, fun v q => nomatch q⟩
    · rw [q]; exact ⟨o1, e1, fun v q => by rw [d1] at q; cases q⟩
    · rw [q]; exact ⟨o2, e2, fun v q => by rw [d2] at q; cases q⟩
  keep := fun i h h' st k => by
    obtain ⟨hz, hTI, ⟨x, y, hTO⟩, h1, h2⟩ := st
    exact ⟨k z (by simp) _ hz, k TI (by simp) _ hTI, ⟨x, y, k TO (by simp) _ hTO⟩, h1.at fun o q => k i1 (by simp) o q, h2.at fun o q => k i2 (by simp) o q⟩
  item := by
    intro X hP hw hK hc i pins s σ H E I hf st hg
    subst hP hw hK
    obtain ⟨hz, hTI, ⟨x0, y0, hTO⟩, h1, h2⟩ := st
    obtain ⟨hqx, hqy, hx, hy⟩ := hg
    obtain ⟨its, rv, p, _⟩ := I.tuple hqx
    obtain ⟨its2, rv2, p2, _⟩ := I.list hqy
    have l1 := rv.length
    have l2 := rv2.length
    have hh : X.A.handled = none := I.ok.hd hc
    have hzl : z < s.heap.objs.size := Heap.lt_size hz
    refine wpAny_pyNext_zipD2_item S (Draws.tuple (A := X.A.in1) hh i1 a ha its.toArray) (Draws.list (A := X.A.in1) hh i2 b hb its2.toArray) hz hTI hTO ⟨h1, p⟩ ⟨h2, p2.isList⟩ (by simp; omega) (by simp; omega) fun u u2 h' tk hu hu2 z' TO' st1 st2 hT hsz hk => ?_
    obtain ⟨x, hx, ru⟩ := val_at rv hu
    obtain ⟨y, hy, ru2⟩ := val_at rv2 hu2
    refine ⟨_, rfl, wpAny_letOwnedTupleGo_zip (s := { s with heap := h', toks := tk }) z' fun h'' z'' sb => ?_⟩
    have hT2 : h''.get? s.heap.objs.size = some { cls := .type "tuple", data := .seq #[u, u2] } := (sb.2 _ (Nat.ne_of_gt hzl)).trans hT
    have new : ObjOk X.prog X.w (upd H s.heap.objs.size (.tup [x, y])) h'' s.heap.objs.size (.tup [x, y]) :=
      ⟨by show 2 ≤ sizeLine; decide, [u, u2], .cons ru (.cons ru2 .nil), ⟨_, hT2, rfl, _, rfl⟩⟩
    have I1 : Inv X pins σ (upd H s.heap.objs.size (.tup [x, y])) { s with heap := h'', toks := tk } :=
      I.turnedNew (ch := [z, TI, TO, i1, i2]) (fun c o hb q => (sb.2 c (fun q' => hb (by simp [q']))).trans (hk c o (fun q' => hb (by simp [q'])) (fun q' => hb (by simp [q'])) (fun q' => hb (by simp [q'])) (fun q' => hb (by simp [q'])) q)) hf (Nat.le_refl _) new
    refine ⟨.ref s.heap.objs.size, _, I1, rfl, ⟨_, x, y, rfl, I.hok.fresh (Nat.le_refl _), rfl, hx, hy⟩, ⟨z'', ?_, ⟨u, u2, ?_⟩, ?_, ?_⟩, fun c hcm => ?_⟩
    · exact (sb.2 _ S.TIz).trans (hk _ _ S.TIz S.TITO S.TIi1 S.TIi2 hTI)
    · exact (sb.2 _ S.TOz).trans TO'
    · exact st1.1.at fun o q => (sb.2 _ (Ne.symm S.zi1)).trans q
    · exact st2.1.at fun o q => (sb.2 _ (Ne.symm S.zi2)).trans q
    · have hlt : c < s.heap.objs.size := by
        have e' : c = z ∨ c = TI ∨ c = TO ∨ c = i1 ∨ c = i2 := by simpa using hcm
        rcases e' with q | q | q | q | q
        · rw [q]; exact hzl
        · rw [q]; exact Heap.lt_size hTI
        · rw [q]; exact Heap.lt_size hTO
        · rw [q]; obtain ⟨_, e1, _⟩ := h1; exact Heap.lt_size e1
        · rw [q]; obtain ⟨_, e2, _⟩ := h2; exact Heap.lt_size e2
      rw [upd_ne (Nat.ne_of_lt hlt)]
      exact (hf c hcm).1
  done := by
    intro X hP hw hK hc i pins s σ H E I hf st hg
    subst hP hw hK
    obtain ⟨hz, hTI, ⟨x0, y0, hTO⟩, h1, h2⟩ := st
    obtain ⟨hqx, hqy, hx, hy, hend⟩ := hg
    obtain ⟨its, rv, p, _⟩ := I.tuple hqx
    obtain ⟨its2, rv2, p2, _⟩ := I.list hqy
    have l1 := rv.length
    have l2 := rv2.length
    have hh : X.A.handled = none := I.ok.hd hc
    exact wpAny_pyNext_zipD2_end S (Draws.tuple (A := X.A.in1) hh i1 a ha its.toArray) (Draws.list (A := X.A.in1) hh i2 b hb its2.toArray) hz hTI hTO ⟨h1, p⟩ ⟨h2, p2.isList⟩ (by simp; omega) (by simp; omega) (by simp; omega) fun h' tk hk => ⟨rfl, I.turnedL (t' := tk) (ch := [z, TI, TO, i1, i2]) (fun c o hb q =>
      hk c o (fun q' => hb (by simp [q'])) (fun q' => hb (by simp [q'])) (fun q' => hb (by simp [q'])) (fun q' => hb (by simp [q'])) q) hf⟩
  self := fun A i s Q E st h => wpAny_pyIter_zip st.1 h
def iZipM (K : PySem.W.Frag) (ta : TA) : TI := fun σ H R => ta σ H fun vs H1 => ∃ a b xs ys, vs = [.ref a, .ref b] ∧ SqT K H1 a xs ∧ SqL K H1 b ys ∧ R (Itm K a b xs ys) H1
theorem pi_zipM {X : Cx} {e e2 : Expr} {ta : TA} {p pos tpos : Pos} {elts : List Expr} {kk : Nat} (hg : Gl X "zip") (hm : X.mg "zip" = none) (ha : PA X [e, e2] ta)
    (hs : starEach [e, e2] X.env = (false, eval e X.env) :: starEach [e2] X.env := by rfl) (hpl : (backTo pos (starEach [e2] X.env)).any (·.1) = false := by rfl) :
    PI X (.Tuple elts kk tpos) (.Call (.Name "zip" p) [e, e2] [] pos) (iZipM X.K ta) := by
  refine ⟨fun pins s σ H R I h => ?_⟩
  refine Call_ (ld_blt I hg hm PyProof.Rows.boot_zip (PyProof.Rows.callWith_type1 (thn (ha.run pos pins s σ H _ I h) fun us s1 ⟨vs, H1, I1, r1, q1⟩ => ?_) hs hpl))
  obtain ⟨a, b, xs, ys, ex, hqx, hqy, q⟩ := q1
  subst ex
  cases r1 with
  | cons r rr =>
    cases rr with
    | cons r' rr =>
      cases rr
      cases r
      cases r'
      have fresh5 : ∀ c, c ∈ [s1.heap.objs.size + 4, s1.heap.objs.size + 2, s1.heap.objs.size + 3, s1.heap.objs.size, s1.heap.objs.size + 1] → FpOk X pins H1 c := fun c hcm => by
        have e' : c = s1.heap.objs.size + 4 ∨ c = s1.heap.objs.size + 2 ∨ c = s1.heap.objs.size + 3 ∨ c = s1.heap.objs.size ∨ c = s1.heap.objs.size + 1 := by simpa using hcm
        have hle : s1.heap.objs.size ≤ c := by
          rcases e' with z | z | z | z | z
          · rw [z]; exact Nat.le_add_right _ _
          · rw [z]; exact Nat.le_add_right _ _
          · rw [z]; exact Nat.le_add_right _ _
          · rw [z]; exact Nat.le_refl _
          · rw [z]; exact Nat.le_add_right _ _
        exact I1.fpOk hle (I1.hok.fresh hle)
      obtain ⟨its, rv, p1, _⟩ := I1.tuple hqx
      obtain ⟨its2, rv2, p2, _⟩ := I1.list hqy
      have al : a < s1.heap.objs.size := by obtain ⟨_, q, _⟩ := id p1; exact Heap.lt_size q
      have bl : b < s1.heap.objs.size := by obtain ⟨_, q, _⟩ := p2.isList; exact Heap.lt_size q
      refine zip_begins2 (begins_tuple a its.toArray) (begins_list b its2.toArray) p1 p2.isList fun h' hz hTI hTO h1 h2 hsz hk => wpAny_pyIter_zip hz ?_
      have I2 : Inv X pins σ H1 { s1 with heap := h' } := I1.kept (t' := s1.toks) hk
      have n1 : ∀ k, s1.heap.objs.size + k ≠ a := fun k => by
        intro e
        have : s1.heap.objs.size ≤ a := by rw [← e]; exact Nat.le_add_right _ _
        exact Nat.lt_irrefl _ (Nat.lt_of_lt_of_le al this)
      have n2 : ∀ k, s1.heap.objs.size + k ≠ b := fun k => by
        intro e
        have : s1.heap.objs.size ≤ b := by rw [← e]; exact Nat.le_add_right _ _
        exact Nat.lt_irrefl _ (Nat.lt_of_lt_of_le bl this)
      have nn : ∀ j k : Nat, j ≠ k → s1.heap.objs.size + j ≠ s1.heap.objs.size + k := fun j k h e => h (Nat.add_left_cancel e)
      exact ⟨s1.heap.objs.size + 4, [s1.heap.objs.size + 4, s1.heap.objs.size + 2, s1.heap.objs.size + 3, s1.heap.objs.size, s1.heap.objs.size + 1], _, _, H1, rfl, I2,
        turn_zipM xs ys ⟨nn 2 4 (by decide), nn 3 4 (by decide), nn 2 3 (by decide), nn 2 0 (by decide), by simp, by simp [n1 4, nn 4 0 (by decide)], by simp [n1 3, nn 3 0 (by decide)], nn 2 1 (by decide), by simp, by simp [n2 4, nn 4 1 (by decide)], by simp [n2 3, nn 3 1 (by decide)], by simp [Nat.ne_of_gt bl], by simp [n1 1, nn 1 0 (by decide)]⟩ (Ne.symm (n1 0)) (Ne.symm (n2 1)),
        ⟨hz, hTI, ⟨_, _, hTO⟩, ⟨_, h1, rfl, rfl⟩, ⟨_, h2, rfl, rfl⟩⟩, fresh5, q⟩
theorem for_zipM {K : PySem.W.Frag} {a b : Addr} {xs ys : List V} {g : TG} {tb : TS} {D : Ends} {σ : L2.St} {H : Hp} (hlen : xs.length = ys.length) (Pv : Nat → L2.St → Hp → Prop) (h0 : Pv 0 σ H) (hl : ∀ i σ H, i ≤ xs.length → Pv i σ H → SqT K H a xs ∧ SqL K H b ys)
    (hs : ∀ i x y σ H T, xs[i]? = some x → ys[i]? = some y → Pv i σ H → H T = none → g (.ref T) σ (upd H T (.tup [x, y])) fun σ2 H2 => tb { D with nx := Pv (i + 1), ct := Pv (i + 1), bk := D.nx } σ2 H2) (hd : ∀ σ H, Pv xs.length σ H → D.nx σ H) :
    ∃ W : Nat → Nat → L2.St → Hp → Prop, (∃ m, W 0 m σ H) ∧ ∀ i m σ H, W i m σ H →
      ((Itm K a b xs ys).stop i H ∧ D.nx σ H) ∨ ((Itm K a b xs ys).go i H ∧ ∃ N : L2.St → Hp → Prop, (∀ σ' H', N σ' H' → ∃ m', m' < m ∧ W (i + 1) m' σ' H') ∧ ∀ x H', (Itm K a b xs ys).yld i H x H' → g x σ H' fun σ2 H2 => tb { D with nx := N, ct := N, bk := D.nx } σ2 H2) := by
  refine ⟨fun i m σ H => m = xs.length - i ∧ i ≤ xs.length ∧ Pv i σ H, ⟨xs.length, by simp, Nat.zero_le _, h0⟩, ?_⟩
  rintro i m σ H ⟨rfl, hi, p⟩
  obtain ⟨q1, q2⟩ := hl i σ H hi p
  by_cases hlt : i < xs.length
  · refine .inr ⟨⟨q1, q2, hlt, by omega⟩, Pv (i + 1), fun σ' H' p' => ⟨xs.length - (i + 1), by omega, rfl, hlt, p'⟩, fun x H' y => ?_⟩
    obtain ⟨T, x, y, rfl, hT, rfl, hx, hy⟩ := y
    exact hs i x y σ H T hx hy p hT
  · have e : i = xs.length := by omega
    exact .inl ⟨⟨q1, q2, by omega, by omega, .inl e⟩, hd _ _ (e ▸ p)⟩
/-! ### C(..), C in a local -/
section
variable {X : Cx} {CX : CXT} {k i : Nat} {f C : Addr} {fd : FuncData} {ps : List Str} {sp : Sp} {dvs : List V} {ds : List Value} {E : L2.St → XK} {x : Str} {p pos : Pos} {e : Expr} {es : List Expr} {t : TA}
theorem at0 {X : Cx} (σ : L2.St) : PassesAt CX0 X σ E0 := fun _ _ _ _ _ _ h => h.elim
def tMakeL (i : Nat) (C : Addr) (sp : Sp) (dvs : List V) (E : L2.St → XK) (t : TA) : TE := fun σ H Q => σ[i]? = some (some (.ref C)) ∧ t σ H fun vs H1 => ∀ x dx, H1 x = none → H1 dx = none → dx ≠ x →
  sp (.ref x :: (vs ++ dvs)) (upd (upd H1 dx (.own x)) x (.ins C dx [])) (fun v H2 => v = .non ∧ Q (.ref x) H2) (E σ)
theorem pe_makeL (M : Mk X.K C f) (F : FnOk X.prog X.w X.K X.mg X.base CX k f fd ps sp) (hr : Room (k + 1) X.A) (hN : X.N[i]? = some x) (hv : Vis X.env.scope x) (hb : Binds X.K fd ps ds) (hd : Vals dvs ds) (hx : ∀ σ, PassesAt CX X σ (E σ))
    (ha : PA X (e :: es) t) (hdb : (x == ("__debug__" : Str)) = false := by decide) (hcd : (x == ("__classdict__" : Str)) = false := by decide)
    (he : starEach (e :: es) X.env = (false, eval e X.env) :: starEach es X.env := by rfl) (hpl : (backTo pos (starEach es X.env)).any (·.1) = false := by rfl) :
    PE X (.Call (.Name x p) (e :: es) [] pos) (tMakeL i C sp dvs E t) := by
  refine ⟨fun pins s σ H Q I h => ?_⟩
  obtain ⟨hs, ht⟩ := h
  refine wpAny_Call_Name_kw (thn ((pe_var (pos := p) hN hv hdb hcd).run pins s σ H (fun v H1 => v = .ref C ∧ H1 = H) I ⟨.ref C, hs, rfl, rfl⟩) fun u s1 ⟨v, H1, I1, r1, q1⟩ => ?_)
  obtain ⟨rfl, rfl⟩ := q1
  cases r1
  refine PySem.W.callWith_K (h₀ := X.base) I.ok.mod.kin M.kp (thn (ha.run pos pins s1 σ _ _ I1 ht) fun us s2 ⟨vs, H2, I2, r, q⟩ => ⟨I2.kIn, ?_⟩) he hpl
  exact run_makeS M F hr hb hd (hx σ) I2 r q
end
/-! ### len(o), o[i] by own methods -/
section
variable {X : Cx} {CX : CXT} {C f : Addr} {fd : FuncData} {ps : List Str} {n : Nat} {sp : Sp} {E : XK}
def rLenOwn (C : Addr) (sp : Sp) (E : XK) : List V → Hp → VK → Prop := fun xs H Q => ∃ a dx fs, xs = [V.ref a] ∧ H a = some (.ins C dx fs) ∧ sp [.ref a] H (fun z H' => ∃ i : Int, z = .int i ∧ 0 ≤ i ∧ i < 1000000 ∧ Q (.int i) H') E
theorem call_lenOwn (hs : PySem.W.findIn X.K (.ref C) "__len__" = some (some (.ref f))) (hf : PySem.W.isFn X.K (.ref f) = true) (F : FnOk X.prog X.w X.K X.mg X.base CX n f fd ps sp) (hb : Binds X.K fd ps []) (hr : Room (n + 1) X.A) (hx : Passes CX X E) : CallR X (.builtin "len") (rLenOwn C sp E) := by
  intro pins s σ H xs us Q I r h
  obtain ⟨a, dx, fs, rfl, ha, q⟩ := h
  obtain ⟨u, rfl, ru⟩ := r.one
  cases (show u = Value.ref a from ru)
  obtain ⟨mA, J, _⟩ := ins_get I.hok ha
  obtain ⟨od, J, _⟩ := J.look
  refine Calls.call_function_entry kind_len plain_len entry_len (args_len1 _) ?_
  unfold Builtin.«len»
  refine wpAny_bind (m := oneArg "len" _) (wpAny_pure ?_)
  refine wpAny_bind (m := callSpecial? (.ref a) (Str.ofString "__len__")) (PySem.W.special_fn I.kIn J hs (beq_iff_eq.mp hf) (wpAny_mono (wpAny_call (run_ok (us := [.ref a]) (ws := [.ref a]) F hb (Room.in1 hr) I.env0.in1 hx I (.cons rfl .nil) q)) (fun w s' z => ?_) fun _ _ y => y))
  obtain ⟨z', H', I', rz, i, ei, i0, i1, qz⟩ := z
  subst ei
  obtain ⟨t, e⟩ := (show ∃ t, w = Value.int i t from rz)
  cases e
  refine wpAny_bind (wpAny_holding (wpAny_pure ?_))
  refine wpAny_bind (wpAny_letGo ?_)
  show wpAny _ _ (if i < 0 then _ else _) _ _ _
  rw [if_neg (by omega)]
  show wpAny _ _ (if i ≥ 2 ^ 63 then _ else _) _ _ _
  rw [if_neg (by omega)]
  exact wpAny_bind (wpAny_mkInt (wpAny_pure ⟨_, rfl, .int i, H', I'.tok _, ⟨_, rfl⟩, qz⟩))
def tIxOwn (C : Addr) (sp : Sp) (E : XK) (ta tb : TE) : TE := fun σ H Q => ta σ H fun x H1 => tb σ H1 fun y H2 => ∃ a dx fs, x = .ref a ∧ H2 a = some (.ins C dx fs) ∧ sp [.ref a, y] H2 Q E
theorem pe_ixOwn {a b : Expr} {pos : Pos} {ta tb : TE} (hs : PySem.W.findIn X.K (.ref C) "__getitem__" = some (some (.ref f))) (hf : PySem.W.isFn X.K (.ref f) = true) (hfn : PySem.W.fnIn X.K f = true) (F : FnOk X.prog X.w X.K X.mg X.base CX n f fd ps sp) (hb : Binds X.K fd ps []) (hr : Room (n + 1) X.A) (hx : Passes CX X E)
    (ha : PE X a ta) (hb2 : PE X b tb) (hsl : ∀ v u, subscripted b true v u = runValue (.builtin "lifetime.subscript" ⟨[v, u], []⟩) := by intro _ _; rfl) : PE X (.Subscript a b pos) (tIxOwn C sp E ta tb) := by
  refine ⟨fun pins s σ H Q I h => ?_⟩
  refine Subscript_ (thn (ha.run pins s σ H _ I h) fun v s1 ⟨x, H1, I1, rx, q1⟩ => thn (hb2.run pins s1 σ H1 _ I1 q1) fun u s2 ⟨y, H2, I2, ry, o, dx, fs, ex, ho, q⟩ => ?_)
  subst ex
  cases (show v = Value.ref o from rx)
  obtain ⟨mA, J, _⟩ := ins_get I2.hok ho
  obtain ⟨od, J, _⟩ := J.look
  obtain ⟨m, hF⟩ := I2.fr
  exact PySem.W.sub_K hF I2.ok.mod.kin J hs hfn hf (wpAny_call (run_ok (us := [.ref o, u]) (ws := [.ref o, y]) F hb (Room.in1 hr) I2.env0.in1 hx I2 (.cons rfl (.cons ry .nil)) q)) (hsl _ _)
end
end L2.Wk
namespace L2.Wk
open PySem PySem.Spec PyProof.Rows
/-- repr of a number, or of None -/
def reprV : V → Str
  | .int i => toString i
  | _ => Str.ofString "None"
theorem call_reprIN {X : Cx} : CallR X (.builtin "repr") (fun xs H Q => ∃ v, xs = [v] ∧ ((∃ i : Int, v = .int i ∧ i.natAbs.log2 < 1920) ∨ v = .non) ∧ Q (.str (reprV v)) H) := by
  intro pins s σ H xs us Q I r h
  obtain ⟨v, rfl, hv, q⟩ := h
  rcases hv with ⟨i, rfl, hz⟩ | rfl
  · obtain ⟨u, rfl, t, rfl⟩ := vals1 r
    exact PySem.P.repr_of_int hz ⟨.str _, H, I.tok _, ⟨_, rfl⟩, q⟩
  · obtain ⟨u, rfl, e⟩ := vals1 r
    cases (show u = Value.none from e)
    exact PySem.P.repr_of_none ⟨.str _, H, I.tok _, ⟨_, rfl⟩, q⟩
/-! ### enumerate(tuple) -/
def Itq (K : PySem.W.Frag) (a : Addr) (xs : List V) : It :=
  ⟨fun i H => SqT K H a xs ∧ i < xs.length, fun i H v H' => ∃ T x, v = .ref T ∧ H T = none ∧ H' = upd H T (.tup [.int (i : Nat), x]) ∧ xs[i]? = some x, fun i H => SqT K H a xs ∧ i = xs.length⟩
theorem turn_enumT {P : Program} {w : World} {K : PySem.W.Frag} {elts : List Expr} {kk : Nat} {tpos : Pos} (a e it : Addr) (xs : List V) :
    Turn P w K (.Tuple elts kk tpos) (Itq K a xs) [e, it] e (fun i h => (∃ old, IsEnum h e it (((i : Nat) : Int)) old) ∧ h.IsTupleIter it a i ∧ e ≠ it ∧ a ≠ it ∧ a ≠ e) where
  mem := by simp
  obj := fun i h st b hb => by
    obtain ⟨⟨old, he⟩, ⟨o, ho, hc, hd⟩, _⟩ := st
    have e' : b = e ∨ b = it := by simpa using hb
    rcases e' with z | z
    · rw [z]; exact ⟨_, he, fun v q => nomatch q⟩
    · rw [z]; exact ⟨o, ho, fun v q => by rw [hd] at q; cases q⟩
  keep := fun i h h' st k => let ⟨⟨old, he⟩, hi, hne⟩ := st; ⟨⟨old, k e (by simp) _ he⟩, hi.at fun o q => k it (by simp) o q, hne⟩
  item := by
    intro X hP hw hK hc i pins s σ H E I hf st hg
    subst hP hw hK
    obtain ⟨⟨old, he⟩, hit, hne, hai, hae⟩ := st
    obtain ⟨hq, hi⟩ := hg
    obtain ⟨its, rv, p, hz⟩ := I.tuple hq
    have hl := rv.length
    have hel : e < s.heap.objs.size := Heap.lt_size he
    have hil : it < s.heap.objs.size := by obtain ⟨_, q, _⟩ := hit; exact Heap.lt_size q
    have hh : X.A.handled = none := I.ok.hd hc
    refine wpAny_pyNext_enum_itemC (Draws.tuple (A := X.A.in1) hh it a hai its.toArray) he ⟨hit, p⟩ (by simp; omega) hne (by simp [hne, Ne.symm hae]) fun u h' tk hu ho hst hT hsz hk => ?_
    obtain ⟨x, hx, ru⟩ := val_at rv hu
    obtain ⟨hit', _⟩ := hst
    refine ⟨_, rfl, wpAny_letOwnedTupleGo_enum (s := { s with heap := h', toks := tk + 1 }) ho fun h'' he' sb => ?_⟩
    have hT2 : h''.get? s.heap.objs.size = some { cls := .type "tuple", data := .seq #[.int (i : Int) tk, u] } := (sb.2 _ (Nat.ne_of_gt hel)).trans hT
    have new : ObjOk X.prog X.w (upd H s.heap.objs.size (.tup [.int (i : Nat), x])) h'' s.heap.objs.size (.tup [.int (i : Nat), x]) :=
      ⟨by show 2 ≤ sizeLine; decide, [.int (i : Int) tk, u], .cons ⟨_, rfl⟩ (.cons ru .nil), ⟨_, hT2, rfl, _, rfl⟩⟩
    have I1 : Inv X pins σ (upd H s.heap.objs.size (.tup [.int (i : Nat), x])) { s with heap := h'', toks := tk + 1 } :=
      I.turnedNew (ch := [e, it]) (fun b ob hb q => (sb.2 b (fun z => hb (by simp [z]))).trans (hk b ob (fun z => hb (by simp [z])) (fun z => hb (by simp [z])) q)) hf (Nat.le_refl _) new
    refine ⟨.ref s.heap.objs.size, _, I1, rfl, ⟨_, x, rfl, I.hok.fresh (Nat.le_refl _), rfl, hx⟩, ⟨⟨u, ?_⟩, hit'.at fun o q => (sb.2 it (Ne.symm hne)).trans q, hne, hai, hae⟩, fun b hb => ?_⟩
    · have e1 : ((i + 1 : Nat) : Int) = (i : Int) + 1 := by omega
      rw [e1]; exact he'
    · have hb' : b < s.heap.objs.size := by
        have e' : b = e ∨ b = it := by simpa using hb
        rcases e' with z | z
        · rw [z]; exact hel
        · rw [z]; exact hil
      rw [upd_ne (Nat.ne_of_lt hb')]
      exact (hf b hb).1
  done := by
    intro X hP hw hK hc i pins s σ H E I hf st hg
    subst hP hw hK
    obtain ⟨⟨old, he⟩, hit, hne, hai, hae⟩ := st
    obtain ⟨hq, hx⟩ := hg
    obtain ⟨its, rv, p, hz⟩ := I.tuple hq
    obtain ⟨f0, f1, f2, f3, f4, f5⟩ := hf it (by simp)
    have hl := rv.length
    have hh : X.A.handled = none := I.ok.hd hc
    have hi : i = its.toArray.size := by simp; omega
    exact wpAny_pyNext_enum_endD (Draws.tuple (A := X.A.in1) hh it a hai its.toArray) he ⟨by rw [← hi]; exact hit, p⟩ fun h' eb => ⟨rfl, I.turned (t' := s.toks) (fun b o hb q => eb b o hb q) f0 f1 f3 f4 f5⟩
  self := fun A i s Q E st h => let ⟨⟨_, he⟩, _⟩ := st; wpAny_pyIter_enum he h
set_option maxHeartbeats 4000000 in
theorem meets_enum0 {v : Value} {o : Obj} {H : Heap → Prop} (B : Begins v o H) :
    Meets (Builtin.«enumerate.__new__» ⟨[.type "enumerate", v], []⟩) (fun _ R s => H s.heap ∧
      R (.ok (.ret (.ref (s.heap.push o).objs.size))) { s with heap := (s.heap.push o).push { cls := .type "enumerate", data := .fields #[.none, .bool false, .ref s.heap.objs.size, rawInt 0, .none, .none] } }) :=
  .of_wp fun prog w A R s h => by
    obtain ⟨hp, g, d, tk, os⟩ := s; obtain ⟨h1, h⟩ := h
    have hsub := sub_enumerate
    have q1 : ∀ {A' : Around} {E : Value → Shared → Prop} {Q : Value → Shared → Prop}, Q (.ref hp.objs.size) ⟨hp.push o, g, d, tk, os⟩ → wpAny (model prog w) A' (pyIter v) Q E ⟨hp, g, d, tk, os⟩ :=
      fun q => B.iter prog w _ _ ⟨hp, g, d, tk, os⟩ _ h1 q
    wp_walk using q1
    refine wpAny_stack_any fun st => wpAny_pure ?_
    split
    · rename_i c _ _ _ _ _
      cases (c == Value.type "enumerate")
      · wp_walk using q1
        exact ⟨_, rfl, h⟩
      · wp_walk using q1
        exact ⟨_, rfl, h⟩
    · wp_walk using q1
      exact ⟨_, rfl, h⟩
theorem enum_begins0 {prog : Program} {w : World} {A : Around} {E : Value → Shared → Prop} {s : Shared} {v : Value} {o : Obj} {H : Heap → Prop} {Q : Value → Shared → Prop} (B : Begins v o H) (h1 : H s.heap)
    (h : ∀ h', IsEnum h' (s.heap.objs.size + 1) s.heap.objs.size 0 .none → h'.get? s.heap.objs.size = some o → h'.objs.size = s.heap.objs.size + 2 →
      (∀ b o, s.heap.get? b = some o → h'.get? b = some o) → Q (.ref (s.heap.objs.size + 1)) { s with heap := h' }) :
    wpAny (model prog w) A (call (.type "enumerate") [v]) Q E s := by
  refine callType_new F.called_enumerate (by decide) (F.typeCall_enumerate_1 _) (F.newCall_enumerate_1 _) (fun obj => F.args_object_init_2 obj _) F.entry_enumerate_new
    (meets_enum0 B) ⟨h1, ?_⟩
  have hz : (s.heap.push o).objs.size = s.heap.objs.size + 1 := Heap.size_push ..
  show _ ∧ _
  rw [hz]
  have he : IsEnum ((s.heap.push o).push { cls := .type "enumerate", data := .fields #[.none, .bool false, .ref s.heap.objs.size, rawInt 0, .none, .none] }) (s.heap.objs.size + 1) s.heap.objs.size 0 .none := by
    have := Heap.get?_push_size (s.heap.push o) (o := { cls := .type "enumerate", data := .fields #[.none, .bool false, .ref s.heap.objs.size, rawInt 0, .none, .none] }) rfl
    rw [hz] at this; exact this
  refine ⟨⟨_, he, rfl⟩, h _ he (Heap.get?_push_of_some _ (Heap.get?_push_size _ B.free)) (by rw [Heap.size_push, hz]) fun b o x => Heap.get?_push_of_some _ (Heap.get?_push_of_some _ x)⟩
def iEnumT (K : PySem.W.Frag) (ta : TA) : TI := fun σ H R => ta σ H fun vs H1 => ∃ a xs, vs = [.ref a] ∧ SqT K H1 a xs ∧ R (Itq K a xs) H1
theorem pi_enumT {X : Cx} {e : Expr} {ta : TA} {p pos tpos : Pos} {elts : List Expr} {kk : Nat} (hg : Gl X "enumerate") (hm : X.mg "enumerate" = none) (ha : PA X [e] ta) (hs : starEach [e] X.env = [(false, eval e X.env)] := by rfl) :
    PI X (.Tuple elts kk tpos) (.Call (.Name "enumerate" p) [e] [] pos) (iEnumT X.K ta) := by
  refine ⟨fun pins s σ H R I h => ?_⟩
  refine Call_ (ld_blt I hg hm boot_enumerate (PyProof.Rows.callWith_type1 (thn (ha.run pos pins s σ H _ I h) fun us s1 ⟨vs, H1, I1, r1, q1⟩ => ?_) hs rfl))
  obtain ⟨a, xs, ex, hq, q⟩ := q1
  subst ex
  cases r1 with
  | cons r rr =>
    cases rr
    cases r
    obtain ⟨its, rv, p', hz⟩ := I1.tuple hq
    have hal : a < s1.heap.objs.size := by obtain ⟨_, q, _⟩ := id p'; exact Heap.lt_size q
    refine enum_begins0 (begins_tuple a its.toArray) p' fun h' he hit hsz hk => wpAny_pyIter_enum he ?_
    have I2 : Inv X pins σ H1 { s1 with heap := h' } := I1.kept (t' := s1.toks) hk
    refine ⟨s1.heap.objs.size + 1, [s1.heap.objs.size + 1, s1.heap.objs.size], _, _, H1, rfl, I2, turn_enumT a (s1.heap.objs.size + 1) s1.heap.objs.size xs, ⟨⟨.none, he⟩, ⟨_, hit, rfl, rfl⟩, Nat.succ_ne_self _, Nat.ne_of_lt hal, Nat.ne_of_lt (Nat.lt_succ_of_lt hal)⟩, fun b hb => ?_, q⟩
    have e' : b = s1.heap.objs.size + 1 ∨ b = s1.heap.objs.size := by simpa using hb
    have hle : s1.heap.objs.size ≤ b := by
      rcases e' with z | z
      · rw [z]; exact Nat.le_add_right _ _
      · rw [z]; exact Nat.le_refl _
    exact I1.fpOk hle (I1.hok.fresh hle)
theorem for_enumT {K : PySem.W.Frag} {a : Addr} {xs : List V} {g : TG} {tb : TS} {D : Ends} {σ : L2.St} {H : Hp} (Pv : Nat → L2.St → Hp → Prop) (h0 : Pv 0 σ H) (hl : ∀ i σ H, i ≤ xs.length → Pv i σ H → SqT K H a xs)
    (hs : ∀ i x σ H T, xs[i]? = some x → Pv i σ H → H T = none → g (.ref T) σ (upd H T (.tup [.int (i : Nat), x])) fun σ2 H2 => tb { D with nx := Pv (i + 1), ct := Pv (i + 1), bk := D.nx } σ2 H2) (hd : ∀ σ H, Pv xs.length σ H → D.nx σ H) :
    ∃ W : Nat → Nat → L2.St → Hp → Prop, (∃ m, W 0 m σ H) ∧ ∀ i m σ H, W i m σ H →
      ((Itq K a xs).stop i H ∧ D.nx σ H) ∨ ((Itq K a xs).go i H ∧ ∃ N : L2.St → Hp → Prop, (∀ σ' H', N σ' H' → ∃ m', m' < m ∧ W (i + 1) m' σ' H') ∧ ∀ x H', (Itq K a xs).yld i H x H' → g x σ H' fun σ2 H2 => tb { D with nx := N, ct := N, bk := D.nx } σ2 H2) := by
  refine ⟨fun i m σ H => m = xs.length - i ∧ i ≤ xs.length ∧ Pv i σ H, ⟨xs.length, by simp, Nat.zero_le _, h0⟩, ?_⟩
  rintro i m σ H ⟨rfl, hi, p⟩
  by_cases hlt : i < xs.length
  · refine .inr ⟨⟨hl i σ H hi p, hlt⟩, Pv (i + 1), fun σ' H' p' => ⟨xs.length - (i + 1), by omega, rfl, hlt, p'⟩, fun x H' y => ?_⟩
    obtain ⟨T, x, rfl, hT, rfl, hx⟩ := y
    exact hs i x σ H T hx p hT
  · have e : i = xs.length := by omega
    exact .inl ⟨⟨hl i σ H hi p, e⟩, hd _ _ (e ▸ p)⟩
theorem for_enumL {K : PySem.W.Frag} {a : Addr} {xs : List V} {g : TG} {tb : TS} {D : Ends} {σ : L2.St} {H : Hp} (Pv : Nat → L2.St → Hp → Prop) (h0 : Pv 0 σ H) (hl : ∀ i σ H, i ≤ xs.length → Pv i σ H → SqL K H a xs)
    (hs : ∀ i x σ H T, xs[i]? = some x → Pv i σ H → H T = none → g (.ref T) σ (upd H T (.tup [.int (i : Nat), x])) fun σ2 H2 => tb { D with nx := Pv (i + 1), ct := Pv (i + 1), bk := D.nx } σ2 H2) (hd : ∀ σ H, Pv xs.length σ H → D.nx σ H) :
    ∃ W : Nat → Nat → L2.St → Hp → Prop, (∃ m, W 0 m σ H) ∧ ∀ i m σ H, W i m σ H →
      ((Ite K a).stop i H ∧ D.nx σ H) ∨ ((Ite K a).go i H ∧ ∃ N : L2.St → Hp → Prop, (∀ σ' H', N σ' H' → ∃ m', m' < m ∧ W (i + 1) m' σ' H') ∧ ∀ x H', (Ite K a).yld i H x H' → g x σ H' fun σ2 H2 => tb { D with nx := N, ct := N, bk := D.nx } σ2 H2) := by
  refine ⟨fun i m σ H => m = xs.length - i ∧ i ≤ xs.length ∧ Pv i σ H, ⟨xs.length, by simp, Nat.zero_le _, h0⟩, ?_⟩
  rintro i m σ H ⟨rfl, hi, p⟩
  have q := hl i σ H hi p
  by_cases hlt : i < xs.length
  · refine .inr ⟨⟨xs, _, q, List.getElem?_eq_getElem hlt⟩, Pv (i + 1), fun σ' H' p' => ⟨xs.length - (i + 1), by omega, rfl, hlt, p'⟩, fun x H' y => ?_⟩
    obtain ⟨T, x, rfl, hT, rfl, hx⟩ := y
    exact hs i x σ H T (hx xs q) p hT
  · have e : i = xs.length := by omega
    exact .inl ⟨⟨xs, q, by omega⟩, hd _ _ (e ▸ p)⟩
/-! ### x + y by an own __add__, both of one class -/
section
variable {X : Cx} {CX : CXT} {C f : Addr} {fd : FuncData} {ps : List Str} {n : Nat} {sp : Sp} {E : XK}
def rAddOwn (C : Addr) (sp : Sp) (E : XK) : R2 := fun x y H Q => ∃ a b dx fs dy gs, x = .ref a ∧ y = .ref b ∧ H a = some (.ins C dx fs) ∧ H b = some (.ins C dy gs) ∧ sp [.ref a, .ref b] H Q E
theorem op_addOwn (hs : PySem.W.findIn X.K (.ref C) "__add__" = some (some (.ref f))) (hf : PySem.W.isFn X.K (.ref f) = true) (hc : PySem.W.selfFirst X.K C = true) (F : FnOk X.prog X.w X.K X.mg X.base CX n f fd ps sp) (hb : Binds X.K fd ps []) (hr : Room n X.A) (hx : Passes CX X E) :
    OpR X (binaryOp .Add) (rAddOwn C sp E) := by
  intro pins s σ H x y v u Q I rx ry h
  obtain ⟨a, b, dx, fs, dy, gs, rfl, rfl, ha, hb2, q⟩ := h
  cases (show v = Value.ref a from rx)
  cases (show u = Value.ref b from ry)
  obtain ⟨mA, J, _⟩ := ins_get I.hok ha
  obtain ⟨od, J, _⟩ := J.look
  obtain ⟨mB, J', _⟩ := ins_get I.hok hb2
  obtain ⟨od', J', _⟩ := J'.look
  obtain ⟨m, hF⟩ := I.fr
  refine PySem.W.binop_K hF I.ok.mod.kin J J'.type hc hs hf (wpAny_mono (wpAny_call (run_ok (us := [.ref a, .ref b]) (ws := [.ref a, .ref b]) F hb hr I.env0 hx I (.cons rfl (.cons rfl .nil)) q)) (fun r s' z => ?_) fun _ _ y => y)
  obtain ⟨z', H', I', rz, qz⟩ := z
  have ok : PySem.W.CmpBack (EP X pins σ Q) r s' := by
    cases r <;> first | exact ⟨z', H', I', rz, qz⟩ | (exfalso; cases z' <;> first | (obtain ⟨_, e⟩ := rz; cases e; done) | (cases rz; done))
  exact ok
end
end L2.Wk
/-! an own error over IndexError: its first field; x += y by an own __add__ -/
namespace PySem.LowI
open PySem PySem.Spec PySem.W Builtin Builtin.ObjectAttr
def tailI : List Value := [.type "IndexError", .type "LookupError", .type "Exception", .type "BaseException", .type "object"]
section
variable {prog : Program} {w : World} {A : Around} {E : Value → Shared → Prop} {R : Result → Shared → Prop} {hp : Heap} {g : Array GenState} {d : Drawn} {t : Nat} {os : OsState}
theorem exc_osaI {K : W.Frag} {name : Str} {tk : Tok} {v : Value} {x C : Addr} {fv : Array Value} {cd : ClassData}
    (X : K.In hp) (hx : hp.get? x = some { cls := .ref C, data := .fields fv }) (hcd : W.clsIn K C = some cd) (hm : cd.mro = .ref C :: tailI) (hh : cd.hasDict = true) (ha : W.findIn K (.ref C) name = some none)
    (hq : ∀ h' tk' dx, (∀ b o, b ≠ x → hp.get? b = some o → h'.get? b = some o) → hp.objs.size ≤ dx → dx ≠ x → h'.get? x = some { cls := .ref C, dict := some dx, data := .fields fv } →
      h'.Ns1 dx (fun y => if y = name then some v else none) → R (.ok (.ret .none)) ⟨h', g, d, tk', os⟩) :
    codeAny (model prog w) A (.call (.builtin "object.__setattr__") ⟨[.ref x, .str name tk, v], []⟩) R ⟨hp, g, d, t, os⟩ := by
  have I : W.InstAt hp x { cls := .ref C, data := .fields fv } C none := ⟨hx, rfl, rfl, trivial⟩
  have hxs : x ≠ hp.objs.size := Nat.ne_of_lt (Heap.lt_size hx)
  have ov : W.excOver K C tailI = true := by
    unfold W.excOver
    rw [hcd, Option.any_some, hm]
    show (C == C && W.excTail tailI tailI) = true
    rw [beq_self_eq_true, Bool.true_and]
    decide +kernel
  have tkr : W.takerIn K C name = some none := by
    unfold W.takerIn
    rw [ha]
    rfl
  refine W.osa_openX (C := C) (s := ⟨hp, g, d, t, os⟩) (bmB := tailI) F.store_IndexError X I ov tkr fun bb => ?_
  show wpAny _ _ (storeInOwnDict (.ref x) (.ref C) (.str name tk) name v bb) _ _ _
  have hcls : W.Looks (model prog w) hp (classData C) cd := W.looks_clsIn X hcd
  obtain ⟨nm, bs, mro, ns, qn, hd, sn, sb, ab, col, del⟩ := cd
  dsimp only at hh
  subst hh
  unfold storeInOwnDict ownDictForStores
  repeat (first | with_reducible refine PX.store_in_new ?_ ?_ | with_reducible refine wpAny_loadPart_at hx ?_ | with_reducible refine hcls.at ?_ | wp_step)
  · exact ⟨_, #[], _, (Heap.get?_update_ne _ _ _ _ hxs.symm).trans (Heap.get?_push_at rfl rfl), rfl, fun e he => absurd he (by simp), fun _ => rfl⟩
  · intro h' tk' hn' hs
    have hx1 : (hp.push { cls := .type "dict", data := .dict #[] }).get? x = some { cls := .ref C, data := .fields fv } := Heap.get?_push_of_some _ hx
    refine hq h' tk' hp.objs.size (fun b o hb ho => ?_) (Nat.le_refl _) hxs.symm ?_ hn'
    · exact (hs.2 b (Nat.ne_of_lt (Heap.lt_size ho))).trans ((Heap.get?_update_ne _ _ _ _ hb).trans (Heap.get?_push_of_some _ ho))
    · exact (hs.2 x hxs).trans (Heap.get?_update_self _ hx1 rfl)
end
end PySem.LowI
namespace PySem.W
section
variable {prog : Program} {w : World} {A : Around} {E : Value → Shared → Prop} {s : Shared} {K : Frag} {x C f : Addr} {ox : Obj} {od : Option Obj}
theorem noIadd {h : Heap} {cd : ClassData} (X : K.In h) (hcd : clsIn K C = some cd) (hm : cd.mro = [.ref C, .type "object"]) (h1 : findIn K (.ref C) "__iadd__" = some none) (h2 : findIn K (.type "object") "__iadd__" = some none) :
    Looks (model prog w) h (fillsInplaceSlot (.ref C) "add" true) false := by
  intro A Q E s k q
  have Lm : Looks (model prog w) h (mroOf (.ref C)) cd.mro := (looks_clsIn X hcd).andThen (f := fun cd => pure cd.mro) .now
  have Lm' := Lm.keeps k
  obtain ⟨hh, g, d, tt, os⟩ := s
  have X' : K.In hh := X.keeps k
  have L1 : Looks (model prog w) hh (typeLookup (.ref C) (dunderI "add")) none := looks_findIn X' h1
  have L2 : Looks (model prog w) hh (typeLookup (.type "object") (dunderI "add")) none := looks_findIn X' h2
  unfold fillsInplaceSlot
  refine wpAny_bind (Lm'.at ?_)
  rw [hm, List.anyM_cons]
  refine wpAny_bind ?_
  repeat lk
  exact q
theorem inplaceAdd_K {b : Value} {cd : ClassData} {Q : Value → Shared → Prop} (X : K.In s.heap) (I : InstAt s.heap x ox C od) (hb : Looks (model prog w) s.heap (typeOf b) (.ref C)) (hcd : clsIn K C = some cd) (hm : cd.mro = [.ref C, .type "object"]) (h1 : findIn K (.ref C) "__iadd__" = some none) (h2 : findIn K (.type "object") "__iadd__" = some none)
    (hs : findIn K (.ref C) "__add__" = some (some (.ref f))) (hf : isFn K (.ref f) = true)
    (h : wpAny (model prog w) A (call (.ref f) [.ref x, b]) (CmpBack Q) E s) : wpAny (model prog w) A (inplaceOp .Add (.ref x) b) Q E s := by
  have one := ksp_try X I hs hf h
  obtain ⟨hh, g, d, tt, os⟩ := s
  have L1 : Looks (model prog w) hh (typeOf (.ref x)) (.ref C) := I.type
  have L2 : Looks (model prog w) hh (fillsInplaceSlot (.ref C) "add" true) false := noIadd X hcd hm h1 h2
  have L3 : Looks (model prog w) hh (fillsNumberSlot (.ref C) "add") true := fills_K X hcd hm hs
  unfold inplaceOp
  refine wpAny_holding ?_
  simp only [show (Operator.Add).info.2 = "add" from rfl, show (Operator.Add == Operator.Add) = true from rfl]
  ksp_lk
  simp only [beq_self_eq_true, if_true]
  ksp_lk
  refine wpAny_mono one (fun r s' hr' => ?_) fun _ _ e => e
  obtain ⟨v, rfl, hq⟩ := hr'
  ksp_lk
  exact hq
end
end PySem.W
namespace L2.Wk
open PySem PySem.Spec PyProof.Rows
section
variable {X : Cx} {CX : CXT} {C f : Addr} {fd : FuncData} {ps : List Str} {n : Nat} {sp : Sp} {E : XK} {cd : ClassData}
theorem ip_addOwn (hcd : PySem.W.clsIn X.K C = some cd) (hm : cd.mro = [.ref C, .type "object"]) (h1 : PySem.W.findIn X.K (.ref C) "__iadd__" = some none) (hs : PySem.W.findIn X.K (.ref C) "__add__" = some (some (.ref f))) (hf : PySem.W.isFn X.K (.ref f) = true) (F : FnOk X.prog X.w X.K X.mg X.base CX n f fd ps sp) (hb : Binds X.K fd ps []) (hr : Room n X.A) (hx : Passes CX X E) :
    PIp X .Add (rAddOwn C sp E) := by
  intro pins s σ H x y v u Q I rx ry h
  obtain ⟨a, b, dx, fs, dy, gs, rfl, rfl, ha, hb2, q⟩ := h
  cases (show v = Value.ref a from rx)
  cases (show u = Value.ref b from ry)
  obtain ⟨mA, J, _⟩ := ins_get I.hok ha
  obtain ⟨od, J, _⟩ := J.look
  obtain ⟨mB, J', _⟩ := ins_get I.hok hb2
  obtain ⟨od', J', _⟩ := J'.look
  have h2 : PySem.W.findIn X.K (.type "object") "__iadd__" = some none := by kernel_rfl
  refine PySem.W.inplaceAdd_K I.kIn J J'.type hcd hm h1 h2 hs hf (wpAny_mono (wpAny_call (run_ok (us := [.ref a, .ref b]) (ws := [.ref a, .ref b]) F hb hr I.env0 hx I (.cons rfl (.cons rfl .nil)) q)) (fun r s' z => ?_) fun _ _ y => y)
  obtain ⟨z', H', I', rz, qz⟩ := z
  have ok : PySem.W.CmpBack (EP X pins σ Q) r s' := by
    cases r <;> first | exact ⟨z', H', I', rz, qz⟩ | (exfalso; cases z' <;> first | (obtain ⟨_, e⟩ := rz; cases e; done) | (cases rz; done))
  exact ok
end
section
variable {X : Cx} {CX : CXT} {C f : Addr} {fd : FuncData} {ps : List Str} {n : Nat} {sp : Sp} {E : L2.St → XK}
/-- run_ok, where what is let out is met at the slots -/
theorem run_okS {pins : List (Addr × Obj)} {σ : L2.St} {H : Hp} {s : Shared} {A : Around} {Q : VK} {us : List Value} {ws : List V} (F : FnOk X.prog X.w X.K X.mg X.base CX n f fd ps sp) (hb : Binds X.K fd ps []) (hr : Room n A) (e0 : Env0 X.prog X.w X.K X.mg X.base A X.stack s H) (hx : PassesAt CX X σ (E σ)) (I : Inv X pins σ H s) (r : Vals ws us) (h : sp ws H Q (E σ)) :
    codeAny (model X.prog X.w) A (.call (.ref f) ⟨us, []⟩) (fun r s' => match r with | .ok (.ret v) => EP X pins σ Q v s' | .ok _ => False | .error e => X.xe e s') s := by
  have hl := F.len _ _ _ _ h
  have b := hb s us I.kIn (by rw [List.append_nil, ← r.length]; exact hl)
  rw [List.append_nil] at b
  refine codeAny_mono (F.run A X.stack s H ⟨us, []⟩ us ws Q (E σ) hr e0 b r h) fun r s' hq => ?_
  rcases r with e | fl
  · exact hx pins H s e s' I hq
  cases fl <;> first | exact I.after hq | exact False.elim hq
def tMethS (C : Addr) (m : Str) (sp : Sp) (E : L2.St → XK) (ta : TE) (t : TA) : TE := fun σ H Q => ta σ H fun x H1 => ∃ a dx fs, x = .ref a ∧ H1 a = some (.ins C dx fs) ∧ fs.lookup m = none ∧ t σ H1 fun vs H2 => sp (x :: vs) H2 Q (E σ)
theorem pe_methE {m : Str} {o e : Expr} {es : List Expr} {ta : TE} {t : TA} {pos apos : Pos} {pl : Sem Bool} (he : PE X o ta) (c : Cls X.K C) (hm : Meth X.K C m f) (F : FnOk X.prog X.w X.K X.mg X.base CX n f fd ps sp) (hr : Room n X.A) (hb : Binds X.K fd ps []) (hx : ∀ σ, PassesAt CX X σ (E σ)) (ha : PA X (e :: es) t)
    (hst : starEach (e :: es) X.env = (false, eval e X.env) :: starEach es X.env := by rfl) (hpl : (backTo pos (starEach es X.env)).any (·.1) = false := by rfl)
    (ht : eval (.Call (.Attribute o m apos) (e :: es) [] pos) X.env = (do
      let ov ← eval o X.env
      standAt apos.atName
      let (f, first) ← holding [ov] (getMethod ov m pl)
      callWith pos f first (backTo pos (starEach (e :: es) X.env)) (backToKw pos (keywordEach [] X.env))) := by rfl) :
    PE X (.Call (.Attribute o m apos) (e :: es) [] pos) (tMethS C m sp E ta t) := by
  refine ⟨fun pins s σ H Q I h => ?_⟩
  refine PySem.W.methodCall_KW (pl := pl) (thn (he.run pins s σ H _ I h) fun u s1 ⟨x, H1, I1, rx, a, dx, fs, ex, ea, l, q⟩ => ?_) ht
  subst ex
  cases (show u = Value.ref a from rx)
  refine getmeth_ok I1 ea c hm l (PySem.W.callWith_K (first := [.ref a]) (h₀ := X.base) I.ok.mod.kin hm.kp (thn (ha.run pos pins s1 σ H1 _ I1 q) fun us s2 ⟨vs, H2, I2, r, q2⟩ => ⟨I2.kIn, ?_⟩) hst hpl)
  exact run_fnS (us := .ref a :: us) (vs := .ref a :: vs) F hr hb (hx σ) I2 (.cons rfl r) q2
def tIxOwnS (C : Addr) (sp : Sp) (E : L2.St → XK) (ta tb : TE) : TE := fun σ H Q => ta σ H fun x H1 => tb σ H1 fun y H2 => ∃ a dx fs, x = .ref a ∧ H2 a = some (.ins C dx fs) ∧ sp [.ref a, y] H2 Q (E σ)
theorem pe_ixOwnE {a b : Expr} {pos : Pos} {ta tb : TE} (hs : PySem.W.findIn X.K (.ref C) "__getitem__" = some (some (.ref f))) (hf : PySem.W.isFn X.K (.ref f) = true) (hfn : PySem.W.fnIn X.K f = true) (F : FnOk X.prog X.w X.K X.mg X.base CX n f fd ps sp) (hb : Binds X.K fd ps []) (hr : Room (n + 1) X.A) (hx : ∀ σ, PassesAt CX X σ (E σ))
    (ha : PE X a ta) (hb2 : PE X b tb) (hsl : ∀ v u, subscripted b true v u = runValue (.builtin "lifetime.subscript" ⟨[v, u], []⟩) := by intro _ _; rfl) : PE X (.Subscript a b pos) (tIxOwnS C sp E ta tb) := by
  refine ⟨fun pins s σ H Q I h => ?_⟩
  refine Subscript_ (thn (ha.run pins s σ H _ I h) fun v s1 ⟨x, H1, I1, rx, q1⟩ => thn (hb2.run pins s1 σ H1 _ I1 q1) fun u s2 ⟨y, H2, I2, ry, o, dx, fs, ex, ho, q⟩ => ?_)
  subst ex
  cases (show v = Value.ref o from rx)
  obtain ⟨mA, J, _⟩ := ins_get I2.hok ho
  obtain ⟨od, J, _⟩ := J.look
  obtain ⟨m, hF⟩ := I2.fr
  exact PySem.W.sub_K hF I2.ok.mod.kin J hs hfn hf (wpAny_call (run_okS (us := [.ref o, u]) (ws := [.ref o, y]) F hb (Room.in1 hr) I2.env0.in1 (hx σ) I2 (.cons rfl (.cons ry .nil)) q)) (hsl _ _)
end
end L2.Wk
/-! two sets of the same texts are equal -/
namespace L2.Wk
open PySem PySem.Spec PyProof.Rows
theorem entry_set_ne : entryFor table "set.__ne__" = some Builtin.«frozenset.__ne__» := entryFor_alias (id' := "frozenset.__ne__") (by kernel_rfl) rfl (by decide +kernel) (by kernel_rfl)
section
variable {prog : Program} {w : World} {A : Around} {E : Value → Shared → Prop} {s : Shared} {a b : Addr} {S : Str → Bool} {n : Nat}
theorem set_ne_body {R : Result → Shared → Prop} (ha : SetS w s.heap a S n) (hb : SetS w s.heap b S n) (k : R (.ok (.ret (.bool false))) s) :
    wpAny (model prog w) A.in1 (Builtin.«frozenset.__ne__» ⟨[.ref a, .ref b], []⟩) (GQ.FinOf prog w A R) (fun e s' => R (.error e) s') s := by
  obtain ⟨o, es, ep, t, ho, hex, hd, g, nd, hm, hbn, hf, hn, hr, hl⟩ := id ha
  obtain ⟨o2, es2, ep2, t2, ho2, hex2, hd2, g2, nd2, hm2, hbn2, hf2, hn2, hr2, hl2⟩ := id hb
  have f1 : isSubtype (.type "set") (.type "set") = pure true := by rw [isSubtype_type]; kernel_rfl
  have f2 : isSubtype (.type "set") (.type "frozenset") = pure false := by rw [isSubtype_type]; kernel_rfl
  have TA : s.TypeIs (.ref a) "set" := ⟨o, ho, hex.1⟩
  have TB : s.TypeIs (.ref b) "set" := ⟨o2, ho2, hex2.1⟩
  refine wpAny_bind (m := Builtin.Frozenset.slot1 "__ne__" ⟨[.ref a, .ref b], []⟩) ?_
  unfold Builtin.Frozenset.slot1
  obtain ⟨hp, gg, dd, tk, os⟩ := s
  dsimp only at ho ho2
  have hS2 := SetS.setOf (P := prog) hb
  wp_walk using wpAny_setState_of ho hd hf, wpAny_setState_of ho2 hd2 hf2, wpAny_loadPart' ho, wpAny_loadPart' ho2, wpAny_forIn_list _ (fun (rest : List (Int × Value)) (b : Option (List (Int × Value)) × Unit) s' => b = (none, ()) ∧ s' = ⟨hp, gg, dd, tk, os⟩ ∧ ∀ e ∈ rest, GoodS w e) _, wpAny_forIn_list _ (fun (rest : List (Int × Value)) (b : Option Bool × Unit) s' => b = (none, ()) ∧ s' = ⟨hp, gg, dd, tk, os⟩ ∧ ∀ e ∈ rest, GoodS w e ∧ S (keyS e) = true) _
  case turn =>
    rintro ⟨h0, x0⟩ rest b1 s1 ⟨rfl, rfl, hg⟩
    obtain ⟨k0, tk0, e1, e2⟩ := hg (h0, x0) (List.mem_cons_self ..)
    dsimp only at e1 e2
    subst e1
    refine wpAny_bind (m := Builtin.Frozenset.quietEq (Value.str k0 tk0)) (wpAny_pure ?_)
    exact wpAny_pure ⟨rfl, rfl, fun e he => hg e (List.mem_cons_of_mem _ he)⟩
  case h =>
    refine ⟨rfl, rfl, fun e he => ?_⟩
    rcases List.mem_append.mp he with he | he
    · exact g e he
    · exact g2 e he
  case fin =>
    rintro b1 s1 ⟨rfl, rfl, -⟩
    refine wpAny_pure ?_
    refine wpAny_bind ?_
    refine wpAny_forIn_list _ (fun (rest : List (Int × Value)) (b : Option Bool × Unit) s' => b = (none, ()) ∧ s' = ⟨hp, gg, dd, tk, os⟩ ∧ ∀ e ∈ rest, GoodS w e ∧ S (keyS e) = true) _ ?_ ?_ _ _ ⟨rfl, rfl, fun e he => ⟨g e he, (hm _).mpr (List.mem_map_of_mem he)⟩⟩
    · rintro ⟨h0, x0⟩ rest b1 s1 ⟨rfl, rfl, hg⟩
      obtain ⟨⟨k0, tk0, e1, e2⟩, hk⟩ := hg (h0, x0) (List.mem_cons_self ..)
      dsimp only at e1 e2
      subst e1
      subst e2
      have hk0 : S k0 = true := hk
      refine wpAny_bind (wpAny_holding (wpAny_setFind_of (knd := PySem.strKind prog w) (k := k0) (PySem.strKind_is prog w k0 tk0) rfl hS2 fun r hr => ?_))
      obtain ⟨i, rfl⟩ : ∃ i, r = some i := Option.isSome_iff_exists.mp (hr.trans hk0)
      wp_walk using wpAny_setState_of ho hd hf
      exact ⟨rfl, rfl, fun e he => hg e (List.mem_cons_of_mem _ he)⟩
    · rintro b1 s1 ⟨rfl, rfl, -⟩
      wp_walk
      exact k
theorem rc_set_ne {Q : Value → Shared → Prop} (hu : A.units < cLine) (ha : SetS w s.heap a S n) (hb : SetS w s.heap b S n) (k : Q (.bool false) s) : wpAny (model prog w) A (richCompare .NotEq (.ref a) (.ref b)) Q E s := by
  obtain ⟨o, es, ep, t, ho, hex, hd, _⟩ := id ha
  obtain ⟨o2, es2, ep2, t2, ho2, hex2, hd2, _⟩ := id hb
  refine wpAny_richCompare_same_room (op := .NotEq) ⟨_, ho, hex.1⟩ ⟨_, ho2, hex2.1⟩ F.slot_set_ne (GQ.call_here F.slot_set_ne ⟨_, ho, hex.1⟩ entry_set_ne (F.args_set_ne_2 _ _) ?_) hu
  exact set_ne_body (R := wants (fun v s' => v ≠ .notImplemented ∧ Q v s') E) ha hb ⟨(fun x => nomatch x), k⟩
theorem SetS.card {h : Heap} {S' : Str → Bool} {n' : Nat} (ha : SetS w h a S n) (hb : SetS w h b S' n') (e : ∀ k, S k = S' k) : n = n' := by
  obtain ⟨o, es, ep, t, ho, hex, hd, g, nd, hm, hbn, hf, hn, _⟩ := ha
  obtain ⟨o2, es2, ep2, t2, ho2, hex2, hd2, g2, nd2, hm2, hbn2, hf2, hn2, _⟩ := hb
  have l1 := few_len nd fun k hk => (hm2 k).mp (by rw [← e]; exact (hm k).mpr hk)
  have l2 := few_len nd2 fun k hk => (hm k).mp (by rw [e]; exact (hm2 k).mpr hk)
  rw [List.length_map, List.length_map, Array.length_toList, Array.length_toList] at l1 l2
  omega
end
section
variable {X : Cx}
def rSetNe (w : World) : R2 := fun x y H Q => ∃ (a b : Addr) (S S' : Str → Bool) (n n' : Nat), x = .ref a ∧ y = .ref b ∧ H a = some (SetT w a S n) ∧ H b = some (SetT w b S' n') ∧ (∀ k, S k = S' k) ∧ Q (.bl false) H
theorem op_setNe (hu : X.A.units < cLine) : OpR X (compareOp .NotEq) (rSetNe X.w) := by
  intro pins s σ H x y v u Q I rx ry hq
  obtain ⟨a, b, S, S', n, n', rfl, rfl, ha, hb, e, q⟩ := hq
  cases (show v = Value.ref a from rx)
  cases (show u = Value.ref b from ry)
  have R1 : SetS X.w s.heap a S n := (I.hok a _ ha).1
  have R2 : SetS X.w s.heap b S' n' := (I.hok b _ hb).1
  have en := SetS.card R1 R2 e
  subst en
  exact rc_set_ne hu R1 (R2.congr e) ⟨.bl false, H, I, rfl, q⟩
end
end L2.Wk
namespace L2.Wk
open PySem PySem.Spec PyProof.Rows
/-! ### a classmethod called off its class in a try -/
section
variable {X : Cx} {CX : CXT} {k : Nat} {C p g : Addr} {mc : Value} {sp : Sp} {E : L2.St → XK} {o e : Expr} {es : List Expr} {m : Str} {pos apos : Pos} {ta : TE} {t : TA} {pl : Sem Bool}
theorem run_fnRS {pins : List (Addr × Obj)} {σ : L2.St} {H : Hp} {s : Shared} {f : Addr} {Q : VK} {us : List Value} {vs : List V} (F : FnR X.prog X.w X.K X.mg X.base CX k f sp) (hr : Room k X.A) (hx : PassesAt CX X σ (E σ)) (I : Inv X pins σ H s) (r : Vals vs us) (h : sp vs H Q (E σ)) :
    codeAny (model X.prog X.w) X.A (.call (.ref f) ⟨us, []⟩) (fun r s' => match r with | .ok (.ret v) => EP X pins σ Q v s' | .ok _ => False | .error e => X.xe e s') s := by
  refine codeAny_mono (F X.A X.stack s H us vs Q (E σ) hr I.env0 r h) fun r s' hq => ?_
  cases r with
  | error e => exact hx pins H s e s' I hq
  | ok fl =>
    cases fl with
    | ret u => exact I.after hq
    | next => exact False.elim hq
    | brk => exact False.elim hq
    | cont => exact False.elim hq
theorem run_cmS {pins : List (Addr × Obj)} {σ : L2.St} {H : Hp} {s : Shared} {q : Addr} {Q : VK} {us : List Value} {vs : List V} (F : FnR X.prog X.w X.K X.mg X.base CX k g sp) (hr : Room k X.A) (hx : PassesAt CX X σ (E σ)) (I : Inv X ((q, PySem.W.methodObj (.ref g) (.ref C)) :: pins) σ H s)
    (r : Vals vs us) (h : sp (.ref C :: vs) H Q (E σ)) : wpAny (model X.prog X.w) X.A (call (.ref q) us) (EP X pins σ Q) X.xe s := by
  have z : wpAny (model X.prog X.w) X.A (call (.ref q) us) (EP X ((q, PySem.W.methodObj (.ref g) (.ref C)) :: pins) σ Q) X.xe s :=
    wpAny_call (PySem.W.method_call (ClX.pin_at I) (run_fnRS (us := .ref C :: us) (vs := .ref C :: vs) F hr hx I (.cons rfl r) h))
  exact thn z fun _ _ y => ClX.unpinE y
def tCMethS (C : Addr) (sp : Sp) (E : L2.St → XK) (ta : TE) (t : TA) : TE := fun σ H Q => ta σ H fun x H1 => x = .ref C ∧ t σ H1 fun vs H2 => sp (.ref C :: vs) H2 Q (E σ)
theorem pe_cmethS (he : PE X o ta) (r : ClX.CRead X.K C mc) (c : ClX.CMet X.K C mc m p g) (F : FnR X.prog X.w X.K X.mg X.base CX k g sp) (hr : Room k X.A) (hx : ∀ σ, PassesAt CX X σ (E σ)) (ha : PA X (e :: es) t)
    (hst : starEach (e :: es) X.env = (false, eval e X.env) :: starEach es X.env := by rfl) (hpl : (backTo pos (starEach es X.env)).any (·.1) = false := by rfl)
    (ht : eval (.Call (.Attribute o m apos) (e :: es) [] pos) X.env = (do
      let ov ← eval o X.env
      standAt apos.atName
      let (f, first) ← holding [ov] (getMethod ov m pl)
      callWith pos f first (backTo pos (starEach (e :: es) X.env)) (backToKw pos (keywordEach [] X.env))) := by rfl) :
    PE X (.Call (.Attribute o m apos) (e :: es) [] pos) (tCMethS C sp E ta t) := by
  refine ⟨fun pins s σ H Q I h => ?_⟩
  refine PySem.W.methodCall_KW (pl := pl) (thn (he.run pins s σ H _ I h) fun u s1 ⟨x, H1, I1, rx, ex, q⟩ => ?_) ht
  subst ex
  obtain rfl : u = Value.ref C := rx
  refine ClX.getmethcm_ok I1 r c fun s2 I2 => ?_
  refine ClX.callwith_cm I2 (ClX.base_none I1 (Nat.le_refl _)) c.fi (thn (ha.run pos _ s2 σ H1 _ I2 q) fun us s3 ⟨vs, H2, I3, rv, q2⟩ => ⟨⟨ClX.pin_at I3, I3.kIn⟩, ?_⟩) hst hpl
  exact run_cmS F hr (hx σ) I3 rv q2
end
/-! ### a written dict with text keys, asked within a comprehension -/
theorem op_notIn_kdK {X : Cx} {K : PySem.W.Frag} {w : World} {d : Addr} {es : Array DictEntry} {n : Nat} (h : X.K = K) (hw : X.w = w) (D : KDict K w d es n) : OpR X (compareOp .NotIn) (fun x y H Q => ∃ (z : Str) (r : Option Value), x = .str z ∧ y = .ref d ∧ PySem.W.nsIn K d z = some r ∧ Q (.bl (!r.isSome)) H) := by
  subst h
  subst hw
  exact op_notIn_kd D
theorem op_in_kdK {X : Cx} {K : PySem.W.Frag} {w : World} {d : Addr} {es : Array DictEntry} {n : Nat} (h : X.K = K) (hw : X.w = w) (D : KDict K w d es n) : OpR X (compareOp .In) (fun x y H Q => ∃ (z : Str) (r : Option Value), x = .str z ∧ y = .ref d ∧ PySem.W.nsIn K d z = some r ∧ Q (.bl r.isSome) H) := by
  subst h
  subst hw
  exact op_in_kd D
/-- what a written dict says of a text, read off its keys -/
theorem ns_miss {K : PySem.W.Frag} {d : Addr} {c : Value} {dd : Option Addr} {es : Array DictEntry} {n : Nat} {sl : Array (Option Value)} {ks : List (Str × Tok)} {z : Str} (hl : K.lookup d = some ⟨c, dd, .dict es n, sl⟩) (hk : es.toList.map (·.key) = ks.map fun p => Value.str p.1 p.2) (hz : z ∉ ks.map (·.1)) :
    PySem.W.nsIn K d z = some none := by
  have q : ∀ (l : List DictEntry) (ks : List (Str × Tok)), l.map (·.key) = ks.map (fun p => Value.str p.1 p.2) → z ∉ ks.map (·.1) → l.find? (·.key.isStr z) = none ∧ l.any (·.refKey) = false := by
    intro l
    induction l with
    | nil => intro ks _ _; exact ⟨rfl, rfl⟩
    | cons e l ih =>
      intro ks h hz
      cases ks with
      | nil => cases h
      | cons p ks =>
        rw [List.map_cons, List.map_cons] at h
        have h1 := (List.cons.inj h).1
        have h2 := (List.cons.inj h).2
        rw [List.map_cons] at hz
        have hz1 : z ≠ p.1 := fun e => hz (by rw [e]; exact List.mem_cons_self ..)
        obtain ⟨i1, i2⟩ := ih ks h2 fun m => hz (List.mem_cons_of_mem _ m)
        have e1 : e.key.isStr z = false := by
          rw [h1]
          cases hb : (Value.str p.1 p.2).isStr z with
          | false => rfl
          | true =>
            exfalso
            refine hz1 ?_
            have := hb
            unfold Value.isStr at this
            first
              | exact (beq_iff_eq.mp this).symm
              | exact beq_iff_eq.mp this
              | exact (of_decide_eq_true this).symm
              | exact of_decide_eq_true this
        have e2 : e.refKey = false := by
          unfold DictEntry.refKey
          rw [h1]
        refine ⟨by rw [List.find?_cons, e1]; exact i1, by rw [List.any_cons, e2, i2]; rfl⟩
  obtain ⟨q1, q2⟩ := q _ _ hk hz
  unfold PySem.W.nsIn
  rw [hl]
  dsimp only
  rw [q1]
  dsimp only
  rw [q2]
  rfl
end L2.Wk
namespace L2.Wk
open PySem PySem.Spec PyProof.Rows
/-- x is True, x is False: x any plain value or object -/
inductive Plain : V → Prop
  | non : Plain .non
  | bl (b : Bool) : Plain (.bl b)
  | int (i : Int) : Plain (.int i)
  | str (z : Str) : Plain (.str z)
  | ref (a : Addr) : Plain (.ref a)
def rIsBA : R2 := fun x y H Q => ∃ b : Bool, y = .bl b ∧ Plain x ∧ Q (.bl (decide (x = .bl b))) H
theorem op_isBlA {X : Cx} : OpR X (compareOp .Is) rIsBA := by
  intro pins s σ H x y v u Q I rx ry h
  obtain ⟨b, rfl, p, q⟩ := h
  cases (show u = Value.bool b from ry)
  cases p with
  | bl a =>
    cases (show v = Value.bool a from rx)
    by_cases e : a = b
    · subst e
      exact wpAny_is_self rfl ⟨.bl true, H, I, rfl, by simpa using q⟩
    · exact wpAny_is_other rfl (fun z => e (Value.bool.inj z)) ⟨.bl false, H, I, rfl, by simpa [e] using q⟩
  | non =>
    cases (show v = Value.none from rx)
    exact wpAny_is_other rfl (fun z => nomatch z) ⟨.bl false, H, I, rfl, by simpa using q⟩
  | int i =>
    obtain ⟨t, e⟩ := (show ∃ t, v = Value.int i t from rx)
    subst e
    exact wpAny_is_other rfl (fun z => nomatch z) ⟨.bl false, H, I, rfl, by simpa using q⟩
  | str z =>
    obtain ⟨t, e⟩ := (show ∃ t, v = Value.str z t from rx)
    subst e
    exact wpAny_is_other rfl (fun z => nomatch z) ⟨.bl false, H, I, rfl, by simpa using q⟩
  | ref a =>
    cases (show v = Value.ref a from rx)
    exact wpAny_is_other rfl (fun z => nomatch z) ⟨.bl false, H, I, rfl, by simpa using q⟩
/-- a comprehension over zip of two lists of one length -/
theorem lc_zipL {K : PySem.W.Frag} {a b : Addr} {xs ys : List V} {g : TG} {tt : TT} {te : TE} {vs : List Nat} {σ : L2.St} {H1 : Hp} {D : Addr} {Qd : Hp → Prop} (hl : xs.length = ys.length) (Pv : Nat → Hp → Prop) (h0 : Pv 0 (upd H1 D (.lst []))) (hq : ∀ i H, Pv i H → SqL K H a xs ∧ SqL K H b ys)
    (hs : ∀ i x y T H, xs[i]? = some x → ys[i]? = some y → Pv i H → H T = none → g (.ref T) (wipe σ vs) (upd H T (.tup [x, y])) fun σ2 H2 => wipe σ2 vs = wipe σ vs ∧ tt σ2 H2 fun b H3 =>
      if b = true then te σ2 H3 fun y H4 => ∃ acc, H4 D = some (.lst acc) ∧ acc.length < sizeLine ∧ Pv (i + 1) (upd H4 D (.lst (acc ++ [y]))) else Pv (i + 1) H3) (hd : ∀ H, Pv xs.length H → Qd H) :
    ∃ W : Nat → Nat → Hp → Prop, (∃ m, W 0 m (upd H1 D (.lst []))) ∧ ∀ i m H, W i m H →
      ((Itz K a b).stop i H ∧ Qd H) ∨ ((Itz K a b).go i H ∧ ∃ Nx : Hp → Prop, (∀ H', Nx H' → ∃ m', m' < m ∧ W (i + 1) m' H') ∧ ∀ x H', (Itz K a b).yld i H x H' → g x (wipe σ vs) H' fun σ2 H2 => wipe σ2 vs = wipe σ vs ∧ tt σ2 H2 fun b H3 =>
        if b = true then te σ2 H3 fun y H4 => ∃ acc, H4 D = some (.lst acc) ∧ acc.length < sizeLine ∧ Nx (upd H4 D (.lst (acc ++ [y]))) else Nx H3) := by
  refine ⟨fun i m H => m = xs.length - i ∧ i ≤ xs.length ∧ Pv i H, ⟨xs.length, by simp, Nat.zero_le _, h0⟩, ?_⟩
  rintro i m H ⟨rfl, hi, p⟩
  obtain ⟨qx, qy⟩ := hq i H p
  by_cases hlt : i < xs.length
  · have hx : xs[i]? = some xs[i] := List.getElem?_eq_getElem hlt
    have hlt2 : i < ys.length := by omega
    have hy : ys[i]? = some ys[i] := List.getElem?_eq_getElem hlt2
    refine .inr ⟨⟨xs, ys, _, _, qx, qy, hx, hy⟩, Pv (i + 1), fun H' p' => ⟨xs.length - (i + 1), by omega, rfl, hlt, p'⟩, fun v H' y => ?_⟩
    obtain ⟨T, x', y', rfl, hT, rfl, f1, f2⟩ := y
    exact hs i x' y' T H (f1 xs qx) (f2 ys qy) p hT
  · have e : i = xs.length := by omega
    subst e
    exact .inl ⟨⟨xs, ys, qx, qy, Or.inl (Nat.le_refl _)⟩, hd H p⟩
theorem fn_weak' {P : Program} {w : World} {K : PySem.W.Frag} {mg : Str → Option Value} {base : Heap} {CX : CXT} {k : Nat} {f : Addr} {fd : FuncData} {ps : List Str} {sp sp' : Sp} (F : FnOk P w K mg base CX k f fd ps sp) (h : ∀ vs H Q E, sp' vs H Q E → sp vs H Q E) : FnOk P w K mg base CX k f fd ps sp' :=
  ⟨fun vs H Q E q => F.len vs H Q E (h _ _ _ _ q), fun A outer s H args us vs Q E hr he hb hv q => F.run A outer s H args us vs Q E hr he hb hv (h _ _ _ _ q)⟩
end L2.Wk
namespace L2.Wk
open PySem PySem.Spec PyProof.Rows
/-! ### d.get(text, x), d a written dict with text keys -/
section
variable {X : Cx} {w : World} {K : PySem.W.Frag} {d : Addr} {es : Array DictEntry} {n : Nat} {pins : List (Addr × Obj)} {σ : L2.St} {H : Hp} {s : Shared} {A : Around} {E : Value → Shared → Prop}
theorem kd_get2 {Q : Value → Shared → Prop} {z : Str} {t : Tok} {r : Option Value} {f : Value} (D : KDict X.K X.w d es n) (I : Inv X pins σ H s) (e : PySem.W.nsIn X.K d z = some r) (h : ∀ tk, Q (r.getD f) { s with toks := tk }) :
    wpAny (model X.prog X.w) A (call (.builtin "dict.get") [.ref d, .str z t, f]) Q E s := by
  have m := PySem.W.mapOf_K (prog := X.prog) (w := X.w) I.kIn D.at_ D.lit
  refine call_meetsIn PySem.F.slot_dict_get m.typeIs PySem.F.entry_dict_get (PySem.F.args_dict_get_3 _ _ _) (meets_dict_get_default (strKind X.prog X.w) d (PySem.strKind_is X.prog X.w z t) D.low f) ⟨_, m, ?_⟩
  rw [PySem.W.find_K D.at_ e]
  exact h _
def tKGet2 (K : PySem.W.Frag) (d : Addr) (ty tx : TE) : TE := fun σ H Q => ty σ H fun y H2 => tx σ H2 fun z H3 => ∃ (k : Str) (r : Option Value) (v : V), y = .str k ∧ PySem.W.nsIn K d k = some r ∧ (∀ f, RelV z f → RelV v (r.getD f)) ∧ Q v H3
theorem pe_kget2 {o e f : Expr} {apos cpos : Pos} {ty tx : TE} (hK : X.K = K) (hw : X.w = w) (D : KDict K w d es n) (ho : PE X o (tC (.ref d))) (he : PE X e ty) (hf : PE X f tx) (m : M2 X o "get" apos e f cpos) : PE X (.Call (.Attribute o "get" apos) [e, f] [] cpos) (tKGet2 K d ty tx) := by
  subst hK
  subst hw
  refine ⟨fun pins s σ H Q I h => ?_⟩
  refine wpAny_Call_method m.base m.few m.line PySem.F.plainAttrs_dict PySem.F.slot_dict_get PySem.F.type_dict_get (thn (ho.run pins s σ H (fun x H1 => x = .ref d ∧ tKGet2 X.K d ty tx σ H1 Q) I ⟨rfl, h⟩) fun u s1 ⟨x, H1, I1, rx, ex, q1⟩ => ?_)
  subst ex
  obtain rfl : u = Value.ref d := rx
  refine ⟨kd_type D I1, ?_, ?_⟩
  · intro b hb
    cases hb
    exact ⟨_, I1.kIn _ _ D.at_, rfl⟩
  rw [m.trees]
  refine Calls.callWith_builtin rfl (Calls.evalArgs_plain (Calls.spliced_cons (thn (he.run pins s1 σ H1 _ I1 q1) fun iv s2 ⟨y, H2, I2, ry, q2⟩ =>
    Calls.spliced_cons (thn (hf.run pins s2 σ H2 _ I2 q2) fun fv s3 ⟨z, H3, I3, rz, k, r, v, ey, en, rv, q3⟩ => Calls.spliced_nil ?_))))
  subst ey
  obtain ⟨t, rfl⟩ := ry
  exact kd_get2 D I3 en fun tk => ⟨v, H3, I3.tok _, rv _ rz, q3⟩
end
end L2.Wk
namespace L2.Wk
open PySem PySem.Spec PyProof.Rows
def top (i : Nat) : Stmt := PySem.Challenge.pw_wakesafe_k07_texts_of_no_formula.main.body.getD i (.Pass ⟨0, 0, 0, 0⟩)
abbrev s_is_name : Stmt := top 10
abbrev N_is_name : List Str := ["value", "letter"]
theorem sc_is_name : FnScope N_is_name ["value"] (defScope s_is_name) := ⟨rfl, rfl, rfl, by decide +kernel, rfl, by decide +kernel, by decide +kernel⟩
abbrev s_ascending : Stmt := top 11
abbrev N_ascending : List Str := ["names"]
theorem sc_ascending : FnScope N_ascending ["names"] (defScope s_ascending) := ⟨rfl, rfl, rfl, by decide +kernel, rfl, by decide +kernel, by decide +kernel⟩
def txts (l : List String) : List Str := l.map Str.ofString
def resV : List Str := txts ["any", "none", "ask", "idle", "tick", "dip", "kept", "go", "hold", "note"]
def lettersS : Str := "abcdefghijklmnopqrstuvwxyz"
def isName (z : Str) : Bool := !(inV (.str z) (resV.map V.str)) && (decide ((1 : Int) ≤ z.length) && decide ((z.length : Int) ≤ 4) && (z.cps.toList.map fun c => decide (c ∈ lettersS.cps.toList)).all id)
theorem flat_txts (l : List Str) : (l.map V.str).all flatV = true := by
  induction l with
  | nil => rfl
  | cons a l ih =>
    rw [List.map_cons, List.all_cons, ih]
    rfl
theorem len1000 {n : Nat} (h : n ≤ 1000) : n ≤ sizeLine := Nat.le_of_lt (small1000 h)
def spTxt (f : Str → Bool) : Sp := fun vs H Q _ => ∃ z : Str, vs = [.str z] ∧ z.length ≤ 1000 ∧ ∀ H', Same H H' → Q (.bl (f z)) H'
/-- what is no text is no name -/
def spNonStr (K : PySem.W.Frag) : Sp := fun vs H Q _ => ∃ (v : V) (t : Value), vs = [v] ∧ TyX K H v t ∧ PySem.W.kitOne K t (.type "str") = some false ∧ Q (.bl false) H
def spStrF (g : Str → Str) : Sp := fun vs H Q _ => ∃ z : Str, vs = [.str z] ∧ z.length ≤ 1000 ∧ ∀ H', Same H H' → Q (.str (g z)) H'
def spAsc (K : PySem.W.Frag) : Sp := fun vs H Q _ => ∃ (l : Addr) (xs : List Str), vs = [.ref l] ∧ SqL K H l (xs.map V.str) ∧ xs.length ≤ 4000 ∧ (∃ ds : List Str, (∀ x ∈ xs, x ∈ ds) ∧ ds.length < 64) ∧
  ∀ (t : Addr) (ys : List Str) (H' : Hp), SqT K H' t (ys.map V.str) → Asc ys xs → Same H H' → Q (.ref t) H'
structure Wf where
  RESERVED : Addr
  tLONGEST : Tok
  tLETTERS : Tok
  is_name : Addr
  ascending : Addr
structure TxtW (K : PySem.W.Frag) (mg : Str → Option Value) (a : Wf) : Prop where
  g_RESERVED : mg "RESERVED" = some (.ref a.RESERVED)
  s_RESERVED : ∀ H, SqT K H a.RESERVED (resV.map V.str)
  g_LONGEST : mg "LONGEST" = some (.int 4 a.tLONGEST)
  g_LETTERS : mg "LETTERS" = some (.str lettersS a.tLETTERS)
  b_isinstance : mg "isinstance" = none
  b_str : mg "str" = none
  b_len : mg "len" = none
  b_all : mg "all" = none
  b_tuple : mg "tuple" = none
  b_set : mg "set" = none
  b_sorted : mg "sorted" = none
  g_is_name : mg "is_name" = some (.ref a.is_name)
  k_is_name : PySem.W.keepIn K (.ref a.is_name) = true
  g_ascending : mg "ascending" = some (.ref a.ascending)
  k_ascending : PySem.W.keepIn K (.ref a.ascending) = true
section
variable {P : Program} {w : World} {K : PySem.W.Frag} {mg : Str → Option Value} {base : Heap} {a : Wf} {f : Addr} {fd : FuncData}
theorem ok_is_name (F : Fun K "is_name" "is_name" s_is_name f fd) (T : TxtW K mg a) : FnOk P w K mg base CX0 1 f fd ["value"] (spTxt isName) := by
  refine F.ok sc_is_name (fun vs H Q E h => ?_) (fun cdv A outer s H vs Q E hr h => ?_)
  · obtain ⟨z, rfl, _⟩ := h
    rfl
  · obtain ⟨z, rfl, hz, k⟩ := h
    refine ⟨_, (pss_cons (ps_if (PW.pt (pw_or (pt_not (pt_val (pe_callB call_isi (by rfl) T.b_isinstance (by decide +kernel) (pa_cons (pv 0) (pa_cons (pe_tyB (T := "str") (by rfl) T.b_str (by decide +kernel)) pa_nil))))) (pw_or1 (pt_cmpR op_in_seq (pv 0) (pe_gr rfl T.g_RESERVED) (by rfl))))) (pss_one (ps_ret pe_bl)) pss_nil)
    (pss_one (ps_ret (pe_and (pe_chain op_le op_le pe_int (pe_callB call_len (by rfl) T.b_len PySem.boot_len (pa_cons (pv 0) pa_nil)) (pe_gi rfl T.g_LONGEST)) (pe_one (pe_callB (cr_all rfl) (by rfl) T.b_all (by decide +kernel) (pa_cons (pe_lc (own := [("letter", 1)]) (g := gName 1) (tt := tYes) rfl sc_is_name.nd (pi_str (pv 0)) (blkOk_by (N := N_is_name) (sc := defScope s_is_name) (by decide +kernel)) (fun _ _ _ _ _ => (pg_name (i := 1) sc_is_name.nd rfl (Or.inl rfl))) (fun _ _ _ _ _ => pts_nil) (fun _ _ _ _ _ => (pe_cmpR op_in_sign (pv 1) (pe_gs rfl T.g_LETTERS) (by rfl)))) pa_nil))))))), ?_⟩
    refine ⟨_, rfl, _, _, _, _, true, rfl, .ty "str", .base (.str z), kit_ty (by decide +kernel), true, rfl, iteF ?_⟩
    refine ⟨_, rfl, _, _, rfl, .inr (T.s_RESERVED _), rfl, flat_txts _, _, rfl, ?_⟩
    show if inV (V.str z) (resV.map V.str) = true then _ else _
    cases e1 : inV (V.str z) (resV.map V.str) with
    | true =>
      refine iteT ?_
      have : isName z = false := by unfold isName; rw [e1]; rfl
      rw [← this]
      exact k _ (Same.refl _)
    | false =>
      refine iteF ?_
      refine ⟨_, rfl, _, _, rfl, ⟨len1000 hz, rfl⟩, _, _, rfl, rfl, _, rfl, ?_⟩
      by_cases h1 : (1 : Int) ≤ z.length
      · rw [decide_eq_true h1]
        refine iteT ?_
        refine ⟨_, _, rfl, rfl, _, rfl, ?_⟩
        by_cases h2 : (z.length : Int) ≤ 4
        · rw [decide_eq_true h2]
          refine iteT ?_
          refine ⟨_, rfl, z, rfl, fun D hD => ?_⟩
          refine lc_str (fun i H' => Same H H' ∧ H' D = some (.lst ((z.cps.toList.take i).map fun c => V.bl (decide (c ∈ lettersS.cps.toList))))) ⟨Same.upd_new hD, upd_same⟩ ?_ ?_
          · rintro i c H' hc ⟨s1, d1⟩
            refine ⟨rfl, ⟨_, rfl, _, _, rfl, rfl, _, d1, ?_, ?_, ?_⟩⟩
            · rw [List.length_map, List.length_take]
              exact Nat.lt_of_le_of_lt (Nat.min_le_left _ _) (Nat.lt_of_lt_of_le (by have := (Array.getElem?_eq_some_iff.mp hc).1; have e : z.length = z.cps.size := rfl; omega) (len1000 (Nat.le_refl 1000)))
            · intro b o e
              have := s1 b o e
              rw [upd_ne (ne_of_none e hD)]
              exact this
            · rw [take_succ_map _ (arr_list hc)]
              exact upd_same
          · rintro H' ⟨s1, d1⟩
            refine ⟨D, z.cps.toList.map fun c => decide (c ∈ lettersS.cps.toList), rfl, .inl (.inl ?_), ?_⟩
            · rw [d1, List.map_map]
              have e : z.cps.toList.take z.cps.size = z.cps.toList := by
                rw [List.take_of_length_le (by simp)]
              rw [e]
              rfl
            · have : isName z = (z.cps.toList.map fun c => decide (c ∈ lettersS.cps.toList)).all id := by
                unfold isName
                rw [e1, decide_eq_true h1, decide_eq_true h2]
                simp only [Bool.not_false, Bool.true_and]
              rw [← this]
              exact k _ s1
        · rw [decide_eq_false h2]
          refine iteF ?_
          have : isName z = false := by unfold isName; rw [decide_eq_false h2]; simp
          rw [← this]
          exact k _ (Same.refl _)
      · rw [decide_eq_false h1]
        refine iteF ⟨_, rfl, iteF ?_⟩
        have : isName z = false := by unfold isName; rw [decide_eq_false h1]; simp
        rw [← this]
        exact k _ (Same.refl _)
theorem ok_is_name_non (F : Fun K "is_name" "is_name" s_is_name f fd) (T : TxtW K mg a) : FnOk P w K mg base CX0 1 f fd ["value"] (spNonStr K) := by
  refine F.ok sc_is_name (fun vs H Q E h => ?_) (fun cdv A outer s H vs Q E hr h => ?_)
  · obtain ⟨_, _, rfl, _⟩ := h
    rfl
  · obtain ⟨v, t, rfl, ht, hk, k⟩ := h
    refine ⟨_, (pss_cons (ps_if (PW.pt (pw_or (pt_not (pt_val (pe_callB call_isi (by rfl) T.b_isinstance (by decide +kernel) (pa_cons (pv 0) (pa_cons (pe_tyB (T := "str") (by rfl) T.b_str (by decide +kernel)) pa_nil))))) (pw_or1 (pt_cmpR op_in_seq (pv 0) (pe_gr rfl T.g_RESERVED) (by rfl))))) (pss_one (ps_ret pe_bl)) pss_nil)
    (pss_one (ps_ret (pe_and (pe_chain op_le op_le pe_int (pe_callB call_len (by rfl) T.b_len PySem.boot_len (pa_cons (pv 0) pa_nil)) (pe_gi rfl T.g_LONGEST)) (pe_one (pe_callB (cr_all rfl) (by rfl) T.b_all (by decide +kernel) (pa_cons (pe_lc (own := [("letter", 1)]) (g := gName 1) (tt := tYes) rfl sc_is_name.nd (pi_str (pv 0)) (blkOk_by (N := N_is_name) (sc := defScope s_is_name) (by decide +kernel)) (fun _ _ _ _ _ => (pg_name (i := 1) sc_is_name.nd rfl (Or.inl rfl))) (fun _ _ _ _ _ => pts_nil) (fun _ _ _ _ _ => (pe_cmpR op_in_sign (pv 1) (pe_gs rfl T.g_LETTERS) (by rfl)))) pa_nil))))))), ?_⟩
    exact ⟨_, rfl, _, _, _, _, false, rfl, .ty "str", ht, hk, false, rfl, iteT k⟩
theorem ok_ascending (F : Fun K "ascending" "ascending" s_ascending f fd) (T : TxtW K mg a) : FnOk P w K mg base CX0 1 f fd ["names"] (spAsc K) := by
  refine F.ok sc_ascending (fun vs H Q E h => ?_) (fun cdv A outer s H vs Q E hr h => ?_)
  · obtain ⟨_, _, rfl, _⟩ := h
    rfl
  · obtain ⟨l, xs, rfl, hl, hx, ⟨ds, hds, hd64⟩, k⟩ := h
    refine ⟨_, (pss_one (ps_ret (pe_callTy call_tupS (by rfl) T.b_tuple (by decide +kernel) (pa_cons (pe_callB (cr_sortT rfl) (by rfl) T.b_sorted (by decide +kernel) (pa_cons (pe_callTy (cr_setB rfl) (by rfl) T.b_set (by decide +kernel) (pa_cons (pv 0) pa_nil)) pa_nil)) pa_nil)))), ?_⟩
    refine ⟨_, rfl, l, xs, rfl, hl, hx, fun p ks nd hk hp => ?_⟩
    have kl : ks.length < 64 := Nat.lt_of_le_of_lt (few_len nd fun x hx => hds x ((hk x).mp hx)) hd64
    refine ⟨p, _, _, rfl, upd_same, kl, fun ys o up nd2 hm hl2 ho => ?_⟩
    have s2 := (Same.upd_new (o := SetT w p (fun k => decide (k ∈ xs)) ks.length) hp).trans (Same.upd_new (o := .lst (ys.map V.str)) ho)
    refine ⟨o, _, rfl, .inl ⟨.inl (.inl upd_same), fun t ht => ?_⟩⟩
    refine k t ys _ (.inl (.inl upd_same)) ⟨up, nd2, fun z => ?_⟩ (s2.trans (Same.upd_new ht))
    rw [hm z, decide_eq_true_eq]
end
end L2.Wk
namespace L2.Wk
open PySem PySem.Spec PyProof.Rows
/-! ### the dealer of the laws of formulas and blocks: a dict -/
abbrev s_law_source : Stmt := top 32
abbrev N_law_source : List Str := ["_law_script", "_law_base", "_law_cells", "_law_stirred", "_law_cell"]
theorem sc_law_source : FnScope N_law_source ["_law_script", "_law_base"] (defScope s_law_source) := ⟨rfl, rfl, rfl, by decide +kernel, rfl, by decide +kernel, by decide +kernel⟩
abbrev s_law_draw : Stmt := top 33
abbrev N_law_draw : List Str := ["_law_deal", "_law_wide", "_law_great", "_law_cell"]
theorem sc_law_draw : FnScope N_law_draw ["_law_deal", "_law_wide"] (defScope s_law_draw) := ⟨rfl, rfl, rfl, by decide +kernel, rfl, by decide +kernel, by decide +kernel⟩
abbrev s_law_pick : Stmt := top 34
abbrev N_law_pick : List Str := ["_law_deal", "_law_some"]
theorem sc_law_pick : FnScope N_law_pick ["_law_deal", "_law_some"] (defScope s_law_pick) := ⟨rfl, rfl, rfl, by decide +kernel, rfl, by decide +kernel, by decide +kernel⟩
theorem dp_ints {K : PySem.W.Frag} {H : Hp} : ∀ ns : List Int, DpAll K H (ns.map V.int) (ns.map PyData.int)
  | [] => .nil
  | n :: ns => .cons (.int n) (dp_ints ns)
/-- xs != [] -/
theorem ne_nil {K : PySem.W.Frag} {H : Hp} {a p : Addr} {xs : List V} {ds : List PyData} {Q : VK} (h : SqL K H a xs) (hd : DpAll K H xs ds) (sh : SeqAt.shaped (.list ds) = true) (hp : H p = some (.lst [])) (q : Q (.bl (!xs.isEmpty)) H) :
    rNeD K (.ref a) (.ref p) H Q := by
  refine ⟨_, _, .lst h hd, .lst (.inl (.inl hp)) .nil, sh, (by decide +kernel), ?_⟩
  have e : (!PyData.eqv (.list ds) (.list [])) = !xs.isEmpty := by
    cases hd with
    | nil => simp [PyData.eqv, PyData.eqvAll]
    | cons _ _ => simp [PyData.eqv, PyData.eqvAll]
  rw [e]
  exact q
theorem get_map_int {ns : List Int} {i : Nat} {x : V} (h : (ns.map V.int)[i]? = some x) : ∃ n, ns[i]? = some n ∧ x = V.int n := by
  rw [List.getElem?_map] at h
  cases e : ns[i]? with
  | none => rw [e] at h; cases h
  | some z => rw [e] at h; exact ⟨z, rfl, (Option.some.inj h).symm⟩
theorem snoc {α : Type} (c : α) (cs : List α) : ∃ xs y, c :: cs = xs ++ [y] := ⟨(c :: cs).dropLast, (c :: cs).getLast (by simp), (List.dropLast_concat_getLast (by simp)).symm⟩
theorem Keep.upd_l {d l : Addr} {H : Hp} {o : HO} : Keep d l H (upd H l o) := fun p u e _ h2 => by rw [upd_ne h2]; exact e
theorem Keep.upd_d {d l : Addr} {H : Hp} {o : HO} : Keep d l H (upd H d o) := fun p u e h1 _ => by rw [upd_ne h1]; exact e
def gK : Key := .inr (Str.ofString "great")
def sK : Key := .inr (Str.ofString "stirred")
def dkA (l : Addr) (b : Int) : List (Key × V) := [(gK, .ref l), (sK, .int b)]
theorem gs_ne : ¬ gK = sK := by decide +kernel
theorem dkA_great (l : Addr) (b : Int) : valV (dkA l b) gK = some (.ref l) := valV_pos rfl
theorem dkA_stirred (l : Addr) (b : Int) : valV (dkA l b) sK = some (.int b) := by
  unfold dkA
  rw [valV_neg gs_ne]
  exact valV_pos rfl
theorem dkA_put (l : Addr) (b c : Int) : putK (dkA l b) sK (.int c) = dkA l c := by
  unfold putK dkA
  have e1 : decide (gK = sK) = false := decide_eq_false gs_ne
  simp [gs_ne]
structure DealA (H : Hp) (d l : Addr) : Prop where
  ex : ∃ (cs : List Int) (b : Int), H d = some (.dK (dkA l b)) ∧ H l = some (.lst (cs.map V.int)) ∧ (∀ c ∈ cs, 0 ≤ c) ∧ cs.length ≤ 63 ∧ 0 ≤ b ∧ b < 2147483647
theorem DealA.ne {H : Hp} {d l : Addr} (D : DealA H d l) : d ≠ l := by
  obtain ⟨cs, b, h1, h2, _⟩ := D.ex
  intro e
  rw [e, h2] at h1
  cases h1
theorem DealA.same {H H' : Hp} {d l : Addr} (D : DealA H d l) (s : Same H H') : DealA H' d l := by
  obtain ⟨cs, b, h1, h2, h⟩ := D.ex
  exact ⟨cs, b, s _ _ h1, s _ _ h2, h⟩
def spDrawA : Sp := fun vs H Q _ => ∃ (d l : Addr) (n : Int), vs = [.ref d, .int n] ∧ DealA H d l ∧ 0 < n ∧ n ≤ 1000 ∧ ∀ (r : Int) (H' : Hp), 0 ≤ r → r < n → DealA H' d l → Keep d l H H' → Q (.int r) H'
def DrawA (d l : Addr) (n b0 : Int) (H : Hp) (m : Nat) (σ : L2.St) (H' : Hp) : Prop := ∃ (cs : List Int), σ = [some (.ref d), some (.int n), some (.ref l), none] ∧ H' d = some (.dK (dkA l b0)) ∧ H' l = some (.lst (cs.map V.int)) ∧ (∀ c ∈ cs, 0 ≤ c) ∧ cs.length ≤ 63 ∧ m = cs.length ∧ Keep d l H H'
structure TxtDA (K : PySem.W.Frag) (mg : Str → Option Value) : Prop where
  b_int : mg "int" = none
section
variable {P : Program} {w : World} {K : PySem.W.Frag} {mg : Str → Option Value} {base : Heap} {f : Addr} {fd : FuncData}
theorem ok_drawA (F : Fun K "_law_draw" "_law_draw" s_law_draw f fd) (T : TxtDA K mg) : FnOk P w K mg base CX0 1 f fd ["_law_deal", "_law_wide"] spDrawA := by
  refine F.ok sc_law_draw (fun vs H Q E h => ?_) (fun cdv A outer s H vs Q E hr h => ?_)
  · obtain ⟨_, _, _, rfl, _⟩ := h
    rfl
  · obtain ⟨d, l, n, rfl, D, n1, n2, k⟩ := h
    obtain ⟨cs0, b0, hd0, hl0, c0, c1, q0, q1⟩ := D.ex
    have ndl : d ≠ l := D.ne
    have rest : ∃ t, PSs (cxOf CX0 P w K mg base N_law_draw "_law_draw" (defScope s_law_draw) f cdv A outer s H E).nox ((defBody s_law_draw).drop 2) t ∧
        ∀ (cs : List Int) (H1 : Hp), H1 d = some (.dK (dkA l b0)) → H1 l = some (.lst (cs.map V.int)) → (∀ c ∈ cs, 0 ≤ c) → cs.length ≤ 63 → Keep d l H H1 → t { nx := fun _ H' => Q .non H', rt := Q } [some (.ref d), some (.int n), some (.ref l), none] H1 := by
      refine ⟨_, (pss_cons (ps_if (pt_cmpR (op_neD hr.units) (pv 2) (pe_lst pa_nil) (nomark _)) (pss_cons (ps_set (i := 3) sc_law_draw.nd rfl (Or.inl rfl) (pe_bm0 PySem.F.plainAttrs_list PySem.F.slot_list_pop PySem.F.type_list_pop mt_pop (pv 2)))
    (pss_cons (ps_expr (pe_bm PySem.F.plainAttrs_list PySem.F.slot_list_append PySem.F.type_list_append mt_append (pv 2) (pa_cons (pe_op op_fdivN (pv 3) (pv 1)) pa_nil)))
    (pss_one (ps_ret (pe_op op_mod (pe_callTy call_int1 (by rfl) T.b_int (by decide +kernel) (pa_cons (pv 3) pa_nil)) (pv 1)))))) pss_nil)
    (pss_cons (ps_asg (pe_op op_mod (pe_callTy call_int1 (by rfl) T.b_int (by decide +kernel) (pa_cons (pe_op op_add (pe_op op_mul (pe_dget (Nat.lt_of_le_of_lt (Nat.add_le_add_left (by decide : 1 ≤ 64) _) hr.units) (pv 0) pe_str (fun _ _ => rfl)) pe_int) pe_int) pa_nil)) pe_int) (pg_sub (pv 0) pe_str (set_dict (Nat.lt_of_le_of_lt (Nat.add_le_add_left (by decide : 1 ≤ 64) _) hr.units))))
    (pss_one (ps_ret (pe_op op_mod (pe_callTy call_int1 (by rfl) T.b_int (by decide +kernel) (pa_cons (pe_op op_fdiv (pe_dget (Nat.lt_of_le_of_lt (Nat.add_le_add_left (by decide : 1 ≤ 64) _) hr.units) (pv 0) pe_str (fun _ _ => rfl)) pe_int) pa_nil)) (pv 1)))))), ?_⟩
      intro cs H1 hd hl c2 c3 kp
      refine ⟨_, rfl, by decide, fun p hp => ?_⟩
      have s2 : Same H1 (upd H1 p (.lst [])) := Same.upd_new hp
      refine ne_nil (.inl (.inl (s2 _ _ hl))) (dp_ints cs) (PySem.W.ke_shaped_ints cs) upd_same ⟨_, rfl, ?_⟩
      replace hd := s2 _ _ hd
      replace hl := s2 _ _ hl
      replace kp := kp.trans (Keep.same (d := d) (l := l) s2)
      generalize upd H1 p (.lst []) = H2 at hd hl kp
      cases cs with
      | nil =>
        refine iteF ?_
        have hS : ∀ {Hx : Hp} {b : Int}, Hx d = some (.dK (dkA l b)) → DGet Hx d (kV sK) (some (.int b)) := fun {Hx b} h => dkA_stirred l b ▸ DGet.k (k := sK) h
        refine ⟨_, rfl, d, .int b0, rfl, hS hd, _, _, rfl, rfl, .inl ⟨by omega, by omega⟩, _, _, rfl, rfl, .inl ⟨_, rfl, _, _, rfl, rfl, (by show (0 : Int) < 2147483647; decide), _, rfl, d, _, rfl, DPut.k (k := sK) hd (by show 2 < sizeLine; decide), ?_⟩⟩
        rw [dkA_put]
        refine ⟨_, rfl, d, .int _, rfl, hS upd_same, _, _, rfl, rfl, ⟨by decide, by decide⟩, .inl ⟨_, rfl, _, rfl, _, _, rfl, rfl, n1, ?_⟩⟩
        refine k _ _ (Int.emod_nonneg _ (by omega)) (Int.emod_lt_of_pos _ n1) ⟨⟨[], (b0 * 69621 + 31) % 2147483647, upd_same, ?_, c2, c3, Int.emod_nonneg _ (by decide), Int.emod_lt_of_pos _ (by decide)⟩⟩ (kp.trans Keep.upd_d)
        rw [upd_ne ndl.symm]
        exact hl
      | cons c cs =>
        refine iteT ?_
        obtain ⟨xs, y, e⟩ := snoc c cs
        rw [e] at hl c2 c3
        rw [List.map_append] at hl
        have hy0 : 0 ≤ y := c2 y (by simp)
        refine ⟨_, rfl, .inl ⟨rfl, _, .inl (.inl hl)⟩, l, _, .int y, rfl, rfl, hl, ?_, ?_⟩
        · rw [List.length_append, List.map_cons, List.map_nil]
          simp
        rw [List.map_cons, List.map_nil, List.dropLast_concat]
        have hd3 : (upd H2 l (.lst (xs.map V.int))) d = some (.dK (dkA l b0)) := by
          rw [upd_ne ndl]
          exact hd
        refine ⟨_, rfl, .inl ⟨rfl, _, .inl (.inl upd_same)⟩, _, rfl, _, rfl, _, _, rfl, rfl, ⟨by omega, by omega⟩, l, _, _, rfl, rfl, upd_same, ?_, ?_⟩
        · rw [List.length_map]
          rw [List.length_append] at c3
          exact small1000 (by omega)
        refine ⟨_, rfl, .inl ⟨_, rfl, _, rfl, _, _, rfl, rfl, n1, ?_⟩⟩
        refine k _ _ (Int.emod_nonneg _ (by omega)) (Int.emod_lt_of_pos _ n1) ⟨⟨xs ++ [y.fdiv n], b0, ?_, ?_, ?_, ?_, q0, q1⟩⟩ ((kp.trans Keep.upd_l).trans Keep.upd_l)
        · rw [upd_ne ndl]
          exact hd3
        · rw [List.map_append]
          exact upd_same
        · intro c hc
          rcases List.mem_append.mp hc with hc | hc
          · exact c2 c (List.mem_append_left _ hc)
          · rw [List.mem_singleton.mp hc, Int.fdiv_eq_ediv_of_nonneg _ (by omega)]
            exact Int.ediv_nonneg hy0 (by omega)
        · rw [List.length_append] at c3 ⊢
          exact c3
    obtain ⟨tr, hrest, krest⟩ := rest
    refine ⟨_, pss_cons (ps_set (i := 2) sc_law_draw.nd rfl (Or.inl rfl) (pe_dget (Nat.lt_of_le_of_lt (Nat.add_le_add_left (by decide : 1 ≤ 64) _) hr.units) (pv 0) pe_str (fun _ _ => rfl))) (pss_cons (ps_while PassesOwn.never (PW.pt (pw_and (pt_cmpR (op_neD hr.units) (pv 2) (pe_lst pa_nil) (nomark _)) (pw_and1 (pt_cmpR op_eq (pe_ix ix_list (pv 2) (pe_un un_neg pe_int) (fun _ _ => rfl)) pe_int (nomark _))))) (pss_one (ps_expr (pe_bm0 PySem.F.plainAttrs_list PySem.F.slot_list_pop PySem.F.type_list_pop mt_pop (pv 2))))) hrest), ?_⟩
    refine ⟨_, rfl, d, _, rfl, dkA_great l b0 ▸ DGet.k (k := gK) hd0, ?_⟩
    refine ⟨DrawA d l n b0 H, ⟨_, cs0, rfl, hd0, hl0, c0, c1, rfl, Keep.refl d l H⟩, ?_⟩
    rintro m σ H1 ⟨cs, rfl, hd, hl, c2, c3, rfl, kp⟩
    refine ⟨_, rfl, by decide, fun p hp => ?_⟩
    have s2 : Same H1 (upd H1 p (.lst [])) := Same.upd_new hp
    refine ne_nil (.inl (.inl (s2 _ _ hl))) (dp_ints cs) (PySem.W.ke_shaped_ints cs) upd_same ⟨_, rfl, ?_⟩
    replace hd := s2 _ _ hd
    replace hl := s2 _ _ hl
    replace kp := kp.trans (Keep.same (d := d) (l := l) s2)
    generalize upd H1 p (.lst []) = H2 at hd hl kp
    cases cs with
    | nil => exact iteF (iteF (krest [] H2 hd hl c2 c3 kp))
    | cons c cs =>
      refine iteT ?_
      obtain ⟨xs, y, e⟩ := snoc c cs
      rw [e] at hl c2 c3
      rw [List.map_append] at hl
      refine ⟨_, rfl, _, rfl, l, _, _, _, rfl, rfl, .inl (.inl hl), atI_last _ _, rfl, _, rfl, ?_⟩
      by_cases hy : V.int y = V.int 0
      · rw [decide_eq_true hy]
        refine iteT ⟨DrawA d l n b0 H xs.length, fun σ' H' w => ⟨_, ?_, w⟩, ?_⟩
        · rw [e, List.length_append]
          simp
        · refine ⟨_, rfl, .inl ⟨rfl, _, .inl (.inl hl)⟩, l, _, .int y, rfl, rfl, hl, ?_, xs, rfl, ?_, ?_, ?_, ?_, rfl, ?_⟩
          · rw [List.length_append, List.map_cons, List.map_nil]
            simp
          · rw [upd_ne ndl]
            exact hd
          · rw [List.map_cons, List.map_nil, List.dropLast_concat]
            exact upd_same
          · intro c hc
            exact c2 c (List.mem_append_left _ hc)
          · rw [List.length_append] at c3
            omega
          · exact kp.trans Keep.upd_l
      · rw [decide_eq_false hy]
        refine iteF (krest (xs ++ [y]) H2 hd (by rw [List.map_append]; exact hl) c2 c3 kp)
end
def spPickA (K : PySem.W.Frag) : Sp := fun vs H Q _ => ∃ (d l s : Addr) (xs : List V), vs = [.ref d, .ref s] ∧ DealA H d l ∧ H s = some (.lst xs) ∧ s ≠ d ∧ s ≠ l ∧ xs ≠ [] ∧ xs.length ≤ 1000 ∧ ∀ (v : V) (H' : Hp), v ∈ xs → DealA H' d l → Keep d l H H' → Q v H'
def spSourceA (K : PySem.W.Frag) : Sp := fun vs H Q _ => ∃ (s : Addr) (ns : List Int), vs = [.ref s, .int 0] ∧ SqL K H s (ns.map V.int) ∧ ns.length ≤ 63 ∧ ∀ (d l : Addr) (H' : Hp), H d = none → H l = none → DealA H' d l → Same H H' → Q (.ref d) H'
structure TxtDA2 (K : PySem.W.Frag) (mg : Str → Option Value) (dr : Addr) : Prop extends TxtDA K mg where
  b_len : mg "len" = none
  b_abs : mg "abs" = none
  g__law_draw : mg "_law_draw" = some (.ref dr)
  k__law_draw : PySem.W.keepIn K (.ref dr) = true
def absI (i : Int) : Int := if i < 0 then -i else i
theorem absI_nn (i : Int) : 0 ≤ absI i := by
  unfold absI
  split <;> omega
theorem dkA_merge (l : Addr) (b : Int) : mergeK [] [(gK, V.ref l), (sK, V.int b)] = dkA l b := by
  show putK (putK [] gK (V.ref l)) sK (V.int b) = _
  have e1 : putK ([] : List (Key × V)) gK (V.ref l) = [(gK, V.ref l)] := rfl
  rw [e1]
  unfold putK dkA
  simp [gs_ne]
theorem cut_62 {xs : List V} : cutV xs (some 0) (some 62) = xs.take 62 := by
  unfold cutV
  have e1 : HT.sIx xs.length 0 (some 0) = 0 := by
    have := HT.sIx_nat xs.length 0 0
    simpa using this
  have e2 : HT.sIx xs.length xs.length (some 62) = min 62 xs.length := HT.sIx_nat xs.length xs.length 62
  rw [e1, e2, List.drop_zero, Nat.sub_zero]
  exact List.take_eq_take_iff.mpr (by omega)
section
variable {P : Program} {w : World} {K : PySem.W.Frag} {mg : Str → Option Value} {base : Heap} {dr : Addr} {f : Addr} {fd : FuncData}
theorem ok_pickA {f1 : FuncData} (F : Fun K "_law_pick" "_law_pick" s_law_pick f fd) (T : TxtDA2 K mg dr) (G__law_draw : FnOk P w K mg base CX0 1 dr f1 ["_law_deal", "_law_wide"] spDrawA) (b__law_draw : Binds K f1 ["_law_deal", "_law_wide"] []) :
    FnOk P w K mg base CX0 2 f fd ["_law_deal", "_law_some"] (spPickA K) := by
  refine F.ok sc_law_pick (fun vs H Q E h => ?_) (fun cdv A outer s H vs Q E hr h => ?_)
  · obtain ⟨_, _, _, _, rfl, _⟩ := h
    rfl
  · obtain ⟨d, l, sa, xs, rfl, D, hs, e1, e2, hne, hlen, k⟩ := h
    refine ⟨_, (pss_one (ps_ret (pe_ix ix_list (pv 1) (pe_call G__law_draw (hr.mono (by decide)) rfl T.g__law_draw T.k__law_draw b__law_draw .nil pass0 (pa_cons (pv 0) (pa_cons (pe_callB call_len (by rfl) T.b_len PySem.boot_len (pa_cons (pv 1) pa_nil)) pa_nil))) (fun _ _ => rfl)))), ?_⟩
    have hl : 0 < xs.length := List.length_pos_iff.mpr hne
    refine ⟨_, rfl, _, rfl, _, rfl, _, xs.length, rfl, .inl ⟨_, .inl (.inl hs), rfl⟩, d, l, (xs.length : Int), rfl, D, by omega, by omega, fun r H' r1 r2 D' kp => ?_⟩
    obtain ⟨j, rfl⟩ := Int.eq_ofNat_of_zero_le r1
    have hj : j < xs.length := by omega
    refine ⟨_, _, _, xs[j], rfl, rfl, .inl (.inl (kp _ _ hs e1 e2)), atI_nat (List.getElem?_eq_getElem hj), ?_⟩
    exact k _ _ (List.getElem_mem hj) D' kp
theorem ok_sourceA (F : Fun K "_law_source" "_law_source" s_law_source f fd) (T : TxtDA2 K mg dr) : FnOk P w K mg base CX0 1 f fd ["_law_script", "_law_base"] (spSourceA K) := by
  refine F.ok sc_law_source (fun vs H Q E h => ?_) (fun cdv A outer s H vs Q E hr h => ?_)
  · obtain ⟨_, _, rfl, _⟩ := h
    rfl
  · obtain ⟨sa, ns0, rfl, hS, hlen, k⟩ := h
    refine ⟨_, (pss_cons (ps_setLc (i := 2) (own := [("_law_cell", 4)]) (g := gName 4) (tt := tYes) rfl sc_law_source.nd rfl rfl (sw_true rfl rfl rfl (by decide +kernel)) (pi_list (pe_slice sl_list (pv 0) (po_some (pv 1)) (po_some pe_int))) (blkOk_by (N := N_law_source) (sc := defScope s_law_source) (by decide +kernel)) (fun _ _ _ _ _ => (pg_name (i := 4) sc_law_source.nd rfl (Or.inl rfl))) (fun _ _ _ _ _ => pts_nil) (fun _ _ _ _ _ => (pe_callB call_abs (by rfl) T.b_abs (by decide +kernel) (pa_cons (pe_callTy call_int1 (by rfl) T.b_int (by decide +kernel) (pa_cons (pv 4) pa_nil)) pa_nil))))
    (pss_cons (ps_set (i := 3) sc_law_source.nd rfl (Or.inl rfl) (pe_op op_add pe_int (pe_op op_mul pe_int (pv 1))))
    (pss_cons (ps_for PassesOwn.never rfl (pi_list (pv 2)) (pg_name (i := 4) sc_law_source.nd rfl (Or.inl rfl))
      (pss_one (ps_set (i := 3) sc_law_source.nd rfl (Or.inl rfl) (pe_op op_mod (pe_callTy call_int1 (by rfl) T.b_int (by decide +kernel) (pa_cons (pe_op op_add (pe_op op_add (pe_op op_mul (pv 3) pe_int) (pe_op op_mod (pe_callTy call_int1 (by rfl) T.b_int (by decide +kernel) (pa_cons (pv 4) pa_nil)) pe_int)) pe_int) pa_nil)) pe_int))))
    (pss_one (ps_ret (pe_disp (pps_cons pe_str (pe_revL (pe_lc (own := [("_law_cell", 4)]) (g := gName 4) rfl sc_law_source.nd (pi_list (pv 2)) (blkOk_by (N := N_law_source) (sc := defScope s_law_source) (by decide +kernel)) (fun _ _ _ _ _ => (pg_name (i := 4) sc_law_source.nd rfl (Or.inl rfl))) (fun _ _ _ _ _ => (pts_one (pt_cmpR op_ge (pv 4) (pe_op op_pow pe_int pe_int) (nomark _)))) (fun _ _ _ _ _ => (pv 4)))) (pps_cons pe_str (pv 3) pps_nil)) rfl rfl (by simp) (by decide))))))), ?_⟩
    refine ⟨_, rfl, _, rfl, _, rfl, _, rfl, sa, _, rfl, hS, fun p hp => ?_⟩
    refine ⟨p, rfl, ⟨_, .inl (.inl upd_same)⟩, fun D hD => ?_⟩
    rw [cut_62, ← List.map_take] at hD ⊢
    generalize ens : ns0.take 62 = ns at hD ⊢
    have hlen' : ns.length ≤ 62 := by rw [← ens, List.length_take]; omega
    have s1 : Same H (upd H p (.lst (ns.map V.int))) := Same.upd_new hp
    have p1 : (upd H p (.lst (ns.map V.int))) p = some (.lst (ns.map V.int)) := upd_same
    generalize upd H p (.lst (ns.map V.int)) = H1 at s1 p1 hD ⊢
    refine lc_list (K := K) (a := p) (xs := ns.map V.int) (fun i H' => Same H1 H' ∧ H' D = some (.lst (((ns.take i).map absI).map V.int))) ⟨Same.upd_new hD, upd_same⟩ (fun i H' _ h => .inl (.inl (h.1 _ _ p1))) ?_ ?_
    · rintro i x H' hx ⟨t1, t2⟩
      obtain ⟨z, hz, rfl⟩ := get_map_int hx
      refine ⟨rfl, _, rfl, .inl ⟨_, rfl, _, rfl, _, t2, ?_, fun b o e => ?_, ?_⟩⟩
      · rw [List.length_map, List.length_map, List.length_take]
        exact small1000 (by omega)
      · rw [upd_ne (ne_of_none e hD)]
        exact t1 b o e
      · rw [take_succ_map _ hz, List.map_append]
        exact upd_same
    · rintro H2 ⟨t1, t2⟩
      rw [List.length_map, List.take_length] at t2
      replace s1 := s1.trans t1
      refine ⟨_, rfl, _, _, rfl, rfl, .inl ⟨by decide, by decide⟩, _, _, rfl, rfl, ?_⟩
      refine ⟨_, rfl, D, rfl, ⟨_, .inl (.inl t2)⟩, ?_⟩
      refine for_list (K := K) (a := D) (xs := (ns.map absI).map V.int) (fun i σ H' => ∃ (b : Int) (v : Option V), σ = [some (.ref sa), some (.int 0), some (.ref D), some (.int b), v] ∧ 0 ≤ b ∧ b < 2147483647 ∧ H' = H2) ⟨_, _, rfl, by decide, by decide, rfl⟩
        (fun i σ H' _ ⟨_, _, _, _, _, e⟩ => by rw [e]; exact .inl (.inl t2)) ?_ ?_
      · rintro i x σ H' hx ⟨b, v, rfl, b0, b1, rfl⟩
        obtain ⟨z, hz, rfl⟩ := get_map_int hx
        refine ⟨_, rfl, _, _, rfl, rfl, .inl ⟨by omega, by omega⟩, _, rfl, .inl ⟨_, rfl, _, _, rfl, rfl, (by show (0 : Int) < 2147483543; decide), _, _, rfl, rfl, _, _, rfl, rfl, .inl ⟨_, rfl, _, _, rfl, rfl, (by show (0 : Int) < 2147483647; decide), ?_⟩⟩⟩
        exact ⟨_, _, rfl, Int.emod_nonneg _ (by decide), Int.emod_lt_of_pos _ (by decide), rfl⟩
      · rintro σ H' ⟨b, v, rfl, b0, b1, rfl⟩
        refine fun pd hpd => ?_
        have sP := Same.upd_new (o := .dK []) hpd
        have hP : (upd H' pd (.dK [])) pd = some (.dK []) := upd_same
        have hpH : H pd = none := s1.free hpd
        generalize upd H' pd (.dK []) = HP at sP hP ⊢
        replace t2 := sP _ _ t2
        refine ⟨_, rfl, D, rfl, ⟨_, .inl (.inl t2)⟩, fun D2 hD2 => ?_⟩
        refine lc_list (K := K) (a := D) (xs := (ns.map absI).map V.int) (fun i H3 => Same HP H3 ∧ ∃ acc : List Int, H3 D2 = some (.lst (acc.map V.int)) ∧ (∀ c ∈ acc, 0 ≤ c) ∧ acc.length ≤ i) ⟨Same.upd_new hD2, [], upd_same, (fun _ h => by cases h), Nat.le_refl _⟩
          (fun i H3 _ h => .inl (.inl (h.1 _ _ t2))) ?_ ?_
        · rintro i x H3 hx ⟨u1, acc, u2, u3, u4⟩
          obtain ⟨z, hz, rfl⟩ := get_map_int hx
          have z0 : 0 ≤ z := by
            have := List.mem_of_getElem? hz
            obtain ⟨y, _, rfl⟩ := List.mem_map.mp this
            exact absI_nn y
          have hi : i < ns.length := by
            have := (List.getElem?_eq_some_iff.mp hz).1
            rw [List.length_map] at this
            exact this
          refine ⟨rfl, _, rfl, _, _, rfl, rfl, ⟨by decide, by decide, by decide⟩, _, _, rfl, rfl, _, rfl, ?_⟩
          refine ite2 (fun c => ?_) (fun c => ⟨u1, acc, u2, u3, by omega⟩)
          refine ⟨_, rfl, _, u2, ?_, ?_, acc ++ [z], ?_, ?_, ?_⟩
          · rw [List.length_map]
            exact small1000 (by omega)
          · intro b2 o e
            rw [upd_ne (ne_of_none e hD2)]
            exact u1 b2 o e
          · rw [List.map_append]
            exact upd_same
          · intro c hc
            rcases List.mem_append.mp hc with hc | hc
            · exact u3 c hc
            · rw [List.mem_singleton.mp hc]
              exact z0
          · rw [List.length_append]
            simp only [List.length_cons, List.length_nil]
            omega
        · rintro H3 ⟨u1, acc, u2, u3, u4⟩
          rw [List.length_map, List.length_map] at u4
          refine ⟨D2, _, rfl, .inl (.inl u2), fun l hl => ⟨_, rfl, ?_⟩⟩
          have hP3 := u1 _ _ hP
          have hlp : l ≠ pd := (ne_of_none hP3 hl).symm
          refine ⟨by rw [upd_ne hlp.symm]; exact hP3, [(gK, .ref l), (sK, .int b)], rfl, (by show 2 ≤ 15; decide), ?_⟩
          rw [dkA_merge]
          have sH : Same H H3 := (s1.trans sP).trans u1
          refine k pd l _ hpH (sH.free hl) ⟨⟨acc.reverse, b, upd_same, ?_, ?_, ?_, b0, b1⟩⟩ (fun a o e => ?_)
          · rw [upd_ne hlp, upd_same, List.map_reverse]
          · intro c hc
            exact u3 c (List.mem_reverse.mp hc)
          · rw [List.length_reverse]
            omega
          · rw [upd_ne (ne_of_none e hpH)]
            exact (Same.upd_new hl) _ _ (sH _ _ e)
end
end L2.Wk
namespace L2.Wk
open PySem PySem.Spec PyProof.Rows
abbrev s_each_once : Stmt := top 19
abbrev N_each_once : List Str := ["steps", "kept", "places", "moved", "step", "new", "at"]
theorem sc_each_once : FnScope N_each_once ["steps"] (defScope s_each_once) := ⟨rfl, rfl, rfl, by decide +kernel, rfl, by decide +kernel, by decide +kernel⟩
abbrev s_text : Stmt := top 22
abbrev N_text : List Str := ["steps", "texts", "step", "at"]
theorem sc_text : FnScope N_text ["steps"] (defScope s_text) := ⟨rfl, rfl, rfl, by decide +kernel, rfl, by decide +kernel, by decide +kernel⟩
/-! ### formulas as steps -/
abbrev Step := Str × List Nat
def stepV (st : Step) : List V := .str st.1 :: st.2.map fun j => V.int (j : Nat)
def StepAt (K : PySem.W.Frag) (H : Hp) (v : V) (st : Step) : Prop := ∃ q, v = .ref q ∧ SqT K H q (stepV st)
theorem StepAt.same {K : PySem.W.Frag} {H H' : Hp} (s : Same H H') (v : V) (st : Step) : StepAt K H v st → StepAt K H' v st := fun ⟨q, e, h⟩ => ⟨q, e, Same.sqT s h⟩
/-- the words of each step, told from the left -/
def wordsS (acc : List (List Str)) (st : Step) : List Str := st.1 :: st.2.flatMap fun j => acc.getD j []
def wordsL (S : List Step) : List (List Str) := S.foldl (fun acc st => acc ++ [wordsS acc st]) []
theorem wordsL_snoc (S : List Step) (st : Step) : wordsL (S ++ [st]) = wordsL S ++ [wordsS (wordsL S) st] := by
  unfold wordsL
  rw [List.foldl_append]
  rfl
theorem wordsL_len (S : List Step) : (wordsL S).length = S.length := by
  have q : ∀ (S : List Step) (acc : List (List Str)), (S.foldl (fun acc st => acc ++ [wordsS acc st]) acc).length = acc.length + S.length := by
    intro S
    induction S with
    | nil => intro acc; rfl
    | cons st S ih =>
      intro acc
      rw [List.foldl_cons, ih, List.length_append]
      simp only [List.length_cons, List.length_nil]
      omega
  have := q S []
  unfold wordsL
  rw [this]
  simp
def WfS (S : List Step) : Prop := ∀ (i : Nat) (st : Step), S[i]? = some st → ∀ j ∈ st.2, j < i
def txtW (ws : List Str) : Str := Txt.join (Str.ofString " ") ws
theorem words_take (S : List Step) (i : Nat) (st : Step) (h : S[i]? = some st) : wordsL (S.take (i + 1)) = wordsL (S.take i) ++ [wordsS (wordsL (S.take i)) st] := by
  rw [List.take_add_one, h]
  exact wordsL_snoc _ _
theorem joinL_flat (a : List Nat) : ∀ (L : List (List (List Nat))), (∀ x ∈ L, x ≠ []) → TL.joinL a (L.map (TL.joinL a)) = TL.joinL a L.flatten
  | [], _ => rfl
  | [x], _ => by
    show TL.joinL a x = TL.joinL a (x ++ [])
    rw [List.append_nil]
  | x :: y :: L, h => by
    have ih := joinL_flat a (y :: L) fun z hz => h z (List.mem_cons_of_mem _ hz)
    have hx := h x (List.mem_cons_self ..)
    have hy : (y :: L).flatten ≠ [] := by
      have := h y (by simp)
      intro e
      rw [List.flatten_cons] at e
      exact this (List.append_eq_nil_iff.mp e).1
    show TL.joinL a x ++ (a ++ TL.joinL a ((y :: L).map (TL.joinL a))) = TL.joinL a (x ++ (y :: L).flatten)
    rw [ih]
    have q : ∀ (x z : List (List Nat)), x ≠ [] → z ≠ [] → TL.joinL a (x ++ z) = TL.joinL a x ++ (a ++ TL.joinL a z) := by
      intro x
      induction x with
      | nil => intro z h; exact absurd rfl h
      | cons p x ih =>
        intro z _ hz
        cases x with
        | nil =>
          cases z with
          | nil => exact absurd rfl hz
          | cons r z => rfl
        | cons p2 x =>
          show p ++ (a ++ TL.joinL a (p2 :: x ++ z)) = (p ++ (a ++ TL.joinL a (p2 :: x))) ++ (a ++ TL.joinL a z)
          rw [ih z (by simp) hz]
          simp [List.append_assoc]
    rw [q x _ hx hy]
theorem txt_flat (w : Str) (L : List (List Str)) (h : ∀ x ∈ L, x ≠ []) : Txt.join (Str.ofString " ") (w :: L.map txtW) = txtW (w :: L.flatten) := by
  refine TL.ext_tl ?_
  unfold txtW
  rw [TL.join_eq, TL.join_eq, TL.tl_join, TL.tl_join]
  have e := joinL_flat (TL.tl (Str.ofString " ")) ([TL.tl w] :: L.map (fun x => x.map TL.tl)) (fun x hx => by
    rcases List.mem_cons.mp hx with rfl | hx
    · simp
    · obtain ⟨y, hy, rfl⟩ := List.mem_map.mp hx
      intro e
      exact h y hy (List.map_eq_nil_iff.mp e))
  rw [List.map_cons, List.map_cons, List.map_map]
  have e1 : (TL.joinL (TL.tl (Str.ofString " ")) [TL.tl w]) = TL.tl w := rfl
  rw [List.map_cons, e1, List.map_map] at e
  have e2 : (fun x : List Str => TL.tl (Txt.join (Str.ofString " ") x)) = (TL.joinL (TL.tl (Str.ofString " ")) ∘ fun x : List Str => x.map TL.tl) := by
    funext x
    rw [TL.join_eq, TL.tl_join]
    rfl
  have e3 : (TL.tl ∘ txtW) = fun x : List Str => TL.tl (Txt.join (Str.ofString " ") x) := rfl
  show TL.joinL _ (TL.tl w :: L.map (TL.tl ∘ fun ws => Txt.join (Str.ofString " ") ws)) = _
  rw [show (TL.tl ∘ fun ws : List Str => Txt.join (Str.ofString " ") ws) = fun x : List Str => TL.tl (Txt.join (Str.ofString " ") x) from rfl, e2, e]
  congr 1
  rw [List.flatten_cons, List.map_flatten]
  rfl
end L2.Wk
namespace L2.Wk
open PySem PySem.Spec PyProof.Rows
structure Gf where
  text : Addr
  each : Addr
structure TxtG (K : PySem.W.Frag) (mg : Str → Option Value) (g : Gf) : Prop where
  b_len : mg "len" = none
  b_tuple : mg "tuple" = none
  g__text : mg "_text" = some (.ref g.text)
  k__text : PySem.W.keepIn K (.ref g.text) = true
  g__each_once : mg "_each_once" = some (.ref g.each)
  k__each_once : PySem.W.keepIn K (.ref g.each) = true
theorem wordsL_ne (S : List Step) : ∀ x ∈ wordsL S, x ≠ [] := by
  have q : ∀ (S : List Step) (acc : List (List Str)), (∀ x ∈ acc, x ≠ []) → ∀ x ∈ S.foldl (fun acc st => acc ++ [wordsS acc st]) acc, x ≠ [] := by
    intro S
    induction S with
    | nil => intro acc h; exact h
    | cons st S ih =>
      intro acc h
      rw [List.foldl_cons]
      refine ih _ fun x hx => ?_
      rcases List.mem_append.mp hx with hx | hx
      · exact h x hx
      · rw [List.mem_singleton.mp hx]
        unfold wordsS
        simp
  exact q S [] fun x hx => by cases hx
theorem wordsL_pre (S R : List Step) : ∃ T, wordsL (S ++ R) = wordsL S ++ T := by
  have q : ∀ (R : List Step) (acc : List (List Str)), ∃ T, R.foldl (fun acc st => acc ++ [wordsS acc st]) acc = acc ++ T := by
    intro R
    induction R with
    | nil => intro acc; exact ⟨[], by simp⟩
    | cons st R ih =>
      intro acc
      obtain ⟨T, hT⟩ := ih (acc ++ [wordsS acc st])
      exact ⟨[wordsS acc st] ++ T, by rw [List.foldl_cons, hT, List.append_assoc]⟩
  unfold wordsL
  rw [List.foldl_append]
  exact q R _
theorem wordsL_mem {S : List Step} {i : Nat} {ws : List Str} (h : ws ∈ wordsL (S.take i)) : ws ∈ wordsL S := by
  obtain ⟨T, e⟩ := wordsL_pre (S.take i) (S.drop i)
  rw [List.take_append_drop] at e
  rw [e]
  exact List.mem_append_left _ h
theorem cut_one (x : V) (xs : List V) : cutV (x :: xs) (some 1) none = xs := by
  rw [show (1 : Int) = ((1 : Nat) : Int) from rfl, cut_from]
  rfl
theorem not_all1 (n : Nat) : ¬(HT.sIx (n + 1) 0 (some 1) = 0 ∧ HT.sIx (n + 1) (n + 1) none = n + 1) := fun h => by
  have e := h.1
  rw [show (1 : Int) = ((1 : Nat) : Int) from rfl, HT.sIx_nat] at e
  omega
theorem at_lastG (xs : List V) (y : V) : atI (xs ++ [y]) (-1) = some y := by
  unfold atI ixN
  have hl : (xs ++ [y]).length = xs.length + 1 := by
    rw [List.length_append]
    rfl
  rw [hl, if_neg (by decide), if_pos (by omega)]
  have e : ((-1 : Int) + ((xs.length + 1 : Nat) : Int)).toNat = xs.length := by omega
  rw [e]
  show (xs ++ [y])[xs.length]? = some y
  rw [List.getElem?_append_right (Nat.le_refl _)]
  simp
def spTextG (K : PySem.W.Frag) : Sp := fun vs H Q _ => ∃ (t : Addr) (rs : List V) (S : List Step), vs = [.ref t] ∧ SqT K H t rs ∧ AllAt (StepAt K H) rs S ∧ S ≠ [] ∧ S.length ≤ 1000 ∧ WfS S ∧ (∀ st ∈ S, st.2.length ≤ 2) ∧
  (∀ ws ∈ wordsL S, (ws.map fun x => x.length).sum + ws.length ≤ 100000) ∧ ∀ H', Same H H' → Q (.str (txtW ((wordsL S).getLastD []))) H'
theorem joinL_lenG (S : List Nat) : ∀ l : List (List Nat), (TL.joinL S l).length = (l.map List.length).sum + S.length * (l.length - 1)
  | [] => by simp [TL.joinL]
  | [p] => by simp [TL.joinL]
  | p :: q :: r => by
    show (p ++ (S ++ TL.joinL S (q :: r))).length = _
    rw [List.length_append, List.length_append, joinL_lenG S (q :: r)]
    simp only [List.map_cons, List.sum_cons, List.length_cons]
    have : S.length * (r.length + 1 + 1 - 1) = S.length * (r.length + 1 - 1) + S.length := by
      have e1 : r.length + 1 + 1 - 1 = (r.length + 1 - 1) + 1 := by omega
      rw [e1, Nat.mul_add, Nat.mul_one]
    omega
theorem join_lenG (y : Str) (l : List Str) : (Txt.join y l).length = (l.map fun z => z.length).sum + y.length * (l.length - 1) := by
  rw [TL.len_tl, TL.join_eq, TL.tl_join, joinL_lenG, List.map_map, List.length_map, ← TL.len_tl]
  have e : l.map (List.length ∘ TL.tl) = l.map fun z => z.length := List.map_congr_left fun z _ => (TL.len_tl z).symm
  rw [e]
theorem sum_leG {c : Nat} : ∀ {l : List Str}, (∀ z ∈ l, z.length ≤ c) → (l.map fun z => z.length).sum ≤ c * l.length
  | [], _ => by simp
  | z :: l, h => by
    have := sum_leG fun y hy => h y (List.mem_cons_of_mem _ hy)
    have h0 := h z (List.mem_cons_self ..)
    rw [List.map_cons, List.sum_cons, List.length_cons, Nat.mul_add, Nat.mul_one]
    omega
theorem txt_len (ws : List Str) : (txtW ws).length ≤ (ws.map fun x => x.length).sum + ws.length := by
  unfold txtW
  rw [join_lenG, show (Str.ofString " ").length = 1 by decide +kernel]
  omega
section
variable {P : Program} {w : World} {K : PySem.W.Frag} {mg : Str → Option Value} {base : Heap} {g : Gf} {f : Addr} {fd : FuncData}
theorem ok_textG (F : Fun K "_text" "_text" s_text f fd) (T : TxtG K mg g) : FnOk P w K mg base CX0 1 f fd ["steps"] (spTextG K) := by
  refine F.ok sc_text (fun vs H Q E h => ?_) (fun cdv A outer s H vs Q E hr h => ?_)
  · obtain ⟨_, _, _, rfl, _⟩ := h
    rfl
  · obtain ⟨t, rs, S, rfl, ht, hA, ne, hl, wf, ar, sm, k⟩ := h
    refine ⟨_, (pss_cons (ps_set (i := 1) sc_text.nd rfl (Or.inr rfl) (pe_lst pa_nil))
    (pss_cons (ps_for PassesOwn.never rfl (pi_tup (pv 0)) (pg_name (i := 2) sc_text.nd rfl (Or.inl rfl))
      (pss_one (ps_expr (pe_bm PySem.F.plainAttrs_list PySem.F.slot_list_append PySem.F.type_list_append mt_append (pv 1) (pa_cons (pe_join pe_str (pe_lst (pa_cons (pe_ix ix_tup (pv 2) pe_int (fun _ _ => rfl)) (StX.pa_star (pe_lc (own := [("at", 3)]) (g := gName 3) (tt := tYes) rfl sc_text.nd (pi_tup (pe_slice sl_tup (pv 2) (po_some pe_int) po_none)) (blkOk_by (N := N_text) (sc := defScope s_text) (by decide +kernel)) (fun _ _ _ _ _ => (pg_name (i := 3) sc_text.nd rfl (Or.inl rfl))) (fun _ _ _ _ _ => pts_nil) (fun _ _ _ _ _ => (pe_ix (ix_listK (K := K) rfl) (pv 1) (pv 3) (fun _ _ => rfl)))) pa_nil)))) pa_nil)))))
    (pss_one (ps_ret (pe_ix ix_list (pv 1) (pe_un un_neg pe_int) (fun _ _ => rfl)))))), ?_⟩
    refine ⟨by decide, fun L hL => ?_⟩
    have s0 := Same.upd_new (o := .lst []) hL
    have hL0 : (upd H L (.lst [])) L = some (.lst []) := upd_same
    have hk0 : ∀ b o, H b = some o → b ≠ L := fun b o e => ne_of_none e hL
    have hlen := hA.len
    refine ⟨_, rfl, t, rfl, ⟨_, Same.sqT s0 ht⟩, for_tup (K := K) (a := t) (xs := rs) (fun i σ H' => ∃ v2 : Option V, σ = [some (.ref t), some (.ref L), v2, none] ∧ Same H H' ∧ H' L = some (.lst ((wordsL (S.take i)).map fun ws => V.str (txtW ws)))) ⟨_, rfl, s0, hL0⟩ (fun i σ H' _ ⟨_, _, h, _⟩ => Same.sqT h ht) ?_ ?_⟩
    · rintro i x σ H1 hx ⟨v2, rfl, s1, h1⟩
      obtain ⟨st, hst, q, rfl, hq0⟩ := hA.get hx
      obtain ⟨w, args⟩ := st
      have hq : SqT K H1 q (.str w :: args.map fun j => V.int (j : Nat)) := Same.sqT s1 hq0
      have wfi := wf i _ hst
      have tl : (wordsL (S.take i)).length = i := by
        rw [wordsL_len, List.length_take]
        have := (List.getElem?_eq_some_iff.mp hst).1
        omega
      have nei := wordsL_ne (S.take i)
      have tk := words_take S i _ hst
      have arg : ∀ a ∈ args, ∃ ws, (wordsL (S.take i))[a]? = some ws ∧ (wordsL (S.take i)).getD a [] = ws ∧ ws ∈ wordsL (S.take i) := fun a ha => by
        have hai : a < (wordsL (S.take i)).length := by rw [tl]; exact wfi a ha
        refine ⟨(wordsL (S.take i))[a], List.getElem?_eq_getElem hai, ?_, List.getElem_mem hai⟩
        rw [List.getD_eq_getElem?_getD, List.getElem?_eq_getElem hai]
        rfl
      refine ⟨_, rfl, .inl ⟨rfl, _, .inl (.inl h1)⟩, ⟨_, rfl⟩, _, rfl, _, _, _, _, rfl, rfl, hq, atI_nat (j := 0) rfl, _, rfl, _, rfl, q, _, rfl, hq, ?_, fun tq htq => ?_⟩
      · rw [List.length_cons]
        exact not_all1 _
      rw [cut_one]
      have s2 := Same.upd_new (o := .tup (args.map fun j => V.int (j : Nat))) htq
      have htq2 : SqT K (upd H1 tq (.tup (args.map fun j => V.int (j : Nat)))) tq (args.map fun j => V.int (j : Nat)) := .inl (.inl upd_same)
      have h2 := s2 _ _ h1
      generalize upd H1 tq (.tup (args.map fun j => V.int (j : Nat))) = H2 at s2 htq2 h2 ⊢
      refine ⟨tq, rfl, ⟨_, htq2⟩, fun D hD => ?_⟩
      have hDL : L ≠ D := ne_of_none h2 hD
      refine lc_tup (K := K) (a := tq) (xs := args.map fun j => V.int (j : Nat)) (fun j H' => Same H2 H' ∧ H' D = some (.lst ((args.take j).map fun a => V.str (txtW ((wordsL (S.take i)).getD a []))))) ⟨Same.upd_new hD, upd_same⟩ (fun j H' _ h => Same.sqT h.1 htq2) ?_ ?_
      · rintro j y H' hy ⟨t1, d1⟩
        rw [List.getElem?_map] at hy
        obtain ⟨a, ha, rfl⟩ := Option.map_eq_some_iff.mp hy
        obtain ⟨ws, e1, e2, _⟩ := arg a (List.mem_of_getElem? ha)
        have hj : j < args.length := (List.getElem?_eq_some_iff.mp ha).1
        have har := ar _ (List.mem_of_getElem? hst)
        dsimp only at har
        refine ⟨rfl, _, rfl, _, rfl, L, _, _, _, rfl, rfl, .inl (.inl (t1 _ _ h2)), atI_nat (by rw [List.getElem?_map, e1]; rfl), ?_⟩
        refine ⟨_, d1, ?_, fun b o e => ?_, ?_⟩
        · rw [List.length_map, List.length_take]
          exact small1000 (by omega)
        · rw [upd_ne (ne_of_none e hD)]
          exact t1 b o e
        · rw [List.take_add_one, ha, List.map_append]
          show _ = some (HO.lst (_ ++ [V.str (txtW ((wordsL (S.take i)).getD a []))]))
          rw [e2]
          exact upd_same
      · rintro H3 ⟨t1, d1⟩
        rw [List.length_map, List.take_length] at d1
        have s3 := s2.trans t1
        have har := ar _ (List.mem_of_getElem? hst)
        dsimp only at har
        refine ⟨D, _, rfl, .inr (.inl (.inl d1)), ?_, fun lj hlj => ?_⟩
        · show (_ ++ []).length + 1 ≤ _
          rw [List.append_nil, List.length_map]
          exact len1000 (by omega)
        rw [List.append_nil]
        have s4 := s3.trans (Same.upd_new (o := .lst (V.str w :: args.map fun a => V.str (txtW ((wordsL (S.take i)).getD a [])))) hlj)
        have e1 : (Str.ofString " ").length = 1 := by decide +kernel
        have lt : ∀ a ∈ args, (txtW ((wordsL (S.take i)).getD a [])).length ≤ 100000 := fun a ha => by
          obtain ⟨ws, _, e2, e3⟩ := arg a ha
          rw [e2]
          exact Nat.le_trans (txt_len ws) (sm ws (wordsL_mem e3))
        have lw : w.length ≤ 100000 := by
          have m : wordsS (wordsL (S.take i)) (w, args) ∈ wordsL S := wordsL_mem (i := i + 1) (by rw [tk]; exact List.mem_append_right _ (List.mem_singleton.mpr rfl))
          have := sm _ m
          unfold wordsS at this
          rw [List.map_cons, List.sum_cons, List.length_cons] at this
          dsimp only at this
          omega
        have ls : ((args.map fun a => txtW ((wordsL (S.take i)).getD a [])).map fun x => x.length).sum ≤ 100000 * args.length := by
          have q := sum_leG (c := 100000) (l := args.map fun a => txtW ((wordsL (S.take i)).getD a [])) fun z hz => by
            obtain ⟨a, ha, rfl⟩ := List.mem_map.mp hz
            exact lt a ha
          rw [List.length_map] at q
          exact q
        have em : V.str w :: args.map (fun a => V.str (txtW ((wordsL (S.take i)).getD a []))) = (w :: args.map fun a => txtW ((wordsL (S.take i)).getD a [])).map V.str := by
          rw [List.map_cons, List.map_map]
          rfl
        rw [em] at s4 ⊢
        refine ⟨_, lj, w :: args.map fun a => txtW ((wordsL (S.take i)).getD a []), rfl, rfl, .inl (.inl (.inl upd_same)), ?_, ?_⟩
        · rw [e1, List.map_cons, List.sum_cons, List.length_cons, List.length_map]
          omega
        have ej : Txt.join (Str.ofString " ") (w :: args.map fun a => txtW ((wordsL (S.take i)).getD a [])) = txtW (wordsS (wordsL (S.take i)) (w, args)) := by
          have q := txt_flat w (args.map fun a => (wordsL (S.take i)).getD a []) fun x hx => by
            obtain ⟨a, ha, rfl⟩ := List.mem_map.mp hx
            obtain ⟨ws, _, e2, e3⟩ := arg a ha
            rw [e2]
            exact nei _ e3
          rw [List.map_map] at q
          exact q
        rw [ej]
        have hL4 := s4 _ _ h1
        refine ⟨L, _, _, rfl, rfl, hL4, ?_, _, rfl, fun b o e => ?_, ?_⟩
        · rw [List.length_map, tl]
          have := (List.getElem?_eq_some_iff.mp hst).1
          exact small1000 (by omega)
        · rw [upd_ne (hk0 b o e)]
          exact s4 _ _ (s1 b o e)
        · rw [tk, List.map_append]
          exact upd_same
    · rintro σ H1 ⟨v2, rfl, s1, h1⟩
      rw [hlen, List.take_length] at h1
      have hl1 : (wordsL S).length ≠ 0 := by
        rw [wordsL_len]
        exact fun e => ne (List.length_eq_zero_iff.mp e)
      refine ⟨_, rfl, 1, rfl, L, _, _, _, rfl, rfl, .inl (.inl h1), ?_, k H1 s1⟩
      rcases List.eq_nil_or_concat (wordsL S) with e | ⟨m, c, e⟩
      · exact absurd (by rw [e]; rfl) hl1
      · rw [e, List.concat_eq_append, List.map_append, List.getLastD_concat]
        exact at_lastG _ _
end
end L2.Wk
namespace L2.Wk
open PySem PySem.Spec PyProof.Rows
/-! ### each step once -/
def newS (mv : List Nat) (st : Step) : Step := (st.1, st.2.map fun a => mv.getD a 0)
def eStep (d : List Step × List Nat) (st : Step) : List Step × List Nat :=
  if newS d.2 st ∈ d.1 then (d.1, d.2 ++ [d.1.idxOf (newS d.2 st)]) else (d.1 ++ [newS d.2 st], d.2 ++ [d.1.length])
def eachS (S : List Step) : List Step × List Nat := S.foldl eStep ([], [])
theorem eachS_take (S : List Step) (i : Nat) (st : Step) (h : S[i]? = some st) : eachS (S.take (i + 1)) = eStep (eachS (S.take i)) st := by
  rw [List.take_add_one, h]
  unfold eachS
  show (S.take i ++ [st]).foldl eStep _ = _
  rw [List.foldl_append]
  rfl
theorem eachS_lens (S : List Step) : (eachS S).2.length = S.length ∧ (eachS S).1.length ≤ S.length := by
  have q : ∀ (S : List Step) (d : List Step × List Nat), (S.foldl eStep d).2.length = d.2.length + S.length ∧ (S.foldl eStep d).1.length ≤ d.1.length + S.length := by
    intro S
    induction S with
    | nil => intro d; exact ⟨rfl, Nat.le_refl _⟩
    | cons st S ih =>
      intro d
      rw [List.foldl_cons]
      obtain ⟨h1, h2⟩ := ih (eStep d st)
      have e1 : (eStep d st).2.length = d.2.length + 1 ∧ (eStep d st).1.length ≤ d.1.length + 1 := by
        unfold eStep
        split
        · exact ⟨by simp, Nat.le_succ _⟩
        · exact ⟨by simp, by simp⟩
      rw [h1, List.length_cons]
      omega
  have := q S ([], [])
  unfold eachS
  simpa using this
def keyF (st : Step) : List Key := .inr st.1 :: st.2.map fun j => .inl (j : Nat)
theorem keyF_v (st : Step) : (keyF st).map kV = stepV st := by
  unfold keyF stepV
  rw [List.map_cons, List.map_map]
  rfl
theorem map_injN : ∀ {as bs : List Nat}, (as.map fun j : Nat => (Sum.inl (j : Int) : Key)) = bs.map (fun j : Nat => (Sum.inl (j : Int) : Key)) → as = bs
  | [], [], _ => rfl
  | [], _ :: _, h => by cases h
  | _ :: _, [], h => by cases h
  | a :: as, b :: bs, h => by
    rw [List.map_cons, List.map_cons] at h
    injection h with h1 h2
    injection h1 with h1
    rw [map_injN h2, show a = b by omega]
theorem keyF_inj {a b : Step} (h : keyF a = keyF b) : a = b := by
  obtain ⟨w, as⟩ := a
  obtain ⟨v, bs⟩ := b
  unfold keyF at h
  injection h with h1 h2
  injection h1 with h1
  dsimp only at h1 h2
  subst h1
  congr 1
  exact map_injN h2
def kvsOf : Nat → List Step → List (List Key × V)
  | _, [] => []
  | i, s :: ss => (keyF s, .int (i : Nat)) :: kvsOf (i + 1) ss
theorem kvsOf_snoc : ∀ (L : List Step) (i : Nat) (s : Step), kvsOf i (L ++ [s]) = kvsOf i L ++ [(keyF s, .int ((i + L.length : Nat) : Int))]
  | [], i, s => rfl
  | a :: L, i, s => by
    show (keyF a, V.int (i : Nat)) :: kvsOf (i + 1) (L ++ [s]) = _
    rw [kvsOf_snoc L (i + 1) s, List.length_cons, show i + 1 + L.length = i + (L.length + 1) by omega]
    rfl
theorem kvsOf_len : ∀ (L : List Step) (i : Nat), (kvsOf i L).length = L.length
  | [], _ => rfl
  | a :: L, i => by
    show (kvsOf (i + 1) L).length + 1 = _
    rw [kvsOf_len L (i + 1)]
    rfl
theorem kvsOf_val (st : Step) : ∀ (L : List Step) (i : Nat), valV (kvsOf i L) (keyF st) = if st ∈ L then some (.int ((i + L.idxOf st : Nat) : Int)) else none
  | [], _ => rfl
  | a :: L, i => by
    by_cases h : a = st
    · subst h
      rw [if_pos (List.mem_cons_self ..), List.idxOf_cons_self]
      exact valV_pos rfl
    · have hk : ¬ keyF a = keyF st := fun e => h (keyF_inj e)
      have e : valV (kvsOf i (a :: L)) (keyF st) = valV (kvsOf (i + 1) L) (keyF st) := by
        unfold valV
        show (((keyF a, V.int (i : Nat)) :: kvsOf (i + 1) L).find? fun kv => decide (kv.1 = keyF st)).map _ = _
        rw [List.find?_cons_of_neg (by simpa using hk)]
      rw [e, kvsOf_val st L (i + 1), show (a :: L).idxOf st = L.idxOf st + 1 by rw [List.idxOf_cons, show (a == st) = false by simpa using h]; rfl]
      by_cases hm : st ∈ L
      · rw [if_pos hm, if_pos (List.mem_cons_of_mem _ hm), show i + 1 + L.idxOf st = i + (L.idxOf st + 1) by omega]
      · rw [if_neg hm, if_neg (fun e => by rcases List.mem_cons.mp e with e | e; exact h e.symm; exact hm e)]
theorem kvsOf_put {st : Step} {L : List Step} (h : st ∉ L) (v : V) : putK (kvsOf 0 L) (keyF st) v = kvsOf 0 L ++ [(keyF st, v)] := by
  unfold putK
  have q : ∀ (L : List Step) (i : Nat), st ∉ L → ((kvsOf i L).any fun kv => decide (kv.1 = keyF st)) = false := by
    intro L
    induction L with
    | nil => intro i _; rfl
    | cons a L ih =>
      intro i hm
      rw [List.mem_cons, not_or] at hm
      show (decide (keyF a = keyF st) || _) = false
      rw [ih (i + 1) hm.2, decide_eq_false fun e => hm.1 (keyF_inj e).symm]
      rfl
  rw [q L 0 h]
  rfl
end L2.Wk
namespace L2.Wk
open PySem PySem.Spec PyProof.Rows
theorem iteTh {b : Bool} {A B : Prop} (h : b = true) (ha : A) : if b = true then A else B := by
  subst h
  exact iteT ha
theorem iteFh {b : Bool} {A B : Prop} (h : b = false) (hb : B) : if b = true then A else B := by
  subst h
  exact iteF hb
theorem SqT.upd_lst {K : PySem.W.Frag} {H : Hp} {x t : Addr} {xs ys : List V} {o : HO} (hx : H x = some (.lst xs)) (h : SqT K H t ys) : SqT K (L2.upd H x o) t ys := by
  rcases h with (h | ⟨ob, h⟩) | h
  · exact .inl (.inl (by rw [upd_ne (ne_of h hx (by intro z; cases z))]; exact h))
  · exact .inl (.inr ⟨ob, by rw [upd_ne (ne_of h hx (by intro z; cases z))]; exact h⟩)
  · exact .inr h
theorem SqT.upd_dT {K : PySem.W.Frag} {H : Hp} {x t : Addr} {kvs : List (List Key × V)} {ys : List V} {o : HO} (hx : H x = some (.dT kvs)) (h : SqT K H t ys) : SqT K (L2.upd H x o) t ys := by
  rcases h with (h | ⟨ob, h⟩) | h
  · exact .inl (.inl (by rw [upd_ne (ne_of h hx (by intro z; cases z))]; exact h))
  · exact .inl (.inr ⟨ob, by rw [upd_ne (ne_of h hx (by intro z; cases z))]; exact h⟩)
  · exact .inr h
theorem StepAt.upd {K : PySem.W.Frag} {H : Hp} {x : Addr} {xs : List V} {o : HO} (hx : H x = some (.lst xs)) {v : V} {st : Step} : StepAt K H v st → StepAt K (L2.upd H x o) v st := fun ⟨q, e, h⟩ => ⟨q, e, SqT.upd_lst hx h⟩
theorem StepAt.updT {K : PySem.W.Frag} {H : Hp} {x : Addr} {kvs : List (List Key × V)} {o : HO} (hx : H x = some (.dT kvs)) {v : V} {st : Step} : StepAt K H v st → StepAt K (L2.upd H x o) v st := fun ⟨q, e, h⟩ => ⟨q, e, SqT.upd_dT hx h⟩
theorem idx_snoc {st : Step} : ∀ {L : List Step}, st ∉ L → (L ++ [st]).idxOf st = L.length
  | [], _ => by simp [List.idxOf_cons]
  | a :: L, h => by
    rw [List.mem_cons, not_or] at h
    have h1 : (a == st) = false := by simpa using fun e : a = st => h.1 e.symm
    rw [List.cons_append, List.idxOf_cons, h1, List.length_cons, ← idx_snoc h.2]
    rfl
def spEach (K : PySem.W.Frag) : Sp := fun vs H Q _ => ∃ (l : Addr) (rs : List V) (S : List Step), vs = [.ref l] ∧ SqL K H l rs ∧ AllAt (StepAt K H) rs S ∧ S.length ≤ 1000 ∧ WfS S ∧ (∀ st ∈ S, st.2.length ≤ 2) ∧
  ∀ (t : Addr) (us : List V) H', SqT K H' t us → AllAt (StepAt K H') us (eachS S).1 → Same H H' → Q (.ref t) H'
section
variable {P : Program} {w : World} {K : PySem.W.Frag} {mg : Str → Option Value} {base : Heap} {g : Gf} {f : Addr} {fd : FuncData}
theorem ok_each (F : Fun K "_each_once" "_each_once" s_each_once f fd) (T : TxtG K mg g) : FnOk P w K mg base CX0 1 f fd ["steps"] (spEach K) := by
  refine F.ok sc_each_once (fun vs H Q E h => ?_) (fun cdv A outer s H vs Q E hr h => ?_)
  · obtain ⟨_, _, _, rfl, _⟩ := h
    rfl
  · obtain ⟨l, rs, S, rfl, hl, hA, hn, wf, ar, k⟩ := h
    refine ⟨_, (pss_cons (ps_set (i := 1) sc_each_once.nd rfl (Or.inl rfl) (pe_lst pa_nil))
    (pss_cons (ps_set (i := 2) sc_each_once.nd rfl (Or.inl rfl) pe_dnewT)
    (pss_cons (ps_set (i := 3) sc_each_once.nd rfl (Or.inr rfl) (pe_lst pa_nil))
    (pss_cons (ps_for PassesOwn.never rfl (pi_list (pv 0)) (pg_name (i := 4) sc_each_once.nd rfl (Or.inl rfl))
      (pss_cons (ps_set (i := 5) sc_each_once.nd rfl (Or.inl rfl) (pe_tup (pa_cons (pe_ix ix_tup (pv 4) pe_int (fun _ _ => rfl)) (StX.pa_star (pe_lc (own := [("at", 6)]) (g := gName 6) (tt := tYes) rfl sc_each_once.nd (pi_tup (pe_slice sl_tup (pv 4) (po_some pe_int) po_none)) (blkOk_by (N := N_each_once) (sc := defScope s_each_once) (by decide +kernel)) (fun _ _ _ _ _ => (pg_name (i := 6) sc_each_once.nd rfl (Or.inl rfl))) (fun _ _ _ _ _ => pts_nil) (fun _ _ _ _ _ => (pe_ix (ix_listK (K := K) rfl) (pv 3) (pv 6) (fun _ _ => rfl)))) pa_nil))))
      (pss_cons (ps_if (pt_cmp (pc_dnotin (Nat.lt_of_le_of_lt (Nat.add_le_add_left (by decide : 1 ≤ 64) _) hr.units) (pv 5) (pv 2)) (by rfl)) (pss_cons (ps_asg (pe_callB call_len (by rfl) T.b_len PySem.boot_len (pa_cons (pv 1) pa_nil)) (pg_sub (pv 2) (pv 5) (set_dict (Nat.lt_of_le_of_lt (Nat.add_le_add_left (by decide : 1 ≤ 64) _) hr.units))))
    (pss_one (ps_expr (pe_bm PySem.F.plainAttrs_list PySem.F.slot_list_append PySem.F.type_list_append mt_append (pv 1) (pa_cons (pv 5) pa_nil))))) pss_nil)
      (pss_one (ps_expr (pe_bm PySem.F.plainAttrs_list PySem.F.slot_list_append PySem.F.type_list_append mt_append (pv 3) (pa_cons (pe_dget (Nat.lt_of_le_of_lt (Nat.add_le_add_left (by decide : 1 ≤ 64) _) hr.units) (pv 2) (pv 5) (fun _ _ => rfl)) pa_nil)))))))
    (pss_one (ps_ret (pe_callTy call_tupS (by rfl) T.b_tuple (by decide +kernel) (pa_cons (pv 1) pa_nil)))))))), ?_⟩
    have hlen := hA.len
    refine ⟨by decide, fun pk hpk => ?_⟩
    have s1 := Same.upd_new (o := .lst []) hpk
    have hk1 : (upd H pk (.lst [])) pk = some (.lst []) := upd_same
    generalize upd H pk (.lst []) = H1 at s1 hk1 ⊢
    refine fun pp hpp => ?_
    have s2 := s1.trans (Same.upd_new (o := .dT []) hpp)
    have hk2 := (Same.upd_new (o := .dT []) hpp) _ _ hk1
    have hp2 : (upd H1 pp (.dT [])) pp = some (.dT []) := upd_same
    have pkp : pk ≠ pp := ne_of_none hk1 hpp
    have hpp0 : H pp = none := s1.free hpp
    generalize upd H1 pp (.dT []) = H2 at s2 hk2 hp2 ⊢
    refine ⟨by decide, fun pm hpm => ?_⟩
    have s3 := s2.trans (Same.upd_new (o := .lst []) hpm)
    have hk3 := (Same.upd_new (o := .lst []) hpm) _ _ hk2
    have hp3 := (Same.upd_new (o := .lst []) hpm) _ _ hp2
    have hm3 : (upd H2 pm (.lst [])) pm = some (.lst []) := upd_same
    have pkm : pk ≠ pm := ne_of_none hk2 hpm
    have ppm : pp ≠ pm := ne_of_none hp2 hpm
    have hpm0 : H pm = none := s2.free hpm
    generalize upd H2 pm (.lst []) = H3 at s3 hk3 hp3 hm3 ⊢
    refine ⟨_, rfl, l, rfl, ⟨_, Same.sqL s3 hl⟩, for_list (K := K) (a := l) (xs := rs) (fun i σ H' => ∃ (v4 v5 : Option V) (us : List V), σ = [some (.ref l), some (.ref pk), some (.ref pp), some (.ref pm), v4, v5, none] ∧ Same H H' ∧ H' pk = some (.lst us) ∧ AllAt (StepAt K H') us (eachS (S.take i)).1 ∧ H' pp = some (.dT (kvsOf 0 (eachS (S.take i)).1)) ∧ H' pm = some (.lst ((eachS (S.take i)).2.map fun j => V.int (j : Nat)))) ⟨_, _, [], rfl, s3, hk3, True.intro, hp3, hm3⟩ (fun i σ H' _ ⟨_, _, _, _, h, _⟩ => Same.sqL h hl) ?_ ?_⟩
    · rintro i x σ H4 hx ⟨v4, v5, us, rfl, s4, hk4, hU, hp4, hm4⟩
      obtain ⟨st, hst, q, rfl, hq0⟩ := hA.get hx
      have hi : i < S.length := (List.getElem?_eq_some_iff.mp hst).1
      have har := ar _ (List.mem_of_getElem? hst)
      have wfi := wf i _ hst
      have et := eachS_take S i st hst
      obtain ⟨ml, kl⟩ := eachS_lens (S.take i)
      rw [List.length_take] at ml kl
      obtain ⟨w, args⟩ := st
      dsimp only at har wfi
      have hq : SqT K H4 q (.str w :: args.map fun j => V.int (j : Nat)) := Same.sqT s4 hq0
      generalize eachS (S.take i) = d at *
      refine ⟨_, rfl, _, _, _, _, rfl, rfl, hq, atI_nat (j := 0) rfl, _, rfl, _, rfl, q, _, rfl, hq, ?_, fun tq htq => ?_⟩
      · rw [List.length_cons]
        exact not_all1 _
      rw [cut_one]
      have s5 := Same.upd_new (o := .tup (args.map fun j => V.int (j : Nat))) htq
      have htq5 : SqT K (upd H4 tq (.tup (args.map fun j => V.int (j : Nat)))) tq (args.map fun j => V.int (j : Nat)) := .inl (.inl upd_same)
      generalize upd H4 tq (.tup (args.map fun j => V.int (j : Nat))) = H5 at s5 htq5 ⊢
      have hm5 := s5 _ _ hm4
      refine ⟨tq, rfl, ⟨_, htq5⟩, fun D hD => ?_⟩
      refine lc_tup (K := K) (a := tq) (xs := args.map fun j => V.int (j : Nat)) (fun j H' => Same H5 H' ∧ H' D = some (.lst ((args.take j).map fun a => V.int ((d.2.getD a 0 : Nat) : Int)))) ⟨Same.upd_new hD, upd_same⟩ (fun j H' _ h => Same.sqT h.1 htq5) ?_ ?_
      · rintro j y H' hy ⟨t1, d1⟩
        rw [List.getElem?_map] at hy
        obtain ⟨a, ha, rfl⟩ := Option.map_eq_some_iff.mp hy
        have hj : j < args.length := (List.getElem?_eq_some_iff.mp ha).1
        have hai : a < d.2.length := by
          have := wfi a (List.mem_of_getElem? ha)
          omega
        have e2 : d.2.getD a 0 = d.2[a] := by
          rw [List.getD_eq_getElem?_getD, List.getElem?_eq_getElem hai]
          rfl
        refine ⟨rfl, _, rfl, _, rfl, pm, _, _, _, rfl, rfl, .inl (.inl (t1 _ _ hm5)), atI_nat (by rw [List.getElem?_map, List.getElem?_eq_getElem hai]; rfl), ?_⟩
        refine ⟨_, d1, ?_, fun b o e => ?_, ?_⟩
        · rw [List.length_map, List.length_take]
          exact small1000 (by omega)
        · rw [upd_ne (ne_of_none e hD)]
          exact t1 b o e
        · rw [List.take_add_one, ha, List.map_append]
          show _ = some (HO.lst (_ ++ [V.int ((d.2.getD a 0 : Nat) : Int)]))
          rw [e2]
          exact upd_same
      · rintro H6 ⟨t1, d1⟩
        rw [List.length_map, List.take_length] at d1
        have s6 := s5.trans t1
        refine ⟨D, _, rfl, .inr (.inl (.inl d1)), ?_, fun tn htn => ?_⟩
        · show (_ ++ []).length + 1 ≤ _
          rw [List.append_nil, List.length_map]
          exact len1000 (by omega)
        rw [List.append_nil]
        have ek : HO.tup (V.str w :: args.map fun a => V.int ((d.2.getD a 0 : Nat) : Int)) = HO.tup ((keyF (newS d.2 (w, args))).map kV) := by
          rw [keyF_v]
          unfold stepV newS
          rw [List.map_map]
          rfl
        rw [ek]
        have s7 := s6.trans (Same.upd_new (o := .tup ((keyF (newS d.2 (w, args))).map kV)) htn)
        have htn7 : (upd H6 tn (.tup ((keyF (newS d.2 (w, args))).map kV))) tn = some (.tup ((keyF (newS d.2 (w, args))).map kV)) := upd_same
        generalize upd H6 tn (.tup ((keyF (newS d.2 (w, args))).map kV)) = H7 at s7 htn7 ⊢
        have hk7 := s7 _ _ hk4
        have hp7 := s7 _ _ hp4
        have hm7 := s7 _ _ hm4
        replace hU := hU.imp (StepAt.same s7)
        replace s4 := s4.trans s7
        have ev := kvsOf_val (newS d.2 (w, args)) d.1 0
        unfold eStep at et
        generalize newS d.2 (w, args) = nw at *
        refine ⟨_, rfl, _, rfl, pp, _, rfl, DGet.t hp7 htn7, _, rfl, ?_⟩
        rw [ev]
        have hul := hU.len
        by_cases hm : nw ∈ d.1
        · rw [if_pos hm] at et
          refine iteFh (by rw [if_pos hm]; rfl) ?_
          have g : DGet H7 pp (.ref tn) (some (.int ((0 + d.1.idxOf nw : Nat) : Int))) := by
            have := DGet.t hp7 htn7
            rw [ev, if_pos hm] at this
            exact this
          refine ⟨_, rfl, .inl ⟨rfl, _, .inl (.inl hm7)⟩, _, rfl, _, rfl, pp, _, rfl, g, pm, _, _, rfl, rfl, hm7, ?_, ?_⟩
          · rw [List.length_map]
            exact small1000 (by omega)
          · have ne : ∀ b o, H7 b = some o → b ≠ pm → (upd H7 pm (.lst ((d.2.map fun j => V.int (j : Nat)) ++ [V.int ((0 + d.1.idxOf nw : Nat) : Int)]))) b = some o := fun b o e hb => by rw [upd_ne hb]; exact e
            refine ⟨_, _, us, rfl, fun b o e => ne b o (s4 b o e) (ne_of_none e hpm0), ne _ _ hk7 pkm, ?_, ?_, ?_⟩
            · rw [et]
              exact hU.imp fun v st h => StepAt.upd hm7 h
            · rw [et]
              exact ne _ _ hp7 ppm
            · rw [et, List.map_append]
              show _ = some (HO.lst (_ ++ [V.int ((d.1.idxOf nw : Nat) : Int)]))
              rw [show ((0 + d.1.idxOf nw : Nat) : Int) = ((d.1.idxOf nw : Nat) : Int) by omega]
              exact upd_same
        · rw [if_neg hm] at et
          refine iteTh (by rw [if_neg hm]; rfl) ?_
          refine ⟨_, rfl, _, us.length, rfl, .inl ⟨_, .inl (.inl hk7), rfl⟩, _, rfl, _, rfl, pp, _, rfl, DPut.t hp7 htn7 (by rw [kvsOf_len]; exact small1000 (by omega)), ?_⟩
          rw [kvsOf_put hm, hul]
          have e8 : kvsOf 0 d.1 ++ [(keyF nw, V.int (d.1.length : Nat))] = kvsOf 0 (d.1 ++ [nw]) := by
            rw [kvsOf_snoc, Nat.zero_add]
          rw [e8]
          have n8 : ∀ b o, H7 b = some o → b ≠ pp → (upd H7 pp (.dT (kvsOf 0 (d.1 ++ [nw])))) b = some o := fun b o e hb => by rw [upd_ne hb]; exact e
          have hp8 : (upd H7 pp (.dT (kvsOf 0 (d.1 ++ [nw])))) pp = some (.dT (kvsOf 0 (d.1 ++ [nw]))) := upd_same
          have hk8 := n8 _ _ hk7 pkp
          have hm8 := n8 _ _ hm7 ppm.symm
          have htn8 := n8 _ _ htn7 (by intro e; rw [e, hp7] at htn7; cases htn7)
          have hU8 : AllAt (StepAt K (upd H7 pp (.dT (kvsOf 0 (d.1 ++ [nw]))))) us d.1 := hU.imp fun v st h => StepAt.updT hp7 h
          have s8 : ∀ b o, H b = some o → (upd H7 pp (.dT (kvsOf 0 (d.1 ++ [nw])))) b = some o := fun b o e => n8 b o (s4 b o e) (ne_of_none e hpp0)
          generalize upd H7 pp (.dT (kvsOf 0 (d.1 ++ [nw]))) = H8 at n8 hp8 hk8 hm8 htn8 hU8 s8 ⊢
          refine ⟨_, rfl, .inl ⟨rfl, _, .inl (.inl hk8)⟩, _, rfl, pk, _, _, rfl, rfl, hk8, ?_, ?_⟩
          · rw [hul]
            exact small1000 (by omega)
          have n9 : ∀ b o, H8 b = some o → b ≠ pk → (upd H8 pk (.lst (us ++ [.ref tn]))) b = some o := fun b o e hb => by rw [upd_ne hb]; exact e
          have hk9 : (upd H8 pk (.lst (us ++ [.ref tn]))) pk = some (.lst (us ++ [.ref tn])) := upd_same
          have hp9 := n9 _ _ hp8 pkp.symm
          have hm9 := n9 _ _ hm8 pkm.symm
          have htn9 := n9 _ _ htn8 (by intro e; rw [e, hk8] at htn8; cases htn8)
          have hU9 : AllAt (StepAt K (upd H8 pk (.lst (us ++ [.ref tn])))) us d.1 := hU8.imp fun v st h => StepAt.upd hk8 h
          have s9 : ∀ b o, H b = some o → (upd H8 pk (.lst (us ++ [.ref tn]))) b = some o := fun b o e => n9 b o (s8 b o e) (ne_of_none e hpk)
          generalize upd H8 pk (.lst (us ++ [.ref tn])) = H9 at n9 hk9 hp9 hm9 htn9 hU9 s9 ⊢
          have g : DGet H9 pp (.ref tn) (some (.int (d.1.length : Nat))) := by
            have := DGet.t hp9 htn9
            rw [kvsOf_val, if_pos (List.mem_append_right _ (List.mem_singleton.mpr rfl)), idx_snoc hm, Nat.zero_add] at this
            exact this
          refine ⟨_, rfl, .inl ⟨rfl, _, .inl (.inl hm9)⟩, _, rfl, _, rfl, pp, _, rfl, g, pm, _, _, rfl, rfl, hm9, ?_, ?_⟩
          · rw [List.length_map]
            exact small1000 (by omega)
          · have ne : ∀ b o, H9 b = some o → b ≠ pm → (upd H9 pm (.lst ((d.2.map fun j => V.int (j : Nat)) ++ [V.int (d.1.length : Nat)]))) b = some o := fun b o e hb => by rw [upd_ne hb]; exact e
            refine ⟨_, _, us ++ [.ref tn], rfl, fun b o e => ne b o (s9 b o e) (ne_of_none e hpm0), ne _ _ hk9 pkm, ?_, ?_, ?_⟩
            · rw [et]
              refine AllAt.app (hU9.imp fun v st h => StepAt.upd hm9 h) ⟨StepAt.upd hm9 ⟨tn, rfl, ?_⟩, True.intro⟩
              rw [← keyF_v]
              exact .inl (.inl htn9)
            · rw [et]
              exact ne _ _ hp9 ppm
            · rw [et, List.map_append]
              exact upd_same
    · rintro σ H4 ⟨v4, v5, us, rfl, s4, hk4, hU, hp4, hm4⟩
      rw [hlen, List.take_length] at hU
      refine ⟨_, rfl, ?_⟩
      dsimp only [tNil]
      refine rTup_of (K := K) (a := pk) (xs := us) (.inl (.inl (.inl hk4))) fun t H5 h5 s5 => ?_
      exact k t us H5 h5 (hU.imp (StepAt.same s5)) (s4.trans s5)
end
end L2.Wk
namespace L2.Wk
open PySem PySem.Spec PyProof.Rows
abbrev s_Formula_init : Stmt := inClass (top 16) 0
abbrev N_Formula_init : List Str := ["self", "steps", "step"]
theorem sc_Formula_init : FnScope N_Formula_init ["self", "steps"] (defScope s_Formula_init) := ⟨rfl, rfl, rfl, by decide +kernel, rfl, by decide +kernel, by decide +kernel⟩
abbrev s_Formula_str : Stmt := inClass (top 16) 16
abbrev N_Formula_str : List Str := ["self"]
theorem sc_Formula_str : FnScope N_Formula_str ["self"] (defScope s_Formula_str) := ⟨rfl, rfl, rfl, by decide +kernel, rfl, by decide +kernel, by decide +kernel⟩
theorem exm_two {K : PySem.W.Frag} {S C : Addr} (h1 : PySem.W.subIn K (.ref C) (.type "BaseException") = some true) (h2 : PySem.W.isClsIn K C = true) (h3 : PySem.W.typeIn K (.ref C) = some (.type "type")) (h4 : PySem.W.subIn K (.ref S) (.ref C) = some true) :
    PySem.W.exmOne K (.ref S) (.ref C) = some true := by
  have e1 : (PySem.W.subIn K (.ref C) (.type "BaseException") == some true) = true := by rw [h1] <;> rfl
  have e2 : ((PySem.W.clsIn K C).isSome && PySem.W.typeIn K (.ref C) == some (.type "type")) = true := by
    have h2' : (PySem.W.clsIn K C).isSome = true := h2
    rw [h2', h3] <;> rfl
  show (if (PySem.W.subIn K (.ref C) (.type "BaseException") == some true) = true then (if ((PySem.W.clsIn K C).isSome && PySem.W.typeIn K (.ref C) == some (.type "type")) = true then PySem.W.subIn K (.ref S) (.ref C) else none) else none) = some true
  rw [if_pos e1, if_pos e2]
  exact h4
def signsV : List Str := txts ["&", "|", "^", "~"]
def constV : List Str := txts ["0", "1"]
theorem putF_len_lt {f : Str} {v : V} : ∀ {l : List (Str × V)} {n : Nat}, l.length < n → (putF f v l).length < n + 1
  | [], n, h => by
    show 1 < n + 1
    simp only [List.length_nil] at h
    omega
  | (g, u) :: l, n, h => by
    unfold putF
    split
    · simp only [List.length_cons] at h ⊢
      omega
    · simp only [List.length_cons] at h ⊢
      cases n with
      | zero => omega
      | succ n =>
        have := putF_len_lt (f := f) (v := v) (l := l) (n := n) (by omega)
        omega
def formF (ts tn : Addr) : List (Str × V) := putF "names" (.ref tn) (putF "steps" (.ref ts) [])
/-- an instance written anew: the tuples stand -/
theorem SqT.upd_ins {K : PySem.W.Frag} {H : Hp} {p t C dx : Addr} {fs : List (Str × V)} {o : HO} {xs : List V} (hp : H p = some (.ins C dx fs)) (h : SqT K H t xs) : SqT K (upd H p o) t xs := by
  have q : ∀ u : HO, (∀ C dx fs, u ≠ .ins C dx fs) → H t = some u → (upd H p o) t = some u := fun u hu e => by
    have : t ≠ p := by
      intro e2
      rw [e2, hp] at e
      exact hu _ _ _ (Option.some.inj e).symm
    rw [upd_ne this]
    exact e
  rcases h with (h | ⟨ob, h⟩) | h
  · exact .inl (.inl (q _ (fun _ _ _ z => by cases z) h))
  · exact .inl (.inr ⟨ob, q _ (fun _ _ _ z => by cases z) h⟩)
  · exact .inr h
theorem made_same {H : Hp} {x dx C : Addr} (nx : H x = none) (nd : H dx = none) : Same H (upd (upd H dx (.own x)) x (.ins C dx [])) := fun b o e => by
  rw [upd_ne (ne_of_none e nx), upd_ne (ne_of_none e nd)]
  exact e
theorem made_keep {H H' : Hp} {x dx C : Addr} (nx : H x = none) (nd : H dx = none) (k : ∀ b o, (upd (upd H dx (.own x)) x (.ins C dx [])) b = some o → b ≠ x → H' b = some o) : Same H H' := fun b o e => k b o (made_same nx nd b o e) (ne_of_none e nx)
theorem ok_calm {P : Program} {w : World} {K : PySem.W.Frag} {mg : Str → Option Value} {base : Heap} {k : Nat} {f : Addr} {fd : FuncData} {ps : List Str} {sp sp' : Sp} (F : FnOk P w K mg base (L2.CX P w) k f fd ps sp)
    (h : ∀ vs H Q E, sp' vs H Q E → sp vs H Q (fun _ _ _ => False)) : FnOk P w K mg base CX0 k f fd ps sp' :=
  ⟨fun vs H Q E q => F.len vs H Q _ (h _ _ _ _ q), fun A outer s H args us vs Q E hr he hb hv hs => codeAny_mono (F.run A outer s H args us vs Q _ hr he hb hv (h _ _ _ _ hs)) fun r s' hq => by
    cases r with
    | ok fl => cases fl <;> exact hq
    | error e =>
      obtain ⟨_, _, _, _, _, _, _, _, _, _, _, _, z⟩ := hq
      exact z.elim⟩

/-! ### any formula -/
structure Fg where
  Formula : Addr
  fInit : Addr
  SIGNS : Addr
  ses : Array DictEntry
  sn : Nat
  CONSTANTS : Addr
  str : Addr
def arityW (z : Str) : Nat := if z ∈ signsV then (if z = Str.ofString "~" then 1 else 2) else 0
def namesS (S : List Step) : List Str := (S.map Prod.fst).filter fun z => !decide (z ∈ signsV) && !decide (z ∈ constV)
structure FoAt (K : PySem.W.Frag) (C : Addr) (H : Hp) (p : Addr) (S : List Step) : Prop where
  ex : ∃ (dx ts tn : Addr) (rs : List V) (ns : List Str), H p = some (.ins C dx (formF ts tn)) ∧ SqT K H ts rs ∧ AllAt (StepAt K H) rs S ∧ SqT K H tn (ns.map V.str) ∧ Asc ns (namesS S)
theorem FoAt.same {K : PySem.W.Frag} {C : Addr} {H H' : Hp} {p : Addr} {S : List Step} (s : Same H H') (h : FoAt K C H p S) : FoAt K C H' p S := by
  obtain ⟨dx, ts, tn, rs, ns, h1, h2, h3, h4, h5⟩ := h.ex
  exact ⟨dx, ts, tn, rs, ns, s _ _ h1, Same.sqT s h2, h3.imp (StepAt.same s), Same.sqT s h4, h5⟩
structure TxtFg (K : PySem.W.Frag) (w : World) (mg : Str → Option Value) (a : Wf) (g : Gf) (c : Fg) : Prop extends TxtW K mg a where
  cl : Cls K c.Formula
  M : Mk K c.Formula c.fInit
  g_Formula : mg "Formula" = some (.ref c.Formula)
  g_SIGNS : mg "SIGNS" = some (.ref c.SIGNS)
  d_SIGNS : KDict K w c.SIGNS c.ses c.sn
  m_SIGNS : ∀ z, z ∉ signsV → PySem.W.nsIn K c.SIGNS z = some none
  h_SIGNS : ∀ z ∈ signsV, ∃ u, PySem.W.nsIn K c.SIGNS z = some (some u) ∧ RelV (.int (arityW z : Nat)) u
  g_CONSTANTS : mg "CONSTANTS" = some (.ref c.CONSTANTS)
  s_CONSTANTS : ∀ H, SqT K H c.CONSTANTS (constV.map V.str)
  n_steps : NoAttr K c.Formula "steps"
  n_names : NoAttr K c.Formula "names"
  g__text : mg "_text" = some (.ref g.text)
  k__text : PySem.W.keepIn K (.ref g.text) = true
theorem StepAt.upd_ins {K : PySem.W.Frag} {H : Hp} {p C dx : Addr} {fs : List (Str × V)} {o : HO} (hp : H p = some (.ins C dx fs)) (v : V) (st : Step) : StepAt K H v st → StepAt K (L2.upd H p o) v st := fun ⟨q, e, h⟩ => ⟨q, e, SqT.upd_ins hp h⟩
theorem TxtFg.sig {K : PySem.W.Frag} {w : World} {mg : Str → Option Value} {a : Wf} {g : Gf} {c : Fg} (T : TxtFg K w mg a g c) (z : Str) : ∃ r, PySem.W.nsIn K c.SIGNS z = some r ∧ r.isSome = decide (z ∈ signsV) ∧ ∀ f, RelV (.int 0) f → RelV (.int (arityW z : Nat)) (r.getD f) := by
  by_cases h : z ∈ signsV
  · obtain ⟨u, h1, h2⟩ := T.h_SIGNS z h
    exact ⟨some u, h1, (decide_eq_true h).symm, fun f _ => h2⟩
  · refine ⟨none, T.m_SIGNS z h, (decide_eq_false h).symm, fun f hf => ?_⟩
    unfold arityW
    rw [if_neg h]
    exact hf
def spFormG (K : PySem.W.Frag) (c : Fg) : Sp := fun vs H Q _ => ∃ (p dx ts : Addr) (rs : List V) (S : List Step), vs = [.ref p, .ref ts] ∧ H p = some (.ins c.Formula dx []) ∧ SqT K H ts rs ∧ AllAt (StepAt K H) rs S ∧ S.length ≤ 1000 ∧ (∃ ds : List Str, (∀ x ∈ namesS S, x ∈ ds) ∧ ds.length < 64) ∧
  ∀ H', FoAt K c.Formula H' p S → (∀ b o, H b = some o → b ≠ p → H' b = some o) → Q .non H'
section
variable {P : Program} {w : World} {K : PySem.W.Frag} {mg : Str → Option Value} {base : Heap} {a : Wf} {g : Gf} {c : Fg} {f : Addr} {fd : FuncData}
theorem inV_sgn (z : Str) (ys : List Str) : inV (.str z) (ys.map V.str) = decide (z ∈ ys) := by
  unfold inV
  induction ys with
  | nil => rfl
  | cons y ys ih =>
    rw [List.map_cons, List.any_cons, ih]
    show ((y == z) || decide (z ∈ ys)) = _
    by_cases h : z = y
    · subst h
      simp
    · have h' : ¬ y = z := fun e => h e.symm
      simp [h, h']
theorem names_take (S : List Step) (i : Nat) (st : Step) (h : S[i]? = some st) : namesS (S.take (i + 1)) = namesS (S.take i) ++ if (!decide (st.1 ∈ signsV) && !decide (st.1 ∈ constV)) = true then [st.1] else [] := by
  unfold namesS
  rw [List.take_add_one, h, List.map_append, List.filter_append]
  congr 1
  show List.filter _ [st.1] = _
  rw [List.filter_cons]
  rfl
theorem names_le (S : List Step) : (namesS S).length ≤ S.length := by
  unfold namesS
  refine Nat.le_trans (List.length_filter_le _ _) ?_
  rw [List.length_map]
  exact Nat.le_refl _
theorem ok_FormG {f1 : FuncData} (F : Fun K "__init__" "Formula.__init__" s_Formula_init f fd) (T : TxtFg K w mg a g c) (G_ascending : FnOk P w K mg base CX0 1 a.ascending f1 ["names"] (spAsc K)) (b_ascending : Binds K f1 ["names"] []) :
    FnOk P w K mg base CX0 2 f fd ["self", "steps"] (spFormG K c) := by
  refine F.ok sc_Formula_init (fun vs H Q E h => ?_) (fun cdv A outer s H vs Q E hr h => ?_)
  · obtain ⟨_, _, _, _, _, rfl, _⟩ := h
    rfl
  · obtain ⟨p, dx, ts, rs, S, rfl, hp, hts, hA, hn, hfew, k⟩ := h
    refine ⟨_, (pss_cons (ps_fld (pv 0) (pv 1) rfl)
    (pss_one (ps_fld (pv 0) (pe_call G_ascending (hr.mono (by decide)) rfl T.g_ascending T.k_ascending b_ascending .nil pass0 (pa_cons (pe_lc (own := [("step", 2)]) (g := gName 2) rfl sc_Formula_init.nd (pi_tup (pv 1)) (blkOk_by (N := N_Formula_init) (sc := defScope s_Formula_init) (by decide +kernel)) (fun _ _ _ _ _ => (pg_name (i := 2) sc_Formula_init.nd rfl (Or.inl rfl))) (fun _ _ _ _ _ => (pts_one (PW.pt (pw_and (pt_cmpR (op_notIn_kdK (K := K) rfl rfl T.d_SIGNS) (pe_ix (ix_tupK (K := K) rfl) (pv 2) pe_int (fun _ _ => rfl)) (pe_gr rfl T.g_SIGNS) (by rfl)) (pw_and1 (pt_cmpR (op_notIn_seqK (K := K) rfl) (pe_ix (ix_tupK (K := K) rfl) (pv 2) pe_int (fun _ _ => rfl)) (pe_gr rfl T.g_CONSTANTS) (by rfl))))))) (fun _ _ _ _ _ => (pe_ix (ix_tupK (K := K) rfl) (pv 2) pe_int (fun _ _ => rfl)))) pa_nil)) rfl))), ?_⟩
    have hlen := hA.len
    refine ⟨_, rfl, _, rfl, p, c.Formula, dx, _, rfl, hp, T.cl, T.n_steps, (by show 0 < 1000; decide), ?_⟩
    have hp1 : (upd H p (.ins c.Formula dx (putF "steps" (.ref ts) []))) p = some (.ins c.Formula dx (putF "steps" (.ref ts) [])) := upd_same
    have k1 : ∀ b o, H b = some o → b ≠ p → (upd H p (.ins c.Formula dx (putF "steps" (.ref ts) []))) b = some o := fun b o e ne => by rw [upd_ne ne]; exact e
    replace hts := SqT.upd_ins (o := .ins c.Formula dx (putF "steps" (.ref ts) [])) hp hts
    replace hA := hA.imp (StepAt.upd_ins (K := K) (o := .ins c.Formula dx (putF "steps" (.ref ts) [])) hp)
    generalize upd H p (.ins c.Formula dx (putF "steps" (.ref ts) [])) = H1 at hp1 k1 hts hA ⊢
    refine ⟨_, rfl, ts, rfl, ⟨_, hts⟩, fun D hD => ?_⟩
    refine lc_tup (K := K) (a := ts) (xs := rs) (fun i H' => Same H1 H' ∧ H' D = some (.lst ((namesS (S.take i)).map V.str))) ⟨Same.upd_new hD, upd_same⟩ (fun i H' _ h => Same.sqT h.1 hts) ?_ ?_
    · rintro i x H' hx ⟨s1, d1⟩
      obtain ⟨st, hst, q, rfl, hq0⟩ := hA.get hx
      have h0 := Same.sqT s1 hq0
      have hi : i < S.length := (List.getElem?_eq_some_iff.mp hst).1
      have tk := names_take S i st hst
      obtain ⟨r, r1, r2, _⟩ := T.sig st.1
      refine ⟨rfl, ?_⟩
      refine ⟨_, rfl, _, _, _, _, rfl, rfl, h0, atI_nat (j := 0) rfl, st.1, r, rfl, rfl, r1, _, rfl, ?_⟩
      rw [r2]
      cases e1 : decide (st.1 ∈ signsV) with
      | true =>
        refine iteFh rfl ⟨s1, ?_⟩
        rw [tk, e1, d1]
        simp
      | false =>
      refine iteTh rfl ?_
      refine ⟨_, rfl, _, _, _, _, rfl, rfl, h0, atI_nat (j := 0) rfl, _, _, rfl, .inr (T.s_CONSTANTS _), rfl, flat_txts _, _, rfl, ?_⟩
      show if (!inV (V.str st.1) (constV.map V.str)) = true then _ else _
      rw [inV_sgn]
      cases e2 : decide (st.1 ∈ constV) with
      | true =>
        refine iteFh rfl ⟨s1, ?_⟩
        rw [tk, e1, e2, d1]
        simp
      | false =>
      refine iteTh rfl ?_
      refine ⟨_, rfl, _, _, _, _, rfl, rfl, h0, atI_nat (j := 0) rfl, _, d1, ?_, ?_, ?_⟩
      · rw [List.length_map]
        have := names_le (S.take i)
        rw [List.length_take] at this
        exact small1000 (by omega)
      · intro b o e
        rw [upd_ne (ne_of_none e hD)]
        exact s1 b o e
      · rw [tk, e1, e2, List.map_append]
        exact upd_same
    · rintro H2 ⟨s1, d1⟩
      rw [hlen, List.take_length] at d1
      refine ⟨D, namesS S, rfl, .inl (.inl d1), Nat.le_trans (names_le S) (by omega), hfew, fun tn ys H3 ht hasc s3 => ?_⟩
      have s13 := s1.trans s3
      have hp3 := s13 _ _ hp1
      refine ⟨_, rfl, p, c.Formula, dx, _, rfl, hp3, T.cl, T.n_names, putF_len_lt (by show 0 < 999; decide), ?_⟩
      refine k _ ⟨dx, ts, tn, rs, ys, upd_same, SqT.upd_ins hp3 (Same.sqT s13 hts), (hA.imp (StepAt.same s13)).imp (StepAt.upd_ins (K := K) hp3), SqT.upd_ins hp3 ht, hasc⟩ fun b o e ne => ?_
      rw [upd_ne ne]
      exact s13 _ _ (k1 b o e ne)
theorem form_fld (ts tn : Addr) : (formF ts tn).lookup (Str.ofString "steps") = some (V.ref ts) ∧ (formF ts tn).lookup (Str.ofString "names") = some (V.ref tn) := by
  unfold formF
  have d : ∀ x y : String, (decide (Str.ofString x = Str.ofString y)) = decide (Str.ofString x = Str.ofString y) := fun _ _ => rfl
  simp only [lookup_putF]
  refine ⟨?_, ?_⟩
  · rw [if_neg (by decide +kernel), if_pos True.intro]
  · rw [if_pos True.intro]
def spStrG (K : PySem.W.Frag) (c : Fg) : Sp := fun vs H Q _ => ∃ (p : Addr) (S : List Step), vs = [.ref p] ∧ FoAt K c.Formula H p S ∧ S ≠ [] ∧ S.length ≤ 1000 ∧ WfS S ∧ (∀ st ∈ S, st.2.length ≤ 2) ∧ (∀ ws ∈ wordsL S, (ws.map fun x => x.length).sum + ws.length ≤ 100000) ∧ ∀ H', Same H H' → Q (.str (txtW ((wordsL S).getLastD []))) H'
theorem ok_strG {f1 : FuncData} (F : Fun K "__str__" "Formula.__str__" s_Formula_str f fd) (T : TxtFg K w mg a g c) (G__text : FnOk P w K mg base CX0 1 g.text f1 ["steps"] (spTextG K)) (b__text : Binds K f1 ["steps"] []) :
    FnOk P w K mg base CX0 2 f fd ["self"] (spStrG K c) := by
  refine F.ok sc_Formula_str (fun vs H Q E h => ?_) (fun cdv A outer s H vs Q E hr h => ?_)
  · obtain ⟨_, _, rfl, _⟩ := h
    rfl
  · obtain ⟨p, S, rfl, hp, h1, h2, h3, h4, h5, k⟩ := h
    refine ⟨_, (pss_one (ps_ret (pe_callTy SkE.call_str_str (by rfl) T.b_str (by decide +kernel) (pa_cons (pe_call G__text (hr.mono (by decide)) rfl T.g__text T.k__text b__text .nil pass0 (pa_cons (pe_fld (pv 0) rfl) pa_nil)) pa_nil)))), ?_⟩
    obtain ⟨dx, ts, tn, rs, ns, q1, q2, q3, q4, q5⟩ := hp.ex
    refine ⟨_, rfl, p, c.Formula, dx, _, _, rfl, q1, T.cl, T.n_steps, (form_fld ts tn).1, ts, rs, S, rfl, q2, q3, h1, h2, h3, h4, h5, fun H1 s1 => ?_⟩
    exact ⟨_, rfl, k _ s1⟩
end
end L2.Wk
namespace PySem
namespace LowX_InvalidText
open PySem.W PySem.Calls PyProof.Rows PySem.HandSPX
/-! ### the text of __init__ -/
def iA (p1 p2 : Pos) : Arguments := { posonlyargs := [], args := [{ arg := "self", annotation := none, pos := p1 }, { arg := "at", annotation := none, pos := p2 }], vararg := none, kwonlyargs := [], kw_defaults := [], kwarg := none, defaults := [] }
def iB (q1 q2 q3 q4 : Pos) : List Stmt := [.Assign [.Attribute (.Name "self" q1) "at" q2] (.Name "at" q3) q4]
def iS : Scope := { kind := .function, names := [(PySem.Str.ofString "self", .local), (PySem.Str.ofString "at", .local)], isGenerator := false, isCoroutine := false, more := [] }
/-- what the written part says of Low, at C, and of its __init__, at fI -/
structure LowTxt_InvalidText (K : Frag) (mg : Str → Option Value) (C fI : Addr) : Prop where
  gC : mg "InvalidText" = some (.ref C)
  cls : ∃ nm q N bs bm sn sub ab col dd k0 k1 k2 k3 k5, K.lookup C = some (excClassObj nm q C N bs bm true sn sub ab col dd k0 k1 k2 k3 k5 "ValueError.__new__") ∧ refsVE bm = true
  sa : findIn K (.ref C) "__setattr__" = some (some (.builtin "object.__setattr__"))
  ga : findIn K (.ref C) "__getattribute__" = some (some (.builtin "BaseException.__getattribute__"))
  gg : findIn K (.ref C) "__getattr__" = some none
  noN : findIn K (.ref C) "at" = some none
  iC : findIn K (.ref C) "__init__" = some (some (.ref fI))
  tC : typeIn K (.ref fI) = some (.type "function")
  kC : keepIn K (.ref C) = true
  exC : subIn K (.ref C) (.type "BaseException") = some true
  tyC : typeIn K (.ref C) = some (.type "type")
  hdC : hasDictIn K C = true
  te : exmOne K (.ref C) (.ref C) = some true
  fn : ∃ (oc : Value) (od : Option Addr) (doc pm : Value) (an : Option Addr) (cdv ct : Value) (osl : Array (Option Value)) (p1 p2 q1 q2 q3 q4 : Pos),
    K.lookup fI = some ⟨oc, od, .func (fnOf "__init__" "InvalidText.__init__" (iA p1 p2) (iB q1 q2 q3 q4) iS .none .none doc pm an cdv ct), osl⟩ ∧ codeIn K cdv "InvalidText.__init__" = true
theorem one_size_InvalidText (v : Value) : [v].length ≤ sizeLine := by
  rw [sizeLine_eq]
  exact (by decide : 1 ≤ 16777216)
theorem kept_but_InvalidText {K : Frag} {h h' : Heap} {x : Addr} (X : K.In h) (hx : K.lookup x = none) (k : ∀ b o, b ≠ x → h.get? b = some o → h'.get? b = some o) : K.In h' := fun a o e =>
  k a o (fun z => by rw [z, hx] at e; cases e) (X a o e)
theorem ldC_InvalidText {M : Model} {s : Shared} {name : Str} {scope : Scope} {L a : Addr} {cd : Value} {m : Str → Option Value} {x : Str} {pos : Pos} {v : Value} {Q : Value → Shared → Prop} {A : Around} {E : Value → Shared → Prop} (hn : s.heap.Ns L m) (hv : m x = some v) (h : Q v s)
    (hk : scope.kind = .function := by rfl) (hl : (envOfC name scope L a cd).kindOf x = some .local := by rfl) (hd : (x == ("__debug__" : Str)) = false := by decide) :
    wpAny M A (eval (.Name x pos) (envOfC name scope L a cd)) Q E s := wpAny_Name (wpAny_loadName_local hk hl hn hv h) hd
/-- what __init__ leaves of a fresh exception at x -/
structure InitEnd_InvalidText (h h' : Heap) (x C dx t1 : Addr) (v : Value) : Prop where
  keep : ∀ b o, b ≠ x → h.get? b = some o → h'.get? b = some o
  obj : h'.get? x = some { cls := .ref C, dict := some dx, data := .fields #[.ref t1, .none, .none, .none, .bool false, .none] }
  dbig : h.objs.size ≤ dx
  dne : dx ≠ x
  ns : h'.Ns1 dx (fun y => if y = "at" then some v else none)
structure OwnMade_InvalidText (h h' : Heap) (e C d : Addr) (v : Value) : Prop where
  keep : ∀ b o, h.get? b = some o → h'.get? b = some o
  new : h.objs.size ≤ e
  obj : ∃ oe vs, h'.get? e = some oe ∧ oe.cls = .ref C ∧ oe.dict = some d ∧ oe.data = .fields vs ∧ vs[1]? = some .none
  dbig : h.objs.size ≤ d
  dne : d ≠ e
  ns : h'.Ns1 d (fun y => if y = "at" then some v else none)
section
variable {prog : Program} {w : World} {A : Around} {E : Value → Shared → Prop} {R : Result → Shared → Prop} {s : Shared} {K : Frag} {mg : Str → Option Value} {C fI : Addr}
theorem low_init_InvalidText (T : LowTxt_InvalidText K mg C fI) {x t0 : Addr} {v : Value} (X : K.In s.heap) (hlim : s.heap.NoLimit) (hx : s.heap.get? x = some (excO C t0)) (hnx : K.lookup x = none) (hroom : A.depth < recursionLimit)
    (hq : ∀ h' tk dx, InitEnd_InvalidText s.heap h' x C dx t0 v → R (.ok (.ret .none)) { s with heap := h', toks := tk }) :
    codeAny (model prog w) A (.call (.ref fI) ⟨[.ref x, v], []⟩) R s := by
  obtain ⟨oc, od, doc, pm, an, cdv, ct, osl, p1, p2, q1, q2, q3, q4, ho, hcd⟩ := T.fn
  obtain ⟨nm, q, N, bs, bm, sn, sub, ab, col, dd, k0, k1, k2, k3, k5, hC, hbm⟩ := T.cls
  have hcl : clsIn K C = some { name := nm, bases := bs, mro := .ref C :: bm, ns := N, qualname := q, hasDict := true, slotNames := sn, subclasses := sub, abstract := ab, collection := col, hasDel := false } := by unfold clsIn; rw [hC] <;> rfl
  refine Att.call_fn (binds := [("self", .ref x), ("at", v)]) X hlim ho hcd hroom (BindsTo.of_eq (by first | rfl | with_unfolding_all rfl)) (by first | rfl | decide | with_unfolding_all rfl) (fun s₁ IC => ?_) rfl rfl rfl
  obtain ⟨h₁, tk₁, rfl⟩ := IC.toInCall.same
  have k : ∀ b o, s.heap.get? b = some o → h₁.get? b = some o := IC.toInCall.keep
  have hn := IC.toInCall.ns
  have hxL : s.heap.objs.size ≠ x := Nat.ne_of_gt (Heap.lt_size hx)
  have X₁ : K.In h₁ := X.keeps k
  have hx₁ := k _ _ hx
  -- self.by = by
  show wpAny _ _ (execs _ _) _ _ _
  refine wpAny_execs_cons (plainObj_wpAny_Assign_Attribute ?_)
  refine ldC_InvalidText (v := v) hn (by first | rfl | with_unfolding_all rfl | kernel_rfl) (ldC_InvalidText (v := .ref x) hn (by first | rfl | with_unfolding_all rfl | kernel_rfl) ?_)
  refine set_plain X₁ (ox := excO C t0) (od := none) ⟨hx₁, rfl, rfl, trivial⟩ T.sa ?_
  refine exc_osa X₁ hx₁ hcl (show refsVE (.ref C :: bm) = true from hbm) rfl T.noN (fun h₃ tk₃ dx k₃ dn dne hx₃ hn₃ => ?_)
  show wpAny _ _ (execs _ _) _ _ _
  have z : s.heap.objs.size < h₁.objs.size := hn.lt
  exact wpAny_execs_nil (hq h₃ tk₃ dx ⟨fun b o hb e => k₃ b o hb (k b o e), hx₃, Nat.le_of_lt (Nat.lt_of_lt_of_le z dn), dne, hn₃⟩)
theorem low_made_InvalidText (T : LowTxt_InvalidText K mg C fI) {v : Value} (X : K.In s.heap) (hlim : s.heap.NoLimit) (hroom : A.depth + 1 < recursionLimit)
    (hq : ∀ h' tk e d, OwnMade_InvalidText s.heap h' e C d v → R (.ok (.ret (.ref e))) { s with heap := h', toks := tk }) :
    codeAny (model prog w) A (.call (.ref C) ⟨[v], []⟩) R s := by
  obtain ⟨nm, q, N, bs, bm, sn, sub, ab, col, dd, k0, k1, k2, k3, k5, hC, hbm⟩ := T.cls
  obtain ⟨hp, g, dr, tk, os⟩ := s
  have k : ∀ b o, hp.get? b = some o → ((hp.push (kdv_tup [v])).push (excO C hp.objs.size)).get? b = some o := fun b o e => Heap.get?_push_of_some _ (Heap.get?_push_of_some _ e)
  have hget : ((hp.push (kdv_tup [v])).push (excO C hp.objs.size)).get? (hp.objs.size + 1) = some (excO C hp.objs.size) := by heap_get
  have hnx : K.lookup (hp.objs.size + 1) = none := by
    cases e : K.lookup (hp.objs.size + 1) with
    | none => rfl
    | some o =>
      have z : hp.get? (hp.objs.size + 1) = some o := X _ _ e
      exact absurd (Nat.lt_of_succ_lt (Heap.lt_size z)) (Nat.lt_irrefl _)
  refine call_own F.excBase_ValueError (fun X => refsVE_contains X bm hbm) (X _ _ hC) (looks_findIn X T.iC) (fun self => bind_fn X self T.tC) (one_size_InvalidText v) ?_
  refine low_init_InvalidText (s := ⟨(hp.push (kdv_tup [v])).push (excO C hp.objs.size), g, dr, tk, os⟩) T (X.keeps k) (hlim.keeps k) hget hnx ?_ fun h' tk' dx ⟨k', hx, dn, dne, hns⟩ => ?_
  · show A.depth + 1 < recursionLimit
    exact hroom
  · have old : ∀ b o, hp.get? b = some o → h'.get? b = some o := fun b o e => k' b o (Nat.ne_of_lt (Nat.lt_succ_of_lt (Heap.lt_size e))) (k b o e)
    have z : hp.objs.size + 1 + 1 ≤ dx := by
      first
        | (simpa only [Heap.size_push] using dn)
        | exact dn
        | (have q := dn; rw [Heap.size_push, Heap.size_push] at q; exact q)
    exact ⟨rfl, hq h' tk' (hp.objs.size + 1) dx ⟨old, Nat.le_succ _, ⟨_, _, hx, rfl, rfl, rfl, rfl⟩, Nat.le_trans (Nat.le_trans (Nat.le_succ _) (Nat.le_succ _)) z, dne, hns⟩⟩
end
end LowX_InvalidText
end PySem
namespace L2
open PySem PySem.Spec PyProof.Rows
theorem relO_low_InvalidText {v : V} {v' : Value} (r : RelV v v') (f : Str) : RelO (List.lookup f [(("at" : Str), v)]) (if f = "at" then some v' else none) := by
  by_cases hw : f = "at"
  · subst hw
    rw [if_pos rfl]
    have q : List.lookup ("at" : Str) [(("at" : Str), v)] = some v := by simp [List.lookup]
    rw [q]
    exact r
  · rw [if_neg hw]
    have qw : (f == ("at" : Str)) = false := by simpa using hw
    have q2 : List.lookup f [(("at" : Str), v)] = none := by simp [List.lookup, qw]
    rw [q2]
    trivial
section
variable {X : Cx} {C fI : Addr}
/-- Low(e) -/
def tMkLow_InvalidText (C : Addr) (ta : TA) : St → Hp → XK → Prop := fun σ H Q => ta σ H fun vs H1 => ∃ v, vs = [v] ∧ ∀ d, H1 d = none → Q (.ref C) (some d) (upd H1 d (.xd [(("at" : Str), v)]))
theorem pmk_low_InvalidText {a : Expr} {ta : TA} {p pos : Pos} {k : Nat} (T : PySem.LowX_InvalidText.LowTxt_InvalidText X.K X.mg C fI) (hr : Room k X.A) (ha : PA X [a] ta) (hg : Gl X "InvalidText" := by rfl)
    (he : starEach (a :: []) X.env = (false, eval a X.env) :: starEach [] X.env := by rfl) (hpl : (backTo pos (starEach [] X.env)).any (·.1) = false := by rfl) :
    PMk X (.Call (.Name "InvalidText" p) [a] [] pos) (tMkLow_InvalidText C ta) := by
  intro pins s σ H Q I h
  refine wpAny_Call_Name_kw (ld_glob I hg T.gC ?_)
  refine PySem.W.callWith_K (h₀ := X.base) I.ok.mod.kin T.kC (thn (ha.run pos pins s σ H _ I h) fun us s1 hh => ?_) he hpl
  obtain ⟨vs, H1, I1, r1, v, ev, q1⟩ := hh
  subst ev
  refine ⟨I1.kIn, ?_⟩
  cases r1 with
  | cons rv rn =>
    rename_i v' us'
    cases rn
    show wpAny _ _ (call (.ref C) [v']) _ _ _
    have hlim := I1.nolimit
    obtain ⟨hp, g, dr, tk, os⟩ := s1
    refine wpAny_call (PySem.LowX_InvalidText.low_made_InvalidText T I1.kIn hlim (by have := hr.dp; omega) fun h' tk' e d M => ?_)
    show MkP X pins σ Q (.ref e) ⟨h', g, dr, tk', os⟩
    obtain ⟨oe, fv, hoe, hc, hd, hdat, h1⟩ := M.obj
    have hns := M.ns
    obtain ⟨G', g1, g2⟩ := restrict h' fun b => decide (b ≠ e)
    have gk : ∀ b, b ≠ e → G'.get? b = h'.get? b := fun b hb => g1 b (decide_eq_true hb)
    have ge : G'.get? e = none := g2 e (by simp)
    have old : ∀ b o, hp.get? b = some o → G'.get? b = some o := fun b o q => (gk b (Nat.ne_of_lt (Nat.lt_of_lt_of_le (Heap.lt_size q) M.new))).trans (M.keep b o q)
    have ob : ObjOk X.prog X.w (upd H1 d (.xd [(("at" : Str), v)])) G' d (.xd [(("at" : Str), v)]) :=
      ⟨_, hns.at (fun o q => (gk d M.dne).trans q), fun f => relO_low_InvalidText rv f⟩
    have J : Inv X pins σ (upd H1 d (.xd [(("at" : Str), v)])) ⟨G', g, dr, tk', os⟩ := I1.laid (t' := tk') old M.dbig ob
    refine ⟨e, oe, fv, ⟨G', g, dr, tk', os⟩, _, .ref C, some d, rfl, J, fun b o q => ?_, ge, hoe, ⟨hc, hd⟩, hdat, h1, ?_, rfl, I1.bare, raises_own T.exC T.tyC, q1 d (I1.hok.fresh M.dbig)⟩
    · by_cases hb : b = e
      · have q' : G'.get? b = some o := q
        rw [hb, ge] at q'; cases q'
      · exact (gk b hb).symm.trans q
    · rw [upd_ne (Ne.symm M.dne)]
      exact I1.hok.fresh M.new
/-- raise Low(e) -/
def tRaiseLow_InvalidText (C : Addr) (W : WX) (ta : TA) : TS := fun _ σ H => tMkLow_InvalidText C ta σ H fun cls d H' => W cls d σ H'
theorem ps_raiseLow_InvalidText {a : Expr} {ta : TA} {W : WX} {p pos pos2 : Pos} {k : Nat} (hc : X.calm = true) (T : PySem.LowX_InvalidText.LowTxt_InvalidText X.K X.mg C fI) (hr : Room k X.A) (tk : Takes X W) (ha : PA X [a] ta) (hg : Gl X "InvalidText" := by rfl)
    (he : starEach (a :: []) X.env = (false, eval a X.env) :: starEach [] X.env := by rfl) (hpl : (backTo pos (starEach [] X.env)).any (·.1) = false := by rfl) :
    PS X (.Raise (some (.Call (.Name "InvalidText" p) [a] [] pos)) none pos2) (tRaiseLow_InvalidText C W ta) := ps_raise hc tk (pmk_low_InvalidText T hr ha hg he hpl)
/-- low.by, low the exception that the suite holds (at a; its class cls, its dict d) -/
def tByLow_InvalidText (C : Addr) (a : Addr) (cls : Value) (d : Option Addr) (te : TE) : TE := fun σ H Q => te σ H fun x H1 => x = .ref a ∧ cls = .ref C ∧ ∃ (dd : Addr) (v : V), d = some dd ∧ H1 dd = some (.xd [(("at" : Str), v)]) ∧ Q v H1
theorem pe_byLow_InvalidText {a : Addr} {oe : Obj} {cls : Value} {d : Option Addr} {pn : List (Addr × Obj)} {e : Expr} {te : TE} {pos : Pos} (T : PySem.LowX_InvalidText.LowTxt_InvalidText X.K X.mg C fI) (hz : Zc cls d oe) (hf : ∃ vs, oe.data = .fields vs) (he : PE (X.suite a ((a, oe) :: pn)) e te)
    (hb : attributeBase e "at" X.env (eval e X.env) = eval e X.env := by rfl) :
    PE (X.suite a ((a, oe) :: pn)) (.Attribute e "at" pos) (tByLow_InvalidText C a cls d te) := by
  refine ⟨fun pins s σ H Q I h => ?_⟩
  refine attr_of hb (thn (he.run pins s σ H _ I h) fun u s1 hh => ?_)
  obtain ⟨x, H1, I1, rx, ex, ec, dd, v, ed, ea, q⟩ := hh
  subst ex
  obtain rfl : u = Value.ref a := rx
  subst ec
  subst ed
  obtain ⟨ha, _⟩ := I1.pin (a, oe) (List.mem_append_left _ List.mem_cons_self)
  obtain ⟨vs, hd⟩ := hf
  have hx : ObjOk X.prog X.w H1 s1.heap dd (.xd [(("at" : Str), v)]) := I1.hok dd _ ea
  obtain ⟨mA, hns, hr⟩ := hx
  obtain ⟨od, ho, hl⟩ := lookIn_ns hns
  have l : List.lookup ("at" : Str) [(("at" : Str), v)] = some v := by simp [List.lookup]
  obtain ⟨u, hu, ru⟩ := RelO.some_of (v := v) (o := mA "at") (by rw [← l]; exact hr "at")
  have J : PySem.W.InstAt s1.heap a oe C (some od) := ⟨ha, hz.1, by unfold PySem.W.notCls; rw [hd] <;> rfl, by rw [hz.2]; exact ho⟩
  exact HandSPX.exc_get I1.kIn J T.ga T.gg T.exC (PySem.W.findObj_own T.hdC T.noN rfl (by rw [hl, hu])) (handed_of ru) ⟨v, H1, I1.tok _, ru, q⟩
end
end L2


namespace L2.Wk
open PySem PySem.Spec PyProof.Rows
abbrev s_Formula_read : Stmt := inClass (top 16) 3
abbrev N_Formula_read : List Str := ["cls", "text", "words"]
theorem sc_Formula_read : FnScope N_Formula_read ["cls", "text"] (defScope s_Formula_read) := ⟨rfl, rfl, rfl, by decide +kernel, rfl, by decide +kernel, by decide +kernel⟩
abbrev s_check_words : Stmt := top 17
abbrev N_check_words : List Str := ["words", "wanted", "at", "word"]
theorem sc_check_words : FnScope N_check_words ["words"] (defScope s_check_words) := ⟨rfl, rfl, rfl, by decide +kernel, rfl, by decide +kernel, by decide +kernel⟩
abbrev s_steps_of_words : Stmt := top 18
abbrev N_steps_of_words : List Str := ["words", "steps", "waiting", "word"]
theorem sc_steps_of_words : FnScope N_steps_of_words ["words"] (defScope s_steps_of_words) := ⟨rfl, rfl, rfl, by decide +kernel, rfl, by decide +kernel, by decide +kernel⟩
/-! ### words of a formula -/
def okW (z : Str) : Bool := decide (z ∈ signsV) || (decide (z ∈ constV) || isName z)
/-- the place of the first word that cannot stand there, so many formulas wanted -/
def dueW : Nat → Nat → List Str → Option Nat
  | _, 0, [] => none
  | i, _ + 1, [] => some i
  | i, 0, _ :: _ => some i
  | i, n + 1, w :: ws => if okW w = true then dueW (i + 1) (n + arityW w) ws else some i
theorem arity_le (z : Str) : arityW z ≤ 2 := by
  unfold arityW
  split
  · split <;> omega
  · omega
theorem get_map_strG {zs : List Str} {i : Nat} {x : V} (h : (zs.map V.str)[i]? = some x) : ∃ z, z ∈ zs ∧ zs[i]? = some z ∧ x = V.str z := by
  rw [List.getElem?_map] at h
  obtain ⟨z, hz, rfl⟩ := Option.map_eq_some_iff.mp h
  exact ⟨z, List.mem_of_getElem? hz, hz, rfl⟩
structure Hf where
  check : Addr
  steps : Addr
  read : Addr
structure TxtR (K : PySem.W.Frag) (w : World) (mg : Str → Option Value) (a : Wf) (g : Gf) (c : Fg) (h : Hf) (IT fIT : Addr) : Prop extends TxtFg K w mg a g c, TxtG K mg g where
  low_InvalidText : PySem.LowX_InvalidText.LowTxt_InvalidText K mg IT fIT
  b_enumerate : mg "enumerate" = none
  g__check_words : mg "_check_words" = some (.ref h.check)
  k__check_words : PySem.W.keepIn K (.ref h.check) = true
  g__steps_of_words : mg "_steps_of_words" = some (.ref h.steps)
  k__steps_of_words : PySem.W.keepIn K (.ref h.steps) = true
def spCheck (K : PySem.W.Frag) (IT : Addr) : Sp := fun vs H Q E => ∃ (l : Addr) (ws : List Str), vs = [.ref l] ∧ SqL K H l (ws.map V.str) ∧ ws.length ≤ 900 ∧ (∀ z ∈ ws, z.length ≤ 1000) ∧
  (dueW 0 1 ws = none → ∀ H', Same H H' → Q .non H') ∧ (∀ n, dueW 0 1 ws = some n → ∀ (d : Addr) (H' : Hp), Same H H' → H' d = some (.xd [("at", .int (n : Nat))]) → E (.ref IT) (some d) H')
section
variable {P : Program} {w : World} {K : PySem.W.Frag} {mg : Str → Option Value} {base : Heap} {a : Wf} {g : Gf} {c : Fg} {h : Hf} {IT fIT : Addr} {f : Addr} {fd : FuncData}
theorem ok_check {f1 : FuncData} (F : Fun K "_check_words" "_check_words" s_check_words f fd) (T : TxtR K w mg a g c h IT fIT) (G_is_name : FnOk P w K mg base CX0 1 a.is_name f1 ["value"] (spTxt isName)) (b_is_name : Binds K f1 ["value"] []) :
    FnOk P w K mg base (L2.CX P w) 2 f fd ["words"] (spCheck K IT) := by
  refine F.okX sc_check_words (fun vs H Q E h => ?_) (fun cdv A outer s H vs Q E hr h => ?_)
  · obtain ⟨_, _, rfl, _⟩ := h
    rfl
  · obtain ⟨l, ws, rfl, hl, hn, hz, k, kE⟩ := h
    refine ⟨_, (pss_cons (ps_set (i := 1) sc_check_words.nd rfl (Or.inl rfl) pe_int)
    (pss_cons (ps_for (passes_of rfl) rfl (pi_enum (by rfl) T.b_enumerate (pa_cons (pv 0) pa_nil)) (pg_tup rfl (pgs_cons (pg_name (i := 2) sc_check_words.nd rfl (Or.inl rfl)) (pgs_cons (pg_name (i := 3) sc_check_words.nd rfl (Or.inl rfl)) pgs_nil)))
      (pss_cons (ps_if (PW.pt (pw_or (pt_cmpR op_eq (pv 1) pe_int (nomark _)) (pw_or1 (pt_not (PW.pt (pw_or (pt_cmpR (op_in_kdK (K := K) rfl rfl T.d_SIGNS) (pv 3) (pe_gr rfl T.g_SIGNS) (by rfl)) (pw_or (pt_cmpR op_in_seq (pv 3) (pe_gr rfl T.g_CONSTANTS) (by rfl)) (pw_or1 (pt_val (pe_call G_is_name (hr.mono (by decide)) rfl T.g_is_name T.k_is_name b_is_name .nil pass0 (pa_cons (pv 3) pa_nil))))))))))) (pss_one (ps_raiseLow_InvalidText rfl T.low_InvalidText hr (takes_of rfl rfl rfl rfl) (pa_cons (pv 2) pa_nil))) pss_nil)
      (pss_one (ps_set (i := 1) sc_check_words.nd rfl (Or.inl rfl) (pe_op op_add (pe_op op_sub (pv 1) pe_int) (pe_kget2 (K := K) rfl rfl T.d_SIGNS (pe_gr rfl T.g_SIGNS) (pv 3) pe_int ⟨rfl, rfl, rfl, rfl⟩))))))
    (pss_one (ps_if (pt_cmpR op_gt (pv 1) pe_int (nomark _)) (pss_one (ps_raiseLow_InvalidText rfl T.low_InvalidText hr (takes_of rfl rfl rfl rfl) (pa_cons (pe_callB call_len (by rfl) T.b_len PySem.boot_len (pa_cons (pv 0) pa_nil)) pa_nil))) pss_nil)))), ?_⟩
    refine ⟨_, rfl, l, _, rfl, hl, ?_⟩
    refine for_enumL (fun i σ H' => ∃ (v2 v3 : Option V) (n : Nat), σ = [some (.ref l), some (.int (n : Nat)), v2, v3] ∧ Same H H' ∧ dueW 0 1 ws = dueW i n (ws.drop i)) ⟨_, _, 1, rfl, Same.refl _, rfl⟩ (fun i σ H' _ ⟨_, _, _, _, h, _⟩ => Same.sqL h hl) ?_ ?_
    · rintro i x σ H1 Tp hx ⟨v2, v3, n, rfl, s1, hd⟩ hTp
      obtain ⟨z, hzm, hzi, rfl⟩ := get_map_strG hx
      have hzl := hz z hzm
      have hi : i < ws.length := (List.getElem?_eq_some_iff.mp hzi).1
      have ed : ws.drop i = z :: ws.drop (i + 1) := by
        rw [List.drop_eq_getElem_cons hi]
        congr 1
        exact (List.getElem?_eq_some_iff.mp hzi).2
      rw [ed] at hd
      have sT := s1.trans (Same.upd_new (o := .tup [.int (i : Nat), .str z]) hTp)
      refine ⟨Tp, _, rfl, .inl (.inl upd_same), rfl, _, _, rfl, _, _, rfl, rfl, ?_⟩
      generalize upd H1 Tp _ = H2 at sT ⊢
      refine ⟨_, rfl, rfl, _, rfl, ?_⟩
      have raise : dueW 0 1 ws = some i → ∀ d, H2 d = none → E (.ref IT) (some d) (upd H2 d (.xd [("at", .int (i : Nat))])) := fun e d hd => kE i e d _ (sT.trans (Same.upd_new hd)) upd_same
      cases n with
      | zero =>
        refine iteTh rfl (iteT ?_)
        exact ⟨_, rfl, _, rfl, raise hd⟩
      | succ m =>
      refine iteFh (decide_eq_false fun e => by injection e with e; omega) ?_
      obtain ⟨r, r1, r2, r3⟩ := T.sig z
      refine ⟨_, rfl, z, r, rfl, rfl, r1, _, rfl, ?_⟩
      rw [r2]
      cases e1 : decide (z ∈ signsV) with
      | true =>
        refine iteTh rfl (iteFh rfl ?_)
        have dn : dueW 0 1 ws = dueW (i + 1) (m + arityW z) (ws.drop (i + 1)) := by
          rw [hd]
          show (if okW z = true then _ else _) = _
          rw [if_pos (by unfold okW; rw [e1]; rfl)]
        refine ⟨_, rfl, _, _, rfl, rfl, _, rfl, z, r, .int (arityW z : Nat), rfl, r1, fun f hf => r3 f hf, _, _, rfl, rfl, ?_⟩
        refine ⟨some (.int (i : Nat)), some (.str z), m + arityW z, ?_, sT, dn⟩
        show [some (V.ref l), some (V.int (((m + 1 : Nat) : Int) - 1 + (arityW z : Nat))), _, _] = _
        rw [show ((m + 1 : Nat) : Int) - 1 + (arityW z : Nat) = ((m + arityW z : Nat) : Int) by omega]
      | false =>
      refine iteFh rfl ?_
      refine ⟨_, rfl, c.CONSTANTS, _, rfl, .inr (T.s_CONSTANTS _), rfl, flat_txts _, _, rfl, ?_⟩
      show if inV (V.str z) (constV.map V.str) = true then _ else _
      rw [inV_sgn]
      cases e2 : decide (z ∈ constV) with
      | true =>
        refine iteTh rfl (iteFh rfl ?_)
        have dn : dueW 0 1 ws = dueW (i + 1) (m + arityW z) (ws.drop (i + 1)) := by
          rw [hd]
          show (if okW z = true then _ else _) = _
          rw [if_pos (by unfold okW; rw [e1, e2]; rfl)]
        refine ⟨_, rfl, _, _, rfl, rfl, _, rfl, z, r, .int (arityW z : Nat), rfl, r1, fun f hf => r3 f hf, _, _, rfl, rfl, ?_⟩
        refine ⟨some (.int (i : Nat)), some (.str z), m + arityW z, ?_, sT, dn⟩
        show [some (V.ref l), some (V.int (((m + 1 : Nat) : Int) - 1 + (arityW z : Nat))), _, _] = _
        rw [show ((m + 1 : Nat) : Int) - 1 + (arityW z : Nat) = ((m + arityW z : Nat) : Int) by omega]
      | false =>
      refine iteFh rfl ?_
      refine ⟨_, rfl, z, rfl, hzl, fun H3 s3 => ⟨_, rfl, ?_⟩⟩
      replace sT := sT.trans s3
      cases e3 : isName z with
      | true =>
        refine iteFh rfl ?_
        have dn : dueW 0 1 ws = dueW (i + 1) (m + arityW z) (ws.drop (i + 1)) := by
          rw [hd]
          show (if okW z = true then _ else _) = _
          rw [if_pos (by unfold okW; rw [e1, e2, e3]; rfl)]
        refine ⟨_, rfl, _, _, rfl, rfl, _, rfl, z, r, .int (arityW z : Nat), rfl, r1, fun f hf => r3 f hf, _, _, rfl, rfl, ?_⟩
        refine ⟨some (.int (i : Nat)), some (.str z), m + arityW z, ?_, sT, dn⟩
        show [some (V.ref l), some (V.int (((m + 1 : Nat) : Int) - 1 + (arityW z : Nat))), _, _] = _
        rw [show ((m + 1 : Nat) : Int) - 1 + (arityW z : Nat) = ((m + arityW z : Nat) : Int) by omega]
      | false =>
        refine iteTh rfl ?_
        refine ⟨_, rfl, _, rfl, fun d hd3 => ?_⟩
        refine kE i ?_ d _ (sT.trans (Same.upd_new hd3)) upd_same
        rw [hd]
        show (if okW z = true then _ else _) = _
        rw [if_neg (by unfold okW; rw [e1, e2, e3]; decide)]
    · rintro σ H1 ⟨v2, v3, n, rfl, s1, hd⟩
      rw [List.length_map, List.drop_length] at hd
      cases n with
      | zero =>
        refine ⟨_, rfl, _, _, rfl, rfl, _, rfl, iteFh rfl ?_⟩
        exact k hd _ s1
      | succ m =>
        refine ⟨_, rfl, _, _, rfl, rfl, _, rfl, iteTh (decide_eq_true (by omega)) ?_⟩
        refine ⟨_, rfl, _, ws.length, rfl, .inl ⟨_, Same.sqL s1 hl, by rw [List.length_map]⟩, _, rfl, fun d hdn => ?_⟩
        exact kE ws.length hd d _ (s1.trans (Same.upd_new hdn)) upd_same
end
end L2.Wk
namespace L2.Wk
open PySem PySem.Spec PyProof.Rows
/-! ### steps of words: frames that wait for formulas, the last one first -/
def settle1 (S : List Step) (f : Step) : List Step → List Step × List Step
  | [] => if f.2.length < arityW f.1 then (S, [f]) else (S ++ [f], [])
  | g :: gs => if f.2.length < arityW f.1 then (S, f :: g :: gs) else settle1 (S ++ [f]) (g.1, g.2 ++ [S.length]) gs
def settle (S : List Step) : List Step → List Step × List Step
  | [] => (S, [])
  | f :: fs => settle1 S f fs
def feed (d : List Step × List Step) (w : Str) : List Step × List Step := settle1 d.1 (w, []) d.2
def stepsOf (ws : List Str) : List Step × List Step := ws.foldl feed ([], [])
theorem settle1_go {S : List Step} {f : Step} {fs : List Step} (h : f.2.length < arityW f.1) : settle1 S f fs = (S, f :: fs) := by
  cases fs with
  | nil => unfold settle1; rw [if_pos h]
  | cons g gs => unfold settle1; rw [if_pos h]
theorem settle1_up {S : List Step} {f : Step} {fs : List Step} (h : ¬ f.2.length < arityW f.1) : settle1 S f fs = settle (S ++ [f]) (match fs with | [] => [] | g :: gs => (g.1, g.2 ++ [S.length]) :: gs) := by
  cases fs with
  | nil => unfold settle1 settle; rw [if_neg h]
  | cons g gs =>
    conv => lhs; unfold settle1
    rw [if_neg h]
    rfl
/-- frames of which each waits for more; the last one may have all -/
def WaitF (f : Step) : Prop := f.2.length < arityW f.1
theorem settle1_inc : ∀ (fs : List Step) (S : List Step) (f : Step), (∀ g ∈ fs, WaitF g) → (∀ g ∈ (settle1 S f fs).2, WaitF g) ∧ (settle1 S f fs).1.length + (settle1 S f fs).2.length = S.length + 1 + fs.length
  | [], S, f, _ => by
    unfold settle1
    split
    · rename_i h
      exact ⟨fun g hg => by rw [List.mem_singleton.mp hg]; exact h, by simp⟩
    · exact ⟨(fun g hg => by cases hg), by simp⟩
  | g :: gs, S, f, hf => by
    unfold settle1
    split
    · rename_i h
      refine ⟨fun x hx => ?_, by simp; omega⟩
      rcases List.mem_cons.mp hx with rfl | hx
      · exact h
      · exact hf x hx
    · obtain ⟨h1, h2⟩ := settle1_inc gs (S ++ [f]) (g.1, g.2 ++ [S.length]) fun x hx => hf x (List.mem_cons_of_mem _ hx)
      refine ⟨h1, ?_⟩
      rw [h2, List.length_append, List.length_cons]
      simp
      omega
theorem stepsOf_take (ws : List Str) (i : Nat) (z : Str) (h : ws[i]? = some z) : stepsOf (ws.take (i + 1)) = feed (stepsOf (ws.take i)) z := by
  rw [List.take_add_one, h]
  unfold stepsOf
  show (ws.take i ++ [z]).foldl feed _ = _
  rw [List.foldl_append]
  rfl
theorem stepsOf_inc (ws : List Str) : (∀ g ∈ (stepsOf ws).2, WaitF g) ∧ (stepsOf ws).1.length + (stepsOf ws).2.length = ws.length := by
  have q : ∀ (ws : List Str) (d : List Step × List Step), (∀ g ∈ d.2, WaitF g) → (∀ g ∈ (ws.foldl feed d).2, WaitF g) ∧ (ws.foldl feed d).1.length + (ws.foldl feed d).2.length = d.1.length + d.2.length + ws.length := by
    intro ws
    induction ws with
    | nil => intro d h; exact ⟨h, rfl⟩
    | cons z ws ih =>
      intro d h
      obtain ⟨a1, a2⟩ := settle1_inc d.2 d.1 (z, []) h
      obtain ⟨b1, b2⟩ := ih (feed d z) a1
      refine ⟨b1, ?_⟩
      rw [List.foldl_cons, b2, List.length_cons]
      unfold feed
      omega
  have := q ws ([], []) fun g hg => by cases hg
  unfold stepsOf
  simpa using this
def FrAt (H : Hp) (v : V) (f : Step) : Prop := ∃ q, v = .ref q ∧ H q = some (.lst (stepV f))
structure StkW (K : PySem.W.Frag) (H0 H : Hp) (ps pw : Addr) (rs us : List V) (S fs : List Step) : Prop where
  keep : ∀ b o, H0 b = some o → H b = some o
  hps : H ps = some (.lst rs)
  hpw : H pw = some (.lst us.reverse)
  hS : AllAt (StepAt K H) rs S
  hF : AllAt (FrAt H) us fs
  nd : us.Nodup
  nx : ∀ q, V.ref q ∈ us → q ≠ ps ∧ q ≠ pw ∧ H0 q = none
  ne : ps ≠ pw
  n1 : H0 ps = none
  n2 : H0 pw = none
theorem frAll_upd {H : Hp} {x : Addr} {o : HO} : ∀ {us : List V} {fs : List Step}, (∀ q, V.ref q ∈ us → q ≠ x) → AllAt (FrAt H) us fs → AllAt (FrAt (upd H x o)) us fs
  | [], [], _, _ => True.intro
  | v :: us, f :: fs, n, h => by
    obtain ⟨⟨q, rfl, hq⟩, h2⟩ := h
    exact ⟨⟨q, rfl, by rw [upd_ne (n q (List.mem_cons_self ..))]; exact hq⟩, frAll_upd (fun q' hq' => n q' (List.mem_cons_of_mem _ hq')) h2⟩
  | [], _ :: _, _, h => h.elim
  | _ :: _, [], _, h => h.elim
theorem frAll_some {H : Hp} : ∀ {us : List V} {fs : List Step}, AllAt (FrAt H) us fs → ∀ q, V.ref q ∈ us → ∃ xs, H q = some (.lst xs)
  | v :: us, f :: fs, h, q, hq => by
    obtain ⟨⟨q', rfl, h1⟩, h2⟩ := h
    rcases List.mem_cons.mp hq with e | hq
    · cases e
      exact ⟨_, h1⟩
    · exact frAll_some h2 q hq
  | [], _, _, q, hq => by cases hq
  | _ :: _, [], h, _, _ => h.elim
theorem frAll_same {H H' : Hp} (s : Same H H') {us : List V} {fs : List Step} (h : AllAt (FrAt H) us fs) : AllAt (FrAt H') us fs := h.imp fun v f ⟨q, e, hq⟩ => ⟨q, e, s _ _ hq⟩
theorem StkW.same {K : PySem.W.Frag} {H0 H H' : Hp} {ps pw : Addr} {rs us : List V} {S fs : List Step} (W : StkW K H0 H ps pw rs us S fs) (s : Same H H') : StkW K H0 H' ps pw rs us S fs :=
  ⟨fun b o e => s b o (W.keep b o e), s _ _ W.hps, s _ _ W.hpw, W.hS.imp (StepAt.same s), frAll_same s W.hF, W.nd, W.nx, W.ne, W.n1, W.n2⟩
theorem StkW.push {K : PySem.W.Frag} {H0 H : Hp} {ps pw pf : Addr} {rs us : List V} {S fs : List Step} {z : Str} (W : StkW K H0 H ps pw rs us S fs) (hpf : H pf = none) :
    StkW K H0 (upd (upd H pf (.lst [.str z])) pw (.lst (us.reverse ++ [.ref pf]))) ps pw rs (.ref pf :: us) S ((z, []) :: fs) := by
  have s := Same.upd_new (o := .lst [.str z]) hpf
  have npw : pf ≠ pw := (ne_of_none W.hpw hpf).symm
  have nps : pf ≠ ps := (ne_of_none W.hps hpf).symm
  have hw := s _ _ W.hpw
  refine ⟨fun b o e => ?_, ?_, ?_, ?_, ⟨⟨pf, rfl, ?_⟩, ?_⟩, ?_, fun q hq => ?_, W.ne, W.n1, W.n2⟩
  · rw [upd_ne (ne_of_none e W.n2)]
    exact s _ _ (W.keep b o e)
  · rw [upd_ne W.ne]
    exact s _ _ W.hps
  · rw [List.reverse_cons]
    exact upd_same
  · exact (W.hS.imp (StepAt.same s)).imp fun v st h => StepAt.upd hw h
  · rw [upd_ne npw]
    exact upd_same
  · exact frAll_upd (fun q hq => (W.nx q hq).2.1) (frAll_same s W.hF)
  · refine List.nodup_cons.mpr ⟨fun hm => ?_, W.nd⟩
    obtain ⟨xs, e⟩ := frAll_some W.hF pf hm
    rw [hpf] at e
    cases e
  · rcases List.mem_cons.mp hq with e | hq
    · cases e
      refine ⟨nps, npw, ?_⟩
      cases e0 : H0 pf with
      | none => rfl
      | some o => rw [W.keep _ _ e0] at hpf; cases hpf
    · exact W.nx q hq
/-- the last frame off, a tuple of it behind the steps -/
theorem StkW.pop {K : PySem.W.Frag} {H0 H H1 : Hp} {ps pw tq q0 : Addr} {rs us : List V} {S fs : List Step} {f : Step} (W : StkW K H0 H ps pw rs (.ref q0 :: us) S (f :: fs)) (s : Same (upd H pw (.lst us.reverse)) H1) (ht : SqT K H1 tq (stepV f)) :
    StkW K H0 (upd H1 ps (.lst (rs ++ [.ref tq]))) ps pw (rs ++ [.ref tq]) us (S ++ [f]) fs := by
  have nd := List.nodup_cons.mp W.nd
  have hps1 : H1 ps = some (.lst rs) := s _ _ (by rw [upd_ne W.ne]; exact W.hps)
  refine ⟨fun b o e => ?_, upd_same, ?_, ?_, ?_, nd.2, fun q hq => W.nx q (List.mem_cons_of_mem _ hq), W.ne, W.n1, W.n2⟩
  · rw [upd_ne (ne_of_none e W.n1)]
    refine s _ _ ?_
    rw [upd_ne (ne_of_none e W.n2)]
    exact W.keep b o e
  · rw [upd_ne W.ne.symm]
    exact s _ _ upd_same
  · refine AllAt.app ?_ ⟨StepAt.upd hps1 ⟨tq, rfl, ht⟩, True.intro⟩
    exact ((W.hS.imp fun v st h => StepAt.upd W.hpw h).imp (StepAt.same s)).imp fun v st h => StepAt.upd hps1 h
  · exact frAll_upd (fun q hq => (W.nx q (List.mem_cons_of_mem _ hq)).1) (frAll_same s (frAll_upd (fun q hq => (W.nx q (List.mem_cons_of_mem _ hq)).2.1) W.hF.2))
/-- a number behind the last frame -/
theorem StkW.note {K : PySem.W.Frag} {H0 H : Hp} {ps pw q0 : Addr} {rs us : List V} {S fs : List Step} {f : Step} {n : Nat} (W : StkW K H0 H ps pw rs (.ref q0 :: us) S (f :: fs)) :
    StkW K H0 (upd H q0 (.lst (stepV f ++ [.int (n : Nat)]))) ps pw rs (.ref q0 :: us) S ((f.1, f.2 ++ [n]) :: fs) := by
  have nd := List.nodup_cons.mp W.nd
  obtain ⟨n1, n2, n3⟩ := W.nx q0 (List.mem_cons_self ..)
  obtain ⟨⟨q, e, hq⟩, hF⟩ := W.hF
  cases e
  refine ⟨fun b o e => ?_, ?_, ?_, W.hS.imp fun v st h => StepAt.upd hq h, ⟨⟨q0, rfl, ?_⟩, ?_⟩, W.nd, W.nx, W.ne, W.n1, W.n2⟩
  · rw [upd_ne (ne_of_none e n3)]
    exact W.keep b o e
  · rw [upd_ne n1.symm]
    exact W.hps
  · rw [upd_ne n2.symm]
    exact W.hpw
  · rw [upd_same]
    unfold stepV
    rw [List.map_append]
    rfl
  · refine frAll_upd (fun q hq e => nd.1 (by rw [← e]; exact hq)) hF
def spSteps (K : PySem.W.Frag) : Sp := fun vs H Q _ => ∃ (l : Addr) (ws : List Str), vs = [.ref l] ∧ SqL K H l (ws.map V.str) ∧ ws.length ≤ 900 ∧ (∀ st ∈ (stepsOf ws).1, st.2.length ≤ 2) ∧ WfS (stepsOf ws).1 ∧
  ∀ (t : Addr) (us : List V) H', SqT K H' t us → AllAt (StepAt K H') us (eachS (stepsOf ws).1).1 → Same H H' → Q (.ref t) H'
section
variable {P : Program} {w : World} {K : PySem.W.Frag} {mg : Str → Option Value} {base : Heap} {a : Wf} {g : Gf} {c : Fg} {h : Hf} {IT fIT : Addr} {f : Addr} {fd : FuncData}
theorem ok_steps {f1 : FuncData} (F : Fun K "_steps_of_words" "_steps_of_words" s_steps_of_words f fd) (T : TxtR K w mg a g c h IT fIT) (G__each_once : FnOk P w K mg base CX0 1 g.each f1 ["steps"] (spEach K)) (b__each_once : Binds K f1 ["steps"] []) :
    FnOk P w K mg base CX0 2 f fd ["words"] (spSteps K) := by
  refine F.ok sc_steps_of_words (fun vs H Q E h => ?_) (fun cdv A outer s H vs Q E hr h => ?_)
  · obtain ⟨_, _, rfl, _⟩ := h
    rfl
  · obtain ⟨l, ws, rfl, hl, hn, ar, wf, k⟩ := h
    refine ⟨_, (pss_cons (ps_set (i := 1) sc_steps_of_words.nd rfl (Or.inl rfl) (pe_lst pa_nil))
    (pss_cons (ps_set (i := 2) sc_steps_of_words.nd rfl (Or.inl rfl) (pe_lst pa_nil))
    (pss_cons (ps_for PassesOwn.never rfl (pi_list (pv 0)) (pg_name (i := 3) sc_steps_of_words.nd rfl (Or.inl rfl))
      (pss_cons (ps_expr (pe_bm PySem.F.plainAttrs_list PySem.F.slot_list_append PySem.F.type_list_append mt_append (pv 2) (pa_cons (pe_lst (pa_cons (pv 3) pa_nil)) pa_nil)))
      (pss_one (ps_while PassesOwn.never (PW.pt (pw_and (pt_truth (pv 2) (by intro _; rfl)) (pw_and1 (pt_cmpR op_gt (pe_callB call_len (by rfl) T.b_len PySem.boot_len (pa_cons (pe_ix ix_list (pv 2) (pe_un un_neg pe_int) (fun _ _ => rfl)) pa_nil)) (pe_kget2 (K := K) rfl rfl T.d_SIGNS (pe_gr rfl T.g_SIGNS) (pe_ix ix_list (pe_ix ix_list (pv 2) (pe_un un_neg pe_int) (fun _ _ => rfl)) pe_int (fun _ _ => rfl)) pe_int ⟨rfl, rfl, rfl, rfl⟩) (nomark _))))) (pss_cons (ps_expr (pe_bm PySem.F.plainAttrs_list PySem.F.slot_list_append PySem.F.type_list_append mt_append (pv 1) (pa_cons (pe_callTy call_tupS (by rfl) T.b_tuple (by decide +kernel) (pa_cons (pe_bm0 PySem.F.plainAttrs_list PySem.F.slot_list_pop PySem.F.type_list_pop mt_pop (pv 2)) pa_nil)) pa_nil)))
    (pss_one (ps_if (pt_truth (pv 2) (by intro _; rfl)) (pss_one (ps_expr (pe_bm PySem.F.plainAttrs_list PySem.F.slot_list_append PySem.F.type_list_append mt_append (pe_ix ix_list (pv 2) (pe_un un_neg pe_int) (fun _ _ => rfl)) (pa_cons (pe_op op_sub (pe_callB call_len (by rfl) T.b_len PySem.boot_len (pa_cons (pv 1) pa_nil)) pe_int) pa_nil)))) pss_nil)))))))
    (pss_one (ps_ret (pe_call G__each_once (hr.mono (by decide)) rfl T.g__each_once T.k__each_once b__each_once .nil pass0 (pa_cons (pv 1) pa_nil))))))), ?_⟩
    refine ⟨by decide, fun ps hps => ⟨by decide, fun pw hpw => ?_⟩⟩
    have n1 : ps ≠ pw := ne_of_none upd_same hpw
    have s2 := (Same.upd_new (o := .lst []) hps).trans (Same.upd_new (o := .lst []) hpw)
    have pw0 : H pw = none := (Same.upd_new (o := .lst []) hps).free hpw
    have W0 : StkW K H (upd (upd H ps (.lst [])) pw (.lst [])) ps pw [] [] [] [] := ⟨s2, by rw [upd_ne n1]; exact upd_same, upd_same, True.intro, True.intro, List.nodup_nil, (fun q hq => by cases hq), n1, hps, pw0⟩
    generalize upd (upd H ps (.lst [])) pw (.lst []) = H2 at s2 W0 ⊢
    refine ⟨_, rfl, l, rfl, ⟨_, Same.sqL s2 hl⟩, for_list (K := K) (a := l) (xs := ws.map V.str) (fun i σ H' => ∃ (v3 : Option V) (rs us : List V), σ = [some (.ref l), some (.ref ps), some (.ref pw), v3] ∧ StkW K H H' ps pw rs us (stepsOf (ws.take i)).1 (stepsOf (ws.take i)).2) ⟨_, [], [], rfl, W0⟩ (fun i σ H' _ ⟨_, _, _, _, W⟩ => Same.sqL W.keep hl) ?_ ?_⟩
    · rintro i x σ H3 hx ⟨v3, rs, us, rfl, W⟩
      obtain ⟨z, hzm, hz, rfl⟩ := get_map_strG hx
      obtain ⟨inc, len⟩ := stepsOf_inc (ws.take i)
      have et := stepsOf_take ws i z hz
      have hi : i < ws.length := (List.getElem?_eq_some_iff.mp hz).1
      rw [List.length_take] at len
      generalize stepsOf (ws.take i) = d at *
      obtain ⟨S, fs⟩ := d
      dsimp only at *
      refine ⟨_, rfl, .inl ⟨rfl, _, .inl (.inl W.hpw)⟩, _, rfl, (by show 1 ≤ sizeLine; decide), fun pf hpf => ?_⟩
      have WP := W.push (z := z) hpf
      have hpw3 : (upd H3 pf (.lst [.str z])) pw = some (.lst us.reverse) := (Same.upd_new (o := .lst [.str z]) hpf) _ _ W.hpw
      have lu := W.hF.len
      refine ⟨pw, _, _, rfl, rfl, hpw3, ?_, ?_⟩
      · rw [List.length_reverse, lu]
        exact small1000 (by omega)
      have cs : settle S ((z, []) :: fs) = stepsOf (ws.take (i + 1)) := et.symm
      generalize upd (upd H3 pf (.lst [.str z])) pw (.lst (us.reverse ++ [.ref pf])) = H4 at WP ⊢
      refine ⟨fun m σ H' => ∃ (rs us : List V) (S fs : List Step), σ = [some (.ref l), some (.ref ps), some (.ref pw), some (.str z)] ∧ StkW K H H' ps pw rs us S fs ∧ settle S fs = stepsOf (ws.take (i + 1)) ∧ (∀ g ∈ fs.tail, WaitF g) ∧ (∀ g ∈ fs, g.2.length ≤ 2) ∧ S.length + fs.length ≤ 900 ∧ m = fs.length, ⟨_, rs, .ref pf :: us, S, (z, []) :: fs, rfl, WP, cs, inc, ?_, by rw [List.length_cons]; omega, rfl⟩, ?_⟩
      · intro g hg
        rcases List.mem_cons.mp hg with rfl | hg
        · exact Nat.zero_le _
        · have := inc g hg
          have := arity_le g.1
          unfold WaitF at *
          omega
      clear WP cs et W inc lu hpw3 hpf len H4 H3 v3 rs us S fs
      rintro m σ H4 ⟨rs, us, S, fs, rfl, W, cs, inc, two, len, rfl⟩
      have lu := W.hF.len
      have eiU : us.reverse.isEmpty = us.isEmpty := by cases us <;> simp
      refine ⟨_, rfl, _, .inl ⟨_, .inl (.inl W.hpw), rfl⟩, ?_⟩
      rw [eiU]
      match us, fs, lu, W, cs, inc, two, len with
      | [], [], _, W, cs, _, _, _ =>
        refine iteFh rfl (iteF ?_)
        refine ⟨_, rs, [], rfl, ?_⟩
        rw [← cs]
        exact W
      | v :: us, [], lu, _, _, _, _, _ => cases lu
      | [], f :: fs, lu, _, _, _, _, _ => cases lu
      | v :: us, f :: fs, lu, W, cs, inc, two, len =>
      refine iteTh rfl ?_
      obtain ⟨⟨q0, rfl, hq0⟩, hF⟩ := W.hF
      have hpw := W.hpw
      rw [List.reverse_cons] at hpw
      have hla : atI (us.reverse ++ [V.ref q0]) (-1) = some (.ref q0) := at_lastG _ _
      refine ⟨_, rfl, 1, rfl, pw, _, _, _, rfl, rfl, .inl (.inl hpw), hla, _, (stepV f).length, rfl, .inl ⟨_, .inl (.inl hq0), rfl⟩, ?_⟩
      obtain ⟨r, r1, r2, r3⟩ := T.sig f.1
      refine ⟨_, rfl, 1, rfl, pw, _, _, _, rfl, rfl, .inl (.inl hpw), hla, q0, _, _, _, rfl, rfl, .inl (.inl hq0), atI_nat (j := 0) rfl, f.1, r, .int (arityW f.1 : Nat), rfl, r1, r3, _, _, rfl, rfl, _, rfl, ?_⟩
      have lsv : (stepV f).length = f.2.length + 1 := by
        unfold stepV
        rw [List.length_cons, List.length_map]
      by_cases hw : f.2.length < arityW f.1
      · refine iteFh (decide_eq_false (by rw [lsv]; omega)) ?_
        refine ⟨_, rs, .ref q0 :: us, rfl, ?_⟩
        rw [← cs]
        show StkW K H H4 ps pw rs (V.ref q0 :: us) (settle1 S f fs).1 (settle1 S f fs).2
        rw [settle1_go hw]
        exact W
      refine iteTh (decide_eq_true (by rw [lsv]; omega)) ?_
      refine ⟨fun σ' H' => ∃ m', m' < (f :: fs).length ∧ ∃ rs us S fs, σ' = [some (.ref l), some (.ref ps), some (.ref pw), some (.str z)] ∧ StkW K H H' ps pw rs us S fs ∧ settle S fs = stepsOf (ws.take (i + 1)) ∧ (∀ g ∈ fs.tail, WaitF g) ∧ (∀ g ∈ fs, g.2.length ≤ 2) ∧ S.length + fs.length ≤ 900 ∧ m' = fs.length, fun σ' H' h => h, ?_⟩
      have lr := W.hS.len
      refine ⟨_, rfl, .inl ⟨rfl, _, .inl (.inl W.hps)⟩, _, rfl, .inl ⟨rfl, _, .inl (.inl hpw)⟩, ?_⟩
      have hll : (us.reverse ++ [V.ref q0])[(us.reverse ++ [V.ref q0]).length - 1]? = some (V.ref q0) := by
        rw [List.length_append, show us.reverse.length + [V.ref q0].length - 1 = us.reverse.length from rfl, List.getElem?_append_right (Nat.le_refl _), Nat.sub_self]
        rfl
      refine ⟨pw, _, _, rfl, rfl, hpw, hll, ?_⟩
      rw [List.dropLast_concat]
      obtain ⟨x1, x2, x3⟩ := W.nx q0 (List.mem_cons_self ..)
      have hq5 : (upd H4 pw (.lst us.reverse)) q0 = some (.lst (stepV f)) := by
        rw [upd_ne x2]
        exact hq0
      dsimp only [tNil]
      refine rTup_of (K := K) (a := q0) (xs := stepV f) (.inl (.inl (.inl hq5))) fun tq H5 ht5 s5 => ?_
      have hps5 : H5 ps = some (.lst rs) := s5 _ _ (by rw [upd_ne W.ne]; exact W.hps)
      refine ⟨ps, _, _, rfl, rfl, hps5, ?_, ?_⟩
      · rw [lr]
        exact small1000 (by rw [List.length_cons] at len; omega)
      have WP := W.pop s5 ht5
      have e1 := settle1_up (S := S) (f := f) (fs := fs) hw
      have cs' : settle1 S f fs = stepsOf (ws.take (i + 1)) := cs
      rw [cs'] at e1
      generalize upd H5 ps (.lst (rs ++ [V.ref tq])) = H6 at WP ⊢
      have lu6 := WP.hF.len
      have eiU6 : us.reverse.isEmpty = us.isEmpty := by cases us <;> simp
      refine ⟨_, rfl, _, .inl ⟨_, .inl (.inl WP.hpw), rfl⟩, ?_⟩
      rw [eiU6]
      match us, fs, lu6, WP, e1, inc, two, len with
      | [], [], _, WP, e1, _, _, len =>
        refine iteFh rfl ?_
        exact ⟨0, Nat.succ_pos _, rs ++ [.ref tq], [], S ++ [f], [], rfl, WP, e1.symm, (fun g hg => by cases hg), (fun g hg => by cases hg), (by simp only [List.length_append, List.length_cons, List.length_nil] at *; omega), rfl⟩
      | v :: us, [], lu6, _, _, _, _, _ => cases lu6
      | [], g :: gs, lu6, _, _, _, _, _ => cases lu6
      | v :: us, g :: gs, lu6, WP, e1, inc, two, len =>
      refine iteTh rfl ?_
      obtain ⟨⟨q1, rfl, hq1⟩, _⟩ := WP.hF
      have hpw6 := WP.hpw
      rw [List.reverse_cons] at hpw6
      have hla6 : atI (us.reverse ++ [V.ref q1]) (-1) = some (.ref q1) := at_lastG _ _
      have lr6 := WP.hS.len
      refine ⟨_, rfl, 1, rfl, pw, _, _, _, rfl, rfl, .inl (.inl hpw6), hla6, .inl ⟨rfl, _, .inl (.inl hq1)⟩, _, rfl, _, (rs ++ [V.ref tq]).length, rfl, .inl ⟨_, .inl (.inl WP.hps), rfl⟩, _, _, rfl, rfl, q1, _, _, rfl, rfl, hq1, ?_, ?_⟩
      · have := two g (List.mem_cons_of_mem _ (List.mem_cons_self ..))
        unfold stepV
        rw [List.length_cons, List.length_map]
        exact small1000 (by omega)
      have en : (((rs ++ [V.ref tq]).length : Nat) : Int) - 1 = ((S.length : Nat) : Int) := by
        rw [lr6, List.length_append]
        simp
      have WN : StkW K H (upd H6 q1 (.lst (stepV g ++ [V.int ((((rs ++ [V.ref tq]).length : Nat) : Int) - 1)]))) ps pw (rs ++ [.ref tq]) (.ref q1 :: us) (S ++ [f]) ((g.1, g.2 ++ [S.length]) :: gs) := by
        rw [en]
        exact WP.note (n := S.length)
      refine ⟨(g :: gs).length, by simp, rs ++ [.ref tq], .ref q1 :: us, S ++ [f], (g.1, g.2 ++ [S.length]) :: gs, rfl, WN, e1.symm, fun x hx => inc x (List.mem_cons_of_mem _ hx), fun x hx => ?_, ?_, by simp⟩
      · rcases List.mem_cons.mp hx with rfl | hx
        · have hg : WaitF g := inc g (List.mem_cons_self ..)
          have := arity_le g.1
          unfold WaitF at hg
          show (g.2 ++ [S.length]).length ≤ 2
          rw [List.length_append, List.length_singleton]
          omega
        · exact two x (List.mem_cons_of_mem _ (List.mem_cons_of_mem _ hx))
      · simp only [List.length_append, List.length_cons, List.length_nil] at *
        omega
    · rintro σ H3 ⟨v3, rs, us, rfl, W⟩
      rw [List.length_map, List.take_length] at W
      refine ⟨_, rfl, ps, rs, (stepsOf ws).1, rfl, .inl (.inl W.hps), W.hS, ?_, wf, ar, fun t us' H4 h4 h5 s4 => k t us' H4 h4 h5 (fun b o e => s4 b o (W.keep b o e))⟩
      have := (stepsOf_inc ws).2
      omega
end
end L2.Wk
namespace L2.Wk
open PySem PySem.Spec PyProof.Rows
/-! ### words that make a formula: the steps have these words -/
theorem getD_pre {α : Type} {A T : List α} {j : Nat} {d : α} (h : j < A.length) : (A ++ T).getD j d = A.getD j d := by
  rw [List.getD_eq_getElem?_getD, List.getD_eq_getElem?_getD, List.getElem?_append_left h]
theorem wordsS_pre {A T : List (List Str)} {f : Step} (h : ∀ j ∈ f.2, j < A.length) : wordsS (A ++ T) f = wordsS A f := by
  unfold wordsS
  congr 1
  have q : ∀ l : List Nat, (∀ j ∈ l, j < A.length) → (l.flatMap fun j => (A ++ T).getD j []) = l.flatMap fun j => A.getD j [] := by
    intro l
    induction l with
    | nil => intro _; rfl
    | cons a l ih =>
      intro hl
      rw [List.flatMap_cons, List.flatMap_cons, ih fun j hj => hl j (List.mem_cons_of_mem _ hj), getD_pre (hl a (List.mem_cons_self ..))]
  exact q f.2 h
def Flat (S fs : List Step) : List Str := fs.reverse.flatMap (wordsS (wordsL S))
theorem Flat_pre {S T fs : List Step} (h : ∀ f ∈ fs, ∀ j ∈ f.2, j < S.length) : Flat (S ++ T) fs = Flat S fs := by
  unfold Flat
  obtain ⟨W, e⟩ := wordsL_pre S T
  rw [e]
  have q : ∀ l : List Step, (∀ f ∈ l, ∀ j ∈ f.2, j < S.length) → l.flatMap (wordsS (wordsL S ++ W)) = l.flatMap (wordsS (wordsL S)) := by
    intro l
    induction l with
    | nil => intro _; rfl
    | cons a l ih =>
      intro hl
      rw [List.flatMap_cons, List.flatMap_cons, ih fun f hf => hl f (List.mem_cons_of_mem _ hf), wordsS_pre (by rw [wordsL_len]; exact hl a (List.mem_cons_self ..))]
  exact q _ fun f hf => h f (List.mem_reverse.mp hf)
theorem Flat_cons (S : List Step) (f : Step) (fs : List Step) : Flat S (f :: fs) = Flat S fs ++ wordsS (wordsL S) f := by
  unfold Flat
  rw [List.reverse_cons, List.flatMap_append]
  simp
theorem last_words (S : List Step) (f : Step) : (wordsL (S ++ [f])).getLastD [] = wordsS (wordsL S) f := by
  rw [wordsL_snoc, List.getLastD_concat]
/-- what is wanted still: of the last frame all its missing ones, of the others one less -/
def needF : List Step → Nat
  | [] => 0
  | f :: fs => (arityW f.1 - f.2.length) + (fs.map fun g => arityW g.1 - g.2.length - 1).sum
/-- what holds of steps and frames -/
structure PoI (S fs : List Step) : Prop where
  wf : WfS S
  ar : ∀ st ∈ S, st.2.length = arityW st.1
  lt : ∀ f ∈ fs, ∀ j ∈ f.2, j < S.length
  pa : ∀ i, i < S.length → (∃ (p : Nat) (st : Step), S[p]? = some st ∧ i ∈ st.2) ∨ (∃ f ∈ fs, i ∈ f.2) ∨ (fs = [] ∧ i + 1 = S.length)
theorem PoI.up {S fs : List Step} {f : Step} (h : PoI S (f :: fs)) (hc : f.2.length = arityW f.1) : PoI (S ++ [f]) (match fs with | [] => [] | g :: gs => (g.1, g.2 ++ [S.length]) :: gs) := by
  refine ⟨fun i st hi j hj => ?_, fun st hs => ?_, fun x hx j hj => ?_, fun i hi => ?_⟩
  · by_cases hl : i < S.length
    · rw [List.getElem?_append_left hl] at hi
      exact h.wf i st hi j hj
    · rw [List.getElem?_append_right (by omega)] at hi
      have e : i - S.length = 0 := by
        have := (List.getElem?_eq_some_iff.mp hi).1
        simpa using this
      rw [e] at hi
      cases hi
      have := h.lt _ (List.mem_cons_self ..) j hj
      omega
  · rcases List.mem_append.mp hs with hs | hs
    · exact h.ar st hs
    · rw [List.mem_singleton.mp hs]
      exact hc
  · rw [List.length_append]
    cases fs with
    | nil => cases hx
    | cons g gs =>
      rcases List.mem_cons.mp hx with rfl | hx
      · rcases List.mem_append.mp hj with hj | hj
        · have := h.lt g (by simp) j hj
          omega
        · rw [List.mem_singleton.mp hj]
          simp
      · have := h.lt x (by simp [hx]) j hj
        omega
  · rw [List.length_append] at hi
    by_cases hl : i < S.length
    · rcases h.pa i hl with ⟨p, st, hp, hm⟩ | ⟨x, hx, hm⟩ | ⟨e, _⟩
      · refine .inl ⟨p, st, ?_, hm⟩
        rw [List.getElem?_append_left (List.getElem?_eq_some_iff.mp hp).1]
        exact hp
      · rcases List.mem_cons.mp hx with rfl | hx
        · refine .inl ⟨S.length, x, ?_, hm⟩
          rw [List.getElem?_append_right (Nat.le_refl _), Nat.sub_self]
          rfl
        · cases fs with
          | nil => cases hx
          | cons g gs =>
            rcases List.mem_cons.mp hx with rfl | hx
            · exact .inr (.inl ⟨_, List.mem_cons_self .., List.mem_append_left _ hm⟩)
            · exact .inr (.inl ⟨x, List.mem_cons_of_mem _ hx, hm⟩)
      · cases e
    · have e : i = S.length := by
        simp at hi
        omega
      subst e
      cases fs with
      | nil => exact .inr (.inr ⟨rfl, by simp⟩)
      | cons g gs => exact .inr (.inl ⟨_, List.mem_cons_self .., List.mem_append_right _ (List.mem_singleton.mpr rfl)⟩)
theorem settle1_ok : ∀ (fs S : List Step) (f : Step), PoI S (f :: fs) → f.2.length ≤ arityW f.1 → (∀ g ∈ fs, WaitF g) →
    PoI (settle1 S f fs).1 (settle1 S f fs).2 ∧ needF (settle1 S f fs).2 = needF (f :: fs) ∧
    ((settle1 S f fs).2 ≠ [] → Flat (settle1 S f fs).1 (settle1 S f fs).2 = Flat S (f :: fs)) ∧
    ((settle1 S f fs).2 = [] → (settle1 S f fs).1 ≠ [] ∧ (wordsL (settle1 S f fs).1).getLastD [] = Flat S (f :: fs))
  | [], S, f, h, le, inc => by
    by_cases hw : f.2.length < arityW f.1
    · rw [settle1_go hw]
      exact ⟨h, rfl, (fun _ => rfl), (fun e => by cases e)⟩
    · have e : settle1 S f [] = (S ++ [f], []) := by unfold settle1; rw [if_neg hw]
      rw [e]
      refine ⟨h.up (by omega), ?_, (fun e => absurd rfl e), fun _ => ⟨by simp, ?_⟩⟩
      · unfold needF
        simp
        omega
      · show (wordsL (S ++ [f])).getLastD [] = _
        rw [last_words, Flat_cons]
        rfl
  | g :: gs, S, f, h, le, inc => by
    by_cases hw : f.2.length < arityW f.1
    · rw [settle1_go hw]
      exact ⟨h, rfl, (fun _ => rfl), (fun e => by cases e)⟩
    · have e : settle1 S f (g :: gs) = settle1 (S ++ [f]) (g.1, g.2 ++ [S.length]) gs := by
        conv => lhs; unfold settle1
        rw [if_neg hw]
      have hg : WaitF g := inc g (List.mem_cons_self ..)
      have up := h.up (by omega)
      obtain ⟨q1, q2, q3, q4⟩ := settle1_ok gs (S ++ [f]) (g.1, g.2 ++ [S.length]) up (by unfold WaitF at hg; simp; omega) fun x hx => inc x (List.mem_cons_of_mem _ hx)
      have fl : Flat (S ++ [f]) ((g.1, g.2 ++ [S.length]) :: gs) = Flat S (f :: g :: gs) := by
        rw [Flat_cons, Flat_cons, Flat_cons, Flat_pre fun x hx => h.lt x (by simp [hx]), List.append_assoc]
        congr 1
        have e1 : wordsS (wordsL (S ++ [f])) g = wordsS (wordsL S) g := by
          rw [wordsL_snoc]
          exact wordsS_pre (by rw [wordsL_len]; exact h.lt g (by simp))
        have e2 : (wordsL (S ++ [f])).getD S.length [] = wordsS (wordsL S) f := by
          rw [wordsL_snoc, List.getD_eq_getElem?_getD, List.getElem?_append_right (by rw [wordsL_len]; exact Nat.le_refl _), wordsL_len, Nat.sub_self]
          rfl
        rw [← e1, ← e2]
        unfold wordsS
        rw [List.flatMap_append]
        simp
      rw [e]
      refine ⟨q1, ?_, fun hne => (q3 hne).trans fl, fun he => ⟨(q4 he).1, (q4 he).2.trans fl⟩⟩
      rw [q2]
      unfold needF WaitF at *
      simp only [List.map_cons, List.sum_cons, List.length_append, List.length_singleton]
      omega
/-- all that has been taken: words ws, steps and frames, so many wanted -/
structure FoI (ws : List Str) (S fs : List Step) (n : Nat) : Prop where
  pi : PoI S fs
  inc : ∀ g ∈ fs, WaitF g
  open_ : fs ≠ [] → Flat S fs = ws ∧ n = needF fs
  done : fs = [] → (S = [] ∧ ws = [] ∧ n = 1) ∨ (S ≠ [] ∧ (wordsL S).getLastD [] = ws ∧ n = 0)
theorem FoI.step {ws : List Str} {S fs : List Step} {m : Nat} {w : Str} (h : FoI ws S fs (m + 1)) : FoI (ws ++ [w]) (feed (S, fs) w).1 (feed (S, fs) w).2 (m + arityW w) := by
  have p0 : PoI S ((w, []) :: fs) := by
    refine ⟨h.pi.wf, h.pi.ar, fun f hf j hj => ?_, fun i hi => ?_⟩
    · rcases List.mem_cons.mp hf with rfl | hf
      · cases hj
      · exact h.pi.lt f hf j hj
    · rcases h.pi.pa i hi with q | ⟨f, hf, q⟩ | ⟨e, q⟩
      · exact .inl q
      · exact .inr (.inl ⟨f, List.mem_cons_of_mem _ hf, q⟩)
      · rcases h.done e with ⟨e2, _⟩ | ⟨_, _, e3⟩
        · rw [e2] at hi
          cases hi
        · omega
  obtain ⟨q1, q2, q3, q4⟩ := settle1_ok fs S (w, []) p0 (Nat.zero_le _) h.inc
  have inc := (settle1_inc fs S (w, []) h.inc).1
  have fl : Flat S ((w, []) :: fs) = ws ++ [w] := by
    rw [Flat_cons]
    cases fs with
    | nil =>
      rcases h.done rfl with ⟨_, e2, _⟩ | ⟨_, _, e3⟩
      · rw [e2]
        rfl
      · omega
    | cons f fs =>
      rw [(h.open_ (by simp)).1]
      rfl
  have nd : needF ((w, []) :: fs) = m + arityW w := by
    cases fs with
    | nil =>
      rcases h.done rfl with ⟨_, _, e3⟩ | ⟨_, _, e3⟩
      · unfold needF
        simp
        omega
      · omega
    | cons f fs =>
      have e := (h.open_ (by simp)).2
      have hf : WaitF f := h.inc f (List.mem_cons_self ..)
      unfold needF WaitF at *
      simp only [List.map_cons, List.sum_cons, List.length_nil] at *
      omega
  refine ⟨q1, inc, fun hne => ⟨(q3 hne).trans fl, (q2.trans nd).symm⟩, fun he => .inr ⟨(q4 he).1, (q4 he).2.trans fl, ?_⟩⟩
  have e0 : needF (settle1 S (w, []) fs).2 = 0 := by
    have he' : (settle1 S (w, []) fs).2 = [] := he
    rw [he']
    rfl
  omega
theorem due_steps : ∀ (rest ws : List Str) (i n : Nat) (d : List Step × List Step), FoI ws d.1 d.2 n → dueW i n rest = none → ∃ S, rest.foldl feed d = (S, []) ∧ FoI (ws ++ rest) S [] 0
  | [], ws, i, n, d, h, e => by
    cases n with
    | succ n => cases e
    | zero =>
      obtain ⟨S, fs⟩ := d
      cases fs with
      | nil => exact ⟨S, rfl, by rw [List.append_nil]; exact h⟩
      | cons f fs =>
        exfalso
        have e2 : 0 = (arityW f.1 - f.2.length) + (fs.map fun g => arityW g.1 - g.2.length - 1).sum := (h.open_ (by simp)).2
        have hf : f.2.length < arityW f.1 := h.inc f (List.mem_cons_self ..)
        omega
  | w :: rest, ws, i, n, d, h, e => by
    cases n with
    | zero => cases e
    | succ m =>
      have e' : (if okW w = true then dueW (i + 1) (m + arityW w) rest else some i) = none := e
      split at e'
      · obtain ⟨S, q1, q2⟩ := due_steps rest (ws ++ [w]) (i + 1) (m + arityW w) (feed d w) h.step e'
        exact ⟨S, q1, by rw [List.append_assoc] at q2; exact q2⟩
      · cases e'
theorem steps_ok {ws : List Str} (h : dueW 0 1 ws = none) : ∃ S, stepsOf ws = (S, []) ∧ PoI S [] ∧ S ≠ [] ∧ (wordsL S).getLastD [] = ws := by
  have h0 : FoI [] [] [] 1 := ⟨⟨(fun i st hi => by cases hi), (fun st hs => by cases hs), (fun f hf => by cases hf), (fun i hi => by cases hi)⟩, (fun g hg => by cases hg), (fun e => absurd rfl e), fun _ => .inl ⟨rfl, rfl, rfl⟩⟩
  obtain ⟨S, q1, q2⟩ := due_steps ws [] 0 1 ([], []) h0 h
  refine ⟨S, q1, q2.pi, ?_⟩
  rcases q2.done rfl with ⟨_, _, e⟩ | ⟨e1, e2, _⟩
  · cases e
  · exact ⟨e1, e2⟩
end L2.Wk
namespace L2.Wk
open PySem PySem.Spec PyProof.Rows
/-! ### each step once: the same words -/
theorem words_at {S : List Step} {i : Nat} {st : Step} (wf : WfS S) (h : S[i]? = some st) : (wordsL S).getD i [] = wordsS (wordsL S) st := by
  have hi := (List.getElem?_eq_some_iff.mp h).1
  have tk := words_take S i st h
  have li : (wordsL (S.take i)).length = i := by
    rw [wordsL_len, List.length_take]
    omega
  obtain ⟨T, e⟩ := wordsL_pre (S.take (i + 1)) (S.drop (i + 1))
  obtain ⟨T2, e2⟩ := wordsL_pre (S.take i) (S.drop i)
  rw [List.take_append_drop] at e e2
  have a1 : (wordsL S).getD i [] = wordsS (wordsL (S.take i)) st := by
    rw [e, tk, getD_pre (by rw [List.length_append, li]; simp), List.getD_eq_getElem?_getD, List.getElem?_append_right (by omega), li, Nat.sub_self]
    rfl
  rw [a1, e2, wordsS_pre]
  rw [li]
  exact wf i st h
structure EoI (S : List Step) (i : Nat) (d : List Step × List Nat) : Prop where
  len : d.2.length = i
  map : ∀ j, j < i → d.2.getD j 0 < d.1.length ∧ (wordsL d.1).getD (d.2.getD j 0) [] = (wordsL S).getD j []
  sur : ∀ k, k < d.1.length → ∃ j, j < i ∧ d.2.getD j 0 = k
  wf : WfS d.1
  ar : ∀ st ∈ d.1, st.2.length = arityW st.1
  nm : ∀ st ∈ d.1, ∃ st0 ∈ S, st0.1 = st.1
theorem getD_last (M : List Nat) (k : Nat) : (M ++ [k]).getD M.length 0 = k := by
  rw [List.getD_eq_getElem?_getD, List.getElem?_append_right (Nat.le_refl _), Nat.sub_self]
  rfl
theorem new_words {S : List Step} {i : Nat} {st : Step} {d : List Step × List Nat} (I : EoI S i d) (hs : ∀ j ∈ st.2, j < i) : wordsS (wordsL d.1) (newS d.2 st) = wordsS (wordsL S) st := by
  unfold wordsS newS
  congr 1
  have q : ∀ l : List Nat, (∀ j ∈ l, j < i) → ((l.map fun a => d.2.getD a 0).flatMap fun j => (wordsL d.1).getD j []) = l.flatMap fun j => (wordsL S).getD j [] := by
    intro l
    induction l with
    | nil => intro _; rfl
    | cons a l ih =>
      intro h
      rw [List.map_cons, List.flatMap_cons, List.flatMap_cons, ih fun j hj => h j (List.mem_cons_of_mem _ hj), (I.map a (h a (List.mem_cons_self ..))).2]
  exact q st.2 hs
theorem EoI.step {S : List Step} {i : Nat} {st : Step} {d : List Step × List Nat} (wf : WfS S) (ar : ∀ st ∈ S, st.2.length = arityW st.1) (h : S[i]? = some st) (I : EoI S i d) : EoI S (i + 1) (eStep d st) := by
  have hs := wf i st h
  have nw := new_words I hs
  have at_ := words_at wf h
  have nar : (newS d.2 st).2.length = arityW (newS d.2 st).1 := by
    unfold newS
    rw [List.length_map]
    exact ar st (List.mem_of_getElem? h)
  have nlt : ∀ j ∈ (newS d.2 st).2, j < d.1.length := fun j hj => by
    obtain ⟨a, ha, rfl⟩ := List.mem_map.mp hj
    exact (I.map a (hs a ha)).1
  have nn : (newS d.2 st).1 = st.1 := rfl
  unfold eStep
  generalize newS d.2 st = N at *
  split
  · rename_i hm
    have hk : d.1.idxOf N < d.1.length := List.idxOf_lt_length_of_mem hm
    have gk : d.1[d.1.idxOf N]? = some N := by
      rw [List.getElem?_eq_getElem hk, List.getElem_idxOf hk]
    refine ⟨by simp [I.len], fun j hj => ?_, fun k hk' => ?_, I.wf, I.ar, I.nm⟩
    · by_cases e : j < i
      · rw [getD_pre (by rw [I.len]; exact e)]
        exact I.map j e
      · have e : j = d.2.length := by have := I.len; omega
        subst e
        rw [getD_last]
        refine ⟨hk, ?_⟩
        have := words_at I.wf gk
        dsimp only
        rw [this, nw, I.len, at_]
    · obtain ⟨j, h1, h2⟩ := I.sur k hk'
      exact ⟨j, by omega, by rw [getD_pre (by rw [I.len]; exact h1)]; exact h2⟩
  · rename_i hm
    refine ⟨by simp [I.len], fun j hj => ?_, fun k hk' => ?_, fun a x ha y hy => ?_, fun x hx => ?_, fun x hx => ?_⟩
    · by_cases e : j < i
      · rw [getD_pre (by rw [I.len]; exact e)]
        obtain ⟨m1, m2⟩ := I.map j e
        refine ⟨by rw [List.length_append, List.length_singleton]; omega, ?_⟩
        rw [wordsL_snoc, getD_pre (by rw [wordsL_len]; exact m1)]
        exact m2
      · have e : j = d.2.length := by have := I.len; omega
        subst e
        rw [getD_last]
        refine ⟨by simp, ?_⟩
        rw [wordsL_snoc, List.getD_eq_getElem?_getD, List.getElem?_append_right (by rw [wordsL_len]; exact Nat.le_refl _), wordsL_len, Nat.sub_self]
        show wordsS (wordsL d.1) N = _
        rw [nw, I.len, at_]
    · simp at hk'
      by_cases e : k < d.1.length
      · obtain ⟨j, h1, h2⟩ := I.sur k e
        exact ⟨j, by omega, by rw [getD_pre (by rw [I.len]; exact h1)]; exact h2⟩
      · have e : k = d.1.length := by omega
        subst e
        exact ⟨d.2.length, by have := I.len; omega, getD_last _ _⟩
    · by_cases e : a < d.1.length
      · rw [List.getElem?_append_left e] at ha
        exact I.wf a x ha y hy
      · rw [List.getElem?_append_right (by omega)] at ha
        have e0 : a - d.1.length = 0 := by
          have := (List.getElem?_eq_some_iff.mp ha).1
          simpa using this
        rw [e0] at ha
        cases ha
        have := nlt y hy
        omega
    · rcases List.mem_append.mp hx with hx | hx
      · exact I.ar x hx
      · rw [List.mem_singleton.mp hx]
        exact nar
    · rcases List.mem_append.mp hx with hx | hx
      · exact I.nm x hx
      · rw [List.mem_singleton.mp hx]
        exact ⟨st, List.mem_of_getElem? h, nn.symm⟩
theorem each_inv {S : List Step} (wf : WfS S) (ar : ∀ st ∈ S, st.2.length = arityW st.1) : ∀ i, i ≤ S.length → EoI S i (eachS (S.take i))
  | 0, _ => ⟨rfl, (fun j hj => by cases hj), (fun k hk => by cases hk), (fun i st h => by cases h), (fun st h => by cases h), (fun st h => by cases h)⟩
  | i + 1, hi => by
    have h : S[i]? = some S[i] := List.getElem?_eq_getElem (by omega)
    rw [eachS_take S i _ h]
    exact EoI.step wf ar h (each_inv wf ar i (by omega))
theorem mem_flat_len {A : List (List Str)} {j : Nat} : ∀ {l : List Nat}, j ∈ l → (A.getD j []).length ≤ (l.flatMap fun a => A.getD a []).length
  | a :: l, h => by
    rw [List.flatMap_cons, List.length_append]
    rcases List.mem_cons.mp h with rfl | h
    · omega
    · have := mem_flat_len (A := A) h
      omega
theorem lt_last {S : List Step} (h : PoI S []) : ∀ n j, j + n + 1 = S.length → j + 1 < S.length → ((wordsL S).getD j []).length < ((wordsL S).getD (S.length - 1) []).length := by
  intro n
  induction n using Nat.strongRecOn with
  | _ n ih =>
    intro j e hj
    rcases h.pa j (by omega) with ⟨p, st, hp, hm⟩ | ⟨f, hf, _⟩ | ⟨_, e2⟩
    · have hjp := h.wf p st hp j hm
      have hpl := (List.getElem?_eq_some_iff.mp hp).1
      have l1 : ((wordsL S).getD j []).length < ((wordsL S).getD p []).length := by
        rw [words_at h.wf hp]
        unfold wordsS
        rw [List.length_cons]
        have := mem_flat_len (A := wordsL S) hm
        omega
      by_cases e3 : p + 1 = S.length
      · rw [show S.length - 1 = p by omega]
        exact l1
      · have := ih (S.length - 1 - p) (by omega) p (by omega) (by omega)
        omega
    · cases hf
    · omega
theorem getD_getLast {S : List Step} (h : S ≠ []) : (wordsL S).getD (S.length - 1) [] = (wordsL S).getLastD [] := by
  have hl : (wordsL S).length = S.length := wordsL_len S
  have h0 : 0 < S.length := List.length_pos_iff.mpr h
  rcases List.eq_nil_or_concat (wordsL S) with e | ⟨m, c, e⟩
  · rw [e] at hl
    simp at hl
    omega
  · rw [List.concat_eq_append] at e
    have hm : m.length = S.length - 1 := by
      rw [e] at hl
      simp at hl
      omega
    rw [e, List.getLastD_concat, List.getD_eq_getElem?_getD, ← hm, List.getElem?_append_right (Nat.le_refl _), Nat.sub_self]
    rfl
theorem each_ok_words {S : List Step} (h : PoI S []) (ne : S ≠ []) : WfS (eachS S).1 ∧ (∀ st ∈ (eachS S).1, st.2.length ≤ 2) ∧ (eachS S).1 ≠ [] ∧ (wordsL (eachS S).1).getLastD [] = (wordsL S).getLastD [] ∧ (∀ st ∈ (eachS S).1, ∃ st0 ∈ S, st0.1 = st.1) := by
  have hpos : 0 < S.length := List.length_pos_iff.mpr ne
  have IF := each_inv h.wf h.ar S.length (Nat.le_refl _)
  rw [List.take_length] at IF
  obtain ⟨n, hn⟩ : ∃ n, S.length = n + 1 := ⟨S.length - 1, by omega⟩
  have hst : S[n]? = some S[n] := List.getElem?_eq_getElem (by omega)
  have I := each_inv h.wf h.ar n (by omega)
  have et := eachS_take S n _ hst
  rw [← hn, List.take_length] at et
  have nw := new_words I (h.wf n _ hst)
  have at_ := words_at h.wf hst
  have hl := getD_getLast ne
  rw [hn, Nat.add_sub_cancel] at hl
  generalize S[n] = st at *
  have nm : newS (eachS (S.take n)).2 st ∉ (eachS (S.take n)).1 := fun hm => by
    have hk : (eachS (S.take n)).1.idxOf (newS (eachS (S.take n)).2 st) < (eachS (S.take n)).1.length := List.idxOf_lt_length_of_mem hm
    have gk : (eachS (S.take n)).1[(eachS (S.take n)).1.idxOf (newS (eachS (S.take n)).2 st)]? = some (newS (eachS (S.take n)).2 st) := by
      rw [List.getElem?_eq_getElem hk, List.getElem_idxOf hk]
    obtain ⟨j, j1, j2⟩ := I.sur _ hk
    have w1 := words_at I.wf gk
    have w2 := (I.map j j1).2
    rw [j2, w1, nw, ← at_] at w2
    have := lt_last h (n - j) j (by omega) (by omega)
    rw [hn, Nat.add_sub_cancel, ← w2] at this
    omega
  unfold eStep at et
  rw [if_neg nm] at et
  rw [et] at IF ⊢
  refine ⟨IF.wf, fun x hx => ?_, by simp, ?_, IF.nm⟩
  · rw [IF.ar x hx]
    exact arity_le _
  · dsimp only
    rw [last_words, nw, ← at_, hl]
end L2.Wk
namespace L2.Wk
open PySem PySem.Spec PyProof.Rows
/-! ### Formula.read -/
theorem settle1_heads : ∀ (fs S : List Step) (f : Step) (x : Step), x ∈ (settle1 S f fs).1 ∨ x ∈ (settle1 S f fs).2 → ∃ y, (y ∈ S ∨ y ∈ f :: fs) ∧ y.1 = x.1
  | [], S, f, x, h => by
    unfold settle1 at h
    split at h
    · rcases h with h | h
      · exact ⟨x, .inl h, rfl⟩
      · exact ⟨x, .inr h, rfl⟩
    · rcases h with h | h
      · rcases List.mem_append.mp h with h | h
        · exact ⟨x, .inl h, rfl⟩
        · exact ⟨x, .inr h, rfl⟩
      · cases h
  | g :: gs, S, f, x, h => by
    unfold settle1 at h
    split at h
    · rcases h with h | h
      · exact ⟨x, .inl h, rfl⟩
      · exact ⟨x, .inr h, rfl⟩
    · obtain ⟨y, hy, e⟩ := settle1_heads gs (S ++ [f]) (g.1, g.2 ++ [S.length]) x h
      rcases hy with hy | hy
      · rcases List.mem_append.mp hy with hy | hy
        · exact ⟨y, .inl hy, e⟩
        · exact ⟨y, .inr (by rw [List.mem_singleton.mp hy]; exact List.mem_cons_self ..), e⟩
      · rcases List.mem_cons.mp hy with rfl | hy
        · exact ⟨g, .inr (by simp), e⟩
        · exact ⟨y, .inr (by simp [hy]), e⟩
theorem steps_heads (ws : List Str) : ∀ x, x ∈ (stepsOf ws).1 ∨ x ∈ (stepsOf ws).2 → x.1 ∈ ws := by
  have q : ∀ (rest ws : List Str) (d : List Step × List Step), (∀ x, x ∈ d.1 ∨ x ∈ d.2 → x.1 ∈ ws) → ∀ x, x ∈ (rest.foldl feed d).1 ∨ x ∈ (rest.foldl feed d).2 → x.1 ∈ ws ++ rest := by
    intro rest
    induction rest with
    | nil => intro ws d h x hx; rw [List.append_nil]; exact h x hx
    | cons w rest ih =>
      intro ws d h x hx
      have := ih (ws ++ [w]) (feed d w) (fun y hy => ?_) x hx
      · rw [List.append_assoc] at this
        exact this
      · obtain ⟨z, hz, e⟩ := settle1_heads d.2 d.1 (w, []) y hy
        rw [← e]
        rcases hz with hz | hz
        · exact List.mem_append_left _ (h z (.inl hz))
        · rcases List.mem_cons.mp hz with rfl | hz
          · exact List.mem_append_right _ (List.mem_singleton.mpr rfl)
          · exact List.mem_append_left _ (h z (.inr hz))
  have := q ws [] ([], []) fun x hx => by rcases hx with hx | hx <;> cases hx
  rw [List.nil_append] at this
  exact this
theorem words_heads (S : List Step) : ∀ l ∈ wordsL S, ∀ x ∈ l, ∃ st ∈ S, st.1 = x := by
  have q : ∀ (R : List Step) (acc : List (List Str)), (∀ st ∈ R, st ∈ S) → (∀ l ∈ acc, ∀ x ∈ l, ∃ st ∈ S, st.1 = x) → ∀ l ∈ R.foldl (fun acc st => acc ++ [wordsS acc st]) acc, ∀ x ∈ l, ∃ st ∈ S, st.1 = x := by
    intro R
    induction R with
    | nil => intro acc _ h; exact h
    | cons st R ih =>
      intro acc hR h
      rw [List.foldl_cons]
      refine ih _ (fun s hs => hR s (List.mem_cons_of_mem _ hs)) fun l hl x hx => ?_
      rcases List.mem_append.mp hl with hl | hl
      · exact h l hl x hx
      · rw [List.mem_singleton.mp hl] at hx
        rcases List.mem_cons.mp hx with rfl | hx
        · exact ⟨st, hR st (List.mem_cons_self ..), rfl⟩
        · obtain ⟨j, hj, hx⟩ := List.mem_flatMap.mp hx
          rw [List.getD_eq_getElem?_getD] at hx
          cases e : acc[j]? with
          | none => rw [e] at hx; cases hx
          | some l2 =>
            rw [e] at hx
            exact h l2 (List.mem_of_getElem? e) x hx
  exact q S [] (fun st h => h) fun l hl => by cases hl
/-- steps that have been read off words -/
structure RdS (ws : List Str) (S : List Step) : Prop where
  ne : S ≠ []
  len : S.length ≤ 1000
  wf : WfS S
  ar : ∀ st ∈ S, st.2.length ≤ 2
  last : (wordsL S).getLastD [] = ws
  big : ∀ l ∈ wordsL S, (l.map fun x => x.length).sum + l.length ≤ 100000
  hd : ∀ st ∈ S, st.1 ∈ ws
theorem read_ok {ws : List Str} (h : dueW 0 1 ws = none) (hl : ws.length ≤ 60) (hz : ∀ z ∈ ws, z.length ≤ 1000) : WfS (stepsOf ws).1 ∧ (∀ st ∈ (stepsOf ws).1, st.2.length ≤ 2) ∧ RdS ws (eachS (stepsOf ws).1).1 := by
  obtain ⟨S, e1, pi, ne, last⟩ := steps_ok h
  have hh := steps_heads ws
  have cnt := (stepsOf_inc ws).2
  rw [e1] at hh cnt ⊢
  dsimp only at *
  have hS : ∀ st ∈ S, st.1 ∈ ws := fun st hs => hh st (.inl hs)
  obtain ⟨k1, k2, k3, k4, k5⟩ := each_ok_words pi ne
  have kl := (eachS_lens S).2
  have khd : ∀ st ∈ (eachS S).1, st.1 ∈ ws := fun st hs => by
    obtain ⟨s0, h0, e⟩ := k5 st hs
    rw [← e]
    exact hS s0 h0
  have IF := each_inv pi.wf pi.ar S.length (Nat.le_refl _)
  rw [List.take_length] at IF
  have lenS : ∀ j, j < S.length → ((wordsL S).getD j []).length ≤ ws.length := fun j hj => by
    have e := getD_getLast ne
    rw [last] at e
    by_cases e2 : j + 1 = S.length
    · rw [show j = S.length - 1 by omega, e]
      exact Nat.le_refl _
    · have := lt_last pi (S.length - 1 - j) j (by omega) (by omega)
      rw [e] at this
      omega
  simp only [List.length_nil, Nat.add_zero] at cnt
  refine ⟨pi.wf, fun st hs => by rw [pi.ar st hs]; exact arity_le _, k3, by omega, k1, k2, k4.trans last, fun l hl2 => ?_, khd⟩
  obtain ⟨k, hk, rfl⟩ := List.getElem_of_mem hl2
  have hk' : k < (eachS S).1.length := by rw [wordsL_len] at hk; exact hk
  obtain ⟨j, j1, j2⟩ := IF.sur k hk'
  have e3 := (IF.map j j1).2
  have e4 : (wordsL (eachS S).1).getD k [] = (wordsL (eachS S).1)[k] := by
    rw [List.getD_eq_getElem?_getD, List.getElem?_eq_getElem hk]
    rfl
  rw [j2, e4] at e3
  have ll := lenS j j1
  rw [← e3] at ll
  have sm := sum_leG (c := 1000) (l := (wordsL (eachS S).1)[k]) fun x hx => by
    obtain ⟨st, hs, e⟩ := words_heads _ _ hl2 x hx
    rw [← e]
    exact hz _ (khd st hs)
  omega
theorem big_okG {n : Nat} (h : n ≤ 60000) : n ≤ sizeLine := by
  rw [sizeLine_eq]
  omega
def spReadF (K : PySem.W.Frag) (c : Fg) (IT : Addr) : Sp := fun vs H Q E => ∃ z : Str, vs = [.ref c.Formula, .str z] ∧ z.length ≤ 50000 ∧ (Txt.split z (Str.ofString " ")).length ≤ 60 ∧ (∀ y ∈ Txt.split z (Str.ofString " "), y.length ≤ 1000) ∧
  (dueW 0 1 (Txt.split z (Str.ofString " ")) = none → ∀ p H' S, FoAt K c.Formula H' p S → RdS (Txt.split z (Str.ofString " ")) S → Same H H' → Q (.ref p) H') ∧
  (∀ n, dueW 0 1 (Txt.split z (Str.ofString " ")) = some n → ∀ (d : Addr) (H' : Hp), Same H H' → H' d = some (.xd [("at", .int (n : Nat))]) → E (.ref IT) (some d) H')
section
variable {P : Program} {w : World} {K : PySem.W.Frag} {mg : Str → Option Value} {base : Heap} {a : Wf} {g : Gf} {c : Fg} {h : Hf} {IT fIT : Addr} {f : Addr} {fd : FuncData}
theorem ok_readF {f1 f2 f3 : FuncData} (F : Fun K "read" "Formula.read" s_Formula_read f fd) (T : TxtR K w mg a g c h IT fIT)
    (G__check_words : FnOk P w K mg base (L2.CX P w) 2 h.check f1 ["words"] (spCheck K IT)) (b__check_words : Binds K f1 ["words"] [])
    (G__steps_of_words : FnOk P w K mg base CX0 2 h.steps f2 ["words"] (spSteps K)) (b__steps_of_words : Binds K f2 ["words"] [])
    (G_Formula : FnOk P w K mg base CX0 2 c.fInit f3 ["self", "steps"] (spFormG K c)) (b_Formula : Binds K f3 ["self", "steps"] []) :
    FnOk P w K mg base (L2.CX P w) 4 f fd ["cls", "text"] (spReadF K c IT) := by
  have M_Formula := T.M
  refine F.okX sc_Formula_read (fun vs H Q E h => ?_) (fun cdv A outer s H vs Q E hr h => ?_)
  · obtain ⟨_, rfl, _⟩ := h
    rfl
  · obtain ⟨z, rfl, hzl, hn, hw, k, kE⟩ := h
    refine ⟨_, (pss_cons (ps_set (i := 2) sc_Formula_read.nd rfl (Or.inl rfl) (pe_split (pv 1) pe_str))
    (pss_cons (ps_expr (pe_call G__check_words (hr.mono (by decide)) rfl T.g__check_words T.k__check_words b__check_words .nil (passes_call (E := E) (takes_of rfl rfl rfl rfl) (fun _ _ _ _ h => h)) (pa_cons (pv 2) pa_nil)))
    (pss_one (ps_ret (pe_makeL (i := 0) M_Formula G_Formula (hr.mono (by decide)) rfl (Or.inl rfl) b_Formula .nil (E := fun _ => E0) at0 (pa_cons (pe_call G__steps_of_words (hr.mono (by decide)) rfl T.g__steps_of_words T.k__steps_of_words b__steps_of_words .nil pass0 (pa_cons (pv 2) pa_nil)) pa_nil)))))), ?_⟩
    refine ⟨_, rfl, ⟨_, rfl⟩, z, Str.ofString " ", rfl, rfl, by decide +kernel, big_okG (by omega), fun pw hpw => ?_⟩
    have s1 := Same.upd_new (o := .lst ((Txt.split z (Str.ofString " ")).map V.str)) hpw
    have hw1 : (upd H pw (.lst ((Txt.split z (Str.ofString " ")).map V.str))) pw = some (.lst ((Txt.split z (Str.ofString " ")).map V.str)) := upd_same
    generalize upd H pw _ = H1 at s1 hw1 ⊢
    generalize Txt.split z (Str.ofString " ") = ws at *
    refine ⟨_, rfl, pw, ws, rfl, .inl (.inl hw1), by omega, hw, fun hd H2 s2 => ?_, fun n hn d H' s' hd' => kE n hn d H' (s1.trans s') hd'⟩
    obtain ⟨r1, r2, r3⟩ := read_ok hd hn hw
    have s12 := s1.trans s2
    refine ⟨rfl, _, rfl, pw, ws, rfl, .inl (.inl (s2 _ _ hw1)), by omega, r2, r1, fun t us H3 h3 h4 s3 => ?_⟩
    have s13 := s12.trans s3
    refine fun yy dy ny nd ne => ?_
    have s0 : Same H3 (upd (upd H3 dy (.own yy)) yy (.ins c.Formula dy [])) := made_same ny nd
    refine ⟨yy, dy, t, us, _, rfl, upd_same, Same.sqT s0 h3, h4.imp (StepAt.same s0), r3.len, ⟨ws, fun x hx => ?_, by omega⟩, fun H4 hF hk => ⟨rfl, ?_⟩⟩
    · unfold namesS at hx
      obtain ⟨st, hs, rfl⟩ := List.mem_map.mp (List.mem_filter.mp hx).1
      exact r3.hd st hs
    · exact k hd yy H4 _ hF r3 (s13.trans (made_keep ny nd hk))
end
end L2.Wk
namespace L2.Wk
open PySem PySem.Spec PyProof.Rows
abbrev s_law_shuffled : Stmt := top 35
abbrev N_law_shuffled : List Str := ["_law_deal", "_law_some", "_law_rest", "_law_found", "_law_turn"]
theorem sc_law_shuffled : FnScope N_law_shuffled ["_law_deal", "_law_some"] (defScope s_law_shuffled) := ⟨rfl, rfl, rfl, by decide +kernel, rfl, by decide +kernel, by decide +kernel⟩
abbrev s_law_words : Stmt := top 36
abbrev N_law_words : List Str := ["_law_deal", "_law_many", "_law_some"]
theorem sc_law_words : FnScope N_law_words ["_law_deal", "_law_many"] (defScope s_law_words) := ⟨rfl, rfl, rfl, by decide +kernel, rfl, by decide +kernel, by decide +kernel⟩
theorem DealA.nd {d l p : Addr} {H : Hp} (D : DealA H d l) (h : H p = none) : p ≠ d := by
  obtain ⟨cs, b, h1, h2, _⟩ := D.ex
  exact (ne_of_none h1 h).symm
theorem DealA.nl {d l p : Addr} {H : Hp} (D : DealA H d l) (h : H p = none) : p ≠ l := by
  obtain ⟨cs, b, h1, h2, _⟩ := D.ex
  exact (ne_of_none h2 h).symm
theorem DealA.upd {d l p : Addr} {H : Hp} {o : HO} (D : DealA H d l) (h1 : p ≠ d) (h2 : p ≠ l) : DealA (upd H p o) d l := by
  obtain ⟨cs, b, e1, e2, h⟩ := D.ex
  exact ⟨cs, b, by rw [upd_ne h1.symm]; exact e1, by rw [upd_ne h2.symm]; exact e2, h⟩
theorem lay_strs {zs : List Str} (h : ∀ z ∈ zs, PyData.strOk z = true) : PyData.canLayAll0 (zs.map PyData.str) = true ∧ PyData.depthAll (zs.map PyData.str) = 0 := by
  induction zs with
  | nil => exact ⟨by simp [PyData.canLayAll0], by simp [PyData.depthAll]⟩
  | cons z zs ih =>
    obtain ⟨i1, i2⟩ := ih fun y hy => h y (List.mem_cons_of_mem _ hy)
    have hz := h z (List.mem_cons_self ..)
    rw [List.map_cons]
    exact ⟨by simp [PyData.canLayAll0, PyData.canLay0, hz, i1], by simp [PyData.depthAll, PyData.depth, i2]⟩
theorem shaped_strs {zs : List Str} (h : ∀ z ∈ zs, PyData.strOk z = true) : SeqAt.shaped (.list (zs.map PyData.str)) = true := by
  obtain ⟨h1, h2⟩ := lay_strs h
  unfold SeqAt.shaped
  simp [PyData.canLay0, PyData.depth, h1, h2]
theorem seq_ix {j n : Nat} (h : j < n) : seqIndex? (j : Int) n = some j := by
  unfold seqIndex?
  have h1 : ¬ ((j : Int) < 0) := by omega
  have h2 : (j : Int) < (n : Int) := by omega
  simp [h1, h2]
  try omega
theorem map_erase {α β : Type} (f : α → β) : ∀ (l : List α) (j : Nat), (l.map f).eraseIdx j = (l.eraseIdx j).map f
  | [], _ => rfl
  | _ :: _, 0 => rfl
  | a :: l, j + 1 => by
    rw [List.map_cons, List.eraseIdx_cons_succ, List.eraseIdx_cons_succ, List.map_cons, map_erase f l j]
theorem dp_strs {K : PySem.W.Frag} {H : Hp} : ∀ zs : List Str, DpAll K H (zs.map V.str) (zs.map PyData.str)
  | [] => .nil
  | z :: zs => .cons (.str z) (dp_strs zs)
/-- (a, b) != (c, d), texts -/
structure Ls where
  draw : Addr
  shuffled : Addr
structure TxtSh (K : PySem.W.Frag) (mg : Str → Option Value) (ls : Ls) : Prop where
  b_len : mg "len" = none
  b_list : mg "list" = none
  b_range : mg "range" = none
  g__law_draw : mg "_law_draw" = some (.ref ls.draw)
  k__law_draw : PySem.W.keepIn K (.ref ls.draw) = true
  g__law_shuffled : mg "_law_shuffled" = some (.ref ls.shuffled)
  k__law_shuffled : PySem.W.keepIn K (.ref ls.shuffled) = true
def spShuf : Sp := fun vs H Q _ => ∃ (d l s : Addr) (zs : List Str), vs = [.ref d, .ref s] ∧ DealA H d l ∧ H s = some (.lst (zs.map V.str)) ∧ zs.length ≤ 1000 ∧
  ∀ (p : Addr) (ys : List Str) (H' : Hp), H p = none → H' p = some (.lst (ys.map V.str)) → ys.length = zs.length → (∀ y ∈ ys, y ∈ zs) → DealA H' d l → Keep d l H H' → Q (.ref p) H'
def poolW : List Str := txts ["x", "y", "z", "a", "ab", "abc", "b", "cut", "save", "load", "open", "run", "bit", "of", "to", "off", "zzzz"]
def spWordsN : Sp := fun vs H Q _ => ∃ (d l : Addr) (n : Nat), vs = [.ref d, .int (n : Nat)] ∧ DealA H d l ∧ n ≤ 17 ∧ ∀ (p : Addr) (ys : List Str) (H' : Hp), H p = none → H' p = some (.lst (ys.map V.str)) → ys.length = n → (∀ y ∈ ys, y ∈ poolW) → DealA H' d l → Keep d l H H' → Q (.ref p) H'
section
variable {P : Program} {w : World} {K : PySem.W.Frag} {mg : Str → Option Value} {base : Heap} {ls : Ls} {f : Addr} {fd : FuncData}
theorem ok_shuffled {f1 : FuncData} (F : Fun K "_law_shuffled" "_law_shuffled" s_law_shuffled f fd) (T : TxtSh K mg ls) (G__law_draw : FnOk P w K mg base CX0 1 ls.draw f1 ["_law_deal", "_law_wide"] spDrawA) (b__law_draw : Binds K f1 ["_law_deal", "_law_wide"] []) :
    FnOk P w K mg base CX0 2 f fd ["_law_deal", "_law_some"] spShuf := by
  refine F.ok sc_law_shuffled (fun vs H Q E h => ?_) (fun cdv A outer s H vs Q E hr h => ?_)
  · obtain ⟨_, _, _, _, rfl, _⟩ := h
    rfl
  · obtain ⟨d, l, sa, zs, rfl, D, hs, hlen, k⟩ := h
    refine ⟨_, (pss_cons (ps_par (i := 2) (j := 3) rfl sc_law_shuffled.nd rfl rfl (by decide) rfl rfl (pa_cons (pe_callTy call_list_of (by rfl) T.b_list (by decide +kernel) (pa_cons (pv 1) pa_nil)) (pa_cons (pe_lst pa_nil) pa_nil)) rfl)
    (pss_cons (ps_for PassesOwn.never rfl (pi_range1 rfl T.b_range (pa_cons (pe_callB call_len (by rfl) T.b_len PySem.boot_len (pa_cons (pv 2) pa_nil)) pa_nil)) (pg_name (i := 4) sc_law_shuffled.nd rfl (Or.inl rfl))
      (pss_one (ps_expr (pe_bm PySem.F.plainAttrs_list PySem.F.slot_list_append PySem.F.type_list_append mt_append (pv 3) (pa_cons (pe_bm PySem.F.plainAttrs_list PySem.F.slot_list_pop PySem.F.type_list_pop mt_popAt (pv 2) (pa_cons (pe_call G__law_draw (hr.mono (by decide)) rfl T.g__law_draw T.k__law_draw b__law_draw .nil pass0 (pa_cons (pv 0) (pa_cons (pe_callB call_len (by rfl) T.b_len PySem.boot_len (pa_cons (pv 2) pa_nil)) pa_nil))) pa_nil)) pa_nil)))))
    (pss_one (ps_ret (pv 3))))), ?_⟩
    refine ⟨_, rfl, _, _, rfl, .inl (.inl (.inl hs)), fun L hL => ⟨by decide, fun FF hF => ⟨_, _, rfl, ?_⟩⟩⟩
    have nLF : L ≠ FF := ne_of_none upd_same hF
    have hF0 : H FF = none := by
      rw [upd_ne nLF.symm] at hF
      exact hF
    have sm : Same H (upd (upd H L (.lst (zs.map V.str))) FF (.lst [])) := (Same.upd_new hL).trans (Same.upd_new hF)
    have dL := D.nd hL
    have lL := D.nl hL
    have dF := D.nd hF0
    have lF := D.nl hF0
    have h1 : (upd (upd H L (.lst (zs.map V.str))) FF (.lst [])) L = some (.lst (zs.map V.str)) := by rw [upd_ne nLF]; exact upd_same
    refine ⟨_, rfl, _, zs.length, rfl, .inl ⟨_, .inl (.inl h1), (by rw [List.length_map])⟩, _, rfl, by omega, by omega, ?_⟩
    refine for_range (lo := 0) (n := zs.length) (fun i σ H' => ∃ (v4 : Option V) (xs ys : List Str), σ = [some (.ref d), some (.ref sa), some (.ref L), some (.ref FF), v4] ∧ H' L = some (.lst (xs.map V.str)) ∧ H' FF = some (.lst (ys.map V.str)) ∧
      (∀ x ∈ xs, x ∈ zs) ∧ (∀ y ∈ ys, y ∈ zs) ∧ ys.length = i ∧ xs.length + i = zs.length ∧ DealA H' d l ∧ Keep d l H H') ⟨_, zs, [], rfl, h1, upd_same, (fun _ h => h), (fun _ h => by cases h), rfl, rfl, D.same sm, Keep.same sm⟩ ?_ ?_
    · rintro i σ H1 hi ⟨v4, xs, ys, rfl, h1, h2, x1, y1, l1, l2, D1, kp⟩
      have hpos : 0 < xs.length := by omega
      refine ⟨_, rfl, .inl ⟨rfl, _, .inl (.inl h2)⟩, _, rfl, .inl ⟨rfl, _, .inl (.inl h1)⟩, _, rfl, _, rfl, _, xs.length, rfl, .inl ⟨_, .inl (.inl h1), by rw [List.length_map]⟩, d, l, _, rfl, D1, by omega, by omega, fun r H3 r0 r1 D3 kp3 => ?_⟩
      obtain ⟨j, rfl⟩ := Int.eq_ofNat_of_zero_le r0
      have hj : j < xs.length := by omega
      have h13 := kp3 _ _ h1 dL lL
      have h23 := kp3 _ _ h2 dF lF
      refine ⟨L, _, (j : Int), j, V.str xs[j], rfl, rfl, h13, by omega, by omega, ?_, ?_, ?_⟩
      · rw [List.length_map]
        exact seq_ix hj
      · rw [List.getElem?_map, List.getElem?_eq_getElem hj]
        rfl
      refine ⟨FF, ys.map V.str, _, rfl, rfl, (by rw [upd_ne nLF.symm]; exact h23), ?_, _, xs.eraseIdx j, ys ++ [xs[j]], rfl, ?_, ?_, ?_, ?_, ?_, ?_, ?_, ?_⟩
      · rw [List.length_map]
        exact small1000 (by omega)
      · rw [upd_ne nLF, upd_same, map_erase]
      · rw [List.map_append]
        exact upd_same
      · intro x hx
        exact x1 x (List.mem_of_mem_eraseIdx hx)
      · intro y hy
        rcases List.mem_append.mp hy with hy | hy
        · exact y1 y hy
        · rw [List.mem_singleton.mp hy]
          exact x1 _ (List.getElem_mem hj)
      · rw [List.length_append]
        simp only [List.length_cons, List.length_nil]
        omega
      · rw [List.length_eraseIdx_of_lt hj]
        omega
      · exact (D3.upd dL lL).upd dF lF
      · exact fun b o e q1 q2 => by
          rw [upd_ne (ne_of_none e hF0), upd_ne (ne_of_none e hL)]
          exact (kp.trans kp3) b o e q1 q2
    · rintro σ H1 ⟨v4, xs, ys, rfl, h1, h2, x1, y1, l1, l2, D1, kp⟩
      exact ⟨_, rfl, k FF ys H1 hF0 h2 l1 y1 D1 kp⟩
theorem ok_wordsN {f1 : FuncData} (F : Fun K "_law_words" "_law_words" s_law_words f fd) (T : TxtSh K mg ls) (G__law_shuffled : FnOk P w K mg base CX0 2 ls.shuffled f1 ["_law_deal", "_law_some"] spShuf) (b__law_shuffled : Binds K f1 ["_law_deal", "_law_some"] []) :
    FnOk P w K mg base CX0 3 f fd ["_law_deal", "_law_many"] spWordsN := by
  refine F.ok sc_law_words (fun vs H Q E h => ?_) (fun cdv A outer s H vs Q E hr h => ?_)
  · obtain ⟨_, _, _, rfl, _⟩ := h
    rfl
  · obtain ⟨d, l, n, rfl, D, hn, k⟩ := h
    refine ⟨_, (pss_cons (ps_set (i := 2) sc_law_words.nd rfl (Or.inl rfl) (pe_lst (pa_cons pe_str (pa_cons pe_str (pa_cons pe_str (pa_cons pe_str (pa_cons pe_str (pa_cons pe_str (pa_cons pe_str (pa_cons pe_str (pa_cons pe_str (pa_cons pe_str (pa_cons pe_str (pa_cons pe_str pa_nil))))))))))))))
    (pss_one (ps_ret (pe_slice sl_list (pe_call G__law_shuffled (hr.mono (by decide)) rfl T.g__law_shuffled T.k__law_shuffled b__law_shuffled .nil pass0 (pa_cons (pv 0) (pa_cons (pe_op op_cat (pv 2) (pe_lst (pa_cons pe_str (pa_cons pe_str (pa_cons pe_str (pa_cons pe_str (pa_cons pe_str pa_nil))))))) pa_nil))) po_none (po_some (pv 1)))))), ?_⟩
    refine ⟨(by show 12 ≤ sizeLine; decide), fun l1 hl1 => ?_⟩
    have s1 := Same.upd_new (o := .lst ((txts ["x", "y", "z", "a", "ab", "abc", "b", "cut", "save", "load", "open", "run"]).map V.str)) hl1
    have d1 := D.nd hl1
    refine ⟨_, rfl, _, rfl, (by show 5 ≤ sizeLine; decide), fun l2 hl2 => ?_⟩
    have s2 := s1.trans (Same.upd_new (o := .lst ((txts ["bit", "of", "to", "off", "zzzz"]).map V.str)) hl2)
    have ne2 : l1 ≠ l2 := ne_of_none upd_same hl2
    refine ⟨l1, l2, _, _, rfl, rfl, (by rw [upd_ne ne2]; exact upd_same), upd_same, (by show 17 ≤ sizeLine; decide), fun l3 hl3 => ?_⟩
    have s3 := s2.trans (Same.upd_new (o := .lst (poolW.map V.str)) hl3)
    refine ⟨d, l, l3, poolW, rfl, D.same s3, upd_same, (by decide), fun p ys H1 hp h1 l4 m4 D1 kp => ?_⟩
    have hpH : H p = none := s3.free hp
    refine ⟨_, rfl, _, rfl, p, _, rfl, .inl (.inl h1), fun q hq => ?_⟩
    rw [cut_to, ← List.map_take]
    have q1 : H1 q = none := hq
    have hqH : H q = none := by
      cases e : H q with
      | none => rfl
      | some o =>
        have := kp q o (s3 _ _ e) (D1.nd q1) (D1.nl q1)
        rw [q1] at this
        cases this
    refine k q (ys.take n) _ hqH upd_same ?_ (fun y hy => m4 y (List.mem_of_mem_take hy)) (D1.same (Same.upd_new q1)) fun b o e n1 n2 => ?_
    · rw [List.length_take, l4]
      have : poolW.length = 17 := rfl
      omega
    · rw [upd_ne (ne_of_none e hqH)]
      exact kp b o (s3 _ _ e) n1 n2
end
end L2.Wk
namespace L2.Wk
open PySem PySem.Spec PyProof.Rows
abbrev s_law_tree : Stmt := top 37
abbrev N_law_tree : List Str := ["_law_deal", "_law_names", "_law_many", "_law_deep", "_law_form", "_law_left", "_law_one"]
theorem sc_law_tree : FnScope N_law_tree ["_law_deal", "_law_names", "_law_many", "_law_deep"] (defScope s_law_tree) := ⟨rfl, rfl, rfl, by decide +kernel, rfl, by decide +kernel, by decide +kernel⟩
abbrev s_law_tokens : Stmt := top 38
abbrev N_law_tokens : List Str := ["_law_tree_here", "_law_found", "_law_part"]
theorem sc_law_tokens : FnScope N_law_tokens ["_law_tree_here"] (defScope s_law_tokens) := ⟨rfl, rfl, rfl, by decide +kernel, rfl, by decide +kernel, by decide +kernel⟩
inductive Tr where
  | name (z : Str)
  | val (b : Bool)
  | neg (t : Tr)
  | two (o : Str) (t u : Tr)
def sgnT : List Str := txts ["&", "|", "^"]
def Tr.deep : Tr → Nat
  | .name _ => 0
  | .val _ => 0
  | .neg t => t.deep + 1
  | .two _ t u => max t.deep u.deep + 1
def Tr.toks : Tr → List Str
  | .name z => [z]
  | .val b => [if b = true then Str.ofString "1" else Str.ofString "0"]
  | .neg t => Str.ofString "~" :: t.toks
  | .two o t u => o :: (t.toks ++ u.toks)
def TrAt (H : Hp) : V → Tr → Prop
  | v, .name z => ∃ p, v = .ref p ∧ H p = some (.tup [.str (Str.ofString "name"), .str z])
  | v, .val b => ∃ p, v = .ref p ∧ H p = some (.tup [.str (Str.ofString "value"), .bl b])
  | v, .neg t => ∃ p u, v = .ref p ∧ H p = some (.tup [.str (Str.ofString "~"), u]) ∧ TrAt H u t
  | v, .two o t u => ∃ p x y, v = .ref p ∧ H p = some (.tup [.str o, x, y]) ∧ o ∈ sgnT ∧ TrAt H x t ∧ TrAt H y u
def TupK (H H' : Hp) : Prop := ∀ p xs, H p = some (.tup xs) → H' p = some (.tup xs)
theorem TrAt.stay {H H' : Hp} (s : TupK H H') : ∀ (t : Tr) (v : V), TrAt H v t → TrAt H' v t
  | .name z, v, ⟨p, e, h⟩ => ⟨p, e, s _ _ h⟩
  | .val b, v, ⟨p, e, h⟩ => ⟨p, e, s _ _ h⟩
  | .neg t, v, ⟨p, u, e, h, h2⟩ => ⟨p, u, e, s _ _ h, TrAt.stay s t u h2⟩
  | .two o t u, v, ⟨p, x, y, e, h, ho, h2, h3⟩ => ⟨p, x, y, e, s _ _ h, ho, TrAt.stay s t x h2, TrAt.stay s u y h3⟩
theorem TupK.same {H H' : Hp} (s : Same H H') : TupK H H' := fun p xs e => s p _ e
theorem DealA.tupk {d l : Addr} {H H' : Hp} (D : DealA H d l) (k : Keep d l H H') : TupK H H' := fun p xs e => k p _ e (by
  intro z
  obtain ⟨cs, b, h1, h2, _⟩ := D.ex
  rw [z, h1] at e
  cases e) (by
  intro z
  obtain ⟨cs, b, h1, h2, _⟩ := D.ex
  rw [z, h2] at e
  cases e)
def symT : List Str := txts ["0", "1", "~", "&", "|", "^"]
def spTree (n : Nat) : Sp := fun vs H Q _ => ∃ (d l nm : Addr) (zs : List Str) (m : Nat), vs = [.ref d, .ref nm, .int (m : Nat), .int (n : Nat)] ∧ DealA H d l ∧ H nm = some (.lst (zs.map V.str)) ∧ nm ≠ d ∧ nm ≠ l ∧ zs ≠ [] ∧ zs.length ≤ 100 ∧ (∀ z ∈ zs, PyData.strOk z = true) ∧ 1 ≤ m ∧ m ≤ 100 ∧
  ∀ v t H', TrAt H' v t → t.deep ≤ n → t.toks.length ≤ m → (∀ x ∈ t.toks, x ∈ zs ∨ x ∈ symT) → DealA H' d l → Keep d l H H' → Q v H'
def spToks (n : Nat) : Sp := fun vs H Q _ => ∃ (v : V) (t : Tr), vs = [v] ∧ TrAt H v t ∧ t.deep ≤ n ∧ t.toks.length ≤ 400 ∧ ∀ (p : Addr) H', H p = none → H' p = some (.lst (t.toks.map V.str)) → Same H H' → Q (.ref p) H'
theorem no_fn {P : Program} {w : World} {K : PySem.W.Frag} {mg : Str → Option Value} {base : Heap} {CX : CXT} {k : Nat} {f : Addr} {fd : FuncData} {ps : List Str} : FnOk P w K mg base CX k f fd ps (fun _ _ _ _ => False) :=
  ⟨fun _ _ _ _ h => h.elim, fun _ _ _ _ _ _ _ _ _ _ _ _ _ h => h.elim⟩
structure Lt where
  pick : Addr
  tree : Addr
  toks : Addr
structure TxtTr (K : PySem.W.Frag) (mg : Str → Option Value) (ls : Ls) (lt : Lt) : Prop extends TxtSh K mg ls where
  g__law_pick : mg "_law_pick" = some (.ref lt.pick)
  k__law_pick : PySem.W.keepIn K (.ref lt.pick) = true
  g__law_tree : mg "_law_tree" = some (.ref lt.tree)
  k__law_tree : PySem.W.keepIn K (.ref lt.tree) = true
  g__law_tokens : mg "_law_tokens" = some (.ref lt.toks)
  k__law_tokens : PySem.W.keepIn K (.ref lt.toks) = true
  b_str : mg "str" = none
  b_int : mg "int" = none
section
variable {P : Program} {w : World} {K : PySem.W.Frag} {mg : Str → Option Value} {base : Heap} {ls : Ls} {lt : Lt} {f : Addr} {fd : FuncData}
theorem ok_toks {f1 : FuncData} {j n : Nat} {spS : Sp} (F : Fun K "_law_tokens" "_law_tokens" s_law_tokens f fd) (T : TxtTr K mg ls lt)
    (hS : n = 0 ∨ spS = spToks (n - 1)) (G__law_tokens : FnOk P w K mg base CX0 j lt.toks f1 ["_law_tree_here"] spS) (b__law_tokens : Binds K f1 ["_law_tree_here"] []) :
    FnOk P w K mg base CX0 (j + 1) f fd ["_law_tree_here"] (spToks n) := by
  refine F.ok sc_law_tokens (fun vs H Q E h => ?_) (fun cdv A outer s H vs Q E hr h => ?_)
  · obtain ⟨_, _, rfl, _⟩ := h
    rfl
  · obtain ⟨v, t, rfl, hv, hd, hl, k⟩ := h
    have loop : ∃ b, PSs (cxOf CX0 P w K mg base N_law_tokens "_law_tokens" (defScope s_law_tokens) f cdv A outer s H E).nox ((defBody s_law_tokens).drop 2) b ∧
        ∀ (p0 : Addr) (o : Str) (ps : List (V × Tr)), v = .ref p0 → H p0 = some (.tup (.str o :: ps.map (·.1))) → (∀ q ∈ ps, TrAt H q.1 q.2 ∧ q.2.deep + 1 ≤ n ∧ q.2.toks.length ≤ 400) →
          o :: ps.flatMap (fun q => q.2.toks) = t.toks → ps.length ≤ 2 → b { nx := fun _ H' => Q .non H', rt := Q } [some v, none, none] H := by
      refine ⟨_, (pss_cons (ps_set (i := 1) sc_law_tokens.nd rfl (Or.inl rfl) (pe_lst (pa_cons (pe_ix ix_tup (pv 0) pe_int (fun _ _ => rfl)) pa_nil)))
    (pss_cons (ps_for PassesOwn.never rfl (pi_tup (pe_slice sl_tup (pv 0) (po_some pe_int) po_none)) (pg_name (i := 2) sc_law_tokens.nd rfl (Or.inl rfl))
      (pss_one (ps_expr (pe_bm PySem.F.plainAttrs_list PySem.F.slot_list_extend PySem.F.type_list_extend mt_extend (pv 1) (pa_cons (pe_call G__law_tokens (hr.mono (by omega)) rfl T.g__law_tokens T.k__law_tokens b__law_tokens .nil pass0 (pa_cons (pv 2) pa_nil)) pa_nil)))))
    (pss_one (ps_ret (pv 1))))), ?_⟩
      rintro p0 o ps rfl hp hq hg hpl
      refine ⟨_, rfl, p0, _, _, _, rfl, rfl, .inl (.inl hp), atI_nat (j := 0) rfl, (by show 1 ≤ sizeLine; decide), fun fo hfo => ?_⟩
      have s0 : Same H (upd H fo (.lst [.str o])) := Same.upd_new hfo
      have hf1 : (upd H fo (.lst [.str o])) fo = some (.lst ([o].map V.str)) := upd_same
      have hp1 := s0 _ _ hp
      have fo0 := hfo
      generalize upd H fo (.lst [.str o]) = H1 at s0 hf1 hp1
      refine ⟨_, rfl, 1, rfl, p0, _, rfl, .inl (.inl hp1), ?_, fun tp ht => ?_⟩
      · rw [List.length_cons]
        exact not_all1 _
      rw [cut_one]
      have s2 : Same H1 (upd H1 tp (.tup (ps.map (·.1)))) := Same.upd_new ht
      refine ⟨tp, rfl, ⟨_, .inl (.inl upd_same)⟩, ?_⟩
      refine for_tup (K := K) (a := tp) (xs := ps.map (·.1)) (fun i σ H' => ∃ v2 : Option V, σ = [some (.ref p0), some (.ref fo), v2] ∧ (∀ b o, H b = some o → H' b = some o) ∧ H' tp = some (.tup (ps.map (·.1))) ∧
        H' fo = some (.lst ((o :: (ps.take i).flatMap fun q => q.2.toks).map V.str)))
        ⟨none, rfl, fun b o e => s2 _ _ (s0 _ _ e), upd_same, s2 _ _ hf1⟩ (fun i σ H' _ ⟨_, _, _, h, _⟩ => .inl (.inl h)) ?_ ?_
      · rintro i x σ H2 hx ⟨v2, rfl, k2, t2, f2⟩
        obtain ⟨⟨u, g1⟩, hqi, rfl⟩ : ∃ q, ps[i]? = some q ∧ x = q.1 := by
          rw [List.getElem?_map] at hx
          cases e : ps[i]? with
          | none => rw [e] at hx; cases hx
          | some q => rw [e] at hx; exact ⟨q, rfl, (Option.some.inj hx).symm⟩
        have hi : i < ps.length := (List.getElem?_eq_some_iff.mp hqi).1
        obtain ⟨q1, q2, q3⟩ := hq _ (List.mem_of_getElem? hqi)
        dsimp only at q1 q2 q3
        rcases hS with rfl | rfl
        · exact absurd q2 (by omega)
        refine ⟨_, rfl, .inl ⟨rfl, _, .inl (.inl f2)⟩, ?_⟩
        refine ⟨_, rfl, x, g1, rfl, TrAt.stay (fun b xs e => k2 b _ e) g1 x q1, by omega, q3, fun p H3 hp3 hpn s3 => ?_⟩
        have f3 := s3 _ _ f2
        have pne : fo ≠ p := ne_of_none f2 hp3
        have tn : o :: (ps.take (i + 1)).flatMap (fun q => q.2.toks) = (o :: (ps.take i).flatMap fun q => q.2.toks) ++ g1.toks := by
          rw [List.take_add_one, hqi]
          simp
        have pl : ((ps.take i).flatMap fun q => q.2.toks).length ≤ 400 * i := by
          have q4 : ∀ l : List (V × Tr), (∀ q ∈ l, q.2.toks.length ≤ 400) → (l.flatMap fun q => q.2.toks).length ≤ 400 * l.length := by
            intro l
            induction l with
            | nil => intro _; simp
            | cons a l ih =>
              intro h
              have := ih fun q hq => h q (List.mem_cons_of_mem _ hq)
              have := h a (List.mem_cons_self ..)
              rw [List.flatMap_cons, List.length_append, List.length_cons]
              omega
          have := q4 (ps.take i) fun q hq' => (hq q (List.mem_of_mem_take hq')).2.2
          rw [List.length_take] at this
          omega
        refine ⟨fo, p, _, _, rfl, rfl, f3, hpn, ?_, ?_⟩
        · rw [List.length_map, List.length_map, List.length_cons]
          have : sizeLine = 16777216 := sizeLine_eq
          omega
        refine ⟨_, rfl, fun b o e => ?_, ?_, ?_⟩
        · rw [upd_ne (ne_of_none e fo0)]
          exact s3 _ _ (k2 b o e)
        · rw [upd_ne (ne_of t2 f2 (by intro z; cases z))]
          exact s3 _ _ t2
        · rw [tn, upd_same, List.map_append]
      · rintro σ H2 ⟨v2, rfl, k2, t2, f2⟩
        rw [List.length_map, List.take_length, hg] at f2
        exact ⟨_, rfl, k fo H2 fo0 f2 k2⟩
    obtain ⟨b, hb, kb⟩ := loop
    refine ⟨_, pss_cons (ps_if (pt_cmpR op_eq (pe_ix ix_tup (pv 0) pe_int (fun _ _ => rfl)) pe_str (nomark _)) (pss_one (ps_ret (pe_lst (pa_cons (pe_ix ix_tup (pv 0) pe_int (fun _ _ => rfl)) pa_nil)))) pss_nil) (pss_cons (ps_if (pt_cmpR op_eq (pe_ix ix_tup (pv 0) pe_int (fun _ _ => rfl)) pe_str (nomark _)) (pss_one (ps_ret (pe_lst (pa_cons (pe_callTy call_str_int (by rfl) T.b_str (by decide +kernel) (pa_cons (pe_callTy call_int1 (by rfl) T.b_int (by decide +kernel) (pa_cons (pe_ix ix_tup (pv 0) pe_int (fun _ _ => rfl)) pa_nil)) pa_nil)) pa_nil)))) pss_nil) hb), ?_⟩
    cases t with
    | name z =>
      obtain ⟨p, rfl, hp⟩ := hv
      have hpT : SqT K H p _ := .inl (.inl hp)
      refine ⟨_, rfl, p, _, _, _, rfl, rfl, hpT, atI_nat (j := 0) rfl, rfl, _, rfl, iteTh (by decide +kernel) ?_⟩
      refine ⟨_, rfl, p, _, _, _, rfl, rfl, hpT, atI_nat (j := 1) rfl, (by show 1 ≤ sizeLine; decide), fun q hq => ?_⟩
      exact k q _ hq upd_same (Same.upd_new hq)
    | val bb =>
      obtain ⟨p, rfl, hp⟩ := hv
      have hpT : SqT K H p _ := .inl (.inl hp)
      refine ⟨_, rfl, p, _, _, _, rfl, rfl, hpT, atI_nat (j := 0) rfl, rfl, _, rfl, iteFh (by decide +kernel) ?_⟩
      refine ⟨_, rfl, p, _, _, _, rfl, rfl, hpT, atI_nat (j := 0) rfl, rfl, _, rfl, iteTh (by decide +kernel) ?_⟩
      refine ⟨_, rfl, p, _, _, _, rfl, rfl, hpT, atI_nat (j := 1) rfl, .inr ⟨bb, rfl, ?_⟩⟩
      refine ⟨_, rfl, ?_, (by show 1 ≤ sizeLine; decide), fun q hq => ?_⟩
      · cases bb <;> decide +kernel
      refine k q _ hq ?_ (Same.upd_new hq)
      rw [upd_same]
      cases bb
      · exact congrArg (fun z => some (HO.lst [V.str z])) (by decide +kernel)
      · exact congrArg (fun z => some (HO.lst [V.str z])) (by decide +kernel)
    | neg t =>
      obtain ⟨p, u, rfl, hp, hu⟩ := hv
      have hpT : SqT K H p _ := .inl (.inl hp)
      refine ⟨_, rfl, p, _, _, _, rfl, rfl, hpT, atI_nat (j := 0) rfl, rfl, _, rfl, iteFh (by decide +kernel) ?_⟩
      refine ⟨_, rfl, p, _, _, _, rfl, rfl, hpT, atI_nat (j := 0) rfl, rfl, _, rfl, iteFh (by decide +kernel) ?_⟩
      have hl' : (Str.ofString "~" :: t.toks).length ≤ 400 := hl
      rw [List.length_cons] at hl'
      refine kb p (Str.ofString "~") [(u, t)] rfl hp (fun q hq => ?_) ?_ (by simp)
      · rw [List.mem_singleton.mp hq]
        exact ⟨hu, hd, by show t.toks.length ≤ 400; omega⟩
      · simp [Tr.toks]
    | two o t u =>
      obtain ⟨p, x, y, rfl, hp, ho, hx, hy⟩ := hv
      have hpT : SqT K H p _ := .inl (.inl hp)
      have on : ∀ o ∈ sgnT, decide (V.str o = V.str (Str.ofString "name")) = false ∧ decide (V.str o = V.str (Str.ofString "value")) = false := by decide +kernel
      refine ⟨_, rfl, p, _, _, _, rfl, rfl, hpT, atI_nat (j := 0) rfl, rfl, _, rfl, iteFh (on o ho).1 ?_⟩
      refine ⟨_, rfl, p, _, _, _, rfl, rfl, hpT, atI_nat (j := 0) rfl, rfl, _, rfl, iteFh (on o ho).2 ?_⟩
      have hl' : (o :: (t.toks ++ u.toks)).length ≤ 400 := hl
      have hd' : max t.deep u.deep + 1 ≤ n := hd
      rw [List.length_cons, List.length_append] at hl'
      refine kb p o [(x, t), (y, u)] rfl hp (fun q hq => ?_) ?_ (by simp)
      · rcases List.mem_cons.mp hq with rfl | hq
        · exact ⟨hx, by show t.deep + 1 ≤ n; omega, by show t.toks.length ≤ 400; omega⟩
        · rw [List.mem_singleton.mp hq]
          exact ⟨hy, by show u.deep + 1 ≤ n; omega, by show u.toks.length ≤ 400; omega⟩
      · simp [Tr.toks]
end
end L2.Wk
namespace L2.Wk
open PySem PySem.Spec PyProof.Rows
theorem ite_b {b : Bool} {A B : Prop} (ha : b = true → A) (hb : b = false → B) : if b = true then A else B := by
  cases b
  · exact iteF (hb rfl)
  · exact iteT (ha rfl)
section
variable {P : Program} {w : World} {K : PySem.W.Frag} {mg : Str → Option Value} {base : Heap} {ls : Ls} {lt : Lt} {f : Addr} {fd : FuncData}
theorem ok_tree {f1 f2 f3 : FuncData} {j n : Nat} {spS : Sp} (F : Fun K "_law_tree" "_law_tree" s_law_tree f fd) (T : TxtTr K mg ls lt) (hj : 2 ≤ j)
    (G__law_draw : FnOk P w K mg base CX0 1 ls.draw f1 ["_law_deal", "_law_wide"] spDrawA) (b__law_draw : Binds K f1 ["_law_deal", "_law_wide"] [])
    (G__law_pick : FnOk P w K mg base CX0 2 lt.pick f2 ["_law_deal", "_law_some"] (spPickA K)) (b__law_pick : Binds K f2 ["_law_deal", "_law_some"] [])
    (hS : n = 0 ∨ spS = spTree (n - 1)) (G__law_tree : FnOk P w K mg base CX0 j lt.tree f3 ["_law_deal", "_law_names", "_law_many", "_law_deep"] spS) (b__law_tree : Binds K f3 ["_law_deal", "_law_names", "_law_many", "_law_deep"] []) :
    FnOk P w K mg base CX0 (j + 1) f fd ["_law_deal", "_law_names", "_law_many", "_law_deep"] (spTree n) := by
  refine F.ok sc_law_tree (fun vs H Q E h => ?_) (fun cdv A outer s H vs Q E hr h => ?_)
  · obtain ⟨_, _, _, _, _, rfl, _⟩ := h
    rfl
  · obtain ⟨d, l, nm, zs, m, rfl, D, hnm, e1, e2, hne, hlen, hok, hm1, hm2, k⟩ := h
    refine ⟨_, (pss_cons (ps_set (i := 4) sc_law_tree.nd rfl (Or.inl rfl) (pe_call G__law_draw (hr.mono (by omega)) rfl T.g__law_draw T.k__law_draw b__law_draw .nil pass0 (pa_cons (pv 0) (pa_cons pe_int pa_nil))))
    (pss_cons (ps_if (PW.pt (pw_or (pt_cmpR op_lt (pv 2) pe_int (nomark _)) (pw_or (pt_cmpR op_lt (pv 3) pe_int (nomark _)) (pw_or1 (pt_cmpR op_eq (pv 4) pe_int (nomark _)))))) (pss_cons (ps_if (PW.pt (pw_or (pt_cmpR (op_eqD hr.units) (pv 1) (pe_lst pa_nil) (nomark _)) (pw_or1 (pt_cmpR op_eq (pe_call G__law_draw (hr.mono (by omega)) rfl T.g__law_draw T.k__law_draw b__law_draw .nil pass0 (pa_cons (pv 0) (pa_cons pe_int pa_nil))) pe_int (nomark _))))) (pss_one (ps_ret (pe_tup (pa_cons pe_str (pa_cons (pe_cmpR op_eq (pe_call G__law_draw (hr.mono (by omega)) rfl T.g__law_draw T.k__law_draw b__law_draw .nil pass0 (pa_cons (pv 0) (pa_cons pe_int pa_nil))) pe_int (nomark _)) pa_nil))))) pss_nil)
    (pss_one (ps_ret (pe_tup (pa_cons pe_str (pa_cons (pe_call G__law_pick (hr.mono (by omega)) rfl T.g__law_pick T.k__law_pick b__law_pick .nil pass0 (pa_cons (pv 0) (pa_cons (pv 1) pa_nil))) pa_nil)))))) pss_nil)
    (pss_cons (ps_if (PW.pt (pw_or (pt_cmpR op_lt (pv 2) pe_int (nomark _)) (pw_or1 (pt_cmpR op_eq (pv 4) pe_int (nomark _))))) (pss_one (ps_ret (pe_tup (pa_cons pe_str (pa_cons (pe_call G__law_tree (hr.mono (by omega)) rfl T.g__law_tree T.k__law_tree b__law_tree .nil pass0 (pa_cons (pv 0) (pa_cons (pv 1) (pa_cons (pe_op op_sub (pv 2) pe_int) (pa_cons (pe_op op_sub (pv 3) pe_int) pa_nil))))) pa_nil))))) pss_nil)
    (pss_cons (ps_set (i := 5) sc_law_tree.nd rfl (Or.inl rfl) (pe_op op_add pe_int (pe_call G__law_draw (hr.mono (by omega)) rfl T.g__law_draw T.k__law_draw b__law_draw .nil pass0 (pa_cons (pv 0) (pa_cons (pe_op op_sub (pv 2) pe_int) pa_nil)))))
    (pss_cons (ps_set (i := 6) sc_law_tree.nd rfl (Or.inl rfl) (pe_call G__law_tree (hr.mono (by omega)) rfl T.g__law_tree T.k__law_tree b__law_tree .nil pass0 (pa_cons (pv 0) (pa_cons (pv 1) (pa_cons (pv 5) (pa_cons (pe_op op_sub (pv 3) pe_int) pa_nil))))))
    (pss_one (ps_ret (pe_tup (pa_cons (pe_call G__law_pick (hr.mono (by omega)) rfl T.g__law_pick T.k__law_pick b__law_pick .nil pass0 (pa_cons (pv 0) (pa_cons (pe_lst (pa_cons pe_str (pa_cons pe_str (pa_cons pe_str pa_nil)))) pa_nil))) (pa_cons (pv 6) (pa_cons (pe_call G__law_tree (hr.mono (by omega)) rfl T.g__law_tree T.k__law_tree b__law_tree .nil pass0 (pa_cons (pv 0) (pa_cons (pv 1) (pa_cons (pe_op op_sub (pe_op op_sub (pv 2) pe_int) (pv 5)) (pa_cons (pe_op op_sub (pv 3) pe_int) pa_nil))))) pa_nil))))))))))), ?_⟩
    have mp : zs.map V.str ≠ [] := fun e => hne (List.map_eq_nil_iff.mp e)
    refine ⟨_, rfl, d, l, 9, rfl, D, by decide, by decide, fun r1 H1 r10 r11 D1 kp1 => ?_⟩
    have hnm1 := kp1 _ _ hnm e1 e2
    refine ⟨_, rfl, _, _, rfl, rfl, _, rfl, ?_⟩
    by_cases c1 : m < 2
    · refine iteTh (decide_eq_true (by omega)) (iteT ?_)
      have eqv : PyData.eqv (.list (zs.map PyData.str)) (.list []) = false := by
        cases zs with
        | nil => exact absurd rfl hne
        | cons a t => rfl
      refine ⟨_, rfl, (by show 0 ≤ sizeLine; decide), fun q hq => ?_⟩
      have sq := Same.upd_new (o := .lst []) hq
      refine ⟨_, _, .lst (.inl (.inl (sq _ _ hnm1))) (dp_strs zs), .lst (.inl (.inl upd_same)) .nil, shaped_strs hok, (by decide), _, rfl, ?_⟩
      rw [eqv]
      refine iteFh rfl ?_
      have D2 := D1.same sq
      have kq := kp1.trans (Keep.same sq)
      have hnm2 := sq _ _ hnm1
      refine ⟨_, rfl, d, l, 10, rfl, D2, by decide, by decide, fun r2 H2 r20 r21 D3 kp3 => ?_⟩
      refine ⟨rfl, _, rfl, ?_⟩
      refine ite_b (fun _ => ?_) (fun _ => ?_)
      · refine ⟨_, rfl, d, l, 2, rfl, D3, by decide, by decide, fun r3 H3 _ _ D4 kp4 => ?_⟩
        refine ⟨rfl, (by show 2 ≤ sizeLine; decide), fun p hp => ?_⟩
        refine k _ (.val (decide (V.int r3 = V.int 1))) _ ⟨p, rfl, upd_same⟩ (Nat.zero_le _) hm1 (fun x hx => ?_) (D4.same (Same.upd_new hp)) (((kq.trans kp3).trans kp4).trans (Keep.same (Same.upd_new hp)))
        right
        rw [List.mem_singleton.mp hx]
        split <;> decide +kernel
      · refine ⟨_, rfl, _, rfl, d, l, nm, _, rfl, D3, kp3 _ _ hnm2 e1 e2, e1, e2, mp, by rw [List.length_map]; omega, fun v H4 hv D4 kp4 => ⟨by show 2 ≤ sizeLine; decide, fun p hp => ?_⟩⟩
        obtain ⟨z, hz, rfl⟩ := List.mem_map.mp hv
        exact k _ (.name z) _ ⟨p, rfl, upd_same⟩ (Nat.zero_le _) hm1 (fun x hx => .inl (by rw [List.mem_singleton.mp hx]; exact hz)) (D4.same (Same.upd_new hp)) (((kq.trans kp3).trans kp4).trans (Keep.same (Same.upd_new hp)))
    refine iteFh (decide_eq_false (by omega)) ?_
    refine ⟨_, rfl, _, _, rfl, rfl, _, rfl, ?_⟩
    by_cases c2 : n < 1
    · refine iteTh (decide_eq_true (by omega)) (iteT ?_)
      have eqv : PyData.eqv (.list (zs.map PyData.str)) (.list []) = false := by
        cases zs with
        | nil => exact absurd rfl hne
        | cons a t => rfl
      refine ⟨_, rfl, (by show 0 ≤ sizeLine; decide), fun q hq => ?_⟩
      have sq := Same.upd_new (o := .lst []) hq
      refine ⟨_, _, .lst (.inl (.inl (sq _ _ hnm1))) (dp_strs zs), .lst (.inl (.inl upd_same)) .nil, shaped_strs hok, (by decide), _, rfl, ?_⟩
      rw [eqv]
      refine iteFh rfl ?_
      have D2 := D1.same sq
      have kq := kp1.trans (Keep.same sq)
      have hnm2 := sq _ _ hnm1
      refine ⟨_, rfl, d, l, 10, rfl, D2, by decide, by decide, fun r2 H2 r20 r21 D3 kp3 => ?_⟩
      refine ⟨rfl, _, rfl, ?_⟩
      refine ite_b (fun _ => ?_) (fun _ => ?_)
      · refine ⟨_, rfl, d, l, 2, rfl, D3, by decide, by decide, fun r3 H3 _ _ D4 kp4 => ?_⟩
        refine ⟨rfl, (by show 2 ≤ sizeLine; decide), fun p hp => ?_⟩
        refine k _ (.val (decide (V.int r3 = V.int 1))) _ ⟨p, rfl, upd_same⟩ (Nat.zero_le _) hm1 (fun x hx => ?_) (D4.same (Same.upd_new hp)) (((kq.trans kp3).trans kp4).trans (Keep.same (Same.upd_new hp)))
        right
        rw [List.mem_singleton.mp hx]
        split <;> decide +kernel
      · refine ⟨_, rfl, _, rfl, d, l, nm, _, rfl, D3, kp3 _ _ hnm2 e1 e2, e1, e2, mp, by rw [List.length_map]; omega, fun v H4 hv D4 kp4 => ⟨by show 2 ≤ sizeLine; decide, fun p hp => ?_⟩⟩
        obtain ⟨z, hz, rfl⟩ := List.mem_map.mp hv
        exact k _ (.name z) _ ⟨p, rfl, upd_same⟩ (Nat.zero_le _) hm1 (fun x hx => .inl (by rw [List.mem_singleton.mp hx]; exact hz)) (D4.same (Same.upd_new hp)) (((kq.trans kp3).trans kp4).trans (Keep.same (Same.upd_new hp)))
    refine iteFh (decide_eq_false (by omega)) ?_
    refine ⟨_, rfl, rfl, _, rfl, ?_⟩
    refine ite_b (fun _ => ?_) (fun _ => ?_)
    · have eqv : PyData.eqv (.list (zs.map PyData.str)) (.list []) = false := by
        cases zs with
        | nil => exact absurd rfl hne
        | cons a t => rfl
      refine ⟨_, rfl, (by show 0 ≤ sizeLine; decide), fun q hq => ?_⟩
      have sq := Same.upd_new (o := .lst []) hq
      refine ⟨_, _, .lst (.inl (.inl (sq _ _ hnm1))) (dp_strs zs), .lst (.inl (.inl upd_same)) .nil, shaped_strs hok, (by decide), _, rfl, ?_⟩
      rw [eqv]
      refine iteFh rfl ?_
      have D2 := D1.same sq
      have kq := kp1.trans (Keep.same sq)
      have hnm2 := sq _ _ hnm1
      refine ⟨_, rfl, d, l, 10, rfl, D2, by decide, by decide, fun r2 H2 r20 r21 D3 kp3 => ?_⟩
      refine ⟨rfl, _, rfl, ?_⟩
      refine ite_b (fun _ => ?_) (fun _ => ?_)
      · refine ⟨_, rfl, d, l, 2, rfl, D3, by decide, by decide, fun r3 H3 _ _ D4 kp4 => ?_⟩
        refine ⟨rfl, (by show 2 ≤ sizeLine; decide), fun p hp => ?_⟩
        refine k _ (.val (decide (V.int r3 = V.int 1))) _ ⟨p, rfl, upd_same⟩ (Nat.zero_le _) hm1 (fun x hx => ?_) (D4.same (Same.upd_new hp)) (((kq.trans kp3).trans kp4).trans (Keep.same (Same.upd_new hp)))
        right
        rw [List.mem_singleton.mp hx]
        split <;> decide +kernel
      · refine ⟨_, rfl, _, rfl, d, l, nm, _, rfl, D3, kp3 _ _ hnm2 e1 e2, e1, e2, mp, by rw [List.length_map]; omega, fun v H4 hv D4 kp4 => ⟨by show 2 ≤ sizeLine; decide, fun p hp => ?_⟩⟩
        obtain ⟨z, hz, rfl⟩ := List.mem_map.mp hv
        exact k _ (.name z) _ ⟨p, rfl, upd_same⟩ (Nat.zero_le _) hm1 (fun x hx => .inl (by rw [List.mem_singleton.mp hx]; exact hz)) (D4.same (Same.upd_new hp)) (((kq.trans kp3).trans kp4).trans (Keep.same (Same.upd_new hp)))
    rcases hS with e | rfl
    · omega
    refine ⟨_, rfl, _, _, rfl, rfl, _, rfl, ?_⟩
    by_cases c3 : m < 3
    · refine iteTh (decide_eq_true (by omega)) (iteT ?_)
      refine ⟨_, rfl, _, rfl, _, rfl, _, _, rfl, rfl, _, rfl, _, _, rfl, rfl, d, l, nm, zs, m - 1, ?_, D1, hnm1, e1, e2, hne, hlen, hok, by omega, by omega, fun v t H2 hv hd ht hx D2 kp2 => ?_⟩
      · show [V.ref d, V.ref nm, V.int ((m : Int) - 1), V.int ((n : Int) - 1)] = [V.ref d, V.ref nm, V.int ((m - 1 : Nat) : Int), V.int ((n - 1 : Nat) : Int)]
        rw [show (m : Int) - 1 = ((m - 1 : Nat) : Int) by omega, show (n : Int) - 1 = ((n - 1 : Nat) : Int) by omega]
      refine ⟨by show 2 ≤ sizeLine; decide, fun p hp => ?_⟩
      have s3 := Same.upd_new (o := .tup [.str "~", v]) hp
      refine k _ (.neg t) _ ⟨p, v, rfl, upd_same, TrAt.stay (TupK.same s3) t v hv⟩ (by show t.deep + 1 ≤ n; omega) (by show (Str.ofString "~" :: t.toks).length ≤ m; rw [List.length_cons]; omega) (fun x hx' => ?_) (D2.same s3) ((kp1.trans kp2).trans (Keep.same s3))
      rcases List.mem_cons.mp hx' with rfl | hx'
      · exact .inr (by decide +kernel)
      · exact hx x hx'
    refine iteFh (decide_eq_false (by omega)) ?_
    refine ⟨_, rfl, rfl, _, rfl, ?_⟩
    refine ite_b (fun _ => ?_) (fun _ => ?_)
    · refine ⟨_, rfl, _, rfl, _, rfl, _, _, rfl, rfl, _, rfl, _, _, rfl, rfl, d, l, nm, zs, m - 1, ?_, D1, hnm1, e1, e2, hne, hlen, hok, by omega, by omega, fun v t H2 hv hd ht hx D2 kp2 => ?_⟩
      · show [V.ref d, V.ref nm, V.int ((m : Int) - 1), V.int ((n : Int) - 1)] = [V.ref d, V.ref nm, V.int ((m - 1 : Nat) : Int), V.int ((n - 1 : Nat) : Int)]
        rw [show (m : Int) - 1 = ((m - 1 : Nat) : Int) by omega, show (n : Int) - 1 = ((n - 1 : Nat) : Int) by omega]
      refine ⟨by show 2 ≤ sizeLine; decide, fun p hp => ?_⟩
      have s3 := Same.upd_new (o := .tup [.str "~", v]) hp
      refine k _ (.neg t) _ ⟨p, v, rfl, upd_same, TrAt.stay (TupK.same s3) t v hv⟩ (by show t.deep + 1 ≤ n; omega) (by show (Str.ofString "~" :: t.toks).length ≤ m; rw [List.length_cons]; omega) (fun x hx' => ?_) (D2.same s3) ((kp1.trans kp2).trans (Keep.same s3))
      rcases List.mem_cons.mp hx' with rfl | hx'
      · exact .inr (by decide +kernel)
      · exact hx x hx'
    refine ⟨_, rfl, _, rfl, _, _, rfl, rfl, d, l, ((m : Int) - 2), rfl, D1, by omega, by omega, fun rl H2 rl0 rl1 D2 kp2 => ?_⟩
    obtain ⟨c, rfl⟩ := Int.eq_ofNat_of_zero_le rl0
    have hnm2 := kp2 _ _ hnm1 e1 e2
    refine ⟨_, _, rfl, rfl, ?_⟩
    refine ⟨_, rfl, _, rfl, _, rfl, _, rfl, _, _, rfl, rfl, d, l, nm, zs, 1 + c, ?_, D2, hnm2, e1, e2, hne, hlen, hok, by omega, by omega, fun v1 t1 H3 hv1 hd1 ht1 hx1 D3 kp3 => ?_⟩
    · show [V.ref d, V.ref nm, V.int (1 + (c : Int)), V.int ((n : Int) - 1)] = [V.ref d, V.ref nm, V.int ((1 + c : Nat) : Int), V.int ((n - 1 : Nat) : Int)]
      rw [show 1 + (c : Int) = ((1 + c : Nat) : Int) by omega, show (n : Int) - 1 = ((n - 1 : Nat) : Int) by omega]
    have hnm3 := kp3 _ _ hnm2 e1 e2
    refine ⟨_, rfl, (by show 3 ≤ sizeLine; decide), fun q hq => ?_⟩
    have sq := Same.upd_new (o := .lst [V.str "&", V.str "|", V.str "^"]) hq
    have kq := ((kp1.trans kp2).trans kp3).trans (Keep.same sq)
    have D4 := D3.same sq
    refine ⟨d, l, q, [V.str "&", V.str "|", V.str "^"], rfl, D4, upd_same, D3.nd hq, D3.nl hq, (by simp), (by decide), fun ov H5 hov D5 kp5 => ?_⟩
    obtain ⟨o, ho, rfl⟩ : ∃ o, o ∈ sgnT ∧ ov = V.str o := by
      simp only [List.mem_cons, List.not_mem_nil, or_false] at hov
      rcases hov with rfl | rfl | rfl
      · exact ⟨_, by unfold sgnT txts; simp, rfl⟩
      · exact ⟨_, by unfold sgnT txts; simp, rfl⟩
      · exact ⟨_, by unfold sgnT txts; simp, rfl⟩
    have k5 := kq.trans kp5
    have hnm5 := kp5 _ _ (sq _ _ hnm3) e1 e2
    have hv5 := TrAt.stay (D4.tupk kp5) t1 v1 (TrAt.stay (TupK.same sq) t1 v1 hv1)
    refine ⟨_, rfl, _, rfl, _, rfl, _, rfl, _, _, rfl, rfl, _, rfl, _, _, rfl, rfl, _, rfl, _, _, rfl, rfl, d, l, nm, zs, m - 1 - (1 + c), ?_, D5, hnm5, e1, e2, hne, hlen, hok, by omega, by omega, fun v2 t2 H6 hv2 hd2 ht2 hx2 D6 kp6 => ?_⟩
    · show [V.ref d, V.ref nm, V.int ((m : Int) - 1 - (1 + (c : Int))), V.int ((n : Int) - 1)] = [V.ref d, V.ref nm, V.int ((m - 1 - (1 + c) : Nat) : Int), V.int ((n - 1 : Nat) : Int)]
      rw [show (m : Int) - 1 - (1 + (c : Int)) = ((m - 1 - (1 + c) : Nat) : Int) by omega, show (n : Int) - 1 = ((n - 1 : Nat) : Int) by omega]
    refine ⟨by show 3 ≤ sizeLine; decide, fun p hp => ?_⟩
    have s7 := Same.upd_new (o := .tup [.str o, v1, v2]) hp
    refine k _ (.two o t1 t2) _ ⟨p, v1, v2, rfl, upd_same, ho, TrAt.stay (TupK.same s7) t1 v1 (TrAt.stay (D5.tupk kp6) t1 v1 hv5), TrAt.stay (TupK.same s7) t2 v2 hv2⟩ (by show max t1.deep t2.deep + 1 ≤ n; omega) ?_ (fun x hx => ?_) (D6.same s7) ((k5.trans kp6).trans (Keep.same s7))
    · show (o :: (t1.toks ++ t2.toks)).length ≤ m
      rw [List.length_cons, List.length_append]
      omega
    · rcases List.mem_cons.mp (show x ∈ o :: (t1.toks ++ t2.toks) from hx) with rfl | hx
      · have q : ∀ o ∈ sgnT, o ∈ symT := by decide +kernel
        exact .inr (q _ ho)
      · rcases List.mem_append.mp hx with hx | hx
        · exact hx1 x hx
        · exact hx2 x hx
end
end L2.Wk
namespace L2.Wk
open PySem PySem.Spec PyProof.Rows
abbrev s_law_due : Stmt := top 39
abbrev N_law_due : List Str := ["_law_words_here", "_law_left", "_law_at", "_law_word", "_law_odd", "_law_barred", "_law_sign"]
theorem sc_law_due : FnScope N_law_due ["_law_words_here"] (defScope s_law_due) := ⟨rfl, rfl, rfl, by decide +kernel, rfl, by decide +kernel, by decide +kernel⟩
abbrev s_law_heard : Stmt := top 40
abbrev N_law_heard : List Str := ["_law_line", "_law_found", "e"]
theorem sc_law_heard : FnScope N_law_heard ["_law_line"] (defScope s_law_heard) := ⟨rfl, rfl, rfl, by decide +kernel, rfl, by decide +kernel, by decide +kernel⟩
abbrev s_law : Stmt := top 41
abbrev N_law : List Str := ["_law_script", "_law_deal", "_law_odd", "_law_turn", "_law_words_here", "_law_at", "_law_form", "_law_line", "_law_due_here"]
theorem sc_law : FnScope N_law ["_law_script"] (defScope s_law) := ⟨rfl, rfl, rfl, by decide +kernel, rfl, by decide +kernel, by decide +kernel⟩
def oddS (z : Str) (n : Nat) : List Str := ((z.cps.toList.take n).filter fun c => !decide (c ∈ lettersS.cps.toList)).map fun c => ⟨#[c]⟩
theorem odd_ok1 {z : Str} (h : PyData.strOk z = true) (n : Nat) : ∀ s ∈ oddS z n, PyData.strOk s = true := fun s hs => by
  obtain ⟨c, hc, rfl⟩ := List.mem_map.mp hs
  have hz : c ∈ z.cps.toList := List.mem_of_mem_take (List.mem_filter.mp hc).1
  unfold PyData.strOk at *
  have := Array.all_eq_true_iff_forall_mem.mp h c (by simpa using hz)
  simpa using this
theorem odd_nil (l : List Nat) (L : List Nat) : ((l.filter fun c => !decide (c ∈ L)).map fun c => (⟨#[c]⟩ : Str)).isEmpty = (l.map fun c => decide (c ∈ L)).all id := by
  induction l with
  | nil => rfl
  | cons c l ih =>
    by_cases h : c ∈ L
    · rw [List.filter_cons_of_neg (by simp [h]), List.map_cons, List.all_cons, ← ih]
      simp [h]
    · rw [List.filter_cons_of_pos (by simp [h]), List.map_cons, List.map_cons, List.all_cons]
      simp [h]
theorem odd_succ {z : Str} {i c : Nat} (h : z.cps[i]? = some c) : oddS z (i + 1) = if (!decide (c ∈ lettersS.cps.toList)) = true then oddS z i ++ [⟨#[c]⟩] else oddS z i := by
  unfold oddS
  rw [List.take_add_one, arr_list h, Option.toList_some, List.filter_append, List.map_append]
  cases hb : (!decide (c ∈ lettersS.cps.toList)) with
  | true =>
    rw [if_pos rfl, show List.filter (fun c => !decide (c ∈ lettersS.cps.toList)) [c] = [c] by rw [List.filter_cons, if_pos hb]; rfl]
    rfl
  | false =>
    rw [if_neg Bool.false_ne_true, show List.filter (fun c => !decide (c ∈ lettersS.cps.toList)) [c] = [] by rw [List.filter_cons, if_neg (by rw [hb]; exact Bool.false_ne_true)]; rfl, List.map_nil, List.append_nil]
theorem odd_len (z : Str) (i : Nat) : (oddS z i).length ≤ z.length := by
  unfold oddS
  rw [List.length_map]
  refine Nat.le_trans (List.length_filter_le _ _) ?_
  rw [List.length_take]
  exact Nat.le_trans (Nat.min_le_right _ _) (by show z.cps.toList.length ≤ z.cps.size; simp)

def dueV : Option Nat → V
  | none => .non
  | some n => .int (n : Nat)
structure Lu where
  due : Addr
  heard : Addr
structure TxtDu (K : PySem.W.Frag) (mg : Str → Option Value) (lu : Lu) : Prop where
  b_len : mg "len" = none
  b_enumerate : mg "enumerate" = none
  g__law_due : mg "_law_due" = some (.ref lu.due)
  k__law_due : PySem.W.keepIn K (.ref lu.due) = true
  g__law_heard : mg "_law_heard" = some (.ref lu.heard)
  k__law_heard : PySem.W.keepIn K (.ref lu.heard) = true
def spDue (K : PySem.W.Frag) : Sp := fun vs H Q _ => ∃ (l : Addr) (ws : List Str), vs = [.ref l] ∧ SqL K H l (ws.map V.str) ∧ ws.length ≤ 900 ∧ (∀ z ∈ ws, z.length ≤ 1000 ∧ PyData.strOk z = true) ∧ ∀ H', Same H H' → Q (dueV (dueW 0 1 ws)) H'
/-- the law's way to say that a word is none -/
theorem word_bad (z : Str) (h : z ∉ signsV) : okW z = !(!decide (z ∈ constV) && (!((z.cps.toList.filter fun c => !decide (c ∈ lettersS.cps.toList)).map fun c => (⟨#[c]⟩ : Str)).isEmpty || (!(decide ((0 : Int) < z.length) && decide ((z.length : Int) < 5)) || decide (z ∈ resV)))) := by
  unfold okW isName
  rw [decide_eq_false h, odd_nil, inV_sgn, show decide ((1 : Int) ≤ z.length) = decide ((0 : Int) < z.length) from decide_eq_decide.mpr (by omega), show decide ((z.length : Int) ≤ 4) = decide ((z.length : Int) < 5) from decide_eq_decide.mpr (by omega)]
  generalize decide (z ∈ constV) = a
  generalize decide (z ∈ resV) = b
  generalize decide ((0 : Int) < z.length) = c
  generalize decide ((z.length : Int) < 5) = d
  generalize (z.cps.toList.map fun c => decide (c ∈ lettersS.cps.toList)).all id = e
  cases a <;> cases b <;> cases c <;> cases d <;> cases e <;> rfl
theorem sgn_ok : ∀ z ∈ sgnT, okW z = true ∧ arityW z = 2 := by decide +kernel
section
variable {P : Program} {w : World} {K : PySem.W.Frag} {mg : Str → Option Value} {base : Heap} {lu : Lu} {f : Addr} {fd : FuncData}
theorem ok_due (F : Fun K "_law_due" "_law_due" s_law_due f fd) (T : TxtDu K mg lu) : FnOk P w K mg base CX0 1 f fd ["_law_words_here"] (spDue K) := by
  refine F.ok sc_law_due (fun vs H Q E h => ?_) (fun cdv A outer s H vs Q E hr h => ?_)
  · obtain ⟨_, _, rfl, _⟩ := h
    rfl
  · obtain ⟨l, ws, rfl, hl, hn, hz, k⟩ := h
    refine ⟨_, (pss_cons (ps_set (i := 1) sc_law_due.nd rfl (Or.inl rfl) pe_int)
    (pss_cons (ps_for PassesOwn.never rfl (pi_enum (by rfl) T.b_enumerate (pa_cons (pv 0) pa_nil)) (pg_tup rfl (pgs_cons (pg_name (i := 2) sc_law_due.nd rfl (Or.inl rfl)) (pgs_cons (pg_name (i := 3) sc_law_due.nd rfl (Or.inl rfl)) pgs_nil)))
      (pss_cons (ps_if (pt_cmpR op_eq (pv 1) pe_int (nomark _)) (pss_one (ps_ret (pv 2))) pss_nil)
      (pss_one (ps_if (pt_cmpR op_in_seq (pv 3) (pe_tup (pa_cons pe_str (pa_cons pe_str (pa_cons pe_str pa_nil)))) (by rfl)) (pss_one (ps_set (i := 1) sc_law_due.nd rfl (Or.inl rfl) (pe_op op_add (pv 1) pe_int))) (pss_one (ps_if (pt_cmpR op_ne (pv 3) pe_str (nomark _)) (pss_cons (ps_setLc (i := 4) (own := [("_law_sign", 6)]) (g := gName 6) rfl sc_law_due.nd rfl rfl (sw_true rfl rfl rfl (by decide +kernel)) (pi_str (pv 3)) (blkOk_by (N := N_law_due) (sc := defScope s_law_due) (by decide +kernel)) (fun _ _ _ _ _ => (pg_name (i := 6) sc_law_due.nd rfl (Or.inl rfl))) (fun _ _ _ _ _ => (pts_one (pt_cmpR op_notIn_sign (pv 6) pe_str (by rfl)))) (fun _ _ _ _ _ => (pv 6)))
    (pss_cons (ps_set (i := 5) sc_law_due.nd rfl (Or.inl rfl) (pe_lst (pa_cons pe_str (pa_cons pe_str (pa_cons pe_str (pa_cons pe_str (pa_cons pe_str (pa_cons pe_str (pa_cons pe_str (pa_cons pe_str (pa_cons pe_str (pa_cons pe_str pa_nil))))))))))))
    (pss_cons (ps_if (PW.pt (pw_and (pt_cmpR op_notIn_seq (pv 3) (pe_tup (pa_cons pe_str (pa_cons pe_str pa_nil))) (by rfl)) (pw_and1 (PW.pt (pw_or (pt_cmpR (op_neD hr.units) (pv 4) (pe_lst pa_nil) (nomark _)) (pw_or (pt_not (pt_chain op_lt op_lt pe_int (pe_callB call_len (by rfl) T.b_len PySem.boot_len (pa_cons (pv 3) pa_nil)) pe_int)) (pw_or1 (pt_cmpR op_in_seq (pv 3) (pv 5) (by rfl))))))))) (pss_one (ps_ret (pv 2))) pss_nil)
    (pss_one (ps_set (i := 1) sc_law_due.nd rfl (Or.inl rfl) (pe_op op_sub (pv 1) pe_int)))))) pss_nil))))))
    (pss_one (ps_ret (pe_ifExp (pt_cmpR op_eq (pv 1) pe_int (nomark _)) pe_non (pe_callB call_len (by rfl) T.b_len PySem.boot_len (pa_cons (pv 0) pa_nil))))))), ?_⟩
    refine ⟨_, rfl, l, _, rfl, hl, ?_⟩
    refine for_enumL (fun i σ H' => ∃ (v2 v3 v4 v5 : Option V) (n : Nat), σ = [some (.ref l), some (.int (n : Nat)), v2, v3, v4, v5, none] ∧ Same H H' ∧ dueW 0 1 ws = dueW i n (ws.drop i)) ⟨_, _, _, _, 1, rfl, Same.refl _, rfl⟩ (fun i σ H' _ ⟨_, _, _, _, _, _, h, _⟩ => Same.sqL h hl) ?_ ?_
    · rintro i x σ H1 Tp hx ⟨v2, v3, v4, v5, n, rfl, s1, hd⟩ hTp
      obtain ⟨z, hzm, hzi, rfl⟩ := get_map_strG hx
      obtain ⟨hzl, hzo⟩ := hz z hzm
      have hi : i < ws.length := (List.getElem?_eq_some_iff.mp hzi).1
      have ed : ws.drop i = z :: ws.drop (i + 1) := by
        rw [List.drop_eq_getElem_cons hi]
        congr 1
        exact (List.getElem?_eq_some_iff.mp hzi).2
      rw [ed] at hd
      have sT := s1.trans (Same.upd_new (o := .tup [.int (i : Nat), .str z]) hTp)
      refine ⟨Tp, _, rfl, .inl (.inl upd_same), rfl, _, _, rfl, _, _, rfl, rfl, ?_⟩
      generalize upd H1 Tp _ = H2 at sT ⊢
      refine ⟨_, rfl, rfl, _, rfl, ?_⟩
      cases n with
      | zero =>
        refine iteTh rfl ⟨_, rfl, ?_⟩
        have q := k _ sT
        rw [hd] at q
        exact q
      | succ m =>
      refine iteFh (decide_eq_false fun e => by injection e with e; omega) ?_
      refine ⟨_, rfl, (by show 3 ≤ sizeLine; decide), fun t1 ht1 => ?_⟩
      have s2 := sT.trans (Same.upd_new (o := .tup [V.str (Str.ofString "&"), V.str (Str.ofString "|"), V.str (Str.ofString "^")]) ht1)
      refine ⟨t1, _, rfl, .inr (.inl (.inl (show _ = some (HO.tup (sgnT.map V.str)) from upd_same))), rfl, flat_txts _, _, rfl, ?_⟩
      show if inV (V.str z) (sgnT.map V.str) = true then _ else _
      rw [inV_sgn]
      generalize upd H2 t1 _ = H3 at s2 ⊢
      by_cases c1 : z ∈ sgnT
      · refine iteTh (decide_eq_true c1) ?_
        obtain ⟨w1, w2⟩ := sgn_ok z c1
        have dn : dueW 0 1 ws = dueW (i + 1) (m + 2) (ws.drop (i + 1)) := by
          rw [hd]
          show (if okW z = true then _ else _) = _
          rw [if_pos w1, w2]
        refine ⟨_, rfl, _, _, rfl, rfl, ?_⟩
        refine ⟨some (.int (i : Nat)), some (.str z), v4, v5, m + 2, ?_, s2, dn⟩
        show [some (V.ref l), some (V.int (((m + 1 : Nat) : Int) + 1)), _, _, _, _, _] = _
        rw [show ((m + 1 : Nat) : Int) + 1 = ((m + 2 : Nat) : Int) by omega]
      refine iteFh (decide_eq_false c1) ?_
      refine ⟨_, rfl, rfl, _, rfl, ?_⟩
      by_cases c2 : z = Str.ofString "~"
      · subst c2
        refine iteFh (by simp) ?_
        have dn : dueW 0 1 ws = dueW (i + 1) (m + 1) (ws.drop (i + 1)) := by
          rw [hd]
          show (if okW (Str.ofString "~") = true then _ else _) = _
          rw [if_pos (by decide +kernel)]
          rfl
        exact ⟨some (.int (i : Nat)), some (.str (Str.ofString "~")), v4, v5, m + 1, rfl, s2, dn⟩
      refine iteTh (by simp [c2]) ?_
      have ns : z ∉ signsV := fun e => by
        have : z ∈ sgnT ∨ z = Str.ofString "~" := by
          simp only [signsV, sgnT, txts, List.map_cons, List.map_nil, List.mem_cons, List.not_mem_nil, or_false] at e ⊢
          rcases e with e | e | e | e
          · exact .inl (.inl e)
          · exact .inl (.inr (.inl e))
          · exact .inl (.inr (.inr e))
          · exact .inr e
        exact this.elim c1 c2
      have a0 : arityW z = 0 := by unfold arityW; rw [if_neg ns]
      refine ⟨_, rfl, z, rfl, fun D hD => ?_⟩
      refine lc_str (fun i H' => Same H3 H' ∧ H' D = some (.lst ((oddS z i).map V.str))) ⟨Same.upd_new hD, upd_same⟩ ?_ ?_
      · rintro i c H' hc ⟨t1, d1⟩
        refine ⟨rfl, _, rfl, c, _, rfl, rfl, _, rfl, ?_⟩
        show if (!decide (c ∈ lettersS.cps.toList)) = true then _ else _
        cases ec : (!decide (c ∈ lettersS.cps.toList)) with
        | true =>
          refine iteT ⟨_, rfl, _, d1, ?_, ?_, ?_⟩
          · rw [List.length_map]
            exact Nat.lt_of_le_of_lt (odd_len z i) (small1000 hzl)
          · intro b o e
            have := t1 b o e
            rw [upd_ne (ne_of_none e hD)]
            exact this
          · rw [odd_succ hc, ec, if_pos rfl, List.map_append]
            exact upd_same
        | false =>
          refine iteF ⟨t1, ?_⟩
          rw [odd_succ hc, ec, if_neg Bool.false_ne_true]
          exact d1
      · rintro H4 ⟨t1, d1⟩
        have s4 := s2.trans t1
        refine ⟨(by show 10 ≤ sizeLine; decide), fun pb hpb => ?_⟩
        have s5 := s4.trans (Same.upd_new (o := .lst (resV.map V.str)) hpb)
        have d5 := (Same.upd_new (o := .lst (resV.map V.str)) hpb) _ _ d1
        have b5 : (upd H4 pb (.lst (resV.map V.str))) pb = some (.lst (resV.map V.str)) := upd_same
        show tSeq _ _ _ _ (upd H4 pb (.lst (resV.map V.str)))
        generalize upd H4 pb (.lst (resV.map V.str)) = H5 at s5 d5 b5 ⊢
        have wb := word_bad z ns
        refine ⟨_, rfl, (by show 2 ≤ sizeLine; decide), fun t2 ht2 => ?_⟩
        have s6 := s5.trans (Same.upd_new (o := .tup [V.str (Str.ofString "0"), V.str (Str.ofString "1")]) ht2)
        refine ⟨t2, _, rfl, .inr (.inl (.inl (show _ = some (HO.tup (constV.map V.str)) from upd_same))), rfl, flat_txts _, _, rfl, ?_⟩
        show if (!inV (V.str z) (constV.map V.str)) = true then _ else _
        rw [inV_sgn]
        have d6 := (Same.upd_new (o := .tup [V.str (Str.ofString "0"), V.str (Str.ofString "1")]) ht2) _ _ d5
        have b6 := (Same.upd_new (o := .tup [V.str (Str.ofString "0"), V.str (Str.ofString "1")]) ht2) _ _ b5
        generalize upd H5 t2 _ = H6 at s6 d6 b6 ⊢
        have endOk : okW z = true → dueW 0 1 ws = dueW (i + 1) m (ws.drop (i + 1)) := fun e => by
          rw [hd]
          show (if okW z = true then _ else _) = _
          rw [if_pos e, a0]
          rfl
        have endBad : okW z = false → dueW 0 1 ws = some i := fun e => by
          rw [hd]
          show (if okW z = true then _ else _) = _
          rw [e]
          rfl
        have em : ((m + 1 : Nat) : Int) - 1 = (m : Nat) := by omega
        have fin : ∀ H', Same H H' → okW z = false → Q (.int (i : Nat)) H' := fun H' s' e => by
          have q := k H' s'
          rw [endBad e] at q
          exact q
        have e6 : oddS z z.cps.size = (z.cps.toList.filter fun c => !decide (c ∈ lettersS.cps.toList)).map fun c => ⟨#[c]⟩ := by
          unfold oddS
          rw [List.take_of_length_le (by simp)]
        rw [← e6] at wb
        have ez : (!PyData.eqv (.list ((oddS z z.cps.size).map PyData.str)) (.list [])) = !(oddS z z.cps.size).isEmpty := by
          cases oddS z z.cps.size with
          | nil => simp [PyData.eqv, PyData.eqvAll]
          | cons _ _ => simp [PyData.eqv, PyData.eqvAll]
        cases c3 : decide (z ∈ constV) with
        | true =>
          refine iteFh rfl (iteF ?_)
          refine ⟨_, rfl, _, _, rfl, rfl, ?_⟩
          refine ⟨some (.int (i : Nat)), some (.str z), some (.ref D), some (.ref pb), m, ?_, s6, endOk (by rw [wb, c3]; rfl)⟩
          show [some (V.ref l), some (V.int (((m + 1 : Nat) : Int) - 1)), _, _, _, _, _] = _
          rw [em]
        | false =>
        rw [c3] at wb
        refine iteTh rfl ?_
        refine ⟨_, rfl, (by show 0 ≤ sizeLine; decide), fun tz htz => ?_⟩
        have s7 := s6.trans (Same.upd_new (o := .lst []) htz)
        have b7 := (Same.upd_new (o := .lst []) htz) _ _ b6
        refine ⟨_, _, .lst (.inl (.inl ((Same.upd_new (o := .lst []) htz) _ _ d6))) (dp_strs _), .lst (.inl (.inl upd_same)) .nil, shaped_strs (odd_ok1 hzo _), (by decide +kernel), _, rfl, ?_⟩
        rw [ez]
        cases c4 : (oddS z z.cps.size).isEmpty with
        | false =>
          rw [c4] at wb
          refine iteTh rfl (iteT ?_)
          exact ⟨_, rfl, fin _ s7 wb⟩
        | true =>
        rw [c4] at wb
        refine iteFh rfl ?_
        refine ⟨_, rfl, _, _, rfl, ⟨len1000 hzl, rfl⟩, _, _, rfl, rfl, _, rfl, ?_⟩
        by_cases h1 : (0 : Int) < z.length
        · rw [decide_eq_true h1] at wb
          refine iteTh (decide_eq_true h1) ?_
          refine ⟨_, _, rfl, rfl, _, rfl, ?_⟩
          by_cases h2 : (z.length : Int) < 5
          · rw [decide_eq_true h2] at wb
            refine iteFh (by rw [decide_eq_true h2]; rfl) ?_
            refine ⟨_, rfl, _, rfl, _, _, rfl, .inl (.inl (.inl b7)), rfl, flat_txts _, _, rfl, ?_⟩
            show if inV (V.str z) (resV.map V.str) = true then _ else _
            rw [inV_sgn]
            cases c5 : decide (z ∈ resV) with
            | true =>
              rw [c5] at wb
              refine iteTh rfl ?_
              exact ⟨_, rfl, fin _ s7 wb⟩
            | false =>
              rw [c5] at wb
              refine iteFh rfl ?_
              refine ⟨_, rfl, _, _, rfl, rfl, ?_⟩
              refine ⟨some (.int (i : Nat)), some (.str z), some (.ref D), some (.ref pb), m, ?_, s7, endOk wb⟩
              show [some (V.ref l), some (V.int (((m + 1 : Nat) : Int) - 1)), _, _, _, _, _] = _
              rw [em]
          · rw [decide_eq_false h2] at wb
            refine iteTh (by rw [decide_eq_false h2]; rfl) (iteT ?_)
            exact ⟨_, rfl, fin _ s7 wb⟩
        · rw [decide_eq_false h1] at wb
          refine iteFh (decide_eq_false h1) ⟨_, rfl, iteTh rfl (iteT ?_)⟩
          exact ⟨_, rfl, fin _ s7 wb⟩
    · rintro σ H1 ⟨v2, v3, v4, v5, n, rfl, s1, hd⟩
      rw [List.length_map, List.drop_length] at hd
      have q := k _ s1
      rw [hd] at q
      refine ⟨_, rfl, rfl, _, rfl, ?_⟩
      cases n with
      | zero => exact iteTh rfl q
      | succ m =>
        refine iteFh (decide_eq_false fun e => by injection e with e; omega) ?_
        exact ⟨_, rfl, _, ws.length, rfl, .inl ⟨_, Same.sqL s1 hl, by rw [List.length_map]⟩, q⟩
end
end L2.Wk
namespace L2.Wk
open PySem PySem.Spec PyProof.Rows
structure TxtHe (K : PySem.W.Frag) (w : World) (mg : Str → Option Value) (a : Wf) (g : Gf) (c : Fg) (h : Hf) (IT fIT we IF pm : Addr) (lu : Lu) : Prop extends TxtR K w mg a g c h IT fIT, TxtDu K mg lu where
  g_WakeError : mg "WakeError" = some (.ref we)
  g_InvalidFormula : mg "InvalidFormula" = some (.ref IF)
  xc_InvalidText : ExcC K IT
  kit_TW : PySem.W.kitOne K (.ref IT) (.ref we) = some true
  kit_TF : PySem.W.kitOne K (.ref IT) (.ref IF) = some false
  cr_Formula : ClX.CRead K c.Formula (.type "type")
  cm_Formula_read : ClX.CMet K c.Formula (.type "type") "read" pm h.read
  a_Formula_str : PySem.W.findIn K (.ref c.Formula) "__str__" = some (some (.ref c.str))
  i_Formula_str : PySem.W.isFn K (.ref c.str) = true
def wordsOf (z : Str) : List Str := Txt.split z (Str.ofString " ")
def heardV (z : Str) : V := match dueW 0 1 (wordsOf z) with
  | none => .str z
  | some n => .int (n : Nat)
structure LineOk (z : Str) : Prop where
  len : z.length ≤ 50000
  few : (wordsOf z).length ≤ 60
  short : ∀ y ∈ wordsOf z, y.length ≤ 1000
def spHeard7 : Sp := fun vs H Q _ => ∃ z : Str, vs = [.str z] ∧ LineOk z ∧ ∀ H', Same H H' → Q (heardV z) H'
theorem words_back (z : Str) : txtW (wordsOf z) = z := by
  unfold txtW wordsOf
  rw [TL.join_eq]
  exact StrLaws.join_split z (Str.ofString " ")
section
variable {P : Program} {w : World} {K : PySem.W.Frag} {mg : Str → Option Value} {base : Heap} {a : Wf} {g : Gf} {c : Fg} {h : Hf} {IT fIT we IF pm : Addr} {lu : Lu} {f : Addr} {fd : FuncData}
theorem ok_heard7 {f1 : FuncData} (F : Fun K "_law_heard" "_law_heard" s_law_heard f fd) (T : TxtHe K w mg a g c h IT fIT we IF pm lu)
    (G_Formula_str : FnOk P w K mg base CX0 2 c.str f1 ["self"] (spStrG K c)) (b_Formula_str : Binds K f1 ["self"] [])
    (R_Formula_read : FnR P w K mg base (L2.CX P w) 4 h.read (spReadF K c IT)) :
    FnOk P w K mg base CX0 5 f fd ["_law_line"] spHeard7 := by
  refine F.ok sc_law_heard (fun vs H Q E h => ?_) (fun cdv A outer s H vs Q E hr h => ?_)
  · obtain ⟨_, rfl, _⟩ := h
    rfl
  · obtain ⟨z, rfl, ok, k⟩ := h
    refine ⟨_, (pss_cons (ps_set (i := 1) sc_law_heard.nd rfl (Or.inl rfl) pe_non)
    (pss_cons (ps_try_as (i := 2) rfl rfl sc_law_heard.nd rfl rfl ⟨rfl, by decide, Or.inl T.low_InvalidText.gC⟩ takes0
      (fun W pn xe tk _ => (pss_one (ps_set (i := 1) sc_law_heard.nd rfl (Or.inl rfl) (pe_callTy (call_strOwn (E := E0) T.a_Formula_str T.i_Formula_str G_Formula_str b_Formula_str (hr.mono (by decide)) pass0) (by rfl) T.b_str (by decide +kernel) (pa_cons (pe_cmethS (pe_gr rfl T.g_Formula) T.cr_Formula T.cm_Formula_read R_Formula_read (hr.mono (by decide)) (fun σ => passAt tk σ) (pa_cons (pv 0) pa_nil)) pa_nil)))))
      (fun ae oe cls d pn hz hf => (pss_one (ps_set (i := 1) sc_law_heard.nd rfl (Or.inl rfl) (pe_ifExp (PW.pt (pw_and (pt_val (pe_callB (call_isX T.xc_InvalidText hz hf) (by rfl) T.b_isinstance (by decide +kernel) (pa_cons (pv 2) (pa_cons (pe_gr rfl T.g_WakeError) pa_nil)))) (pw_and1 (pt_not (pt_val (pe_callB (call_isX T.xc_InvalidText hz hf) (by rfl) T.b_isinstance (by decide +kernel) (pa_cons (pv 2) (pa_cons (pe_gr rfl T.g_InvalidFormula) pa_nil)))))))) (pe_byLow_InvalidText T.low_InvalidText hz hf (pv 2)) pe_str)))))
    (pss_one (ps_ret (pv 1))))), ?_⟩
    refine ⟨rfl, _, rfl, z, rfl, ok.len, ok.few, ok.short, fun hb p H1 S hF hR s1 => ?_, fun n hn d H1 s1 hd => ?_⟩
    · have kz : ∀ H', Same H H' → Q (.str z) H' := fun H' s' => by
        have q := k H' s'
        unfold heardV wordsOf at q
        rw [hb] at q
        exact q
      obtain ⟨dx, ts, tn, rs, ns, hp, _⟩ := hF.ex
      refine ⟨p, _, _, rfl, hp, p, S, rfl, hF, hR.ne, hR.len, hR.wf, hR.ar, hR.big, fun H2 s2 => ?_⟩
      refine ⟨_, rfl, ?_⟩
      have q := kz _ (s1.trans s2)
      rw [hR.last, show Txt.split z (Str.ofString " ") = wordsOf z from rfl, words_back]
      exact ⟨_, rfl, q⟩
    · have kn : ∀ H', Same H H' → Q (.int (n : Nat)) H' := fun H' s' => by
        have q := k H' s'
        unfold heardV wordsOf at q
        rw [hn] at q
        exact q
      refine ⟨true, T.low_InvalidText.te, fun _ ea _ => ?_, fun q => Bool.noConfusion q⟩
      refine ⟨_, rfl, rfl, _, _, true, d, _, rfl, .own we, rfl, hd, T.kit_TW, true, rfl, iteT ?_⟩
      refine ⟨_, rfl, rfl, _, _, false, d, _, rfl, .own IF, rfl, hd, T.kit_TF, false, rfl, ?_⟩
      refine iteTh rfl ?_
      refine ⟨_, rfl, rfl, rfl, d, _, rfl, hd, ?_⟩
      exact ⟨_, rfl, kn _ s1⟩
end
end L2.Wk
namespace L2.Wk
open PySem PySem.Spec PyProof.Rows
/-- repr of a number or of a text -/
def reprV2 : V → Str
  | .int i => toString i
  | .str z => reprText z
  | _ => Str.ofString "None"
theorem call_reprIS {X : Cx} : CallR X (.builtin "repr") (fun xs H Q => ∃ v, xs = [v] ∧ ((∃ i : Int, v = .int i ∧ i.natAbs.log2 < 1920) ∨ ∃ z : Str, v = .str z ∧ z.length ≤ 50000 ∧ PyData.strOk z = true) ∧ Q (.str (reprV2 v)) H) := by
  intro pins s σ H xs us Q I r h
  obtain ⟨v, rfl, hv, q⟩ := h
  rcases hv with ⟨i, rfl, hz⟩ | ⟨z, rfl, hz, ho⟩
  · obtain ⟨u, rfl, t, rfl⟩ := vals1 r
    exact PySem.P.repr_of_int hz ⟨.str _, H, I.tok _, ⟨_, rfl⟩, q⟩
  · obtain ⟨u, rfl, t, rfl⟩ := vals1 r
    refine PySem.P.repr_of_str ⟨.str _, H, I.tok _, ⟨_, rfl⟩, q⟩ ?_
    have := PySem.StrLaws.reprText_len z fun c hc => by
      have h1 : PyData.strOk z = true := ho
      unfold PyData.strOk at h1
      have := of_decide_eq_true (Array.all_eq_true_iff_forall_mem.mp h1 c (by simpa using hc))
      omega
    rw [sizeLine_eq]
    omega
def oddT : List Str := txts ["&", "|", "^", "~", "x", "y", "0", "1", "", "2", "any", "kept", "X", "xyzab", "!", "10", "x1", "note"]
def goodT : List Str := poolW ++ symT ++ oddT
theorem good_w : ∀ z ∈ goodT, z.length ≤ 10 ∧ 32 ∉ TL.tl z ∧ PyData.strOk z = true := by decide +kernel
theorem pool_ok : ∀ z ∈ poolW, PyData.strOk z = true := by decide +kernel
theorem sp7_tl : TL.tl (Str.ofString " ") = [32] := by decide +kernel
theorem joinL_mem7 {S : List Nat} {c : Nat} : ∀ {L : List (List Nat)}, c ∈ TL.joinL S L → c ∈ S ∨ ∃ p ∈ L, c ∈ p
  | [], h => by cases h
  | [p], h => .inr ⟨p, List.mem_cons_self .., h⟩
  | p :: q :: r, h => by
    rcases List.mem_append.mp (show c ∈ p ++ (S ++ TL.joinL S (q :: r)) from h) with h | h
    · exact .inr ⟨p, List.mem_cons_self .., h⟩
    · rcases List.mem_append.mp h with h | h
      · exact .inl h
      · rcases joinL_mem7 h with h | ⟨x, hx, h⟩
        · exact .inl h
        · exact .inr ⟨x, List.mem_cons_of_mem _ hx, h⟩
theorem line_ok {ws : List Str} (hl : ws.length ≤ 20) (hg : ∀ z ∈ ws, z ∈ goodT) : LineOk (txtW ws) ∧ PyData.strOk (txtW ws) = true ∧ ∃ vs : List Str, wordsOf (txtW ws) = vs ∧ vs.length ≤ 20 ∧ vs ≠ [] ∧ ∀ z ∈ vs, z.length ≤ 10 ∧ PyData.strOk z = true := by
  have hs := sum_leG (c := 10) (l := ws) fun z hz => (good_w z (hg z hz)).1
  have tl := txt_len ws
  have so : PyData.strOk (txtW ws) = true := by
    have q : ∀ c ∈ TL.tl (txtW ws), c < 0x110000 := fun c hc => by
      unfold txtW at hc
      rw [TL.join_eq, TL.tl_join] at hc
      rcases joinL_mem7 hc with hc | ⟨p, hp, hc⟩
      · rw [sp7_tl] at hc
        rw [List.mem_singleton.mp hc]
        decide
      · obtain ⟨z, hz, rfl⟩ := List.mem_map.mp hp
        have h1 := (good_w z (hg z hz)).2.2
        unfold PyData.strOk at h1
        exact of_decide_eq_true (Array.all_eq_true_iff_forall_mem.mp h1 c (by simpa [TL.tl] using hc))
    unfold PyData.strOk
    rw [Array.all_eq_true_iff_forall_mem]
    intro c hc
    exact decide_eq_true (q c (by simpa [TL.tl] using hc))
  cases ws with
  | nil =>
    have e : wordsOf (txtW []) = [Str.empty] := by decide +kernel
    refine ⟨⟨by omega, by rw [e]; decide, fun y hy => ?_⟩, so, [Str.empty], e, by decide, by simp, fun y hy => ?_⟩
    · rw [e] at hy
      rw [List.mem_singleton.mp hy]
      decide
    · rw [List.mem_singleton.mp hy]
      decide +kernel
  | cons w ws =>
    have e : wordsOf (txtW (w :: ws)) = w :: ws := TL.split_join sp7_tl (by decide +kernel) (by simp) fun p hp => (good_w p (hg p hp)).2.1
    refine ⟨⟨by omega, by rw [e]; omega, fun y hy => ?_⟩, so, _, e, hl, by simp, fun y hy => ?_⟩
    · rw [e] at hy
      exact Nat.le_trans (good_w y (hg y hy)).1 (by decide)
    · exact ⟨(good_w y (hg y hy)).1, (good_w y (hg y hy)).2.2⟩
theorem line_by {z : Str} {n : Nat} (h1 : z.length ≤ 50000) (h2 : (wordsOf z).length ≤ 60) (h3 : ∀ y ∈ wordsOf z, y.length ≤ 1000) (h4 : dueW 0 1 (wordsOf z) = some n) : LineOk z ∧ heardV z = .int (n : Nat) := ⟨⟨h1, h2, h3⟩, by unfold heardV; rw [h4]⟩
theorem e1 : LineOk (Str.ofString "") ∧ heardV (Str.ofString "") = .int ((0 : Nat) : Int) := line_by (by decide +kernel) (by decide +kernel) (by decide +kernel) (by decide +kernel)
theorem e2 : LineOk (Str.ofString "& x") ∧ heardV (Str.ofString "& x") = .int ((2 : Nat) : Int) := line_by (by decide +kernel) (by decide +kernel) (by decide +kernel) (by decide +kernel)
theorem e3 : LineOk (Str.ofString "x y") ∧ heardV (Str.ofString "x y") = .int ((1 : Nat) : Int) := line_by (by decide +kernel) (by decide +kernel) (by decide +kernel) (by decide +kernel)
theorem e4 : LineOk (Str.ofString "~") ∧ heardV (Str.ofString "~") = .int ((1 : Nat) : Int) := line_by (by decide +kernel) (by decide +kernel) (by decide +kernel) (by decide +kernel)
theorem due_len : ∀ {ws : List Str} {i n m : Nat}, dueW i n ws = some m → m ≤ i + ws.length
  | [], i, 0, m, h => by cases h
  | [], i, n + 1, m, h => by
    cases h
    exact Nat.le_refl _
  | w :: ws, i, 0, m, h => by
    cases h
    omega
  | w :: ws, i, n + 1, m, h => by
    have h' : (if okW w = true then dueW (i + 1) (n + arityW w) ws else some i) = some m := h
    rw [List.length_cons]
    split at h'
    · have := due_len h'
      omega
    · cases h'
      omega
theorem due_le {ws : List Str} {m : Nat} (h : dueW 0 1 ws = some m) (hl : ws.length ≤ 20) : m ≤ 40 := by
  have := due_len h
  omega
structure TxtL (K : PySem.W.Frag) (w : World) (mg : Str → Option Value) (a : Wf) (g : Gf) (c : Fg) (h : Hf) (IT fIT we IF pm : Addr) (lu : Lu) (ls : Ls) (lt : Lt) (so wd : Addr) : Prop extends TxtHe K w mg a g c h IT fIT we IF pm lu, TxtTr K mg ls lt where
  b_repr : mg "repr" = none
  g__law_source : mg "_law_source" = some (.ref so)
  k__law_source : PySem.W.keepIn K (.ref so) = true
  g__law_words : mg "_law_words" = some (.ref wd)
  k__law_words : PySem.W.keepIn K (.ref wd) = true
def spLaw (K : PySem.W.Frag) : Sp := fun vs H Q _ => ∃ (a : Addr) (ns : List Int), vs = [.ref a] ∧ SqL K H a (ns.map V.int) ∧ ns.length ≤ 63 ∧ ∀ H', Q (.bl true) H'
section
variable {P : Program} {w : World} {K : PySem.W.Frag} {mg : Str → Option Value} {base : Heap} {a : Wf} {g : Gf} {c : Fg} {h : Hf} {IT fIT we IF pm : Addr} {lu : Lu} {ls : Ls} {lt : Lt} {so wd : Addr} {f : Addr} {fd : FuncData}
theorem ok_law {f1 f2 f3 f4 f5 f6 f7 f8 : FuncData} (F : Fun K "law" "law" s_law f fd) (T : TxtL K w mg a g c h IT fIT we IF pm lu ls lt so wd)
    (G__law_source : FnOk P w K mg base CX0 1 so f1 ["_law_script", "_law_base"] (spSourceA K)) (b__law_source : Binds K f1 ["_law_script", "_law_base"] [])
    (G__law_draw : FnOk P w K mg base CX0 1 ls.draw f2 ["_law_deal", "_law_wide"] spDrawA) (b__law_draw : Binds K f2 ["_law_deal", "_law_wide"] [])
    (G__law_pick : FnOk P w K mg base CX0 2 lt.pick f3 ["_law_deal", "_law_some"] (spPickA K)) (b__law_pick : Binds K f3 ["_law_deal", "_law_some"] [])
    (G__law_words : FnOk P w K mg base CX0 3 wd f4 ["_law_deal", "_law_many"] spWordsN) (b__law_words : Binds K f4 ["_law_deal", "_law_many"] [])
    (G__law_tree : FnOk P w K mg base CX0 8 lt.tree f5 ["_law_deal", "_law_names", "_law_many", "_law_deep"] (spTree 5)) (b__law_tree : Binds K f5 ["_law_deal", "_law_names", "_law_many", "_law_deep"] [])
    (G__law_tokens : FnOk P w K mg base CX0 6 lt.toks f6 ["_law_tree_here"] (spToks 5)) (b__law_tokens : Binds K f6 ["_law_tree_here"] [])
    (G__law_due : FnOk P w K mg base CX0 1 lu.due f7 ["_law_words_here"] (spDue K)) (b__law_due : Binds K f7 ["_law_words_here"] [])
    (G__law_heard : FnOk P w K mg base CX0 5 lu.heard f8 ["_law_line"] spHeard7) (b__law_heard : Binds K f8 ["_law_line"] []) :
    FnOk P w K mg base CX0 9 f fd ["_law_script"] (spLaw K) := by
  refine F.ok sc_law (fun vs H Q E h => ?_) (fun cdv A outer s H vs Q E hr h => ?_)
  · obtain ⟨_, _, rfl, _⟩ := h
    rfl
  · obtain ⟨sa, ns, rfl, hS, hlen, k⟩ := h
    refine ⟨_, (pss_cons (ps_set (i := 1) sc_law.nd rfl (Or.inl rfl) (pe_call G__law_source (hr.mono (by decide)) rfl T.g__law_source T.k__law_source b__law_source .nil pass0 (pa_cons (pv 0) (pa_cons pe_int pa_nil))))
    (pss_cons (ps_set (i := 2) sc_law.nd rfl (Or.inl rfl) (pe_lst (pa_cons pe_str (pa_cons pe_str (pa_cons pe_str (pa_cons pe_str (pa_cons pe_str (pa_cons pe_str (pa_cons pe_str (pa_cons pe_str (pa_cons pe_str (pa_cons pe_str (pa_cons pe_str (pa_cons pe_str (pa_cons pe_str (pa_cons pe_str (pa_cons pe_str (pa_cons pe_str (pa_cons pe_str (pa_cons pe_str pa_nil))))))))))))))))))))
    (pss_cons (ps_for PassesOwn.never rfl (pi_range1 rfl T.b_range (pa_cons pe_int pa_nil)) (pg_name (i := 3) sc_law.nd rfl (Or.inl rfl))
      (pss_cons (ps_set (i := 4) sc_law.nd rfl (Or.inl rfl) (pe_call G__law_tokens (hr.mono (by decide)) rfl T.g__law_tokens T.k__law_tokens b__law_tokens .nil pass0 (pa_cons (pe_call G__law_tree (hr.mono (by decide)) rfl T.g__law_tree T.k__law_tree b__law_tree .nil pass0 (pa_cons (pv 1) (pa_cons (pe_call G__law_words (hr.mono (by decide)) rfl T.g__law_words T.k__law_words b__law_words .nil pass0 (pa_cons (pv 1) (pa_cons pe_int pa_nil))) (pa_cons (pe_op op_add pe_int (pe_call G__law_draw (hr.mono (by decide)) rfl T.g__law_draw T.k__law_draw b__law_draw .nil pass0 (pa_cons (pv 1) (pa_cons pe_int pa_nil)))) (pa_cons pe_int pa_nil))))) pa_nil)))
      (pss_cons (ps_par (i := 5) (j := 6) rfl sc_law.nd rfl rfl (by decide) rfl rfl (pa_cons (pe_call G__law_draw (hr.mono (by decide)) rfl T.g__law_draw T.k__law_draw b__law_draw .nil pass0 (pa_cons (pv 1) (pa_cons (pe_op op_add (pe_callB call_len (by rfl) T.b_len PySem.boot_len (pa_cons (pv 4) pa_nil)) pe_int) pa_nil))) (pa_cons (pe_call G__law_draw (hr.mono (by decide)) rfl T.g__law_draw T.k__law_draw b__law_draw .nil pass0 (pa_cons (pv 1) (pa_cons pe_int pa_nil))) pa_nil)) rfl)
      (pss_cons (ps_if (pt_cmpR op_eq (pv 6) pe_int (nomark _)) (pss_one (ps_set (i := 4) sc_law.nd rfl (Or.inl rfl) (pe_op op_cat (pe_slice sl_list (pv 4) po_none (po_some (pv 5))) (pe_slice sl_list (pv 4) (po_some (pe_op op_add (pv 5) pe_int)) po_none)))) (pss_one (ps_if (pt_cmpR op_lt (pv 6) pe_int (nomark _)) (pss_one (ps_set (i := 4) sc_law.nd rfl (Or.inl rfl) (pe_op op_cat (pe_op op_cat (pe_slice sl_list (pv 4) po_none (po_some (pv 5))) (pe_lst (pa_cons (pe_call G__law_pick (hr.mono (by decide)) rfl T.g__law_pick T.k__law_pick b__law_pick .nil pass0 (pa_cons (pv 1) (pa_cons (pv 2) pa_nil))) pa_nil))) (pe_slice sl_list (pv 4) (po_some (pe_op op_add (pv 5) (pe_callTy call_int1 (by rfl) T.b_int (by decide +kernel) (pa_cons (pe_cmpR op_eq (pv 6) pe_int (nomark _)) pa_nil)))) po_none)))) pss_nil)))
      (pss_cons (ps_set (i := 7) sc_law.nd rfl (Or.inl rfl) (pe_join pe_str (pv 4)))
      (pss_cons (ps_set (i := 8) sc_law.nd rfl (Or.inl rfl) (pe_call G__law_due (hr.mono (by decide)) rfl T.g__law_due T.k__law_due b__law_due .nil pass0 (pa_cons (pe_split (pv 7) pe_str) pa_nil)))
      (pss_one (ps_if (pt_cmpR op_ne (pe_callB call_reprIS (by rfl) T.b_repr (by decide +kernel) (pa_cons (pe_call G__law_heard (hr.mono (by decide)) rfl T.g__law_heard T.k__law_heard b__law_heard .nil pass0 (pa_cons (pv 7) pa_nil)) pa_nil)) (pe_callB call_reprIS (by rfl) T.b_repr (by decide +kernel) (pa_cons (pe_ifExp (pt_cmpR op_isN (pv 8) pe_non (nomark _)) (pv 7) (pv 8)) pa_nil)) (nomark _)) (pss_one (ps_ret pe_bl)) pss_nil))))))))
    (pss_one (ps_ret (pe_cmpR (op_eqD hr.units) (pe_lst (pa_cons (pe_call G__law_heard (hr.mono (by decide)) rfl T.g__law_heard T.k__law_heard b__law_heard .nil pass0 (pa_cons pe_str pa_nil)) (pa_cons (pe_call G__law_heard (hr.mono (by decide)) rfl T.g__law_heard T.k__law_heard b__law_heard .nil pass0 (pa_cons pe_str pa_nil)) (pa_cons (pe_call G__law_heard (hr.mono (by decide)) rfl T.g__law_heard T.k__law_heard b__law_heard .nil pass0 (pa_cons pe_str pa_nil)) (pa_cons (pe_call G__law_heard (hr.mono (by decide)) rfl T.g__law_heard T.k__law_heard b__law_heard .nil pass0 (pa_cons pe_str pa_nil)) pa_nil))))) (pe_lst (pa_cons pe_int (pa_cons pe_int (pa_cons pe_int (pa_cons pe_int pa_nil))))) (nomark _))))))), ?_⟩
    refine ⟨_, rfl, sa, ns, rfl, hS, hlen, fun d l H1 hd hl D1 s1 => ?_⟩
    clear hS s1 hd hl
    refine ⟨(by show 18 ≤ sizeLine; decide), fun po hpo => ?_⟩
    have s2 := Same.upd_new (o := .lst (oddT.map V.str)) hpo
    have D2 := D1.same s2
    have pod := D1.nd hpo
    have pol := D1.nl hpo
    have ho2 : (upd H1 po (.lst (oddT.map V.str))) po = some (.lst (oddT.map V.str)) := upd_same
    show tSeq _ _ _ _ (upd H1 po (.lst (oddT.map V.str)))
    generalize upd H1 po (.lst (oddT.map V.str)) = H2 at D2 ho2 ⊢
    clear s2 D1 hpo H1
    refine ⟨12, rfl, by decide, by decide, for_range (lo := 0) (n := 12) (fun i σ H' => ∃ v3 v4 v5 v6 v7 v8 : Option V, σ = [some (.ref sa), some (.ref d), some (.ref po), v3, v4, v5, v6, v7, v8] ∧ DealA H' d l ∧ H' po = some (.lst (oddT.map V.str))) ⟨_, _, _, _, _, _, rfl, D2, ho2⟩ ?_ ?_⟩
    · clear D2 ho2 H2
      rintro i σ H1 hi ⟨v3, v4, v5, v6, v7, v8, rfl, D1, ho1⟩
      refine ⟨_, rfl, _, rfl, d, l, 4, rfl, D1, by decide, fun pn ys H2 hpn hn2 hly hym D2 kp2 => ?_⟩
      have pnd := D1.nd hpn
      have pnl := D1.nl hpn
      refine ⟨_, rfl, d, l, 10, rfl, D2, by decide, by decide, fun r3 H3 r30 r31 D3 kp3 => ?_⟩
      obtain ⟨c3, rfl⟩ := Int.eq_ofNat_of_zero_le r30
      refine ⟨_, _, rfl, rfl, ?_⟩
      refine ⟨d, l, pn, ys, 1 + c3, ?_, D3, kp3 _ _ hn2 pnd pnl, pnd, pnl, ?_, by omega, fun z hz => pool_ok z (hym z hz), by omega, by omega, fun v t H4 hv hdp htl htm D4 kp4 => ?_⟩
      · show [V.ref d, V.ref pn, V.int (1 + (c3 : Int)), V.int 5] = [V.ref d, V.ref pn, V.int ((1 + c3 : Nat) : Int), V.int ((5 : Nat) : Int)]
        rw [show 1 + (c3 : Int) = ((1 + c3 : Nat) : Int) by omega]
        rfl
      · intro e
        rw [e] at hly
        cases hly
      refine ⟨v, t, rfl, hv, hdp, by omega, fun pw H5 hpw hw5 s5 => ?_⟩
      have ho5 := s5 _ _ (kp4 _ _ (kp3 _ _ (kp2 _ _ ho1 pod pol) pod pol) pod pol)
      have D5 := D4.same s5
      have pwd := D4.nd hpw
      have pwl := D4.nl hpw
      have hg : ∀ z ∈ t.toks, z ∈ goodT := fun z hz => by
        rcases htm z hz with q | q
        · exact List.mem_append_left _ (List.mem_append_left _ (hym z q))
        · exact List.mem_append_left _ (List.mem_append_right _ q)
      have hwl : t.toks.length ≤ 10 := by omega
      clear hv hdp htl htm kp2 kp3 kp4 s5 D1 D2 D3 D4 hpw hn2 hpn ho1 H4 H3 H2 H1
      generalize t.toks = ws at hw5 hg hwl
      refine ⟨_, rfl, _, rfl, _, ws.length, rfl, .inl ⟨_, .inl (.inl hw5), by rw [List.length_map]⟩, _, _, rfl, rfl, d, l, ((ws.length : Int) + 1), rfl, D5, by omega, by omega, fun r6 H6 r60 r61 D6 kp6 => ?_⟩
      refine ⟨_, rfl, d, l, 5, rfl, D6, by decide, by decide, fun r7 H7 r70 r71 D7 kp7 => ⟨_, _, rfl, ?_⟩⟩
      obtain ⟨c, rfl⟩ := Int.eq_ofNat_of_zero_le r60
      have hw7 := kp7 _ _ (kp6 _ _ hw5 pwd pwl) pwd pwl
      have ho7 := kp7 _ _ (kp6 _ _ ho5 pod pol) pod pol
      clear kp6 kp7 hw5 ho5 D5 D6 H5 H6
      refine ⟨_, rfl, rfl, _, rfl, ?_⟩
      refine ite_b (fun _ => ?_) (fun _ => ?_)
      · refine ⟨_, rfl, _, rfl, _, rfl, pw, _, rfl, .inl (.inl hw7), fun p1 hp1 => ?_⟩
        rw [cut_to, ← List.map_take]
        have u1 := Same.upd_new (o := .lst ((ws.take c).map V.str)) hp1
        refine ⟨_, rfl, _, rfl, _, _, rfl, rfl, _, rfl, pw, _, rfl, .inl (.inl (u1 _ _ hw7)), fun p2 hp2 => ?_⟩
        rw [show (c : Int) + 1 = ((c + 1 : Nat) : Int) by omega, cut_from, ← List.map_drop]
        have u2 := Same.upd_new (o := .lst ((ws.drop (c + 1)).map V.str)) hp2
        refine ⟨p1, p2, _, _, rfl, rfl, u2 _ _ upd_same, upd_same, ?_, fun p3 hp3 => ?_⟩
        · rw [List.length_map, List.length_map, List.length_take, List.length_drop]
          exact len1000 (by omega)
        rw [← List.map_append]
        have u3 := Same.upd_new (o := .lst ((ws.take c ++ ws.drop (c + 1)).map V.str)) hp3
        have uX := (u1.trans u2).trans u3
        have hl8 : (ws.take c ++ ws.drop (c + 1)).length ≤ 20 := by rw [List.length_append, List.length_take, List.length_drop]; omega
        have hg8 : ∀ z ∈ ws.take c ++ ws.drop (c + 1), z ∈ goodT := fun z hz => by
          rcases List.mem_append.mp hz with hz | hz
          · exact hg z (List.mem_of_mem_take hz)
          · exact hg z (List.mem_of_mem_drop hz)
        have hw8 := upd_same (H := upd (upd H7 p1 (.lst ((ws.take c).map V.str))) p2 (.lst ((ws.drop (c + 1)).map V.str))) (a := p3) (o := HO.lst ((ws.take c ++ ws.drop (c + 1)).map V.str))
        have D8 := D7.same uX
        have ho8 := uX _ _ ho7
        generalize upd (upd (upd H7 p1 (.lst ((ws.take c).map V.str))) p2 (.lst ((ws.drop (c + 1)).map V.str))) p3 (.lst ((ws.take c ++ ws.drop (c + 1)).map V.str)) = H8 at hw8 D8 ho8 ⊢
        generalize ws.take c ++ ws.drop (c + 1) = ws8 at hw8 hl8 hg8 ⊢
        obtain ⟨lok, lso, vs, ev, vl, vne, vok⟩ := line_ok (ws := ws8) hl8 hg8
        have lsum := sum_leG (c := 10) (l := ws8) fun z hz => (good_w z (hg8 z hz)).1
        refine ⟨⟨_, rfl⟩, _, rfl, _, p3, ws8, rfl, rfl, .inl (.inl (.inl hw8)), ?_, ?_⟩
        · rw [show (Str.ofString " ").length = 1 by decide +kernel]
          have := hl8
          omega
        rw [show Txt.join (Str.ofString " ") (ws8) = txtW (ws8) from rfl]
        generalize txtW (ws8) = z at lok lso ev ⊢
        have DD := D8
        have HO := ho8
        generalize H8 = HX at DD HO ⊢
        refine ⟨_, rfl, ⟨_, rfl⟩, z, Str.ofString " ", rfl, rfl, by decide +kernel, big_okG (by have := lok.len; omega), fun pl hpl => ?_⟩
        rw [show Txt.split z (Str.ofString " ") = vs from ev]
        have t1 := Same.upd_new (o := .lst (vs.map V.str)) hpl
        refine ⟨pl, vs, rfl, .inl (.inl upd_same), by omega, fun y hy => ⟨Nat.le_trans (vok y hy).1 (by decide), (vok y hy).2⟩, fun HY t2 => ?_⟩
        have t12 := t1.trans t2
        refine ⟨_, rfl, z, rfl, lok, fun HZ t3 => ?_⟩
        have t13 := t12.trans t3
        have hv : heardV z = (match dueW 0 1 vs with | none => .str z | some n => .int (n : Nat)) := by
          unfold heardV
          rw [ev]
          try (cases dueW 0 1 vs <;> rfl)
        rw [hv]
        cases ed : dueW 0 1 vs with
        | none =>
          refine ⟨_, rfl, .inr ⟨z, rfl, lok.len, lso⟩, ?_⟩
          refine ⟨_, rfl, rfl, _, rfl, iteTh rfl ?_⟩
          refine ⟨_, rfl, _, rfl, .inr ⟨z, rfl, lok.len, lso⟩, ?_⟩
          refine ⟨rfl, _, rfl, iteFh (by simp) ?_⟩
          exact ⟨_, _, _, _, _, _, rfl, DD.same t13, t13 _ _ HO⟩
        | some nb =>
          have nbl : nb ≤ 40 := due_le ed vl
          have nlog : (nb : Int).natAbs.log2 < 1920 := by
            have : (nb : Int).natAbs = nb := by omega
            rw [this]
            have q : ∀ x, x ≤ 40 → x.log2 < 1920 := by decide +kernel
            exact q nb nbl
          refine ⟨_, rfl, .inl ⟨(nb : Int), rfl, nlog⟩, ?_⟩
          refine ⟨_, rfl, rfl, _, rfl, iteFh rfl ?_⟩
          refine ⟨_, rfl, _, rfl, .inl ⟨(nb : Int), rfl, nlog⟩, ?_⟩
          refine ⟨rfl, _, rfl, iteFh (by simp [dueV]) ?_⟩
          exact ⟨_, _, _, _, _, _, rfl, DD.same t13, t13 _ _ HO⟩
      refine ⟨_, rfl, _, _, rfl, rfl, _, rfl, ?_⟩
      refine ite_b (fun _ => ?_) (fun _ => ?_)
      · refine ⟨_, rfl, _, rfl, _, rfl, pw, _, rfl, .inl (.inl hw7), fun p1 hp1 => ?_⟩
        rw [cut_to, ← List.map_take]
        have u1 := Same.upd_new (o := .lst ((ws.take c).map V.str)) hp1
        have hA := upd_same (H := H7) (a := p1) (o := HO.lst ((ws.take c).map V.str))
        have DA := D7.same u1
        have hoA := u1 _ _ ho7
        have hwA := u1 _ _ hw7
        have p1d := D7.nd hp1
        have p1l := D7.nl hp1
        generalize upd H7 p1 (.lst ((ws.take c).map V.str)) = HA at hA DA hoA hwA ⊢
        refine ⟨_, rfl, _, rfl, d, l, po, oddT.map V.str, rfl, DA, hoA, pod, pol, by decide, by decide, fun ov HB hov DB kpB => ?_⟩
        obtain ⟨o, ho, rfl⟩ := List.mem_map.mp hov
        have hoB := kpB _ _ hoA pod pol
        have hwB := kpB _ _ hwA pwd pwl
        have hAB := kpB _ _ hA p1d p1l
        refine ⟨(by show 1 ≤ sizeLine; decide), fun p0 hp0 => ?_⟩
        have u2 := Same.upd_new (o := .lst [V.str o]) hp0
        refine ⟨p1, p0, _, [o].map V.str, rfl, rfl, u2 _ _ hAB, upd_same, ?_, fun p2 hp2 => ?_⟩
        · rw [List.length_map, List.length_map, List.length_take]
          exact len1000 (by show _ + 1 ≤ _; omega)
        rw [← List.map_append]
        have u3 := u2.trans (Same.upd_new (o := .lst ((ws.take c ++ [o]).map V.str)) hp2)
        refine ⟨_, rfl, _, rfl, _, rfl, rfl, .inr ⟨_, rfl, _, _, rfl, rfl, _, rfl, pw, _, rfl, .inl (.inl (u3 _ _ hwB)), fun p3 hp3 => ?_⟩⟩
        have hx : ∃ e : Nat, (if decide (V.int r7 = V.int 1) = true then (1 : Int) else 0) = (e : Nat) := by
          split
          · exact ⟨1, rfl⟩
          · exact ⟨0, rfl⟩
        obtain ⟨e, he⟩ := hx
        rw [he, show (c : Int) + (e : Nat) = ((c + e : Nat) : Int) by omega, cut_from, ← List.map_drop]
        have u4 := u3.trans (Same.upd_new (o := .lst ((ws.drop (c + e)).map V.str)) hp3)
        have hX2 := (Same.upd_new (o := .lst ((ws.drop (c + e)).map V.str)) hp3) _ _ (upd_same (H := upd HB p0 (.lst [V.str o])) (a := p2) (o := HO.lst ((ws.take c ++ [o]).map V.str)))
        refine ⟨p2, p3, _, _, rfl, rfl, hX2, upd_same, ?_, fun p4 hp4 => ?_⟩
        · rw [List.length_map, List.length_map, List.length_append, List.length_take, List.length_drop]
          exact len1000 (by show _ + 1 + _ ≤ _; omega)
        rw [← List.map_append]
        have uX := u4.trans (Same.upd_new (o := .lst ((ws.take c ++ [o] ++ ws.drop (c + e)).map V.str)) hp4)
        have hl8 : (ws.take c ++ [o] ++ ws.drop (c + e)).length ≤ 20 := by rw [List.length_append, List.length_append, List.length_take, List.length_drop, List.length_singleton]; omega
        have hg8 : ∀ z ∈ ws.take c ++ [o] ++ ws.drop (c + e), z ∈ goodT := fun z hz => by
          rcases List.mem_append.mp hz with hz | hz
          · rcases List.mem_append.mp hz with hz | hz
            · exact hg z (List.mem_of_mem_take hz)
            · rw [List.mem_singleton.mp hz]
              exact List.mem_append_right _ ho
          · exact hg z (List.mem_of_mem_drop hz)
        have hw8 := upd_same (H := upd (upd (upd HB p0 (.lst [V.str o])) p2 (.lst ((ws.take c ++ [o]).map V.str))) p3 (.lst ((ws.drop (c + e)).map V.str))) (a := p4) (o := HO.lst ((ws.take c ++ [o] ++ ws.drop (c + e)).map V.str))
        have D8 := DB.same uX
        have ho8 := uX _ _ hoB
        generalize upd (upd (upd (upd HB p0 (.lst [V.str o])) p2 (.lst ((ws.take c ++ [o]).map V.str))) p3 (.lst ((ws.drop (c + e)).map V.str))) p4 (.lst ((ws.take c ++ [o] ++ ws.drop (c + e)).map V.str)) = H8 at hw8 D8 ho8 ⊢
        generalize ws.take c ++ [o] ++ ws.drop (c + e) = ws8 at hw8 hl8 hg8 ⊢
        obtain ⟨lok, lso, vs, ev, vl, vne, vok⟩ := line_ok (ws := ws8) hl8 hg8
        have lsum := sum_leG (c := 10) (l := ws8) fun z hz => (good_w z (hg8 z hz)).1
        refine ⟨⟨_, rfl⟩, _, rfl, _, p4, ws8, rfl, rfl, .inl (.inl (.inl hw8)), ?_, ?_⟩
        · rw [show (Str.ofString " ").length = 1 by decide +kernel]
          have := hl8
          omega
        rw [show Txt.join (Str.ofString " ") (ws8) = txtW (ws8) from rfl]
        generalize txtW (ws8) = z at lok lso ev ⊢
        have DD := D8
        have HO := ho8
        generalize H8 = HX at DD HO ⊢
        refine ⟨_, rfl, ⟨_, rfl⟩, z, Str.ofString " ", rfl, rfl, by decide +kernel, big_okG (by have := lok.len; omega), fun pl hpl => ?_⟩
        rw [show Txt.split z (Str.ofString " ") = vs from ev]
        have t1 := Same.upd_new (o := .lst (vs.map V.str)) hpl
        refine ⟨pl, vs, rfl, .inl (.inl upd_same), by omega, fun y hy => ⟨Nat.le_trans (vok y hy).1 (by decide), (vok y hy).2⟩, fun HY t2 => ?_⟩
        have t12 := t1.trans t2
        refine ⟨_, rfl, z, rfl, lok, fun HZ t3 => ?_⟩
        have t13 := t12.trans t3
        have hv : heardV z = (match dueW 0 1 vs with | none => .str z | some n => .int (n : Nat)) := by
          unfold heardV
          rw [ev]
          try (cases dueW 0 1 vs <;> rfl)
        rw [hv]
        cases ed : dueW 0 1 vs with
        | none =>
          refine ⟨_, rfl, .inr ⟨z, rfl, lok.len, lso⟩, ?_⟩
          refine ⟨_, rfl, rfl, _, rfl, iteTh rfl ?_⟩
          refine ⟨_, rfl, _, rfl, .inr ⟨z, rfl, lok.len, lso⟩, ?_⟩
          refine ⟨rfl, _, rfl, iteFh (by simp) ?_⟩
          exact ⟨_, _, _, _, _, _, rfl, DD.same t13, t13 _ _ HO⟩
        | some nb =>
          have nbl : nb ≤ 40 := due_le ed vl
          have nlog : (nb : Int).natAbs.log2 < 1920 := by
            have : (nb : Int).natAbs = nb := by omega
            rw [this]
            have q : ∀ x, x ≤ 40 → x.log2 < 1920 := by decide +kernel
            exact q nb nbl
          refine ⟨_, rfl, .inl ⟨(nb : Int), rfl, nlog⟩, ?_⟩
          refine ⟨_, rfl, rfl, _, rfl, iteFh rfl ?_⟩
          refine ⟨_, rfl, _, rfl, .inl ⟨(nb : Int), rfl, nlog⟩, ?_⟩
          refine ⟨rfl, _, rfl, iteFh (by simp [dueV]) ?_⟩
          exact ⟨_, _, _, _, _, _, rfl, DD.same t13, t13 _ _ HO⟩
      · obtain ⟨lok, lso, vs, ev, vl, vne, vok⟩ := line_ok (ws := ws) (show ws.length ≤ 20 by omega) hg
        have lsum := sum_leG (c := 10) (l := ws) fun z hz => (good_w z (hg z hz)).1
        refine ⟨⟨_, rfl⟩, _, rfl, _, pw, ws, rfl, rfl, .inl (.inl (.inl hw7)), ?_, ?_⟩
        · rw [show (Str.ofString " ").length = 1 by decide +kernel]
          have := (show ws.length ≤ 20 by omega)
          omega
        rw [show Txt.join (Str.ofString " ") (ws) = txtW (ws) from rfl]
        generalize txtW (ws) = z at lok lso ev ⊢
        have DD := D7
        have HO := ho7
        generalize H7 = HX at DD HO ⊢
        refine ⟨_, rfl, ⟨_, rfl⟩, z, Str.ofString " ", rfl, rfl, by decide +kernel, big_okG (by have := lok.len; omega), fun pl hpl => ?_⟩
        rw [show Txt.split z (Str.ofString " ") = vs from ev]
        have t1 := Same.upd_new (o := .lst (vs.map V.str)) hpl
        refine ⟨pl, vs, rfl, .inl (.inl upd_same), by omega, fun y hy => ⟨Nat.le_trans (vok y hy).1 (by decide), (vok y hy).2⟩, fun HY t2 => ?_⟩
        have t12 := t1.trans t2
        refine ⟨_, rfl, z, rfl, lok, fun HZ t3 => ?_⟩
        have t13 := t12.trans t3
        have hv : heardV z = (match dueW 0 1 vs with | none => .str z | some n => .int (n : Nat)) := by
          unfold heardV
          rw [ev]
          try (cases dueW 0 1 vs <;> rfl)
        rw [hv]
        cases ed : dueW 0 1 vs with
        | none =>
          refine ⟨_, rfl, .inr ⟨z, rfl, lok.len, lso⟩, ?_⟩
          refine ⟨_, rfl, rfl, _, rfl, iteTh rfl ?_⟩
          refine ⟨_, rfl, _, rfl, .inr ⟨z, rfl, lok.len, lso⟩, ?_⟩
          refine ⟨rfl, _, rfl, iteFh (by simp) ?_⟩
          exact ⟨_, _, _, _, _, _, rfl, DD.same t13, t13 _ _ HO⟩
        | some nb =>
          have nbl : nb ≤ 40 := due_le ed vl
          have nlog : (nb : Int).natAbs.log2 < 1920 := by
            have : (nb : Int).natAbs = nb := by omega
            rw [this]
            have q : ∀ x, x ≤ 40 → x.log2 < 1920 := by decide +kernel
            exact q nb nbl
          refine ⟨_, rfl, .inl ⟨(nb : Int), rfl, nlog⟩, ?_⟩
          refine ⟨_, rfl, rfl, _, rfl, iteFh rfl ?_⟩
          refine ⟨_, rfl, _, rfl, .inl ⟨(nb : Int), rfl, nlog⟩, ?_⟩
          refine ⟨rfl, _, rfl, iteFh (by simp [dueV]) ?_⟩
          exact ⟨_, _, _, _, _, _, rfl, DD.same t13, t13 _ _ HO⟩
    · rintro σ H1 ⟨v3, v4, v5, v6, v7, v8, rfl, D1, ho1⟩
      clear D1 ho1
      refine ⟨_, rfl, e1.1, fun Ha sa1 => ?_⟩
      rw [e1.2]
      refine ⟨_, rfl, e2.1, fun Hb sb1 => ?_⟩
      rw [e2.2]
      refine ⟨_, rfl, e3.1, fun Hc sc1 => ?_⟩
      rw [e3.2]
      refine ⟨_, rfl, e4.1, fun Hd sd1 => ?_⟩
      rw [e4.2]
      refine ⟨(by show 4 ≤ sizeLine; decide), fun p1 hp1 => ⟨(by show 4 ≤ sizeLine; decide), fun p2 hp2 => ?_⟩⟩
      have sh : SeqAt.shaped (.list (([0, 2, 1, 1] : List Int).map PyData.int)) = true := by decide +kernel
      refine ⟨_, _, .lst (.inl (.inl ((Same.upd_new hp2) _ _ upd_same))) (dp_ints [0, 2, 1, 1]), .lst (.inl (.inl upd_same)) (dp_ints [0, 2, 1, 1]), sh, sh, ?_⟩
      rw [SeqAt.eqv_refl _ (SeqAt.canLay_of_shaped sh)]
      exact k _
end
end L2.Wk
namespace L2.Wk
open PySem PySem.Spec PyProof.Rows
/-- an error of the class at S is what «except S» names -/
theorem exm_self {K : PySem.W.Frag} {S : Addr} (h1 : PySem.W.subIn K (.ref S) (.type "BaseException") = some true) (h2 : PySem.W.isClsIn K S = true) (h3 : PySem.W.typeIn K (.ref S) = some (.type "type")) (h4 : PySem.W.subIn K (.ref S) (.ref S) = some true) :
    PySem.W.exmOne K (.ref S) (.ref S) = some true := by
  have e1 : (PySem.W.subIn K (.ref S) (.type "BaseException") == some true) = true := by rw [h1] <;> rfl
  have e2 : ((PySem.W.clsIn K S).isSome && PySem.W.typeIn K (.ref S) == some (.type "type")) = true := by
    have h2' : (PySem.W.clsIn K S).isSome = true := h2
    rw [h2', h3] <;> rfl
  show (if (PySem.W.subIn K (.ref S) (.type "BaseException") == some true) = true then (if ((PySem.W.clsIn K S).isSome && PySem.W.typeIn K (.ref S) == some (.type "type")) = true then PySem.W.subIn K (.ref S) (.ref S) else none) else none) = some true
  rw [if_pos e1, if_pos e2]
  exact h4
theorem sig_val {K : PySem.W.Frag} {d : Addr} {t0 t1 t2 t3 : Tok} (h0 : PySem.W.nsIn K d "&" = some (some (.int 2 t0))) (h1 : PySem.W.nsIn K d "|" = some (some (.int 2 t1))) (h2 : PySem.W.nsIn K d "^" = some (some (.int 2 t2))) (h3 : PySem.W.nsIn K d "~" = some (some (.int 1 t3))) :
    ∀ z ∈ signsV, ∃ u, PySem.W.nsIn K d z = some (some u) ∧ RelV (.int (arityW z : Nat)) u := by
  intro z hz
  simp only [signsV, txts, List.map_cons, List.map_nil, List.mem_cons, List.not_mem_nil, or_false] at hz
  rcases hz with rfl | rfl | rfl | rfl
  · exact ⟨_, h0, by rw [show arityW (Str.ofString "&") = 2 by decide +kernel]; exact ⟨_, rfl⟩⟩
  · exact ⟨_, h1, by rw [show arityW (Str.ofString "|") = 2 by decide +kernel]; exact ⟨_, rfl⟩⟩
  · exact ⟨_, h2, by rw [show arityW (Str.ofString "^") = 2 by decide +kernel]; exact ⟨_, rfl⟩⟩
  · exact ⟨_, h3, by rw [show arityW (Str.ofString "~") = 1 by decide +kernel]; exact ⟨_, rfl⟩⟩
theorem all_mk {P : Program} {w : World} {K : PySem.W.Frag} {h : Heap} {mg : Str → Option Value} {fa : Addr} (X : K.In h) (G : h.Ns mainGlobals mg) (hfa : mg "law" = some (.ref fa))
    {r_RESERVED : Addr} {rd_RESERVED : Option Addr} {ri_RESERVED : Array Value} {rn_RESERVED : Nat} {rs_RESERVED : Array (Option Value)}
    {t_LONGEST : Tok}
    {t_LETTERS : Tok}
    {f_is_name : Addr} {od_is_name an_is_name : Option Addr} {sl_is_name : Array (Option Value)} {oc_is_name kV_is_name dc_is_name pm_is_name cd_is_name ct_is_name : Value}
    {f_ascending : Addr} {od_ascending an_ascending : Option Addr} {sl_ascending : Array (Option Value)} {oc_ascending kV_ascending dc_ascending pm_ascending cd_ascending ct_ascending : Value}
    {r_CONSTANTS : Addr} {rd_CONSTANTS : Option Addr} {ri_CONSTANTS : Array Value} {rn_CONSTANTS : Nat} {rs_CONSTANTS : Array (Option Value)}
    {r_SIGNS : Addr} {es_SIGNS : Array DictEntry} {nn_SIGNS : Nat} {kt_SIGNS_0 kt_SIGNS_1 kt_SIGNS_2 kt_SIGNS_3 : Tok}
    {tv_0 tv_1 tv_2 tv_3 : Tok}
    {C_Formula : Addr}
    {f_finit : Addr} {od_finit an_finit : Option Addr} {sl_finit : Array (Option Value)} {oc_finit kV_finit dc_finit pm_finit cd_finit ct_finit : Value}
    {f_Formula_str : Addr} {od_Formula_str an_Formula_str : Option Addr} {sl_Formula_str : Array (Option Value)} {oc_Formula_str kV_Formula_str dc_Formula_str pm_Formula_str cd_Formula_str ct_Formula_str : Value}
    {p_read : Addr} {rest_read : List Value}
    {f_read : Addr} {od_read an_read : Option Addr} {sl_read : Array (Option Value)} {oc_read kV_read dc_read pm_read cd_read ct_read : Value}
    {C_InvalidText f_InvalidText : Addr} {nm_InvalidText q_InvalidText : Str} {N_InvalidText : Addr} {bs_InvalidText : List Value} {sn_InvalidText : List Str} {sub_InvalidText : List Value} {ab_InvalidText : Bool} {col_InvalidText : Option Bool} {dd_InvalidText : Option Addr} {m0_InvalidText m1_InvalidText m2_InvalidText m3_InvalidText m5_InvalidText : Option Value} {B0_InvalidText : Addr} {od_InvalidText an_InvalidText : Option Addr} {sl_InvalidText : Array (Option Value)} {oc_InvalidText dc_InvalidText pm_InvalidText cd_InvalidText ct_InvalidText : Value}
    {f_text : Addr} {od_text an_text : Option Addr} {sl_text : Array (Option Value)} {oc_text kV_text dc_text pm_text cd_text ct_text : Value}
    {f_each_once : Addr} {od_each_once an_each_once : Option Addr} {sl_each_once : Array (Option Value)} {oc_each_once kV_each_once dc_each_once pm_each_once cd_each_once ct_each_once : Value}
    {f_check_words : Addr} {od_check_words an_check_words : Option Addr} {sl_check_words : Array (Option Value)} {oc_check_words kV_check_words dc_check_words pm_check_words cd_check_words ct_check_words : Value}
    {f_steps_of_words : Addr} {od_steps_of_words an_steps_of_words : Option Addr} {sl_steps_of_words : Array (Option Value)} {oc_steps_of_words kV_steps_of_words dc_steps_of_words pm_steps_of_words cd_steps_of_words ct_steps_of_words : Value}
    {f_law_source : Addr} {od_law_source an_law_source : Option Addr} {sl_law_source : Array (Option Value)} {oc_law_source kV_law_source dc_law_source pm_law_source cd_law_source ct_law_source : Value}
    {f_law_draw : Addr} {od_law_draw an_law_draw : Option Addr} {sl_law_draw : Array (Option Value)} {oc_law_draw kV_law_draw dc_law_draw pm_law_draw cd_law_draw ct_law_draw : Value}
    {f_law_pick : Addr} {od_law_pick an_law_pick : Option Addr} {sl_law_pick : Array (Option Value)} {oc_law_pick kV_law_pick dc_law_pick pm_law_pick cd_law_pick ct_law_pick : Value}
    {f_law_shuffled : Addr} {od_law_shuffled an_law_shuffled : Option Addr} {sl_law_shuffled : Array (Option Value)} {oc_law_shuffled kV_law_shuffled dc_law_shuffled pm_law_shuffled cd_law_shuffled ct_law_shuffled : Value}
    {f_law_words : Addr} {od_law_words an_law_words : Option Addr} {sl_law_words : Array (Option Value)} {oc_law_words kV_law_words dc_law_words pm_law_words cd_law_words ct_law_words : Value}
    {f_law_tree : Addr} {od_law_tree an_law_tree : Option Addr} {sl_law_tree : Array (Option Value)} {oc_law_tree kV_law_tree dc_law_tree pm_law_tree cd_law_tree ct_law_tree : Value}
    {f_law_tokens : Addr} {od_law_tokens an_law_tokens : Option Addr} {sl_law_tokens : Array (Option Value)} {oc_law_tokens kV_law_tokens dc_law_tokens pm_law_tokens cd_law_tokens ct_law_tokens : Value}
    {f_law_due : Addr} {od_law_due an_law_due : Option Addr} {sl_law_due : Array (Option Value)} {oc_law_due kV_law_due dc_law_due pm_law_due cd_law_due ct_law_due : Value}
    {f_law_heard : Addr} {od_law_heard an_law_heard : Option Addr} {sl_law_heard : Array (Option Value)} {oc_law_heard kV_law_heard dc_law_heard pm_law_heard cd_law_heard ct_law_heard : Value}
    {f_law : Addr} {od_law an_law : Option Addr} {sl_law : Array (Option Value)} {oc_law kV_law dc_law pm_law cd_law ct_law : Value}
    {C_WakeError C_InvalidFormula : Addr}
    (n_RESERVED : PySem.W.nsIn K mainGlobals "RESERVED" = some (some (.ref r_RESERVED)))
    (l_RESERVED : K.lookup r_RESERVED = some ⟨.type "tuple", rd_RESERVED, .seq ri_RESERVED rn_RESERVED, rs_RESERVED⟩)
    (v_RESERVED : Vals ((resV).map V.str) ri_RESERVED.toList)
    (z_RESERVED : ri_RESERVED.size ≤ sizeLine)
    (n_LONGEST : PySem.W.nsIn K mainGlobals "LONGEST" = some (some (.int 4 t_LONGEST)))
    (n_LETTERS : PySem.W.nsIn K mainGlobals "LETTERS" = some (some (.str lettersS t_LETTERS)))
    (a_is_name : PySem.W.nsIn K mainGlobals "is_name" = some (some (.ref f_is_name)))
    (l_is_name : K.lookup f_is_name = some ⟨oc_is_name, od_is_name, .func (PySem.W.fnOf "is_name" "is_name" (defArgs s_is_name) (defBody s_is_name) (defScope s_is_name) .none kV_is_name dc_is_name pm_is_name an_is_name cd_is_name ct_is_name), sl_is_name⟩)
    (c_is_name : PySem.W.codeIn K cd_is_name "is_name" = true)
    (k_is_name : PySem.W.keepIn K (.ref f_is_name) = true)
    (a_ascending : PySem.W.nsIn K mainGlobals "ascending" = some (some (.ref f_ascending)))
    (l_ascending : K.lookup f_ascending = some ⟨oc_ascending, od_ascending, .func (PySem.W.fnOf "ascending" "ascending" (defArgs s_ascending) (defBody s_ascending) (defScope s_ascending) .none kV_ascending dc_ascending pm_ascending an_ascending cd_ascending ct_ascending), sl_ascending⟩)
    (c_ascending : PySem.W.codeIn K cd_ascending "ascending" = true)
    (k_ascending : PySem.W.keepIn K (.ref f_ascending) = true)
    (b_isinstance : PySem.W.nsIn K mainGlobals "isinstance" = some none)
    (b_str : PySem.W.nsIn K mainGlobals "str" = some none)
    (b_len : PySem.W.nsIn K mainGlobals "len" = some none)
    (b_all : PySem.W.nsIn K mainGlobals "all" = some none)
    (b_tuple : PySem.W.nsIn K mainGlobals "tuple" = some none)
    (b_set : PySem.W.nsIn K mainGlobals "set" = some none)
    (b_sorted : PySem.W.nsIn K mainGlobals "sorted" = some none)
    (n_CONSTANTS : PySem.W.nsIn K mainGlobals "CONSTANTS" = some (some (.ref r_CONSTANTS)))
    (l_CONSTANTS : K.lookup r_CONSTANTS = some ⟨.type "tuple", rd_CONSTANTS, .seq ri_CONSTANTS rn_CONSTANTS, rs_CONSTANTS⟩)
    (v_CONSTANTS : Vals ((constV).map V.str) ri_CONSTANTS.toList)
    (z_CONSTANTS : ri_CONSTANTS.size ≤ sizeLine)
    (n_SIGNS : PySem.W.nsIn K mainGlobals "SIGNS" = some (some (.ref r_SIGNS)))
    (l_SIGNS : K.lookup r_SIGNS = some ⟨.type "dict", none, .dict es_SIGNS nn_SIGNS, #[]⟩)
    (kl_SIGNS : PySem.W.KeysLit w.params es_SIGNS.toList)
    (ks_SIGNS : es_SIGNS.toList.map (·.key) = ([("&", kt_SIGNS_0), ("|", kt_SIGNS_1), ("^", kt_SIGNS_2), ("~", kt_SIGNS_3)] : List (Str × Tok)).map fun p => Value.str p.1 p.2)
    (lo_SIGNS : (r_SIGNS == sysModules) = false)
    (v_SIGNS_0 : PySem.W.nsIn K r_SIGNS "&" = some (some (.int 2 tv_0)))
    (v_SIGNS_1 : PySem.W.nsIn K r_SIGNS "|" = some (some (.int 2 tv_1)))
    (v_SIGNS_2 : PySem.W.nsIn K r_SIGNS "^" = some (some (.int 2 tv_2)))
    (v_SIGNS_3 : PySem.W.nsIn K r_SIGNS "~" = some (some (.int 1 tv_3)))
    (n_Formula : PySem.W.nsIn K mainGlobals "Formula" = some (some (.ref C_Formula)))
    (pg_Formula : PySem.W.plainGet K C_Formula Str.empty = true)
    (hd_Formula : PySem.W.hasDictIn K C_Formula = true)
    (po_Formula : PySem.W.plainOver K C_Formula = true)
    (sa_Formula : PySem.W.findIn K (.ref C_Formula) "__setattr__" = some (some (.builtin "object.__setattr__")))
    (mk_Formula : PySem.W.makesIn K C_Formula = true)
    (kc_Formula : PySem.W.keepIn K (.ref C_Formula) = true)
    (no_Formula_steps : PySem.W.findIn K (.ref C_Formula) "steps" = some none)
    (no_Formula_names : PySem.W.findIn K (.ref C_Formula) "names" = some none)
    (a_finit : PySem.W.findIn K (.ref C_Formula) "__init__" = some (some (.ref f_finit)))
    (i_finit : PySem.W.isFn K (.ref f_finit) = true)
    (l_finit : K.lookup f_finit = some ⟨oc_finit, od_finit, .func (PySem.W.fnOf "__init__" "Formula.__init__" (defArgs s_Formula_init) (defBody s_Formula_init) (defScope s_Formula_init) .none kV_finit dc_finit pm_finit an_finit cd_finit ct_finit), sl_finit⟩)
    (c_finit : PySem.W.codeIn K cd_finit "Formula.__init__" = true)
    (k_finit : PySem.W.keepIn K (.ref f_finit) = true)
    (a_Formula_str : PySem.W.findIn K (.ref C_Formula) "__str__" = some (some (.ref f_Formula_str)))
    (i_Formula_str : PySem.W.isFn K (.ref f_Formula_str) = true)
    (l_Formula_str : K.lookup f_Formula_str = some ⟨oc_Formula_str, od_Formula_str, .func (PySem.W.fnOf "__str__" "Formula.__str__" (defArgs s_Formula_str) (defBody s_Formula_str) (defScope s_Formula_str) .none kV_Formula_str dc_Formula_str pm_Formula_str an_Formula_str cd_Formula_str ct_Formula_str), sl_Formula_str⟩)
    (c_Formula_str : PySem.W.codeIn K cd_Formula_str "Formula.__str__" = true)
    (k_Formula_str : PySem.W.keepIn K (.ref f_Formula_str) = true)
    (at_read : PySem.W.findCls K (.ref C_Formula) (.type "type") "read" = some (.get (.builtin "classmethod.__get__") (.ref p_read) .none (.ref C_Formula)))
    (rc_read : PySem.W.recIn K p_read "classmethod" = some (.ref f_read :: rest_read))
    (l_read : K.lookup f_read = some ⟨oc_read, od_read, .func (PySem.W.fnOf "read" "Formula.read" (defArgs s_Formula_read) (defBody s_Formula_read) (defScope s_Formula_read) .none kV_read dc_read pm_read an_read cd_read ct_read), sl_read⟩)
    (c_read : PySem.W.codeIn K cd_read "Formula.read" = true)
    (k_read : PySem.W.keepIn K (.ref f_read) = true)
    (rd_Formula : PySem.W.readsIn K C_Formula (.type "type") = true)
    (rg_Formula : PySem.W.specialIn K (.ref C_Formula) "__getattribute__" = some (some (.builtin "type.__getattribute__")))
    (fi_read : PySem.W.fnIn K f_read = true)
    (n_InvalidText : PySem.W.nsIn K mainGlobals "InvalidText" = some (some (.ref C_InvalidText)))
    (x_InvalidText : K.lookup C_InvalidText = some (excClassObj nm_InvalidText q_InvalidText C_InvalidText N_InvalidText bs_InvalidText [.ref B0_InvalidText, .type "ValueError", .type "Exception", .type "BaseException", .type "object"] true sn_InvalidText sub_InvalidText ab_InvalidText col_InvalidText dd_InvalidText m0_InvalidText m1_InvalidText m2_InvalidText m3_InvalidText m5_InvalidText "ValueError.__new__"))
    (sa_InvalidText : PySem.W.findIn K (.ref C_InvalidText) "__setattr__" = some (some (.builtin "object.__setattr__")))
    (ga_InvalidText : PySem.W.findIn K (.ref C_InvalidText) "__getattribute__" = some (some (.builtin "BaseException.__getattribute__")))
    (gg_InvalidText : PySem.W.findIn K (.ref C_InvalidText) "__getattr__" = some none)
    (nb_InvalidText : PySem.W.findIn K (.ref C_InvalidText) "at" = some none)
    (a1_InvalidText : PySem.W.findIn K (.ref C_InvalidText) "__init__" = some (some (.ref f_InvalidText)))
    (t1_InvalidText : PySem.W.typeIn K (.ref f_InvalidText) = some (.type "function"))
    (l1_InvalidText : K.lookup f_InvalidText = some ⟨oc_InvalidText, od_InvalidText, .func (PySem.W.fnOf "__init__" "InvalidText.__init__" (PySem.LowX_InvalidText.iA ⟨13, 17, 13, 21⟩ ⟨13, 23, 13, 25⟩) (PySem.LowX_InvalidText.iB ⟨14, 8, 14, 12⟩ ⟨14, 8, 14, 15⟩ ⟨14, 18, 14, 20⟩ ⟨14, 8, 14, 20⟩) PySem.LowX_InvalidText.iS .none .none dc_InvalidText pm_InvalidText an_InvalidText cd_InvalidText ct_InvalidText), sl_InvalidText⟩)
    (c1_InvalidText : PySem.W.codeIn K cd_InvalidText "InvalidText.__init__" = true)
    (kC_InvalidText : PySem.W.keepIn K (.ref C_InvalidText) = true)
    (eC_InvalidText : PySem.W.subIn K (.ref C_InvalidText) (.type "BaseException") = some true)
    (tC_InvalidText : PySem.W.typeIn K (.ref C_InvalidText) = some (.type "type"))
    (hC_InvalidText : PySem.W.hasDictIn K C_InvalidText = true)
    (iC_InvalidText : PySem.W.isClsIn K C_InvalidText = true)
    (sC_InvalidText : PySem.W.subIn K (.ref C_InvalidText) (.ref C_InvalidText) = some true)
    (ca_F : PySem.W.findIn K (.ref C_Formula) "__class__" = some (some (.builtin "object.__class__")))
    (cm_F : PySem.W.mroIn K C_Formula (.type "object") = some true)
    (cn_F : PySem.W.specialIn K (.builtin "object.__class__") "__get__" = some (some (.builtin "getset_descriptor.__get__")))
    (ct_F : PySem.W.takesIn K (.builtin "object.__class__") = some true)
    (ca_InvalidText : PySem.W.findIn K (.ref C_InvalidText) "__class__" = some (some (.builtin "object.__class__")))
    (cm_InvalidText : PySem.W.mroIn K C_InvalidText (.type "object") = some true)
    (a_text : PySem.W.nsIn K mainGlobals "_text" = some (some (.ref f_text)))
    (l_text : K.lookup f_text = some ⟨oc_text, od_text, .func (PySem.W.fnOf "_text" "_text" (defArgs s_text) (defBody s_text) (defScope s_text) .none kV_text dc_text pm_text an_text cd_text ct_text), sl_text⟩)
    (c_text : PySem.W.codeIn K cd_text "_text" = true)
    (k_text : PySem.W.keepIn K (.ref f_text) = true)
    (a_each_once : PySem.W.nsIn K mainGlobals "_each_once" = some (some (.ref f_each_once)))
    (l_each_once : K.lookup f_each_once = some ⟨oc_each_once, od_each_once, .func (PySem.W.fnOf "_each_once" "_each_once" (defArgs s_each_once) (defBody s_each_once) (defScope s_each_once) .none kV_each_once dc_each_once pm_each_once an_each_once cd_each_once ct_each_once), sl_each_once⟩)
    (c_each_once : PySem.W.codeIn K cd_each_once "_each_once" = true)
    (k_each_once : PySem.W.keepIn K (.ref f_each_once) = true)
    (a_check_words : PySem.W.nsIn K mainGlobals "_check_words" = some (some (.ref f_check_words)))
    (l_check_words : K.lookup f_check_words = some ⟨oc_check_words, od_check_words, .func (PySem.W.fnOf "_check_words" "_check_words" (defArgs s_check_words) (defBody s_check_words) (defScope s_check_words) .none kV_check_words dc_check_words pm_check_words an_check_words cd_check_words ct_check_words), sl_check_words⟩)
    (c_check_words : PySem.W.codeIn K cd_check_words "_check_words" = true)
    (k_check_words : PySem.W.keepIn K (.ref f_check_words) = true)
    (a_steps_of_words : PySem.W.nsIn K mainGlobals "_steps_of_words" = some (some (.ref f_steps_of_words)))
    (l_steps_of_words : K.lookup f_steps_of_words = some ⟨oc_steps_of_words, od_steps_of_words, .func (PySem.W.fnOf "_steps_of_words" "_steps_of_words" (defArgs s_steps_of_words) (defBody s_steps_of_words) (defScope s_steps_of_words) .none kV_steps_of_words dc_steps_of_words pm_steps_of_words an_steps_of_words cd_steps_of_words ct_steps_of_words), sl_steps_of_words⟩)
    (c_steps_of_words : PySem.W.codeIn K cd_steps_of_words "_steps_of_words" = true)
    (k_steps_of_words : PySem.W.keepIn K (.ref f_steps_of_words) = true)
    (a_law_source : PySem.W.nsIn K mainGlobals "_law_source" = some (some (.ref f_law_source)))
    (l_law_source : K.lookup f_law_source = some ⟨oc_law_source, od_law_source, .func (PySem.W.fnOf "_law_source" "_law_source" (defArgs s_law_source) (defBody s_law_source) (defScope s_law_source) .none kV_law_source dc_law_source pm_law_source an_law_source cd_law_source ct_law_source), sl_law_source⟩)
    (c_law_source : PySem.W.codeIn K cd_law_source "_law_source" = true)
    (k_law_source : PySem.W.keepIn K (.ref f_law_source) = true)
    (a_law_draw : PySem.W.nsIn K mainGlobals "_law_draw" = some (some (.ref f_law_draw)))
    (l_law_draw : K.lookup f_law_draw = some ⟨oc_law_draw, od_law_draw, .func (PySem.W.fnOf "_law_draw" "_law_draw" (defArgs s_law_draw) (defBody s_law_draw) (defScope s_law_draw) .none kV_law_draw dc_law_draw pm_law_draw an_law_draw cd_law_draw ct_law_draw), sl_law_draw⟩)
    (c_law_draw : PySem.W.codeIn K cd_law_draw "_law_draw" = true)
    (k_law_draw : PySem.W.keepIn K (.ref f_law_draw) = true)
    (a_law_pick : PySem.W.nsIn K mainGlobals "_law_pick" = some (some (.ref f_law_pick)))
    (l_law_pick : K.lookup f_law_pick = some ⟨oc_law_pick, od_law_pick, .func (PySem.W.fnOf "_law_pick" "_law_pick" (defArgs s_law_pick) (defBody s_law_pick) (defScope s_law_pick) .none kV_law_pick dc_law_pick pm_law_pick an_law_pick cd_law_pick ct_law_pick), sl_law_pick⟩)
    (c_law_pick : PySem.W.codeIn K cd_law_pick "_law_pick" = true)
    (k_law_pick : PySem.W.keepIn K (.ref f_law_pick) = true)
    (b_abs : PySem.W.nsIn K mainGlobals "abs" = some none)
    (b_int : PySem.W.nsIn K mainGlobals "int" = some none)
    (b_range : PySem.W.nsIn K mainGlobals "range" = some none)
    (b_list : PySem.W.nsIn K mainGlobals "list" = some none)
    (b_enumerate : PySem.W.nsIn K mainGlobals "enumerate" = some none)
    (b_repr : PySem.W.nsIn K mainGlobals "repr" = some none)
    (a_law_shuffled : PySem.W.nsIn K mainGlobals "_law_shuffled" = some (some (.ref f_law_shuffled)))
    (l_law_shuffled : K.lookup f_law_shuffled = some ⟨oc_law_shuffled, od_law_shuffled, .func (PySem.W.fnOf "_law_shuffled" "_law_shuffled" (defArgs s_law_shuffled) (defBody s_law_shuffled) (defScope s_law_shuffled) .none kV_law_shuffled dc_law_shuffled pm_law_shuffled an_law_shuffled cd_law_shuffled ct_law_shuffled), sl_law_shuffled⟩)
    (c_law_shuffled : PySem.W.codeIn K cd_law_shuffled "_law_shuffled" = true)
    (k_law_shuffled : PySem.W.keepIn K (.ref f_law_shuffled) = true)
    (a_law_words : PySem.W.nsIn K mainGlobals "_law_words" = some (some (.ref f_law_words)))
    (l_law_words : K.lookup f_law_words = some ⟨oc_law_words, od_law_words, .func (PySem.W.fnOf "_law_words" "_law_words" (defArgs s_law_words) (defBody s_law_words) (defScope s_law_words) .none kV_law_words dc_law_words pm_law_words an_law_words cd_law_words ct_law_words), sl_law_words⟩)
    (c_law_words : PySem.W.codeIn K cd_law_words "_law_words" = true)
    (k_law_words : PySem.W.keepIn K (.ref f_law_words) = true)
    (a_law_tree : PySem.W.nsIn K mainGlobals "_law_tree" = some (some (.ref f_law_tree)))
    (l_law_tree : K.lookup f_law_tree = some ⟨oc_law_tree, od_law_tree, .func (PySem.W.fnOf "_law_tree" "_law_tree" (defArgs s_law_tree) (defBody s_law_tree) (defScope s_law_tree) .none kV_law_tree dc_law_tree pm_law_tree an_law_tree cd_law_tree ct_law_tree), sl_law_tree⟩)
    (c_law_tree : PySem.W.codeIn K cd_law_tree "_law_tree" = true)
    (k_law_tree : PySem.W.keepIn K (.ref f_law_tree) = true)
    (a_law_tokens : PySem.W.nsIn K mainGlobals "_law_tokens" = some (some (.ref f_law_tokens)))
    (l_law_tokens : K.lookup f_law_tokens = some ⟨oc_law_tokens, od_law_tokens, .func (PySem.W.fnOf "_law_tokens" "_law_tokens" (defArgs s_law_tokens) (defBody s_law_tokens) (defScope s_law_tokens) .none kV_law_tokens dc_law_tokens pm_law_tokens an_law_tokens cd_law_tokens ct_law_tokens), sl_law_tokens⟩)
    (c_law_tokens : PySem.W.codeIn K cd_law_tokens "_law_tokens" = true)
    (k_law_tokens : PySem.W.keepIn K (.ref f_law_tokens) = true)
    (a_law_due : PySem.W.nsIn K mainGlobals "_law_due" = some (some (.ref f_law_due)))
    (l_law_due : K.lookup f_law_due = some ⟨oc_law_due, od_law_due, .func (PySem.W.fnOf "_law_due" "_law_due" (defArgs s_law_due) (defBody s_law_due) (defScope s_law_due) .none kV_law_due dc_law_due pm_law_due an_law_due cd_law_due ct_law_due), sl_law_due⟩)
    (c_law_due : PySem.W.codeIn K cd_law_due "_law_due" = true)
    (k_law_due : PySem.W.keepIn K (.ref f_law_due) = true)
    (a_law_heard : PySem.W.nsIn K mainGlobals "_law_heard" = some (some (.ref f_law_heard)))
    (l_law_heard : K.lookup f_law_heard = some ⟨oc_law_heard, od_law_heard, .func (PySem.W.fnOf "_law_heard" "_law_heard" (defArgs s_law_heard) (defBody s_law_heard) (defScope s_law_heard) .none kV_law_heard dc_law_heard pm_law_heard an_law_heard cd_law_heard ct_law_heard), sl_law_heard⟩)
    (c_law_heard : PySem.W.codeIn K cd_law_heard "_law_heard" = true)
    (k_law_heard : PySem.W.keepIn K (.ref f_law_heard) = true)
    (a_law : PySem.W.nsIn K mainGlobals "law" = some (some (.ref f_law)))
    (l_law : K.lookup f_law = some ⟨oc_law, od_law, .func (PySem.W.fnOf "law" "law" (defArgs s_law) (defBody s_law) (defScope s_law) .none kV_law dc_law pm_law an_law cd_law ct_law), sl_law⟩)
    (c_law : PySem.W.codeIn K cd_law "law" = true)
    (k_law : PySem.W.keepIn K (.ref f_law) = true)
    (n_WakeError : PySem.W.nsIn K mainGlobals "WakeError" = some (some (.ref C_WakeError)))
    (n_InvalidFormula : PySem.W.nsIn K mainGlobals "InvalidFormula" = some (some (.ref C_InvalidFormula)))
    (kit_TW : PySem.W.kitOne K (.ref C_InvalidText) (.ref C_WakeError) = some true)
    (kit_TF : PySem.W.kitOne K (.ref C_InvalidText) (.ref C_InvalidFormula) = some false) :
    ∃ fd : FuncData, (∀ (s : Shared) (v : Value), BindsTo s fd ⟨[v], []⟩ [("_law_script", v)]) ∧ ∀ base : Heap, K.In base → base.Ns mainGlobals mg → FnOk P w K mg base CX0 9 fa fd ["_law_script"] (spLaw K) := by
  have e := hfa.symm.trans (PySem.W.mg_of X G a_law)
  cases e
  have low_InvalidText : PySem.LowX_InvalidText.LowTxt_InvalidText K mg C_InvalidText f_InvalidText :=
    { gC := PySem.W.mg_of X G n_InvalidText, cls := ⟨nm_InvalidText, q_InvalidText, N_InvalidText, bs_InvalidText, _, sn_InvalidText, sub_InvalidText, ab_InvalidText, col_InvalidText, dd_InvalidText, m0_InvalidText, m1_InvalidText, m2_InvalidText, m3_InvalidText, m5_InvalidText, x_InvalidText, by rfl⟩, sa := sa_InvalidText, ga := ga_InvalidText, gg := gg_InvalidText, noN := nb_InvalidText, iC := a1_InvalidText, tC := t1_InvalidText, kC := kC_InvalidText, exC := eC_InvalidText, tyC := tC_InvalidText, hdC := hC_InvalidText, te := exm_self eC_InvalidText iC_InvalidText tC_InvalidText sC_InvalidText,
      fn := ⟨_, _, _, _, _, _, _, _, _, _, _, _, _, _, l1_InvalidText, c1_InvalidText⟩ }
  have F_is_name := fun_mk (st := s_is_name) l_is_name c_is_name k_is_name
  have F_ascending := fun_mk (st := s_ascending) l_ascending c_ascending k_ascending
  have F_finit := fun_mk (st := s_Formula_init) l_finit c_finit k_finit
  have F_Formula_str := fun_mk (st := s_Formula_str) l_Formula_str c_Formula_str k_Formula_str
  have F_read := fun_mk (st := s_Formula_read) l_read c_read k_read
  have F_text := fun_mk (st := s_text) l_text c_text k_text
  have F_each_once := fun_mk (st := s_each_once) l_each_once c_each_once k_each_once
  have F_check_words := fun_mk (st := s_check_words) l_check_words c_check_words k_check_words
  have F_steps_of_words := fun_mk (st := s_steps_of_words) l_steps_of_words c_steps_of_words k_steps_of_words
  have F_law_source := fun_mk (st := s_law_source) l_law_source c_law_source k_law_source
  have F_law_draw := fun_mk (st := s_law_draw) l_law_draw c_law_draw k_law_draw
  have F_law_pick := fun_mk (st := s_law_pick) l_law_pick c_law_pick k_law_pick
  have F_law_shuffled := fun_mk (st := s_law_shuffled) l_law_shuffled c_law_shuffled k_law_shuffled
  have F_law_words := fun_mk (st := s_law_words) l_law_words c_law_words k_law_words
  have F_law_tree := fun_mk (st := s_law_tree) l_law_tree c_law_tree k_law_tree
  have F_law_tokens := fun_mk (st := s_law_tokens) l_law_tokens c_law_tokens k_law_tokens
  have F_law_due := fun_mk (st := s_law_due) l_law_due c_law_due k_law_due
  have F_law_heard := fun_mk (st := s_law_heard) l_law_heard c_law_heard k_law_heard
  have F_law := fun_mk (st := s_law) l_law c_law k_law
  have b_is_name := F_is_name.binds (ps := ["value"]) fun _ _ _ _ _ _ us hl => match us, hl with | [_], _ => rfl
  have b_ascending := F_ascending.binds (ps := ["names"]) fun _ _ _ _ _ _ us hl => match us, hl with | [_], _ => rfl
  have b_finit := F_finit.binds (ps := ["self", "steps"]) fun _ _ _ _ _ _ us hl => match us, hl with | [_, _], _ => rfl
  have b_Formula_str := F_Formula_str.binds (ps := ["self"]) fun _ _ _ _ _ _ us hl => match us, hl with | [_], _ => rfl
  have b_read := F_read.binds (ps := ["cls", "text"]) fun _ _ _ _ _ _ us hl => match us, hl with | [_, _], _ => rfl
  have b_text := F_text.binds (ps := ["steps"]) fun _ _ _ _ _ _ us hl => match us, hl with | [_], _ => rfl
  have b_each_once := F_each_once.binds (ps := ["steps"]) fun _ _ _ _ _ _ us hl => match us, hl with | [_], _ => rfl
  have b_check_words := F_check_words.binds (ps := ["words"]) fun _ _ _ _ _ _ us hl => match us, hl with | [_], _ => rfl
  have b_steps_of_words := F_steps_of_words.binds (ps := ["words"]) fun _ _ _ _ _ _ us hl => match us, hl with | [_], _ => rfl
  have b_law_source := F_law_source.binds (ps := ["_law_script", "_law_base"]) fun _ _ _ _ _ _ us hl => match us, hl with | [_, _], _ => rfl
  have b_law_draw := F_law_draw.binds (ps := ["_law_deal", "_law_wide"]) fun _ _ _ _ _ _ us hl => match us, hl with | [_, _], _ => rfl
  have b_law_pick := F_law_pick.binds (ps := ["_law_deal", "_law_some"]) fun _ _ _ _ _ _ us hl => match us, hl with | [_, _], _ => rfl
  have b_law_shuffled := F_law_shuffled.binds (ps := ["_law_deal", "_law_some"]) fun _ _ _ _ _ _ us hl => match us, hl with | [_, _], _ => rfl
  have b_law_words := F_law_words.binds (ps := ["_law_deal", "_law_many"]) fun _ _ _ _ _ _ us hl => match us, hl with | [_, _], _ => rfl
  have b_law_tree := F_law_tree.binds (ps := ["_law_deal", "_law_names", "_law_many", "_law_deep"]) fun _ _ _ _ _ _ us hl => match us, hl with | [_, _, _, _], _ => rfl
  have b_law_tokens := F_law_tokens.binds (ps := ["_law_tree_here"]) fun _ _ _ _ _ _ us hl => match us, hl with | [_], _ => rfl
  have b_law_due := F_law_due.binds (ps := ["_law_words_here"]) fun _ _ _ _ _ _ us hl => match us, hl with | [_], _ => rfl
  have b_law_heard := F_law_heard.binds (ps := ["_law_line"]) fun _ _ _ _ _ _ us hl => match us, hl with | [_], _ => rfl
  have T : TxtL K w mg ⟨r_RESERVED, t_LONGEST, t_LETTERS, f_is_name, f_ascending⟩ ⟨f_text, f_each_once⟩ ⟨C_Formula, f_finit, r_SIGNS, es_SIGNS, nn_SIGNS, r_CONSTANTS, f_Formula_str⟩ ⟨f_check_words, f_steps_of_words, f_read⟩ C_InvalidText f_InvalidText C_WakeError C_InvalidFormula p_read ⟨f_law_due, f_law_heard⟩ ⟨f_law_draw, f_law_shuffled⟩ ⟨f_law_pick, f_law_tree, f_law_tokens⟩ f_law_source f_law_words := { g_RESERVED := PySem.W.mg_of X G n_RESERVED, s_RESERVED := fun H => .inr ⟨_, _, _, l_RESERVED, rfl, rfl, z_RESERVED, v_RESERVED⟩, g_LONGEST := PySem.W.mg_of X G n_LONGEST, g_LETTERS := PySem.W.mg_of X G n_LETTERS, b_isinstance := PySem.W.mg_none_of X G b_isinstance, b_str := PySem.W.mg_none_of X G b_str, b_len := PySem.W.mg_none_of X G b_len, b_all := PySem.W.mg_none_of X G b_all, b_tuple := PySem.W.mg_none_of X G b_tuple, b_set := PySem.W.mg_none_of X G b_set, b_sorted := PySem.W.mg_none_of X G b_sorted, g_is_name := PySem.W.mg_of X G a_is_name, k_is_name := k_is_name, g_ascending := PySem.W.mg_of X G a_ascending, k_ascending := k_ascending, cl := ⟨pg_Formula, hd_Formula, po_Formula, sa_Formula⟩, M := ⟨mk_Formula, a_finit, i_finit, kc_Formula⟩, g_Formula := PySem.W.mg_of X G n_Formula, g_SIGNS := PySem.W.mg_of X G n_SIGNS, d_SIGNS := ⟨l_SIGNS, kl_SIGNS, lo_SIGNS⟩, m_SIGNS := fun z hz => ns_miss l_SIGNS ks_SIGNS hz, h_SIGNS := fun z hz => sig_val v_SIGNS_0 v_SIGNS_1 v_SIGNS_2 v_SIGNS_3 z hz, g_CONSTANTS := PySem.W.mg_of X G n_CONSTANTS, s_CONSTANTS := fun H => .inr ⟨_, _, _, l_CONSTANTS, rfl, rfl, z_CONSTANTS, v_CONSTANTS⟩, n_steps := no_Formula_steps, n_names := no_Formula_names, g__text := PySem.W.mg_of X G a_text, k__text := k_text, g__each_once := PySem.W.mg_of X G a_each_once, k__each_once := k_each_once, low_InvalidText := low_InvalidText, b_enumerate := PySem.W.mg_none_of X G b_enumerate, g__check_words := PySem.W.mg_of X G a_check_words, k__check_words := k_check_words, g__steps_of_words := PySem.W.mg_of X G a_steps_of_words, k__steps_of_words := k_steps_of_words, g__law_due := PySem.W.mg_of X G a_law_due, k__law_due := k_law_due, g__law_heard := PySem.W.mg_of X G a_law_heard, k__law_heard := k_law_heard, g_WakeError := PySem.W.mg_of X G n_WakeError, g_InvalidFormula := PySem.W.mg_of X G n_InvalidFormula, xc_InvalidText := ⟨ga_InvalidText, gg_InvalidText, eC_InvalidText, hC_InvalidText, ca_InvalidText, cn_F, ct_F, cm_InvalidText⟩, kit_TW := kit_TW, kit_TF := kit_TF, cr_Formula := ⟨rd_Formula, rg_Formula⟩, cm_Formula_read := ⟨at_read, ⟨_, rc_read⟩, fi_read⟩, a_Formula_str := a_Formula_str, i_Formula_str := i_Formula_str, b_list := PySem.W.mg_none_of X G b_list, b_range := PySem.W.mg_none_of X G b_range, g__law_draw := PySem.W.mg_of X G a_law_draw, k__law_draw := k_law_draw, g__law_shuffled := PySem.W.mg_of X G a_law_shuffled, k__law_shuffled := k_law_shuffled, g__law_pick := PySem.W.mg_of X G a_law_pick, k__law_pick := k_law_pick, g__law_tree := PySem.W.mg_of X G a_law_tree, k__law_tree := k_law_tree, g__law_tokens := PySem.W.mg_of X G a_law_tokens, k__law_tokens := k_law_tokens, b_int := PySem.W.mg_none_of X G b_int, b_repr := PySem.W.mg_none_of X G b_repr, g__law_source := PySem.W.mg_of X G a_law_source, k__law_source := k_law_source, g__law_words := PySem.W.mg_of X G a_law_words, k__law_words := k_law_words }
  have TD : TxtDA2 K mg f_law_draw := { b_int := PySem.W.mg_none_of X G b_int, b_len := PySem.W.mg_none_of X G b_len, b_abs := PySem.W.mg_none_of X G b_abs, g__law_draw := PySem.W.mg_of X G a_law_draw, k__law_draw := k_law_draw }
  refine ⟨PySem.W.fnOf "law" "law" (defArgs s_law) (defBody s_law) (defScope s_law) .none kV_law dc_law pm_law an_law cd_law ct_law, fun s v => .of_eq rfl, fun base _ _ => ?_⟩
  have G1 := ok_is_name (P := P) (w := w) (base := base) F_is_name T.toTxtW
  have GA := ok_ascending (P := P) (w := w) (base := base) F_ascending T.toTxtW
  have TX := ok_textG (P := P) (w := w) (base := base) F_text T.toTxtG
  have EA := ok_each (P := P) (w := w) (base := base) F_each_once T.toTxtG
  have GF := ok_FormG (P := P) (w := w) (base := base) F_finit T.toTxtFg GA b_ascending
  have ST := ok_strG (P := P) (w := w) (base := base) F_Formula_str T.toTxtFg TX b_text
  have CH := ok_check (P := P) (w := w) (base := base) F_check_words T.toTxtR G1 b_is_name
  have SP := ok_steps (P := P) (w := w) (base := base) F_steps_of_words T.toTxtR EA b_each_once
  have RD := ok_readF (P := P) (w := w) (base := base) F_read T.toTxtR CH b_check_words SP b_steps_of_words GF b_finit
  have RM := (FnOk.raw RD b_read .nil).imp (sp' := spReadF K _ _) (fun vs H Q E h => by rw [List.append_nil]; exact h)
  have D1 := ok_sourceA (P := P) (w := w) (base := base) F_law_source TD
  have D2 := ok_drawA (P := P) (w := w) (base := base) F_law_draw TD.toTxtDA
  have D3 := ok_pickA (P := P) (w := w) (base := base) F_law_pick TD D2 b_law_draw
  have SH := ok_shuffled (P := P) (w := w) (base := base) F_law_shuffled T.toTxtSh D2 b_law_draw
  have WD := ok_wordsN (P := P) (w := w) (base := base) F_law_words T.toTxtSh SH b_law_shuffled
  have T0 := ok_tree (n := 0) (j := 2) (P := P) (w := w) (base := base) F_law_tree T.toTxtTr (Nat.le_refl _) D2 b_law_draw D3 b_law_pick (.inl rfl) no_fn b_law_tree
  have T1 := ok_tree (n := 1) (j := 3) (P := P) (w := w) (base := base) F_law_tree T.toTxtTr (by decide) D2 b_law_draw D3 b_law_pick (.inr rfl) T0 b_law_tree
  have T2 := ok_tree (n := 2) (j := 4) (P := P) (w := w) (base := base) F_law_tree T.toTxtTr (by decide) D2 b_law_draw D3 b_law_pick (.inr rfl) T1 b_law_tree
  have T3 := ok_tree (n := 3) (j := 5) (P := P) (w := w) (base := base) F_law_tree T.toTxtTr (by decide) D2 b_law_draw D3 b_law_pick (.inr rfl) T2 b_law_tree
  have T4 := ok_tree (n := 4) (j := 6) (P := P) (w := w) (base := base) F_law_tree T.toTxtTr (by decide) D2 b_law_draw D3 b_law_pick (.inr rfl) T3 b_law_tree
  have T5 := ok_tree (n := 5) (j := 7) (P := P) (w := w) (base := base) F_law_tree T.toTxtTr (by decide) D2 b_law_draw D3 b_law_pick (.inr rfl) T4 b_law_tree
  have K0 := ok_toks (n := 0) (j := 0) (P := P) (w := w) (base := base) F_law_tokens T.toTxtTr (.inl rfl) no_fn b_law_tokens
  have K1 := ok_toks (n := 1) (j := 1) (P := P) (w := w) (base := base) F_law_tokens T.toTxtTr (.inr rfl) K0 b_law_tokens
  have K2 := ok_toks (n := 2) (j := 2) (P := P) (w := w) (base := base) F_law_tokens T.toTxtTr (.inr rfl) K1 b_law_tokens
  have K3 := ok_toks (n := 3) (j := 3) (P := P) (w := w) (base := base) F_law_tokens T.toTxtTr (.inr rfl) K2 b_law_tokens
  have K4 := ok_toks (n := 4) (j := 4) (P := P) (w := w) (base := base) F_law_tokens T.toTxtTr (.inr rfl) K3 b_law_tokens
  have K5 := ok_toks (n := 5) (j := 5) (P := P) (w := w) (base := base) F_law_tokens T.toTxtTr (.inr rfl) K4 b_law_tokens
  have DU := ok_due (P := P) (w := w) (base := base) F_law_due T.toTxtDu
  have HE := ok_heard7 (P := P) (w := w) (base := base) F_law_heard T.toTxtHe ST b_Formula_str RM
  exact ok_law F_law T D1 b_law_source D2 b_law_draw D3 b_law_pick WD b_law_words T5 b_law_tree K5 b_law_tokens DU b_law_due HE b_law_heard
theorem walk {l : PySem.W.OpenLaw} {q : Program} {loose : List Str} {XP : (Str → Option Value) → Heap → Prop} {YP : World → Heap → Prop} {d : DefRec} {K : Params → PySem.W.Frag} (hn : l.most = some 63) (hdf : d.params.defaults = [])
    (hY : ∀ (w : World) (h : Heap), YP w h → (K w.params).In h)
    (F : ∀ (w : World) (mg : Str → Option Value) (fa : Addr) (h : Heap), (K w.params).In h → h.Ns mainGlobals mg → mg d.name = some (.ref fa) →
      ∃ fd : FuncData, (∀ (s : Shared) (u : Value), BindsTo s fd ⟨[u], []⟩ [("_law_script", u)]) ∧ ∀ base : Heap, (K w.params).In base → base.Ns mainGlobals mg → FnOk l.prog w (K w.params) mg base CX0 9 fa fd ["_law_script"] (spLaw (K w.params))) :
    PySem.W.WalkO q loose XP YP l.row.toRowW d [] (fun f vs => PySem.call f vs) :=
  L2.walk_of (n := 63) (k := 9) (x := "_law_script") (CX := fun _ => CX0) (sp := fun w => spLaw (K w.params)) hn (by decide) hdf ⟨rfl, by decide, by decide⟩ hY F (fun _ _ a ns hl _ hS => ⟨a, ns, rfl, hS, hl, fun _ => rfl⟩) fun _ _ _ _ _ z => z
end L2.Wk
open PySem PySem.W PyProof.Rows
set_option maxRecDepth 100000 in
set_option maxHeartbeats 0 in
theorem PySem.Challenge.cw_wakesafe_k07_texts_of_no_formula_holds : PySem.Challenge.rw_wakesafe_k07_texts_of_no_formula.Holds := by
  w_on; o_law; k_head; (case hw => w_witness2)
  k_fill
  refine L2.Wk.walk (l := PySem.Challenge.rw_wakesafe_k07_texts_of_no_formula) rfl rfl (fun w h Y => PySem.W.kIn_of Y) ?F
  case F =>
    intro w mg fa h KX G hmg
    refine' L2.Wk.all_mk KX G hmg ?n_RESERVED ?l_RESERVED ?v_RESERVED ?z_RESERVED ?n_LONGEST ?n_LETTERS ?a_is_name ?l_is_name ?c_is_name ?k_is_name ?a_ascending ?l_ascending ?c_ascending ?k_ascending ?b_isinstance ?b_str ?b_len ?b_all ?b_tuple ?b_set ?b_sorted ?n_CONSTANTS ?l_CONSTANTS ?v_CONSTANTS ?z_CONSTANTS ?n_SIGNS ?l_SIGNS ?kl_SIGNS ?ks_SIGNS ?lo_SIGNS ?v_SIGNS_0 ?v_SIGNS_1 ?v_SIGNS_2 ?v_SIGNS_3 ?n_Formula ?pg_Formula ?hd_Formula ?po_Formula ?sa_Formula ?mk_Formula ?kc_Formula ?no_Formula_steps ?no_Formula_names ?a_finit ?i_finit ?l_finit ?c_finit ?k_finit ?a_Formula_str ?i_Formula_str ?l_Formula_str ?c_Formula_str ?k_Formula_str ?at_read ?rc_read ?l_read ?c_read ?k_read ?rd_Formula ?rg_Formula ?fi_read ?n_InvalidText ?x_InvalidText ?sa_InvalidText ?ga_InvalidText ?gg_InvalidText ?nb_InvalidText ?a1_InvalidText ?t1_InvalidText ?l1_InvalidText ?c1_InvalidText ?kC_InvalidText ?eC_InvalidText ?tC_InvalidText ?hC_InvalidText ?iC_InvalidText ?sC_InvalidText ?ca_F ?cm_F ?cn_F ?ct_F ?ca_InvalidText ?cm_InvalidText ?a_text ?l_text ?c_text ?k_text ?a_each_once ?l_each_once ?c_each_once ?k_each_once ?a_check_words ?l_check_words ?c_check_words ?k_check_words ?a_steps_of_words ?l_steps_of_words ?c_steps_of_words ?k_steps_of_words ?a_law_source ?l_law_source ?c_law_source ?k_law_source ?a_law_draw ?l_law_draw ?c_law_draw ?k_law_draw ?a_law_pick ?l_law_pick ?c_law_pick ?k_law_pick ?b_abs ?b_int ?b_range ?b_list ?b_enumerate ?b_repr ?a_law_shuffled ?l_law_shuffled ?c_law_shuffled ?k_law_shuffled ?a_law_words ?l_law_words ?c_law_words ?k_law_words ?a_law_tree ?l_law_tree ?c_law_tree ?k_law_tree ?a_law_tokens ?l_law_tokens ?c_law_tokens ?k_law_tokens ?a_law_due ?l_law_due ?c_law_due ?k_law_due ?a_law_heard ?l_law_heard ?c_law_heard ?k_law_heard ?a_law ?l_law ?c_law ?k_law ?n_WakeError ?n_InvalidFormula ?kit_TW ?kit_TF
    (case n_RESERVED => k_is)
    (case l_RESERVED => k_is)
    (case v_RESERVED => exact (.cons ⟨_, rfl⟩ (.cons ⟨_, rfl⟩ (.cons ⟨_, rfl⟩ (.cons ⟨_, rfl⟩ (.cons ⟨_, rfl⟩ (.cons ⟨_, rfl⟩ (.cons ⟨_, rfl⟩ (.cons ⟨_, rfl⟩ (.cons ⟨_, rfl⟩ (.cons ⟨_, rfl⟩ (.nil))))))))))))
    (case z_RESERVED => decide)
    (case n_LONGEST => k_is)
    (case n_LETTERS => k_is)
    (case a_is_name => k_is)
    (case l_is_name => k_is)
    (case c_is_name => k_is)
    (case k_is_name => k_is)
    (case a_ascending => k_is)
    (case l_ascending => k_is)
    (case c_ascending => k_is)
    (case k_ascending => k_is)
    (case b_isinstance => k_is)
    (case b_str => k_is)
    (case b_len => k_is)
    (case b_all => k_is)
    (case b_tuple => k_is)
    (case b_set => k_is)
    (case b_sorted => k_is)
    (case n_CONSTANTS => k_is)
    (case l_CONSTANTS => k_is)
    (case v_CONSTANTS => exact (.cons ⟨_, rfl⟩ (.cons ⟨_, rfl⟩ (.nil))))
    (case z_CONSTANTS => decide)
    (case n_SIGNS => k_is)
    (case l_SIGNS => k_is)
    (case kl_SIGNS => exact ⟨⟨_, _, rfl, rfl⟩, ⟨_, _, rfl, rfl⟩, ⟨_, _, rfl, rfl⟩, ⟨_, _, rfl, rfl⟩, True.intro⟩)
    (case ks_SIGNS => rfl)
    (case lo_SIGNS => rfl)
    (case v_SIGNS_0 => k_is)
    (case v_SIGNS_1 => k_is)
    (case v_SIGNS_2 => k_is)
    (case v_SIGNS_3 => k_is)
    (case n_Formula => k_is)
    (case pg_Formula => k_is)
    (case hd_Formula => k_is)
    (case po_Formula => k_is)
    (case sa_Formula => k_is)
    (case mk_Formula => k_is)
    (case kc_Formula => k_is)
    (case no_Formula_steps => k_is)
    (case no_Formula_names => k_is)
    (case a_finit => k_is)
    (case i_finit => k_is)
    (case l_finit => k_is)
    (case c_finit => k_is)
    (case k_finit => k_is)
    (case a_Formula_str => k_is)
    (case i_Formula_str => k_is)
    (case l_Formula_str => k_is)
    (case c_Formula_str => k_is)
    (case k_Formula_str => k_is)
    (case at_read => first | rfl | k_is)
    (case rc_read => first | rfl | k_is)
    (case l_read => k_is)
    (case c_read => k_is)
    (case k_read => k_is)
    (case rd_Formula => first | rfl | k_is)
    (case rg_Formula => first | rfl | k_is)
    (case fi_read => first | rfl | k_is)
    (case n_InvalidText => k_is)
    (case x_InvalidText => k_is)
    (case sa_InvalidText => k_is)
    (case ga_InvalidText => k_is)
    (case gg_InvalidText => k_is)
    (case nb_InvalidText => k_is)
    (case a1_InvalidText => k_is)
    (case t1_InvalidText => k_is)
    (case l1_InvalidText => k_is)
    (case c1_InvalidText => k_is)
    (case kC_InvalidText => k_is)
    (case eC_InvalidText => k_is)
    (case tC_InvalidText => k_is)
    (case hC_InvalidText => k_is)
    (case iC_InvalidText => k_is)
    (case sC_InvalidText => first | rfl | k_is)
    (case ca_F => k_is)
    (case cm_F => k_is)
    (case cn_F => k_is)
    (case ct_F => k_is)
    (case ca_InvalidText => k_is)
    (case cm_InvalidText => k_is)
    (case a_text => k_is)
    (case l_text => k_is)
    (case c_text => k_is)
    (case k_text => k_is)
    (case a_each_once => k_is)
    (case l_each_once => k_is)
    (case c_each_once => k_is)
    (case k_each_once => k_is)
    (case a_check_words => k_is)
    (case l_check_words => k_is)
    (case c_check_words => k_is)
    (case k_check_words => k_is)
    (case a_steps_of_words => k_is)
    (case l_steps_of_words => k_is)
    (case c_steps_of_words => k_is)
    (case k_steps_of_words => k_is)
    (case a_law_source => k_is)
    (case l_law_source => k_is)
    (case c_law_source => k_is)
    (case k_law_source => k_is)
    (case a_law_draw => k_is)
    (case l_law_draw => k_is)
    (case c_law_draw => k_is)
    (case k_law_draw => k_is)
    (case a_law_pick => k_is)
    (case l_law_pick => k_is)
    (case c_law_pick => k_is)
    (case k_law_pick => k_is)
    (case b_abs => k_is)
    (case b_int => k_is)
    (case b_range => k_is)
    (case b_list => k_is)
    (case b_enumerate => k_is)
    (case b_repr => k_is)
    (case a_law_shuffled => k_is)
    (case l_law_shuffled => k_is)
    (case c_law_shuffled => k_is)
    (case k_law_shuffled => k_is)
    (case a_law_words => k_is)
    (case l_law_words => k_is)
    (case c_law_words => k_is)
    (case k_law_words => k_is)
    (case a_law_tree => k_is)
    (case l_law_tree => k_is)
    (case c_law_tree => k_is)
    (case k_law_tree => k_is)
    (case a_law_tokens => k_is)
    (case l_law_tokens => k_is)
    (case c_law_tokens => k_is)
    (case k_law_tokens => k_is)
    (case a_law_due => k_is)
    (case l_law_due => k_is)
    (case c_law_due => k_is)
    (case k_law_due => k_is)
    (case a_law_heard => k_is)
    (case l_law_heard => k_is)
    (case c_law_heard => k_is)
    (case k_law_heard => k_is)
    (case a_law => k_is)
    (case l_law => k_is)
    (case c_law => k_is)
    (case k_law => k_is)
    (case n_WakeError => k_is)
    (case n_InvalidFormula => k_is)
    (case kit_TW => first | rfl | k_is)
    (case kit_TF => first | rfl | k_is)
