import PyProof.Rows.All
import Wide.All
import OpenK.AllK
import Wide.FinOn
import PyProof.EqAt
import PyProof.EqKinds
import PyProof.TupleCall
import HandS.ForMost
import HandS.ForExc
import HandS.Style
import HandS.IsInst
import HandS.TupAny
import HandS.TupMul
import HandS.Defaults
import HandS.Wide
import HandS.Set
import HandS.Strs
import HandS.SetFor
import HandS.RaiseMore
import HandS.FStr
import HandS.SlotsOwn
import HandS.NoneIn
import PyProof.Rows.Range3
import HandS.OwnEq
import HandS.More
import HandS.Star
import KE.KIsAll
import KE.KTryMore
import HandS.ExcIs
import HandS.CallLocal
import HandS.ClsMeth
import HandS.TryOnly
import KE.GoesEnumKw
import KE.GoesZip
import KE.KExcInit
import KE.KOpsOwn
import HandS.ExcOwn
import HandS.WrittenGet
import PySem.Challenge.RW_wakesafe_k25_texts_of_no_machine
set_option Elab.async false
set_option linter.all false
set_option maxRecDepth 100000
set_option maxHeartbeats 4000000
namespace L2.Wk
open PySem PySem.Spec PyProof.Rows
/-! ### heaps -/
theorem Same.upd_new {H : Hp} {p : Addr} {o : HO} (h : H p = none) : Same H (upd H p o) := fun b u e => by
  rw [upd_ne (ne_of_none e h)]; exact e
theorem Same.of_upd {H H' : Hp} {p : Addr} {o : HO} (h : Same (upd H p o) H') (hp : H p = none) : Same H H' := fun b u e => h b u (Same.upd_new hp b u e)
theorem Same.sqT {K : PySem.W.Frag} {H H' : Hp} {a : Addr} {xs : List V} (e : Same H H') (h : SqT K H a xs) : SqT K H' a xs := by
  rcases h with (h | ⟨o, h⟩) | h
  · exact .inl (.inl (e _ _ h))
  · exact .inl (.inr ⟨o, e _ _ h⟩)
  · exact .inr h
/-- a comprehension over the signs of a text -/
theorem lc_str {z : Str} {g : TG} {tt : TT} {te : TE} {vs : List Nat} {σ : St} {H1 : Hp} {D : Addr} {Qd : Hp → Prop} (Pv : Nat → Hp → Prop) (h0 : Pv 0 (upd H1 D (.lst [])))
    (hs : ∀ i c H, z.cps[i]? = some c → Pv i H → g (.str ⟨#[c]⟩) (wipe σ vs) H fun σ2 H2 => wipe σ2 vs = wipe σ vs ∧ tt σ2 H2 fun b H3 =>
      if b = true then te σ2 H3 fun y H4 => ∃ acc, H4 D = some (.lst acc) ∧ acc.length < sizeLine ∧ Pv (i + 1) (upd H4 D (.lst (acc ++ [y]))) else Pv (i + 1) H3) (hd : ∀ H, Pv z.cps.size H → Qd H) :
    ∃ W : Nat → Nat → Hp → Prop, (∃ m, W 0 m (upd H1 D (.lst []))) ∧ ∀ i m H, W i m H →
      ((Its z).stop i H ∧ Qd H) ∨ ((Its z).go i H ∧ ∃ Nx : Hp → Prop, (∀ H', Nx H' → ∃ m', m' < m ∧ W (i + 1) m' H') ∧ ∀ x H', (Its z).yld i H x H' → g x (wipe σ vs) H' fun σ2 H2 => wipe σ2 vs = wipe σ vs ∧ tt σ2 H2 fun b H3 =>
        if b = true then te σ2 H3 fun y H4 => ∃ acc, H4 D = some (.lst acc) ∧ acc.length < sizeLine ∧ Nx (upd H4 D (.lst (acc ++ [y]))) else Nx H3) := by
  refine ⟨fun i m H => m = z.cps.size - i ∧ i ≤ z.cps.size ∧ Pv i H, ⟨z.cps.size, by simp, Nat.zero_le _, h0⟩, ?_⟩
  rintro i m H ⟨rfl, hi, p⟩
  by_cases hlt : i < z.cps.size
  · refine .inr ⟨hlt, Pv (i + 1), fun H' p' => ⟨z.cps.size - (i + 1), by omega, rfl, hlt, p'⟩, fun x H' y => ?_⟩
    obtain ⟨e, c, hc, ex⟩ := y
    subst e
    subst ex
    exact hs i c _ hc p
  · have e : i = z.cps.size := by omega
    subst e
    exact .inl ⟨Nat.le_refl _, hd H p⟩
theorem take_succ_map {α β : Type} {l : List α} {i : Nat} {x : α} (f : α → β) (h : l[i]? = some x) : (l.take (i + 1)).map f = (l.take i).map f ++ [f x] := by
  rw [List.take_add_one, h]
  simp
theorem arr_list {c : Nat} {a : Array Nat} {i : Nat} (h : a[i]? = some c) : a.toList[i]? = some c := by simpa using h
/-! ### names of the module, by kind -/
section
variable {X : Cx} {x : Str} {pos : Pos}
theorem pe_gr {a : Addr} (hg : Gl X x) (hm : X.mg x = some (.ref a)) (hd : (x == ("__debug__" : Str)) = false := by decide) : PE X (.Name x pos) (tC (.ref a)) := pe_glob hg hm rfl hd
theorem pe_gs {z : Str} {t : Tok} (hg : Gl X x) (hm : X.mg x = some (.str z t)) (hd : (x == ("__debug__" : Str)) = false := by decide) : PE X (.Name x pos) (tC (.str z)) := pe_glob hg hm ⟨_, rfl⟩ hd
theorem pe_gi {z : Int} {t : Tok} (hg : Gl X x) (hm : X.mg x = some (.int z t)) (hd : (x == ("__debug__" : Str)) = false := by decide) : PE X (.Name x pos) (tC (.int z)) := pe_glob hg hm ⟨_, rfl⟩ hd
theorem pe_tyB {T : String} (hg : Gl X x) (hm : X.mg x = none) (hv : bootBuiltins x = some (.type T)) (hn : x ≠ "__name__" := by decide) (hd : (x == ("__debug__" : Str)) = false := by decide) : PE X (.Name x pos) (tC (.ty T)) := pe_bltn hg hm hv rfl hn hd
end
/-! ### within a comprehension: K named -/
section
variable {X : Cx} {K : PySem.W.Frag}
theorem ix_listK (h : X.K = K) : IxR X (rIxL K) := h ▸ ix_list
theorem op_in_seqK (h : X.K = K) : OpR X (compareOp .In) (rIn K false) := h ▸ op_in_seq
theorem op_notIn_seqK (h : X.K = K) : OpR X (compareOp .NotIn) (rIn K true) := h ▸ op_notIn_seq
theorem call_lenK (h : X.K = K) : CallR X (.builtin "len") (fun xs H Q => ∃ x n, xs = [x] ∧ LenV K x H n ∧ Q (.int n) H) := h ▸ call_len
theorem sl_listK (h : X.K = K) : SlR X (rSlL K) := h ▸ sl_list
end
/-! ### C(..) in a try: what is raised is wished for at the slots -/
section
variable {X : Cx} {CX : CXT} {k : Nat} {f C : Addr} {fd : FuncData} {ps : List Str} {sp : Sp} {dvs : List V} {ds : List Value} {E : St → XK} {x m : Str} {p pos apos : Pos} {e o : Expr} {es : List Expr} {ta : TE} {t : TA}
def tMakeS (C : Addr) (sp : Sp) (dvs : List V) (E : St → XK) (t : TA) : TE := fun σ H Q => t σ H fun vs H1 => ∀ x dx, H1 x = none → H1 dx = none → dx ≠ x →
  sp (.ref x :: (vs ++ dvs)) (upd (upd H1 dx (.own x)) x (.ins C dx [])) (fun v H2 => v = .non ∧ Q (.ref x) H2) (E σ)
theorem run_makeS {pins : List (Addr × Obj)} {σ : St} {H : Hp} {s : Shared} {Q : VK} {us : List Value} {vs : List V} (M : Mk X.K C f) (F : FnOk X.prog X.w X.K X.mg X.base CX k f fd ps sp) (hr : Room (k + 1) X.A) (hb : Binds X.K fd ps ds) (hd : Vals dvs ds)
    (hx : PassesAt CX X σ (E σ)) (I : Inv X pins σ H s) (r : Vals vs us)
    (h : ∀ x dx, H x = none → H dx = none → dx ≠ x → sp (.ref x :: (vs ++ dvs)) (upd (upd H dx (.own x)) x (.ins C dx [])) (fun v H2 => v = .non ∧ Q (.ref x) H2) (E σ)) :
    wpAny (model X.prog X.w) X.A (call (.ref C) us) (EP X pins σ Q) X.xe s := by
  have hq := h (s.heap.objs.size + 1) s.heap.objs.size (I.hok.fresh (Nat.le_succ _)) (I.hok.fresh (Nat.le_refl _)) (Nat.ne_of_lt (Nat.lt_succ_self _))
  have I2 := Inv.made (C := C) I
  have r2 : Vals (V.ref (s.heap.objs.size + 1) :: (vs ++ dvs)) (Value.ref (s.heap.objs.size + 1) :: (us ++ ds)) := .cons rfl (r.append hd)
  have hl : (Value.ref (s.heap.objs.size + 1) :: us ++ ds).length = ps.length := by
    have e := r2.length
    rw [F.len _ _ _ _ hq] at e
    exact e.symm
  refine wpAny_call (make_map (f := f) I.kIn M.makes M.init (beq_iff_eq.mp M.fn) (codeAny_mono (F.run _ X.stack _ _ ⟨Value.ref (s.heap.objs.size + 1) :: us, []⟩ (Value.ref (s.heap.objs.size + 1) :: (us ++ ds)) _ _ (E σ) (hr.make C us [])
    (I2.env0.make C us []) (hb _ (Value.ref (s.heap.objs.size + 1) :: us) I2.kIn hl) r2 hq) fun r s' hq' => ?_))
  cases r with
  | error e => exact hx pins _ _ e s' I2 hq'
  | ok fl =>
    cases fl with
    | ret u =>
      obtain ⟨v, H', I3, rv, ev, q3⟩ := I2.after hq'
      subst ev
      exact ⟨rv, ⟨V.ref (s.heap.objs.size + 1), H', I3, rfl, q3⟩⟩
    | next => exact False.elim hq'
    | brk => exact False.elim hq'
    | cont => exact False.elim hq'
theorem pe_makeS (M : Mk X.K C f) (F : FnOk X.prog X.w X.K X.mg X.base CX k f fd ps sp) (hr : Room (k + 1) X.A) (hg : Gl X x) (hm : X.mg x = some (.ref C)) (hb : Binds X.K fd ps ds) (hd : Vals dvs ds) (hx : ∀ σ, PassesAt CX X σ (E σ))
    (ha : PA X (e :: es) t) (hdb : (x == ("__debug__" : Str)) = false := by decide) (he : starEach (e :: es) X.env = (false, eval e X.env) :: starEach es X.env := by rfl) (hpl : (backTo pos (starEach es X.env)).any (·.1) = false := by rfl) :
    PE X (.Call (.Name x p) (e :: es) [] pos) (tMakeS C sp dvs E t) := by
  refine ⟨fun pins s σ H Q I h => ?_⟩
  refine wpAny_Call_Name_kw (ld_glob I hg hm ?_ hdb)
  refine PySem.W.callWith_K (h₀ := X.base) I.ok.mod.kin M.kp (thn (ha.run pos pins s σ H _ I h) fun us s1 ⟨vs, H1, I1, r, q⟩ => ⟨I1.kIn, ?_⟩) he hpl
  exact run_makeS M F hr hb hd (hx σ) I1 r q
end
/-! ### the draws: a list of what is left of the great cells, and a number that is stirred -/
structure DealAt (H : Hp) (d l : Addr) : Prop where
  ex : ∃ (cs : List Int) (b : Int), H d = some (.lst [.ref l, .int b]) ∧ H l = some (.lst (cs.map V.int)) ∧ (∀ c ∈ cs, 0 ≤ c) ∧ cs.length ≤ 63 ∧ 0 ≤ b ∧ b < 2147483647
/-- all but the deal stands as before -/
def Keep (d l : Addr) (H H' : Hp) : Prop := ∀ p o, H p = some o → p ≠ d → p ≠ l → H' p = some o
theorem Keep.refl (d l : Addr) (H : Hp) : Keep d l H H := fun _ _ e _ _ => e
theorem Keep.trans {d l : Addr} {H H1 H2 : Hp} (a : Keep d l H H1) (b : Keep d l H1 H2) : Keep d l H H2 := fun p o e h1 h2 => b p o (a p o e h1 h2) h1 h2
theorem Keep.same {d l : Addr} {H H' : Hp} (s : Same H H') : Keep d l H H' := fun p o e _ _ => s p o e
theorem DealAt.same {d l : Addr} {H H' : Hp} (D : DealAt H d l) (s : Same H H') : DealAt H' d l := by
  obtain ⟨cs, b, h1, h2, h3⟩ := D.ex
  exact ⟨⟨cs, b, s _ _ h1, s _ _ h2, h3⟩⟩
theorem DealAt.ne {d l : Addr} {H : Hp} (D : DealAt H d l) : d ≠ l := by
  obtain ⟨cs, b, h1, h2, _⟩ := D.ex
  refine ne_of h1 h2 fun e => ?_
  cases cs with
  | nil => cases e
  | cons c cs => cases e
theorem DealAt.nd {d l p : Addr} {H : Hp} (D : DealAt H d l) (h : H p = none) : p ≠ d := by
  obtain ⟨cs, b, h1, h2, _⟩ := D.ex
  exact (ne_of_none h1 h).symm
theorem DealAt.nl {d l p : Addr} {H : Hp} (D : DealAt H d l) (h : H p = none) : p ≠ l := by
  obtain ⟨cs, b, h1, h2, _⟩ := D.ex
  exact (ne_of_none h2 h).symm
/-- no tracked address is lost -/
theorem Keep.free {d l p : Addr} {H H' : Hp} (k : Keep d l H H') (D : DealAt H d l) (D' : DealAt H' d l) (h : H' p = none) : H p = none := by
  cases q : H p with
  | none => rfl
  | some o =>
    have e1 : p ≠ d := D'.nd h
    have e2 : p ≠ l := D'.nl h
    rw [k p o q e1 e2] at h
    cases h
end L2.Wk
namespace L2.Wk
open PySem PySem.Spec PyProof.Rows
/-! ### what a set of ints is -/
def keyS (e : Int × Value) : Str := match e.2 with | .str k _ => k | _ => Str.empty
def GoodS (w : World) (e : Int × Value) : Prop := ∃ k tk, e.2 = Value.str k tk ∧ e.1 = hashStr w k

/-- the set of ints at a: S its members, n their number; its table rises and can be walked -/
def SetS (w : World) (h : Heap) (a : Addr) (S : Str → Bool) (n : Nat) : Prop :=
  ∃ o es ep t, h.get? a = some o ∧ o.ExactSet ∧ o.data = .set es ep t ∧ (∀ e ∈ es.toList, GoodS w e) ∧ (es.toList.map keyS).Nodup ∧ (∀ k, S k = true ↔ k ∈ es.toList.map keyS) ∧
    es.size < scanBound ∧ t.fits es.size = true ∧ es.size = n ∧ Ris t.place.toList ∧ (w.params.followText "set-order" = true ∨ t.led = true)

section
variable {P : Program} {w : World} {h h' : Heap} {a : Addr} {S : Str → Bool} {n : Nat}

theorem SetS.at (R : SetS w h a S n) (k : ∀ o, h.get? a = some o → h'.get? a = some o) : SetS w h' a S n := by
  obtain ⟨o, es, ep, t, ho, r⟩ := R
  exact ⟨o, es, ep, t, k o ho, r⟩
theorem SetS.lt (R : SetS w h a S n) : a < h.objs.size := by
  obtain ⟨o, es, ep, t, ho, r⟩ := R
  exact Heap.lt_size ho
theorem SetS.congr {S' : Str → Bool} (R : SetS w h a S n) (e : ∀ k, S' k = S k) : SetS w h a S' n := by
  have q : S' = S := funext e
  rw [q]; exact R
theorem goodS_elems {l : List (Int × Value)} (g : ∀ e ∈ l, GoodS w e) : ElemsOf (PySem.strKind P w) l := fun e he => by
  obtain ⟨k, tk, h1, h2⟩ := g e he
  exact ⟨⟨k, by rw [h1]; exact PySem.strKind_is P w k tk, h2⟩, by rw [h1] <;> rfl⟩
theorem goodS_is {e : Int × Value} (g : GoodS w e) (k : Str) : (PySem.strKind P w).is k e.2 = true ↔ keyS e = k := by
  obtain ⟨k0, tk, h1, _⟩ := g
  unfold keyS
  rw [h1]
  show ((k0 == k) = true) ↔ k0 = k
  exact beq_iff_eq
theorem goodS_mem {l : List (Int × Value)} (g : ∀ e ∈ l, GoodS w e) (k : Str) : k ∈ l.map keyS ↔ ∃ e ∈ l, (PySem.strKind P w).is k e.2 = true := by
  rw [List.mem_map]
  constructor
  · rintro ⟨e, he, q⟩
    exact ⟨e, he, (goodS_is (g e he) k).2 q⟩
  · rintro ⟨e, he, q⟩
    exact ⟨e, he, (goodS_is (g e he) k).1 q⟩
theorem SetS.setOf (R : SetS w h a S n) : h.SetOf (PySem.strKind P w) a S n := by
  obtain ⟨o, es, ep, t, ho, hx, hd, g, nd, hm, hb, hf, hn, _⟩ := R
  exact ⟨o, es, ep, t, ho, hx, hd, goodS_elems g, fun k => (hm k).trans (goodS_mem g k), hb, hf, hn⟩
end

section
variable {P : Program} {w : World} {A : Around} {E : Value → Shared → Prop} {s : Shared} {a : Addr} {S : Str → Bool} {n : Nat}

/-! ### add -/
theorem setS_add_tail {g : Bool → Sem Unit} (hg : ∀ (b : Bool) (s₁ : Shared) (Q' : Unit → Shared → Prop), Q' () s₁ → wpAny (model P w) A (g b) Q' E s₁)
    {o : Obj} {es : Array (Int × Value)} {ep : Nat} {t : SetTable} (ho : s.heap.get? a = some o) (hex : o.ExactSet) (hd : o.data = .set es ep t)
    {es1 : Array (Int × Value)} {t2 : SetTable} {S' : Str → Bool} (g1 : ∀ e ∈ es1.toList, GoodS w e) (nd1 : (es1.toList.map keyS).Nodup) (m1 : ∀ k, S' k = true ↔ k ∈ es1.toList.map keyS)
    (hb1 : es1.size < scanBound) (hf2 : t2.fits es1.size = true) (hr : Ris t2.place.toList) (hl : w.params.followText "set-order" = true ∨ t2.led = true) {wasDummy : Bool} {R : Option Bool → Shared → Prop}
    (hR : ∀ h', Heap.SameBut a s.heap h' → SetS w h' a S' es1.size → R (some true) { s with heap := h' }) :
    wpAny (model P w) A (do
        storeSet a es1 t2
        if (!wasDummy && t2.tooFull) = true then do
            g (relayAll t2 es1 (SetTable.grown es1.size)).2.2
            storeSet a (relayAll t2 es1 (SetTable.grown es1.size)).1 (relayAll t2 es1 (SetTable.grown es1.size)).2.1
            pure (some true)
          else pure (some true)) R E s := by
  refine wpAny_bind (wpAny_storeSet_of ho hd ?_ (fits_of_scanBound hb1))
  have ho1 := store_at (es' := es1) (t' := t2) ho hd
  have sb1 := Heap.SameBut.update s.heap a (Obj.putSet es1 t2)
  split
  · have pm := relayAll_perm t2 es1 (SetTable.grown es1.size)
    have hf3 := relayAll_fits t2 es1 (SetTable.grown es1.size)
    have hr3 := relayAll_ris t2 es1 (SetTable.grown es1.size)
    have hl3 := relayAll_led t2 es1 (SetTable.grown es1.size)
    generalize relayAll t2 es1 (SetTable.grown es1.size) = Z at pm hf3 hr3 hl3 ⊢
    obtain ⟨es2, t3, gave⟩ := Z
    dsimp only at pm hf3 hr3 hl3 ⊢
    have hsz : es2.size = es1.size := by rw [← Array.length_toList, pm.length_eq, Array.length_toList]
    have hb2 : es2.size < scanBound := by rw [hsz]; exact hb1
    refine wpAny_bind (hg _ _ _ ?_)
    refine wpAny_bind (wpAny_storeSet_of ho1 rfl ?_ (fits_of_scanBound hb2))
    have ho2 := store_at (es' := es2) (t' := t3) ho1 rfl
    refine wpAny_pure (hR _ (sb1.trans (Heap.SameBut.update _ a _)) ?_)
    exact ⟨_, es2, _, t3, ho2, hex, rfl, fun e he => g1 e (pm.mem_iff.mp he), (pm.map keyS).nodup_iff.mpr nd1, fun k => (m1 k).trans (pm.map keyS).mem_iff.symm, hb2, hf3, hsz, hr3,
      hl.imp id fun z => by rw [hl3]; exact z⟩
  · exact wpAny_pure (hR _ sb1 ⟨_, es1, _, t2, ho1, hex, rfl, g1, nd1, m1, hb1, hf2, rfl, hr, hl⟩)

theorem setS_add_hashed {k : Str} {tk : Tok} {Q : Bool → Shared → Prop} (R : SetS w s.heap a S n) (room : n + 1 < scanBound)
    (hQ : ∀ h', Heap.SameBut a s.heap h' → SetS w h' a (fun j => S j || decide (j = k)) (if S k = true then n else n + 1) → Q (!S k) { s with heap := h' }) :
    wpAny (model P w) A (setAddHashed a (.str k tk) ((PySem.strKind P w).hash k)) Q E s := by
  obtain ⟨o, es, ep, t, ho, hex, hd, g, nd, hm, hb, hf, hn, hr, hl⟩ := R
  have hkey : (PySem.strKind P w).is k (.str k tk) = true := PySem.strKind_is P w k tk
  have hsc : (Value.str k tk).scannable = true := rfl
  have hel : ElemsOf (PySem.strKind P w) es.toList := goodS_elems g
  unfold setAddHashed setAddHashedIn
  refine wpAny_holding (wpAny_bind (wpAny_setState_of ho hd hf ?_))
  dsimp only
  rw [byScan_of hsc hb hel]
  simp only [↓reduceIte]
  unfold setAddByScan
  refine wpAny_bind ?_
  refine wpAny_bind (wpAny_rule ?_)
  refine wpAny_bind (wpAny_setScan_of hkey ho hd hf hel ?_)
  cases hfi : List.findIdx? (fun e => (PySem.strKind P w).is k e.2) es.toList with
  | some j =>
    dsimp only
    obtain ⟨hj, pj, _⟩ := List.findIdx?_eq_some_iff_getElem.mp hfi
    have hSk : S k = true := (hm k).2 ((goodS_mem (P := P) (w := w) g k).2 ⟨es.toList[j], List.getElem_mem hj, pj⟩)
    refine wpAny_pure (wpAny_pure ?_)
    have q := hQ s.heap (Heap.SameBut.refl a s.heap) ⟨o, es, ep, t, ho, hex, hd, g, nd, fun i => by
      rw [Bool.or_eq_true, decide_eq_true_eq, ← hm i]
      exact ⟨fun z => z.elim id (fun e => e ▸ hSk), .inl⟩, hb, hf, by rw [if_pos hSk]; exact hn, hr, hl⟩
    rw [hSk] at q
    exact q
  | none =>
    dsimp only
    have hnk : k ∉ es.toList.map keyS := fun z => by
      obtain ⟨e, he, q⟩ := (goodS_mem (P := P) (w := w) g k).1 z
      have c := List.findIdx?_eq_none_iff.mp hfi e he
      rw [q] at c
      cases c
    have hSk : S k = false := by
      cases q : S k with
      | false => rfl
      | true => exact absurd ((hm k).1 q) hnk
    have hgw : ∀ (b : Bool) {s₁ : Shared} {Q' : Unit → Shared → Prop}, Q' () s₁ → wpAny (model P w) A (match b with | true => rule "set.scan.the-table-gave-way" | false => pure ()) Q' E s₁ :=
      fun b s₁ Q' q => by cases b <;> first | exact wpAny_pure q | exact wpAny_rule q
    have pm := layNew_perm t es ((PySem.strKind P w).hash k) (.str k tk)
    have hf1 := layNew_fits t es ((PySem.strKind P w).hash k) (.str k tk)
    have hr1 := layNew_ris t es ((PySem.strKind P w).hash k) (.str k tk) hr
    have hl1 := layNew_led t es ((PySem.strKind P w).hash k) (.str k tk)
    generalize layNew t es ((PySem.strKind P w).hash k) (.str k tk) = Z at pm hf1 hr1 hl1 ⊢
    obtain ⟨es1, t1, wasDummy, gave⟩ := Z
    dsimp only at pm hf1 hr1 hl1 ⊢
    rw [Array.toList_push] at pm
    have pc : es1.toList.Perm (((PySem.strKind P w).hash k, Value.str k tk) :: es.toList) := pm.trans (List.perm_append_singleton _ _)
    have pk : (es1.toList.map keyS).Perm (k :: es.toList.map keyS) := pc.map keyS
    have g1 : ∀ e ∈ es1.toList, GoodS w e := fun e he => by
      rcases List.mem_cons.mp (pc.mem_iff.mp he) with z | z
      · rw [z]; exact ⟨k, tk, rfl, rfl⟩
      · exact g e z
    have nd1 : (es1.toList.map keyS).Nodup := pk.nodup_iff.mpr (List.nodup_cons.mpr ⟨hnk, nd⟩)
    have m1 : ∀ i, (S i || decide (i = k)) = true ↔ i ∈ es1.toList.map keyS := fun i => by
      rw [Bool.or_eq_true, decide_eq_true_eq, hm i, pk.mem_iff, List.mem_cons]
      exact Or.comm
    have hsz : es1.size = n + 1 := by rw [← Array.length_toList, pc.length_eq, List.length_cons, Array.length_toList, hn]
    have hb1 : es1.size < scanBound := by rw [hsz]; exact room
    have hled : w.params.followText "set-order" = true ∨ t1.led = true := hl.imp id fun z => by rw [hl1]; exact z
    have fin : ∀ h', Heap.SameBut a s.heap h' → SetS w h' a (fun j => S j || decide (j = k)) es1.size → Q true { s with heap := h' } := fun h' sb r => by
      have q := hQ h' sb
      rw [hSk] at q
      rw [hsz] at r
      exact q r
    refine wpAny_bind (hgw _ ?_)
    split
    · refine wpAny_bind ?_
      rw [hashByValue_scannable 8 hsc]
      refine wpAny_pure ?_
      refine setS_add_tail ?_ ho hex hd g1 nd1 m1 hb1 ?_ ?_ ?_ ?_
      · intro b s₁ Q' q; cases b <;> first | exact wpAny_pure q | exact wpAny_rule q
      · first | (split <;> first | exact hf1 | exact SetTable.fits_plain_off hf1) | exact hf1
      · first | (split <;> exact hr1) | exact hr1
      · first | (split <;> exact hled) | exact hled
      · intro h' sb r; dsimp only; exact wpAny_pure (fin h' sb r)
    · refine wpAny_bind (wpAny_pure ?_)
      simp only [↓reduceIte]
      refine setS_add_tail ?_ ho hex hd g1 nd1 m1 hb1 hf1 hr1 hled ?_
      · intro b s₁ Q' q; cases b <;> first | exact wpAny_pure q | exact wpAny_rule q
      · intro h' sb r; dsimp only; exact wpAny_pure (fin h' sb r)

end
/-! ### set(t) of a tuple of ints -/
theorem setS_new_at {w : World} {h : Heap} {a : Addr} {ns : List Str} (ho : h.get? a = some { cls := .type "set", dict := none, data := .set #[] 0 (.fresh 0 0 (!w.params.followText "set-order")) }) : SetS w h a (fun j => decide (j ∈ ns.take 0)) 0 :=
  ⟨_, #[], 0, _, ho, ⟨rfl, rfl, rfl⟩, rfl, (fun e he => by simp at he), (by simp), (fun k => by simp), (by decide), (by rfl), rfl, List.Pairwise.nil, by
    show _ ∨ (!w.params.followText "set-order") = true
    cases w.params.followText "set-order"
    · exact .inr rfl
    · exact .inl rfl⟩
section
variable {P : Program} {w : World} {A : Around} {E : Value → Shared → Prop} {s : Shared}
theorem set_update_strs {I : Addr} {fp wr : List Addr} {G : Array GenState → Array GenState → Prop} {n : Nat} {Pv : Nat → Value → Prop} {St : Nat → Shared → Prop} {R : Result → Shared → Prop}
    (W : WalksS P w A.in1 I fp wr G n Pv St) (S : Addr) (hSf : S ∉ fp) (ns : List Str) (hn : n = ns.length) (hb : ns.length + 1 < scanBound) (hval : ∀ i v, Pv i v → ∃ k t, ns[i]? = some k ∧ v = .str k t) :
    ∀ (k i : Nat) (s : Shared), n - i = k → i ≤ n → St i s → (∃ c, c ≤ i ∧ SetS w s.heap S (fun j => decide (j ∈ ns.take i)) c) →
      (∀ s' c, Moved (S :: wr) G s s' → c ≤ n → SetS w s'.heap S (fun j => decide (j ∈ ns)) c → R (.ok (.ret .none)) s') →
      codeAny (model P w) A (.builtin "set.update.loop" ⟨[.ref S, .ref I], []⟩) R s := by
  have hSw : S ∉ wr := fun h => hSf (W.sub _ h)
  have hsub : ∀ b ∈ wr, b ∈ S :: wr := fun b hb => List.mem_cons_of_mem _ hb
  intro k
  induction k with
  | zero =>
    intro i s hk' hi hst ⟨c, hc, hS⟩ hR
    have hin : i = n := by omega
    subst hin
    refine codeAny_builtin F.entry_set_update_loop ?_
    rw [Around.under_plainId F.plain_set_update_loop _]
    show wpAny _ A.in1 (pyNext (.ref I) >>= _) _ _ s
    refine wpAny_bind (W.done s _ _ hst fun s' hm => ?_)
    show wpAny _ A.in1 (ret Value.none) _ _ s'
    have e : ns.take i = ns := List.take_of_length_le (by omega)
    rw [e] at hS
    exact wpAny_pure (hR s' c (hm.mono hsub) hc (hS.at fun o e => hm.heap S o hSw e))
  | succ k ih =>
    intro i s hk' hi hst ⟨c, hc, hS⟩ hR
    have hlt : i < n := by omega
    refine codeAny_builtin F.entry_set_update_loop ?_
    rw [Around.under_plainId F.plain_set_update_loop _]
    show wpAny _ A.in1 (pyNext (.ref I) >>= _) _ _ s
    refine wpAny_bind (W.item i s _ _ hlt hst fun v s' hP hst' hm => ?_)
    obtain ⟨z, t, hz, rfl⟩ := hval i v hP
    have hS' : SetS w s'.heap S (fun j => decide (j ∈ ns.take i)) c := hS.at fun o e => hm.heap S o hSw e
    show wpAny _ A.in1 (holding [Value.str z t] (setAdd S (.str z t)) >>= _) _ _ s'
    refine wpAny_bind (wpAny_holding ?_)
    unfold setAdd
    refine wpAny_holding ?_
    refine wpAny_bind ((PySem.strKind P w).pyHash (k := z) (PySem.strKind_is _ _ _ _) ?_)
    refine setS_add_hashed (s := { s' with toks := s'.toks + 1 }) hS' (by omega) fun h' hsb hS2 => ?_
    have hS3 : SetS w h' S (fun j => decide (j ∈ ns.take (i + 1))) (if decide (z ∈ ns.take i) = true then c else c + 1) := hS2.congr fun j => by
      rw [List.take_add_one, hz]
      simp [List.mem_append]
    have hc3 : (if decide (z ∈ ns.take i) = true then c else c + 1) ≤ i + 1 := by
      split <;> omega
    refine wpAny_pure ⟨plainId_quiet F.plain_set_update_loop _, ih (i + 1) _ (by omega) hlt (W.frame _ s' _ _ hst' (Nat.le_succ _) fun b hb o e => ?_) ⟨_, hc3, hS3⟩ fun s'' c2 hm'' hc'' hS'' => ?_⟩
    · rw [hsb.2 b (fun h : b = S => hSf (by rw [← h]; exact hb))]; exact e
    · refine hR s'' c2 (Moved.trans W.gtrans ((hm.mono hsub).then_heap (Nat.le_succ _) fun b o hb e => ?_) hm'') hc'' hS''
      rw [hsb.2 b (fun h : b = S => hb (by rw [h]; exact List.mem_cons_self))]; exact e

set_option maxRecDepth 100000 in
set_option maxHeartbeats 3200000 in
theorem call_set_lstS {l : Addr} {items : Array Value} (ns : List Str) {Q : Value → Shared → Prop} (hh : A.handled = none) (hl : s.heap.IsList l items) (hit : StrsAre items.toList ns) (hb : ns.length + 1 < scanBound)
    (h : ∀ (h' : Heap) (tk c : Nat), SetS w h' s.heap.objs.size (fun j => decide (j ∈ ns)) c → c ≤ ns.length → (∀ b o, s.heap.get? b = some o → h'.get? b = some o) → Q (.ref s.heap.objs.size) { s with heap := h', toks := tk }) :
    wpAny (model P w) A (call (.type "set") [.ref l]) Q E s := by
  have hisz : items.size = ns.length := by
    have q := StrsAre.length hit
    rw [Array.length_toList] at q
    exact q
  obtain ⟨c, tl, hmro⟩ := F.called_set.mro
  have hmade := F.called_set.made
  have hsub := F.called_set.sub
  refine wpAny_call (codeAny_of_tree ?_)
  show wpAny _ _ (callAny (.type "set") _) _ _ _
  refine wpAny_pure ⟨Code.quiet_builtin _ (by decide +kernel), codeAny_builtin F.entry_type_call ?_⟩
  rw [Around.under_plain (weight_type_call_type "set" [.ref l] []) rfl]
  have h1 := F.called_set.notType
  have h2 := F.called_set.canCreate
  have hct := F.typeCall_set_1 (.ref l)
  repeat (any_goals (first | assumption | wp_step))

  refine codeAny_mono (code_set_led1 (.ref l) (E := E) (Q₁ := fun obj s₁ => obj = .ref s.heap.objs.size ∧ s₁ = { s with heap := s.heap.push { cls := .type "set", dict := none, data := .set #[] 0 (.fresh 0 0 (!w.params.followText "set-order")) } }) ⟨rfl, rfl⟩) fun r s₁ hr => ?_
  cases r with
  | error e => exact hr
  | ok fl =>
    cases fl with
    | ret obj =>
      obtain ⟨rfl, rfl⟩ := hr
      have hS : (s.heap.push { cls := .type "set", dict := none, data := .set #[] 0 (.fresh 0 0 (!w.params.followText "set-order")) }).get? s.heap.objs.size = some { cls := .type "set", dict := none, data := .set #[] 0 (.fresh 0 0 (!w.params.followText "set-order")) } := Heap.get?_push_size _ rfl
      have hT : Shared.TypeIs { s with heap := s.heap.push { cls := .type "set", dict := none, data := .set #[] 0 (.fresh 0 0 (!w.params.followText "set-order")) } } (.ref s.heap.objs.size) "set" := ⟨_, hS, rfl⟩
      have hli := F.called_set.init.lookup
      have hbi := F.called_set.init.bind (.ref s.heap.objs.size)
      repeat (any_goals (first | assumption | wp_step))

      refine codeAny_mono (codeAny_call_builtin (R := wants (fun r s₂ => r = .none ∧ ∃ h' tk c, s₂ = { s with heap := h', toks := tk } ∧ SetS w h' s.heap.objs.size (fun j => decide (j ∈ ns)) c ∧ c ≤ ns.length ∧
          (∀ b o, s.heap.get? b = some o → h'.get? b = some o)) E) F.called_set.init.plain F.entry_set_init (check_set_init_1 hT ?_)) fun r₂ s₂ hr₂ => ?_
      · obtain ⟨ol, hol, hcl, nl, hdl⟩ := hl
        obtain ⟨ocls, odict, odata, oslots⟩ := ol
        simp only at hcl hdl
        subst hcl; subst hdl
        have hol' : (s.heap.push { cls := .type "set", dict := none, data := .set #[] 0 (.fresh 0 0 (!w.params.followText "set-order")) }).get? l = some { cls := .type "list", dict := odict, data := .seq items nl, slots := oslots } := Heap.get?_push_of_some _ hol
        have hsls := F.sub_list_set
        have hslf := F.sub_list_frozenset
        have hne : (Value.type "list" == Value.type "dict") = false := by decide
        have hl1 : (s.heap.push { cls := .type "set", dict := none, data := .set #[] 0 (.fresh 0 0 (!w.params.followText "set-order")) }).IsList l items := ⟨_, hol', rfl, nl, rfl⟩
        unfold Builtin.«set.__init__» noKeywords Builtin.Frozenset.updateFrom
        generalize hPI : pyIter = PI
        wp_walk
        subst hPI

        refine wpAny_pyIter_list hl1 ?_
        refine wpAny_bind (wpAny_runValue ?_)
        have hlS : l < s.heap.objs.size := Heap.lt_size hol
        have hh3 : A.in1.in1.in1.handled = none := by simp [hh]
        have hz1 : (s.heap.push { cls := .type "set", dict := none, data := .set #[] 0 (.fresh 0 0 (!w.params.followText "set-order")) }).objs.size = s.heap.objs.size + 1 := Heap.size_push ..
        have hneI : l ≠ (s.heap.push { cls := .type "set", dict := none, data := .set #[] 0 (.fresh 0 0 (!w.params.followText "set-order")) }).objs.size := by
          rw [Heap.size_push]; exact Nat.ne_of_lt (Nat.lt_succ_of_lt hlS)
        have hSf : s.heap.objs.size ∉ [(s.heap.push { cls := .type "set", dict := none, data := .set #[] 0 (.fresh 0 0 (!w.params.followText "set-order")) }).objs.size, l] := by
          rw [Heap.size_push]; simp only [List.mem_cons, List.mem_singleton, List.not_mem_nil, or_false, not_or]
          exact ⟨Nat.ne_of_lt (Nat.lt_succ_self _), Nat.ne_of_gt hlS⟩
        have hval : ∀ (i : Nat) (v : Value), items[i]? = some v → ∃ k t, ns[i]? = some k ∧ v = .str k t := fun i v hv => by
          have hi : i < ns.length := by rw [← hisz]; exact (Array.getElem?_eq_some_iff.mp hv).1
          obtain ⟨t, e⟩ := SS.strs_at hit i v (by rw [Array.getElem?_toList]; exact hv)
          refine ⟨ns[i], t, List.getElem?_eq_getElem hi, ?_⟩
          rw [e, List.getD_eq_getElem?_getD, List.getElem?_eq_getElem hi] <;> rfl
        refine set_update_strs ((Walks.list hh3 _ l hneI items).toS) s.heap.objs.size
          hSf ns hisz hb hval (items.size - 0) 0 _ (by omega) (Nat.zero_le _)
          ⟨⟨_, Heap.get?_push_size _ rfl, rfl, rfl⟩, (hl1.push _)⟩ ?hS0 ?hR
        case hS0 =>
          have hget : ((s.heap.push { cls := .type "set", dict := none, data := .set #[] 0 (.fresh 0 0 (!w.params.followText "set-order")) }).push { cls := .type "list_iterator", data := .fields #[.ref l, .int 0 0] }).get? s.heap.objs.size
              = some { cls := .type "set", dict := none, data := .set #[] 0 (.fresh 0 0 (!w.params.followText "set-order")) } := Heap.get?_push_of_some _ hS
          exact ⟨0, Nat.le_refl 0, setS_new_at hget⟩
        case hR =>
          intro s' c' hm hc' hS'
          obtain ⟨h', g2, d', tk', os'⟩ := s'
          have eg : g2 = s.gens := hm.gens
          have ed : d' = s.drawn := hm.drawn
          have eo : os' = s.os := hm.os
          subst eg; subst ed; subst eo
          show wpAny _ _ _ _ _ _
          refine wpAny_pure ?_
          show wpAny _ _ (ret Value.none) _ _ _
          rw [hisz] at hc'
          refine wpAny_pure ⟨rfl, h', tk', c', rfl, hS', hc', fun b o e => ?_⟩
          have hb0 : b < s.heap.objs.size := Heap.lt_size e
          have hb1 : b ≠ s.heap.objs.size := Nat.ne_of_lt hb0
          have hb2 : b ≠ (s.heap.push { cls := .type "set", dict := none, data := .set #[] 0 (.fresh 0 0 (!w.params.followText "set-order")) }).objs.size := by
            rw [Heap.size_push]; exact Nat.ne_of_lt (Nat.lt_succ_of_lt hb0)
          exact hm.heap b o (by simp only [List.mem_cons, List.mem_singleton, List.not_mem_nil, or_false, not_or]; exact ⟨hb1, hb2⟩) (Heap.get?_push_of_some _ (Heap.get?_push_of_some _ e))

      · cases r₂ with
        | error e => exact hr₂
        | ok fl₂ =>
          cases fl₂ with
          | ret r =>
            obtain ⟨rfl, h', tk, c', rfl, hS', hc', hk'⟩ := hr₂
            repeat (any_goals (first | assumption | wp_step))
            exact h _ _ _ hS' hc' hk'
          | _ => exact hr₂.elim
    | _ => exact hr.elim

end

section
variable {P : Program} {w : World} {A : Around} {E : Value → Shared → Prop} {s : Shared} {a : Addr} {S : Str → Bool} {n : Nat}
theorem strs_of : ∀ (l : List Value), (∀ v ∈ l, ∃ k tk, v = Value.str k tk) → StrsAre l (l.map strOf) := fun l h => strsAre_map l h
/-- sorted(set of texts), fewer than 64: its members, each once, ascending -/
theorem sorted_setS {Q : Value → Shared → Prop} (R : SetS w s.heap a S n) (hh : A.handled = none) (h64 : n < 64)
    (hQ : ∀ s' p (out : Array Value) (c : Nat) (ys : List Str), (∀ b o, s.heap.get? b = some o → s'.heap.get? b = some o) → s'.gens = s.gens → s'.os = s.os → s.heap.objs.size ≤ p →
      s'.heap.get? p = some (seqObj "list" out c) → StrsAre out.toList ys → sortedS ys = true → ys.Nodup → (∀ k, k ∈ ys ↔ S k = true) → ys.length = n → Q (.ref p) s') :
    wpAny (model P w) A (call (.builtin "sorted") [.ref a]) Q E s := by
  obtain ⟨o, es, ep, t, ho, hex, hd, g, nd, hm, hb, hf, hn, hr, hl⟩ := R
  refine Calls.call_function_entry kind_sorted plain_sorted entry_sorted (args_sorted1 _) ?_
  unfold Builtin.«sorted»
  refine wpAny_bind (m := checkCount "sorted" 1 1 _) (wpAny_pure ?_)
  refine wpAny_bind (collect_set (A := A.in1) hh ⟨o, ho, hex.1, hd⟩ hf hb hr hl fun s1 vs k1 hz g1 o1 pm => ?_)
  have hvl : vs.length = n := by rw [pm.length_eq, List.length_map, Array.length_toList]; exact hn
  have hI : StrsAre vs (vs.map strOf) := strs_of vs fun v hv => by
    obtain ⟨e, he, q⟩ := List.mem_map.mp (pm.mem_iff.mp hv)
    obtain ⟨k, tk, h1, _⟩ := g e he
    exact ⟨k, tk, by rw [← q]; exact h1⟩
  have pk : (vs.map strOf).Perm (es.toList.map keyS) := by
    have q := pm.map strOf
    rw [List.map_map] at q
    refine q.trans (List.Perm.of_eq (List.map_congr_left fun e he => ?_))
    obtain ⟨k, tk, h1, _⟩ := g e he
    show strOf e.2 = keyS e
    unfold keyS
    rw [h1]
    rfl
  refine wpAny_bind (wpAny_newList ?_ (by rw [hvl, sizeLine_eq]; omega))
  have hoL : (s1.heap.push (seqObj "list" vs.toArray 0)).get? s1.heap.objs.size = some (seqObj "list" vs.toArray 0) := Heap.get?_push_size _ rfl
  refine wpAny_bind (wpAny_holding (wpAny_call_entry slot_list_sort ⟨_, hoL, rfl⟩ entry_list_sort (list_sort_treeK strKind_oneLt hoL hI.keysOf (fun v₁ v₂ rest e => keyKind_strs (by rw [← e]; exact hI)) (by rw [hvl]; exact h64) fun st' b1 b2 => ⟨_, rfl, ?_⟩) (args_list_sort _)))
  obtain ⟨ys, a1, a2, a3⟩ := sorted_out_str hI b1 b2
  obtain ⟨c, hc⟩ := sortedHeap_at (vs := vs) (out := (arrOf st').map (·.2)) hoL
  have pn : ys.Perm (es.toList.map keyS) := a2.trans pk
  refine wpAny_pure ⟨_, rfl, hQ _ s1.heap.objs.size _ c ys (fun b u e => ?_) g1 o1 hz hc a1 a3 (pn.nodup_iff.mpr nd) (fun k => by rw [pn.mem_iff, ← hm k]) ?_⟩
  · have q := k1 b u e
    have hlt := Heap.lt_size q
    show (sortedHeap (s1.heap.push (seqObj "list" vs.toArray 0)) s1.heap.objs.size vs ((arrOf st').map (·.2))).get? b = some u
    rw [sortedHeap_old (Nat.ne_of_lt hlt) (by rw [size_push']; exact Nat.lt_succ_of_lt hlt)]
    exact Heap.get?_push_of_some _ q
  · rw [pn.length_eq, List.length_map, Array.length_toList]; exact hn
end
/-! ### over the layer -/
def SetT (w : World) (a : Addr) (S : Str → Bool) (n : Nat) : HO := .ext fun h => SetS w h a S n
section
variable {X : Cx}
/-- set(a list of texts) -/
def rSetL (K : PySem.W.Frag) (w : World) : List V → Hp → VK → Prop := fun vs H Q => ∃ (l : Addr) (xs : List Str), vs = [V.ref l] ∧ SqL K H l (xs.map V.str) ∧ xs.length ≤ 63 ∧
  ∀ (p : Addr) (n : Nat), n ≤ xs.length → H p = none → Q (.ref p) (upd H p (SetT w p (fun k => decide (k ∈ xs)) n))
theorem cr_setL (hc : X.calm = true) : CallR X (.type "set") (rSetL X.K X.w) := by
  intro pins s σ H vs us Q I r h
  obtain ⟨l, xs, rfl, hs, h64, q⟩ := h
  obtain ⟨its, rv, hl, _⟩ := I.list hs
  rw [Vals.ref1 r]
  refine call_set_lstS xs (I.ok.hd hc) hl.isList (by simpa using strsAre_of rv) (by unfold scanBound; omega) fun h' tk c hS hn hk => ?_
  have ob : ObjOk X.prog X.w (upd H s.heap.objs.size (SetT X.w s.heap.objs.size (fun k => decide (k ∈ xs)) c)) h' s.heap.objs.size (SetT X.w s.heap.objs.size (fun k => decide (k ∈ xs)) c) := by
    obtain ⟨o, _, _, _, ho, _⟩ := id hS
    exact ⟨hS, ⟨o, ho⟩, fun h1 h2 p k => SetS.at p k⟩
  exact ⟨.ref _, _, I.laid (t' := tk) hk (Nat.le_refl _) ob, rfl, q _ c hn (I.hok.fresh (Nat.le_refl _))⟩
/-- sorted(a set of texts) -/
def rSortT (w : World) : List V → Hp → VK → Prop := fun vs H Q => ∃ (a : Addr) (S : Str → Bool) (n : Nat), vs = [V.ref a] ∧ H a = some (SetT w a S n) ∧ n < 64 ∧
  ∀ (ys : List Str) (p : Addr), sortedS ys = true → ys.Nodup → (∀ k, k ∈ ys ↔ S k = true) → ys.length = n → H p = none → Q (.ref p) (upd H p (.lst (ys.map V.str)))
theorem cr_sortT (hc : X.calm = true) : CallR X (.builtin "sorted") (rSortT X.w) := by
  intro pins s σ H vs us Q I r h
  obtain ⟨a, S, n, rfl, ha, h64, q⟩ := h
  have R : SetS X.w s.heap a S n := (I.hok a _ ha).1
  rw [Vals.ref1 r]
  refine sorted_setS R (I.ok.hd hc) h64 fun s' p out c ys k g o hp hg hi hs nd hm hl => ?_
  have hlen : (ys.map V.str).length ≤ sizeLine := by rw [List.length_map, hl, sizeLine_eq]; omega
  have hn : H p = none := I.hok.fresh hp
  have J : Inv X pins σ (upd H p (.lst (ys.map V.str))) { s with heap := s'.heap, gens := s'.gens, drawn := s'.drawn, toks := s'.toks } :=
    I.call (ch := []) (Un.laid k hp hn) (I.hok.laid k hp ⟨hlen, out.toList, c, vals_of_strs hi, hg⟩) (by rw [g]; exact I.bare) (fun _ z => nomatch z)
  have e : s' = { s with heap := s'.heap, gens := s'.gens, drawn := s'.drawn, toks := s'.toks } := by
    cases s'
    cases s
    cases o
    rfl
  rw [e]
  exact ⟨.ref p, _, J, rfl, q ys p hs nd hm hl hn⟩
end
end L2.Wk
namespace L2.Wk
open PySem PySem.Spec PyProof.Rows
section
variable {X : Cx} {K : PySem.W.Frag}
theorem ix_tupK (h : X.K = K) : IxR X (rIxT K) := h ▸ ix_tup
end
theorem ite_bool {b : Bool} {A B : Prop} (h1 : b = true → A) (h2 : b = false → B) : if b = true then A else B := by
  cases b with
  | true => exact iteT (h1 rfl)
  | false => exact iteF (h2 rfl)
theorem get_map_str {zs : List Str} {i : Nat} {x : V} (h : (zs.map V.str)[i]? = some x) : ∃ z, z ∈ zs ∧ zs[i]? = some z ∧ x = V.str z := by
  rw [List.getElem?_map] at h
  cases e : zs[i]? with
  | none => rw [e] at h; cases h
  | some z => rw [e] at h; exact ⟨z, List.mem_of_getElem? e, rfl, (Option.some.inj h).symm⟩
theorem get_map_ref {zs : List Addr} {i : Nat} {x : V} (h : (zs.map V.ref)[i]? = some x) : ∃ z, zs[i]? = some z ∧ x = V.ref z := by
  rw [List.getElem?_map] at h
  cases e : zs[i]? with
  | none => rw [e] at h; cases h
  | some z => rw [e] at h; exact ⟨z, rfl, (Option.some.inj h).symm⟩
/-- xs[i:j] within the list -/
theorem cut_mid (xs : List V) (i j : Nat) : cutV xs (some (i : Int)) (some (j : Int)) = (xs.drop (min i xs.length)).take (min j xs.length - min i xs.length) := by
  unfold cutV
  rw [HT.sIx_nat, HT.sIx_nat]
theorem cut_from (xs : List V) (i : Nat) : cutV xs (some (i : Int)) none = xs.drop i := by
  unfold cutV
  rw [HT.sIx_nat, HT.sIx_none]
  by_cases h : i ≤ xs.length
  · have e : min i xs.length = i := by omega
    rw [e, List.take_of_length_le (by rw [List.length_drop]; omega)]
  · have e : min i xs.length = xs.length := by omega
    rw [e, List.drop_of_length_le (by omega), List.drop_of_length_le (by omega)]
    simp
theorem cut_to (xs : List V) (j : Nat) : cutV xs none (some (j : Int)) = xs.take j := by
  unfold cutV
  rw [HT.sIx_nat, HT.sIx_none]
  simp [List.take_eq_take_iff]
theorem cut_mem {xs : List V} {lo hi : Option Int} {x : V} (h : x ∈ cutV xs lo hi) : x ∈ xs := List.mem_of_mem_drop (List.mem_of_mem_take h)
theorem app_len (a b : Str) : (a ++ b).length = a.length + b.length := by
  show (Str.append a b).cps.size = a.cps.size + b.cps.size
  exact Array.size_append
theorem snoc_ind {α : Type} {P : List α → Prop} (h0 : P []) (h1 : ∀ xs x, P xs → P (xs ++ [x])) : ∀ l, P l := fun l => by
  have : ∀ (n : Nat) (l : List α), l.length = n → P l := by
    intro n
    induction n with
    | zero => intro l hl; rw [List.eq_nil_of_length_eq_zero hl]; exact h0
    | succ n ih =>
      intro l hl
      have hne : l ≠ [] := by intro e; rw [e] at hl; cases hl
      have e := List.dropLast_concat_getLast hne
      rw [← e]
      exact h1 _ _ (ih _ (by rw [List.length_dropLast]; omega))
  exact this l.length l rfl
/-- a slice, of any items -/
def cutL {α : Type} (xs : List α) (lo hi : Option Int) : List α := (xs.drop (HT.sIx xs.length 0 lo)).take (HT.sIx xs.length xs.length hi - HT.sIx xs.length 0 lo)
theorem cut_map {α : Type} (f : α → V) (xs : List α) (lo hi : Option Int) : cutV (xs.map f) lo hi = (cutL xs lo hi).map f := by
  unfold cutV cutL
  rw [List.length_map, List.map_take, List.map_drop]
theorem cutL_mem {α : Type} {xs : List α} {lo hi : Option Int} {x : α} (h : x ∈ cutL xs lo hi) : x ∈ xs := List.mem_of_mem_drop (List.mem_of_mem_take h)
theorem cutL_len {α : Type} (xs : List α) (i j : Nat) : (cutL xs (some (i : Int)) (some (j : Int))).length = min j xs.length - min i xs.length := by
  unfold cutL
  rw [HT.sIx_nat, HT.sIx_nat, List.length_take, List.length_drop]
  omega
theorem cutL_len0 {α : Type} (xs : List α) (j : Nat) : (cutL xs none (some (j : Int))).length = min j xs.length := by
  unfold cutL
  rw [HT.sIx_nat, HT.sIx_none, List.length_take, List.length_drop]
  omega
/-- pairs of what stands and what it says -/
def AllAt {α : Type} (R : V → α → Prop) : List V → List α → Prop
  | [], [] => True
  | v :: vs, x :: xs => R v x ∧ AllAt R vs xs
  | [], _ :: _ => False
  | _ :: _, [] => False
theorem AllAt.len {α : Type} {R : V → α → Prop} : ∀ {vs : List V} {xs : List α}, AllAt R vs xs → vs.length = xs.length
  | [], [], _ => rfl
  | _ :: _, _ :: _, h => congrArg Nat.succ (AllAt.len h.2)
  | [], _ :: _, h => h.elim
  | _ :: _, [], h => h.elim
theorem AllAt.imp {α : Type} {R S : V → α → Prop} (f : ∀ v x, R v x → S v x) : ∀ {vs : List V} {xs : List α}, AllAt R vs xs → AllAt S vs xs
  | [], [], _ => True.intro
  | _ :: _, _ :: _, h => ⟨f _ _ h.1, AllAt.imp f h.2⟩
  | [], _ :: _, h => h.elim
  | _ :: _, [], h => h.elim
theorem AllAt.app {α : Type} {R : V → α → Prop} : ∀ {vs ws : List V} {xs ys : List α}, AllAt R vs xs → AllAt R ws ys → AllAt R (vs ++ ws) (xs ++ ys)
  | [], _, [], _, _, h => h
  | _ :: _, _, _ :: _, _, h, h' => ⟨h.1, AllAt.app h.2 h'⟩
  | [], _, _ :: _, _, h, _ => h.elim
  | _ :: _, _, [], _, h, _ => h.elim
theorem AllAt.get {α : Type} {R : V → α → Prop} : ∀ {vs : List V} {xs : List α} {i : Nat} {v : V}, AllAt R vs xs → vs[i]? = some v → ∃ x, xs[i]? = some x ∧ R v x
  | _ :: _, _ :: _, 0, _, h, e => by
    cases (Option.some.inj e)
    exact ⟨_, rfl, h.1⟩
  | _ :: _, _ :: _, i + 1, _, h, e => AllAt.get (i := i) h.2 e
  | [], _, _, _, _, e => by cases e
  | _ :: _, [], _, _, h, _ => h.elim
end L2.Wk
namespace L2.Wk
open PySem PySem.Spec PyProof.Rows
section
variable {prog : Program} {w : World} {A : Around} {E : Value → Shared → Prop} {s : Shared} {K : PySem.W.Frag} {x C f : Addr} {ox : Obj} {odd : Option Obj}
theorem str_from {Q : Value → Shared → Prop} (hu : A.units < cLine) (X : K.In s.heap) (I : PySem.W.InstAt s.heap x ox C odd) (hs : PySem.W.findIn K (.ref C) "__str__" = some (some (.ref f))) (hf : PySem.W.isFn K (.ref f) = true)
    (h : wpAny (model prog w) A (call (.ref f) [.ref x]) (fun r s₁ => ∃ z t, r = Value.str z t ∧ Q r s₁) E s) : wpAny (model prog w) A (Builtin.Str.strOf (.ref x)) Q E s := by
  unfold Builtin.Str.strOf
  refine PySem.W.KFB.if_not rfl ?_
  refine wpAny_bind (wpAny_cRoomFor hu ?_)
  refine wpAny_bind (m := callSpecial? (.ref x) (Str.ofString "__str__")) (PySem.W.special_fn X I hs (beq_iff_eq.mp hf) (wpAny_mono h (fun r s' hr => ?_) fun _ _ y => y))
  obtain ⟨z, t, rfl, hq⟩ := hr
  exact wpAny_pure hq
theorem str_own {Q : Value → Shared → Prop} (hu : A.in1.in1.units < cLine) (X : K.In s.heap) (I : PySem.W.InstAt s.heap x ox C odd) (hs : PySem.W.findIn K (.ref C) "__str__" = some (some (.ref f))) (hf : PySem.W.isFn K (.ref f) = true)
    (h : wpAny (model prog w) A.in1.in1 (call (.ref f) [.ref x]) (fun r s₁ => ∃ z t, r = Value.str z t ∧ Q r s₁) E s) : wpAny (model prog w) A (call (.type "str") [.ref x]) Q E s := by
  refine callType_newIn (S := fun A' R s' => wpAny (model prog w) A'.in1 (Builtin.Str.strOf (.ref x)) (fun r s'' => R (.ok (.ret r)) s'') (fun e s'' => R (.error e) s'') s') F.called_str (by decide) (F.typeCall_str_1 _) (F.newCall_str_1 _) (fun obj => F.args_object_init_2 obj _) F.entry_str_new (.of_wp fun A' R s' h' => ?_) ?_
  · rw [str_new_tree]
    refine wpAny_bind (wpAny_pure ?_)
    refine wpAny_bind (wpAny_of_eq isSubtype_str_str ?_)
    exact wpAny_bind (wpAny_mono h' (fun r s' h' => wpAny_pure ⟨_, rfl, h'⟩) fun _ _ e => e)
  · refine str_from hu X I hs hf (wpAny_mono h (fun r s₁ hr => ?_) fun _ _ y => y)
    obtain ⟨z, t, rfl, hq⟩ := hr
    exact ⟨z, t, rfl, typeIs_str _ _ _, hq⟩
end
section
variable {X : Cx} {CX : CXT} {pins : List (Addr × Obj)} {σ : L2.St} {H : Hp} {s : Shared} {C f : Addr} {fd : FuncData} {ps : List Str} {n : Nat} {sp : Sp} {E : XK}
/-- the callee runs below the running body -/
theorem run_ok {A : Around} {Q : VK} {us : List Value} {ws : List V} (F : FnOk X.prog X.w X.K X.mg X.base CX n f fd ps sp) (hb : Binds X.K fd ps []) (hr : Room n A) (e0 : Env0 X.prog X.w X.K X.mg X.base A X.stack s H) (hx : Passes CX X E) (I : Inv X pins σ H s) (r : Vals ws us) (h : sp ws H Q E) :
    codeAny (model X.prog X.w) A (.call (.ref f) ⟨us, []⟩) (fun r s' => match r with | .ok (.ret v) => EP X pins σ Q v s' | .ok _ => False | .error e => X.xe e s') s := by
  have hl := F.len _ _ _ _ h
  refine codeAny_mono (F.run A X.stack s H ⟨us, []⟩ us ws Q E hr e0 (by
    have := hb s us I.kIn (by rw [List.append_nil, ← r.length]; exact hl)
    simpa using this) r h) fun r s' hq => ?_
  cases r with
  | error e => exact hx pins σ H s e s' I hq
  | ok fl =>
    cases fl with
    | ret u => exact I.after hq
    | next => exact False.elim hq
    | brk => exact False.elim hq
    | cont => exact False.elim hq
/-- str(x) of an instance by its own __str__ -/
def rStrOwn (C : Addr) (sp : Sp) (E : XK) : List V → Hp → VK → Prop := fun xs H Q => ∃ a dx fs, xs = [V.ref a] ∧ H a = some (.ins C dx fs) ∧ sp [.ref a] H (fun z H' => ∃ y, z = .str y ∧ Q z H') E
theorem call_strOwn (hs : PySem.W.findIn X.K (.ref C) "__str__" = some (some (.ref f))) (hf : PySem.W.isFn X.K (.ref f) = true) (F : FnOk X.prog X.w X.K X.mg X.base CX n f fd ps sp) (hb : Binds X.K fd ps []) (hr : Room (n + 2) X.A) (hx : Passes CX X E) : CallR X (.type "str") (rStrOwn C sp E) := by
  intro pins s σ H xs us Q I r h
  obtain ⟨a, dx, fs, rfl, ha, q⟩ := h
  obtain ⟨u, rfl, ru⟩ := r.one
  cases (show u = Value.ref a from ru)
  obtain ⟨mA, J, _⟩ := ins_get I.hok ha
  obtain ⟨od, J, _⟩ := J.look
  have hr2 : Room n X.A.in1.in1 := (show Room (n + 1) X.A.in1 from Room.in1 hr).in1
  refine str_own hr2.units0 I.kIn J hs hf (wpAny_mono (wpAny_call (run_ok (us := [.ref a]) (ws := [.ref a]) F hb hr2 I.env0.in1.in1 hx I (.cons rfl .nil) q)) (fun w s' z => ?_) fun _ _ x => x)
  obtain ⟨z', H', I', rz, i, ei, qz⟩ := z
  subst ei
  obtain ⟨t, e⟩ := (show ∃ t, w = Value.str i t from rz)
  cases e
  exact ⟨i, t, rfl, .str i, H', I', ⟨t, rfl⟩, qz⟩
/-- what stands on the right of an own ==, and its type -/
inductive RgtOf (K : PySem.W.Frag) (H : Hp) (C : Addr) : V → Value → Prop where
  | str (z : Str) : RgtOf K H C (.str z) (.type "str")
  | non : RgtOf K H C .non (.type "NoneType")
  | int (i : Int) : RgtOf K H C (.int i) (.type "int")
  | ins {a D dx : Addr} {fs : List (Str × V)} (e : H a = some (.ins D dx fs)) : RgtOf K H C (.ref a) (.ref D)
  | lst {a : Addr} {xs : List V} (e : H a = some (.lst xs)) : RgtOf K H C (.ref a) (.type "list")
  | tup {a : Addr} {xs : List V} (e : H a = some (.tup xs)) : RgtOf K H C (.ref a) (.type "tuple")
  | bl (b : Bool) : RgtOf K H C (.bl b) (.type "bool")
  | fTup {a : Addr} {o : Obj} {xs : List V} (e : H a = some (.frz o (.tup xs))) : RgtOf K H C (.ref a) (.type "tuple")
  | kTup {a : Addr} {o : Obj} (e : K.lookup a = some o) (c : o.cls = .type "tuple") : RgtOf K H C (.ref a) (.type "tuple")
/-- x == y, x an instance of the class at C by its own == at f -/
def rEqOwn (K : PySem.W.Frag) (C : Addr) (sp : Sp) (E : XK) : R2 := fun x y H Q => ∃ a dx fs tb, x = .ref a ∧ H a = some (.ins C dx fs) ∧ RgtOf K H C y tb ∧ PySem.W.notFirst K C tb = true ∧ sp [.ref a, y] H Q E
theorem op_eqOwn (hs : PySem.W.findIn X.K (.ref C) "__eq__" = some (some (.ref f))) (hf : PySem.W.isFn X.K (.ref f) = true) (F : FnOk X.prog X.w X.K X.mg X.base CX n f fd ps sp) (hb : Binds X.K fd ps []) (hr : Room n X.A) (hx : Passes CX X E) :
    OpR X (compareOp .Eq) (rEqOwn X.K C sp E) := by
  intro pins s σ H x y v u Q I rx ry h
  obtain ⟨a, dx, fs, tb, rfl, ha, hy, hn, q⟩ := h
  cases (show v = Value.ref a from rx)
  obtain ⟨mA, J, _⟩ := ins_get I.hok ha
  obtain ⟨od, J, _⟩ := J.look
  obtain ⟨m, hF⟩ := I.fr
  have lk : PySem.W.Looks (model X.prog X.w) s.heap (typeOf u) tb := by
    cases hy with
    | str z => obtain ⟨t, e⟩ := (show ∃ t, u = Value.str z t from ry); cases e; exact PySem.W.Looks.of_pure rfl
    | non => cases (show u = Value.none from ry); exact PySem.W.Looks.of_pure rfl
    | int i => obtain ⟨t, e⟩ := (show ∃ t, u = Value.int i t from ry); cases e; exact PySem.W.Looks.of_pure rfl
    | bl b => cases (show u = Value.bool b from ry); exact PySem.W.Looks.of_pure rfl
    | @ins b D dy gs e =>
      cases (show u = Value.ref b from ry)
      obtain ⟨mB, J', _⟩ := ins_get I.hok e
      obtain ⟨od', J', _⟩ := J'.look
      exact J'.type
    | @lst b xs e =>
      cases (show u = Value.ref b from ry)
      obtain ⟨_, _, n, _, h1⟩ := (show ObjOk X.prog X.w H s.heap b (.lst xs) from I.hok b _ e)
      exact (PySem.W.Looks.ld h1).andThen .now
    | @tup b xs e =>
      cases (show u = Value.ref b from ry)
      obtain ⟨_, _, _, o, h1, h2, _⟩ := (show ObjOk X.prog X.w H s.heap b (.tup xs) from I.hok b _ e)
      exact h2 ▸ (PySem.W.Looks.ld h1).andThen .now
    | @kTup b o e c =>
      cases (show u = Value.ref b from ry)
      exact c ▸ (PySem.W.Looks.ld (I.kIn _ _ e)).andThen .now
    | @fTup b ob xs e =>
      cases (show u = Value.ref b from ry)
      obtain ⟨_, _, _, _, o, h1, h2, _⟩ := (show ObjOk X.prog X.w H s.heap b (.frz ob (.tup xs)) from I.hok b _ e)
      exact h2 ▸ (PySem.W.Looks.ld h1).andThen .now
  show wpAny (model X.prog X.w) X.A (richCompare .Eq (.ref a) u) (EP X pins σ Q) X.xe s
  refine PySem.W.cmp_K (op := .Eq) (tb := tb) hr.units0 hF I.ok.mod.kin J lk hn hs hf ?_
  refine wpAny_mono (wpAny_call (run_ok (us := [.ref a, u]) (ws := [.ref a, y]) F hb hr I.env0 hx I (.cons rfl (.cons ry .nil)) q)) (fun w s' z => ?_) fun _ _ x => x
  obtain ⟨z', H', I', rz, qz⟩ := z
  exact SlX.cmpback rz ⟨z', H', I', rz, qz⟩
/-- a walk over what is a list or a tuple -/
def iSeq (K : PySem.W.Frag) (tl : TE) : TI := fun σ H R => tl σ H fun x H1 => ∃ a, x = .ref a ∧ (((∃ xs, SqL K H1 a xs) ∧ R (Itl K a) H1) ∨ ((∃ xs, SqT K H1 a xs) ∧ R (Itt K a) H1))
theorem pi_seq {tg l : Expr} {tl : TE} (hl : PE X l tl) : PI X tg l (iSeq X.K tl) := by
  refine ⟨fun pins s σ H R I h => ?_⟩
  refine thn (hl.run pins s σ H _ I h) fun v s1 ⟨x, H1, I1, r1, q1⟩ => ?_
  obtain ⟨a, e, ⟨⟨xs, hq⟩, q⟩ | ⟨⟨xs, hq⟩, q⟩⟩ := q1
  · subst e
    cases r1
    obtain ⟨its, rv, p, hz⟩ := I1.list hq
    refine wpAny_pyIter_list p.isList ?_
    refine ⟨s1.heap.objs.size, [s1.heap.objs.size], _, _, H1, rfl, I1.kept (t' := s1.toks) fun b o e => Heap.get?_push_of_some _ e, turn_list a _, ⟨_, Heap.get?_push_size _ rfl, rfl, rfl⟩, fun b hb => ?_, q⟩
    have e : b = s1.heap.objs.size := by simpa using hb
    subst e
    exact I1.fpOk (Nat.le_refl _) (I1.hok.fresh (Nat.le_refl _))
  · subst e
    cases r1
    obtain ⟨its, rv, p, hz⟩ := I1.tuple hq
    refine wpAny_pyIter_tuple (show s1.heap.IsTuple a its.toArray from p) ?_
    refine ⟨s1.heap.objs.size, [s1.heap.objs.size], _, _, H1, rfl, I1.kept (t' := s1.toks) fun b o e => Heap.get?_push_of_some _ e, turn_tuple a _, ⟨_, Heap.get?_push_size _ rfl, rfl, rfl⟩, fun b hb => ?_, q⟩
    have e : b = s1.heap.objs.size := by simpa using hb
    subst e
    exact I1.fpOk (Nat.le_refl _) (I1.hok.fresh (Nat.le_refl _))
end
/-! ### a list or a tuple -/
section
variable {K : PySem.W.Frag} {H H' : Hp} {a : Addr} {xs : List V}
def Sq (K : PySem.W.Frag) (H : Hp) (a : Addr) (xs : List V) : Prop := SqL K H a xs ∨ SqT K H a xs
theorem Same.sqL (s : Same H H') (h : SqL K H a xs) : SqL K H' a xs := by
  rcases h with (h | ⟨o, h⟩) | h
  · exact .inl (.inl (s _ _ h))
  · exact .inl (.inr ⟨o, s _ _ h⟩)
  · exact .inr h
theorem Same.sq (s : Same H H') (h : Sq K H a xs) : Sq K H' a xs := h.elim (fun h => .inl (Same.sqL s h)) fun h => .inr (Same.sqT s h)
theorem tyx_L (h : SqL K H a xs) : TyX K H (.ref a) (.type "list") := by
  rcases h with (h | ⟨o, h⟩) | ⟨o, its, n, e, c, _⟩
  · exact .base (.lst h)
  · exact .base (.frz h)
  · exact .kList e c
theorem tyx_T (h : SqT K H a xs) : TyX K H (.ref a) (.type "tuple") := by
  rcases h with (h | ⟨o, h⟩) | ⟨o, its, n, e, c, _⟩
  · exact .base (.tup h)
  · exact .fTuple h
  · exact .kTuple e c
theorem rgt_T {C : Addr} (h : SqT K H a xs) : RgtOf K H C (.ref a) (.type "tuple") := by
  rcases h with (h | ⟨o, h⟩) | ⟨o, its, n, e, c, _⟩
  · exact .tup h
  · exact .fTup h
  · exact .kTup e c
/-- tuple(xs) -/
theorem tup_of {Q : VK} (h : Sq K H a xs) (k : ∀ t H1, SqT K H1 t xs → Same H H1 → Q (.ref t) H1) : (SqL K H a xs ∧ ∀ l, H l = none → Q (.ref l) (upd H l (.tup xs))) ∨ (SqT K H a xs ∧ Q (.ref a) H) :=
  h.elim (fun h => .inl ⟨h, fun l hl => k l _ (.inl (.inl upd_same)) (Same.upd_new hl)⟩) fun h => .inr ⟨h, k a H h (Same.refl _)⟩
def rTup (K : PySem.W.Frag) : List V → Hp → VK → Prop := fun xs H Q => ∃ p ys, xs = [.ref p] ∧ ((SqL K H p ys ∧ ∀ l, H l = none → Q (.ref l) (upd H l (.tup ys))) ∨ (SqT K H p ys ∧ Q (.ref p) H))
theorem call_tupS {X : Cx} : CallR X (.type "tuple") (rTup X.K) := call_tuple_of
theorem rTup_of {Q : VK} (h : Sq K H a xs) (k : ∀ t H1, SqT K H1 t xs → Same H H1 → Q (.ref t) H1) : rTup K [.ref a] H Q := ⟨a, xs, rfl, tup_of h k⟩
/-- a block over a list or a tuple that was there ahead -/
theorem seq_lc {g : TG} {tt : TT} {te : TE} {vs : List Nat} {σ : L2.St} {Qd : Addr → Hp → Prop} (h : Sq K H a xs) (hs : ∀ D, H D = none → ∃ Pv : Nat → Hp → Prop, Pv 0 (upd H D (.lst [])) ∧ (∀ i H', i ≤ xs.length → Pv i H' → ∀ o, H a = some o → H' a = some o) ∧
      (∀ i x H', xs[i]? = some x → Pv i H' → g x (wipe σ vs) H' fun σ2 H2 => wipe σ2 vs = wipe σ vs ∧ tt σ2 H2 fun b H3 =>
        if b = true then te σ2 H3 fun y H4 => ∃ acc, H4 D = some (.lst acc) ∧ acc.length < sizeLine ∧ Pv (i + 1) (upd H4 D (.lst (acc ++ [y]))) else Pv (i + 1) H3) ∧ ∀ H', Pv xs.length H' → Qd D H') :
    ((∃ xs, SqL K H a xs) ∧ ∀ D, H D = none → ∃ W : Nat → Nat → Hp → Prop, (∃ m, W 0 m (upd H D (.lst []))) ∧ ∀ i m H, W i m H →
      ((Itl K a).stop i H ∧ Qd D H) ∨ ((Itl K a).go i H ∧ ∃ Nx : Hp → Prop, (∀ H', Nx H' → ∃ m', m' < m ∧ W (i + 1) m' H') ∧ ∀ x H', (Itl K a).yld i H x H' → g x (wipe σ vs) H' fun σ2 H2 => wipe σ2 vs = wipe σ vs ∧ tt σ2 H2 fun b H3 =>
        if b = true then te σ2 H3 fun y H4 => ∃ acc, H4 D = some (.lst acc) ∧ acc.length < sizeLine ∧ Nx (upd H4 D (.lst (acc ++ [y]))) else Nx H3)) ∨
    ((∃ xs, SqT K H a xs) ∧ ∀ D, H D = none → ∃ W : Nat → Nat → Hp → Prop, (∃ m, W 0 m (upd H D (.lst []))) ∧ ∀ i m H, W i m H →
      ((Itt K a).stop i H ∧ Qd D H) ∨ ((Itt K a).go i H ∧ ∃ Nx : Hp → Prop, (∀ H', Nx H' → ∃ m', m' < m ∧ W (i + 1) m' H') ∧ ∀ x H', (Itt K a).yld i H x H' → g x (wipe σ vs) H' fun σ2 H2 => wipe σ2 vs = wipe σ vs ∧ tt σ2 H2 fun b H3 =>
        if b = true then te σ2 H3 fun y H4 => ∃ acc, H4 D = some (.lst acc) ∧ acc.length < sizeLine ∧ Nx (upd H4 D (.lst (acc ++ [y]))) else Nx H3)) := by
  rcases id h with hL | hT
  · refine .inl ⟨⟨_, hL⟩, fun D hD => ?_⟩
    obtain ⟨Pv, p0, pk, ps, pd⟩ := hs D hD
    refine lc_list (K := K) (a := a) (xs := xs) Pv p0 (fun i H' hi p => ?_) ps pd
    rcases hL with (h | ⟨o, h⟩) | h
    · exact .inl (.inl (pk i H' hi p _ h))
    · exact .inl (.inr ⟨o, pk i H' hi p _ h⟩)
    · exact .inr h
  · refine .inr ⟨⟨_, hT⟩, fun D hD => ?_⟩
    obtain ⟨Pv, p0, pk, ps, pd⟩ := hs D hD
    refine lc_tup (K := K) (a := a) (xs := xs) Pv p0 (fun i H' hi p => ?_) ps pd
    rcases hT with (h | ⟨o, h⟩) | h
    · exact .inl (.inl (pk i H' hi p _ h))
    · exact .inl (.inr ⟨o, pk i H' hi p _ h⟩)
    · exact .inr h
/-- a block that goes over texts in a list, each to a text -/
theorem lc_map {p D : Addr} {ys : List Str} {f : Str → Str} {i : Nat} {te : TE} {σ : L2.St} {Qd : Hp → Prop} (hp : H p = some (.lst (ys.map V.str))) (hn : ys.length ≤ 1000) (hD : H D = none)
    (hw : ∀ y : V, wipe ((wipe σ [i]).set i (some y)) [i] = wipe σ [i])
    (hte : ∀ y ∈ ys, ∀ (H' : Hp) (R : VK), R (.str (f y)) H' → te ((wipe σ [i]).set i (some (.str y))) H' R)
    (hd : ∀ H', Same H H' → H' D = some (.lst ((ys.map f).map V.str)) → Qd H') :
    ∃ W : Nat → Nat → Hp → Prop, (∃ m, W 0 m (upd H D (.lst []))) ∧ ∀ k m H, W k m H →
      ((Itl K p).stop k H ∧ Qd H) ∨ ((Itl K p).go k H ∧ ∃ Nx : Hp → Prop, (∀ H', Nx H' → ∃ m', m' < m ∧ W (k + 1) m' H') ∧ ∀ x H', (Itl K p).yld k H x H' → gName i x (wipe σ [i]) H' fun σ2 H2 => wipe σ2 [i] = wipe σ [i] ∧ tYes σ2 H2 fun b H3 =>
        if b = true then te σ2 H3 fun y H4 => ∃ acc, H4 D = some (.lst acc) ∧ acc.length < sizeLine ∧ Nx (upd H4 D (.lst (acc ++ [y]))) else Nx H3) := by
  refine lc_list (K := K) (a := p) (xs := ys.map V.str) (fun j H' => Same H H' ∧ H' D = some (.lst (((ys.take j).map f).map V.str))) ⟨Same.upd_new hD, upd_same⟩ (fun j H' _ h => .inl (.inl (h.1 _ _ hp))) ?_ ?_
  · rintro j x H' hx ⟨t1, t2⟩
    obtain ⟨y, hy, hyi, rfl⟩ := get_map_str hx
    have hj : j < ys.length := (List.getElem?_eq_some_iff.mp hyi).1
    refine ⟨hw _, ?_⟩
    refine hte y hy H' _ ⟨_, t2, ?_, fun b o e => ?_, ?_⟩
    · rw [List.length_map, List.length_map, List.length_take]
      exact small1000 (by omega)
    · rw [upd_ne (ne_of_none e hD)]
      exact t1 b o e
    · rw [take_succ_map _ hyi, List.map_append]
      exact upd_same
  · rintro H' ⟨t1, t2⟩
    rw [List.length_map, List.take_length] at t2
    exact hd H' t1 t2
end
section
variable {X : Cx} {K : PySem.W.Frag}
theorem call_isiN (h : X.K = K) : CallR X (.builtin "isinstance") (rIsi K) := h ▸ call_isi
theorem pe_fldK {e : Expr} {f : Str} {pos : Pos} {ta : TE} (h : X.K = K) (he : PE X e ta) (hb : attributeBase e f X.env (eval e X.env) = eval e X.env) : PE X (.Attribute e f pos) (tFld K ta f) := h ▸ pe_fld he hb
theorem sl_tupK (h : X.K = K) : SlR X (rSlT K) := h ▸ sl_tup
theorem op_catAK (h : X.K = K) : OpR X (binaryOp .Add) (rCatA K) := h ▸ op_catA
end
section
variable {K : PySem.W.Frag} {H : Hp} {a : Addr} {xs : List V}
/-- a loop over a list or a tuple that was there ahead -/
theorem seq_for {g : TG} {tb : TS} {D : Ends} {σ : L2.St} {H0 : Hp} (h : Sq K H0 a xs) (Pv : Nat → L2.St → Hp → Prop) (h0 : Pv 0 σ H) (hk : ∀ i σ' H', i ≤ xs.length → Pv i σ' H' → ∀ o, H0 a = some o → H' a = some o)
    (hs : ∀ i x σ H, xs[i]? = some x → Pv i σ H → g x σ H fun σ2 H2 => tb { D with nx := Pv (i + 1), ct := Pv (i + 1), bk := D.nx } σ2 H2) (hd : ∀ σ H, Pv xs.length σ H → D.nx σ H) :
    ((∃ xs, SqL K H a xs) ∧ ∃ W : Nat → Nat → L2.St → Hp → Prop, (∃ m, W 0 m σ H) ∧ ∀ i m σ H, W i m σ H →
      ((Itl K a).stop i H ∧ D.nx σ H) ∨ ((Itl K a).go i H ∧ ∃ N : L2.St → Hp → Prop, (∀ σ' H', N σ' H' → ∃ m', m' < m ∧ W (i + 1) m' σ' H') ∧ ∀ x H', (Itl K a).yld i H x H' → g x σ H' fun σ2 H2 => tb { D with nx := N, ct := N, bk := D.nx } σ2 H2)) ∨
    ((∃ xs, SqT K H a xs) ∧ ∃ W : Nat → Nat → L2.St → Hp → Prop, (∃ m, W 0 m σ H) ∧ ∀ i m σ H, W i m σ H →
      ((Itt K a).stop i H ∧ D.nx σ H) ∨ ((Itt K a).go i H ∧ ∃ N : L2.St → Hp → Prop, (∀ σ' H', N σ' H' → ∃ m', m' < m ∧ W (i + 1) m' σ' H') ∧ ∀ x H', (Itt K a).yld i H x H' → g x σ H' fun σ2 H2 => tb { D with nx := N, ct := N, bk := D.nx } σ2 H2)) := by
  rcases id h with hL | hT
  · have hL2 : ∀ i σ' H', i ≤ xs.length → Pv i σ' H' → SqL K H' a xs := fun i σ' H' hi p => by
      rcases hL with (h | ⟨o, h⟩) | h
      · exact .inl (.inl (hk i σ' H' hi p _ h))
      · exact .inl (.inr ⟨o, hk i σ' H' hi p _ h⟩)
      · exact .inr h
    exact .inl ⟨⟨_, hL2 0 σ H (Nat.zero_le _) h0⟩, for_list (K := K) (a := a) (xs := xs) Pv h0 hL2 hs hd⟩
  · have hT2 : ∀ i σ' H', i ≤ xs.length → Pv i σ' H' → SqT K H' a xs := fun i σ' H' hi p => by
      rcases hT with (h | ⟨o, h⟩) | h
      · exact .inl (.inl (hk i σ' H' hi p _ h))
      · exact .inl (.inr ⟨o, hk i σ' H' hi p _ h⟩)
      · exact .inr h
    exact .inr ⟨⟨_, hT2 0 σ H (Nat.zero_le _) h0⟩, for_tup (K := K) (a := a) (xs := xs) Pv h0 hT2 hs hd⟩
end
end L2.Wk
namespace WkGQ
open PySem PySem.SeqAt
open AutoSeq1 (wpAny_loadPart')
open MeetsSeq MeetsSeq2 MeetsSeq3 SeqRoads2
section
variable {prog : Program} {w : World} {A : Around} {R : Result → Shared → Prop}
/-- ==, != of two tuples, item by item, till two differ -/
theorem tuple_eqS (l b : Addr) (items items2 : Array Value) (n n2 : Nat) (dd dd2 : Option Addr) (sl sl2 : Array (Option Value)) (e : Nat → Bool) (I : Nat → Shared → Prop) (J : Shared → Prop)
    (turn : ∀ i (h1 : i < items.size) (h2 : i < items2.size) s, I i s → wpAny (model prog w) A.in1 (eqBool items[i] items2[i]) (fun r s' => r = e i ∧ (e i = true → I (i + 1) s') ∧ (e i = false → J s')) (fun e s' => R (.error e) s') s)
    (finF : ∀ s, J s → R (.ok (.ret (.bool false))) s) (finT : ∀ s, I (min items.size items2.size) s → R (.ok (.ret (.bool (items.size == items2.size)))) s)
    {s : Shared} (hl1 : s.heap.get? l = some { cls := .type "tuple", dict := dd, data := .seq items n, slots := sl }) (hb1 : s.heap.get? b = some { cls := .type "tuple", dict := dd2, data := .seq items2 n2, slots := sl2 }) (h : I 0 s) :
    wpAny (model prog w) A.in1 (Builtin.«tuple.__eq__» ⟨[.ref l, .ref b], []⟩) (GQ.FinOf prog w A R) (fun e s' => R (.error e) s') s := by
  have f2 := AutoSeq1.sub_tuple_tuple
  have hZ : (items.toList.zip items2.toList).length = min items.size items2.size := by simp
  have h0 := h
  obtain ⟨hp, g, d, tk, os⟩ := s
  wp_walk using wpAny_loadPart' hl1, wpAny_loadPart' hb1, wpAny_forIn_list _ (fun rest b s' => b.1 = none ∧ ∃ i, rest = (items.toList.zip items2.toList).drop i ∧ i ≤ min items.size items2.size ∧ I i s') _
  case turn =>
    rintro ⟨y, x⟩ rest b s' ⟨hb', i, hz, hi, hI⟩
    have hlt : i < (items.toList.zip items2.toList).length := by
      rcases Nat.lt_or_ge i (items.toList.zip items2.toList).length with h' | h'
      · exact h'
      · rw [List.drop_of_length_le h'] at hz; cases hz
    have hm : i < min items.size items2.size := hZ ▸ hlt
    have h1 : i < items.size := Nat.lt_of_lt_of_le hm (Nat.min_le_left _ _)
    have h2 : i < items2.size := Nat.lt_of_lt_of_le hm (Nat.min_le_right _ _)
    rw [List.drop_eq_getElem_cons hlt] at hz
    injection hz with hyx hrest
    have hy : y = items[i] := by have := congrArg Prod.fst hyx; simpa using this
    have hx : x = items2[i] := by have := congrArg Prod.snd hyx; simpa using this
    subst hy hx
    refine wpAny_bind (wpAny_mono (turn i h1 h2 s' hI) (fun r s2 q2 => ?_) fun _ _ x => x)
    obtain ⟨hr, q2, q3⟩ := q2
    cases hei : e i with
    | true =>
      rw [hei] at hr
      subst hr
      wp_walk
      exact ⟨rfl, i + 1, hrest, hm, q2 hei⟩
    | false =>
      rw [hei] at hr
      subst hr
      have hF := finF s2 (q3 hei)
      wp_walk
      first | exact hF | exact ⟨_, rfl, hF⟩
  case fin =>
    rintro ⟨b1, b2⟩ s' ⟨hb', i, hz, hi, hI⟩
    simp only at hb'
    subst hb'
    have hge : min items.size items2.size ≤ i := by
      rcases Nat.lt_or_ge i (items.toList.zip items2.toList).length with h' | h'
      · rw [List.drop_eq_getElem_cons h'] at hz; cases hz
      · exact hZ ▸ h'
    have hi' : i = min items.size items2.size := by omega
    have hR := finT s' (hi' ▸ hI)
    wp_walk
    simpa [Builtin.Tuple.tupleCompareSizes] using hR
  case h =>
    exact ⟨rfl, 0, rfl, Nat.zero_le _, h0⟩

theorem tuple_neS (l b : Addr) (items items2 : Array Value) (n n2 : Nat) (dd dd2 : Option Addr) (sl sl2 : Array (Option Value)) (e : Nat → Bool) (I : Nat → Shared → Prop) (J : Shared → Prop)
    (turn : ∀ i (h1 : i < items.size) (h2 : i < items2.size) s, I i s → wpAny (model prog w) A.in1 (eqBool items[i] items2[i]) (fun r s' => r = e i ∧ (e i = true → I (i + 1) s') ∧ (e i = false → J s')) (fun e s' => R (.error e) s') s)
    (finF : ∀ s, J s → R (.ok (.ret (.bool true))) s) (finT : ∀ s, I (min items.size items2.size) s → R (.ok (.ret (.bool (!(items.size == items2.size))))) s)
    {s : Shared} (hl1 : s.heap.get? l = some { cls := .type "tuple", dict := dd, data := .seq items n, slots := sl }) (hb1 : s.heap.get? b = some { cls := .type "tuple", dict := dd2, data := .seq items2 n2, slots := sl2 }) (h : I 0 s) :
    wpAny (model prog w) A.in1 (Builtin.«tuple.__ne__» ⟨[.ref l, .ref b], []⟩) (GQ.FinOf prog w A R) (fun e s' => R (.error e) s') s := by
  have f2 := AutoSeq1.sub_tuple_tuple
  have hZ : (items.toList.zip items2.toList).length = min items.size items2.size := by simp
  have h0 := h
  obtain ⟨hp, g, d, tk, os⟩ := s
  wp_walk using wpAny_loadPart' hl1, wpAny_loadPart' hb1, wpAny_forIn_list _ (fun rest b s' => b.1 = none ∧ ∃ i, rest = (items.toList.zip items2.toList).drop i ∧ i ≤ min items.size items2.size ∧ I i s') _
  case turn =>
    rintro ⟨y, x⟩ rest b s' ⟨hb', i, hz, hi, hI⟩
    have hlt : i < (items.toList.zip items2.toList).length := by
      rcases Nat.lt_or_ge i (items.toList.zip items2.toList).length with h' | h'
      · exact h'
      · rw [List.drop_of_length_le h'] at hz; cases hz
    have hm : i < min items.size items2.size := hZ ▸ hlt
    have h1 : i < items.size := Nat.lt_of_lt_of_le hm (Nat.min_le_left _ _)
    have h2 : i < items2.size := Nat.lt_of_lt_of_le hm (Nat.min_le_right _ _)
    rw [List.drop_eq_getElem_cons hlt] at hz
    injection hz with hyx hrest
    have hy : y = items[i] := by have := congrArg Prod.fst hyx; simpa using this
    have hx : x = items2[i] := by have := congrArg Prod.snd hyx; simpa using this
    subst hy hx
    refine wpAny_bind (wpAny_mono (turn i h1 h2 s' hI) (fun r s2 q2 => ?_) fun _ _ x => x)
    obtain ⟨hr, q2, q3⟩ := q2
    cases hei : e i with
    | true =>
      rw [hei] at hr
      subst hr
      wp_walk
      exact ⟨rfl, i + 1, hrest, hm, q2 hei⟩
    | false =>
      rw [hei] at hr
      subst hr
      have hF := finF s2 (q3 hei)
      wp_walk
      first | exact hF | exact ⟨_, rfl, hF⟩
  case fin =>
    rintro ⟨b1, b2⟩ s' ⟨hb', i, hz, hi, hI⟩
    simp only at hb'
    subst hb'
    have hge : min items.size items2.size ≤ i := by
      rcases Nat.lt_or_ge i (items.toList.zip items2.toList).length with h' | h'
      · rw [List.drop_eq_getElem_cons h'] at hz; cases hz
      · exact hZ ▸ h'
    have hi' : i = min items.size items2.size := by omega
    have hR := finT s' (hi' ▸ hI)
    wp_walk
    simpa [Builtin.Tuple.tupleCompareSizes, bne] using hR
  case h =>
    exact ⟨rfl, 0, rfl, Nat.zero_le _, h0⟩
theorem rc_tup_eqS {E : Value → Shared → Prop} {s : Shared} {l b : Addr} {items items2 : Array Value} {Q : Value → Shared → Prop} (e : Nat → Bool) (hu : A.units < cLine) (I : Nat → Shared → Prop) (J : Shared → Prop)
    (hl : s.heap.IsTuple l items) (hb : s.heap.IsTuple b items2)
    (turn : ∀ i (h1 : i < items.size) (h2 : i < items2.size) s, I i s → wpAny (model prog w) A.in1 (eqBool items[i] items2[i]) (fun r s' => r = e i ∧ (e i = true → I (i + 1) s') ∧ (e i = false → J s')) E s)
    (finF : ∀ s, J s → Q (.bool false) s) (finT : ∀ s, I (min items.size items2.size) s → Q (.bool (items.size == items2.size)) s) (h : I 0 s) : wpAny (model prog w) A (richCompare .Eq (.ref l) (.ref b)) Q E s := by
  obtain ⟨⟨cls, dd, data, sl⟩, ho, hc, n, hd⟩ := id hl
  obtain ⟨⟨cls2, dd2, data2, sl2⟩, ho2, hc2, n2, hd2⟩ := id hb
  simp only at hc hd hc2 hd2
  subst hc hd hc2 hd2
  refine wpAny_richCompare_same_room (op := .Eq) ⟨_, ho, rfl⟩ ⟨_, ho2, rfl⟩ F.slot_tuple_eq (GQ.call_here F.slot_tuple_eq ⟨_, ho, rfl⟩ F.entry_tuple_eq (F.args_tuple_eq_2 _ _) ?_) hu
  exact tuple_eqS (R := wants (fun v s' => v ≠ .notImplemented ∧ Q v s') E) l b items items2 n n2 dd dd2 sl sl2 e I J turn (fun s' q => ⟨(fun x => nomatch x), finF s' q⟩) (fun s' q => ⟨(fun x => nomatch x), finT s' q⟩) ho ho2 h
theorem rc_tup_neS {E : Value → Shared → Prop} {s : Shared} {l b : Addr} {items items2 : Array Value} {Q : Value → Shared → Prop} (e : Nat → Bool) (hu : A.units < cLine) (I : Nat → Shared → Prop) (J : Shared → Prop)
    (hl : s.heap.IsTuple l items) (hb : s.heap.IsTuple b items2)
    (turn : ∀ i (h1 : i < items.size) (h2 : i < items2.size) s, I i s → wpAny (model prog w) A.in1 (eqBool items[i] items2[i]) (fun r s' => r = e i ∧ (e i = true → I (i + 1) s') ∧ (e i = false → J s')) E s)
    (finF : ∀ s, J s → Q (.bool true) s) (finT : ∀ s, I (min items.size items2.size) s → Q (.bool (!(items.size == items2.size))) s) (h : I 0 s) : wpAny (model prog w) A (richCompare .NotEq (.ref l) (.ref b)) Q E s := by
  obtain ⟨⟨cls, dd, data, sl⟩, ho, hc, n, hd⟩ := id hl
  obtain ⟨⟨cls2, dd2, data2, sl2⟩, ho2, hc2, n2, hd2⟩ := id hb
  simp only at hc hd hc2 hd2
  subst hc hd hc2 hd2
  refine wpAny_richCompare_same_room (op := .NotEq) ⟨_, ho, rfl⟩ ⟨_, ho2, rfl⟩ F.slot_tuple_ne (GQ.call_here F.slot_tuple_ne ⟨_, ho, rfl⟩ F.entry_tuple_ne (F.args_tuple_ne_2 _ _) ?_) hu
  exact tuple_neS (R := wants (fun v s' => v ≠ .notImplemented ∧ Q v s') E) l b items items2 n n2 dd dd2 sl sl2 e I J turn (fun s' q => ⟨(fun x => nomatch x), finF s' q⟩) (fun s' q => ⟨(fun x => nomatch x), finT s' q⟩) ho ho2 h
/-- != by the class's own ==, at the library's level -/
theorem objNe_K {E : Value → Shared → Prop} {s : Shared} {K : PySem.W.Frag} {x C f : Addr} {ox : Obj} {od : Option Obj} {y : Value} (hu : A.units < cLine) (X : K.In s.heap) (I : PySem.W.InstAt s.heap x ox C od) (hs : PySem.W.findIn K (.ref C) "__eq__" = some (some (.ref f))) (hf : PySem.W.isFn K (.ref f) = true) {Q : Fin → Shared → Prop}
    (h : wpAny (model prog w) A (call (.ref f) [.ref x, y]) (fun v s' => ∃ b, v = .bool b ∧ Q (.done (.ret (.bool (!b)))) s') E s) : wpAny (model prog w) A (Builtin.«object.__ne__» ⟨[.ref x, y], []⟩) Q E s := by
  unfold Builtin.«object.__ne__»
  repeat (first
    | with_reducible refine wpAny_cRoomFor hu ?_
    | (refine wpAny_bind (m := callSpecialIfBound? (.ref x) (Str.ofString "__eq__") [y])
        (PySem.W.ifBound_K X I hs hf (wpAny_mono h (fun r s' hr => by
          obtain ⟨b, rfl, hq⟩ := hr
          repeat (first | exact hq | exact wpAny_pure hq | exact wpAny_truthy_bool hq | (refine wpAny_bind (m := truthy (.bool _)) (wpAny_truthy_bool ?_)) | wp_step)) fun _ _ e => e)))
    | wp_step)
theorem call_objNe {E : Value → Shared → Prop} {s : Shared} {K : PySem.W.Frag} {x C f : Addr} {ox : Obj} {od : Option Obj} {y : Value} (hu : A.in1.units < cLine) (X : K.In s.heap) (I : PySem.W.InstAt s.heap x ox C od) (hm : PySem.W.mroIn K C (.type "object") = some true) (hs : PySem.W.findIn K (.ref C) "__eq__" = some (some (.ref f))) (hf : PySem.W.isFn K (.ref f) = true) {Q : Value → Shared → Prop}
    (h : wpAny (model prog w) A.in1 (call (.ref f) [.ref x, y]) (fun v s' => ∃ b, v = .bool b ∧ Q (.bool (!b)) s') E s) : wpAny (model prog w) A (call (.builtin "object.__ne__") [.ref x, y]) Q E s :=
  wpAny_call (codeAny_call_builtin F.cmp_object.ne.plain F.cmpEntry_ne (PySem.W.check_slot F.cmpKind_ne F.cmpSplit_ne (I.type.andThen (PySem.W.looks_mroIn X hm)) (F.cmpArgs_ne _ _) (objNe_K hu X I hs hf h)))
theorem ifBound_objNe {M : Model} {E : Value → Shared → Prop} {s : Shared} {K : PySem.W.Frag} {x C : Addr} {ox : Obj} {od : Option Obj} {args : List Value} {Q : Option Value → Shared → Prop} (X : K.In s.heap) (I : PySem.W.InstAt s.heap x ox C od) (hs : PySem.W.findIn K (.ref C) "__ne__" = some (some (.builtin "object.__ne__")))
    (h : wpAny M A (call (.builtin "object.__ne__") (.ref x :: args)) (fun v => Q (some v)) E s) : wpAny M A (callSpecialIfBound? (.ref x) "__ne__" args) Q E s := by
  simp only [callSpecialIfBound?, bindSpecialIfBound?]
  refine wpAny_holding (wpAny_bind (wpAny_bind (wpAny_bind (I.type.here ((PySem.W.looks_findIn X hs).here ?_)))))
  refine wpAny_bind (wpAny_askSetting (wpAny_ite ?_))
  have fin : wpAny M A (call (.builtin "object.__ne__") ([.ref x] ++ args) >>= fun v => pure (some v)) Q E s := wpAny_bind (wpAny_mono h (fun v s' h' => wpAny_pure h') fun _ _ h' => h')
  split
  · exact wpAny_bind (wpAny_of_eq (F.cmp_object.ne.bind _) (wpAny_pure (by exact fin)))
  · exact wpAny_tryCatch (wpAny_bind (wpAny_of_eq (F.cmp_object.ne.bind _) (wpAny_pure (by exact fin))))
theorem ne_K {E : Value → Shared → Prop} {s : Shared} {K : PySem.W.Frag} {x C f : Addr} {ox od : Obj} {y tb : Value} {Q : Value → Shared → Prop} (hu : A.units < cLine) (hu1 : A.in1.units < cLine) (X : K.In s.heap) (I : PySem.W.InstAt s.heap x ox C od) (hb : PySem.W.Looks (model prog w) s.heap (typeOf y) tb) (hn : PySem.W.notFirst K C tb = true)
    (hm : PySem.W.mroIn K C (.type "object") = some true) (h1 : PySem.W.findIn K (.ref C) "__ne__" = some (some (.builtin "object.__ne__"))) (hs : PySem.W.findIn K (.ref C) "__eq__" = some (some (.ref f))) (hf : PySem.W.isFn K (.ref f) = true)
    (h : wpAny (model prog w) A.in1 (call (.ref f) [.ref x, y]) (fun v s' => ∃ b, v = .bool b ∧ Q (.bool (!b)) s') E s) : wpAny (model prog w) A (richCompare .NotEq (.ref x) y) Q E s := by
  have one : wpAny (model prog w) A (tryCompare (.ref x) (cmpInfo .NotEq).2.1 y) (fun r s' => ∃ v, r = some v ∧ Q v s') E s := by
    unfold tryCompare
    refine wpAny_bind (ifBound_objNe X I h1 (call_objNe hu1 X I hm hs hf (wpAny_mono h (fun v s' hv => ?_) fun _ _ e => e)))
    obtain ⟨b, rfl, hq⟩ := hv
    exact ⟨b, rfl, wpAny_pure ⟨_, rfl, hq⟩⟩
  unfold richCompare
  simp only [oneThing_ref]
  refine wpAny_holding (wpAny_bind (wpAny_cRoomFor hu ?_))
  refine wpAny_bind (I.type.here (wpAny_bind (hb.here ?_)))
  split
  · rename_i q
    have e : PySem.W.subIn K tb (.ref C) = some false := by
      rcases Bool.or_eq_true_iff.mp hn with e | e
      · rw [beq_iff_eq.mp e] at q; simp at q
      · exact beq_iff_eq.mp e
    refine wpAny_bind ((PySem.W.looks_subIn X e).here ?_)
    simp only [Bool.false_eq_true, if_false]
    refine wpAny_bind (wpAny_mono one (fun r s' z => ?_) fun _ _ e => e)
    obtain ⟨v, rfl, hq⟩ := z
    exact wpAny_pure hq
  · refine wpAny_bind (wpAny_pure ?_)
    simp only [Bool.false_eq_true, if_false]
    refine wpAny_bind (wpAny_mono one (fun r s' z => ?_) fun _ _ e => e)
    obtain ⟨v, rfl, hq⟩ := z
    exact wpAny_pure hq
end
end WkGQ
namespace L2.Wk
open PySem PySem.Spec PyProof.Rows
section
variable {X : Cx} {CX : CXT} {C f : Addr} {fd : FuncData} {ps : List Str} {n : Nat} {sp : Sp} {E : XK}
theorem looks_rgt {pins : List (Addr × Obj)} {σ : L2.St} {H : Hp} {s : Shared} {y : V} {u tb : Value} (I : Inv X pins σ H s) (ry : RelV y u) (hy : RgtOf X.K H C y tb) : PySem.W.Looks (model X.prog X.w) s.heap (typeOf u) tb := by
  cases hy with
  | str z => obtain ⟨t, e⟩ := (show ∃ t, u = Value.str z t from ry); cases e; exact PySem.W.Looks.of_pure rfl
  | non => cases (show u = Value.none from ry); exact PySem.W.Looks.of_pure rfl
  | int i => obtain ⟨t, e⟩ := (show ∃ t, u = Value.int i t from ry); cases e; exact PySem.W.Looks.of_pure rfl
  | bl b => cases (show u = Value.bool b from ry); exact PySem.W.Looks.of_pure rfl
  | @ins b D dy gs e =>
    cases (show u = Value.ref b from ry)
    obtain ⟨mB, J', _⟩ := ins_get I.hok e
    obtain ⟨od', J', _⟩ := J'.look
    exact J'.type
  | @lst b xs e =>
    cases (show u = Value.ref b from ry)
    obtain ⟨_, _, n, _, h1⟩ := (show ObjOk X.prog X.w H s.heap b (.lst xs) from I.hok b _ e)
    exact (PySem.W.Looks.ld h1).andThen .now
  | @tup b xs e =>
    cases (show u = Value.ref b from ry)
    obtain ⟨_, _, _, o, h1, h2, _⟩ := (show ObjOk X.prog X.w H s.heap b (.tup xs) from I.hok b _ e)
    exact h2 ▸ (PySem.W.Looks.ld h1).andThen .now
  | @kTup b o e c =>
    cases (show u = Value.ref b from ry)
    exact c ▸ (PySem.W.Looks.ld (I.kIn _ _ e)).andThen .now
  | @fTup b ob xs e =>
    cases (show u = Value.ref b from ry)
    obtain ⟨_, _, _, _, o, h1, h2, _⟩ := (show ObjOk X.prog X.w H s.heap b (.frz ob (.tup xs)) from I.hok b _ e)
    exact h2 ▸ (PySem.W.Looks.ld h1).andThen .now
/-- x != y, x an instance of the class at C by its own == at f -/
def rNeOwn (K : PySem.W.Frag) (C : Addr) (sp : Sp) (E : XK) : R2 := fun x y H Q => ∃ a dx fs tb, x = .ref a ∧ H a = some (.ins C dx fs) ∧ RgtOf K H C y tb ∧ PySem.W.notFirst K C tb = true ∧ sp [.ref a, y] H (fun z H' => ∃ b, z = .bl b ∧ Q (.bl (!b)) H') E
theorem op_neOwn (hm : PySem.W.mroIn X.K C (.type "object") = some true) (h1 : PySem.W.findIn X.K (.ref C) "__ne__" = some (some (.builtin "object.__ne__"))) (hs : PySem.W.findIn X.K (.ref C) "__eq__" = some (some (.ref f))) (hf : PySem.W.isFn X.K (.ref f) = true) (F : FnOk X.prog X.w X.K X.mg X.base CX n f fd ps sp) (hb : Binds X.K fd ps []) (hr : Room (n + 1) X.A) (hx : Passes CX X E) :
    OpR X (compareOp .NotEq) (rNeOwn X.K C sp E) := by
  intro pins s σ H x y v u Q I rx ry h
  obtain ⟨a, dx, fs, tb, rfl, ha, hy, hn, q⟩ := h
  cases (show v = Value.ref a from rx)
  obtain ⟨mA, J, _⟩ := ins_get I.hok ha
  obtain ⟨od, J, _⟩ := J.look
  show wpAny (model X.prog X.w) X.A (richCompare .NotEq (.ref a) u) (EP X pins σ Q) X.xe s
  refine WkGQ.ne_K hr.units0 hr.in1.units0 I.kIn J (looks_rgt I ry hy) hn hm h1 hs hf ?_
  refine wpAny_mono (wpAny_call (run_ok (us := [.ref a, u]) (ws := [.ref a, y]) F hb hr.in1 I.env0.in1 hx I (.cons rfl (.cons ry .nil)) q)) (fun w s' z => ?_) fun _ _ x => x
  obtain ⟨z', H', I', rz, b, eb, qz⟩ := z
  subst eb
  cases (show w = Value.bool b from rz)
  exact ⟨b, rfl, .bl (!b), H', I', rfl, qz⟩
/-! ### items that are compared, with either answer -/
abbrev EqD := V → V → Hp → Bool → Prop
def EqItem (X : Cx) (n : Nat) (D : EqD) : Prop := ∀ (A : Around) (pins : List (Addr × Obj)) (s : Shared) (σ : St) (H : Hp) (x y : V) (u v : Value) (b : Bool), Sub X n A → Inv X pins σ H s → RelV x u → RelV y v → D x y H b →
    wpAny (model X.prog X.w) A (eqBool u v) (fun r s' => r = b ∧ ∃ H', Inv X pins σ H' s' ∧ Same H H') X.xe s
def DOwn (C : Addr) (sp : Sp) (E : XK) : EqD := fun x y H b => ∃ p q dx fs dy gs, x = .ref p ∧ y = .ref q ∧ H p = some (.ins C dx fs) ∧ H q = some (.ins C dy gs) ∧ (p = q → b = true) ∧ sp [.ref p, .ref q] H (fun z H' => z = .bl b ∧ Same H H') E
theorem notFirst_self {K : PySem.W.Frag} : PySem.W.notFirst K C (.ref C) = true := by
  unfold PySem.W.notFirst
  rw [beq_self_eq_true]
  rfl
theorem eqItem_own (hs : PySem.W.findIn X.K (.ref C) "__eq__" = some (some (.ref f))) (hf : PySem.W.isFn X.K (.ref f) = true) (F : FnOk X.prog X.w X.K X.mg X.base CX n f fd ps sp) (hb : Binds X.K fd ps []) (hx : Passes CX X E) : EqItem X n (DOwn C sp E) := by
  intro A pins s σ H x y u v b sb I rx ry d
  obtain ⟨p, q, dx, fs, dy, gs, rfl, rfl, hp, hq, hpq, hsp⟩ := d
  cases (show u = Value.ref p from rx)
  cases (show v = Value.ref q from ry)
  by_cases e : p = q
  · subst e
    rw [hpq rfl]
    exact SeqAt.EqAt.same (A := A) (s := s) (.ref p) X.prog X.w X.xe _ ⟨rfl, H, I, Same.refl _⟩
  · obtain ⟨mA, J, _⟩ := ins_get I.hok hp
    obtain ⟨mB, J', _⟩ := ins_get I.hok hq
    obtain ⟨od, J, _⟩ := J.look
    obtain ⟨od', J', _⟩ := J'.look
    obtain ⟨m, hF⟩ := I.fr
    have e0 : Env0 X.prog X.w X.K X.mg X.base A X.stack s H := by
      have e := I.env0
      exact ⟨by rw [sb.fr]; exact e.frames, e.mod, e.bs, e.bsz, e.funs, e.frf, e.hok, e.bare⟩
    refine GQ.eqBool_refG e (PySem.W.cmp_K (op := .Eq) (tb := .ref C) sb.room.units0 hF I.ok.mod.kin J J'.type notFirst_self hs hf ?_)
    refine wpAny_mono (wpAny_call (run_ok (us := [.ref p, .ref q]) (ws := [.ref p, .ref q]) F hb sb.room e0 hx I (.cons rfl (.cons rfl .nil)) hsp)) (fun w s' z => ?_) fun _ _ x => x
    obtain ⟨z', H', I', rz, ez, sz⟩ := z
    subst ez
    cases (show w = Value.bool b from rz)
    exact ⟨b, rfl, rfl, H', I', sz⟩
/-- what the loop over the items keeps -/
def LoopS (X : Cx) (pins : List (Addr × Obj)) (σ : St) (H : Hp) (e : Nat → Bool) (i : Nat) (s' : Shared) : Prop := (∀ j, j < i → e j = true) ∧ ∃ H', Inv X pins σ H' s' ∧ Same H H'
def LoopJ (X : Cx) (pins : List (Addr × Obj)) (σ : St) (H : Hp) (e : Nat → Bool) (m : Nat) (s' : Shared) : Prop := (∃ j, j < m ∧ e j = false) ∧ ∃ H', Inv X pins σ H' s' ∧ Same H H'
def PrsD (D : EqD) (e : Nat → Bool) (xs ys : List V) (H : Hp) : Prop := ∀ (i : Nat) x y, xs[i]? = some x → ys[i]? = some y → ∀ H', Same H H' → D x y H' (e i)
theorem turnS {D : EqD} (h : EqItem X n D) {A : Around} (sb : Sub X (n + 1) A) {pins : List (Addr × Obj)} {σ : St} {H : Hp} {e : Nat → Bool} {xs ys : List V} {its its2 : List Value} (p : PrsD D e xs ys H) (r : Vals xs its) (r2 : Vals ys its2)
    (i : Nat) (h1 : i < its.toArray.size) (h2 : i < its2.toArray.size) (s' : Shared) (l : LoopS X pins σ H e i s') :
    wpAny (model X.prog X.w) A.in1 (eqBool its.toArray[i] its2.toArray[i]) (fun r s2 => r = e i ∧ (e i = true → LoopS X pins σ H e (i + 1) s2) ∧ (e i = false → LoopJ X pins σ H e (min its.toArray.size its2.toArray.size) s2)) X.xe s' := by
  obtain ⟨l0, H1, I1, e1⟩ := l
  have g1 : its[i]? = some its.toArray[i] := by
    have h1' : i < its.length := by simpa using h1
    rw [List.getElem?_eq_getElem h1'] <;> simp
  have g2 : its2[i]? = some its2.toArray[i] := by
    have h2' : i < its2.length := by simpa using h2
    rw [List.getElem?_eq_getElem h2'] <;> simp
  have k1 : i < xs.length := by rw [r.length]; simpa using h1
  have k2 : i < ys.length := by rw [r2.length]; simpa using h2
  obtain ⟨u, hu, ru⟩ := r.get (List.getElem?_eq_getElem k1)
  obtain ⟨v, hv, rv⟩ := r2.get (List.getElem?_eq_getElem k2)
  rw [g1] at hu
  rw [g2] at hv
  rw [Option.some.inj hu, Option.some.inj hv]
  refine wpAny_mono (h A.in1 pins s' σ H1 _ _ u v _ sb.in1 I1 ru rv (p i _ _ (List.getElem?_eq_getElem k1) (List.getElem?_eq_getElem k2) _ e1)) (fun r s2 q => ?_) fun _ _ x => x
  obtain ⟨hr, H2, I2, e2⟩ := q
  refine ⟨hr, fun et => ⟨fun j hj => ?_, H2, I2, e1.trans e2⟩, fun ef => ⟨⟨i, by omega, ef⟩, H2, I2, e1.trans e2⟩⟩
  by_cases hji : j < i
  · exact l0 j hji
  · have : j = i := by omega
    rw [this]
    exact et
def allE (e : Nat → Bool) (m : Nat) : Bool := (List.range m).all e
theorem allE_true {e : Nat → Bool} {m : Nat} (h : ∀ j, j < m → e j = true) : allE e m = true := by
  unfold allE
  rw [List.all_eq_true]
  exact fun j hj => h j (List.mem_range.mp hj)
theorem allE_false {e : Nat → Bool} {m : Nat} (h : ∃ j, j < m ∧ e j = false) : allE e m = false := by
  obtain ⟨j, hj, he⟩ := h
  unfold allE
  rw [List.all_eq_false]
  exact ⟨j, List.mem_range.mpr hj, by rw [he]; decide⟩
def rTupEq (K : PySem.W.Frag) (D : EqD) (neg : Bool) : R2 := fun x y H Q => ∃ a b xs ys e, x = .ref a ∧ y = .ref b ∧ SqT K H a xs ∧ SqT K H b ys ∧ PrsD D e xs ys H ∧ ∀ H', Same H H' → Q (.bl (neg != (allE e (min xs.length ys.length) && xs.length == ys.length))) H'
theorem op_tupEq {D : EqD} (h : EqItem X n D) (hr : Room (n + 1) X.A) : OpR X (compareOp .Eq) (rTupEq X.K D false) := by
  intro pins s σ H x y v u Q I rx ry hq
  obtain ⟨a, b, xs, ys, e, rfl, rfl, ha, hb, hp, q⟩ := hq
  cases (show v = Value.ref a from rx)
  cases (show u = Value.ref b from ry)
  obtain ⟨its, r, e1, z⟩ := I.tuple ha
  obtain ⟨its2, r2, e2, z2⟩ := I.tuple hb
  have l1 : its.toArray.size = xs.length := by rw [List.size_toArray, ← r.length]
  have l2 : its2.toArray.size = ys.length := by rw [List.size_toArray, ← r2.length]
  show wpAny (model X.prog X.w) X.A (richCompare .Eq (.ref a) (.ref b)) (EP X pins σ Q) X.xe s
  refine WkGQ.rc_tup_eqS e hr.units0 (fun i s' => LoopS X pins σ H e i s') (fun s' => LoopJ X pins σ H e (min its.toArray.size its2.toArray.size) s') e1 e2 (fun i h1 h2 s' l => turnS h ⟨hr, rfl⟩ hp r r2 i h1 h2 s' l) (fun s' j => ?_) (fun s' j => ?_) ⟨fun _ h => absurd h (Nat.not_lt_zero _), H, I, Same.refl _⟩
  · obtain ⟨j0, H', I', s1⟩ := j
    rw [l1, l2] at j0
    have := q H' s1
    rw [allE_false j0] at this
    exact ⟨.bl false, H', I', rfl, this⟩
  · obtain ⟨j0, H', I', s1⟩ := j
    rw [l1, l2] at j0
    have := q H' s1
    rw [allE_true j0] at this
    rw [l1, l2]
    refine ⟨.bl (xs.length == ys.length), H', I', rfl, ?_⟩
    simpa using this
theorem op_tupNe {D : EqD} (h : EqItem X n D) (hr : Room (n + 1) X.A) : OpR X (compareOp .NotEq) (rTupEq X.K D true) := by
  intro pins s σ H x y v u Q I rx ry hq
  obtain ⟨a, b, xs, ys, e, rfl, rfl, ha, hb, hp, q⟩ := hq
  cases (show v = Value.ref a from rx)
  cases (show u = Value.ref b from ry)
  obtain ⟨its, r, e1, z⟩ := I.tuple ha
  obtain ⟨its2, r2, e2, z2⟩ := I.tuple hb
  have l1 : its.toArray.size = xs.length := by rw [List.size_toArray, ← r.length]
  have l2 : its2.toArray.size = ys.length := by rw [List.size_toArray, ← r2.length]
  show wpAny (model X.prog X.w) X.A (richCompare .NotEq (.ref a) (.ref b)) (EP X pins σ Q) X.xe s
  refine WkGQ.rc_tup_neS e hr.units0 (fun i s' => LoopS X pins σ H e i s') (fun s' => LoopJ X pins σ H e (min its.toArray.size its2.toArray.size) s') e1 e2 (fun i h1 h2 s' l => turnS h ⟨hr, rfl⟩ hp r r2 i h1 h2 s' l) (fun s' j => ?_) (fun s' j => ?_) ⟨fun _ h => absurd h (Nat.not_lt_zero _), H, I, Same.refl _⟩
  · obtain ⟨j0, H', I', s1⟩ := j
    rw [l1, l2] at j0
    have := q H' s1
    rw [allE_false j0] at this
    exact ⟨.bl true, H', I', rfl, this⟩
  · obtain ⟨j0, H', I', s1⟩ := j
    rw [l1, l2] at j0
    have := q H' s1
    rw [allE_true j0] at this
    rw [l1, l2]
    refine ⟨.bl (!(xs.length == ys.length)), H', I', rfl, ?_⟩
    simpa using this
end
end L2.Wk
namespace L2.Wk
open PySem PySem.Spec PyProof.Rows
section
variable {X : Cx}
/-- set(a list of texts), of any length below 4000: how many there are -/
def rSetB (K : PySem.W.Frag) (w : World) : List V → Hp → VK → Prop := fun vs H Q => ∃ (l : Addr) (xs : List Str), vs = [V.ref l] ∧ SqL K H l (xs.map V.str) ∧ xs.length ≤ 4000 ∧
  ∀ (p : Addr) (ks : List Str), ks.Nodup → (∀ k, k ∈ ks ↔ k ∈ xs) → H p = none → Q (.ref p) (upd H p (SetT w p (fun k => decide (k ∈ xs)) ks.length))
theorem cr_setB (hc : X.calm = true) : CallR X (.type "set") (rSetB X.K X.w) := by
  intro pins s σ H vs us Q I r h
  obtain ⟨l, xs, rfl, hs, h64, q⟩ := h
  obtain ⟨its, rv, hl, _⟩ := I.list hs
  rw [Vals.ref1 r]
  refine call_set_lstS xs (I.ok.hd hc) hl.isList (by simpa using strsAre_of rv) (by unfold scanBound; omega) fun h' tk c hS hn hk => ?_
  have ob : ObjOk X.prog X.w (upd H s.heap.objs.size (SetT X.w s.heap.objs.size (fun k => decide (k ∈ xs)) c)) h' s.heap.objs.size (SetT X.w s.heap.objs.size (fun k => decide (k ∈ xs)) c) := by
    obtain ⟨o, _, _, _, ho, _⟩ := id hS
    exact ⟨hS, ⟨o, ho⟩, fun h1 h2 p k => SetS.at p k⟩
  obtain ⟨o, es, ep, t, _, _, _, _, nd, hm, _, _, hsz, _⟩ := id hS
  have e : c = (es.toList.map keyS).length := by rw [List.length_map, Array.length_toList, hsz]
  have q2 := q s.heap.objs.size (es.toList.map keyS) nd (fun k => by rw [← hm k, decide_eq_true_eq]) (I.hok.fresh (Nat.le_refl _))
  rw [← e] at q2
  exact ⟨.ref _, _, I.laid (t' := tk) hk (Nat.le_refl _) ob, rfl, q2⟩
end
theorem few_len : ∀ {ks ds : List Str}, ks.Nodup → (∀ k, k ∈ ks → k ∈ ds) → ks.length ≤ ds.length
  | [], _, _, _ => Nat.zero_le _
  | k :: ks, ds, nd, h => by
    obtain ⟨n1, n2⟩ := List.nodup_cons.mp nd
    have hk := h k (List.mem_cons_self ..)
    have ih := few_len (ks := ks) (ds := ds.filter fun x => !decide (x = k)) n2 fun x hx => by
      rw [List.mem_filter]
      refine ⟨h x (List.mem_cons_of_mem _ hx), ?_⟩
      have : x ≠ k := fun e => n1 (e ▸ hx)
      simp [this]
    have lt : (ds.filter fun x => !decide (x = k)).length < ds.length := by
      rcases Nat.lt_or_ge (ds.filter fun x => !decide (x = k)).length ds.length with h' | h'
      · exact h'
      · have e := List.length_filter_eq_length_iff.mp (Nat.le_antisymm (List.length_filter_le _ _) h')
        have := e k hk
        simp at this
    rw [List.length_cons]
    omega
/-- ascending, each once, the same as in xs -/
structure Asc (ys xs : List Str) : Prop where
  up : sortedS ys = true
  nd : ys.Nodup
  mem : ∀ k, k ∈ ys ↔ k ∈ xs
theorem not_lt_le {a b : Str} (h : ltCps b.cps.toList a.cps.toList = false) : a.cps.toList ≤ b.cps.toList := by
  rw [ltCps_eq] at h
  exact List.not_lt.mp (of_decide_eq_false h)
theorem rising_le : ∀ {p : Str} {l : List Str}, risingS p l = true → ∀ x ∈ l, p.cps.toList ≤ x.cps.toList
  | _, [], _, _, h => by cases h
  | p, y :: r, h, x, hx => by
    unfold risingS at h
    obtain ⟨h1, h2⟩ := Bool.and_eq_true_iff.mp h
    have l1 : p.cps.toList ≤ y.cps.toList := not_lt_le (by simpa using h1)
    rcases List.mem_cons.mp hx with rfl | hx
    · exact l1
    · exact List.le_trans l1 (rising_le h2 x hx)
theorem rising_sorted : ∀ {p : Str} {l : List Str}, risingS p l = true → sortedS l = true
  | _, [], _ => rfl
  | p, y :: r, h => by
    unfold risingS at h
    exact (Bool.and_eq_true_iff.mp h).2
theorem str_le_antisymm {a b : Str} (h1 : a.cps.toList ≤ b.cps.toList) (h2 : b.cps.toList ≤ a.cps.toList) : a = b := TL.ext_tl (List.le_antisymm h1 h2)
theorem asc_eq : ∀ {ys zs : List Str}, sortedS ys = true → ys.Nodup → sortedS zs = true → zs.Nodup → (∀ k, k ∈ ys ↔ k ∈ zs) → ys = zs
  | [], [], _, _, _, _, _ => rfl
  | [], z :: zs, _, _, _, _, h => by
    have := (h z).mpr (List.mem_cons_self ..)
    cases this
  | y :: ys, [], _, _, _, _, h => by
    have := (h y).mp (List.mem_cons_self ..)
    cases this
  | y :: ys, z :: zs, h1, n1, h2, n2, h => by
    have r1 : risingS y ys = true := h1
    have r2 : risingS z zs = true := h2
    have e : y = z := by
      rcases List.mem_cons.mp ((h y).mp (List.mem_cons_self ..)) with e | hy
      · exact e
      · rcases List.mem_cons.mp ((h z).mpr (List.mem_cons_self ..)) with e | hz
        · exact e.symm
        · exact str_le_antisymm (rising_le r1 z hz) (rising_le r2 y hy)
    subst e
    obtain ⟨a1, a2⟩ := List.nodup_cons.mp n1
    obtain ⟨b1, b2⟩ := List.nodup_cons.mp n2
    rw [asc_eq (rising_sorted r1) a2 (rising_sorted r2) b2 fun k => ⟨fun hk => ?_, fun hk => ?_⟩]
    · rcases List.mem_cons.mp ((h k).mp (List.mem_cons_of_mem _ hk)) with e | hk'
      · exact absurd (e ▸ hk) a1
      · exact hk'
    · rcases List.mem_cons.mp ((h k).mpr (List.mem_cons_of_mem _ hk)) with e | hk'
      · exact absurd (e ▸ hk) b1
      · exact hk'
theorem Asc.eq {ys zs xs : List Str} (a : Asc ys xs) (b : Asc zs xs) : ys = zs := asc_eq a.up a.nd b.up b.nd fun k => (a.mem k).trans (b.mem k).symm
end L2.Wk
namespace PySem.W
open PySem PySem.Spec PySem.Calls PyProof.Rows
section
variable {prog : Program} {w : World} {A : Around} {E : Value → Shared → Prop} {s : Shared} {K : Frag} {x D : Addr} {ox : Obj}
theorem wk_classE {Q : Option Value → Shared → Prop} (hga : findIn K (.ref D) "__getattribute__" = some (some (.builtin "BaseException.__getattribute__"))) (hgt : findIn K (.ref D) "__getattr__" = some none) (hsub : subIn K (.ref D) (.type "BaseException") = some true)
    (hdct : hasDictIn K D = true) (ha : findIn K (.ref D) "__class__" = some (some (.builtin "object.__class__")))
    (hn : specialIn K (.builtin "object.__class__") "__get__" = some (some (.builtin "getset_descriptor.__get__"))) (htk : takesIn K (.builtin "object.__class__") = some true) (hm : mroIn K D (.type "object") = some true)
    (X : K.In s.heap) {od0 : Obj} (I : InstAt s.heap x ox D (some od0)) (h : Q (some (.ref D)) { s with toks := s.toks + 1 }) : wpAny (model prog w) A (getAttr? (.ref x) "__class__") Q E s := by
  have hf : findObj K D (some od0) "__class__" = some (.bind (.builtin "getset_descriptor.__get__") (.builtin "object.__class__")) := findObj_data (by obtain ⟨cd, hc, _⟩ := any_some hdct; show (clsIn K D).isSome = true; rw [hc]; rfl) ha hn htk
  obtain ⟨hp, g, d, t, os⟩ := s
  have L0 := I.type (M := model prog w)
  have L1 := looks_findIn (M := model prog w) X hga
  have L2 := looks_findIn (M := model prog w) X hgt
  have L3 := looks_find (M := model prog w) X I hf
  have sub : Looks (model prog w) hp (isInstance (.ref x) (.type "BaseException")) true := L0.andThen (looks_subIn X hsub)
  have hx0 : (false && onTheHeap (Value.builtin "BaseException.__getattribute__")) = false := rfl
  have hx2 : (Value.builtin "BaseException.__getattribute__" == Value.builtin "object.__getattribute__") = false := by decide +kernel
  have hx1 : (onTheHeap (Value.ref D) && Value.builtin "BaseException.__getattribute__" == Value.builtin "object.__getattribute__") = false := by rw [hx2]; rfl
  unfold getAttr? getAttrBy? getAttrBy
  refine wpAny_bind (wpAny_mkText (wpAny_bind (wpAny_attempt (wpAny_holding (wpAny_bind (L0.at (wpAny_bind (L1.at ?_))))))))
  show wpAny _ _ (if (onTheHeap (Value.ref D) && Value.builtin "BaseException.__getattribute__" == Value.builtin "object.__getattribute__") = true then _ else _) _ _ _
  rw [hx1, if_neg Bool.false_ne_true]
  unfold getAttrByItsOwn hookBefore
  refine wpAny_bind ?_
  rw [if_pos (show onTheHeap (Value.ref D) = true from rfl)]
  refine L2.at ?_
  refine wpAny_bind (wpAny_attempt (wpAny_holding ?_))
  unfold callGetattribute
  rw [hx0, if_neg Bool.false_ne_true]
  unfold boundAndCalled
  rw [PySem.F.excAttr_ValueError.ga.bind (.ref x)]
  refine wpAny_bind (wpAny_pure ?_)
  show wpAny _ _ (call (.builtin "BaseException.__getattribute__") [.ref x, .str "__class__" t]) _ _ _
  refine wpAny_call (codeAny_call_builtin PySem.F.excAttr_ValueError.ga.plain PySem.F.entry_bexc_ga ?_)
  refine @check_slot (model prog w) _ _ ⟨hp, g, d, t + 1, os⟩ "BaseException.__getattribute__" "BaseException" "__getattribute__" (.ref x) [.str "__class__" t] [] _ (by decide +kernel) (by decide +kernel) sub (PySem.F.args_bexc_ga (.ref x) (.str "__class__" t)) ?_
  unfold Builtin.«object.__getattribute__»
  refine wpAny_bind (wpAny_of_eq (a := ((Value.ref x : Value), [Value.str "__class__" t])) (by first | rfl | (simp only [slotArgs]; rfl)) ?_)
  refine wpAny_bind (wpAny_pure (wpAny_bind (L0.at (wpAny_bind (L3.at ?_)))))
  show wpAny _ _ (holding [Value.builtin "object.__class__"] (call (.builtin "getset_descriptor.__get__") [.builtin "object.__class__", .ref x, .ref D]) >>= ret) _ _ _
  refine wpAny_bind (wpAny_holding (wpAny_call (class_get (s := ⟨hp, g, d, t + 1, os⟩) (ox := ox) (od := some od0) X I hm ?_)))
  refine wpAny_pure ?_
  show wpAny _ _ (handedOut (.ref D)) _ _ _
  rw [handedOut_of (v := .ref D) rfl]
  first
    | exact wpAny_pure (wpAny_pure h)
    | exact wpAny_pure h
    | exact wpAny_pure (wpAny_bind (wpAny_pure (wpAny_pure h)))
theorem wk_kitx_exc (hga : findIn K (.ref D) "__getattribute__" = some (some (.builtin "BaseException.__getattribute__"))) (hgt : findIn K (.ref D) "__getattr__" = some none) (hsub : subIn K (.ref D) (.type "BaseException") = some true) (hdct : hasDictIn K D = true) (ha : findIn K (.ref D) "__class__" = some (some (.builtin "object.__class__")))
    (hn : specialIn K (.builtin "object.__class__") "__get__" = some (some (.builtin "getset_descriptor.__get__"))) (htk : takesIn K (.builtin "object.__class__") = some true) (hm : mroIn K D (.type "object") = some true) :
    KitX K (.ref x) (.ref D) (fun h => ∃ od0, InstAt h x ox D (some od0)) where
  ty := fun _ _ _ ⟨_, I⟩ => I.type
  it := fun _ _ X _ => by
    obtain ⟨cdD, hcD, _⟩ := any_some hdct
    unfold clsIn at hcD
    split at hcD
    · rename_i c' d' cd' sl' ho
      intro A' Q' E' s' k q
      unfold isType loadHead
      exact wpAny_bind (wpAny_loadPart (k _ _ (X _ _ ho)) (wpAny_pure q))
    · cases hcD
  ne := fun h tp dd its n sl X htp => by
    obtain ⟨cdD, hcD, _⟩ := any_some hdct
    refine Bool.eq_false_iff.mpr fun q => ?_
    have e : D = tp := Value.ref.inj (beq_iff_eq.mp q)
    subst e
    unfold clsIn at hcD
    split at hcD
    · rename_i c' d' cd' sl' ho
      have z := (X _ _ ho).symm.trans htp
      cases z
    · cases hcD
  ca := fun X ⟨_, I⟩ k => wk_classE hga hgt hsub hdct ha hn htk hm X I k
end
end PySem.W
namespace L2.Wk
open PySem PySem.Spec PyProof.Rows
/-- isinstance(e, c), e the caught error of an own class with a dict of one entry -/
def rIsX (K : PySem.W.Frag) (D a : Addr) (d : Option Addr) : List V → Hp → VK → Prop := fun xs H Q => ∃ (c : V) (cv : Value) (b : Bool) (dd : Addr) (fs : List (Str × V)), xs = [.ref a, c] ∧ ClsV c cv ∧ d = some dd ∧ H dd = some (.xd fs) ∧ PySem.W.kitOne K (.ref D) cv = some b ∧ Q (.bl b) H
theorem call_isX {X : Cx} {a D : Addr} {oe : Obj} {d : Option Addr} {cls : Value} {pn : List (Addr × Obj)} (C : ExcC X.K D) (hz : Zc cls d oe) (hf : ∃ vs, oe.data = .fields vs) : CallR (X.suite a ((a, oe) :: pn)) (.builtin "isinstance") (fun xs H Q => cls = .ref D ∧ rIsX X.K D a d xs H Q) := by
  intro pins s σ H xs us Q I r h
  obtain ⟨ecl, c, cv, b, dd, fs, rfl, hcv, ed, ea, e, q⟩ := h
  subst ecl
  cases r with
  | cons rx rr =>
    cases rr with
    | cons rt rr =>
      cases rr
      cases rx
      have ec := hcv.eq rt
      subst ec
      subst ed
      obtain ⟨hget, _⟩ := I.pin (a, oe) (List.mem_append.mpr (.inl List.mem_cons_self))
      obtain ⟨vs, hv⟩ := hf
      have hx : ObjOk X.prog X.w H s.heap dd (.xd fs) := I.hok dd _ ea
      obtain ⟨mA, hns, hr⟩ := hx
      obtain ⟨od, ho, hl⟩ := lookIn_ns hns
      have J : PySem.W.InstAt s.heap a oe D (some od) := ⟨hget, hz.1, by unfold PySem.W.notCls; rw [hv] <;> rfl, by rw [hz.2]; exact ho⟩
      exact PySem.W.kia_one (PySem.W.wk_kitx_exc C.hg C.hk C.hs C.hd C.ha C.hn C.ht C.hm) I.kIn ⟨od, J⟩ e (fun z => nomatch z) fun tk => ⟨.bl b, H, I.kept (t' := tk) fun _ _ z => z, rfl, q⟩
/-- a promise by two -/
theorem fn_or {P : Program} {w : World} {K : PySem.W.Frag} {mg : Str → Option Value} {base : Heap} {CX : CXT} {k : Nat} {f : Addr} {fd : FuncData} {ps : List Str} {sp sp' : Sp} (F : FnOk P w K mg base CX k f fd ps sp) (G : FnOk P w K mg base CX k f fd ps sp') :
    FnOk P w K mg base CX k f fd ps (fun vs H Q E => sp vs H Q E ∨ sp' vs H Q E) :=
  ⟨fun vs H Q E h => h.elim (F.len vs H Q E) (G.len vs H Q E), fun A outer s H args us vs Q E hr he hb hv h => h.elim (F.run A outer s H args us vs Q E hr he hb hv) (G.run A outer s H args us vs Q E hr he hb hv)⟩
/-- a statement that is never come to -/
theorem ps_never {X : Cx} {s : Stmt} : PS X s (fun _ _ _ => False) := ⟨fun _ _ _ _ _ _ h => h.elim⟩
end L2.Wk
namespace L2.Wk
open PySem PySem.Spec PyProof.Rows
/-! ### enumerate(xs, start=c) -/
/-- the list at a, which holds xs throughout; each item in a new pair, counted from c -/
def Itk (K : PySem.W.Frag) (a : Addr) (c : Int) (xs : List V) : It :=
  ⟨fun i H => SqL K H a xs ∧ i < xs.length, fun i H v H' => ∃ T x, v = .ref T ∧ H T = none ∧ H' = upd H T (.tup [.int (c + (i : Nat)), x]) ∧ xs[i]? = some x, fun i H => SqL K H a xs ∧ i = xs.length⟩
theorem turn_enumC {P : Program} {w : World} {K : PySem.W.Frag} {elts : List Expr} {kk : Nat} {tpos : Pos} (a e it : Addr) (c : Int) (xs : List V) :
    Turn P w K (.Tuple elts kk tpos) (Itk K a c xs) [e, it] e (fun i h => (∃ old, IsEnum h e it (c + ((i : Nat) : Int)) old) ∧ h.IsListIter it a i ∧ e ≠ it ∧ a ≠ it ∧ a ≠ e) where
  mem := by simp
  obj := fun i h st b hb => by
    obtain ⟨⟨old, he⟩, ⟨o, ho, hc, hd⟩, _⟩ := st
    have e' : b = e ∨ b = it := by simpa using hb
    rcases e' with z | z
    · rw [z]; exact ⟨_, he, fun v q => nomatch q⟩
    · rw [z]; exact ⟨o, ho, fun v q => by rw [hd] at q; cases q⟩
  keep := fun i h h' st k => let ⟨⟨old, he⟩, hi, hne⟩ := st; ⟨⟨old, k e (by simp) _ he⟩, hi.at fun o q => k it (by simp) o q, hne⟩
  item := by
    intro X hP hw hK hc i pins s σ H E I hf st hg
    subst hP hw hK
    obtain ⟨⟨old, he⟩, hit, hne, hai, hae⟩ := st
    obtain ⟨hq, hi⟩ := hg
    obtain ⟨its, rv, p, hz⟩ := I.list hq
    have hl := rv.length
    have hel : e < s.heap.objs.size := Heap.lt_size he
    have hil : it < s.heap.objs.size := by obtain ⟨_, q, _⟩ := hit; exact Heap.lt_size q
    have hh : X.A.handled = none := I.ok.hd hc
    refine wpAny_pyNext_enum_itemC (Draws.list (A := X.A.in1) hh it a hai its.toArray) he ⟨hit, p.isList⟩ (by simp; omega) hne (by simp [hne, Ne.symm hae]) fun u h' tk hu ho hst hT hsz hk => ?_
    obtain ⟨x, hx, ru⟩ : ∃ x, xs[i]? = some x ∧ RelV x u := by
      obtain ⟨u', hu', ru⟩ := rv.get (i := i) (x := xs[i]) (List.getElem?_eq_getElem hi)
      have hu2 : its[i]? = some u := by simpa using hu
      rw [hu2] at hu'
      cases hu'
      exact ⟨_, List.getElem?_eq_getElem hi, ru⟩
    obtain ⟨hit', _⟩ := hst
    refine ⟨_, rfl, wpAny_letOwnedTupleGo_enum (s := { s with heap := h', toks := tk + 1 }) ho fun h'' he' sb => ?_⟩
    have hT2 : h''.get? s.heap.objs.size = some { cls := .type "tuple", data := .seq #[.int (c + (i : Int)) tk, u] } := (sb.2 _ (Nat.ne_of_gt hel)).trans hT
    have new : ObjOk X.prog X.w (upd H s.heap.objs.size (.tup [.int (c + (i : Nat)), x])) h'' s.heap.objs.size (.tup [.int (c + (i : Nat)), x]) :=
      ⟨by show 2 ≤ sizeLine; decide, [.int (c + (i : Int)) tk, u], .cons ⟨_, rfl⟩ (.cons ru .nil), ⟨_, hT2, rfl, _, rfl⟩⟩
    have I1 : Inv X pins σ (upd H s.heap.objs.size (.tup [.int (c + (i : Nat)), x])) { s with heap := h'', toks := tk + 1 } :=
      I.turnedNew (ch := [e, it]) (fun b ob hb q => (sb.2 b (fun z => hb (by simp [z]))).trans (hk b ob (fun z => hb (by simp [z])) (fun z => hb (by simp [z])) q)) hf (Nat.le_refl _) new
    refine ⟨.ref s.heap.objs.size, _, I1, rfl, ⟨_, x, rfl, I.hok.fresh (Nat.le_refl _), rfl, hx⟩, ⟨⟨u, ?_⟩, hit'.at fun o q => (sb.2 it (Ne.symm hne)).trans q, hne, hai, hae⟩, fun b hb => ?_⟩
    · have e1 : c + ((i + 1 : Nat) : Int) = c + (i : Int) + 1 := by omega
      rw [e1]; exact he'
    · have hb' : b < s.heap.objs.size := by
        have e' : b = e ∨ b = it := by simpa using hb
        rcases e' with z | z
        · rw [z]; exact hel
        · rw [z]; exact hil
      rw [upd_ne (Nat.ne_of_lt hb')]
      exact (hf b hb).1
  done := by
    intro X hP hw hK hc i pins s σ H E I hf st hg
    subst hP hw hK
    obtain ⟨⟨old, he⟩, hit, hne, hai, hae⟩ := st
    obtain ⟨hq, hx⟩ := hg
    obtain ⟨its, rv, p, hz⟩ := I.list hq
    obtain ⟨f0, f1, f2, f3, f4, f5⟩ := hf it (by simp)
    have hl := rv.length
    have hh : X.A.handled = none := I.ok.hd hc
    have hi : i = its.toArray.size := by simp; omega
    exact wpAny_pyNext_enum_endD (Draws.list (A := X.A.in1) hh it a hai its.toArray) he ⟨by rw [← hi]; exact hit, p.isList⟩ fun h' eb => ⟨rfl, I.turned (t' := s.toks) (fun b o hb q => eb b o hb q) f0 f1 f3 f4 f5⟩
  self := fun A i s Q E st h => let ⟨⟨_, he⟩, _⟩ := st; wpAny_pyIter_enum he h
theorem evalArgs_typeKw {M : Model} {A : Around} {E : Value → Shared → Prop} {s : Shared} {pos : Pos} {T : String} {args : List (Bool × Sem Value)} {keywords : List (Option Str × Sem Value)} {Q : Value → Shared → Prop}
    (hplain : args.any (·.1) = false) (hkw : keywords.any (·.1.isNone) = false)
    (h : wpAny M A (evalArgs (.type T) true args keywords) (fun a s₁ => wpAny M A (call (.type T) ([] ++ a.pos) a.kw) Q E s₁) E s) :
    wpAny M A (callWith pos (.type T) [] args keywords) Q E s := by
  unfold callWith
  refine wpAny_bind (wpAny_holding (wpAny_mono h (fun a s₁ h₁ => wpAny_bind (wpAny_standAt ?_)) fun _ _ x => x))
  simp only [hplain, hkw, Bool.or_false]
  refine wpAny_bind (wpAny_pure ?_)
  exact wpAny_bind (wpAny_mono h₁ (fun r s₂ hr => wpAny_bind (wpAny_holding (wpAny_point (wpAny_pure hr)))) fun _ _ x => x)
def iEnumK (K : PySem.W.Frag) (ta : TA) (te : TE) : TI := fun σ H R => ta σ H fun vs H1 => te σ H1 fun y H2 => ∃ a xs c, vs = [.ref a] ∧ y = .int c ∧ -(2 ^ 62) ≤ c ∧ c < 2 ^ 62 ∧ SqL K H2 a xs ∧ R (Itk K a c xs) H2
theorem pi_enumK {X : Cx} {e ek : Expr} {ta : TA} {te : TE} {p pos tpos kp : Pos} {elts : List Expr} {kk : Nat} (hg : Gl X "enumerate") (hm : X.mg "enumerate" = none) (ha : PA X [e] ta) (hk : PE X ek te) (hs : starEach [e] X.env = [(false, eval e X.env)] := by rfl) :
    PI X (.Tuple elts kk tpos) (.Call (.Name "enumerate" p) [e] [⟨some "start", ek, kp⟩] pos) (iEnumK X.K ta te) := by
  refine ⟨fun pins s σ H R I h => ?_⟩
  refine wpAny_Call_Name_kw (ld_blt I hg hm boot_enumerate (evalArgs_typeKw (by rw [hs]; rfl) (by rfl) ?_))
  have h0 := ha.run pos pins s σ H _ I h
  rw [hs] at h0 ⊢
  refine evalArgs_kwB (rest := []) (by rfl) (wpAny_mono h0 (fun us s1 hu => ?_) fun _ _ z => z)
  obtain ⟨vs, H1, I1, r1, q1⟩ := hu
  refine kws_cons (wpAny_mono (hk.run pins s1 σ H1 _ I1 q1) (fun u s2 hu2 => kws_nil ?_) fun _ _ z => z)
  obtain ⟨y, H2, I2, r2, a, xs, c, rfl, rfl, c0, c1, hq, q⟩ := hu2
  cases r1 with
  | cons r rr =>
    cases rr
    cases r
    obtain ⟨t, rfl⟩ := r2
    obtain ⟨its, rv, p', hz⟩ := I2.list hq
    have hal : a < s2.heap.objs.size := by obtain ⟨_, q, _⟩ := p'.isList; exact Heap.lt_size q
    refine enum_begins_start (begins_list a its.toArray) p'.isList (by omega) (by omega) fun h' he hit hsz hk => wpAny_pyIter_enum he ?_
    have I3 : Inv X pins σ H2 { s2 with heap := h' } := I2.kept (t' := s2.toks) hk
    refine ⟨s2.heap.objs.size + 1, [s2.heap.objs.size + 1, s2.heap.objs.size], _, _, H2, rfl, I3, turn_enumC a (s2.heap.objs.size + 1) s2.heap.objs.size c xs, ⟨⟨.none, by simpa using he⟩, ⟨_, hit, rfl, rfl⟩, Nat.succ_ne_self _, Nat.ne_of_lt hal, Nat.ne_of_lt (Nat.lt_succ_of_lt hal)⟩, fun b hb => ?_, q⟩
    have e' : b = s2.heap.objs.size + 1 ∨ b = s2.heap.objs.size := by simpa using hb
    have hle : s2.heap.objs.size ≤ b := by
      rcases e' with z | z
      · rw [z]; exact Nat.le_add_right _ _
      · rw [z]; exact Nat.le_refl _
    exact I2.fpOk hle (I2.hok.fresh hle)
theorem for_enumK {K : PySem.W.Frag} {a : Addr} {c : Int} {xs : List V} {g : TG} {tb : TS} {D : Ends} {σ : L2.St} {H : Hp} (Pv : Nat → L2.St → Hp → Prop) (h0 : Pv 0 σ H) (hl : ∀ i σ H, i ≤ xs.length → Pv i σ H → SqL K H a xs)
    (hs : ∀ i x σ H T, xs[i]? = some x → Pv i σ H → H T = none → g (.ref T) σ (upd H T (.tup [.int (c + (i : Nat)), x])) fun σ2 H2 => tb { D with nx := Pv (i + 1), ct := Pv (i + 1), bk := D.nx } σ2 H2) (hd : ∀ σ H, Pv xs.length σ H → D.nx σ H) :
    ∃ W : Nat → Nat → L2.St → Hp → Prop, (∃ m, W 0 m σ H) ∧ ∀ i m σ H, W i m σ H →
      ((Itk K a c xs).stop i H ∧ D.nx σ H) ∨ ((Itk K a c xs).go i H ∧ ∃ N : L2.St → Hp → Prop, (∀ σ' H', N σ' H' → ∃ m', m' < m ∧ W (i + 1) m' σ' H') ∧ ∀ x H', (Itk K a c xs).yld i H x H' → g x σ H' fun σ2 H2 => tb { D with nx := N, ct := N, bk := D.nx } σ2 H2) := by
  refine ⟨fun i m σ H => m = xs.length - i ∧ i ≤ xs.length ∧ Pv i σ H, ⟨xs.length, by simp, Nat.zero_le _, h0⟩, ?_⟩
  rintro i m σ H ⟨rfl, hi, p⟩
  by_cases hlt : i < xs.length
  · refine .inr ⟨⟨hl i σ H hi p, hlt⟩, Pv (i + 1), fun σ' H' p' => ⟨xs.length - (i + 1), by omega, rfl, hlt, p'⟩, fun x H' y => ?_⟩
    obtain ⟨T, x, rfl, hT, rfl, hx⟩ := y
    exact hs i x σ H T hx p hT
  · have e : i = xs.length := by omega
    exact .inl ⟨⟨hl i σ H hi p, e⟩, hd _ _ (e ▸ p)⟩
/-! ### zip(tuple, list) -/
def Itm (K : PySem.W.Frag) (a b : Addr) (xs ys : List V) : It :=
  ⟨fun i H => SqT K H a xs ∧ SqL K H b ys ∧ i < xs.length ∧ i < ys.length, fun i H v H' => ∃ T x y, v = .ref T ∧ H T = none ∧ H' = upd H T (.tup [x, y]) ∧ xs[i]? = some x ∧ ys[i]? = some y,
    fun i H => SqT K H a xs ∧ SqL K H b ys ∧ i ≤ xs.length ∧ i ≤ ys.length ∧ (i = xs.length ∨ i = ys.length)⟩
theorem val_at {xs : List V} {its : List Value} {i : Nat} {u : Value} (rv : Vals xs its) (h : its.toArray[i]? = some u) : ∃ x, xs[i]? = some x ∧ RelV x u := by
  have hu : its[i]? = some u := by simpa using h
  have hl := rv.length
  have hi : i < xs.length := by
    have := (List.getElem?_eq_some_iff.mp hu).1
    omega
  obtain ⟨u', hu', ru⟩ := rv.get (i := i) (x := xs[i]) (List.getElem?_eq_getElem hi)
  rw [hu] at hu'
  cases hu'
  exact ⟨_, List.getElem?_eq_getElem hi, ru⟩
theorem turn_zipM {P : Program} {w : World} {K : PySem.W.Frag} {elts : List Expr} {kk : Nat} {tpos : Pos} {a b z TI TO i1 i2 : Addr} (xs ys : List V) (S : ZipSep2 z TI TO i1 i2 [i1, a] [i2, b]) (ha : a ≠ i1) (hb : b ≠ i2) :
    Turn P w K (.Tuple elts kk tpos) (Itm K a b xs ys) [z, TI, TO, i1, i2] z (fun i h => IsZip h z TI TO .none ∧ IsTupOf2 h TI (.ref i1) (.ref i2) ∧ (∃ x y, IsTupOf2 h TO x y) ∧ h.IsTupleIter i1 a i ∧ h.IsListIter i2 b i) where
  mem := by simp
  obj := fun i h st c hc => by
    obtain ⟨hz, hTI, ⟨x, y, hTO⟩, ⟨o1, e1, _, d1⟩, ⟨o2, e2, _, d2⟩⟩ := st
    have e' : c = z ∨ c = TI ∨ c = TO ∨ c = i1 ∨ c = i2 := by simpa using hc
    rcases e' with q | q | q | q | q
    · rw [q]; exact ⟨_, hz, fun v q => nomatch q⟩
    · rw [q]; exact ⟨_, hTI, fun v q => nomatch q⟩
    · rw [q]; exact ⟨_, hTO, fun v q => nomatch q⟩
    · rw [q]; exact ⟨o1, e1, fun v q => by rw [d1] at q; cases q⟩
    · rw [q]; exact ⟨o2, e2, fun v q => by rw [d2] at q; cases q⟩
  keep := fun i h h' st k => by
    obtain ⟨hz, hTI, ⟨x, y, hTO⟩, h1, h2⟩ := st
    exact ⟨k z (by simp) _ hz, k TI (by simp) _ hTI, ⟨x, y, k TO (by simp) _ hTO⟩, h1.at fun o q => k i1 (by simp) o q, h2.at fun o q => k i2 (by simp) o q⟩
  item := by
    intro X hP hw hK hc i pins s σ H E I hf st hg
    subst hP hw hK
    obtain ⟨hz, hTI, ⟨x0, y0, hTO⟩, h1, h2⟩ := st
    obtain ⟨hqx, hqy, hx, hy⟩ := hg
    obtain ⟨its, rv, p, _⟩ := I.tuple hqx
    obtain ⟨its2, rv2, p2, _⟩ := I.list hqy
    have l1 := rv.length
    have l2 := rv2.length
    have hh : X.A.handled = none := I.ok.hd hc
    have hzl : z < s.heap.objs.size := Heap.lt_size hz
    refine wpAny_pyNext_zipD2_item S (Draws.tuple (A := X.A.in1) hh i1 a ha its.toArray) (Draws.list (A := X.A.in1) hh i2 b hb its2.toArray) hz hTI hTO ⟨h1, p⟩ ⟨h2, p2.isList⟩ (by simp; omega) (by simp; omega) fun u u2 h' tk hu hu2 z' TO' st1 st2 hT hsz hk => ?_
    obtain ⟨x, hx, ru⟩ := val_at rv hu
    obtain ⟨y, hy, ru2⟩ := val_at rv2 hu2
    refine ⟨_, rfl, wpAny_letOwnedTupleGo_zip (s := { s with heap := h', toks := tk }) z' fun h'' z'' sb => ?_⟩
    have hT2 : h''.get? s.heap.objs.size = some { cls := .type "tuple", data := .seq #[u, u2] } := (sb.2 _ (Nat.ne_of_gt hzl)).trans hT
    have new : ObjOk X.prog X.w (upd H s.heap.objs.size (.tup [x, y])) h'' s.heap.objs.size (.tup [x, y]) :=
      ⟨by show 2 ≤ sizeLine; decide, [u, u2], .cons ru (.cons ru2 .nil), ⟨_, hT2, rfl, _, rfl⟩⟩
    have I1 : Inv X pins σ (upd H s.heap.objs.size (.tup [x, y])) { s with heap := h'', toks := tk } :=
      I.turnedNew (ch := [z, TI, TO, i1, i2]) (fun c o hb q => (sb.2 c (fun q' => hb (by simp [q']))).trans (hk c o (fun q' => hb (by simp [q'])) (fun q' => hb (by simp [q'])) (fun q' => hb (by simp [q'])) (fun q' => hb (by simp [q'])) q)) hf (Nat.le_refl _) new
    refine ⟨.ref s.heap.objs.size, _, I1, rfl, ⟨_, x, y, rfl, I.hok.fresh (Nat.le_refl _), rfl, hx, hy⟩, ⟨z'', ?_, ⟨u, u2, ?_⟩, ?_, ?_⟩, fun c hcm => ?_⟩
    · exact (sb.2 _ S.TIz).trans (hk _ _ S.TIz S.TITO S.TIi1 S.TIi2 hTI)
    · exact (sb.2 _ S.TOz).trans TO'
    · exact st1.1.at fun o q => (sb.2 _ (Ne.symm S.zi1)).trans q
    · exact st2.1.at fun o q => (sb.2 _ (Ne.symm S.zi2)).trans q
    · have hlt : c < s.heap.objs.size := by
        have e' : c = z ∨ c = TI ∨ c = TO ∨ c = i1 ∨ c = i2 := by simpa using hcm
        rcases e' with q | q | q | q | q
        · rw [q]; exact hzl
        · rw [q]; exact Heap.lt_size hTI
        · rw [q]; exact Heap.lt_size hTO
        · rw [q]; obtain ⟨_, e1, _⟩ := h1; exact Heap.lt_size e1
        · rw [q]; obtain ⟨_, e2, _⟩ := h2; exact Heap.lt_size e2
      rw [upd_ne (Nat.ne_of_lt hlt)]
      exact (hf c hcm).1
  done := by
    intro X hP hw hK hc i pins s σ H E I hf st hg
    subst hP hw hK
    obtain ⟨hz, hTI, ⟨x0, y0, hTO⟩, h1, h2⟩ := st
    obtain ⟨hqx, hqy, hx, hy, hend⟩ := hg
    obtain ⟨its, rv, p, _⟩ := I.tuple hqx
    obtain ⟨its2, rv2, p2, _⟩ := I.list hqy
    have l1 := rv.length
    have l2 := rv2.length
    have hh : X.A.handled = none := I.ok.hd hc
    exact wpAny_pyNext_zipD2_end S (Draws.tuple (A := X.A.in1) hh i1 a ha its.toArray) (Draws.list (A := X.A.in1) hh i2 b hb its2.toArray) hz hTI hTO ⟨h1, p⟩ ⟨h2, p2.isList⟩ (by simp; omega) (by simp; omega) (by simp; omega) fun h' tk hk => ⟨rfl, I.turnedL (t' := tk) (ch := [z, TI, TO, i1, i2]) (fun c o hb q =>
      hk c o (fun q' => hb (by simp [q'])) (fun q' => hb (by simp [q'])) (fun q' => hb (by simp [q'])) (fun q' => hb (by simp [q'])) q) hf⟩
  self := fun A i s Q E st h => wpAny_pyIter_zip st.1 h
def iZipM (K : PySem.W.Frag) (ta : TA) : TI := fun σ H R => ta σ H fun vs H1 => ∃ a b xs ys, vs = [.ref a, .ref b] ∧ SqT K H1 a xs ∧ SqL K H1 b ys ∧ R (Itm K a b xs ys) H1
theorem pi_zipM {X : Cx} {e e2 : Expr} {ta : TA} {p pos tpos : Pos} {elts : List Expr} {kk : Nat} (hg : Gl X "zip") (hm : X.mg "zip" = none) (ha : PA X [e, e2] ta)
    (hs : starEach [e, e2] X.env = (false, eval e X.env) :: starEach [e2] X.env := by rfl) (hpl : (backTo pos (starEach [e2] X.env)).any (·.1) = false := by rfl) :
    PI X (.Tuple elts kk tpos) (.Call (.Name "zip" p) [e, e2] [] pos) (iZipM X.K ta) := by
  refine ⟨fun pins s σ H R I h => ?_⟩
  refine Call_ (ld_blt I hg hm PyProof.Rows.boot_zip (PyProof.Rows.callWith_type1 (thn (ha.run pos pins s σ H _ I h) fun us s1 ⟨vs, H1, I1, r1, q1⟩ => ?_) hs hpl))
  obtain ⟨a, b, xs, ys, ex, hqx, hqy, q⟩ := q1
  subst ex
  cases r1 with
  | cons r rr =>
    cases rr with
    | cons r' rr =>
      cases rr
      cases r
      cases r'
      have fresh5 : ∀ c, c ∈ [s1.heap.objs.size + 4, s1.heap.objs.size + 2, s1.heap.objs.size + 3, s1.heap.objs.size, s1.heap.objs.size + 1] → FpOk X pins H1 c := fun c hcm => by
        have e' : c = s1.heap.objs.size + 4 ∨ c = s1.heap.objs.size + 2 ∨ c = s1.heap.objs.size + 3 ∨ c = s1.heap.objs.size ∨ c = s1.heap.objs.size + 1 := by simpa using hcm
        have hle : s1.heap.objs.size ≤ c := by
          rcases e' with z | z | z | z | z
          · rw [z]; exact Nat.le_add_right _ _
          · rw [z]; exact Nat.le_add_right _ _
          · rw [z]; exact Nat.le_add_right _ _
          · rw [z]; exact Nat.le_refl _
          · rw [z]; exact Nat.le_add_right _ _
        exact I1.fpOk hle (I1.hok.fresh hle)
      obtain ⟨its, rv, p1, _⟩ := I1.tuple hqx
      obtain ⟨its2, rv2, p2, _⟩ := I1.list hqy
      have al : a < s1.heap.objs.size := by obtain ⟨_, q, _⟩ := id p1; exact Heap.lt_size q
      have bl : b < s1.heap.objs.size := by obtain ⟨_, q, _⟩ := p2.isList; exact Heap.lt_size q
      refine zip_begins2 (begins_tuple a its.toArray) (begins_list b its2.toArray) p1 p2.isList fun h' hz hTI hTO h1 h2 hsz hk => wpAny_pyIter_zip hz ?_
      have I2 : Inv X pins σ H1 { s1 with heap := h' } := I1.kept (t' := s1.toks) hk
      have n1 : ∀ k, s1.heap.objs.size + k ≠ a := fun k => by
        intro e
        have : s1.heap.objs.size ≤ a := by rw [← e]; exact Nat.le_add_right _ _
        exact Nat.lt_irrefl _ (Nat.lt_of_lt_of_le al this)
      have n2 : ∀ k, s1.heap.objs.size + k ≠ b := fun k => by
        intro e
        have : s1.heap.objs.size ≤ b := by rw [← e]; exact Nat.le_add_right _ _
        exact Nat.lt_irrefl _ (Nat.lt_of_lt_of_le bl this)
      have nn : ∀ j k : Nat, j ≠ k → s1.heap.objs.size + j ≠ s1.heap.objs.size + k := fun j k h e => h (Nat.add_left_cancel e)
      exact ⟨s1.heap.objs.size + 4, [s1.heap.objs.size + 4, s1.heap.objs.size + 2, s1.heap.objs.size + 3, s1.heap.objs.size, s1.heap.objs.size + 1], _, _, H1, rfl, I2,
        turn_zipM xs ys ⟨nn 2 4 (by decide), nn 3 4 (by decide), nn 2 3 (by decide), nn 2 0 (by decide), by simp, by simp [n1 4, nn 4 0 (by decide)], by simp [n1 3, nn 3 0 (by decide)], nn 2 1 (by decide), by simp, by simp [n2 4, nn 4 1 (by decide)], by simp [n2 3, nn 3 1 (by decide)], by simp [Nat.ne_of_gt bl], by simp [n1 1, nn 1 0 (by decide)]⟩ (Ne.symm (n1 0)) (Ne.symm (n2 1)),
        ⟨hz, hTI, ⟨_, _, hTO⟩, ⟨_, h1, rfl, rfl⟩, ⟨_, h2, rfl, rfl⟩⟩, fresh5, q⟩
theorem for_zipM {K : PySem.W.Frag} {a b : Addr} {xs ys : List V} {g : TG} {tb : TS} {D : Ends} {σ : L2.St} {H : Hp} (hlen : xs.length = ys.length) (Pv : Nat → L2.St → Hp → Prop) (h0 : Pv 0 σ H) (hl : ∀ i σ H, i ≤ xs.length → Pv i σ H → SqT K H a xs ∧ SqL K H b ys)
    (hs : ∀ i x y σ H T, xs[i]? = some x → ys[i]? = some y → Pv i σ H → H T = none → g (.ref T) σ (upd H T (.tup [x, y])) fun σ2 H2 => tb { D with nx := Pv (i + 1), ct := Pv (i + 1), bk := D.nx } σ2 H2) (hd : ∀ σ H, Pv xs.length σ H → D.nx σ H) :
    ∃ W : Nat → Nat → L2.St → Hp → Prop, (∃ m, W 0 m σ H) ∧ ∀ i m σ H, W i m σ H →
      ((Itm K a b xs ys).stop i H ∧ D.nx σ H) ∨ ((Itm K a b xs ys).go i H ∧ ∃ N : L2.St → Hp → Prop, (∀ σ' H', N σ' H' → ∃ m', m' < m ∧ W (i + 1) m' σ' H') ∧ ∀ x H', (Itm K a b xs ys).yld i H x H' → g x σ H' fun σ2 H2 => tb { D with nx := N, ct := N, bk := D.nx } σ2 H2) := by
  refine ⟨fun i m σ H => m = xs.length - i ∧ i ≤ xs.length ∧ Pv i σ H, ⟨xs.length, by simp, Nat.zero_le _, h0⟩, ?_⟩
  rintro i m σ H ⟨rfl, hi, p⟩
  obtain ⟨q1, q2⟩ := hl i σ H hi p
  by_cases hlt : i < xs.length
  · refine .inr ⟨⟨q1, q2, hlt, by omega⟩, Pv (i + 1), fun σ' H' p' => ⟨xs.length - (i + 1), by omega, rfl, hlt, p'⟩, fun x H' y => ?_⟩
    obtain ⟨T, x, y, rfl, hT, rfl, hx, hy⟩ := y
    exact hs i x y σ H T hx hy p hT
  · have e : i = xs.length := by omega
    exact .inl ⟨⟨q1, q2, by omega, by omega, .inl e⟩, hd _ _ (e ▸ p)⟩
/-! ### C(..), C in a local -/
section
variable {X : Cx} {CX : CXT} {k i : Nat} {f C : Addr} {fd : FuncData} {ps : List Str} {sp : Sp} {dvs : List V} {ds : List Value} {E : L2.St → XK} {x : Str} {p pos : Pos} {e : Expr} {es : List Expr} {t : TA}
theorem at0 {X : Cx} (σ : L2.St) : PassesAt CX0 X σ E0 := fun _ _ _ _ _ _ h => h.elim
def tMakeL (i : Nat) (C : Addr) (sp : Sp) (dvs : List V) (E : L2.St → XK) (t : TA) : TE := fun σ H Q => σ[i]? = some (some (.ref C)) ∧ t σ H fun vs H1 => ∀ x dx, H1 x = none → H1 dx = none → dx ≠ x →
  sp (.ref x :: (vs ++ dvs)) (upd (upd H1 dx (.own x)) x (.ins C dx [])) (fun v H2 => v = .non ∧ Q (.ref x) H2) (E σ)
theorem pe_makeL (M : Mk X.K C f) (F : FnOk X.prog X.w X.K X.mg X.base CX k f fd ps sp) (hr : Room (k + 1) X.A) (hN : X.N[i]? = some x) (hv : Vis X.env.scope x) (hb : Binds X.K fd ps ds) (hd : Vals dvs ds) (hx : ∀ σ, PassesAt CX X σ (E σ))
    (ha : PA X (e :: es) t) (hdb : (x == ("__debug__" : Str)) = false := by decide) (hcd : (x == ("__classdict__" : Str)) = false := by decide)
    (he : starEach (e :: es) X.env = (false, eval e X.env) :: starEach es X.env := by rfl) (hpl : (backTo pos (starEach es X.env)).any (·.1) = false := by rfl) :
    PE X (.Call (.Name x p) (e :: es) [] pos) (tMakeL i C sp dvs E t) := by
  refine ⟨fun pins s σ H Q I h => ?_⟩
  obtain ⟨hs, ht⟩ := h
  refine wpAny_Call_Name_kw (thn ((pe_var (pos := p) hN hv hdb hcd).run pins s σ H (fun v H1 => v = .ref C ∧ H1 = H) I ⟨.ref C, hs, rfl, rfl⟩) fun u s1 ⟨v, H1, I1, r1, q1⟩ => ?_)
  obtain ⟨rfl, rfl⟩ := q1
  cases r1
  refine PySem.W.callWith_K (h₀ := X.base) I.ok.mod.kin M.kp (thn (ha.run pos pins s1 σ _ _ I1 ht) fun us s2 ⟨vs, H2, I2, r, q⟩ => ⟨I2.kIn, ?_⟩) he hpl
  exact run_makeS M F hr hb hd (hx σ) I2 r q
end
/-! ### len(o), o[i] by own methods -/
section
variable {X : Cx} {CX : CXT} {C f : Addr} {fd : FuncData} {ps : List Str} {n : Nat} {sp : Sp} {E : XK}
def rLenOwn (C : Addr) (sp : Sp) (E : XK) : List V → Hp → VK → Prop := fun xs H Q => ∃ a dx fs, xs = [V.ref a] ∧ H a = some (.ins C dx fs) ∧ sp [.ref a] H (fun z H' => ∃ i : Int, z = .int i ∧ 0 ≤ i ∧ i < 1000000 ∧ Q (.int i) H') E
theorem call_lenOwn (hs : PySem.W.findIn X.K (.ref C) "__len__" = some (some (.ref f))) (hf : PySem.W.isFn X.K (.ref f) = true) (F : FnOk X.prog X.w X.K X.mg X.base CX n f fd ps sp) (hb : Binds X.K fd ps []) (hr : Room (n + 1) X.A) (hx : Passes CX X E) : CallR X (.builtin "len") (rLenOwn C sp E) := by
  intro pins s σ H xs us Q I r h
  obtain ⟨a, dx, fs, rfl, ha, q⟩ := h
  obtain ⟨u, rfl, ru⟩ := r.one
  cases (show u = Value.ref a from ru)
  obtain ⟨mA, J, _⟩ := ins_get I.hok ha
  obtain ⟨od, J, _⟩ := J.look
  refine Calls.call_function_entry kind_len plain_len entry_len (args_len1 _) ?_
  unfold Builtin.«len»
  refine wpAny_bind (m := oneArg "len" _) (wpAny_pure ?_)
  refine wpAny_bind (m := callSpecial? (.ref a) (Str.ofString "__len__")) (PySem.W.special_fn I.kIn J hs (beq_iff_eq.mp hf) (wpAny_mono (wpAny_call (run_ok (us := [.ref a]) (ws := [.ref a]) F hb (Room.in1 hr) I.env0.in1 hx I (.cons rfl .nil) q)) (fun w s' z => ?_) fun _ _ y => y))
  obtain ⟨z', H', I', rz, i, ei, i0, i1, qz⟩ := z
  subst ei
  obtain ⟨t, e⟩ := (show ∃ t, w = Value.int i t from rz)
  cases e
  refine wpAny_bind (wpAny_holding (wpAny_pure ?_))
  refine wpAny_bind (wpAny_letGo ?_)
  show wpAny _ _ (if i < 0 then _ else _) _ _ _
  rw [if_neg (by omega)]
  show wpAny _ _ (if i ≥ 2 ^ 63 then _ else _) _ _ _
  rw [if_neg (by omega)]
  exact wpAny_bind (wpAny_mkInt (wpAny_pure ⟨_, rfl, .int i, H', I'.tok _, ⟨_, rfl⟩, qz⟩))
def tIxOwn (C : Addr) (sp : Sp) (E : XK) (ta tb : TE) : TE := fun σ H Q => ta σ H fun x H1 => tb σ H1 fun y H2 => ∃ a dx fs, x = .ref a ∧ H2 a = some (.ins C dx fs) ∧ sp [.ref a, y] H2 Q E
theorem pe_ixOwn {a b : Expr} {pos : Pos} {ta tb : TE} (hs : PySem.W.findIn X.K (.ref C) "__getitem__" = some (some (.ref f))) (hf : PySem.W.isFn X.K (.ref f) = true) (hfn : PySem.W.fnIn X.K f = true) (F : FnOk X.prog X.w X.K X.mg X.base CX n f fd ps sp) (hb : Binds X.K fd ps []) (hr : Room (n + 1) X.A) (hx : Passes CX X E)
    (ha : PE X a ta) (hb2 : PE X b tb) (hsl : ∀ v u, subscripted b true v u = runValue (.builtin "lifetime.subscript" ⟨[v, u], []⟩) := by intro _ _; rfl) : PE X (.Subscript a b pos) (tIxOwn C sp E ta tb) := by
  refine ⟨fun pins s σ H Q I h => ?_⟩
  refine Subscript_ (thn (ha.run pins s σ H _ I h) fun v s1 ⟨x, H1, I1, rx, q1⟩ => thn (hb2.run pins s1 σ H1 _ I1 q1) fun u s2 ⟨y, H2, I2, ry, o, dx, fs, ex, ho, q⟩ => ?_)
  subst ex
  cases (show v = Value.ref o from rx)
  obtain ⟨mA, J, _⟩ := ins_get I2.hok ho
  obtain ⟨od, J, _⟩ := J.look
  obtain ⟨m, hF⟩ := I2.fr
  exact PySem.W.sub_K hF I2.ok.mod.kin J hs hfn hf (wpAny_call (run_ok (us := [.ref o, u]) (ws := [.ref o, y]) F hb (Room.in1 hr) I2.env0.in1 hx I2 (.cons rfl (.cons ry .nil)) q)) (hsl _ _)
end
end L2.Wk
namespace L2.Wk
open PySem PySem.Spec PyProof.Rows
/-- repr of a number, or of None -/
def reprV : V → Str
  | .int i => toString i
  | _ => Str.ofString "None"
theorem call_reprIN {X : Cx} : CallR X (.builtin "repr") (fun xs H Q => ∃ v, xs = [v] ∧ ((∃ i : Int, v = .int i ∧ i.natAbs.log2 < 1920) ∨ v = .non) ∧ Q (.str (reprV v)) H) := by
  intro pins s σ H xs us Q I r h
  obtain ⟨v, rfl, hv, q⟩ := h
  rcases hv with ⟨i, rfl, hz⟩ | rfl
  · obtain ⟨u, rfl, t, rfl⟩ := vals1 r
    exact PySem.P.repr_of_int hz ⟨.str _, H, I.tok _, ⟨_, rfl⟩, q⟩
  · obtain ⟨u, rfl, e⟩ := vals1 r
    cases (show u = Value.none from e)
    exact PySem.P.repr_of_none ⟨.str _, H, I.tok _, ⟨_, rfl⟩, q⟩
/-! ### enumerate(tuple) -/
def Itq (K : PySem.W.Frag) (a : Addr) (xs : List V) : It :=
  ⟨fun i H => SqT K H a xs ∧ i < xs.length, fun i H v H' => ∃ T x, v = .ref T ∧ H T = none ∧ H' = upd H T (.tup [.int (i : Nat), x]) ∧ xs[i]? = some x, fun i H => SqT K H a xs ∧ i = xs.length⟩
theorem turn_enumT {P : Program} {w : World} {K : PySem.W.Frag} {elts : List Expr} {kk : Nat} {tpos : Pos} (a e it : Addr) (xs : List V) :
    Turn P w K (.Tuple elts kk tpos) (Itq K a xs) [e, it] e (fun i h => (∃ old, IsEnum h e it (((i : Nat) : Int)) old) ∧ h.IsTupleIter it a i ∧ e ≠ it ∧ a ≠ it ∧ a ≠ e) where
  mem := by simp
  obj := fun i h st b hb => by
    obtain ⟨⟨old, he⟩, ⟨o, ho, hc, hd⟩, _⟩ := st
    have e' : b = e ∨ b = it := by simpa using hb
    rcases e' with z | z
    · rw [z]; exact ⟨_, he, fun v q => nomatch q⟩
    · rw [z]; exact ⟨o, ho, fun v q => by rw [hd] at q; cases q⟩
  keep := fun i h h' st k => let ⟨⟨old, he⟩, hi, hne⟩ := st; ⟨⟨old, k e (by simp) _ he⟩, hi.at fun o q => k it (by simp) o q, hne⟩
  item := by
    intro X hP hw hK hc i pins s σ H E I hf st hg
    subst hP hw hK
    obtain ⟨⟨old, he⟩, hit, hne, hai, hae⟩ := st
    obtain ⟨hq, hi⟩ := hg
    obtain ⟨its, rv, p, hz⟩ := I.tuple hq
    have hl := rv.length
    have hel : e < s.heap.objs.size := Heap.lt_size he
    have hil : it < s.heap.objs.size := by obtain ⟨_, q, _⟩ := hit; exact Heap.lt_size q
    have hh : X.A.handled = none := I.ok.hd hc
    refine wpAny_pyNext_enum_itemC (Draws.tuple (A := X.A.in1) hh it a hai its.toArray) he ⟨hit, p⟩ (by simp; omega) hne (by simp [hne, Ne.symm hae]) fun u h' tk hu ho hst hT hsz hk => ?_
    obtain ⟨x, hx, ru⟩ := val_at rv hu
    obtain ⟨hit', _⟩ := hst
    refine ⟨_, rfl, wpAny_letOwnedTupleGo_enum (s := { s with heap := h', toks := tk + 1 }) ho fun h'' he' sb => ?_⟩
    have hT2 : h''.get? s.heap.objs.size = some { cls := .type "tuple", data := .seq #[.int (i : Int) tk, u] } := (sb.2 _ (Nat.ne_of_gt hel)).trans hT
    have new : ObjOk X.prog X.w (upd H s.heap.objs.size (.tup [.int (i : Nat), x])) h'' s.heap.objs.size (.tup [.int (i : Nat), x]) :=
      ⟨by show 2 ≤ sizeLine; decide, [.int (i : Int) tk, u], .cons ⟨_, rfl⟩ (.cons ru .nil), ⟨_, hT2, rfl, _, rfl⟩⟩
    have I1 : Inv X pins σ (upd H s.heap.objs.size (.tup [.int (i : Nat), x])) { s with heap := h'', toks := tk + 1 } :=
      I.turnedNew (ch := [e, it]) (fun b ob hb q => (sb.2 b (fun z => hb (by simp [z]))).trans (hk b ob (fun z => hb (by simp [z])) (fun z => hb (by simp [z])) q)) hf (Nat.le_refl _) new
    refine ⟨.ref s.heap.objs.size, _, I1, rfl, ⟨_, x, rfl, I.hok.fresh (Nat.le_refl _), rfl, hx⟩, ⟨⟨u, ?_⟩, hit'.at fun o q => (sb.2 it (Ne.symm hne)).trans q, hne, hai, hae⟩, fun b hb => ?_⟩
    · have e1 : ((i + 1 : Nat) : Int) = (i : Int) + 1 := by omega
      rw [e1]; exact he'
    · have hb' : b < s.heap.objs.size := by
        have e' : b = e ∨ b = it := by simpa using hb
        rcases e' with z | z
        · rw [z]; exact hel
        · rw [z]; exact hil
      rw [upd_ne (Nat.ne_of_lt hb')]
      exact (hf b hb).1
  done := by
    intro X hP hw hK hc i pins s σ H E I hf st hg
    subst hP hw hK
    obtain ⟨⟨old, he⟩, hit, hne, hai, hae⟩ := st
    obtain ⟨hq, hx⟩ := hg
    obtain ⟨its, rv, p, hz⟩ := I.tuple hq
    obtain ⟨f0, f1, f2, f3, f4, f5⟩ := hf it (by simp)
    have hl := rv.length
    have hh : X.A.handled = none := I.ok.hd hc
    have hi : i = its.toArray.size := by simp; omega
    exact wpAny_pyNext_enum_endD (Draws.tuple (A := X.A.in1) hh it a hai its.toArray) he ⟨by rw [← hi]; exact hit, p⟩ fun h' eb => ⟨rfl, I.turned (t' := s.toks) (fun b o hb q => eb b o hb q) f0 f1 f3 f4 f5⟩
  self := fun A i s Q E st h => let ⟨⟨_, he⟩, _⟩ := st; wpAny_pyIter_enum he h
set_option maxHeartbeats 4000000 in
theorem meets_enum0 {v : Value} {o : Obj} {H : Heap → Prop} (B : Begins v o H) :
    Meets (Builtin.«enumerate.__new__» ⟨[.type "enumerate", v], []⟩) (fun _ R s => H s.heap ∧
      R (.ok (.ret (.ref (s.heap.push o).objs.size))) { s with heap := (s.heap.push o).push { cls := .type "enumerate", data := .fields #[.none, .bool false, .ref s.heap.objs.size, rawInt 0, .none, .none] } }) :=
  .of_wp fun prog w A R s h => by
    obtain ⟨hp, g, d, tk, os⟩ := s; obtain ⟨h1, h⟩ := h
    have hsub := sub_enumerate
    have q1 : ∀ {A' : Around} {E : Value → Shared → Prop} {Q : Value → Shared → Prop}, Q (.ref hp.objs.size) ⟨hp.push o, g, d, tk, os⟩ → wpAny (model prog w) A' (pyIter v) Q E ⟨hp, g, d, tk, os⟩ :=
      fun q => B.iter prog w _ _ ⟨hp, g, d, tk, os⟩ _ h1 q
    wp_walk using q1
    refine wpAny_stack_any fun st => wpAny_pure ?_
    split
    · rename_i c _ _ _ _ _
      cases (c == Value.type "enumerate")
      · wp_walk using q1
        exact ⟨_, rfl, h⟩
      · wp_walk using q1
        exact ⟨_, rfl, h⟩
    · wp_walk using q1
      exact ⟨_, rfl, h⟩
theorem enum_begins0 {prog : Program} {w : World} {A : Around} {E : Value → Shared → Prop} {s : Shared} {v : Value} {o : Obj} {H : Heap → Prop} {Q : Value → Shared → Prop} (B : Begins v o H) (h1 : H s.heap)
    (h : ∀ h', IsEnum h' (s.heap.objs.size + 1) s.heap.objs.size 0 .none → h'.get? s.heap.objs.size = some o → h'.objs.size = s.heap.objs.size + 2 →
      (∀ b o, s.heap.get? b = some o → h'.get? b = some o) → Q (.ref (s.heap.objs.size + 1)) { s with heap := h' }) :
    wpAny (model prog w) A (call (.type "enumerate") [v]) Q E s := by
  refine callType_new F.called_enumerate (by decide) (F.typeCall_enumerate_1 _) (F.newCall_enumerate_1 _) (fun obj => F.args_object_init_2 obj _) F.entry_enumerate_new
    (meets_enum0 B) ⟨h1, ?_⟩
  have hz : (s.heap.push o).objs.size = s.heap.objs.size + 1 := Heap.size_push ..
  show _ ∧ _
  rw [hz]
  have he : IsEnum ((s.heap.push o).push { cls := .type "enumerate", data := .fields #[.none, .bool false, .ref s.heap.objs.size, rawInt 0, .none, .none] }) (s.heap.objs.size + 1) s.heap.objs.size 0 .none := by
    have := Heap.get?_push_size (s.heap.push o) (o := { cls := .type "enumerate", data := .fields #[.none, .bool false, .ref s.heap.objs.size, rawInt 0, .none, .none] }) rfl
    rw [hz] at this; exact this
  refine ⟨⟨_, he, rfl⟩, h _ he (Heap.get?_push_of_some _ (Heap.get?_push_size _ B.free)) (by rw [Heap.size_push, hz]) fun b o x => Heap.get?_push_of_some _ (Heap.get?_push_of_some _ x)⟩
def iEnumT (K : PySem.W.Frag) (ta : TA) : TI := fun σ H R => ta σ H fun vs H1 => ∃ a xs, vs = [.ref a] ∧ SqT K H1 a xs ∧ R (Itq K a xs) H1
theorem pi_enumT {X : Cx} {e : Expr} {ta : TA} {p pos tpos : Pos} {elts : List Expr} {kk : Nat} (hg : Gl X "enumerate") (hm : X.mg "enumerate" = none) (ha : PA X [e] ta) (hs : starEach [e] X.env = [(false, eval e X.env)] := by rfl) :
    PI X (.Tuple elts kk tpos) (.Call (.Name "enumerate" p) [e] [] pos) (iEnumT X.K ta) := by
  refine ⟨fun pins s σ H R I h => ?_⟩
  refine Call_ (ld_blt I hg hm boot_enumerate (PyProof.Rows.callWith_type1 (thn (ha.run pos pins s σ H _ I h) fun us s1 ⟨vs, H1, I1, r1, q1⟩ => ?_) hs rfl))
  obtain ⟨a, xs, ex, hq, q⟩ := q1
  subst ex
  cases r1 with
  | cons r rr =>
    cases rr
    cases r
    obtain ⟨its, rv, p', hz⟩ := I1.tuple hq
    have hal : a < s1.heap.objs.size := by obtain ⟨_, q, _⟩ := id p'; exact Heap.lt_size q
    refine enum_begins0 (begins_tuple a its.toArray) p' fun h' he hit hsz hk => wpAny_pyIter_enum he ?_
    have I2 : Inv X pins σ H1 { s1 with heap := h' } := I1.kept (t' := s1.toks) hk
    refine ⟨s1.heap.objs.size + 1, [s1.heap.objs.size + 1, s1.heap.objs.size], _, _, H1, rfl, I2, turn_enumT a (s1.heap.objs.size + 1) s1.heap.objs.size xs, ⟨⟨.none, he⟩, ⟨_, hit, rfl, rfl⟩, Nat.succ_ne_self _, Nat.ne_of_lt hal, Nat.ne_of_lt (Nat.lt_succ_of_lt hal)⟩, fun b hb => ?_, q⟩
    have e' : b = s1.heap.objs.size + 1 ∨ b = s1.heap.objs.size := by simpa using hb
    have hle : s1.heap.objs.size ≤ b := by
      rcases e' with z | z
      · rw [z]; exact Nat.le_add_right _ _
      · rw [z]; exact Nat.le_refl _
    exact I1.fpOk hle (I1.hok.fresh hle)
theorem for_enumT {K : PySem.W.Frag} {a : Addr} {xs : List V} {g : TG} {tb : TS} {D : Ends} {σ : L2.St} {H : Hp} (Pv : Nat → L2.St → Hp → Prop) (h0 : Pv 0 σ H) (hl : ∀ i σ H, i ≤ xs.length → Pv i σ H → SqT K H a xs)
    (hs : ∀ i x σ H T, xs[i]? = some x → Pv i σ H → H T = none → g (.ref T) σ (upd H T (.tup [.int (i : Nat), x])) fun σ2 H2 => tb { D with nx := Pv (i + 1), ct := Pv (i + 1), bk := D.nx } σ2 H2) (hd : ∀ σ H, Pv xs.length σ H → D.nx σ H) :
    ∃ W : Nat → Nat → L2.St → Hp → Prop, (∃ m, W 0 m σ H) ∧ ∀ i m σ H, W i m σ H →
      ((Itq K a xs).stop i H ∧ D.nx σ H) ∨ ((Itq K a xs).go i H ∧ ∃ N : L2.St → Hp → Prop, (∀ σ' H', N σ' H' → ∃ m', m' < m ∧ W (i + 1) m' σ' H') ∧ ∀ x H', (Itq K a xs).yld i H x H' → g x σ H' fun σ2 H2 => tb { D with nx := N, ct := N, bk := D.nx } σ2 H2) := by
  refine ⟨fun i m σ H => m = xs.length - i ∧ i ≤ xs.length ∧ Pv i σ H, ⟨xs.length, by simp, Nat.zero_le _, h0⟩, ?_⟩
  rintro i m σ H ⟨rfl, hi, p⟩
  by_cases hlt : i < xs.length
  · refine .inr ⟨⟨hl i σ H hi p, hlt⟩, Pv (i + 1), fun σ' H' p' => ⟨xs.length - (i + 1), by omega, rfl, hlt, p'⟩, fun x H' y => ?_⟩
    obtain ⟨T, x, rfl, hT, rfl, hx⟩ := y
    exact hs i x σ H T hx p hT
  · have e : i = xs.length := by omega
    exact .inl ⟨⟨hl i σ H hi p, e⟩, hd _ _ (e ▸ p)⟩
theorem for_enumL {K : PySem.W.Frag} {a : Addr} {xs : List V} {g : TG} {tb : TS} {D : Ends} {σ : L2.St} {H : Hp} (Pv : Nat → L2.St → Hp → Prop) (h0 : Pv 0 σ H) (hl : ∀ i σ H, i ≤ xs.length → Pv i σ H → SqL K H a xs)
    (hs : ∀ i x σ H T, xs[i]? = some x → Pv i σ H → H T = none → g (.ref T) σ (upd H T (.tup [.int (i : Nat), x])) fun σ2 H2 => tb { D with nx := Pv (i + 1), ct := Pv (i + 1), bk := D.nx } σ2 H2) (hd : ∀ σ H, Pv xs.length σ H → D.nx σ H) :
    ∃ W : Nat → Nat → L2.St → Hp → Prop, (∃ m, W 0 m σ H) ∧ ∀ i m σ H, W i m σ H →
      ((Ite K a).stop i H ∧ D.nx σ H) ∨ ((Ite K a).go i H ∧ ∃ N : L2.St → Hp → Prop, (∀ σ' H', N σ' H' → ∃ m', m' < m ∧ W (i + 1) m' σ' H') ∧ ∀ x H', (Ite K a).yld i H x H' → g x σ H' fun σ2 H2 => tb { D with nx := N, ct := N, bk := D.nx } σ2 H2) := by
  refine ⟨fun i m σ H => m = xs.length - i ∧ i ≤ xs.length ∧ Pv i σ H, ⟨xs.length, by simp, Nat.zero_le _, h0⟩, ?_⟩
  rintro i m σ H ⟨rfl, hi, p⟩
  have q := hl i σ H hi p
  by_cases hlt : i < xs.length
  · refine .inr ⟨⟨xs, _, q, List.getElem?_eq_getElem hlt⟩, Pv (i + 1), fun σ' H' p' => ⟨xs.length - (i + 1), by omega, rfl, hlt, p'⟩, fun x H' y => ?_⟩
    obtain ⟨T, x, rfl, hT, rfl, hx⟩ := y
    exact hs i x σ H T (hx xs q) p hT
  · have e : i = xs.length := by omega
    exact .inl ⟨⟨xs, q, by omega⟩, hd _ _ (e ▸ p)⟩
/-! ### x + y by an own __add__, both of one class -/
section
variable {X : Cx} {CX : CXT} {C f : Addr} {fd : FuncData} {ps : List Str} {n : Nat} {sp : Sp} {E : XK}
def rAddOwn (C : Addr) (sp : Sp) (E : XK) : R2 := fun x y H Q => ∃ a b dx fs dy gs, x = .ref a ∧ y = .ref b ∧ H a = some (.ins C dx fs) ∧ H b = some (.ins C dy gs) ∧ sp [.ref a, .ref b] H Q E
theorem op_addOwn (hs : PySem.W.findIn X.K (.ref C) "__add__" = some (some (.ref f))) (hf : PySem.W.isFn X.K (.ref f) = true) (hc : PySem.W.selfFirst X.K C = true) (F : FnOk X.prog X.w X.K X.mg X.base CX n f fd ps sp) (hb : Binds X.K fd ps []) (hr : Room n X.A) (hx : Passes CX X E) :
    OpR X (binaryOp .Add) (rAddOwn C sp E) := by
  intro pins s σ H x y v u Q I rx ry h
  obtain ⟨a, b, dx, fs, dy, gs, rfl, rfl, ha, hb2, q⟩ := h
  cases (show v = Value.ref a from rx)
  cases (show u = Value.ref b from ry)
  obtain ⟨mA, J, _⟩ := ins_get I.hok ha
  obtain ⟨od, J, _⟩ := J.look
  obtain ⟨mB, J', _⟩ := ins_get I.hok hb2
  obtain ⟨od', J', _⟩ := J'.look
  obtain ⟨m, hF⟩ := I.fr
  refine PySem.W.binop_K hF I.ok.mod.kin J J'.type hc hs hf (wpAny_mono (wpAny_call (run_ok (us := [.ref a, .ref b]) (ws := [.ref a, .ref b]) F hb hr I.env0 hx I (.cons rfl (.cons rfl .nil)) q)) (fun r s' z => ?_) fun _ _ y => y)
  obtain ⟨z', H', I', rz, qz⟩ := z
  have ok : PySem.W.CmpBack (EP X pins σ Q) r s' := by
    cases r <;> first | exact ⟨z', H', I', rz, qz⟩ | (exfalso; cases z' <;> first | (obtain ⟨_, e⟩ := rz; cases e; done) | (cases rz; done))
  exact ok
end
end L2.Wk
/-! an own error over IndexError: its first field; x += y by an own __add__ -/
namespace PySem.LowI
open PySem PySem.Spec PySem.W Builtin Builtin.ObjectAttr
def tailI : List Value := [.type "IndexError", .type "LookupError", .type "Exception", .type "BaseException", .type "object"]
section
variable {prog : Program} {w : World} {A : Around} {E : Value → Shared → Prop} {R : Result → Shared → Prop} {hp : Heap} {g : Array GenState} {d : Drawn} {t : Nat} {os : OsState}
theorem exc_osaI {K : W.Frag} {name : Str} {tk : Tok} {v : Value} {x C : Addr} {fv : Array Value} {cd : ClassData}
    (X : K.In hp) (hx : hp.get? x = some { cls := .ref C, data := .fields fv }) (hcd : W.clsIn K C = some cd) (hm : cd.mro = .ref C :: tailI) (hh : cd.hasDict = true) (ha : W.findIn K (.ref C) name = some none)
    (hq : ∀ h' tk' dx, (∀ b o, b ≠ x → hp.get? b = some o → h'.get? b = some o) → hp.objs.size ≤ dx → dx ≠ x → h'.get? x = some { cls := .ref C, dict := some dx, data := .fields fv } →
      h'.Ns1 dx (fun y => if y = name then some v else none) → R (.ok (.ret .none)) ⟨h', g, d, tk', os⟩) :
    codeAny (model prog w) A (.call (.builtin "object.__setattr__") ⟨[.ref x, .str name tk, v], []⟩) R ⟨hp, g, d, t, os⟩ := by
  have I : W.InstAt hp x { cls := .ref C, data := .fields fv } C none := ⟨hx, rfl, rfl, trivial⟩
  have hxs : x ≠ hp.objs.size := Nat.ne_of_lt (Heap.lt_size hx)
  have ov : W.excOver K C tailI = true := by
    unfold W.excOver
    rw [hcd, Option.any_some, hm]
    show (C == C && W.excTail tailI tailI) = true
    rw [beq_self_eq_true, Bool.true_and]
    decide +kernel
  have tkr : W.takerIn K C name = some none := by
    unfold W.takerIn
    rw [ha]
    rfl
  refine W.osa_openX (C := C) (s := ⟨hp, g, d, t, os⟩) (bmB := tailI) F.store_IndexError X I ov tkr fun bb => ?_
  show wpAny _ _ (storeInOwnDict (.ref x) (.ref C) (.str name tk) name v bb) _ _ _
  have hcls : W.Looks (model prog w) hp (classData C) cd := W.looks_clsIn X hcd
  obtain ⟨nm, bs, mro, ns, qn, hd, sn, sb, ab, col, del⟩ := cd
  dsimp only at hh
  subst hh
  unfold storeInOwnDict ownDictForStores
  repeat (first | with_reducible refine PX.store_in_new ?_ ?_ | with_reducible refine wpAny_loadPart_at hx ?_ | with_reducible refine hcls.at ?_ | wp_step)
  · exact ⟨_, #[], _, (Heap.get?_update_ne _ _ _ _ hxs.symm).trans (Heap.get?_push_at rfl rfl), rfl, fun e he => absurd he (by simp), fun _ => rfl⟩
  · intro h' tk' hn' hs
    have hx1 : (hp.push { cls := .type "dict", data := .dict #[] }).get? x = some { cls := .ref C, data := .fields fv } := Heap.get?_push_of_some _ hx
    refine hq h' tk' hp.objs.size (fun b o hb ho => ?_) (Nat.le_refl _) hxs.symm ?_ hn'
    · exact (hs.2 b (Nat.ne_of_lt (Heap.lt_size ho))).trans ((Heap.get?_update_ne _ _ _ _ hb).trans (Heap.get?_push_of_some _ ho))
    · exact (hs.2 x hxs).trans (Heap.get?_update_self _ hx1 rfl)
end
end PySem.LowI
namespace PySem.W
section
variable {prog : Program} {w : World} {A : Around} {E : Value → Shared → Prop} {s : Shared} {K : Frag} {x C f : Addr} {ox : Obj} {od : Option Obj}
theorem noIadd {h : Heap} {cd : ClassData} (X : K.In h) (hcd : clsIn K C = some cd) (hm : cd.mro = [.ref C, .type "object"]) (h1 : findIn K (.ref C) "__iadd__" = some none) (h2 : findIn K (.type "object") "__iadd__" = some none) :
    Looks (model prog w) h (fillsInplaceSlot (.ref C) "add" true) false := by
  intro A Q E s k q
  have Lm : Looks (model prog w) h (mroOf (.ref C)) cd.mro := (looks_clsIn X hcd).andThen (f := fun cd => pure cd.mro) .now
  have Lm' := Lm.keeps k
  obtain ⟨hh, g, d, tt, os⟩ := s
  have X' : K.In hh := X.keeps k
  have L1 : Looks (model prog w) hh (typeLookup (.ref C) (dunderI "add")) none := looks_findIn X' h1
  have L2 : Looks (model prog w) hh (typeLookup (.type "object") (dunderI "add")) none := looks_findIn X' h2
  unfold fillsInplaceSlot
  refine wpAny_bind (Lm'.at ?_)
  rw [hm, List.anyM_cons]
  refine wpAny_bind ?_
  repeat lk
  exact q
theorem inplaceAdd_K {b : Value} {cd : ClassData} {Q : Value → Shared → Prop} (X : K.In s.heap) (I : InstAt s.heap x ox C od) (hb : Looks (model prog w) s.heap (typeOf b) (.ref C)) (hcd : clsIn K C = some cd) (hm : cd.mro = [.ref C, .type "object"]) (h1 : findIn K (.ref C) "__iadd__" = some none) (h2 : findIn K (.type "object") "__iadd__" = some none)
    (hs : findIn K (.ref C) "__add__" = some (some (.ref f))) (hf : isFn K (.ref f) = true)
    (h : wpAny (model prog w) A (call (.ref f) [.ref x, b]) (CmpBack Q) E s) : wpAny (model prog w) A (inplaceOp .Add (.ref x) b) Q E s := by
  have one := ksp_try X I hs hf h
  obtain ⟨hh, g, d, tt, os⟩ := s
  have L1 : Looks (model prog w) hh (typeOf (.ref x)) (.ref C) := I.type
  have L2 : Looks (model prog w) hh (fillsInplaceSlot (.ref C) "add" true) false := noIadd X hcd hm h1 h2
  have L3 : Looks (model prog w) hh (fillsNumberSlot (.ref C) "add") true := fills_K X hcd hm hs
  unfold inplaceOp
  refine wpAny_holding ?_
  simp only [show (Operator.Add).info.2 = "add" from rfl, show (Operator.Add == Operator.Add) = true from rfl]
  ksp_lk
  simp only [beq_self_eq_true, if_true]
  ksp_lk
  refine wpAny_mono one (fun r s' hr' => ?_) fun _ _ e => e
  obtain ⟨v, rfl, hq⟩ := hr'
  ksp_lk
  exact hq
end
end PySem.W
namespace L2.Wk
open PySem PySem.Spec PyProof.Rows
section
variable {X : Cx} {CX : CXT} {C f : Addr} {fd : FuncData} {ps : List Str} {n : Nat} {sp : Sp} {E : XK} {cd : ClassData}
theorem ip_addOwn (hcd : PySem.W.clsIn X.K C = some cd) (hm : cd.mro = [.ref C, .type "object"]) (h1 : PySem.W.findIn X.K (.ref C) "__iadd__" = some none) (hs : PySem.W.findIn X.K (.ref C) "__add__" = some (some (.ref f))) (hf : PySem.W.isFn X.K (.ref f) = true) (F : FnOk X.prog X.w X.K X.mg X.base CX n f fd ps sp) (hb : Binds X.K fd ps []) (hr : Room n X.A) (hx : Passes CX X E) :
    PIp X .Add (rAddOwn C sp E) := by
  intro pins s σ H x y v u Q I rx ry h
  obtain ⟨a, b, dx, fs, dy, gs, rfl, rfl, ha, hb2, q⟩ := h
  cases (show v = Value.ref a from rx)
  cases (show u = Value.ref b from ry)
  obtain ⟨mA, J, _⟩ := ins_get I.hok ha
  obtain ⟨od, J, _⟩ := J.look
  obtain ⟨mB, J', _⟩ := ins_get I.hok hb2
  obtain ⟨od', J', _⟩ := J'.look
  have h2 : PySem.W.findIn X.K (.type "object") "__iadd__" = some none := by kernel_rfl
  refine PySem.W.inplaceAdd_K I.kIn J J'.type hcd hm h1 h2 hs hf (wpAny_mono (wpAny_call (run_ok (us := [.ref a, .ref b]) (ws := [.ref a, .ref b]) F hb hr I.env0 hx I (.cons rfl (.cons rfl .nil)) q)) (fun r s' z => ?_) fun _ _ y => y)
  obtain ⟨z', H', I', rz, qz⟩ := z
  have ok : PySem.W.CmpBack (EP X pins σ Q) r s' := by
    cases r <;> first | exact ⟨z', H', I', rz, qz⟩ | (exfalso; cases z' <;> first | (obtain ⟨_, e⟩ := rz; cases e; done) | (cases rz; done))
  exact ok
end
section
variable {X : Cx} {CX : CXT} {C f : Addr} {fd : FuncData} {ps : List Str} {n : Nat} {sp : Sp} {E : L2.St → XK}
/-- run_ok, where what is let out is met at the slots -/
theorem run_okS {pins : List (Addr × Obj)} {σ : L2.St} {H : Hp} {s : Shared} {A : Around} {Q : VK} {us : List Value} {ws : List V} (F : FnOk X.prog X.w X.K X.mg X.base CX n f fd ps sp) (hb : Binds X.K fd ps []) (hr : Room n A) (e0 : Env0 X.prog X.w X.K X.mg X.base A X.stack s H) (hx : PassesAt CX X σ (E σ)) (I : Inv X pins σ H s) (r : Vals ws us) (h : sp ws H Q (E σ)) :
    codeAny (model X.prog X.w) A (.call (.ref f) ⟨us, []⟩) (fun r s' => match r with | .ok (.ret v) => EP X pins σ Q v s' | .ok _ => False | .error e => X.xe e s') s := by
  have hl := F.len _ _ _ _ h
  have b := hb s us I.kIn (by rw [List.append_nil, ← r.length]; exact hl)
  rw [List.append_nil] at b
  refine codeAny_mono (F.run A X.stack s H ⟨us, []⟩ us ws Q (E σ) hr e0 b r h) fun r s' hq => ?_
  rcases r with e | fl
  · exact hx pins H s e s' I hq
  cases fl <;> first | exact I.after hq | exact False.elim hq
def tMethS (C : Addr) (m : Str) (sp : Sp) (E : L2.St → XK) (ta : TE) (t : TA) : TE := fun σ H Q => ta σ H fun x H1 => ∃ a dx fs, x = .ref a ∧ H1 a = some (.ins C dx fs) ∧ fs.lookup m = none ∧ t σ H1 fun vs H2 => sp (x :: vs) H2 Q (E σ)
theorem pe_methE {m : Str} {o e : Expr} {es : List Expr} {ta : TE} {t : TA} {pos apos : Pos} {pl : Sem Bool} (he : PE X o ta) (c : Cls X.K C) (hm : Meth X.K C m f) (F : FnOk X.prog X.w X.K X.mg X.base CX n f fd ps sp) (hr : Room n X.A) (hb : Binds X.K fd ps []) (hx : ∀ σ, PassesAt CX X σ (E σ)) (ha : PA X (e :: es) t)
    (hst : starEach (e :: es) X.env = (false, eval e X.env) :: starEach es X.env := by rfl) (hpl : (backTo pos (starEach es X.env)).any (·.1) = false := by rfl)
    (ht : eval (.Call (.Attribute o m apos) (e :: es) [] pos) X.env = (do
      let ov ← eval o X.env
      standAt apos.atName
      let (f, first) ← holding [ov] (getMethod ov m pl)
      callWith pos f first (backTo pos (starEach (e :: es) X.env)) (backToKw pos (keywordEach [] X.env))) := by rfl) :
    PE X (.Call (.Attribute o m apos) (e :: es) [] pos) (tMethS C m sp E ta t) := by
  refine ⟨fun pins s σ H Q I h => ?_⟩
  refine PySem.W.methodCall_KW (pl := pl) (thn (he.run pins s σ H _ I h) fun u s1 ⟨x, H1, I1, rx, a, dx, fs, ex, ea, l, q⟩ => ?_) ht
  subst ex
  cases (show u = Value.ref a from rx)
  refine getmeth_ok I1 ea c hm l (PySem.W.callWith_K (first := [.ref a]) (h₀ := X.base) I.ok.mod.kin hm.kp (thn (ha.run pos pins s1 σ H1 _ I1 q) fun us s2 ⟨vs, H2, I2, r, q2⟩ => ⟨I2.kIn, ?_⟩) hst hpl)
  exact run_fnS (us := .ref a :: us) (vs := .ref a :: vs) F hr hb (hx σ) I2 (.cons rfl r) q2
def tIxOwnS (C : Addr) (sp : Sp) (E : L2.St → XK) (ta tb : TE) : TE := fun σ H Q => ta σ H fun x H1 => tb σ H1 fun y H2 => ∃ a dx fs, x = .ref a ∧ H2 a = some (.ins C dx fs) ∧ sp [.ref a, y] H2 Q (E σ)
theorem pe_ixOwnE {a b : Expr} {pos : Pos} {ta tb : TE} (hs : PySem.W.findIn X.K (.ref C) "__getitem__" = some (some (.ref f))) (hf : PySem.W.isFn X.K (.ref f) = true) (hfn : PySem.W.fnIn X.K f = true) (F : FnOk X.prog X.w X.K X.mg X.base CX n f fd ps sp) (hb : Binds X.K fd ps []) (hr : Room (n + 1) X.A) (hx : ∀ σ, PassesAt CX X σ (E σ))
    (ha : PE X a ta) (hb2 : PE X b tb) (hsl : ∀ v u, subscripted b true v u = runValue (.builtin "lifetime.subscript" ⟨[v, u], []⟩) := by intro _ _; rfl) : PE X (.Subscript a b pos) (tIxOwnS C sp E ta tb) := by
  refine ⟨fun pins s σ H Q I h => ?_⟩
  refine Subscript_ (thn (ha.run pins s σ H _ I h) fun v s1 ⟨x, H1, I1, rx, q1⟩ => thn (hb2.run pins s1 σ H1 _ I1 q1) fun u s2 ⟨y, H2, I2, ry, o, dx, fs, ex, ho, q⟩ => ?_)
  subst ex
  cases (show v = Value.ref o from rx)
  obtain ⟨mA, J, _⟩ := ins_get I2.hok ho
  obtain ⟨od, J, _⟩ := J.look
  obtain ⟨m, hF⟩ := I2.fr
  exact PySem.W.sub_K hF I2.ok.mod.kin J hs hfn hf (wpAny_call (run_okS (us := [.ref o, u]) (ws := [.ref o, y]) F hb (Room.in1 hr) I2.env0.in1 (hx σ) I2 (.cons rfl (.cons ry .nil)) q)) (hsl _ _)
end
end L2.Wk
/-! two sets of the same texts are equal -/
namespace L2.Wk
open PySem PySem.Spec PyProof.Rows
theorem entry_set_ne : entryFor table "set.__ne__" = some Builtin.«frozenset.__ne__» := entryFor_alias (id' := "frozenset.__ne__") (by kernel_rfl) rfl (by decide +kernel) (by kernel_rfl)
section
variable {prog : Program} {w : World} {A : Around} {E : Value → Shared → Prop} {s : Shared} {a b : Addr} {S : Str → Bool} {n : Nat}
theorem set_ne_body {R : Result → Shared → Prop} (ha : SetS w s.heap a S n) (hb : SetS w s.heap b S n) (k : R (.ok (.ret (.bool false))) s) :
    wpAny (model prog w) A.in1 (Builtin.«frozenset.__ne__» ⟨[.ref a, .ref b], []⟩) (GQ.FinOf prog w A R) (fun e s' => R (.error e) s') s := by
  obtain ⟨o, es, ep, t, ho, hex, hd, g, nd, hm, hbn, hf, hn, hr, hl⟩ := id ha
  obtain ⟨o2, es2, ep2, t2, ho2, hex2, hd2, g2, nd2, hm2, hbn2, hf2, hn2, hr2, hl2⟩ := id hb
  have f1 : isSubtype (.type "set") (.type "set") = pure true := by rw [isSubtype_type]; kernel_rfl
  have f2 : isSubtype (.type "set") (.type "frozenset") = pure false := by rw [isSubtype_type]; kernel_rfl
  have TA : s.TypeIs (.ref a) "set" := ⟨o, ho, hex.1⟩
  have TB : s.TypeIs (.ref b) "set" := ⟨o2, ho2, hex2.1⟩
  refine wpAny_bind (m := Builtin.Frozenset.slot1 "__ne__" ⟨[.ref a, .ref b], []⟩) ?_
  unfold Builtin.Frozenset.slot1
  obtain ⟨hp, gg, dd, tk, os⟩ := s
  dsimp only at ho ho2
  have hS2 := SetS.setOf (P := prog) hb
  wp_walk using wpAny_setState_of ho hd hf, wpAny_setState_of ho2 hd2 hf2, wpAny_loadPart' ho, wpAny_loadPart' ho2, wpAny_forIn_list _ (fun (rest : List (Int × Value)) (b : Option (List (Int × Value)) × Unit) s' => b = (none, ()) ∧ s' = ⟨hp, gg, dd, tk, os⟩ ∧ ∀ e ∈ rest, GoodS w e) _, wpAny_forIn_list _ (fun (rest : List (Int × Value)) (b : Option Bool × Unit) s' => b = (none, ()) ∧ s' = ⟨hp, gg, dd, tk, os⟩ ∧ ∀ e ∈ rest, GoodS w e ∧ S (keyS e) = true) _
  case turn =>
    rintro ⟨h0, x0⟩ rest b1 s1 ⟨rfl, rfl, hg⟩
    obtain ⟨k0, tk0, e1, e2⟩ := hg (h0, x0) (List.mem_cons_self ..)
    dsimp only at e1 e2
    subst e1
    refine wpAny_bind (m := Builtin.Frozenset.quietEq (Value.str k0 tk0)) (wpAny_pure ?_)
    exact wpAny_pure ⟨rfl, rfl, fun e he => hg e (List.mem_cons_of_mem _ he)⟩
  case h =>
    refine ⟨rfl, rfl, fun e he => ?_⟩
    rcases List.mem_append.mp he with he | he
    · exact g e he
    · exact g2 e he
  case fin =>
    rintro b1 s1 ⟨rfl, rfl, -⟩
    refine wpAny_pure ?_
    refine wpAny_bind ?_
    refine wpAny_forIn_list _ (fun (rest : List (Int × Value)) (b : Option Bool × Unit) s' => b = (none, ()) ∧ s' = ⟨hp, gg, dd, tk, os⟩ ∧ ∀ e ∈ rest, GoodS w e ∧ S (keyS e) = true) _ ?_ ?_ _ _ ⟨rfl, rfl, fun e he => ⟨g e he, (hm _).mpr (List.mem_map_of_mem he)⟩⟩
    · rintro ⟨h0, x0⟩ rest b1 s1 ⟨rfl, rfl, hg⟩
      obtain ⟨⟨k0, tk0, e1, e2⟩, hk⟩ := hg (h0, x0) (List.mem_cons_self ..)
      dsimp only at e1 e2
      subst e1
      subst e2
      have hk0 : S k0 = true := hk
      refine wpAny_bind (wpAny_holding (wpAny_setFind_of (knd := PySem.strKind prog w) (k := k0) (PySem.strKind_is prog w k0 tk0) rfl hS2 fun r hr => ?_))
      obtain ⟨i, rfl⟩ : ∃ i, r = some i := Option.isSome_iff_exists.mp (hr.trans hk0)
      wp_walk using wpAny_setState_of ho hd hf
      exact ⟨rfl, rfl, fun e he => hg e (List.mem_cons_of_mem _ he)⟩
    · rintro b1 s1 ⟨rfl, rfl, -⟩
      wp_walk
      exact k
theorem rc_set_ne {Q : Value → Shared → Prop} (hu : A.units < cLine) (ha : SetS w s.heap a S n) (hb : SetS w s.heap b S n) (k : Q (.bool false) s) : wpAny (model prog w) A (richCompare .NotEq (.ref a) (.ref b)) Q E s := by
  obtain ⟨o, es, ep, t, ho, hex, hd, _⟩ := id ha
  obtain ⟨o2, es2, ep2, t2, ho2, hex2, hd2, _⟩ := id hb
  refine wpAny_richCompare_same_room (op := .NotEq) ⟨_, ho, hex.1⟩ ⟨_, ho2, hex2.1⟩ F.slot_set_ne (GQ.call_here F.slot_set_ne ⟨_, ho, hex.1⟩ entry_set_ne (F.args_set_ne_2 _ _) ?_) hu
  exact set_ne_body (R := wants (fun v s' => v ≠ .notImplemented ∧ Q v s') E) ha hb ⟨(fun x => nomatch x), k⟩
theorem SetS.card {h : Heap} {S' : Str → Bool} {n' : Nat} (ha : SetS w h a S n) (hb : SetS w h b S' n') (e : ∀ k, S k = S' k) : n = n' := by
  obtain ⟨o, es, ep, t, ho, hex, hd, g, nd, hm, hbn, hf, hn, _⟩ := ha
  obtain ⟨o2, es2, ep2, t2, ho2, hex2, hd2, g2, nd2, hm2, hbn2, hf2, hn2, _⟩ := hb
  have l1 := few_len nd fun k hk => (hm2 k).mp (by rw [← e]; exact (hm k).mpr hk)
  have l2 := few_len nd2 fun k hk => (hm k).mp (by rw [e]; exact (hm2 k).mpr hk)
  rw [List.length_map, List.length_map, Array.length_toList, Array.length_toList] at l1 l2
  omega
end
section
variable {X : Cx}
def rSetNe (w : World) : R2 := fun x y H Q => ∃ (a b : Addr) (S S' : Str → Bool) (n n' : Nat), x = .ref a ∧ y = .ref b ∧ H a = some (SetT w a S n) ∧ H b = some (SetT w b S' n') ∧ (∀ k, S k = S' k) ∧ Q (.bl false) H
theorem op_setNe (hu : X.A.units < cLine) : OpR X (compareOp .NotEq) (rSetNe X.w) := by
  intro pins s σ H x y v u Q I rx ry hq
  obtain ⟨a, b, S, S', n, n', rfl, rfl, ha, hb, e, q⟩ := hq
  cases (show v = Value.ref a from rx)
  cases (show u = Value.ref b from ry)
  have R1 : SetS X.w s.heap a S n := (I.hok a _ ha).1
  have R2 : SetS X.w s.heap b S' n' := (I.hok b _ hb).1
  have en := SetS.card R1 R2 e
  subst en
  exact rc_set_ne hu R1 (R2.congr e) ⟨.bl false, H, I, rfl, q⟩
end
end L2.Wk
namespace L2.Wk
open PySem PySem.Spec PyProof.Rows
/-! ### a classmethod called off its class in a try -/
section
variable {X : Cx} {CX : CXT} {k : Nat} {C p g : Addr} {mc : Value} {sp : Sp} {E : L2.St → XK} {o e : Expr} {es : List Expr} {m : Str} {pos apos : Pos} {ta : TE} {t : TA} {pl : Sem Bool}
theorem run_fnRS {pins : List (Addr × Obj)} {σ : L2.St} {H : Hp} {s : Shared} {f : Addr} {Q : VK} {us : List Value} {vs : List V} (F : FnR X.prog X.w X.K X.mg X.base CX k f sp) (hr : Room k X.A) (hx : PassesAt CX X σ (E σ)) (I : Inv X pins σ H s) (r : Vals vs us) (h : sp vs H Q (E σ)) :
    codeAny (model X.prog X.w) X.A (.call (.ref f) ⟨us, []⟩) (fun r s' => match r with | .ok (.ret v) => EP X pins σ Q v s' | .ok _ => False | .error e => X.xe e s') s := by
  refine codeAny_mono (F X.A X.stack s H us vs Q (E σ) hr I.env0 r h) fun r s' hq => ?_
  cases r with
  | error e => exact hx pins H s e s' I hq
  | ok fl =>
    cases fl with
    | ret u => exact I.after hq
    | next => exact False.elim hq
    | brk => exact False.elim hq
    | cont => exact False.elim hq
theorem run_cmS {pins : List (Addr × Obj)} {σ : L2.St} {H : Hp} {s : Shared} {q : Addr} {Q : VK} {us : List Value} {vs : List V} (F : FnR X.prog X.w X.K X.mg X.base CX k g sp) (hr : Room k X.A) (hx : PassesAt CX X σ (E σ)) (I : Inv X ((q, PySem.W.methodObj (.ref g) (.ref C)) :: pins) σ H s)
    (r : Vals vs us) (h : sp (.ref C :: vs) H Q (E σ)) : wpAny (model X.prog X.w) X.A (call (.ref q) us) (EP X pins σ Q) X.xe s := by
  have z : wpAny (model X.prog X.w) X.A (call (.ref q) us) (EP X ((q, PySem.W.methodObj (.ref g) (.ref C)) :: pins) σ Q) X.xe s :=
    wpAny_call (PySem.W.method_call (ClX.pin_at I) (run_fnRS (us := .ref C :: us) (vs := .ref C :: vs) F hr hx I (.cons rfl r) h))
  exact thn z fun _ _ y => ClX.unpinE y
def tCMethS (C : Addr) (sp : Sp) (E : L2.St → XK) (ta : TE) (t : TA) : TE := fun σ H Q => ta σ H fun x H1 => x = .ref C ∧ t σ H1 fun vs H2 => sp (.ref C :: vs) H2 Q (E σ)
theorem pe_cmethS (he : PE X o ta) (r : ClX.CRead X.K C mc) (c : ClX.CMet X.K C mc m p g) (F : FnR X.prog X.w X.K X.mg X.base CX k g sp) (hr : Room k X.A) (hx : ∀ σ, PassesAt CX X σ (E σ)) (ha : PA X (e :: es) t)
    (hst : starEach (e :: es) X.env = (false, eval e X.env) :: starEach es X.env := by rfl) (hpl : (backTo pos (starEach es X.env)).any (·.1) = false := by rfl)
    (ht : eval (.Call (.Attribute o m apos) (e :: es) [] pos) X.env = (do
      let ov ← eval o X.env
      standAt apos.atName
      let (f, first) ← holding [ov] (getMethod ov m pl)
      callWith pos f first (backTo pos (starEach (e :: es) X.env)) (backToKw pos (keywordEach [] X.env))) := by rfl) :
    PE X (.Call (.Attribute o m apos) (e :: es) [] pos) (tCMethS C sp E ta t) := by
  refine ⟨fun pins s σ H Q I h => ?_⟩
  refine PySem.W.methodCall_KW (pl := pl) (thn (he.run pins s σ H _ I h) fun u s1 ⟨x, H1, I1, rx, ex, q⟩ => ?_) ht
  subst ex
  obtain rfl : u = Value.ref C := rx
  refine ClX.getmethcm_ok I1 r c fun s2 I2 => ?_
  refine ClX.callwith_cm I2 (ClX.base_none I1 (Nat.le_refl _)) c.fi (thn (ha.run pos _ s2 σ H1 _ I2 q) fun us s3 ⟨vs, H2, I3, rv, q2⟩ => ⟨⟨ClX.pin_at I3, I3.kIn⟩, ?_⟩) hst hpl
  exact run_cmS F hr (hx σ) I3 rv q2
end
/-! ### a written dict with text keys, asked within a comprehension -/
theorem op_notIn_kdK {X : Cx} {K : PySem.W.Frag} {w : World} {d : Addr} {es : Array DictEntry} {n : Nat} (h : X.K = K) (hw : X.w = w) (D : KDict K w d es n) : OpR X (compareOp .NotIn) (fun x y H Q => ∃ (z : Str) (r : Option Value), x = .str z ∧ y = .ref d ∧ PySem.W.nsIn K d z = some r ∧ Q (.bl (!r.isSome)) H) := by
  subst h
  subst hw
  exact op_notIn_kd D
theorem op_in_kdK {X : Cx} {K : PySem.W.Frag} {w : World} {d : Addr} {es : Array DictEntry} {n : Nat} (h : X.K = K) (hw : X.w = w) (D : KDict K w d es n) : OpR X (compareOp .In) (fun x y H Q => ∃ (z : Str) (r : Option Value), x = .str z ∧ y = .ref d ∧ PySem.W.nsIn K d z = some r ∧ Q (.bl r.isSome) H) := by
  subst h
  subst hw
  exact op_in_kd D
/-- what a written dict says of a text, read off its keys -/
theorem ns_miss {K : PySem.W.Frag} {d : Addr} {c : Value} {dd : Option Addr} {es : Array DictEntry} {n : Nat} {sl : Array (Option Value)} {ks : List (Str × Tok)} {z : Str} (hl : K.lookup d = some ⟨c, dd, .dict es n, sl⟩) (hk : es.toList.map (·.key) = ks.map fun p => Value.str p.1 p.2) (hz : z ∉ ks.map (·.1)) :
    PySem.W.nsIn K d z = some none := by
  have q : ∀ (l : List DictEntry) (ks : List (Str × Tok)), l.map (·.key) = ks.map (fun p => Value.str p.1 p.2) → z ∉ ks.map (·.1) → l.find? (·.key.isStr z) = none ∧ l.any (·.refKey) = false := by
    intro l
    induction l with
    | nil => intro ks _ _; exact ⟨rfl, rfl⟩
    | cons e l ih =>
      intro ks h hz
      cases ks with
      | nil => cases h
      | cons p ks =>
        rw [List.map_cons, List.map_cons] at h
        have h1 := (List.cons.inj h).1
        have h2 := (List.cons.inj h).2
        rw [List.map_cons] at hz
        have hz1 : z ≠ p.1 := fun e => hz (by rw [e]; exact List.mem_cons_self ..)
        obtain ⟨i1, i2⟩ := ih ks h2 fun m => hz (List.mem_cons_of_mem _ m)
        have e1 : e.key.isStr z = false := by
          rw [h1]
          cases hb : (Value.str p.1 p.2).isStr z with
          | false => rfl
          | true =>
            exfalso
            refine hz1 ?_
            have := hb
            unfold Value.isStr at this
            first
              | exact (beq_iff_eq.mp this).symm
              | exact beq_iff_eq.mp this
              | exact (of_decide_eq_true this).symm
              | exact of_decide_eq_true this
        have e2 : e.refKey = false := by
          unfold DictEntry.refKey
          rw [h1]
        refine ⟨by rw [List.find?_cons, e1]; exact i1, by rw [List.any_cons, e2, i2]; rfl⟩
  obtain ⟨q1, q2⟩ := q _ _ hk hz
  unfold PySem.W.nsIn
  rw [hl]
  dsimp only
  rw [q1]
  dsimp only
  rw [q2]
  rfl
end L2.Wk
namespace L2.Wk
open PySem PySem.Spec PyProof.Rows
/-- x is True, x is False: x any plain value or object -/
inductive Plain : V → Prop
  | non : Plain .non
  | bl (b : Bool) : Plain (.bl b)
  | int (i : Int) : Plain (.int i)
  | str (z : Str) : Plain (.str z)
  | ref (a : Addr) : Plain (.ref a)
def rIsBA : R2 := fun x y H Q => ∃ b : Bool, y = .bl b ∧ Plain x ∧ Q (.bl (decide (x = .bl b))) H
theorem op_isBlA {X : Cx} : OpR X (compareOp .Is) rIsBA := by
  intro pins s σ H x y v u Q I rx ry h
  obtain ⟨b, rfl, p, q⟩ := h
  cases (show u = Value.bool b from ry)
  cases p with
  | bl a =>
    cases (show v = Value.bool a from rx)
    by_cases e : a = b
    · subst e
      exact wpAny_is_self rfl ⟨.bl true, H, I, rfl, by simpa using q⟩
    · exact wpAny_is_other rfl (fun z => e (Value.bool.inj z)) ⟨.bl false, H, I, rfl, by simpa [e] using q⟩
  | non =>
    cases (show v = Value.none from rx)
    exact wpAny_is_other rfl (fun z => nomatch z) ⟨.bl false, H, I, rfl, by simpa using q⟩
  | int i =>
    obtain ⟨t, e⟩ := (show ∃ t, v = Value.int i t from rx)
    subst e
    exact wpAny_is_other rfl (fun z => nomatch z) ⟨.bl false, H, I, rfl, by simpa using q⟩
  | str z =>
    obtain ⟨t, e⟩ := (show ∃ t, v = Value.str z t from rx)
    subst e
    exact wpAny_is_other rfl (fun z => nomatch z) ⟨.bl false, H, I, rfl, by simpa using q⟩
  | ref a =>
    cases (show v = Value.ref a from rx)
    exact wpAny_is_other rfl (fun z => nomatch z) ⟨.bl false, H, I, rfl, by simpa using q⟩
/-- a comprehension over zip of two lists of one length -/
theorem lc_zipL {K : PySem.W.Frag} {a b : Addr} {xs ys : List V} {g : TG} {tt : TT} {te : TE} {vs : List Nat} {σ : L2.St} {H1 : Hp} {D : Addr} {Qd : Hp → Prop} (hl : xs.length = ys.length) (Pv : Nat → Hp → Prop) (h0 : Pv 0 (upd H1 D (.lst []))) (hq : ∀ i H, Pv i H → SqL K H a xs ∧ SqL K H b ys)
    (hs : ∀ i x y T H, xs[i]? = some x → ys[i]? = some y → Pv i H → H T = none → g (.ref T) (wipe σ vs) (upd H T (.tup [x, y])) fun σ2 H2 => wipe σ2 vs = wipe σ vs ∧ tt σ2 H2 fun b H3 =>
      if b = true then te σ2 H3 fun y H4 => ∃ acc, H4 D = some (.lst acc) ∧ acc.length < sizeLine ∧ Pv (i + 1) (upd H4 D (.lst (acc ++ [y]))) else Pv (i + 1) H3) (hd : ∀ H, Pv xs.length H → Qd H) :
    ∃ W : Nat → Nat → Hp → Prop, (∃ m, W 0 m (upd H1 D (.lst []))) ∧ ∀ i m H, W i m H →
      ((Itz K a b).stop i H ∧ Qd H) ∨ ((Itz K a b).go i H ∧ ∃ Nx : Hp → Prop, (∀ H', Nx H' → ∃ m', m' < m ∧ W (i + 1) m' H') ∧ ∀ x H', (Itz K a b).yld i H x H' → g x (wipe σ vs) H' fun σ2 H2 => wipe σ2 vs = wipe σ vs ∧ tt σ2 H2 fun b H3 =>
        if b = true then te σ2 H3 fun y H4 => ∃ acc, H4 D = some (.lst acc) ∧ acc.length < sizeLine ∧ Nx (upd H4 D (.lst (acc ++ [y]))) else Nx H3) := by
  refine ⟨fun i m H => m = xs.length - i ∧ i ≤ xs.length ∧ Pv i H, ⟨xs.length, by simp, Nat.zero_le _, h0⟩, ?_⟩
  rintro i m H ⟨rfl, hi, p⟩
  obtain ⟨qx, qy⟩ := hq i H p
  by_cases hlt : i < xs.length
  · have hx : xs[i]? = some xs[i] := List.getElem?_eq_getElem hlt
    have hlt2 : i < ys.length := by omega
    have hy : ys[i]? = some ys[i] := List.getElem?_eq_getElem hlt2
    refine .inr ⟨⟨xs, ys, _, _, qx, qy, hx, hy⟩, Pv (i + 1), fun H' p' => ⟨xs.length - (i + 1), by omega, rfl, hlt, p'⟩, fun v H' y => ?_⟩
    obtain ⟨T, x', y', rfl, hT, rfl, f1, f2⟩ := y
    exact hs i x' y' T H (f1 xs qx) (f2 ys qy) p hT
  · have e : i = xs.length := by omega
    subst e
    exact .inl ⟨⟨xs, ys, qx, qy, Or.inl (Nat.le_refl _)⟩, hd H p⟩
theorem fn_weak' {P : Program} {w : World} {K : PySem.W.Frag} {mg : Str → Option Value} {base : Heap} {CX : CXT} {k : Nat} {f : Addr} {fd : FuncData} {ps : List Str} {sp sp' : Sp} (F : FnOk P w K mg base CX k f fd ps sp) (h : ∀ vs H Q E, sp' vs H Q E → sp vs H Q E) : FnOk P w K mg base CX k f fd ps sp' :=
  ⟨fun vs H Q E q => F.len vs H Q E (h _ _ _ _ q), fun A outer s H args us vs Q E hr he hb hv q => F.run A outer s H args us vs Q E hr he hb hv (h _ _ _ _ q)⟩
end L2.Wk
namespace L2.Wk
open PySem PySem.Spec PyProof.Rows
def top (i : Nat) : Stmt := PySem.Challenge.pw_wakesafe_k25_texts_of_no_machine.main.body.getD i (.Pass ⟨0, 0, 0, 0⟩)
abbrev s_is_sequence : Stmt := top 15
abbrev N_is_sequence : List Str := ["value"]
theorem sc_is_sequence : FnScope N_is_sequence ["value"] (defScope s_is_sequence) := ⟨rfl, rfl, rfl, by decide +kernel, rfl, by decide +kernel, by decide +kernel⟩
abbrev s_is_name : Stmt := top 16
abbrev N_is_name : List Str := ["value", "letter"]
theorem sc_is_name : FnScope N_is_name ["value"] (defScope s_is_name) := ⟨rfl, rfl, rfl, by decide +kernel, rfl, by decide +kernel, by decide +kernel⟩
abbrev s_is_event : Stmt := top 17
abbrev N_is_event : List Str := ["value"]
theorem sc_is_event : FnScope N_is_event ["value"] (defScope s_is_event) := ⟨rfl, rfl, rfl, by decide +kernel, rfl, by decide +kernel, by decide +kernel⟩
abbrev s_is_deed : Stmt := top 18
abbrev N_is_deed : List Str := ["value"]
theorem sc_is_deed : FnScope N_is_deed ["value"] (defScope s_is_deed) := ⟨rfl, rfl, rfl, by decide +kernel, rfl, by decide +kernel, by decide +kernel⟩
abbrev s_is_phrase : Stmt := top 22
abbrev N_is_phrase : List Str := ["text", "alone", "named", "word", "space", "name"]
theorem sc_is_phrase : FnScope N_is_phrase ["text", "alone", "named"] (defScope s_is_phrase) := ⟨rfl, rfl, rfl, by decide +kernel, rfl, by decide +kernel, by decide +kernel⟩
abbrev s_may_do : Stmt := top 27
abbrev N_may_do : List Str := ["event", "deed"]
theorem sc_may_do : FnScope N_may_do ["event", "deed"] (defScope s_may_do) := ⟨rfl, rfl, rfl, by decide +kernel, rfl, by decide +kernel, by decide +kernel⟩
/-! ### the mirror -/
def txts (l : List String) : List Str := l.map Str.ofString
def resV : List Str := txts ["any", "none", "ask", "idle", "tick", "dip", "kept", "go", "hold", "note"]
def lettersS : Str := "abcdefghijklmnopqrstuvwxyz"
def plainE : List Str := txts ["ask", "idle", "tick"]
def areaE : List Str := txts ["dip", "spill"]
def plainD : List Str := txts ["hold", "go", "note", "answer", "forget"]
def fenceD : List Str := txts ["fence", "open"]
def areaD : List Str := txts ["save", "load", "cut", "power", "reset"]
def isName (z : Str) : Bool := !(inV (.str z) (resV.map V.str)) && (decide ((1 : Int) ≤ z.length) && decide ((z.length : Int) ≤ 4) && (z.cps.toList.map fun c => decide (c ∈ lettersS.cps.toList)).all id)
def isPhrase (z : Str) (as bs : List Str) : Bool :=
  if (((Txt.partition z " ").2.1.length : Int) != 0) = true then inV (.str (Txt.partition z " ").1) (bs.map V.str) && isName (Txt.partition z " ").2.2 else inV (.str (Txt.partition z " ").1) (as.map V.str)
def isEvent (z : Str) : Bool := isPhrase z plainE areaE
def isDeed (z : Str) : Bool := isPhrase z plainD (fenceD ++ areaD)
def mayDo (ev z : Str) : Bool := isDeed z && (!decide (V.str z = V.str "note") || decide (V.str ev = V.str "ask"))
theorem flat_txts (l : List Str) : (l.map V.str).all flatV = true := by
  induction l with
  | nil => rfl
  | cons a l ih =>
    rw [List.map_cons, List.all_cons, ih]
    rfl
theorem len1000 {n : Nat} (h : n ≤ 1000) : n ≤ sizeLine := Nat.le_of_lt (small1000 h)
/-! ### the parts of a text are no longer than the text -/
theorem par_len {S : List Nat} : ∀ (l acc : List Nat) (a b : List Nat), TL.par S acc l = some (a, b) → a.length ≤ acc.length + l.length ∧ b.length ≤ l.length
  | [], _, _, _, h => by cases h
  | c :: r, acc, a, b, h => by
    unfold TL.par at h
    split at h
    · cases h
      rw [List.length_drop]
      omega
    · have q := par_len r (acc ++ [c]) a b h
      rw [List.length_append] at q
      simp only [List.length_cons, List.length_nil] at q ⊢
      omega
theorem len_mk (l : List Nat) : (⟨l.toArray⟩ : Str).length = l.length := by
  show l.toArray.size = l.length
  simp
theorem part_len (z : Str) : (Txt.partition z " ").1.length ≤ z.length ∧ (Txt.partition z " ").2.1.length ≤ 1 ∧ (Txt.partition z " ").2.2.length ≤ z.length := by
  rw [TL.partition_par z " " (by decide +kernel)]
  cases e : TL.par (TL.tl " ") [] (TL.tl z) with
  | none => exact ⟨Nat.le_refl _, by show (Str.empty).length ≤ 1; decide +kernel, Nat.zero_le _⟩
  | some q =>
    obtain ⟨a, b⟩ := q
    have h := par_len _ _ _ _ e
    have hz : (TL.tl z).length = z.length := TL.len_tl z
    rw [List.length_nil, Nat.zero_add, hz] at h
    exact ⟨by show (⟨a.toArray⟩ : Str).length ≤ z.length; rw [len_mk]; exact h.1, by show (Str.ofString " ").length ≤ 1; decide +kernel, by show (⟨b.toArray⟩ : Str).length ≤ z.length; rw [len_mk]; exact h.2⟩
/-! ### the promises -/
def spTxt (f : Str → Bool) : Sp := fun vs H Q _ => ∃ z : Str, vs = [.str z] ∧ z.length ≤ 1000 ∧ ∀ H', Same H H' → Q (.bl (f z)) H'
def spPh (K : PySem.W.Frag) : Sp := fun vs H Q _ => ∃ (z : Str) (a b : Addr) (as bs : List Str), vs = [.str z, .ref a, .ref b] ∧ z.length ≤ 1000 ∧ SqT K H a (as.map V.str) ∧ SqT K H b (bs.map V.str) ∧ ∀ H', Same H H' → Q (.bl (isPhrase z as bs)) H'
def spSeqV (K : PySem.W.Frag) : Sp := fun vs H Q _ => ∃ (v : V) (t : Value) (b : Bool), vs = [v] ∧ (∀ H', Same H H' → TyX K H' v t) ∧ PySem.W.kitAny K t [.type "list", .type "tuple"] = some b ∧ ∀ H', Same H H' → Q (.bl b) H'
def spMay : Sp := fun vs H Q _ => ∃ ev z : Str, vs = [.str ev, .str z] ∧ z.length ≤ 1000 ∧ ∀ H', Same H H' → Q (.bl (mayDo ev z)) H'
/-! ### what the top has written of words -/
structure Ws where
  RESERVED : Addr
  PLAIN_EVENTS : Addr
  AREA_EVENTS : Addr
  PLAIN_DEEDS : Addr
  FENCE_DEEDS : Addr
  AREA_DEEDS : Addr
  tLONGEST : Tok
  tLETTERS : Tok
  is_sequence : Addr
  is_name : Addr
  is_event : Addr
  is_deed : Addr
  is_phrase : Addr
  may_do : Addr
structure TxtW (K : PySem.W.Frag) (mg : Str → Option Value) (a : Ws) : Prop where
  g_RESERVED : mg "RESERVED" = some (.ref a.RESERVED)
  s_RESERVED : ∀ H, SqT K H a.RESERVED (resV.map V.str)
  g_PLAIN_EVENTS : mg "PLAIN_EVENTS" = some (.ref a.PLAIN_EVENTS)
  s_PLAIN_EVENTS : ∀ H, SqT K H a.PLAIN_EVENTS (plainE.map V.str)
  g_AREA_EVENTS : mg "AREA_EVENTS" = some (.ref a.AREA_EVENTS)
  s_AREA_EVENTS : ∀ H, SqT K H a.AREA_EVENTS (areaE.map V.str)
  g_PLAIN_DEEDS : mg "PLAIN_DEEDS" = some (.ref a.PLAIN_DEEDS)
  s_PLAIN_DEEDS : ∀ H, SqT K H a.PLAIN_DEEDS (plainD.map V.str)
  g_FENCE_DEEDS : mg "FENCE_DEEDS" = some (.ref a.FENCE_DEEDS)
  s_FENCE_DEEDS : ∀ H, SqT K H a.FENCE_DEEDS (fenceD.map V.str)
  g_AREA_DEEDS : mg "AREA_DEEDS" = some (.ref a.AREA_DEEDS)
  s_AREA_DEEDS : ∀ H, SqT K H a.AREA_DEEDS (areaD.map V.str)
  g_LONGEST : mg "LONGEST" = some (.int 4 a.tLONGEST)
  g_LETTERS : mg "LETTERS" = some (.str lettersS a.tLETTERS)
  b_isinstance : mg "isinstance" = none
  b_str : mg "str" = none
  b_list : mg "list" = none
  b_tuple : mg "tuple" = none
  b_len : mg "len" = none
  b_all : mg "all" = none
  g_is_sequence : mg "is_sequence" = some (.ref a.is_sequence)
  k_is_sequence : PySem.W.keepIn K (.ref a.is_sequence) = true
  g_is_name : mg "is_name" = some (.ref a.is_name)
  k_is_name : PySem.W.keepIn K (.ref a.is_name) = true
  g_is_event : mg "is_event" = some (.ref a.is_event)
  k_is_event : PySem.W.keepIn K (.ref a.is_event) = true
  g_is_deed : mg "is_deed" = some (.ref a.is_deed)
  k_is_deed : PySem.W.keepIn K (.ref a.is_deed) = true
  g__is_phrase : mg "_is_phrase" = some (.ref a.is_phrase)
  k__is_phrase : PySem.W.keepIn K (.ref a.is_phrase) = true
  g__may_do : mg "_may_do" = some (.ref a.may_do)
  k__may_do : PySem.W.keepIn K (.ref a.may_do) = true
section
variable {P : Program} {w : World} {K : PySem.W.Frag} {mg : Str → Option Value} {base : Heap} {a : Ws} {f : Addr} {fd : FuncData}
theorem ok_is_sequence (F : Fun K "is_sequence" "is_sequence" s_is_sequence f fd) (T : TxtW K mg a) : FnOk P w K mg base CX0 1 f fd ["value"] (spSeqV K) := by
  refine F.ok sc_is_sequence (fun vs H Q E h => ?_) (fun cdv A outer s H vs Q E hr h => ?_)
  · obtain ⟨v, t, b, rfl, _⟩ := h
    rfl
  · obtain ⟨v, t, b, rfl, ht, hk, k⟩ := h
    refine ⟨_, (pss_one (ps_ret (pe_callB call_isiT (by rfl) T.b_isinstance (by decide +kernel) (pa_cons (pv 0) (pa_cons (pe_tup (pa_cons (pe_tyB (T := "list") (by rfl) T.b_list (by decide +kernel)) (pa_cons (pe_tyB (T := "tuple") (by rfl) T.b_tuple (by decide +kernel)) pa_nil))) pa_nil))))), ?_⟩
    refine ⟨_, rfl, (by show 2 ≤ sizeLine; decide), fun tp htp => ?_⟩
    refine ⟨_, tp, _, _, [.type "list", .type "tuple"], b, rfl, upd_same, .cons (.ty _) (.cons (.ty _) .nil), ht _ (Same.upd_new htp), hk, ?_⟩
    exact k _ (Same.upd_new htp)
theorem kit_list {K : PySem.W.Frag} : PySem.W.kitAny K (.type "list") [.type "list", .type "tuple"] = some true := kitAny_cons (b := true) (kit_ty (by decide +kernel)) (fun h => by cases h) (fun _ => rfl)
theorem kit_tuple {K : PySem.W.Frag} : PySem.W.kitAny K (.type "tuple") [.type "list", .type "tuple"] = some true := kitAny_cons (b := false) (kit_ty (by decide +kernel)) (fun _ => kitAny_cons (b := true) (kit_ty (by decide +kernel)) (fun h => by cases h) (fun _ => rfl)) (fun h => by cases h)
theorem seq_kit {H : Hp} {p : Addr} {xs : List V} (h : Sq K H p xs) : ∃ t, (∀ H', Same H H' → TyX K H' (.ref p) t) ∧ PySem.W.kitAny K t [.type "list", .type "tuple"] = some true :=
  h.elim (fun h => ⟨_, fun _ s => tyx_L (Same.sqL s h), kit_list⟩) fun h => ⟨_, fun _ s => tyx_T (Same.sqT s h), kit_tuple⟩
theorem ok_is_name (F : Fun K "is_name" "is_name" s_is_name f fd) (T : TxtW K mg a) : FnOk P w K mg base CX0 1 f fd ["value"] (spTxt isName) := by
  refine F.ok sc_is_name (fun vs H Q E h => ?_) (fun cdv A outer s H vs Q E hr h => ?_)
  · obtain ⟨z, rfl, _⟩ := h
    rfl
  · obtain ⟨z, rfl, hz, k⟩ := h
    refine ⟨_, (pss_cons (ps_if (PW.pt (pw_or (pt_not (pt_val (pe_callB call_isi (by rfl) T.b_isinstance (by decide +kernel) (pa_cons (pv 0) (pa_cons (pe_tyB (T := "str") (by rfl) T.b_str (by decide +kernel)) pa_nil))))) (pw_or1 (pt_cmpR op_in_seq (pv 0) (pe_gr rfl T.g_RESERVED) (by rfl))))) (pss_one (ps_ret pe_bl)) pss_nil)
    (pss_one (ps_ret (pe_and (pe_chain op_le op_le pe_int (pe_callB call_len (by rfl) T.b_len PySem.boot_len (pa_cons (pv 0) pa_nil)) (pe_gi rfl T.g_LONGEST)) (pe_one (pe_callB (cr_all rfl) (by rfl) T.b_all (by decide +kernel) (pa_cons (pe_lc (own := [("letter", 1)]) (g := gName 1) (tt := tYes) rfl sc_is_name.nd (pi_str (pv 0)) (blkOk_by (N := N_is_name) (sc := defScope s_is_name) (by decide +kernel)) (fun _ _ _ _ _ => (pg_name (i := 1) sc_is_name.nd rfl (Or.inl rfl))) (fun _ _ _ _ _ => pts_nil) (fun _ _ _ _ _ => (pe_cmpR op_in_sign (pv 1) (pe_gs rfl T.g_LETTERS) (by rfl)))) pa_nil))))))), ?_⟩
    refine ⟨_, rfl, _, _, _, _, true, rfl, .ty "str", .base (.str z), kit_ty (by decide +kernel), true, rfl, iteF ?_⟩
    refine ⟨_, rfl, _, _, rfl, .inr (T.s_RESERVED _), rfl, flat_txts _, _, rfl, ?_⟩
    show if inV (V.str z) (resV.map V.str) = true then _ else _
    cases e1 : inV (V.str z) (resV.map V.str) with
    | true =>
      refine iteT ?_
      have : isName z = false := by unfold isName; rw [e1]; rfl
      rw [← this]
      exact k _ (Same.refl _)
    | false =>
      refine iteF ?_
      refine ⟨_, rfl, _, _, rfl, ⟨len1000 hz, rfl⟩, _, _, rfl, rfl, _, rfl, ?_⟩
      by_cases h1 : (1 : Int) ≤ z.length
      · rw [decide_eq_true h1]
        refine iteT ?_
        refine ⟨_, _, rfl, rfl, _, rfl, ?_⟩
        by_cases h2 : (z.length : Int) ≤ 4
        · rw [decide_eq_true h2]
          refine iteT ?_
          refine ⟨_, rfl, z, rfl, fun D hD => ?_⟩
          refine lc_str (fun i H' => Same H H' ∧ H' D = some (.lst ((z.cps.toList.take i).map fun c => V.bl (decide (c ∈ lettersS.cps.toList))))) ⟨Same.upd_new hD, upd_same⟩ ?_ ?_
          · rintro i c H' hc ⟨s1, d1⟩
            refine ⟨rfl, ⟨_, rfl, _, _, rfl, rfl, _, d1, ?_, ?_, ?_⟩⟩
            · rw [List.length_map, List.length_take]
              exact Nat.lt_of_le_of_lt (Nat.min_le_left _ _) (Nat.lt_of_lt_of_le (by have := (Array.getElem?_eq_some_iff.mp hc).1; have e : z.length = z.cps.size := rfl; omega) (len1000 (Nat.le_refl 1000)))
            · intro b o e
              have := s1 b o e
              rw [upd_ne (ne_of_none e hD)]
              exact this
            · rw [take_succ_map _ (arr_list hc)]
              exact upd_same
          · rintro H' ⟨s1, d1⟩
            refine ⟨D, z.cps.toList.map fun c => decide (c ∈ lettersS.cps.toList), rfl, .inl (.inl ?_), ?_⟩
            · rw [d1, List.map_map]
              have e : z.cps.toList.take z.cps.size = z.cps.toList := by
                rw [List.take_of_length_le (by simp)]
              rw [e]
              rfl
            · have : isName z = (z.cps.toList.map fun c => decide (c ∈ lettersS.cps.toList)).all id := by
                unfold isName
                rw [e1, decide_eq_true h1, decide_eq_true h2]
                simp only [Bool.not_false, Bool.true_and]
              rw [← this]
              exact k _ s1
        · rw [decide_eq_false h2]
          refine iteF ?_
          have : isName z = false := by unfold isName; rw [decide_eq_false h2]; simp
          rw [← this]
          exact k _ (Same.refl _)
      · rw [decide_eq_false h1]
        refine iteF ⟨_, rfl, iteF ?_⟩
        have : isName z = false := by unfold isName; rw [decide_eq_false h1]; simp
        rw [← this]
        exact k _ (Same.refl _)
/-- what is no text is no name -/
def spNonStr (K : PySem.W.Frag) : Sp := fun vs H Q _ => ∃ (v : V) (t : Value), vs = [v] ∧ TyX K H v t ∧ PySem.W.kitOne K t (.type "str") = some false ∧ Q (.bl false) H
theorem ok_is_name_non (F : Fun K "is_name" "is_name" s_is_name f fd) (T : TxtW K mg a) : FnOk P w K mg base CX0 1 f fd ["value"] (spNonStr K) := by
  refine F.ok sc_is_name (fun vs H Q E h => ?_) (fun cdv A outer s H vs Q E hr h => ?_)
  · obtain ⟨_, _, rfl, _⟩ := h
    rfl
  · obtain ⟨v, t, rfl, ht, hk, k⟩ := h
    refine ⟨_, (pss_cons (ps_if (PW.pt (pw_or (pt_not (pt_val (pe_callB call_isi (by rfl) T.b_isinstance (by decide +kernel) (pa_cons (pv 0) (pa_cons (pe_tyB (T := "str") (by rfl) T.b_str (by decide +kernel)) pa_nil))))) (pw_or1 (pt_cmpR op_in_seq (pv 0) (pe_gr rfl T.g_RESERVED) (by rfl))))) (pss_one (ps_ret pe_bl)) pss_nil)
    (pss_one (ps_ret (pe_and (pe_chain op_le op_le pe_int (pe_callB call_len (by rfl) T.b_len PySem.boot_len (pa_cons (pv 0) pa_nil)) (pe_gi rfl T.g_LONGEST)) (pe_one (pe_callB (cr_all rfl) (by rfl) T.b_all (by decide +kernel) (pa_cons (pe_lc (own := [("letter", 1)]) (g := gName 1) (tt := tYes) rfl sc_is_name.nd (pi_str (pv 0)) (blkOk_by (N := N_is_name) (sc := defScope s_is_name) (by decide +kernel)) (fun _ _ _ _ _ => (pg_name (i := 1) sc_is_name.nd rfl (Or.inl rfl))) (fun _ _ _ _ _ => pts_nil) (fun _ _ _ _ _ => (pe_cmpR op_in_sign (pv 1) (pe_gs rfl T.g_LETTERS) (by rfl)))) pa_nil))))))), ?_⟩
    exact ⟨_, rfl, _, _, _, _, false, rfl, .ty "str", ht, hk, false, rfl, iteT k⟩
theorem ok_is_phrase {fdn : FuncData} (F : Fun K "_is_phrase" "_is_phrase" s_is_phrase f fd) (T : TxtW K mg a) (G_is_name : FnOk P w K mg base CX0 1 a.is_name fdn ["value"] (spTxt isName)) (b_is_name : Binds K fdn ["value"] []) :
    FnOk P w K mg base CX0 2 f fd ["text", "alone", "named"] (spPh K) := by
  refine F.ok sc_is_phrase (fun vs H Q E h => ?_) (fun cdv A outer s H vs Q E hr h => ?_)
  · obtain ⟨z, _, _, _, _, rfl, _⟩ := h
    rfl
  · obtain ⟨z, a1, b1, as, bs, rfl, hz, hA, hB, k⟩ := h
    refine ⟨_, (pss_cons (ps_asg (pe_partition (pv 0) pe_str) (pg_tup rfl (pgs_cons (pg_name (i := 3) sc_is_phrase.nd rfl (Or.inl rfl)) (pgs_cons (pg_name (i := 4) sc_is_phrase.nd rfl (Or.inl rfl)) (pgs_cons (pg_name (i := 5) sc_is_phrase.nd rfl (Or.inl rfl)) pgs_nil)))))
    (pss_cons (ps_if (pt_truth (pv 4) (by intro _; rfl)) (pss_one (ps_ret (pe_and (pe_cmpR op_in_seq (pv 3) (pv 2) (by rfl)) (pe_one (pe_call G_is_name (hr.mono (by decide)) rfl T.g_is_name T.k_is_name b_is_name .nil pass0 (pa_cons (pv 5) pa_nil)))))) pss_nil)
    (pss_one (ps_ret (pe_cmpR op_in_seq (pv 3) (pv 1) (by rfl)))))), ?_⟩
    refine ⟨_, rfl, ⟨_, rfl⟩, _, _, rfl, rfl, rfl, len1000 hz, fun p hp => ?_⟩
    refine ⟨p, _, rfl, .inl (.inl upd_same), rfl, ?_⟩
    have s0 : Same H (upd H p (.tup [.str (Txt.partition z " ").1, .str (Txt.partition z " ").2.1, .str (Txt.partition z " ").2.2])) := Same.upd_new hp
    generalize upd H p (.tup [.str (Txt.partition z " ").1, .str (Txt.partition z " ").2.1, .str (Txt.partition z " ").2.2]) = H1 at s0
    have lens := part_len z
    refine ⟨_, _, rfl, _, _, rfl, _, _, rfl, rfl, ?_⟩
    obtain ⟨l1, l2, l3⟩ := lens
    refine ⟨_, rfl, _, ⟨Nat.le_trans l2 (by decide), rfl⟩, ?_⟩
    unfold isPhrase at k
    by_cases c : (((Txt.partition z " ").2.1.length : Int) != 0) = true
    · rw [if_pos c] at k ⊢
      refine ⟨_, rfl, _, rfl, _, _, rfl, .inr (Same.sqT s0 hB), rfl, flat_txts _, _, rfl, ?_⟩
      show if inV (V.str (Txt.partition z " ").1) (bs.map V.str) = true then _ else _
      cases e1 : inV (V.str (Txt.partition z " ").1) (bs.map V.str) with
      | true =>
        rw [e1] at k
        refine iteT ⟨_, rfl, _, rfl, Nat.le_trans l3 hz, fun H2 s2 => ?_⟩
        exact k _ (s0.trans s2)
      | false =>
        rw [e1] at k
        refine iteF ?_
        exact k _ s0
    · rw [if_neg c] at k ⊢
      exact ⟨_, rfl, _, rfl, _, _, rfl, .inr (Same.sqT s0 hA), rfl, flat_txts _, k _ s0⟩
theorem ok_is_event {fdp : FuncData} (F : Fun K "is_event" "is_event" s_is_event f fd) (T : TxtW K mg a) (G__is_phrase : FnOk P w K mg base CX0 2 a.is_phrase fdp ["text", "alone", "named"] (spPh K)) (b__is_phrase : Binds K fdp ["text", "alone", "named"] []) :
    FnOk P w K mg base CX0 3 f fd ["value"] (spTxt isEvent) := by
  refine F.ok sc_is_event (fun vs H Q E h => ?_) (fun cdv A outer s H vs Q E hr h => ?_)
  · obtain ⟨z, rfl, _⟩ := h
    rfl
  · obtain ⟨z, rfl, hz, k⟩ := h
    refine ⟨_, (pss_one (ps_ret (pe_and (pe_callB call_isi (by rfl) T.b_isinstance (by decide +kernel) (pa_cons (pv 0) (pa_cons (pe_tyB (T := "str") (by rfl) T.b_str (by decide +kernel)) pa_nil))) (pe_one (pe_call G__is_phrase (hr.mono (by decide)) rfl T.g__is_phrase T.k__is_phrase b__is_phrase .nil pass0 (pa_cons (pv 0) (pa_cons (pe_gr rfl T.g_PLAIN_EVENTS) (pa_cons (pe_gr rfl T.g_AREA_EVENTS) pa_nil)))))))), ?_⟩
    refine ⟨_, rfl, _, _, _, _, true, rfl, .ty "str", .base (.str z), kit_ty (by decide +kernel), true, rfl, iteT ?_⟩
    exact ⟨_, rfl, _, _, _, _, _, rfl, hz, T.s_PLAIN_EVENTS _, T.s_AREA_EVENTS _, k⟩
theorem ok_is_deed {fdp : FuncData} (F : Fun K "is_deed" "is_deed" s_is_deed f fd) (T : TxtW K mg a) (G__is_phrase : FnOk P w K mg base CX0 2 a.is_phrase fdp ["text", "alone", "named"] (spPh K)) (b__is_phrase : Binds K fdp ["text", "alone", "named"] []) :
    FnOk P w K mg base CX0 3 f fd ["value"] (spTxt isDeed) := by
  refine F.ok sc_is_deed (fun vs H Q E h => ?_) (fun cdv A outer s H vs Q E hr h => ?_)
  · obtain ⟨z, rfl, _⟩ := h
    rfl
  · obtain ⟨z, rfl, hz, k⟩ := h
    refine ⟨_, (pss_one (ps_ret (pe_and (pe_callB call_isi (by rfl) T.b_isinstance (by decide +kernel) (pa_cons (pv 0) (pa_cons (pe_tyB (T := "str") (by rfl) T.b_str (by decide +kernel)) pa_nil))) (pe_one (pe_call G__is_phrase (hr.mono (by decide)) rfl T.g__is_phrase T.k__is_phrase b__is_phrase .nil pass0 (pa_cons (pv 0) (pa_cons (pe_gr rfl T.g_PLAIN_DEEDS) (pa_cons (pe_op (op_catA) (pe_gr rfl T.g_FENCE_DEEDS) (pe_gr rfl T.g_AREA_DEEDS)) pa_nil)))))))), ?_⟩
    refine ⟨_, rfl, _, _, _, _, true, rfl, .ty "str", .base (.str z), kit_ty (by decide +kernel), true, rfl, iteT ?_⟩
    refine ⟨_, rfl, _, _, _, _, rfl, rfl, T.s_FENCE_DEEDS _, T.s_AREA_DEEDS _, (by decide +kernel), (fun e => by cases e), (fun _ e => by cases e), (fun _ _ p hp => ?_)⟩
    refine ⟨_, _, _, _, _, rfl, hz, Same.sqT (Same.upd_new hp) (T.s_PLAIN_DEEDS H), .inl (.inl (Eq.trans upd_same (by rw [List.map_append]))), fun H2 s2 => k _ (Same.of_upd s2 hp)⟩
theorem ok_may_do {fdd : FuncData} (F : Fun K "_may_do" "_may_do" s_may_do f fd) (T : TxtW K mg a) (G_is_deed : FnOk P w K mg base CX0 3 a.is_deed fdd ["value"] (spTxt isDeed)) (b_is_deed : Binds K fdd ["value"] []) :
    FnOk P w K mg base CX0 4 f fd ["event", "deed"] spMay := by
  refine F.ok sc_may_do (fun vs H Q E h => ?_) (fun cdv A outer s H vs Q E hr h => ?_)
  · obtain ⟨ev, z, rfl, _⟩ := h
    rfl
  · obtain ⟨ev, z, rfl, hz, k⟩ := h
    refine ⟨_, (pss_one (ps_ret (pe_and (pe_call G_is_deed (hr.mono (by decide)) rfl T.g_is_deed T.k_is_deed b_is_deed .nil pass0 (pa_cons (pv 1) pa_nil)) (pe_one (pe_or (pe_cmpR op_ne (pv 1) pe_str (nomark _)) (pe_one (pe_cmpR op_eq (pv 0) pe_str (nomark _)))))))), ?_⟩
    refine ⟨_, rfl, _, rfl, hz, fun H1 s1 => ⟨_, rfl, ?_⟩⟩
    unfold mayDo at k
    cases e1 : isDeed z with
    | false =>
      rw [e1] at k
      exact iteF (k _ s1)
    | true =>
      rw [e1, Bool.true_and] at k
      refine iteT ⟨_, rfl, rfl, _, rfl, ?_⟩
      cases e2 : (!decide (V.str z = V.str "note")) with
      | true =>
        rw [e2, Bool.true_or] at k
        exact iteT (k _ s1)
      | false =>
        rw [e2, Bool.false_or] at k
        exact iteF ⟨_, rfl, rfl, k _ s1⟩
end
end L2.Wk
namespace PySem
namespace LowX_InvalidMachine
open PySem.W PySem.Calls PyProof.Rows PySem.HandSPX
/-! ### the text of __init__ -/
def iA (p1 p2 : Pos) : Arguments := { posonlyargs := [], args := [{ arg := "self", annotation := none, pos := p1 }, { arg := "word", annotation := none, pos := p2 }], vararg := none, kwonlyargs := [], kw_defaults := [], kwarg := none, defaults := [] }
def iB (q1 q2 q3 q4 : Pos) : List Stmt := [.Assign [.Attribute (.Name "self" q1) "word" q2] (.Name "word" q3) q4]
def iS : Scope := { kind := .function, names := [(PySem.Str.ofString "self", .local), (PySem.Str.ofString "word", .local)], isGenerator := false, isCoroutine := false, more := [] }
/-- what the written part says of Low, at C, and of its __init__, at fI -/
structure LowTxt_InvalidMachine (K : Frag) (mg : Str → Option Value) (C fI : Addr) : Prop where
  gC : mg "InvalidMachine" = some (.ref C)
  cls : ∃ nm q N bs bm sn sub ab col dd k0 k1 k2 k3 k5, K.lookup C = some (excClassObj nm q C N bs bm true sn sub ab col dd k0 k1 k2 k3 k5 "ValueError.__new__") ∧ refsVE bm = true
  sa : findIn K (.ref C) "__setattr__" = some (some (.builtin "object.__setattr__"))
  ga : findIn K (.ref C) "__getattribute__" = some (some (.builtin "BaseException.__getattribute__"))
  gg : findIn K (.ref C) "__getattr__" = some none
  noN : findIn K (.ref C) "word" = some none
  iC : findIn K (.ref C) "__init__" = some (some (.ref fI))
  tC : typeIn K (.ref fI) = some (.type "function")
  kC : keepIn K (.ref C) = true
  exC : subIn K (.ref C) (.type "BaseException") = some true
  tyC : typeIn K (.ref C) = some (.type "type")
  hdC : hasDictIn K C = true
  te : exmOne K (.ref C) (.ref C) = some true
  fn : ∃ (oc : Value) (od : Option Addr) (doc pm : Value) (an : Option Addr) (cdv ct : Value) (osl : Array (Option Value)) (p1 p2 q1 q2 q3 q4 : Pos),
    K.lookup fI = some ⟨oc, od, .func (fnOf "__init__" "InvalidMachine.__init__" (iA p1 p2) (iB q1 q2 q3 q4) iS .none .none doc pm an cdv ct), osl⟩ ∧ codeIn K cdv "InvalidMachine.__init__" = true
theorem one_size_InvalidMachine (v : Value) : [v].length ≤ sizeLine := by
  rw [sizeLine_eq]
  exact (by decide : 1 ≤ 16777216)
theorem kept_but_InvalidMachine {K : Frag} {h h' : Heap} {x : Addr} (X : K.In h) (hx : K.lookup x = none) (k : ∀ b o, b ≠ x → h.get? b = some o → h'.get? b = some o) : K.In h' := fun a o e =>
  k a o (fun z => by rw [z, hx] at e; cases e) (X a o e)
theorem ldC_InvalidMachine {M : Model} {s : Shared} {name : Str} {scope : Scope} {L a : Addr} {cd : Value} {m : Str → Option Value} {x : Str} {pos : Pos} {v : Value} {Q : Value → Shared → Prop} {A : Around} {E : Value → Shared → Prop} (hn : s.heap.Ns L m) (hv : m x = some v) (h : Q v s)
    (hk : scope.kind = .function := by rfl) (hl : (envOfC name scope L a cd).kindOf x = some .local := by rfl) (hd : (x == ("__debug__" : Str)) = false := by decide) :
    wpAny M A (eval (.Name x pos) (envOfC name scope L a cd)) Q E s := wpAny_Name (wpAny_loadName_local hk hl hn hv h) hd
/-- what __init__ leaves of a fresh exception at x -/
structure InitEnd_InvalidMachine (h h' : Heap) (x C dx t1 : Addr) (v : Value) : Prop where
  keep : ∀ b o, b ≠ x → h.get? b = some o → h'.get? b = some o
  obj : h'.get? x = some { cls := .ref C, dict := some dx, data := .fields #[.ref t1, .none, .none, .none, .bool false, .none] }
  dbig : h.objs.size ≤ dx
  dne : dx ≠ x
  ns : h'.Ns1 dx (fun y => if y = "word" then some v else none)
structure OwnMade_InvalidMachine (h h' : Heap) (e C d : Addr) (v : Value) : Prop where
  keep : ∀ b o, h.get? b = some o → h'.get? b = some o
  new : h.objs.size ≤ e
  obj : ∃ oe vs, h'.get? e = some oe ∧ oe.cls = .ref C ∧ oe.dict = some d ∧ oe.data = .fields vs ∧ vs[1]? = some .none
  dbig : h.objs.size ≤ d
  dne : d ≠ e
  ns : h'.Ns1 d (fun y => if y = "word" then some v else none)
section
variable {prog : Program} {w : World} {A : Around} {E : Value → Shared → Prop} {R : Result → Shared → Prop} {s : Shared} {K : Frag} {mg : Str → Option Value} {C fI : Addr}
theorem low_init_InvalidMachine (T : LowTxt_InvalidMachine K mg C fI) {x t0 : Addr} {v : Value} (X : K.In s.heap) (hlim : s.heap.NoLimit) (hx : s.heap.get? x = some (excO C t0)) (hnx : K.lookup x = none) (hroom : A.depth < recursionLimit)
    (hq : ∀ h' tk dx, InitEnd_InvalidMachine s.heap h' x C dx t0 v → R (.ok (.ret .none)) { s with heap := h', toks := tk }) :
    codeAny (model prog w) A (.call (.ref fI) ⟨[.ref x, v], []⟩) R s := by
  obtain ⟨oc, od, doc, pm, an, cdv, ct, osl, p1, p2, q1, q2, q3, q4, ho, hcd⟩ := T.fn
  obtain ⟨nm, q, N, bs, bm, sn, sub, ab, col, dd, k0, k1, k2, k3, k5, hC, hbm⟩ := T.cls
  have hcl : clsIn K C = some { name := nm, bases := bs, mro := .ref C :: bm, ns := N, qualname := q, hasDict := true, slotNames := sn, subclasses := sub, abstract := ab, collection := col, hasDel := false } := by unfold clsIn; rw [hC] <;> rfl
  refine Att.call_fn (binds := [("self", .ref x), ("word", v)]) X hlim ho hcd hroom (BindsTo.of_eq (by first | rfl | with_unfolding_all rfl)) (by first | rfl | decide | with_unfolding_all rfl) (fun s₁ IC => ?_) rfl rfl rfl
  obtain ⟨h₁, tk₁, rfl⟩ := IC.toInCall.same
  have k : ∀ b o, s.heap.get? b = some o → h₁.get? b = some o := IC.toInCall.keep
  have hn := IC.toInCall.ns
  have hxL : s.heap.objs.size ≠ x := Nat.ne_of_gt (Heap.lt_size hx)
  have X₁ : K.In h₁ := X.keeps k
  have hx₁ := k _ _ hx
  -- self.by = by
  show wpAny _ _ (execs _ _) _ _ _
  refine wpAny_execs_cons (plainObj_wpAny_Assign_Attribute ?_)
  refine ldC_InvalidMachine (v := v) hn (by first | rfl | with_unfolding_all rfl | kernel_rfl) (ldC_InvalidMachine (v := .ref x) hn (by first | rfl | with_unfolding_all rfl | kernel_rfl) ?_)
  refine set_plain X₁ (ox := excO C t0) (od := none) ⟨hx₁, rfl, rfl, trivial⟩ T.sa ?_
  refine exc_osa X₁ hx₁ hcl (show refsVE (.ref C :: bm) = true from hbm) rfl T.noN (fun h₃ tk₃ dx k₃ dn dne hx₃ hn₃ => ?_)
  show wpAny _ _ (execs _ _) _ _ _
  have z : s.heap.objs.size < h₁.objs.size := hn.lt
  exact wpAny_execs_nil (hq h₃ tk₃ dx ⟨fun b o hb e => k₃ b o hb (k b o e), hx₃, Nat.le_of_lt (Nat.lt_of_lt_of_le z dn), dne, hn₃⟩)
theorem low_made_InvalidMachine (T : LowTxt_InvalidMachine K mg C fI) {v : Value} (X : K.In s.heap) (hlim : s.heap.NoLimit) (hroom : A.depth + 1 < recursionLimit)
    (hq : ∀ h' tk e d, OwnMade_InvalidMachine s.heap h' e C d v → R (.ok (.ret (.ref e))) { s with heap := h', toks := tk }) :
    codeAny (model prog w) A (.call (.ref C) ⟨[v], []⟩) R s := by
  obtain ⟨nm, q, N, bs, bm, sn, sub, ab, col, dd, k0, k1, k2, k3, k5, hC, hbm⟩ := T.cls
  obtain ⟨hp, g, dr, tk, os⟩ := s
  have k : ∀ b o, hp.get? b = some o → ((hp.push (kdv_tup [v])).push (excO C hp.objs.size)).get? b = some o := fun b o e => Heap.get?_push_of_some _ (Heap.get?_push_of_some _ e)
  have hget : ((hp.push (kdv_tup [v])).push (excO C hp.objs.size)).get? (hp.objs.size + 1) = some (excO C hp.objs.size) := by heap_get
  have hnx : K.lookup (hp.objs.size + 1) = none := by
    cases e : K.lookup (hp.objs.size + 1) with
    | none => rfl
    | some o =>
      have z : hp.get? (hp.objs.size + 1) = some o := X _ _ e
      exact absurd (Nat.lt_of_succ_lt (Heap.lt_size z)) (Nat.lt_irrefl _)
  refine call_own F.excBase_ValueError (fun X => refsVE_contains X bm hbm) (X _ _ hC) (looks_findIn X T.iC) (fun self => bind_fn X self T.tC) (one_size_InvalidMachine v) ?_
  refine low_init_InvalidMachine (s := ⟨(hp.push (kdv_tup [v])).push (excO C hp.objs.size), g, dr, tk, os⟩) T (X.keeps k) (hlim.keeps k) hget hnx ?_ fun h' tk' dx ⟨k', hx, dn, dne, hns⟩ => ?_
  · show A.depth + 1 < recursionLimit
    exact hroom
  · have old : ∀ b o, hp.get? b = some o → h'.get? b = some o := fun b o e => k' b o (Nat.ne_of_lt (Nat.lt_succ_of_lt (Heap.lt_size e))) (k b o e)
    have z : hp.objs.size + 1 + 1 ≤ dx := by
      first
        | (simpa only [Heap.size_push] using dn)
        | exact dn
        | (have q := dn; rw [Heap.size_push, Heap.size_push] at q; exact q)
    exact ⟨rfl, hq h' tk' (hp.objs.size + 1) dx ⟨old, Nat.le_succ _, ⟨_, _, hx, rfl, rfl, rfl, rfl⟩, Nat.le_trans (Nat.le_trans (Nat.le_succ _) (Nat.le_succ _)) z, dne, hns⟩⟩
end
end LowX_InvalidMachine
end PySem
namespace L2
open PySem PySem.Spec PyProof.Rows
theorem relO_low_InvalidMachine {v : V} {v' : Value} (r : RelV v v') (f : Str) : RelO (List.lookup f [(("word" : Str), v)]) (if f = "word" then some v' else none) := by
  by_cases hw : f = "word"
  · subst hw
    rw [if_pos rfl]
    have q : List.lookup ("word" : Str) [(("word" : Str), v)] = some v := by simp [List.lookup]
    rw [q]
    exact r
  · rw [if_neg hw]
    have qw : (f == ("word" : Str)) = false := by simpa using hw
    have q2 : List.lookup f [(("word" : Str), v)] = none := by simp [List.lookup, qw]
    rw [q2]
    trivial
section
variable {X : Cx} {C fI : Addr}
/-- Low(e) -/
def tMkLow_InvalidMachine (C : Addr) (ta : TA) : St → Hp → XK → Prop := fun σ H Q => ta σ H fun vs H1 => ∃ v, vs = [v] ∧ ∀ d, H1 d = none → Q (.ref C) (some d) (upd H1 d (.xd [(("word" : Str), v)]))
theorem pmk_low_InvalidMachine {a : Expr} {ta : TA} {p pos : Pos} {k : Nat} (T : PySem.LowX_InvalidMachine.LowTxt_InvalidMachine X.K X.mg C fI) (hr : Room k X.A) (ha : PA X [a] ta) (hg : Gl X "InvalidMachine" := by rfl)
    (he : starEach (a :: []) X.env = (false, eval a X.env) :: starEach [] X.env := by rfl) (hpl : (backTo pos (starEach [] X.env)).any (·.1) = false := by rfl) :
    PMk X (.Call (.Name "InvalidMachine" p) [a] [] pos) (tMkLow_InvalidMachine C ta) := by
  intro pins s σ H Q I h
  refine wpAny_Call_Name_kw (ld_glob I hg T.gC ?_)
  refine PySem.W.callWith_K (h₀ := X.base) I.ok.mod.kin T.kC (thn (ha.run pos pins s σ H _ I h) fun us s1 hh => ?_) he hpl
  obtain ⟨vs, H1, I1, r1, v, ev, q1⟩ := hh
  subst ev
  refine ⟨I1.kIn, ?_⟩
  cases r1 with
  | cons rv rn =>
    rename_i v' us'
    cases rn
    show wpAny _ _ (call (.ref C) [v']) _ _ _
    have hlim := I1.nolimit
    obtain ⟨hp, g, dr, tk, os⟩ := s1
    refine wpAny_call (PySem.LowX_InvalidMachine.low_made_InvalidMachine T I1.kIn hlim (by have := hr.dp; omega) fun h' tk' e d M => ?_)
    show MkP X pins σ Q (.ref e) ⟨h', g, dr, tk', os⟩
    obtain ⟨oe, fv, hoe, hc, hd, hdat, h1⟩ := M.obj
    have hns := M.ns
    obtain ⟨G', g1, g2⟩ := restrict h' fun b => decide (b ≠ e)
    have gk : ∀ b, b ≠ e → G'.get? b = h'.get? b := fun b hb => g1 b (decide_eq_true hb)
    have ge : G'.get? e = none := g2 e (by simp)
    have old : ∀ b o, hp.get? b = some o → G'.get? b = some o := fun b o q => (gk b (Nat.ne_of_lt (Nat.lt_of_lt_of_le (Heap.lt_size q) M.new))).trans (M.keep b o q)
    have ob : ObjOk X.prog X.w (upd H1 d (.xd [(("word" : Str), v)])) G' d (.xd [(("word" : Str), v)]) :=
      ⟨_, hns.at (fun o q => (gk d M.dne).trans q), fun f => relO_low_InvalidMachine rv f⟩
    have J : Inv X pins σ (upd H1 d (.xd [(("word" : Str), v)])) ⟨G', g, dr, tk', os⟩ := I1.laid (t' := tk') old M.dbig ob
    refine ⟨e, oe, fv, ⟨G', g, dr, tk', os⟩, _, .ref C, some d, rfl, J, fun b o q => ?_, ge, hoe, ⟨hc, hd⟩, hdat, h1, ?_, rfl, I1.bare, raises_own T.exC T.tyC, q1 d (I1.hok.fresh M.dbig)⟩
    · by_cases hb : b = e
      · have q' : G'.get? b = some o := q
        rw [hb, ge] at q'; cases q'
      · exact (gk b hb).symm.trans q
    · rw [upd_ne (Ne.symm M.dne)]
      exact I1.hok.fresh M.new
/-- raise Low(e) -/
def tRaiseLow_InvalidMachine (C : Addr) (W : WX) (ta : TA) : TS := fun _ σ H => tMkLow_InvalidMachine C ta σ H fun cls d H' => W cls d σ H'
theorem ps_raiseLow_InvalidMachine {a : Expr} {ta : TA} {W : WX} {p pos pos2 : Pos} {k : Nat} (hc : X.calm = true) (T : PySem.LowX_InvalidMachine.LowTxt_InvalidMachine X.K X.mg C fI) (hr : Room k X.A) (tk : Takes X W) (ha : PA X [a] ta) (hg : Gl X "InvalidMachine" := by rfl)
    (he : starEach (a :: []) X.env = (false, eval a X.env) :: starEach [] X.env := by rfl) (hpl : (backTo pos (starEach [] X.env)).any (·.1) = false := by rfl) :
    PS X (.Raise (some (.Call (.Name "InvalidMachine" p) [a] [] pos)) none pos2) (tRaiseLow_InvalidMachine C W ta) := ps_raise hc tk (pmk_low_InvalidMachine T hr ha hg he hpl)
/-- low.by, low the exception that the suite holds (at a; its class cls, its dict d) -/
def tByLow_InvalidMachine (C : Addr) (a : Addr) (cls : Value) (d : Option Addr) (te : TE) : TE := fun σ H Q => te σ H fun x H1 => x = .ref a ∧ cls = .ref C ∧ ∃ (dd : Addr) (v : V), d = some dd ∧ H1 dd = some (.xd [(("word" : Str), v)]) ∧ Q v H1
theorem pe_byLow_InvalidMachine {a : Addr} {oe : Obj} {cls : Value} {d : Option Addr} {pn : List (Addr × Obj)} {e : Expr} {te : TE} {pos : Pos} (T : PySem.LowX_InvalidMachine.LowTxt_InvalidMachine X.K X.mg C fI) (hz : Zc cls d oe) (hf : ∃ vs, oe.data = .fields vs) (he : PE (X.suite a ((a, oe) :: pn)) e te)
    (hb : attributeBase e "word" X.env (eval e X.env) = eval e X.env := by rfl) :
    PE (X.suite a ((a, oe) :: pn)) (.Attribute e "word" pos) (tByLow_InvalidMachine C a cls d te) := by
  refine ⟨fun pins s σ H Q I h => ?_⟩
  refine attr_of hb (thn (he.run pins s σ H _ I h) fun u s1 hh => ?_)
  obtain ⟨x, H1, I1, rx, ex, ec, dd, v, ed, ea, q⟩ := hh
  subst ex
  obtain rfl : u = Value.ref a := rx
  subst ec
  subst ed
  obtain ⟨ha, _⟩ := I1.pin (a, oe) (List.mem_append_left _ List.mem_cons_self)
  obtain ⟨vs, hd⟩ := hf
  have hx : ObjOk X.prog X.w H1 s1.heap dd (.xd [(("word" : Str), v)]) := I1.hok dd _ ea
  obtain ⟨mA, hns, hr⟩ := hx
  obtain ⟨od, ho, hl⟩ := lookIn_ns hns
  have l : List.lookup ("word" : Str) [(("word" : Str), v)] = some v := by simp [List.lookup]
  obtain ⟨u, hu, ru⟩ := RelO.some_of (v := v) (o := mA "word") (by rw [← l]; exact hr "word")
  have J : PySem.W.InstAt s1.heap a oe C (some od) := ⟨ha, hz.1, by unfold PySem.W.notCls; rw [hd] <;> rfl, by rw [hz.2]; exact ho⟩
  exact HandSPX.exc_get I1.kIn J T.ga T.gg T.exC (PySem.W.findObj_own T.hdC T.noN rfl (by rw [hl, hu])) (handed_of ru) ⟨v, H1, I1.tok _, ru, q⟩
end
end L2


namespace L2.Wk
open PySem PySem.Spec PyProof.Rows
abbrev s_Rule_init : Stmt := inClass (top 25) 0
abbrev N_Rule_init : List Str := ["self", "state", "event", "guard", "then", "deeds", "deed"]
theorem sc_Rule_init : FnScope N_Rule_init ["self", "state", "event", "guard", "then", "deeds"] (defScope s_Rule_init) := ⟨rfl, rfl, rfl, by decide +kernel, rfl, by decide +kernel, by decide +kernel⟩
theorem putF_len_lt {f : Str} {v : V} : ∀ {l : List (Str × V)} {n : Nat}, l.length < n → (putF f v l).length < n + 1
  | [], n, h => by
    show 1 < n + 1
    simp only [List.length_nil] at h
    omega
  | (g, u) :: l, n, h => by
    unfold putF
    split
    · simp only [List.length_cons] at h ⊢
      omega
    · simp only [List.length_cons] at h ⊢
      cases n with
      | zero => omega
      | succ n =>
        have := putF_len_lt (f := f) (v := v) (l := l) (n := n) (by omega)
        omega
def guardsV : List Str := txts ["any", "waits", "calm"]
structure RuleD where
  st : Str
  ev : Str
  gd : Str
  th : Str
  ds : List Str
def ruleErr (st ev gd th : Str) (ds : List Str) : Option Str :=
  if isName st = true then (if isEvent ev = true then (if inV (.str gd) (guardsV.map V.str) = true then (if isName th = true then (if (ds.map (mayDo ev)).all id = true then none else some "deeds") else some "then") else some "guard") else some "event") else some "state"
structure Rs where
  Rule : Addr
  fRule : Addr
  IM : Addr
  fIM : Addr
  GUARDS : Addr
structure TxtR (K : PySem.W.Frag) (mg : Str → Option Value) (r : Rs) : Prop where
  low_InvalidMachine : PySem.LowX_InvalidMachine.LowTxt_InvalidMachine K mg r.IM r.fIM
  cl : Cls K r.Rule
  M : Mk K r.Rule r.fRule
  g_Rule : mg "Rule" = some (.ref r.Rule)
  g_GUARDS : mg "GUARDS" = some (.ref r.GUARDS)
  s_GUARDS : ∀ H, SqT K H r.GUARDS (guardsV.map V.str)
  n_state : NoAttr K r.Rule "state"
  n_event : NoAttr K r.Rule "event"
  n_guard : NoAttr K r.Rule "guard"
  n_then : NoAttr K r.Rule "then"
  n_deeds : NoAttr K r.Rule "deeds"
def ruleF (st ev gd th : Str) (t : Addr) : List (Str × V) := putF "deeds" (.ref t) (putF "then" (.str th) (putF "guard" (.str gd) (putF "event" (.str ev) (putF "state" (.str st) []))))
/-- Rule(..): the fields, or an error that tells the first wrong argument -/
def spRule (K : PySem.W.Frag) (r : Rs) : Sp := fun vs H Q E => ∃ (p dx row : Addr) (st ev gd th : Str) (ds : List Str), vs = [.ref p, .str st, .str ev, .str gd, .str th, .ref row] ∧ H p = some (.ins r.Rule dx []) ∧ Sq K H row (ds.map V.str) ∧
  st.length ≤ 1000 ∧ ev.length ≤ 1000 ∧ th.length ≤ 1000 ∧ ds.length ≤ 1000 ∧ (∀ z ∈ ds, z.length ≤ 1000) ∧
  (ruleErr st ev gd th ds = none → ∀ (H' : Hp) (t : Addr), SqT K H' t (ds.map V.str) → H' p = some (.ins r.Rule dx (ruleF st ev gd th t)) → (∀ b o, H b = some o → b ≠ p → H' b = some o) → Q .non H') ∧
  (∀ m, ruleErr st ev gd th ds = some m → ∀ (d : Addr) (H' : Hp), Same H H' → H' d = some (.xd [("word", .str m)]) → E (.ref r.IM) (some d) H')
section
variable {P : Program} {w : World} {K : PySem.W.Frag} {mg : Str → Option Value} {base : Heap} {a : Ws} {r : Rs} {f : Addr} {fd : FuncData}
structure TR (K : PySem.W.Frag) (mg : Str → Option Value) (a : Ws) (r : Rs) : Prop extends TxtW K mg a, TxtR K mg r
theorem ok_Rule {dvs : List V} {f1 f2 f3 f4 : FuncData} (F : FunD K "__init__" "Rule.__init__" (defArgs s_Rule_init) (defBody s_Rule_init) (defScope s_Rule_init) dvs [] f fd) (T : TR K mg a r)
    (G_is_name : FnOk P w K mg base CX0 1 a.is_name f1 ["value"] (spTxt isName)) (b_is_name : Binds K f1 ["value"] [])
    (G_is_event : FnOk P w K mg base CX0 3 a.is_event f2 ["value"] (spTxt isEvent)) (b_is_event : Binds K f2 ["value"] [])
    (G_is_sequence : FnOk P w K mg base CX0 1 a.is_sequence f3 ["value"] (spSeqV K)) (b_is_sequence : Binds K f3 ["value"] [])
    (G__may_do : FnOk P w K mg base CX0 4 a.may_do f4 ["event", "deed"] spMay) (b__may_do : Binds K f4 ["event", "deed"] []) :
    FnOk P w K mg base (L2.CX P w) 5 f fd ["self", "state", "event", "guard", "then", "deeds"] (spRule K r) := by
  refine F.ok sc_Rule_init (fun vs H Q E h => ?_) (fun cdv A outer s H vs Q E hr h => ?_)
  · obtain ⟨p, dx, row, st, ev, gd, th, ds, rfl, _⟩ := h
    rfl
  · obtain ⟨p, dx, row, st, ev, gd, th, ds, rfl, hp, hrow, l1, l2, l3, l4, l5, k, kE⟩ := h
    refine ⟨_, (pss_cons (ps_if (pt_not (pt_val (pe_call G_is_name (hr.mono (by decide)) rfl T.g_is_name T.k_is_name b_is_name .nil pass0 (pa_cons (pv 1) pa_nil)))) (pss_one (ps_raiseLow_InvalidMachine rfl T.low_InvalidMachine hr (takes_of rfl rfl rfl rfl) (pa_cons pe_str pa_nil))) pss_nil)
    (pss_cons (ps_if (pt_not (pt_val (pe_call G_is_event (hr.mono (by decide)) rfl T.g_is_event T.k_is_event b_is_event .nil pass0 (pa_cons (pv 2) pa_nil)))) (pss_one (ps_raiseLow_InvalidMachine rfl T.low_InvalidMachine hr (takes_of rfl rfl rfl rfl) (pa_cons pe_str pa_nil))) pss_nil)
    (pss_cons (ps_if (pt_cmpR op_notIn_seq (pv 3) (pe_gr rfl T.g_GUARDS) (by rfl)) (pss_one (ps_raiseLow_InvalidMachine rfl T.low_InvalidMachine hr (takes_of rfl rfl rfl rfl) (pa_cons pe_str pa_nil))) pss_nil)
    (pss_cons (ps_if (pt_not (pt_val (pe_call G_is_name (hr.mono (by decide)) rfl T.g_is_name T.k_is_name b_is_name .nil pass0 (pa_cons (pv 4) pa_nil)))) (pss_one (ps_raiseLow_InvalidMachine rfl T.low_InvalidMachine hr (takes_of rfl rfl rfl rfl) (pa_cons pe_str pa_nil))) pss_nil)
    (pss_cons (ps_if (PW.pt (pw_or (pt_not (pt_val (pe_call G_is_sequence (hr.mono (by decide)) rfl T.g_is_sequence T.k_is_sequence b_is_sequence .nil pass0 (pa_cons (pv 5) pa_nil)))) (pw_or1 (pt_not (pt_val (pe_callB (cr_all rfl) (by rfl) T.b_all (by decide +kernel) (pa_cons (pe_lc (own := [("deed", 6)]) (g := gName 6) (tt := tYes) rfl sc_Rule_init.nd (pi_seq (pv 5)) (blkOk_by (N := N_Rule_init) (sc := defScope s_Rule_init) (by decide +kernel)) (fun _ _ _ _ _ => (pg_name (i := 6) sc_Rule_init.nd rfl (Or.inl rfl))) (fun _ _ _ _ _ => pts_nil) (fun _ _ _ _ _ => (pe_call G__may_do (hr.mono (by decide)) rfl T.g__may_do T.k__may_do b__may_do .nil pass0 (pa_cons (pv 2) (pa_cons (pv 6) pa_nil))))) pa_nil))))))) (pss_one (ps_raiseLow_InvalidMachine rfl T.low_InvalidMachine hr (takes_of rfl rfl rfl rfl) (pa_cons pe_str pa_nil))) pss_nil)
    (pss_cons (ps_fld (pv 0) (pv 1) rfl)
    (pss_cons (ps_fld (pv 0) (pv 2) rfl)
    (pss_cons (ps_fld (pv 0) (pv 3) rfl)
    (pss_cons (ps_fld (pv 0) (pv 4) rfl)
    (pss_one (ps_fld (pv 0) (pe_callTy call_tupS (by rfl) T.b_tuple (by decide +kernel) (pa_cons (pv 5) pa_nil)) rfl))))))))))), ?_⟩
    unfold ruleErr at k kE
    refine ⟨_, rfl, _, rfl, l1, fun H1 s1 => ⟨_, rfl, ?_⟩⟩
    cases e1 : isName st with
    | false =>
      rw [e1] at kE
      exact iteT ⟨_, rfl, fun d hd => kE "state" (by rfl) d _ (s1.trans (Same.upd_new hd)) upd_same⟩
    | true =>
    rw [e1] at k kE
    refine iteF ?_
    refine ⟨_, rfl, _, rfl, l2, fun H2 s2 => ⟨_, rfl, ?_⟩⟩
    replace s2 := s1.trans s2
    cases e2 : isEvent ev with
    | false =>
      rw [e2] at kE
      exact iteT ⟨_, rfl, fun d hd => kE "event" (by rfl) d _ (s2.trans (Same.upd_new hd)) upd_same⟩
    | true =>
    rw [e2] at k kE
    refine iteF ?_
    refine ⟨_, rfl, _, _, rfl, .inr (T.s_GUARDS _), rfl, flat_txts _, _, rfl, ?_⟩
    show if (!inV (V.str gd) (guardsV.map V.str)) = true then _ else _
    cases e3 : inV (V.str gd) (guardsV.map V.str) with
    | false =>
      rw [e3] at kE
      exact iteT ⟨_, rfl, fun d hd => kE "guard" (by rfl) d _ (s2.trans (Same.upd_new hd)) upd_same⟩
    | true =>
    rw [e3] at k kE
    refine iteF ?_
    refine ⟨_, rfl, _, rfl, l3, fun H3 s3 => ⟨_, rfl, ?_⟩⟩
    replace s3 := s2.trans s3
    cases e4 : isName th with
    | false =>
      rw [e4] at kE
      exact iteT ⟨_, rfl, fun d hd => kE "then" (by rfl) d _ (s3.trans (Same.upd_new hd)) upd_same⟩
    | true =>
    rw [e4] at k kE
    refine iteF ?_
    obtain ⟨tt, tt1, tt2⟩ := seq_kit (Same.sq s3 hrow)
    refine ⟨_, rfl, _, tt, true, rfl, tt1, tt2, fun H4 s4 => ⟨_, rfl, ?_⟩⟩
    replace s4 := s3.trans s4
    refine iteF ?_
    have hr4 := Same.sq s4 hrow
    refine ⟨_, rfl, row, rfl, seq_lc (xs := ds.map V.str) hr4 fun D hD => ⟨fun i H' => Same H4 H' ∧ H' D = some (.lst (((ds.take i).map (mayDo ev)).map V.bl)), ⟨Same.upd_new hD, upd_same⟩, fun i H' _ h => h.1 row, ?_, ?_⟩⟩
    · rintro i x H' hx ⟨t1, t2⟩
      obtain ⟨z, hz, rfl⟩ : ∃ z, ds[i]? = some z ∧ x = V.str z := by
        rw [List.getElem?_map] at hx
        cases e : ds[i]? with
        | none => rw [e] at hx; cases hx
        | some z => rw [e] at hx; exact ⟨z, rfl, (Option.some.inj hx).symm⟩
      refine ⟨rfl, ⟨_, rfl, _, rfl, _, _, rfl, l5 z (List.mem_of_getElem? hz), fun H5 s5 => ⟨_, s5 _ _ t2, ?_, ?_, ?_⟩⟩⟩
      · rw [List.length_map, List.length_map, List.length_take]
        exact Nat.lt_of_le_of_lt (Nat.le_trans (Nat.min_le_right _ _) l4) (small1000 (Nat.le_refl _))
      · intro b o e
        have := s5 _ _ (t1 b o e)
        rw [upd_ne (ne_of_none e hD)]
        exact this
      · rw [take_succ_map _ hz, List.map_append]
        exact upd_same
    · rintro H5 ⟨t1, t2⟩
      rw [List.length_map, List.take_length] at t2
      replace t1 := s4.trans t1
      refine ⟨D, _, rfl, .inl (.inl t2), ⟨_, rfl, ?_⟩⟩
      cases e5 : (ds.map (mayDo ev)).all id with
      | false =>
        rw [e5] at kE
        exact iteT ⟨_, rfl, fun d hd => kE "deeds" (by rfl) d _ (t1.trans (Same.upd_new hd)) upd_same⟩
      | true =>
      rw [e5] at k
      refine iteF ?_
      have hp5 := t1 _ _ hp
      have hr5 := Same.sq t1 hrow
      have hup : ∀ {H : Hp} {o : HO} {xs : List V}, (∃ dx fs, H p = some (.ins r.Rule dx fs)) → Sq K H row xs → Sq K (upd H p o) row xs := fun {H o xs} ⟨dx, fs, e⟩ h => by
        have q : ∀ u : HO, (∀ C dx fs, u ≠ .ins C dx fs) → H row = some u → (upd H p o) row = some u := fun u hu e2 => by
          have : row ≠ p := by
            intro e3
            rw [e3, e] at e2
            exact hu _ _ _ (Option.some.inj e2).symm
          rw [upd_ne this]
          exact e2
        rcases h with ((h | ⟨ob, h⟩) | h) | ((h | ⟨ob, h⟩) | h)
        · exact .inl (.inl (.inl (q _ (fun _ _ _ z => by cases z) h)))
        · exact .inl (.inl (.inr ⟨ob, q _ (fun _ _ _ z => by cases z) h⟩))
        · exact .inl (.inr h)
        · exact .inr (.inl (.inl (q _ (fun _ _ _ z => by cases z) h)))
        · exact .inr (.inl (.inr ⟨ob, q _ (fun _ _ _ z => by cases z) h⟩))
        · exact .inr (.inr h)
      refine ⟨_, rfl, _, rfl, p, r.Rule, dx, _, rfl, hp5, T.cl, T.n_state, (by show 0 < 1000; decide), ?_⟩
      refine ⟨_, rfl, _, rfl, p, r.Rule, dx, _, rfl, upd_same, T.cl, T.n_event, putF_len_lt (by show 0 < 999; decide), ?_⟩
      refine ⟨_, rfl, _, rfl, p, r.Rule, dx, _, rfl, upd_same, T.cl, T.n_guard, putF_len_lt (putF_len_lt (by show 0 < 998; decide)), ?_⟩
      refine ⟨_, rfl, _, rfl, p, r.Rule, dx, _, rfl, upd_same, T.cl, T.n_then, putF_len_lt (putF_len_lt (putF_len_lt (by show 0 < 997; decide))), ?_⟩
      refine ⟨_, rfl, ?_⟩
      dsimp only [tNil]
      refine rTup_of (K := K) (a := row) (xs := ds.map V.str) ?_ fun t H6 ht s6 => ?_
      · exact hup ⟨_, _, upd_same⟩ (hup ⟨_, _, upd_same⟩ (hup ⟨_, _, upd_same⟩ (hup ⟨_, _, hp5⟩ hr5)))
      have hp6 := s6 _ _ upd_same
      refine ⟨_, rfl, p, r.Rule, dx, _, rfl, hp6, T.cl, T.n_deeds, putF_len_lt (putF_len_lt (putF_len_lt (putF_len_lt (by show 0 < 996; decide)))), ?_⟩
      refine k rfl _ t ?_ upd_same fun b o e hb => ?_
      · have q : ∀ u : HO, (∀ C dx fs, u ≠ .ins C dx fs) → H6 t = some u → t ≠ p := fun u hu e2 e3 => by
          rw [e3, hp6] at e2
          exact hu _ _ _ (Option.some.inj e2).symm
        rcases ht with (h | ⟨ob, h⟩) | h
        · exact .inl (.inl (by rw [upd_ne (q _ (fun _ _ _ z => by cases z) h)]; exact h))
        · exact .inl (.inr ⟨ob, by rw [upd_ne (q _ (fun _ _ _ z => by cases z) h)]; exact h⟩)
        · exact .inr h
      · rw [upd_ne hb]
        refine s6 _ _ ?_
        rw [upd_ne hb, upd_ne hb, upd_ne hb, upd_ne hb]
        exact t1 b o e
end
end L2.Wk
namespace L2.Wk
open PySem PySem.Spec PyProof.Rows
abbrev s_Rule_eq : Stmt := inClass (top 25) 1
abbrev N_Rule_eq : List Str := ["self", "other"]
theorem sc_Rule_eq : FnScope N_Rule_eq ["self", "other"] (defScope s_Rule_eq) := ⟨rfl, rfl, rfl, by decide +kernel, rfl, by decide +kernel, by decide +kernel⟩
abbrev s_Rule_str : Stmt := inClass (top 25) 2
abbrev N_Rule_str : List Str := ["self"]
theorem sc_Rule_str : FnScope N_Rule_str ["self"] (defScope s_Rule_str) := ⟨rfl, rfl, rfl, by decide +kernel, rfl, by decide +kernel, by decide +kernel⟩
abbrev s_deeds_text : Stmt := top 28
abbrev N_deeds_text : List Str := ["deeds"]
theorem sc_deeds_text : FnScope N_deeds_text ["deeds"] (defScope s_deeds_text) := ⟨rfl, rfl, rfl, by decide +kernel, rfl, by decide +kernel, by decide +kernel⟩
/-! ### the text of a rule -/
def deedsTxt (ds : List Str) : Str := if (!(ds.map V.str).isEmpty) = true then Str.ofString ": " ++ Txt.join (Str.ofString ", ") ds else Str.ofString ""
def ruleTxt (R : RuleD) : Str := Str.empty ++ R.st ++ Str.ofString " " ++ R.ev ++ Str.ofString " " ++ R.gd ++ Str.ofString " -> " ++ R.th ++ deedsTxt R.ds
structure RuleSmall (R : RuleD) : Prop where
  st : R.st.length ≤ 100
  ev : R.ev.length ≤ 100
  gd : R.gd.length ≤ 100
  th : R.th.length ≤ 100
  dn : R.ds.length ≤ 100
  ds : ∀ z ∈ R.ds, z.length ≤ 100
def RuleAt (K : PySem.W.Frag) (r : Rs) (H : Hp) (p : Addr) (R : RuleD) : Prop := ∃ dx t, H p = some (.ins r.Rule dx (ruleF R.st R.ev R.gd R.th t)) ∧ SqT K H t (R.ds.map V.str)
theorem RuleAt.same {K : PySem.W.Frag} {r : Rs} {H H' : Hp} {p : Addr} {R : RuleD} (s : Same H H') (h : RuleAt K r H p R) : RuleAt K r H' p R := by
  obtain ⟨dx, t, h1, h2⟩ := h
  exact ⟨dx, t, s _ _ h1, Same.sqT s h2⟩
theorem sum_le {c : Nat} : ∀ {l : List Str}, (∀ z ∈ l, z.length ≤ c) → (l.map fun z => z.length).sum ≤ c * l.length
  | [], _ => by simp
  | z :: l, h => by
    have := sum_le fun y hy => h y (List.mem_cons_of_mem _ hy)
    have h0 := h z (List.mem_cons_self ..)
    rw [List.map_cons, List.sum_cons, List.length_cons, Nat.mul_add, Nat.mul_one]
    omega
theorem joinL_len (S : List Nat) : ∀ l : List (List Nat), (TL.joinL S l).length = (l.map List.length).sum + S.length * (l.length - 1)
  | [] => by simp [TL.joinL]
  | [p] => by simp [TL.joinL]
  | p :: q :: r => by
    show (p ++ (S ++ TL.joinL S (q :: r))).length = _
    rw [List.length_append, List.length_append, joinL_len S (q :: r)]
    simp only [List.map_cons, List.sum_cons, List.length_cons]
    have : S.length * (r.length + 1 + 1 - 1) = S.length * (r.length + 1 - 1) + S.length := by
      have e1 : r.length + 1 + 1 - 1 = (r.length + 1 - 1) + 1 := by omega
      rw [e1, Nat.mul_add, Nat.mul_one]
    omega
theorem join_len (y : Str) (l : List Str) : (Txt.join y l).length = (l.map fun z => z.length).sum + y.length * (l.length - 1) := by
  rw [TL.len_tl, TL.join_eq, TL.tl_join, joinL_len, List.map_map, List.length_map, ← TL.len_tl]
  have e : l.map (List.length ∘ TL.tl) = l.map fun z => z.length := List.map_congr_left fun z _ => (TL.len_tl z).symm
  rw [e]
theorem deedsTxt_len (ds : List Str) : (deedsTxt ds).length = if ds = [] then 0 else (ds.map fun z => z.length).sum + 2 * ds.length := by
  unfold deedsTxt
  have c1 : (Str.ofString ": ").length = 2 := by decide +kernel
  have c2 : (Str.ofString ", ").length = 2 := by decide +kernel
  have c3 : (Str.ofString "").length = 0 := by decide +kernel
  cases ds with
  | nil =>
    rw [if_neg (by simp), if_pos rfl, c3]
  | cons z ds =>
    rw [if_pos (by simp), if_neg (by simp), app_len, join_len, c1, c2, List.length_cons]
    omega
theorem deedsTxt_small {ds : List Str} (h1 : ds.length ≤ 100) (h2 : ∀ z ∈ ds, z.length ≤ 100) : (deedsTxt ds).length ≤ 10200 := by
  rw [deedsTxt_len]
  have := sum_le h2
  split
  · omega
  · omega
theorem big_ok {n : Nat} (h : n ≤ 60000) : n ≤ sizeLine := by
  rw [sizeLine_eq]
  exact Nat.le_trans h (by decide)
def spDT (K : PySem.W.Frag) : Sp := fun vs H Q _ => ∃ (t : Addr) (ds : List Str), vs = [.ref t] ∧ SqT K H t (ds.map V.str) ∧ ds.length ≤ 100 ∧ (∀ z ∈ ds, z.length ≤ 100) ∧ ∀ H', Same H H' → Q (.str (deedsTxt ds)) H'
def spStrR (K : PySem.W.Frag) (r : Rs) : Sp := fun vs H Q _ => ∃ (p : Addr) (R : RuleD), vs = [.ref p] ∧ RuleAt K r H p R ∧ RuleSmall R ∧ ∀ H', Same H H' → Q (.str (ruleTxt R)) H'
/-- ==, with a rule, or with what is none -/
def spEqR (K : PySem.W.Frag) (r : Rs) : Sp := fun vs H Q _ => ∃ (p : Addr) (y : V) (R : RuleD), vs = [.ref p, y] ∧ RuleAt K r H p R ∧ RuleSmall R ∧
  ((∃ q R', y = .ref q ∧ RuleAt K r H q R' ∧ RuleSmall R' ∧ ∀ H', Same H H' → Q (.bl (decide (V.str (ruleTxt R) = V.str (ruleTxt R')))) H') ∨ (∃ t, TyX K H y t ∧ PySem.W.kitOne K t (.ref r.Rule) = some false ∧ Q (.bl false) H))
structure RTs where
  deeds_text : Addr
  Rule_str : Addr
  Rule_eq : Addr
structure TxtRT (K : PySem.W.Frag) (mg : Str → Option Value) (a : Ws) (r : Rs) (q : RTs) : Prop extends TR K mg a r where
  g__deeds_text : mg "_deeds_text" = some (.ref q.deeds_text)
  k__deeds_text : PySem.W.keepIn K (.ref q.deeds_text) = true
  a_Rule_str : PySem.W.findIn K (.ref r.Rule) "__str__" = some (some (.ref q.Rule_str))
  i_Rule_str : PySem.W.isFn K (.ref q.Rule_str) = true
  a_Rule_eq : PySem.W.findIn K (.ref r.Rule) "__eq__" = some (some (.ref q.Rule_eq))
  i_Rule_eq : PySem.W.isFn K (.ref q.Rule_eq) = true
  kit_Rule : PySem.W.kitOne K (.ref r.Rule) (.ref r.Rule) = some true
  sis_Rule : SlX.SIsi K r.Rule
section
variable {P : Program} {w : World} {K : PySem.W.Frag} {mg : Str → Option Value} {base : Heap} {a : Ws} {r : Rs} {q : RTs} {f : Addr} {fd : FuncData}
theorem ok_deeds_text (F : Fun K "_deeds_text" "_deeds_text" s_deeds_text f fd) (T : TxtRT K mg a r q) : FnOk P w K mg base CX0 1 f fd ["deeds"] (spDT K) := by
  refine F.ok sc_deeds_text (fun vs H Q E h => ?_) (fun cdv A outer s H vs Q E hr h => ?_)
  · obtain ⟨_, _, rfl, _⟩ := h
    rfl
  · obtain ⟨t, ds, rfl, ht, h1, h2, k⟩ := h
    refine ⟨_, (pss_one (ps_ret (pe_ifExp (pt_truth (pv 0) (by intro _; rfl)) (pe_op op_add_str pe_str (pe_join pe_str (pv 0))) pe_str))), ?_⟩
    refine ⟨_, rfl, _, .inr (.inl ⟨_, ht, rfl⟩), ?_⟩
    have sm := sum_le h2
    have c2 : (Str.ofString ", ").length = 2 := by decide +kernel
    have c1 : (Str.ofString ": ").length = 2 := by decide +kernel
    unfold deedsTxt at k
    cases e : (!(ds.map V.str).isEmpty) with
    | true =>
      rw [e] at k
      refine iteT ⟨⟨_, rfl⟩, _, rfl, _, t, ds, rfl, rfl, .inr ht, ?_, _, _, rfl, rfl, ?_, k _ (Same.refl _)⟩
      · rw [c2]
        omega
      · rw [c1, join_len, c2]
        exact big_ok (by omega)
    | false =>
      rw [e] at k
      exact iteF (k _ (Same.refl _))
theorem rule_fld {R : RuleD} {t : Addr} : (ruleF R.st R.ev R.gd R.th t).lookup (Str.ofString "state") = some (V.str R.st) ∧ (ruleF R.st R.ev R.gd R.th t).lookup (Str.ofString "event") = some (V.str R.ev) ∧ (ruleF R.st R.ev R.gd R.th t).lookup (Str.ofString "guard") = some (V.str R.gd) ∧
    (ruleF R.st R.ev R.gd R.th t).lookup (Str.ofString "then") = some (V.str R.th) ∧ (ruleF R.st R.ev R.gd R.th t).lookup (Str.ofString "deeds") = some (V.ref t) := by
  unfold ruleF
  have d : ∀ x y : String, (decide (Str.ofString x = Str.ofString y)) = decide (Str.ofString x = Str.ofString y) := fun _ _ => rfl
  simp only [lookup_putF]
  refine ⟨?_, ?_, ?_, ?_, ?_⟩
  · rw [if_neg (by decide +kernel), if_neg (by decide +kernel), if_neg (by decide +kernel), if_neg (by decide +kernel), if_pos True.intro]
  · rw [if_neg (by decide +kernel), if_neg (by decide +kernel), if_neg (by decide +kernel), if_pos True.intro]
  · rw [if_neg (by decide +kernel), if_neg (by decide +kernel), if_pos True.intro]
  · rw [if_neg (by decide +kernel), if_pos True.intro]
  · rw [if_pos True.intro]
theorem ok_Rule_str {fd1 : FuncData} (F : Fun K "__str__" "Rule.__str__" s_Rule_str f fd) (T : TxtRT K mg a r q) (G__deeds_text : FnOk P w K mg base CX0 1 q.deeds_text fd1 ["deeds"] (spDT K)) (b__deeds_text : Binds K fd1 ["deeds"] []) :
    FnOk P w K mg base CX0 2 f fd ["self"] (spStrR K r) := by
  refine F.ok sc_Rule_str (fun vs H Q E h => ?_) (fun cdv A outer s H vs Q E hr h => ?_)
  · obtain ⟨_, _, rfl, _⟩ := h
    rfl
  · obtain ⟨p, R, rfl, ⟨dx, t, hp, ht⟩, sm, k⟩ := h
    refine ⟨_, (pss_one (ps_ret (pe_joined (.cons (pe_fmt (pe_fld (pv 0) rfl)) (.cons pe_str (.cons (pe_fmt (pe_fld (pv 0) rfl)) (.cons pe_str (.cons (pe_fmt (pe_fld (pv 0) rfl)) (.cons pe_str (.cons (pe_fmt (pe_fld (pv 0) rfl)) (.cons (pe_fmt (pe_call G__deeds_text (hr.mono (by decide)) rfl T.g__deeds_text T.k__deeds_text b__deeds_text .nil pass0 (pa_cons (pe_fld (pv 0) rfl) pa_nil))) .nil))))))))))), ?_⟩
    obtain ⟨l1, l2, l3, l4, l5⟩ := rule_fld (R := R) (t := t)
    have c1 : (Str.ofString " ").length = 1 := by decide +kernel
    have c4 : (Str.ofString " -> ").length = 4 := by decide +kernel
    have c0 : Str.empty.length = 0 := by decide +kernel
    have hd := deedsTxt_small sm.dn sm.ds
    obtain ⟨s1, s2, s3, s4, _, _⟩ := sm
    refine ⟨_, rfl, p, r.Rule, dx, _, _, rfl, hp, T.cl, T.n_state, l1, .inl ⟨_, rfl, len1000 (by omega), _, rfl, ?_, _, rfl, ?_, ?_⟩⟩
    · rw [app_len, c0]; exact len1000 (by omega)
    · simp only [app_len, c0, c1]; exact len1000 (by omega)
    refine ⟨_, rfl, p, r.Rule, dx, _, _, rfl, hp, T.cl, T.n_event, l2, .inl ⟨_, rfl, len1000 (by omega), _, rfl, ?_, _, rfl, ?_, ?_⟩⟩
    · simp only [app_len, c0, c1]; exact len1000 (by omega)
    · simp only [app_len, c0, c1]; exact len1000 (by omega)
    refine ⟨_, rfl, p, r.Rule, dx, _, _, rfl, hp, T.cl, T.n_guard, l3, .inl ⟨_, rfl, len1000 (by omega), _, rfl, ?_, _, rfl, ?_, ?_⟩⟩
    · simp only [app_len, c0, c1]; exact len1000 (by omega)
    · simp only [app_len, c0, c1, c4]; exact len1000 (by omega)
    refine ⟨_, rfl, p, r.Rule, dx, _, _, rfl, hp, T.cl, T.n_then, l4, .inl ⟨_, rfl, len1000 (by omega), _, rfl, ?_, ?_⟩⟩
    · simp only [app_len, c0, c1, c4]; exact len1000 (by omega)
    refine ⟨_, rfl, p, r.Rule, dx, _, _, rfl, hp, T.cl, T.n_deeds, l5, t, R.ds, rfl, ht, ‹_›, ‹_›, fun H2 sm2 => .inl ⟨_, rfl, big_ok (by omega), _, rfl, ?_, ?_⟩⟩
    · simp only [app_len, c0, c1, c4]; exact big_ok (by omega)
    · exact k _ sm2
theorem ok_Rule_eq {fd1 : FuncData} (F : Fun K "__eq__" "Rule.__eq__" s_Rule_eq f fd) (T : TxtRT K mg a r q) (G_Rule_str : FnOk P w K mg base CX0 2 q.Rule_str fd1 ["self"] (spStrR K r)) (b_Rule_str : Binds K fd1 ["self"] []) :
    FnOk P w K mg base CX0 5 f fd ["self", "other"] (spEqR K r) := by
  refine F.ok sc_Rule_eq (fun vs H Q E h => ?_) (fun cdv A outer s H vs Q E hr h => ?_)
  · obtain ⟨_, _, _, rfl, _⟩ := h
    rfl
  · obtain ⟨p, y, R, rfl, hp, sm, k⟩ := h
    refine ⟨_, (pss_one (ps_ret (pe_and (pe_callB call_isi (by rfl) T.b_isinstance (by decide +kernel) (pa_cons (pv 1) (pa_cons (pe_gr rfl T.g_Rule) pa_nil))) (pe_one (pe_cmpR op_eq (pe_callTy (call_strOwn (E := E0) T.a_Rule_str T.i_Rule_str G_Rule_str b_Rule_str (hr.mono (by decide)) pass0) (by rfl) T.b_str (by decide +kernel) (pa_cons (pv 0) pa_nil)) (pe_callTy (call_strOwn (E := E0) T.a_Rule_str T.i_Rule_str G_Rule_str b_Rule_str (hr.mono (by decide)) pass0) (by rfl) T.b_str (by decide +kernel) (pa_cons (pv 1) pa_nil)) (nomark _)))))), ?_⟩
    rcases k with ⟨q', R', rfl, hq, sm', k⟩ | ⟨t, ht, hk, k⟩
    · obtain ⟨dy, ty, hy, _⟩ := id hq
      obtain ⟨dx, tx, hx, _⟩ := id hp
      refine ⟨_, rfl, _, _, _, _, true, rfl, .own r.Rule, .base (.ins hy T.cl T.sis_Rule.ca T.sis_Rule.cn T.sis_Rule.ct T.sis_Rule.cm), T.kit_Rule, _, rfl, iteT ?_⟩
      refine ⟨_, rfl, p, dx, _, rfl, hx, p, R, rfl, hp, sm, fun H1 s1 => ⟨_, rfl, _, rfl, q', dy, _, rfl, s1 _ _ hy, q', R', rfl, RuleAt.same s1 hq, sm', fun H2 s2 => ⟨_, rfl, rfl, k _ (s1.trans s2)⟩⟩⟩
    · exact ⟨_, rfl, _, _, _, _, false, rfl, .own r.Rule, ht, hk, _, rfl, iteF k⟩
end
end L2.Wk
namespace L2.Wk
open PySem PySem.Spec PyProof.Rows
/-- a rule that is let: no error -/
def spRule0 (K : PySem.W.Frag) (r : Rs) : Sp := fun vs H Q _ => ∃ (p dx row : Addr) (R : RuleD), vs = [.ref p, .str R.st, .str R.ev, .str R.gd, .str R.th, .ref row] ∧ H p = some (.ins r.Rule dx []) ∧ Sq K H row (R.ds.map V.str) ∧ RuleSmall R ∧ ruleErr R.st R.ev R.gd R.th R.ds = none ∧
  ∀ H', RuleAt K r H' p R → (∀ b o, H b = some o → b ≠ p → H' b = some o) → Q .non H'
theorem made_same {H : Hp} {x dx C : Addr} (nx : H x = none) (nd : H dx = none) : Same H (upd (upd H dx (.own x)) x (.ins C dx [])) := fun b o e => by
  rw [upd_ne (ne_of_none e nx), upd_ne (ne_of_none e nd)]
  exact e
theorem made_keep {H H' : Hp} {x dx C : Addr} (nx : H x = none) (nd : H dx = none) (k : ∀ b o, (upd (upd H dx (.own x)) x (.ins C dx [])) b = some o → b ≠ x → H' b = some o) : Same H H' := fun b o e => k b o (made_same nx nd b o e) (ne_of_none e nx)
theorem RuleAt.upd_lst {K : PySem.W.Frag} {r : Rs} {H : Hp} {p row : Addr} {R : RuleD} {xs : List V} {o : HO} (hr : H row = some (.lst xs)) (h : RuleAt K r H p R) : RuleAt K r (upd H row o) p R := by
  obtain ⟨dx, t, h1, h2⟩ := h
  refine ⟨dx, t, ?_, ?_⟩
  · rw [upd_ne (ne_of h1 hr (by intro z; cases z))]
    exact h1
  · rcases h2 with (h | ⟨ob, h⟩) | h
    · exact .inl (.inl (by rw [upd_ne (ne_of h hr (by intro z; cases z))]; exact h))
    · exact .inl (.inr ⟨ob, by rw [upd_ne (ne_of h hr (by intro z; cases z))]; exact h⟩)
    · exact .inr h
theorem ok_calm {P : Program} {w : World} {K : PySem.W.Frag} {mg : Str → Option Value} {base : Heap} {k : Nat} {f : Addr} {fd : FuncData} {ps : List Str} {sp sp' : Sp} (F : FnOk P w K mg base (L2.CX P w) k f fd ps sp)
    (h : ∀ vs H Q E, sp' vs H Q E → sp vs H Q (fun _ _ _ => False)) : FnOk P w K mg base CX0 k f fd ps sp' :=
  ⟨fun vs H Q E q => F.len vs H Q _ (h _ _ _ _ q), fun A outer s H args us vs Q E hr he hb hv hs => codeAny_mono (F.run A outer s H args us vs Q _ hr he hb hv (h _ _ _ _ hs)) fun r s' hq => by
    cases r with
    | ok fl => cases fl <;> exact hq
    | error e =>
      obtain ⟨_, _, _, _, _, _, _, _, _, _, _, _, z⟩ := hq
      exact z.elim⟩
theorem ok_Rule0 {P : Program} {w : World} {K : PySem.W.Frag} {mg : Str → Option Value} {base : Heap} {r : Rs} {f : Addr} {fd : FuncData} (F : FnOk P w K mg base (L2.CX P w) 5 f fd ["self", "state", "event", "guard", "then", "deeds"] (spRule K r)) :
    FnOk P w K mg base CX0 5 f fd ["self", "state", "event", "guard", "then", "deeds"] (spRule0 K r) :=
  ok_calm F fun vs H Q E h => by
    obtain ⟨p, dx, row, R, e, hp, hrow, sm, her, k⟩ := h
    refine ⟨p, dx, row, R.st, R.ev, R.gd, R.th, R.ds, e, hp, hrow, Nat.le_trans sm.st (by decide), Nat.le_trans sm.ev (by decide), Nat.le_trans sm.th (by decide), Nat.le_trans sm.dn (by decide), fun z hz => Nat.le_trans (sm.ds z hz) (by decide), fun _ H' t h1 h2 h3 => k H' ⟨dx, t, h2, h1⟩ h3, fun m hm => ?_⟩
    rw [her] at hm
    cases hm
end L2.Wk
namespace L2.Wk
open PySem PySem.Spec PyProof.Rows
abbrev s_kind_of : Stmt := top 19
abbrev N_kind_of : List Str := ["phrase"]
theorem sc_kind_of : FnScope N_kind_of ["phrase"] (defScope s_kind_of) := ⟨rfl, rfl, rfl, by decide +kernel, rfl, by decide +kernel, by decide +kernel⟩
abbrev s_name_of : Stmt := top 20
abbrev N_name_of : List Str := ["phrase"]
theorem sc_name_of : FnScope N_name_of ["phrase"] (defScope s_name_of) := ⟨rfl, rfl, rfl, by decide +kernel, rfl, by decide +kernel, by decide +kernel⟩
abbrev s_ascending : Stmt := top 21
abbrev N_ascending : List Str := ["names"]
theorem sc_ascending : FnScope N_ascending ["names"] (defScope s_ascending) := ⟨rfl, rfl, rfl, by decide +kernel, rfl, by decide +kernel, by decide +kernel⟩
abbrev s_Machine_init : Stmt := inClass (top 26) 0
abbrev N_Machine_init : List Str := ["self", "first", "rules", "rule"]
theorem sc_Machine_init : FnScope N_Machine_init ["self", "first", "rules"] (defScope s_Machine_init) := ⟨rfl, rfl, rfl, by decide +kernel, rfl, by decide +kernel, by decide +kernel⟩
abbrev s_names_behind : Stmt := top 29
abbrev N_names_behind : List Str := ["rules", "kinds", "phrases", "rule", "phrase"]
theorem sc_names_behind : FnScope N_names_behind ["rules", "kinds"] (defScope s_names_behind) := ⟨rfl, rfl, rfl, by decide +kernel, rfl, by decide +kernel, by decide +kernel⟩
/-! ### what is told of rules by their names -/
def kindOf (z : Str) : Str := (Txt.partition z (Str.ofString " ")).1
def nameOf (z : Str) : Str := (Txt.partition z (Str.ofString " ")).2.2
def phrasesL (Rs : List RuleD) : List Str := Rs.flatMap fun R => R.ev :: R.ds
def behind (Rs : List RuleD) (kinds : List Str) : List Str := ((phrasesL Rs).filter fun z => inV (.str (kindOf z)) (kinds.map V.str)).map nameOf
structure MachD where
  first : Str
  rules : List RuleD
def statesL (M : MachD) : List Str := M.first :: (M.rules.map RuleD.st ++ M.rules.map RuleD.th)
def areasL (M : MachD) : List Str := behind M.rules (areaE ++ areaD)
def fencesL (M : MachD) : List Str := behind M.rules fenceD
def RuleV (K : PySem.W.Frag) (r : Rs) (H : Hp) (v : V) (R : RuleD) : Prop := ∃ p, v = .ref p ∧ RuleAt K r H p R
theorem RuleV.same {K : PySem.W.Frag} {r : Rs} {H H' : Hp} (s : Same H H') (v : V) (R : RuleD) : RuleV K r H v R → RuleV K r H' v R := fun ⟨p, e, h⟩ => ⟨p, e, RuleAt.same s h⟩
structure Cs where
  Machine : Addr
  fMachine : Addr
def machF (first : Str) (tr ts ta tf : Addr) : List (Str × V) := putF "fences" (.ref tf) (putF "areas" (.ref ta) (putF "states" (.ref ts) (putF "rules" (.ref tr) (putF "first" (.str first) []))))
/-- a made machine in the heap -/
structure MaAt (K : PySem.W.Frag) (r : Rs) (c : Cs) (H : Hp) (p : Addr) (M : MachD) : Prop where
  ex : ∃ (dx tr ts ta tf : Addr) (vs : List V) (ss as fs : List Str), H p = some (.ins c.Machine dx (machF M.first tr ts ta tf)) ∧ SqT K H tr vs ∧ AllAt (RuleV K r H) vs M.rules ∧
    SqT K H ts (ss.map V.str) ∧ Asc ss (statesL M) ∧ SqT K H ta (as.map V.str) ∧ Asc as (areasL M) ∧ SqT K H tf (fs.map V.str) ∧ Asc fs (fencesL M)
theorem MaAt.same {K : PySem.W.Frag} {r : Rs} {c : Cs} {H H' : Hp} {p : Addr} {M : MachD} (s : Same H H') (h : MaAt K r c H p M) : MaAt K r c H' p M := by
  obtain ⟨dx, tr, ts, ta, tf, vs, ss, as, fs, h1, h2, h3, h4, h5, h6, h7, h8, h9⟩ := h.ex
  exact ⟨dx, tr, ts, ta, tf, vs, ss, as, fs, s _ _ h1, Same.sqT s h2, h3.imp (RuleV.same s), Same.sqT s h4, h5, Same.sqT s h6, h7, Same.sqT s h8, h9⟩
/-- small, so that all is told in one piece -/
structure MachSmall (M : MachD) : Prop where
  first : M.first.length ≤ 100
  rules : ∀ R ∈ M.rules, RuleSmall R
  len : M.rules.length ≤ 30
  areas : ∃ ds : List Str, (∀ x ∈ areasL M, x ∈ ds) ∧ ds.length < 64
  fences : ∃ ds : List Str, (∀ x ∈ fencesL M, x ∈ ds) ∧ ds.length < 64
def spStrF (g : Str → Str) : Sp := fun vs H Q _ => ∃ z : Str, vs = [.str z] ∧ z.length ≤ 1000 ∧ ∀ H', Same H H' → Q (.str (g z)) H'
def spAsc (K : PySem.W.Frag) : Sp := fun vs H Q _ => ∃ (l : Addr) (xs : List Str), vs = [.ref l] ∧ SqL K H l (xs.map V.str) ∧ xs.length ≤ 4000 ∧ (∃ ds : List Str, (∀ x ∈ xs, x ∈ ds) ∧ ds.length < 64) ∧
  ∀ (t : Addr) (ys : List Str) (H' : Hp), SqT K H' t (ys.map V.str) → Asc ys xs → Same H H' → Q (.ref t) H'
def spBehind (K : PySem.W.Frag) (r : Rs) : Sp := fun vs H Q _ => ∃ (row kp : Addr) (us : List V) (Rs : List RuleD) (kinds : List Str), vs = [.ref row, .ref kp] ∧ Sq K H row us ∧ AllAt (RuleV K r H) us Rs ∧ (∀ R ∈ Rs, RuleSmall R) ∧ Rs.length ≤ 30 ∧ SqT K H kp (kinds.map V.str) ∧
  (∃ ds : List Str, (∀ x ∈ behind Rs kinds, x ∈ ds) ∧ ds.length < 64) ∧ ∀ (t : Addr) (ys : List Str) (H' : Hp), SqT K H' t (ys.map V.str) → Asc ys (behind Rs kinds) → Same H H' → Q (.ref t) H'
/-- Machine(..), where it is let -/
def spMach (K : PySem.W.Frag) (r : Rs) (c : Cs) : Sp := fun vs H Q _ => ∃ (p dx row : Addr) (us : List V) (M : MachD), vs = [.ref p, .str M.first, .ref row] ∧ H p = some (.ins c.Machine dx []) ∧ Sq K H row us ∧ AllAt (RuleV K r H) us M.rules ∧ MachSmall M ∧ isName M.first = true ∧
  ∀ H', MaAt K r c H' p M → (∀ b o, H b = some o → b ≠ p → H' b = some o) → Q .non H'
structure Ns where
  kind_of : Addr
  name_of : Addr
  ascending : Addr
  names_behind : Addr
structure TxtMa (K : PySem.W.Frag) (mg : Str → Option Value) (a : Ws) (r : Rs) (q : RTs) (c : Cs) (n : Ns) : Prop extends TxtRT K mg a r q where
  b_set : mg "set" = none
  b_sorted : mg "sorted" = none
  g_kind_of : mg "kind_of" = some (.ref n.kind_of)
  k_kind_of : PySem.W.keepIn K (.ref n.kind_of) = true
  g_name_of : mg "name_of" = some (.ref n.name_of)
  k_name_of : PySem.W.keepIn K (.ref n.name_of) = true
  g_ascending : mg "ascending" = some (.ref n.ascending)
  k_ascending : PySem.W.keepIn K (.ref n.ascending) = true
  g__names_behind : mg "_names_behind" = some (.ref n.names_behind)
  k__names_behind : PySem.W.keepIn K (.ref n.names_behind) = true
  clM : Cls K c.Machine
  MM : Mk K c.Machine c.fMachine
  g_Machine : mg "Machine" = some (.ref c.Machine)
  m_first : NoAttr K c.Machine "first"
  m_rules : NoAttr K c.Machine "rules"
  m_states : NoAttr K c.Machine "states"
  m_areas : NoAttr K c.Machine "areas"
  m_fences : NoAttr K c.Machine "fences"
section
variable {P : Program} {w : World} {K : PySem.W.Frag} {mg : Str → Option Value} {base : Heap} {a : Ws} {r : Rs} {q : RTs} {c : Cs} {n : Ns} {f : Addr} {fd : FuncData}
theorem ok_kind_of (F : Fun K "kind_of" "kind_of" s_kind_of f fd) (T : TxtMa K mg a r q c n) : FnOk P w K mg base CX0 1 f fd ["phrase"] (spStrF kindOf) := by
  refine F.ok sc_kind_of (fun vs H Q E h => ?_) (fun cdv A outer s H vs Q E hr h => ?_)
  · obtain ⟨z, rfl, _⟩ := h
    rfl
  · obtain ⟨z, rfl, hz, k⟩ := h
    refine ⟨_, (pss_one (ps_ret (pe_ix ix_tup (pe_partition (pv 0) pe_str) pe_int (fun _ _ => rfl)))), ?_⟩
    refine ⟨_, rfl, ⟨_, rfl⟩, _, _, rfl, rfl, rfl, len1000 hz, fun p hp => ⟨_, _, _, _, rfl, rfl, .inl (.inl upd_same), atI_nat (j := 0) rfl, k _ (Same.upd_new hp)⟩⟩
theorem ok_name_of (F : Fun K "name_of" "name_of" s_name_of f fd) (T : TxtMa K mg a r q c n) : FnOk P w K mg base CX0 1 f fd ["phrase"] (spStrF nameOf) := by
  refine F.ok sc_name_of (fun vs H Q E h => ?_) (fun cdv A outer s H vs Q E hr h => ?_)
  · obtain ⟨z, rfl, _⟩ := h
    rfl
  · obtain ⟨z, rfl, hz, k⟩ := h
    refine ⟨_, (pss_one (ps_ret (pe_ix ix_tup (pe_partition (pv 0) pe_str) pe_int (fun _ _ => rfl)))), ?_⟩
    refine ⟨_, rfl, ⟨_, rfl⟩, _, _, rfl, rfl, rfl, len1000 hz, fun p hp => ⟨_, _, _, _, rfl, rfl, .inl (.inl upd_same), atI_nat (j := 2) rfl, k _ (Same.upd_new hp)⟩⟩
theorem ok_ascending (F : Fun K "ascending" "ascending" s_ascending f fd) (T : TxtMa K mg a r q c n) : FnOk P w K mg base CX0 1 f fd ["names"] (spAsc K) := by
  refine F.ok sc_ascending (fun vs H Q E h => ?_) (fun cdv A outer s H vs Q E hr h => ?_)
  · obtain ⟨_, _, rfl, _⟩ := h
    rfl
  · obtain ⟨l, xs, rfl, hl, hx, ⟨ds, hds, hd64⟩, k⟩ := h
    refine ⟨_, (pss_one (ps_ret (pe_callTy call_tupS (by rfl) T.b_tuple (by decide +kernel) (pa_cons (pe_callB (cr_sortT rfl) (by rfl) T.b_sorted (by decide +kernel) (pa_cons (pe_callTy (cr_setB rfl) (by rfl) T.b_set (by decide +kernel) (pa_cons (pv 0) pa_nil)) pa_nil)) pa_nil)))), ?_⟩
    refine ⟨_, rfl, l, xs, rfl, hl, hx, fun p ks nd hk hp => ?_⟩
    have kl : ks.length < 64 := Nat.lt_of_le_of_lt (few_len nd fun x hx => hds x ((hk x).mp hx)) hd64
    refine ⟨p, _, _, rfl, upd_same, kl, fun ys o up nd2 hm hl2 ho => ?_⟩
    have s2 := (Same.upd_new (o := SetT w p (fun k => decide (k ∈ xs)) ks.length) hp).trans (Same.upd_new (o := .lst (ys.map V.str)) ho)
    refine ⟨o, _, rfl, .inl ⟨.inl (.inl upd_same), fun t ht => ?_⟩⟩
    refine k t ys _ (.inl (.inl upd_same)) ⟨up, nd2, fun z => ?_⟩ (s2.trans (Same.upd_new ht))
    rw [hm z, decide_eq_true_eq]
theorem phr_len {Rs : List RuleD} (h : ∀ R ∈ Rs, RuleSmall R) : (phrasesL Rs).length ≤ 101 * Rs.length ∧ ∀ z ∈ phrasesL Rs, z.length ≤ 100 := by
  induction Rs with
  | nil => exact ⟨Nat.le_refl _, fun z hz => by cases hz⟩
  | cons R Rs ih =>
    obtain ⟨i1, i2⟩ := ih fun R' hR' => h R' (List.mem_cons_of_mem _ hR')
    have sm := h R (List.mem_cons_self ..)
    unfold phrasesL at i1 i2 ⊢
    rw [List.flatMap_cons]
    refine ⟨?_, fun z hz => ?_⟩
    · rw [List.length_append, List.length_cons, List.length_cons]
      have := sm.dn
      omega
    · rcases List.mem_append.mp hz with hz | hz
      · rcases List.mem_cons.mp hz with rfl | hz
        · exact sm.ev
        · exact sm.ds z hz
      · exact i2 z hz
theorem phr_take {Rs : List RuleD} {i : Nat} {R : RuleD} (h : Rs[i]? = some R) : phrasesL (Rs.take (i + 1)) = phrasesL (Rs.take i) ++ (R.ev :: R.ds) := by
  unfold phrasesL
  rw [List.take_add_one, h, List.flatMap_append]
  simp
theorem filt_take {f : Str → Bool} {g : Str → Str} {L : List Str} {i : Nat} {z : Str} (h : L[i]? = some z) : ((L.take (i + 1)).filter f).map g = ((L.take i).filter f).map g ++ (if f z = true then [g z] else []) := by
  rw [List.take_add_one, h, List.filter_append, List.map_append]
  congr 1
  simp only [Option.toList]
  cases e : f z <;> simp [e]
theorem ok_names_behind {f1 f2 f3 : FuncData} (F : Fun K "_names_behind" "_names_behind" s_names_behind f fd) (T : TxtMa K mg a r q c n)
    (G_kind_of : FnOk P w K mg base CX0 1 n.kind_of f1 ["phrase"] (spStrF kindOf)) (b_kind_of : Binds K f1 ["phrase"] [])
    (G_name_of : FnOk P w K mg base CX0 1 n.name_of f2 ["phrase"] (spStrF nameOf)) (b_name_of : Binds K f2 ["phrase"] [])
    (G_ascending : FnOk P w K mg base CX0 1 n.ascending f3 ["names"] (spAsc K)) (b_ascending : Binds K f3 ["names"] []) :
    FnOk P w K mg base CX0 2 f fd ["rules", "kinds"] (spBehind K r) := by
  refine F.ok sc_names_behind (fun vs H Q E h => ?_) (fun cdv A outer s H vs Q E hr h => ?_)
  · obtain ⟨_, _, _, _, _, rfl, _⟩ := h
    rfl
  · obtain ⟨row, kp, us, Rs, kinds, rfl, hrow, hA, hsm, hRl, hkp, hds, k⟩ := h
    refine ⟨_, (pss_cons (ps_set (i := 2) sc_names_behind.nd rfl (Or.inl rfl) (pe_lst pa_nil))
    (pss_cons (ps_for PassesOwn.never rfl (pi_seq (pv 0)) (pg_name (i := 3) sc_names_behind.nd rfl (Or.inl rfl))
      (pss_one (ps_expr (pe_bm PySem.F.plainAttrs_list PySem.F.slot_list_extend PySem.F.type_list_extend mt_extend (pv 2) (pa_cons (pe_lst (pa_cons (pe_fld (pv 3) rfl) (StX.pa_star (pe_fld (pv 3) rfl) pa_nil))) pa_nil)))))
    (pss_one (ps_ret (pe_call G_ascending (hr.mono (by decide)) rfl T.g_ascending T.k_ascending b_ascending .nil pass0 (pa_cons (pe_lc (own := [("phrase", 4)]) (g := gName 4) rfl sc_names_behind.nd (pi_list (pv 2)) (blkOk_by (N := N_names_behind) (sc := defScope s_names_behind) (by decide +kernel)) (fun _ _ _ _ _ => (pg_name (i := 4) sc_names_behind.nd rfl (Or.inl rfl))) (fun _ _ _ _ _ => (pts_one (pt_cmpR (op_in_seqK (K := K) rfl) (pe_call G_kind_of (hr.mono (by decide)) rfl T.g_kind_of T.k_kind_of b_kind_of .nil pass0 (pa_cons (pv 4) pa_nil)) (pv 1) (by rfl)))) (fun _ _ _ _ _ => (pe_call G_name_of (hr.mono (by decide)) rfl T.g_name_of T.k_name_of b_name_of .nil pass0 (pa_cons (pv 4) pa_nil)))) pa_nil)))))), ?_⟩
    obtain ⟨pl, pz⟩ := phr_len hsm
    refine ⟨(by show 0 ≤ sizeLine; decide), fun po hpo => ?_⟩
    have s1 := Same.upd_new (o := .lst []) hpo
    have hul := hA.len
    refine ⟨_, rfl, row, rfl, ?_⟩
    refine seq_for (xs := us) hrow (fun i σ H' => ∃ v3 : Option V, σ = [some (.ref row), some (.ref kp), some (.ref po), v3, none] ∧ Same H H' ∧ H' po = some (.lst ((phrasesL (Rs.take i)).map V.str)))
      ⟨none, rfl, s1, upd_same⟩ (fun i σ H' _ ⟨_, _, h, _⟩ => h row) ?_ ?_
    · rintro i x σ H2 hx ⟨v3, rfl, s2, hp2⟩
      obtain ⟨R, hR, p, rfl, hpR⟩ := hA.get hx
      have hi : i < Rs.length := (List.getElem?_eq_some_iff.mp hR).1
      have smR := hsm R (List.mem_of_getElem? hR)
      obtain ⟨dx, t, hp, ht⟩ := RuleAt.same s2 hpR
      obtain ⟨l1, l2, l3, l4, l5⟩ := rule_fld (R := R) (t := t)
      obtain ⟨pl2, _⟩ := phr_len (Rs := Rs.take i) fun R' hR' => hsm R' (List.mem_of_mem_take hR')
      rw [List.length_take] at pl2
      refine ⟨_, rfl, .inl ⟨rfl, _, .inl (.inl hp2)⟩, _, rfl, p, r.Rule, dx, _, _, rfl, hp, T.cl, T.n_event, l2, _, rfl, p, r.Rule, dx, _, _, rfl, hp, T.cl, T.n_deeds, l5, t, _, rfl, .inl ht, ?_, fun lo hlo => ?_⟩
      · rw [List.length_cons, List.append_nil, List.length_map]
        exact big_ok (by have := smR.dn; omega)
      have s3 := Same.upd_new (o := .lst (V.str R.ev :: (R.ds.map V.str ++ []))) hlo
      refine ⟨po, lo, _, _, rfl, rfl, s3 _ _ hp2, upd_same, ?_, _, rfl, fun x o e => ?_, ?_⟩
      · rw [List.length_map, List.length_cons, List.append_nil, List.length_map]
        exact big_ok (by have := smR.dn; omega)
      · rw [upd_ne (ne_of_none e hpo)]
        exact s3 _ _ (s2 _ _ e)
      · rw [upd_same, phr_take hR, List.map_append, List.append_nil]
        rfl
    · rintro σ H2 ⟨v3, rfl, s2, hp2⟩
      rw [hul, List.take_length] at hp2
      refine ⟨_, rfl, po, rfl, ⟨_, .inl (.inl hp2)⟩, fun D hD => ?_⟩
      refine lc_list (K := K) (a := po) (xs := (phrasesL Rs).map V.str) (fun i H' => Same H2 H' ∧ H' D = some (.lst (((((phrasesL Rs).take i).filter fun z => inV (.str (kindOf z)) (kinds.map V.str)).map nameOf).map V.str))) ⟨Same.upd_new hD, upd_same⟩ (fun i H' _ h => .inl (.inl (h.1 _ _ hp2))) ?_ ?_
      · rintro i x H' hx ⟨t1, t2⟩
        obtain ⟨z, hz, hzi, rfl⟩ := get_map_str hx
        have zl := pz z hz
        have hi : i < (phrasesL Rs).length := (List.getElem?_eq_some_iff.mp hzi).1
        refine ⟨rfl, _, rfl, z, rfl, by omega, fun H3 s3 => ⟨_, rfl, _, _, rfl, .inr (Same.sqT ((s2.trans t1).trans s3) hkp), rfl, flat_txts _, _, rfl, ?_⟩⟩
        have e3 := filt_take (f := fun z => inV (.str (kindOf z)) (kinds.map V.str)) (g := nameOf) hzi
        refine ite_bool (fun ec => ?_) (fun ec => ?_)
        · have ec' : inV (V.str (kindOf z)) (kinds.map V.str) = true := ec
          refine ⟨_, rfl, z, rfl, by omega, fun H4 s4 => ⟨_, s4 _ _ (s3 _ _ t2), ?_, fun b o e => ?_, ?_⟩⟩
          · rw [List.length_map, List.length_map]
            have := List.length_filter_le (fun z => inV (.str (kindOf z)) (kinds.map V.str)) ((phrasesL Rs).take i)
            rw [List.length_take] at this
            exact Nat.lt_of_succ_le (big_ok (by omega))
          · rw [upd_ne (ne_of_none e hD)]
            exact s4 _ _ (s3 _ _ (t1 b o e))
          · rw [e3, if_pos ec', List.map_append]
            exact upd_same
        · have ec' : inV (V.str (kindOf z)) (kinds.map V.str) = false := ec
          refine ⟨t1.trans s3, ?_⟩
          rw [e3, if_neg (by rw [ec']; decide), List.append_nil]
          exact s3 _ _ t2
      · rintro H3 ⟨t1, t2⟩
        rw [List.length_map, List.take_length] at t2
        have bl : (behind Rs kinds).length ≤ 4000 := by
          unfold behind
          rw [List.length_map]
          exact Nat.le_trans (List.length_filter_le _ _) (by omega)
        refine ⟨D, behind Rs kinds, rfl, .inl (.inl t2), bl, hds, fun t ys H4 ht has s4 => k t ys H4 ht has ?_⟩
        exact fun x o e => s4 _ _ (t1 _ _ (s2 _ _ e))
theorem SqT.upd_ins {H : Hp} {p x : Addr} {o : HO} {xs : List V} {C dx : Addr} {fs : List (Str × V)} (e : H p = some (.ins C dx fs)) (h : SqT K H x xs) : SqT K (upd H p o) x xs := by
  have q : ∀ u : HO, (∀ C dx fs, u ≠ .ins C dx fs) → H x = some u → (upd H p o) x = some u := fun u hu e2 => by
    have : x ≠ p := by
      intro e3
      rw [e3, e] at e2
      exact hu _ _ _ (Option.some.inj e2).symm
    rw [upd_ne this]
    exact e2
  rcases h with (h | ⟨ob, h⟩) | h
  · exact .inl (.inl (q _ (fun _ _ _ z => by cases z) h))
  · exact .inl (.inr ⟨ob, q _ (fun _ _ _ z => by cases z) h⟩)
  · exact .inr h
theorem Sq.upd_ins {H : Hp} {p x : Addr} {o : HO} {xs : List V} {C dx : Addr} {fs : List (Str × V)} (e : H p = some (.ins C dx fs)) (h : Sq K H x xs) : Sq K (upd H p o) x xs := by
  have q : ∀ u : HO, (∀ C dx fs, u ≠ .ins C dx fs) → H x = some u → (upd H p o) x = some u := fun u hu e2 => by
    have : x ≠ p := by
      intro e3
      rw [e3, e] at e2
      exact hu _ _ _ (Option.some.inj e2).symm
    rw [upd_ne this]
    exact e2
  rcases h with ((h | ⟨ob, h⟩) | h) | h
  · exact .inl (.inl (.inl (q _ (fun _ _ _ z => by cases z) h)))
  · exact .inl (.inl (.inr ⟨ob, q _ (fun _ _ _ z => by cases z) h⟩))
  · exact .inl (.inr h)
  · exact .inr (SqT.upd_ins e h)
def RuleVn (K : PySem.W.Frag) (r : Rs) (p : Addr) (H : Hp) (v : V) (R : RuleD) : Prop := ∃ pr, v = .ref pr ∧ pr ≠ p ∧ RuleAt K r H pr R
/-- while a machine is made at p -/
structure MW (K : PySem.W.Frag) (r : Rs) (c : Cs) (H0 H : Hp) (p dx row : Addr) (us : List V) (Rs : List RuleD) (fs : List (Str × V)) : Prop where
  hp : H p = some (.ins c.Machine dx fs)
  row : Sq K H row us
  all : AllAt (RuleVn K r p H) us Rs
  fr : ∀ b o, H0 b = some o → b ≠ p → H b = some o
theorem MW.same {H0 H H' : Hp} {p dx row : Addr} {us : List V} {Rs : List RuleD} {fs : List (Str × V)} (h : MW K r c H0 H p dx row us Rs fs) (s : Same H H') : MW K r c H0 H' p dx row us Rs fs :=
  ⟨s _ _ h.hp, Same.sq s h.row, h.all.imp fun v R ⟨pr, e, n, q⟩ => ⟨pr, e, n, RuleAt.same s q⟩, fun b o e n => s _ _ (h.fr b o e n)⟩
theorem MW.put {H0 H : Hp} {p dx row : Addr} {us : List V} {Rs : List RuleD} {fs gs : List (Str × V)} (h : MW K r c H0 H p dx row us Rs fs) : MW K r c H0 (upd H p (.ins c.Machine dx gs)) p dx row us Rs gs :=
  ⟨upd_same, Sq.upd_ins h.hp h.row, h.all.imp fun v R ⟨pr, e, n, ⟨dy, t, q1, q2⟩⟩ => ⟨pr, e, n, dy, t, by rw [upd_ne n]; exact q1, SqT.upd_ins h.hp q2⟩, fun b o e n => by rw [upd_ne n]; exact h.fr b o e n⟩
theorem MW.rules {H0 H : Hp} {p dx row : Addr} {us : List V} {Rs : List RuleD} {fs : List (Str × V)} (h : MW K r c H0 H p dx row us Rs fs) : AllAt (RuleV K r H) us Rs := h.all.imp fun v R ⟨pr, e, _, q⟩ => ⟨pr, e, q⟩
theorem ruleF_ne {st ev gd th : Str} {t : Addr} : ruleF st ev gd th t ≠ [] := by
  intro e
  have := congrArg (List.lookup (Str.ofString "deeds")) e
  unfold ruleF at this
  rw [lookup_putF, if_pos rfl] at this
  cases this
theorem ok_Machine {dvs : List V} {f1 f2 f3 f4 : FuncData} (F : FunD K "__init__" "Machine.__init__" (defArgs s_Machine_init) (defBody s_Machine_init) (defScope s_Machine_init) dvs [] f fd) (T : TxtMa K mg a r q c n)
    (G_is_name : FnOk P w K mg base CX0 1 a.is_name f1 ["value"] (spTxt isName)) (b_is_name : Binds K f1 ["value"] [])
    (G_is_sequence : FnOk P w K mg base CX0 1 a.is_sequence f2 ["value"] (spSeqV K)) (b_is_sequence : Binds K f2 ["value"] [])
    (G_ascending : FnOk P w K mg base CX0 1 n.ascending f3 ["names"] (spAsc K)) (b_ascending : Binds K f3 ["names"] [])
    (G__names_behind : FnOk P w K mg base CX0 2 n.names_behind f4 ["rules", "kinds"] (spBehind K r)) (b__names_behind : Binds K f4 ["rules", "kinds"] []) :
    FnOk P w K mg base (L2.CX P w) 3 f fd ["self", "first", "rules"] (fun vs H Q E => spMach K r c vs H Q E) := by
  refine F.ok sc_Machine_init (fun vs H Q E h => ?_) (fun cdv A outer s H vs Q E hr h => ?_)
  · obtain ⟨_, _, _, _, _, rfl, _⟩ := h
    rfl
  · obtain ⟨p, dx, row, us, M, rfl, hp, hrow, hA, sm, hn, k⟩ := h
    refine ⟨_, (pss_cons (ps_if (pt_not (pt_val (pe_call G_is_name (hr.mono (by decide)) rfl T.g_is_name T.k_is_name b_is_name .nil pass0 (pa_cons (pv 1) pa_nil)))) (pss_one (ps_raiseLow_InvalidMachine rfl T.low_InvalidMachine hr (takes_of rfl rfl rfl rfl) (pa_cons pe_str pa_nil))) pss_nil)
    (pss_cons (ps_if (PW.pt (pw_or (pt_not (pt_val (pe_call G_is_sequence (hr.mono (by decide)) rfl T.g_is_sequence T.k_is_sequence b_is_sequence .nil pass0 (pa_cons (pv 2) pa_nil)))) (pw_or1 (pt_not (pt_val (pe_callB (cr_all rfl) (by rfl) T.b_all (by decide +kernel) (pa_cons (pe_lc (own := [("rule", 3)]) (g := gName 3) (tt := tYes) rfl sc_Machine_init.nd (pi_seq (pv 2)) (blkOk_by (N := N_Machine_init) (sc := defScope s_Machine_init) (by decide +kernel)) (fun _ _ _ _ _ => (pg_name (i := 3) sc_Machine_init.nd rfl (Or.inl rfl))) (fun _ _ _ _ _ => pts_nil) (fun _ _ _ _ _ => (pe_callB (call_isiN (K := K) rfl) (by rfl) T.b_isinstance (by decide +kernel) (pa_cons (pv 3) (pa_cons (pe_gr rfl T.g_Rule) pa_nil))))) pa_nil))))))) (pss_one (ps_raiseLow_InvalidMachine rfl T.low_InvalidMachine hr (takes_of rfl rfl rfl rfl) (pa_cons pe_str pa_nil))) pss_nil)
    (pss_cons (ps_fld (pv 0) (pv 1) rfl)
    (pss_cons (ps_fld (pv 0) (pe_callTy call_tupS (by rfl) T.b_tuple (by decide +kernel) (pa_cons (pv 2) pa_nil)) rfl)
    (pss_cons (ps_fld (pv 0) (pe_call G_ascending (hr.mono (by decide)) rfl T.g_ascending T.k_ascending b_ascending .nil pass0 (pa_cons (pe_lst (pa_cons (pv 1) (StX.pa_star (pe_lc (own := [("rule", 3)]) (g := gName 3) (tt := tYes) rfl sc_Machine_init.nd (pi_seq (pv 2)) (blkOk_by (N := N_Machine_init) (sc := defScope s_Machine_init) (by decide +kernel)) (fun _ _ _ _ _ => (pg_name (i := 3) sc_Machine_init.nd rfl (Or.inl rfl))) (fun _ _ _ _ _ => pts_nil) (fun _ _ _ _ _ => (pe_fldK (K := K) rfl (pv 3) rfl))) (StX.pa_star (pe_lc (own := [("rule", 3)]) (g := gName 3) (tt := tYes) rfl sc_Machine_init.nd (pi_seq (pv 2)) (blkOk_by (N := N_Machine_init) (sc := defScope s_Machine_init) (by decide +kernel)) (fun _ _ _ _ _ => (pg_name (i := 3) sc_Machine_init.nd rfl (Or.inl rfl))) (fun _ _ _ _ _ => pts_nil) (fun _ _ _ _ _ => (pe_fldK (K := K) rfl (pv 3) rfl))) pa_nil)))) pa_nil)) rfl)
    (pss_cons (ps_fld (pv 0) (pe_call G__names_behind (hr.mono (by decide)) rfl T.g__names_behind T.k__names_behind b__names_behind .nil pass0 (pa_cons (pv 2) (pa_cons (pe_op (op_catA) (pe_gr rfl T.g_AREA_EVENTS) (pe_gr rfl T.g_AREA_DEEDS)) pa_nil))) rfl)
    (pss_one (ps_fld (pv 0) (pe_call G__names_behind (hr.mono (by decide)) rfl T.g__names_behind T.k__names_behind b__names_behind .nil pass0 (pa_cons (pv 2) (pa_cons (pe_gr rfl T.g_FENCE_DEEDS) pa_nil))) rfl)))))))), ?_⟩
    have hul := hA.len
    have rl := sm.len
    refine ⟨_, rfl, _, rfl, Nat.le_trans sm.first (by decide), fun H1 s1 => ⟨_, rfl, ?_⟩⟩
    rw [hn]
    refine iteF ?_
    obtain ⟨tt, tt1, tt2⟩ := seq_kit (Same.sq s1 hrow)
    refine ⟨_, rfl, _, tt, true, rfl, tt1, tt2, fun H2 s2 => ⟨_, rfl, ?_⟩⟩
    replace s2 := s1.trans s2
    refine iteF ?_
    have hr2 := Same.sq s2 hrow
    refine ⟨_, rfl, row, rfl, seq_lc (xs := us) hr2 fun D hD => ⟨fun i H' => Same H2 H' ∧ H' D = some (.lst ((List.replicate i true).map V.bl)), ⟨Same.upd_new hD, upd_same⟩, fun i H' _ h => h.1 row, ?_, ?_⟩⟩
    · rintro i x H' hx ⟨t1, t2⟩
      obtain ⟨R, hR, pr, rfl, hpR⟩ := hA.get hx
      have hi : i < us.length := (List.getElem?_eq_some_iff.mp hx).1
      obtain ⟨dy, ty, hy, _⟩ := RuleAt.same (s2.trans t1) hpR
      refine ⟨rfl, _, rfl, _, _, _, _, true, rfl, .own r.Rule, .base (.ins hy T.cl T.sis_Rule.ca T.sis_Rule.cn T.sis_Rule.ct T.sis_Rule.cm), T.kit_Rule, _, t2, ?_, fun b o e => ?_, ?_⟩
      · rw [List.length_map, List.length_replicate]
        exact small1000 (by omega)
      · rw [upd_ne (ne_of_none e hD)]
        exact t1 b o e
      · rw [List.replicate_succ', List.map_append]
        exact upd_same
    · rintro H3 ⟨t1, t2⟩
      replace t1 := s2.trans t1
      refine ⟨D, _, rfl, .inl (.inl t2), ⟨_, rfl, ?_⟩⟩
      have ea : (List.replicate us.length true).all id = true := by
        rw [List.all_eq_true]
        intro b hb
        rw [List.eq_of_mem_replicate hb]
        rfl
      rw [ea]
      refine iteF ?_
      have W3 : MW K r c H H3 p dx row us M.rules [] := ⟨t1 _ _ hp, Same.sq t1 hrow, hA.imp fun v R ⟨pr, e, ⟨dy, t, q1, q2⟩⟩ => ⟨pr, e, fun e2 => by
        subst e2
        rw [hp] at q1
        injection q1 with q1
        injection q1 with _ _ q1
        exact ruleF_ne q1.symm, RuleAt.same t1 ⟨dy, t, q1, q2⟩⟩, fun b o e _ => t1 b o e⟩
      clear t1 t2 hD hr2 s2 tt1 tt2
      refine ⟨_, rfl, _, rfl, p, c.Machine, dx, _, rfl, W3.hp, T.clM, T.m_first, (by show 0 < 1000; decide), ?_⟩
      have W4 := W3.put (gs := putF "first" (.str M.first) [])
      clear W3
      generalize upd H3 p _ = H4 at W4 ⊢
      -- rules
      refine ⟨_, rfl, ?_⟩
      dsimp only [tNil]
      refine rTup_of (K := K) (a := row) (xs := us) W4.row fun tr H5 htr s5 => ?_
      have W5 := W4.same s5
      refine ⟨_, rfl, p, c.Machine, dx, _, rfl, W5.hp, T.clM, T.m_rules, putF_len_lt (by show 0 < 999; decide), ?_⟩
      have W6 := W5.put (gs := putF "rules" (.ref tr) (putF "first" (.str M.first) []))
      have htr6 : SqT K _ tr us := SqT.upd_ins (o := .ins c.Machine dx (putF "rules" (.ref tr) (putF "first" (.str M.first) []))) W5.hp htr
      clear W4 W5 htr s5
      generalize upd H5 p _ = H6 at W6 htr6 ⊢
      -- states
      refine ⟨_, rfl, _, rfl, row, rfl, seq_lc (xs := us) W6.row fun D1 hD1 => ⟨fun i H' => Same H6 H' ∧ H' D1 = some (.lst (((M.rules.take i).map RuleD.st).map V.str)), ⟨Same.upd_new hD1, upd_same⟩, fun i H' _ h => h.1 row, ?_, ?_⟩⟩
      · rintro i x H' hx ⟨t1, t2⟩
        obtain ⟨R, hR, pr, rfl, hpR⟩ := W6.rules.get hx
        have hi : i < us.length := (List.getElem?_eq_some_iff.mp hx).1
        obtain ⟨dy, ty, hy, _⟩ := RuleAt.same t1 hpR
        refine ⟨rfl, _, rfl, pr, r.Rule, dy, _, _, rfl, hy, T.cl, T.n_state, (rule_fld (R := R) (t := ty)).1, _, t2, ?_, fun b o e => ?_, ?_⟩
        · rw [List.length_map, List.length_map, List.length_take]
          exact small1000 (by omega)
        · rw [upd_ne (ne_of_none e hD1)]
          exact t1 b o e
        · rw [take_succ_map _ hR, List.map_append]
          exact upd_same
      · rintro H7 ⟨t1, t2⟩
        rw [hul, List.take_length] at t2
        have W7 := W6.same t1
        have htr7 := Same.sqT t1 htr6
        refine ⟨D1, _, rfl, .inr (.inl (.inl t2)), _, rfl, row, rfl, seq_lc (xs := us) W7.row fun D2 hD2 => ⟨fun i H' => Same H7 H' ∧ H' D2 = some (.lst (((M.rules.take i).map RuleD.th).map V.str)), ⟨Same.upd_new hD2, upd_same⟩, fun i H' _ h => h.1 row, ?_, ?_⟩⟩
        · rintro i x H' hx ⟨t1, t2⟩
          obtain ⟨R, hR, pr, rfl, hpR⟩ := W7.rules.get hx
          have hi : i < us.length := (List.getElem?_eq_some_iff.mp hx).1
          obtain ⟨dy, ty, hy, _⟩ := RuleAt.same t1 hpR
          refine ⟨rfl, _, rfl, pr, r.Rule, dy, _, _, rfl, hy, T.cl, T.n_then, (rule_fld (R := R) (t := ty)).2.2.2.1, _, t2, ?_, fun b o e => ?_, ?_⟩
          · rw [List.length_map, List.length_map, List.length_take]
            exact small1000 (by omega)
          · rw [upd_ne (ne_of_none e hD2)]
            exact t1 b o e
          · rw [take_succ_map _ hR, List.map_append]
            exact upd_same
        · rintro H8 ⟨u1, u2⟩
          rw [hul, List.take_length] at u2
          have W8 := W7.same u1
          have htr8 := Same.sqT u1 htr7
          have e8 : ([V.str M.first] ++ ((M.rules.map RuleD.st).map V.str ++ ((M.rules.map RuleD.th).map V.str ++ []))) = (statesL M).map V.str := by
            unfold statesL
            rw [List.map_cons, List.map_append, List.append_nil]
            rfl
          have l8 : (statesL M).length ≤ 61 := by
            unfold statesL
            rw [List.length_cons, List.length_append, List.length_map, List.length_map]
            omega
          refine ⟨D2, _, rfl, .inr (.inl (.inl u2)), ?_, fun ls hls => ?_⟩
          · show ([V.str M.first] ++ ((M.rules.map RuleD.st).map V.str ++ ((M.rules.map RuleD.th).map V.str ++ []))).length ≤ sizeLine
            rw [e8, List.length_map]
            exact len1000 (by omega)
          have s9 := Same.upd_new (o := .lst ((statesL M).map V.str)) hls
          refine ⟨ls, statesL M, rfl, .inl (.inl (Eq.trans upd_same (by rw [← e8]; rfl))), by omega, ⟨statesL M, fun _ h => h, by omega⟩, fun ts ss H9 hts hss sA => ?_⟩
          have sB : Same H8 H9 := fun x o e => sA _ _ (by
            show (upd H8 ls _) x = some o
            rw [upd_ne (ne_of_none e hls)]
            exact e)
          have W9 := W8.same sB
          have htr9 := Same.sqT sB htr8
          refine ⟨_, rfl, p, c.Machine, dx, _, rfl, W9.hp, T.clM, T.m_states, putF_len_lt (putF_len_lt (by show 0 < 998; decide)), ?_⟩
          have WA := W9.put (gs := putF "states" (.ref ts) (putF "rules" (.ref tr) (putF "first" (.str M.first) [])))
          have htrA : SqT K _ tr us := SqT.upd_ins (o := .ins c.Machine dx (putF "states" (.ref ts) (putF "rules" (.ref tr) (putF "first" (.str M.first) [])))) W9.hp htr9
          have htsA : SqT K _ ts _ := SqT.upd_ins (o := .ins c.Machine dx (putF "states" (.ref ts) (putF "rules" (.ref tr) (putF "first" (.str M.first) [])))) W9.hp hts
          clear W6 W7 W8 W9 htr6 htr7 htr8 htr9 hts sA sB s9 t1 t2 u1 u2 hD1 hD2 hls
          generalize upd H9 p _ = HA at WA htrA htsA ⊢
          -- areas
          refine ⟨_, rfl, _, _, _, _, rfl, rfl, T.s_AREA_EVENTS _, T.s_AREA_DEEDS _, (by decide +kernel), (fun e => by cases e), (fun _ e => by cases e), fun _ _ kp hkp => ?_⟩
          have sC := Same.upd_new (o := .tup (areaE.map V.str ++ areaD.map V.str)) hkp
          have WC := WA.same sC
          refine ⟨row, kp, us, M.rules, areaE ++ areaD, rfl, WC.row, WC.rules, sm.rules, rl, .inl (.inl (Eq.trans upd_same (by rw [List.map_append]))), sm.areas, fun ta as HB hta has sD => ?_⟩
          have WD := WC.same sD
          have sE := sC.trans sD
          refine ⟨_, rfl, p, c.Machine, dx, _, rfl, WD.hp, T.clM, T.m_areas, putF_len_lt (putF_len_lt (putF_len_lt (by show 0 < 997; decide))), ?_⟩
          have WE := WD.put (gs := putF "areas" (.ref ta) (putF "states" (.ref ts) (putF "rules" (.ref tr) (putF "first" (.str M.first) []))))
          have htrE : SqT K _ tr us := SqT.upd_ins (o := .ins c.Machine dx (putF "areas" (.ref ta) (putF "states" (.ref ts) (putF "rules" (.ref tr) (putF "first" (.str M.first) []))))) WD.hp (Same.sqT sE htrA)
          have htsE : SqT K _ ts _ := SqT.upd_ins (o := .ins c.Machine dx (putF "areas" (.ref ta) (putF "states" (.ref ts) (putF "rules" (.ref tr) (putF "first" (.str M.first) []))))) WD.hp (Same.sqT sE htsA)
          have htaE : SqT K _ ta _ := SqT.upd_ins (o := .ins c.Machine dx (putF "areas" (.ref ta) (putF "states" (.ref ts) (putF "rules" (.ref tr) (putF "first" (.str M.first) []))))) WD.hp hta
          clear WA WC WD htrA htsA hta sC sD sE hkp
          generalize upd HB p _ = HC at WE htrE htsE htaE ⊢
          -- fences
          refine ⟨_, rfl, row, _, us, M.rules, fenceD, rfl, WE.row, WE.rules, sm.rules, rl, T.s_FENCE_DEEDS _, sm.fences, fun tf fs HD htf hfs sF => ?_⟩
          have WF := WE.same sF
          refine ⟨_, rfl, p, c.Machine, dx, _, rfl, WF.hp, T.clM, T.m_fences, putF_len_lt (putF_len_lt (putF_len_lt (putF_len_lt (by show 0 < 996; decide)))), ?_⟩
          have WG := WF.put (gs := machF M.first tr ts ta tf)
          exact k _ ⟨dx, tr, ts, ta, tf, us, ss, as, fs, WG.hp, SqT.upd_ins WF.hp (Same.sqT sF htrE), WG.rules, SqT.upd_ins WF.hp (Same.sqT sF htsE), hss, SqT.upd_ins WF.hp (Same.sqT sF htaE), has, SqT.upd_ins WF.hp htf, hfs⟩ WG.fr
end
end L2.Wk
namespace L2.Wk
open PySem PySem.Spec PyProof.Rows
abbrev s_law_deal : Stmt := top 41
abbrev N_law_deal : List Str := ["_law_script", "_law_base", "_law_cells", "_law_blend", "_law_cell"]
theorem sc_law_deal : FnScope N_law_deal ["_law_script", "_law_base"] (defScope s_law_deal) := ⟨rfl, rfl, rfl, by decide +kernel, rfl, by decide +kernel, by decide +kernel⟩
abbrev s_law_draw : Stmt := top 42
abbrev N_law_draw : List Str := ["_law_deal_here", "_law_many", "_law_left"]
theorem sc_law_draw : FnScope N_law_draw ["_law_deal_here", "_law_many"] (defScope s_law_draw) := ⟨rfl, rfl, rfl, by decide +kernel, rfl, by decide +kernel, by decide +kernel⟩
abbrev s_law_pick : Stmt := top 43
abbrev N_law_pick : List Str := ["_law_deal_here", "_law_some"]
theorem sc_law_pick : FnScope N_law_pick ["_law_deal_here", "_law_some"] (defScope s_law_pick) := ⟨rfl, rfl, rfl, by decide +kernel, rfl, by decide +kernel, by decide +kernel⟩
abbrev s_law_names : Stmt := top 45
abbrev N_law_names : List Str := ["_law_deal_here", "_law_many", "_law_some", "_law_form", "_law_spot", "_law_letters", "_law_k"]
theorem sc_law_names : FnScope N_law_names ["_law_deal_here", "_law_many"] (defScope s_law_names) := ⟨rfl, rfl, rfl, by decide +kernel, rfl, by decide +kernel, by decide +kernel⟩
theorem dp_ints {K : PySem.W.Frag} {H : Hp} : ∀ ns : List Int, DpAll K H (ns.map V.int) (ns.map PyData.int)
  | [] => .nil
  | n :: ns => .cons (.int n) (dp_ints ns)
theorem dp_strs {K : PySem.W.Frag} {H : Hp} : ∀ zs : List Str, DpAll K H (zs.map V.str) (zs.map PyData.str)
  | [] => .nil
  | z :: zs => .cons (.str z) (dp_strs zs)
/-- xs != [] -/
theorem ne_nil {K : PySem.W.Frag} {H : Hp} {a p : Addr} {xs : List V} {ds : List PyData} {Q : VK} (h : SqL K H a xs) (hd : DpAll K H xs ds) (sh : SeqAt.shaped (.list ds) = true) (hp : H p = some (.lst [])) (q : Q (.bl (!xs.isEmpty)) H) :
    rNeD K (.ref a) (.ref p) H Q := by
  refine ⟨_, _, .lst h hd, .lst (.inl (.inl hp)) .nil, sh, (by decide +kernel), ?_⟩
  have e : (!PyData.eqv (.list ds) (.list [])) = !xs.isEmpty := by
    cases hd with
    | nil => simp [PyData.eqv, PyData.eqvAll]
    | cons _ _ => simp [PyData.eqv, PyData.eqvAll]
  rw [e]
  exact q
theorem op_rep_str {X : Cx} : OpR X (binaryOp .Mult) (fun x y H Q => ∃ z n, x = .str z ∧ y = .int n ∧ MulOk z n ∧ Q (.str (Txt.mul z n)) H) := by
  intro pins s σ H x y v u Q I rx ry h
  obtain ⟨z, n, rfl, rfl, hz, q⟩ := h
  obtain ⟨t, rfl⟩ := rx
  obtain ⟨t', rfl⟩ := ry
  exact SB.mul hz (fun t' k => ⟨.str _, H, I.tok _, ⟨_, rfl⟩, q⟩)
/-! ### the promises of the draws -/
def spDeal (K : PySem.W.Frag) : Sp := fun vs H Q _ => ∃ (s : Addr) (ns : List Int), vs = [.ref s, .int 0] ∧ SqL K H s (ns.map V.int) ∧ ns.length ≤ 63 ∧ ∀ (d l : Addr) (H' : Hp), H d = none → H l = none → DealAt H' d l → Same H H' → Q (.ref d) H'
def spDraw : Sp := fun vs H Q _ => ∃ (d l : Addr) (n : Int), vs = [.ref d, .int n] ∧ DealAt H d l ∧ 0 < n ∧ n < 100000 ∧ ∀ (r : Int) (H' : Hp), 0 ≤ r → r < n → DealAt H' d l → Keep d l H H' → Q (.int r) H'
def spPick (K : PySem.W.Frag) : Sp := fun vs H Q _ => ∃ (d l s : Addr) (xs : List V), vs = [.ref d, .ref s] ∧ DealAt H d l ∧ H s = some (.lst xs) ∧ s ≠ d ∧ s ≠ l ∧ xs ≠ [] ∧ xs.length ≤ 1000 ∧ ∀ (v : V) (H' : Hp), v ∈ xs → DealAt H' d l → Keep d l H H' → Q v H'
theorem cut_all {xs : List V} (h : xs.length ≤ 63) : cutV xs (some 0) (some 63) = xs := by
  unfold cutV
  have e1 : HT.sIx xs.length 0 (some 0) = 0 := by
    have := HT.sIx_nat xs.length 0 0
    simpa using this
  have e2 : HT.sIx xs.length xs.length (some 63) = xs.length := by
    have := HT.sIx_nat xs.length xs.length 63
    have e : min 63 xs.length = xs.length := by omega
    rw [e] at this
    exact this
  rw [e1, e2]
  simp
def absI (i : Int) : Int := if i < 0 then -i else i
theorem absI_nn (i : Int) : 0 ≤ absI i := by
  unfold absI
  split <;> omega
theorem get_map_int {ns : List Int} {i : Nat} {x : V} (h : (ns.map V.int)[i]? = some x) : ∃ n, ns[i]? = some n ∧ x = V.int n := by
  rw [List.getElem?_map] at h
  cases e : ns[i]? with
  | none => rw [e] at h; cases h
  | some z => rw [e] at h; exact ⟨z, rfl, (Option.some.inj h).symm⟩
theorem snoc {α : Type} (c : α) (cs : List α) : ∃ xs y, c :: cs = xs ++ [y] := ⟨(c :: cs).dropLast, (c :: cs).getLast (by simp), (List.dropLast_concat_getLast (by simp)).symm⟩
/-- while the last great cell is nought: behind each turn -/
def DrawW (d l : Addr) (n b0 : Int) (H : Hp) (m : Nat) (σ : L2.St) (H' : Hp) : Prop := ∃ (cs : List Int), σ = [some (.ref d), some (.int n), none] ∧ H' d = some (.lst [.ref l, .int b0]) ∧ H' l = some (.lst (cs.map V.int)) ∧ (∀ c ∈ cs, 0 ≤ c) ∧ cs.length ≤ 63 ∧ m = cs.length ∧ Keep d l H H'
theorem Keep.upd_l {d l : Addr} {H : Hp} {o : HO} : Keep d l H (upd H l o) := fun p u e _ h2 => by rw [upd_ne h2]; exact e
theorem Keep.upd_d {d l : Addr} {H : Hp} {o : HO} : Keep d l H (upd H d o) := fun p u e h1 _ => by rw [upd_ne h1]; exact e
def nameL : List Str := txts ["a", "b", "run", "off", "wake", "save", "open", "calm", "x", "zzzz", "cut", "load"]
def letL : Str := "abcdefghijklmnopqrstuvwxyz"
def allNames : List Str := nameL ++ letL.cps.toList.flatMap fun c => [0, 1, 2, 3].map fun j : Int => (⟨#[c]⟩ : Str) ++ Txt.mul "w" j
theorem mul_ok {n : Int} (h : n ∈ ([0, 1, 2, 3] : List Int)) : MulOk "w" n := by
  unfold MulOk
  simp only [List.mem_cons, List.not_mem_nil, or_false] at h
  rcases h with rfl | rfl | rfl | rfl <;> decide +kernel
theorem mul_len {n : Int} (h : n ∈ ([0, 1, 2, 3] : List Int)) : (Txt.mul "w" n).length ≤ 3 := by
  simp only [List.mem_cons, List.not_mem_nil, or_false] at h
  rcases h with rfl | rfl | rfl | rfl <;> decide +kernel
def spNames : Sp := fun vs H Q _ => ∃ (d l : Addr) (n : Int), vs = [.ref d, .int n] ∧ DealAt H d l ∧ 0 ≤ n ∧ n ≤ 60 ∧ ∀ (p : Addr) (zs : List Str) (H' : Hp), H p = none → H' p = some (.lst (zs.map V.str)) → zs.length = n.toNat → (∀ z ∈ zs, z ∈ allNames) → DealAt H' d l → Keep d l H H' → Q (.ref p) H'
theorem lay_strs {zs : List Str} (h : ∀ z ∈ zs, PyData.strOk z = true) : PyData.canLayAll0 (zs.map PyData.str) = true ∧ PyData.depthAll (zs.map PyData.str) = 0 := by
  induction zs with
  | nil => exact ⟨by simp [PyData.canLayAll0], by simp [PyData.depthAll]⟩
  | cons z zs ih =>
    obtain ⟨i1, i2⟩ := ih fun y hy => h y (List.mem_cons_of_mem _ hy)
    have hz := h z (List.mem_cons_self ..)
    rw [List.map_cons]
    exact ⟨by simp [PyData.canLayAll0, PyData.canLay0, hz, i1], by simp [PyData.depthAll, PyData.depth, i2]⟩
theorem shaped_strs {zs : List Str} (h : ∀ z ∈ zs, PyData.strOk z = true) : SeqAt.shaped (.list (zs.map PyData.str)) = true := by
  obtain ⟨h1, h2⟩ := lay_strs h
  unfold SeqAt.shaped
  simp [PyData.canLay0, PyData.depth, h1, h2]
theorem seq_ix {j n : Nat} (h : j < n) : seqIndex? (j : Int) n = some j := by
  unfold seqIndex?
  have h1 : ¬ ((j : Int) < 0) := by omega
  have h2 : (j : Int) < (n : Int) := by omega
  simp [h1, h2]
  try omega
theorem map_erase {α β : Type} (f : α → β) : ∀ (l : List α) (j : Nat), (l.map f).eraseIdx j = (l.eraseIdx j).map f
  | [], _ => rfl
  | _ :: _, 0 => rfl
  | a :: l, j + 1 => by
    rw [List.map_cons, List.eraseIdx_cons_succ, List.eraseIdx_cons_succ, List.map_cons, map_erase f l j]
theorem DealAt.upd {d l p : Addr} {H : Hp} {o : HO} (D : DealAt H d l) (h1 : p ≠ d) (h2 : p ≠ l) : DealAt (L2.upd H p o) d l := by
  obtain ⟨cs, b, q1, q2, q3⟩ := D.ex
  exact ⟨⟨cs, b, by rw [upd_ne h1.symm]; exact q1, by rw [upd_ne h2.symm]; exact q2, q3⟩⟩
structure Ds where
  deal : Addr
  draw : Addr
  pick : Addr
  names : Addr
structure TxtD (K : PySem.W.Frag) (mg : Str → Option Value) (a : Ds) : Prop where
  b_abs : mg "abs" = none
  b_int : mg "int" = none
  b_len : mg "len" = none
  b_list : mg "list" = none
  b_range : mg "range" = none
  g__law_deal : mg "_law_deal" = some (.ref a.deal)
  k__law_deal : PySem.W.keepIn K (.ref a.deal) = true
  g__law_draw : mg "_law_draw" = some (.ref a.draw)
  k__law_draw : PySem.W.keepIn K (.ref a.draw) = true
  g__law_pick : mg "_law_pick" = some (.ref a.pick)
  k__law_pick : PySem.W.keepIn K (.ref a.pick) = true
  g__law_names : mg "_law_names" = some (.ref a.names)
  k__law_names : PySem.W.keepIn K (.ref a.names) = true
section
variable {P : Program} {w : World} {K : PySem.W.Frag} {mg : Str → Option Value} {base : Heap} {a : Ds} {f : Addr} {fd : FuncData}
theorem ok_deal (F : Fun K "_law_deal" "_law_deal" s_law_deal f fd) (T : TxtD K mg a) : FnOk P w K mg base CX0 1 f fd ["_law_script", "_law_base"] (spDeal K) := by
  refine F.ok sc_law_deal (fun vs H Q E h => ?_) (fun cdv A outer s H vs Q E hr h => ?_)
  · obtain ⟨_, _, rfl, _⟩ := h
    rfl
  · obtain ⟨sa, ns, rfl, hS, hlen, k⟩ := h
    refine ⟨_, (pss_cons (ps_setLc (i := 2) (own := [("_law_cell", 4)]) (g := gName 4) (tt := tYes) rfl sc_law_deal.nd rfl rfl (sw_true rfl rfl rfl (by decide +kernel)) (pi_list (pe_slice sl_list (pv 0) (po_some (pv 1)) (po_some pe_int))) (blkOk_by (N := N_law_deal) (sc := defScope s_law_deal) (by decide +kernel)) (fun _ _ _ _ _ => (pg_name (i := 4) sc_law_deal.nd rfl (Or.inl rfl))) (fun _ _ _ _ _ => pts_nil) (fun _ _ _ _ _ => (pe_callB call_abs (by rfl) T.b_abs (by decide +kernel) (pa_cons (pv 4) pa_nil))))
    (pss_cons (ps_set (i := 3) sc_law_deal.nd rfl (Or.inl rfl) (pe_op op_add pe_int (pe_op op_mul pe_int (pv 1))))
    (pss_cons (ps_for PassesOwn.never rfl (pi_list (pv 2)) (pg_name (i := 4) sc_law_deal.nd rfl (Or.inl rfl))
      (pss_one (ps_set (i := 3) sc_law_deal.nd rfl (Or.inl rfl) (pe_op op_mod (pe_callTy call_int1 (by rfl) T.b_int (by decide +kernel) (pa_cons (pe_op op_add (pe_op op_add (pe_op op_mul (pv 3) pe_int) (pe_op op_mod (pe_callTy call_int1 (by rfl) T.b_int (by decide +kernel) (pa_cons (pv 4) pa_nil)) pe_int)) pe_int) pa_nil)) pe_int))))
    (pss_one (ps_ret (pe_lst (pa_cons (pe_revL (pe_lc (own := [("_law_cell", 4)]) (g := gName 4) rfl sc_law_deal.nd (pi_list (pv 2)) (blkOk_by (N := N_law_deal) (sc := defScope s_law_deal) (by decide +kernel)) (fun _ _ _ _ _ => (pg_name (i := 4) sc_law_deal.nd rfl (Or.inl rfl))) (fun _ _ _ _ _ => (pts_one (pt_cmpR op_ge (pv 4) (pe_op op_pow pe_int pe_int) (nomark _)))) (fun _ _ _ _ _ => (pv 4)))) (pa_cons (pv 3) pa_nil)))))))), ?_⟩
    refine ⟨_, rfl, _, rfl, _, rfl, _, rfl, sa, _, rfl, hS, fun p hp => ?_⟩
    refine ⟨p, rfl, ⟨_, .inl (.inl upd_same)⟩, fun D hD => ?_⟩
    rw [cut_all (by rw [List.length_map]; exact hlen)] at hD ⊢
    have s1 : Same H (upd H p (.lst (ns.map V.int))) := Same.upd_new hp
    have p1 : (upd H p (.lst (ns.map V.int))) p = some (.lst (ns.map V.int)) := upd_same
    generalize upd H p (.lst (ns.map V.int)) = H1 at s1 p1 hD ⊢
    refine lc_list (K := K) (a := p) (xs := ns.map V.int) (fun i H' => Same H1 H' ∧ H' D = some (.lst (((ns.take i).map absI).map V.int))) ⟨Same.upd_new hD, upd_same⟩ (fun i H' _ h => .inl (.inl (h.1 _ _ p1))) ?_ ?_
    · rintro i x H' hx ⟨t1, t2⟩
      obtain ⟨z, hz, rfl⟩ := get_map_int hx
      refine ⟨rfl, ⟨_, rfl, _, rfl, _, t2, ?_, ?_, ?_⟩⟩
      · rw [List.length_map, List.length_map, List.length_take]
        exact Nat.lt_of_le_of_lt (Nat.le_trans (Nat.min_le_right _ _) hlen) (small1000 (by decide))
      · intro b o e
        have := t1 b o e
        rw [upd_ne (ne_of_none e hD)]
        exact this
      · rw [take_succ_map _ hz, List.map_append]
        exact upd_same
    · rintro H2 ⟨t1, t2⟩
      rw [List.length_map, List.take_length] at t2
      replace s1 := s1.trans t1
      refine ⟨_, rfl, _, _, rfl, rfl, .inl ⟨by decide, by decide⟩, _, _, rfl, rfl, ?_⟩
      refine ⟨_, rfl, D, rfl, ⟨_, .inl (.inl t2)⟩, ?_⟩
      refine for_list (K := K) (a := D) (xs := (ns.map absI).map V.int) (fun i σ H' => ∃ (b : Int) (v : Option V), σ = [some (.ref sa), some (.int 0), some (.ref D), some (.int b), v] ∧ 0 ≤ b ∧ b < 2147483647 ∧ H' = H2) ⟨_, _, rfl, by decide, by decide, rfl⟩
        (fun i σ H' _ ⟨_, _, _, _, _, e⟩ => by rw [e]; exact .inl (.inl t2)) ?_ ?_
      · rintro i x σ H' hx ⟨b, v, rfl, b0, b1, rfl⟩
        obtain ⟨z, hz, rfl⟩ := get_map_int hx
        refine ⟨_, rfl, _, _, rfl, rfl, .inl ⟨by omega, by omega⟩, _, rfl, .inl ⟨_, rfl, _, _, rfl, rfl, (by show (0 : Int) < 2147483629; decide), _, _, rfl, rfl, _, _, rfl, rfl, .inl ⟨_, rfl, _, _, rfl, rfl, (by show (0 : Int) < 2147483647; decide), ?_⟩⟩⟩
        exact ⟨_, _, rfl, Int.emod_nonneg _ (by decide), Int.emod_lt_of_pos _ (by decide), rfl⟩
      · rintro σ H' ⟨b, v, rfl, b0, b1, rfl⟩
        refine ⟨_, rfl, D, rfl, ⟨_, .inl (.inl t2)⟩, fun D2 hD2 => ?_⟩
        refine lc_list (K := K) (a := D) (xs := (ns.map absI).map V.int) (fun i H3 => Same H' H3 ∧ ∃ acc : List Int, H3 D2 = some (.lst (acc.map V.int)) ∧ (∀ c ∈ acc, 0 ≤ c) ∧ acc.length ≤ i) ⟨Same.upd_new hD2, [], upd_same, (fun _ h => by cases h), Nat.le_refl _⟩
          (fun i H3 _ h => .inl (.inl (h.1 _ _ t2))) ?_ ?_
        · rintro i x H3 hx ⟨u1, acc, u2, u3, u4⟩
          obtain ⟨z, hz, rfl⟩ := get_map_int hx
          have z0 : 0 ≤ z := by
            have := List.mem_of_getElem? hz
            obtain ⟨y, _, rfl⟩ := List.mem_map.mp this
            exact absI_nn y
          have hi : i < ns.length := by
            have := (List.getElem?_eq_some_iff.mp hz).1
            rw [List.length_map] at this
            exact this
          refine ⟨rfl, _, rfl, _, _, rfl, rfl, ⟨by decide, by decide, by decide⟩, _, _, rfl, rfl, _, rfl, ?_⟩
          refine ite2 (fun c => ?_) (fun c => ⟨u1, acc, u2, u3, by omega⟩)
          refine ⟨_, rfl, _, u2, ?_, ?_, acc ++ [z], ?_, ?_, ?_⟩
          · rw [List.length_map]
            exact small1000 (by omega)
          · intro b2 o e
            rw [upd_ne (ne_of_none e hD2)]
            exact u1 b2 o e
          · rw [List.map_append]
            exact upd_same
          · intro c hc
            rcases List.mem_append.mp hc with hc | hc
            · exact u3 c hc
            · rw [List.mem_singleton.mp hc]
              exact z0
          · rw [List.length_append]
            simp only [List.length_cons, List.length_nil]
            omega
        · rintro H3 ⟨u1, acc, u2, u3, u4⟩
          rw [List.length_map, List.length_map] at u4
          refine ⟨D2, _, rfl, .inl (.inl u2), fun l hl => ⟨_, rfl, (by show 2 ≤ sizeLine; decide), fun d hd => ?_⟩⟩
          have s3 : Same H H3 := s1.trans u1
          have hl3 : H3 l = none := hl
          have hd3 : d ≠ l := (ne_of_none upd_same hd).symm
          have hdn : H3 d = none := by
            rw [upd_ne hd3] at hd
            exact hd
          refine k d l _ (s3.free hdn) (s3.free hl) ⟨⟨acc.reverse, b, upd_same, ?_, ?_, ?_, b0, b1⟩⟩ ((s3.trans (Same.upd_new hl)).trans (Same.upd_new hd))
          · rw [upd_ne hd3.symm, upd_same, List.map_reverse]
          · intro c hc
            exact u3 c (List.mem_reverse.mp hc)
          · rw [List.length_reverse]
            omega
theorem ok_draw (F : Fun K "_law_draw" "_law_draw" s_law_draw f fd) (T : TxtD K mg a) : FnOk P w K mg base CX0 1 f fd ["_law_deal_here", "_law_many"] spDraw := by
  refine F.ok sc_law_draw (fun vs H Q E h => ?_) (fun cdv A outer s H vs Q E hr h => ?_)
  · obtain ⟨_, _, _, rfl, _⟩ := h
    rfl
  · obtain ⟨d, l, n, rfl, D, n1, n2, k⟩ := h
    obtain ⟨cs0, b0, hd0, hl0, c0, c1, q0, q1⟩ := D.ex
    have ndl : d ≠ l := D.ne
    have rest : ∃ t, PSs (cxOf CX0 P w K mg base N_law_draw "_law_draw" (defScope s_law_draw) f cdv A outer s H E).nox ((defBody s_law_draw).drop 1) t ∧
        ∀ (cs : List Int) (H1 : Hp), H1 d = some (.lst [.ref l, .int b0]) → H1 l = some (.lst (cs.map V.int)) → (∀ c ∈ cs, 0 ≤ c) → cs.length ≤ 63 → Keep d l H H1 → t { nx := fun _ H' => Q .non H', rt := Q } [some (.ref d), some (.int n), none] H1 := by
      refine ⟨_, (pss_cons (ps_if (pt_cmpR (op_neD hr.units) (pe_ix ix_list (pv 0) pe_int (fun _ _ => rfl)) (pe_lst pa_nil) (nomark _)) (pss_cons (ps_set (i := 2) sc_law_draw.nd rfl (Or.inl rfl) (pe_bm0 PySem.F.plainAttrs_list PySem.F.slot_list_pop PySem.F.type_list_pop mt_pop (pe_ix ix_list (pv 0) pe_int (fun _ _ => rfl))))
    (pss_cons (ps_expr (pe_bm PySem.F.plainAttrs_list PySem.F.slot_list_append PySem.F.type_list_append mt_append (pe_ix ix_list (pv 0) pe_int (fun _ _ => rfl)) (pa_cons (pe_op op_fdivN (pv 2) (pv 1)) pa_nil)))
    (pss_one (ps_ret (pe_op op_mod (pe_callTy call_int1 (by rfl) T.b_int (by decide +kernel) (pa_cons (pv 2) pa_nil)) (pv 1)))))) pss_nil)
    (pss_cons (ps_asg (pe_op op_mod (pe_callTy call_int1 (by rfl) T.b_int (by decide +kernel) (pa_cons (pe_op op_add (pe_op op_mul (pe_ix ix_list (pv 0) pe_int (fun _ _ => rfl)) pe_int) pe_int) pa_nil)) pe_int) (pg_sub (pv 0) pe_int set_list))
    (pss_one (ps_ret (pe_op op_mod (pe_callTy call_int1 (by rfl) T.b_int (by decide +kernel) (pa_cons (pe_op op_fdiv (pe_ix ix_list (pv 0) pe_int (fun _ _ => rfl)) pe_int) pa_nil)) (pv 1)))))), ?_⟩
      intro cs H1 hd hl c2 c3 kp
      refine ⟨_, rfl, _, _, _, _, rfl, rfl, .inl (.inl hd), atI_nat (j := 0) rfl, by decide, fun p hp => ?_⟩
      have s2 : Same H1 (upd H1 p (.lst [])) := Same.upd_new hp
      refine ne_nil (.inl (.inl (s2 _ _ hl))) (dp_ints cs) (PySem.W.ke_shaped_ints cs) upd_same ⟨_, rfl, ?_⟩
      replace hd := s2 _ _ hd
      replace hl := s2 _ _ hl
      replace kp := kp.trans (Keep.same (d := d) (l := l) s2)
      generalize upd H1 p (.lst []) = H2 at hd hl kp
      cases cs with
      | nil =>
        refine iteF ?_
        refine ⟨_, rfl, _, _, _, _, rfl, rfl, .inl (.inl hd), atI_nat (j := 1) rfl, _, _, rfl, rfl, .inl ⟨by omega, by omega⟩, _, _, rfl, rfl, .inl ⟨_, rfl, _, _, rfl, rfl, (by show (0 : Int) < 2147483647; decide), _, rfl, d, _, 1, 1, rfl, rfl, hd, rfl, ?_⟩⟩
        refine ⟨_, rfl, _, _, _, _, rfl, rfl, .inl (.inl upd_same), atI_nat (j := 1) rfl, _, _, rfl, rfl, ⟨by decide, by decide⟩, .inl ⟨_, rfl, _, rfl, _, _, rfl, rfl, n1, ?_⟩⟩
        refine k _ _ (Int.emod_nonneg _ (by omega)) (Int.emod_lt_of_pos _ n1) ⟨⟨[], (b0 * 69621 + 13) % 2147483647, upd_same, ?_, c2, c3, Int.emod_nonneg _ (by decide), Int.emod_lt_of_pos _ (by decide)⟩⟩ (kp.trans Keep.upd_d)
        rw [upd_ne ndl.symm]
        exact hl
      | cons c cs =>
        refine iteT ?_
        obtain ⟨xs, y, e⟩ := snoc c cs
        rw [e] at hl c2 c3
        rw [List.map_append] at hl
        have hy0 : 0 ≤ y := c2 y (by simp)
        refine ⟨_, rfl, _, _, _, _, rfl, rfl, .inl (.inl hd), atI_nat (j := 0) rfl, .inl ⟨rfl, _, .inl (.inl hl)⟩, l, _, .int y, rfl, rfl, hl, ?_, ?_⟩
        · rw [List.length_append, List.map_cons, List.map_nil]
          simp
        rw [List.map_cons, List.map_nil, List.dropLast_concat]
        have hd3 : (upd H2 l (.lst (xs.map V.int))) d = some (.lst [.ref l, .int b0]) := by
          rw [upd_ne ndl]
          exact hd
        refine ⟨_, rfl, _, _, _, _, rfl, rfl, .inl (.inl hd3), atI_nat (j := 0) rfl, .inl ⟨rfl, _, .inl (.inl upd_same)⟩, _, rfl, _, rfl, _, _, rfl, rfl, ⟨by omega, by omega⟩, l, _, _, rfl, rfl, upd_same, ?_, ?_⟩
        · rw [List.length_map]
          rw [List.length_append] at c3
          exact small1000 (by omega)
        refine ⟨_, rfl, .inl ⟨_, rfl, _, rfl, _, _, rfl, rfl, n1, ?_⟩⟩
        refine k _ _ (Int.emod_nonneg _ (by omega)) (Int.emod_lt_of_pos _ n1) ⟨⟨xs ++ [y.fdiv n], b0, ?_, ?_, ?_, ?_, q0, q1⟩⟩ ((kp.trans Keep.upd_l).trans Keep.upd_l)
        · rw [upd_ne ndl]
          exact hd3
        · rw [List.map_append]
          exact upd_same
        · intro c hc
          rcases List.mem_append.mp hc with hc | hc
          · exact c2 c (List.mem_append_left _ hc)
          · rw [List.mem_singleton.mp hc, Int.fdiv_eq_ediv_of_nonneg _ (by omega)]
            exact Int.ediv_nonneg hy0 (by omega)
        · rw [List.length_append] at c3 ⊢
          exact c3
    obtain ⟨tr, hrest, krest⟩ := rest
    refine ⟨_, pss_cons (ps_while PassesOwn.never (PW.pt (pw_and (pt_cmpR (op_neD hr.units) (pe_ix ix_list (pv 0) pe_int (fun _ _ => rfl)) (pe_lst pa_nil) (nomark _)) (pw_and1 (pt_cmpR op_eq (pe_ix ix_list (pe_ix ix_list (pv 0) pe_int (fun _ _ => rfl)) (pe_un un_neg pe_int) (fun _ _ => rfl)) pe_int (nomark _))))) (pss_one (ps_expr (pe_bm0 PySem.F.plainAttrs_list PySem.F.slot_list_pop PySem.F.type_list_pop mt_pop (pe_ix ix_list (pv 0) pe_int (fun _ _ => rfl)))))) hrest, ?_⟩
    refine ⟨DrawW d l n b0 H, ⟨_, cs0, rfl, hd0, hl0, c0, c1, rfl, Keep.refl d l H⟩, ?_⟩
    rintro m σ H1 ⟨cs, rfl, hd, hl, c2, c3, rfl, kp⟩
    refine ⟨_, rfl, _, _, _, _, rfl, rfl, .inl (.inl hd), atI_nat (j := 0) rfl, by decide, fun p hp => ?_⟩
    have s2 : Same H1 (upd H1 p (.lst [])) := Same.upd_new hp
    refine ne_nil (.inl (.inl (s2 _ _ hl))) (dp_ints cs) (PySem.W.ke_shaped_ints cs) upd_same ⟨_, rfl, ?_⟩
    replace hd := s2 _ _ hd
    replace hl := s2 _ _ hl
    replace kp := kp.trans (Keep.same (d := d) (l := l) s2)
    generalize upd H1 p (.lst []) = H2 at hd hl kp
    cases cs with
    | nil => exact iteF (iteF (krest [] H2 hd hl c2 c3 kp))
    | cons c cs =>
      refine iteT ?_
      obtain ⟨xs, y, e⟩ := snoc c cs
      rw [e] at hl c2 c3
      rw [List.map_append] at hl
      refine ⟨_, rfl, _, _, _, _, rfl, rfl, .inl (.inl hd), atI_nat (j := 0) rfl, _, rfl, l, _, _, _, rfl, rfl, .inl (.inl hl), atI_last _ _, rfl, _, rfl, ?_⟩
      by_cases hy : V.int y = V.int 0
      · rw [decide_eq_true hy]
        refine iteT ⟨DrawW d l n b0 H xs.length, fun σ' H' w => ⟨_, ?_, w⟩, ?_⟩
        · rw [e, List.length_append]
          simp
        · refine ⟨_, rfl, _, _, _, _, rfl, rfl, .inl (.inl hd), atI_nat (j := 0) rfl, .inl ⟨rfl, _, .inl (.inl hl)⟩, l, _, .int y, rfl, rfl, hl, ?_, xs, rfl, ?_, ?_, ?_, ?_, rfl, ?_⟩
          · rw [List.length_append, List.map_cons, List.map_nil]
            simp
          · rw [upd_ne ndl]
            exact hd
          · rw [List.map_cons, List.map_nil, List.dropLast_concat]
            exact upd_same
          · intro c hc
            exact c2 c (List.mem_append_left _ hc)
          · rw [List.length_append] at c3
            omega
          · exact kp.trans Keep.upd_l
      · rw [decide_eq_false hy]
        refine iteF (krest (xs ++ [y]) H2 hd (by rw [List.map_append]; exact hl) c2 c3 kp)
theorem ok_pick {f1 : FuncData} (F : Fun K "_law_pick" "_law_pick" s_law_pick f fd) (T : TxtD K mg a) (G__law_draw : FnOk P w K mg base CX0 1 a.draw f1 ["_law_deal_here", "_law_many"] spDraw) (b__law_draw : Binds K f1 ["_law_deal_here", "_law_many"] []) :
    FnOk P w K mg base CX0 2 f fd ["_law_deal_here", "_law_some"] (spPick K) := by
  refine F.ok sc_law_pick (fun vs H Q E h => ?_) (fun cdv A outer s H vs Q E hr h => ?_)
  · obtain ⟨_, _, _, _, rfl, _⟩ := h
    rfl
  · obtain ⟨d, l, sa, xs, rfl, D, hs, e1, e2, hne, hlen, k⟩ := h
    refine ⟨_, (pss_one (ps_ret (pe_ix ix_list (pv 1) (pe_call G__law_draw (hr.mono (by decide)) rfl T.g__law_draw T.k__law_draw b__law_draw .nil pass0 (pa_cons (pv 0) (pa_cons (pe_callB call_len (by rfl) T.b_len PySem.boot_len (pa_cons (pv 1) pa_nil)) pa_nil))) (fun _ _ => rfl)))), ?_⟩
    have hl : 0 < xs.length := List.length_pos_iff.mpr hne
    refine ⟨_, rfl, _, rfl, _, rfl, _, xs.length, rfl, .inl ⟨_, .inl (.inl hs), rfl⟩, d, l, (xs.length : Int), rfl, D, by omega, by omega, fun r H' r1 r2 D' kp => ?_⟩
    obtain ⟨j, rfl⟩ := Int.eq_ofNat_of_zero_le r1
    have hj : j < xs.length := by omega
    refine ⟨_, _, _, xs[j], rfl, rfl, .inl (.inl (kp _ _ hs e1 e2)), atI_nat (List.getElem?_eq_getElem hj), ?_⟩
    exact k _ _ (List.getElem_mem hj) D' kp
theorem ok_names {f1 : FuncData} (F : Fun K "_law_names" "_law_names" s_law_names f fd) (T : TxtD K mg a) (G__law_draw : FnOk P w K mg base CX0 1 a.draw f1 ["_law_deal_here", "_law_many"] spDraw) (b__law_draw : Binds K f1 ["_law_deal_here", "_law_many"] []) :
    FnOk P w K mg base CX0 2 f fd ["_law_deal_here", "_law_many"] spNames := by
  refine F.ok sc_law_names (fun vs H Q E h => ?_) (fun cdv A outer s H vs Q E hr h => ?_)
  · obtain ⟨_, _, _, rfl, _⟩ := h
    rfl
  · obtain ⟨d, l, n, rfl, D, n0, n1, k⟩ := h
    refine ⟨_, (pss_cons (ps_set (i := 2) sc_law_names.nd rfl (Or.inr rfl) (pe_lst (pa_cons pe_str (pa_cons pe_str (pa_cons pe_str (pa_cons pe_str (pa_cons pe_str (pa_cons pe_str (pa_cons pe_str (pa_cons pe_str (pa_cons pe_str (pa_cons pe_str (pa_cons pe_str (pa_cons pe_str pa_nil))))))))))))))
    (pss_cons (ps_asg (pe_tup (pa_cons (pe_call G__law_draw (hr.mono (by decide)) rfl T.g__law_draw T.k__law_draw b__law_draw .nil pass0 (pa_cons (pv 0) (pa_cons pe_int pa_nil))) (pa_cons (pe_call G__law_draw (hr.mono (by decide)) rfl T.g__law_draw T.k__law_draw b__law_draw .nil pass0 (pa_cons (pv 0) (pa_cons pe_int pa_nil))) pa_nil))) (pg_tup rfl (pgs_cons (pg_name (i := 3) sc_law_names.nd rfl (Or.inl rfl)) (pgs_cons (pg_name (i := 4) sc_law_names.nd rfl (Or.inr rfl)) pgs_nil))))
    (pss_cons (ps_if (pt_cmpR op_eq (pv 3) pe_int (nomark _)) (pss_one (ps_ret (pe_lc (own := [("_law_k", 6)]) (g := gName 6) (tt := tYes) rfl sc_law_names.nd (pi_range1 rfl T.b_range (pa_cons (pv 1) pa_nil)) (blkOk_by (N := N_law_names) (sc := defScope s_law_names) (by decide +kernel)) (fun _ _ _ _ _ => (pg_name (i := 6) sc_law_names.nd rfl (Or.inl rfl))) (fun _ _ _ _ _ => pts_nil) (fun _ _ _ _ _ => (pe_ix (ix_listK (K := K) rfl) (pv 2) (pe_op op_mod (pe_callTy call_int1 (by rfl) T.b_int (by decide +kernel) (pa_cons (pe_op op_add (pv 4) (pe_op op_mul pe_int (pv 6))) pa_nil)) pe_int) (fun _ _ => rfl)))))) pss_nil)
    (pss_cons (ps_set (i := 5) sc_law_names.nd rfl (Or.inr rfl) pe_str)
    (pss_one (ps_ret (pe_lc (own := [("_law_k", 6)]) (g := gName 6) (tt := tYes) rfl sc_law_names.nd (pi_range1 rfl T.b_range (pa_cons (pv 1) pa_nil)) (blkOk_by (N := N_law_names) (sc := defScope s_law_names) (by decide +kernel)) (fun _ _ _ _ _ => (pg_name (i := 6) sc_law_names.nd rfl (Or.inl rfl))) (fun _ _ _ _ _ => pts_nil) (fun _ _ _ _ _ => (pe_op op_add_str (pe_ix ix_str (pv 5) (pe_op op_mod (pe_callTy call_int1 (by rfl) T.b_int (by decide +kernel) (pa_cons (pe_op op_add (pv 4) (pe_op op_mul pe_int (pv 6))) pa_nil)) pe_int) (fun _ _ => rfl)) (pe_op op_rep_str pe_str (pe_op op_mod (pe_callTy call_int1 (by rfl) T.b_int (by decide +kernel) (pa_cons (pv 4) pa_nil)) pe_int))))))))))), ?_⟩
    refine ⟨(by show 12 ≤ sizeLine; decide), fun sa hsa => ?_⟩
    have s1 : (upd H sa (.lst (nameL.map V.str))) sa = some (.lst (nameL.map V.str)) := upd_same
    have sd : sa ≠ d := D.nd hsa
    have sl : sa ≠ l := D.nl hsa
    have D1 : DealAt (upd H sa (.lst (nameL.map V.str))) d l := D.same (Same.upd_new hsa)
    have kp1 : Keep d l H (upd H sa (.lst (nameL.map V.str))) := Keep.same (Same.upd_new hsa)
    refine ⟨_, rfl, d, l, 3, rfl, D1, by decide, by decide, fun r1 H2 r10 r11 D2 kp2 => ?_⟩
    refine ⟨_, rfl, d, l, 26, rfl, D2, by decide, by decide, fun r2 H3 r20 r21 D3 kp3 => ?_⟩
    refine ⟨(by show 2 ≤ sizeLine; decide), fun tp ht => ⟨tp, _, rfl, .inl (.inl upd_same), rfl, _, _, rfl, _, _, rfl, rfl, ?_⟩⟩
    have s4 : Same H3 (upd H3 tp (.tup [.int r1, .int r2])) := Same.upd_new ht
    have D4 := D3.same s4
    have kp4 : Keep d l H (upd H3 tp (.tup [.int r1, .int r2])) := ((kp1.trans kp2).trans kp3).trans (Keep.same s4)
    have h4 := s4 _ _ (kp3 _ _ (kp2 _ _ s1 sd sl) sd sl)
    generalize upd H3 tp (.tup [.int r1, .int r2]) = H4 at s4 D4 kp4 h4
    refine ⟨_, rfl, rfl, _, rfl, ?_⟩
    refine ite2 (fun _ => ?_) (fun _ => ?_)
    · refine ⟨_, rfl, n, rfl, by omega, by omega, fun DD hD => ?_⟩
      refine lc_range (lo := 0) (n := n.toNat) (fun i H' => Same H4 H' ∧ ∃ zs : List Str, H' DD = some (.lst (zs.map V.str)) ∧ zs.length = i ∧ ∀ z ∈ zs, z ∈ allNames) ⟨Same.upd_new hD, [], upd_same, rfl, fun _ h => by cases h⟩ ?_ ?_
      · rintro i H' hi ⟨t1, zs, t2, t3, t4⟩
        have e0 : 0 ≤ (r2 + 5 * (0 + (i : Int))) % 12 := Int.emod_nonneg _ (by decide)
        have e1 : (r2 + 5 * (0 + (i : Int))) % 12 < 12 := Int.emod_lt_of_pos _ (by decide)
        obtain ⟨j, hj⟩ := Int.eq_ofNat_of_zero_le e0
        have hlt : j < nameL.length := by
          show j < 12
          omega
        refine ⟨rfl, _, rfl, _, rfl, _, rfl, _, _, rfl, rfl, .inl ⟨by decide, by decide⟩, _, _, rfl, rfl, .inl ⟨_, rfl, _, _, rfl, rfl, (by show (0 : Int) < 12; decide), sa, nameL.map V.str, _, V.str nameL[j], rfl, rfl, .inl (.inl (t1 _ _ h4)), at_of hj ?_, _, t2, ?_, ?_⟩⟩
        · rw [List.getElem?_map, List.getElem?_eq_getElem hlt]
          rfl
        · rw [List.length_map, t3]
          exact small1000 (by omega)
        · refine ⟨fun b o e => ?_, zs ++ [nameL[j]], ?_, ?_, ?_⟩
          · rw [upd_ne (ne_of_none e hD)]
            exact t1 b o e
          · rw [List.map_append]
            exact upd_same
          · rw [List.length_append, t3]
            rfl
          · intro z hz
            rcases List.mem_append.mp hz with hz | hz
            · exact t4 z hz
            · rw [List.mem_singleton.mp hz]
              exact List.mem_append_left _ (List.getElem_mem hlt)
      · rintro H' ⟨t1, zs, t2, t3, t4⟩
        exact k DD zs H' (kp4.free D D4 hD) t2 t3 t4 (D4.same t1) (kp4.trans (Keep.same t1))
    · refine ⟨_, rfl, n, rfl, by omega, by omega, fun DD hD => ?_⟩
      refine lc_range (lo := 0) (n := n.toNat) (fun i H' => Same H4 H' ∧ ∃ zs : List Str, H' DD = some (.lst (zs.map V.str)) ∧ zs.length = i ∧ ∀ z ∈ zs, z ∈ allNames) ⟨Same.upd_new hD, [], upd_same, rfl, fun _ h => by cases h⟩ ?_ ?_
      · rintro i H' hi ⟨t1, zs, t2, t3, t4⟩
        have e0 : 0 ≤ (r2 + 7 * (0 + (i : Int))) % 26 := Int.emod_nonneg _ (by decide)
        have e1 : (r2 + 7 * (0 + (i : Int))) % 26 < 26 := Int.emod_lt_of_pos _ (by decide)
        obtain ⟨j, hj⟩ := Int.eq_ofNat_of_zero_le e0
        have hlt : j < letL.cps.toList.length := by
          have : letL.cps.toList.length = 26 := by decide +kernel
          omega
        have w0 : 0 ≤ r2 % 4 := Int.emod_nonneg _ (by decide)
        have w1 : r2 % 4 < 4 := Int.emod_lt_of_pos _ (by decide)
        have w2 : r2 % 4 ∈ ([0, 1, 2, 3] : List Int) := by
          have : r2 % 4 = 0 ∨ r2 % 4 = 1 ∨ r2 % 4 = 2 ∨ r2 % 4 = 3 := by omega
          rcases this with e | e | e | e <;> rw [e] <;> decide
        refine ⟨rfl, _, rfl, _, rfl, _, rfl, _, _, rfl, rfl, .inl ⟨by decide, by decide⟩, _, _, rfl, rfl, .inl ⟨_, rfl, _, _, rfl, rfl, (by show (0 : Int) < 26; decide), letL, _, letL.cps.toList[j], rfl, rfl, (by decide +kernel), (by rw [hj]; exact atI_nat (List.getElem?_eq_getElem hlt)), ?_⟩⟩
        · refine ⟨_, rfl, .inl ⟨_, rfl, _, _, rfl, rfl, (by show (0 : Int) < 4; decide), _, _, rfl, rfl, mul_ok w2, _, _, rfl, rfl, ?_, _, t2, ?_, ?_⟩⟩
          · have := mul_len w2
            have e : (⟨#[letL.cps.toList[j]]⟩ : Str).length = 1 := rfl
            rw [e]
            exact len1000 (by omega)
          · rw [List.length_map, t3]
            exact small1000 (by omega)
          · refine ⟨fun b o e => ?_, zs ++ [(⟨#[letL.cps.toList[j]]⟩ : Str) ++ Txt.mul "w" (r2 % 4)], ?_, ?_, ?_⟩
            · rw [upd_ne (ne_of_none e hD)]
              exact t1 b o e
            · rw [List.map_append]
              exact upd_same
            · rw [List.length_append, t3]
              rfl
            · intro z hz
              rcases List.mem_append.mp hz with hz | hz
              · exact t4 z hz
              · rw [List.mem_singleton.mp hz]
                exact List.mem_append_right _ (List.mem_flatMap.mpr ⟨_, List.getElem_mem hlt, List.mem_map.mpr ⟨_, w2, rfl⟩⟩)
      · rintro H' ⟨t1, zs, t2, t3, t4⟩
        exact k DD zs H' (kp4.free D D4 hD) t2 t3 t4 (D4.same t1) (kp4.trans (Keep.same t1))
end
end L2.Wk
namespace L2.Wk
open PySem PySem.Spec PyProof.Rows
abbrev s_law_formula : Stmt := top 46
abbrev N_law_formula : List Str := ["_law_deal_here", "_law_names_here", "_law_deep", "_law_form", "_law_one"]
theorem sc_law_formula : FnScope N_law_formula ["_law_deal_here", "_law_names_here", "_law_deep"] (defScope s_law_formula) := ⟨rfl, rfl, rfl, by decide +kernel, rfl, by decide +kernel, by decide +kernel⟩
abbrev s_law_worth : Stmt := top 47
abbrev N_law_worth : List Str := ["_law_one", "_law_held", "_law_here", "_law_there"]
theorem sc_law_worth : FnScope N_law_worth ["_law_one", "_law_held"] (defScope s_law_worth) := ⟨rfl, rfl, rfl, by decide +kernel, rfl, by decide +kernel, by decide +kernel⟩
abbrev s_law_sets : Stmt := top 48
abbrev N_law_sets : List Str := ["_law_names_here", "_law_found", "_law_name", "_law_some"]
theorem sc_law_sets : FnScope N_law_sets ["_law_names_here"] (defScope s_law_sets) := ⟨rfl, rfl, rfl, by decide +kernel, rfl, by decide +kernel, by decide +kernel⟩
abbrev s_law_told_names : Stmt := top 49
abbrev N_law_told_names : List Str := ["_law_one", "_law_found", "_law_part", "_law_name"]
theorem sc_law_told_names : FnScope N_law_told_names ["_law_one"] (defScope s_law_told_names) := ⟨rfl, rfl, rfl, by decide +kernel, rfl, by decide +kernel, by decide +kernel⟩
abbrev s_law_needs : Stmt := top 50
abbrev N_law_needs : List Str := ["_law_one", "_law_names_here", "_law_found", "_law_name", "_law_others", "_law_other", "_law_some"]
theorem sc_law_needs : FnScope N_law_needs ["_law_one"] (defScope s_law_needs) := ⟨rfl, rfl, rfl, by decide +kernel, rfl, by decide +kernel, by decide +kernel⟩
/-! ### a drawn shape: what stands in the heap, and as data -/
inductive Fm where
  | bit (n : Str)
  | always (b : Bool)
  | neg (f : Fm)
  | two (o : Str) (f g : Fm)
def signs : List Str := txts ["&", "|", "^"]
def FmAt (H : Hp) : V → Fm → Prop
  | v, .bit n => ∃ p, v = .ref p ∧ H p = some (.tup [.str "bit", .str n])
  | v, .always b => ∃ p, v = .ref p ∧ H p = some (.tup [.str "always", .bl b])
  | v, .neg f => ∃ p u, v = .ref p ∧ H p = some (.tup [.str "~", u]) ∧ FmAt H u f
  | v, .two o f g => ∃ p u u', v = .ref p ∧ H p = some (.tup [.str o, u, u']) ∧ o ∈ signs ∧ FmAt H u f ∧ FmAt H u' g
def Fm.deep : Fm → Nat
  | .bit _ => 0
  | .always _ => 0
  | .neg f => f.deep + 1
  | .two _ f g => max f.deep g.deep + 1
def Fm.names : Fm → List Str
  | .bit n => [n]
  | .always _ => []
  | .neg f => f.names
  | .two _ f g => f.names ++ g.names.filter fun x => !inV (.str x) (f.names.map V.str)
def Fm.worth : Fm → List Str → Bool
  | .bit n, held => inV (.str n) (held.map V.str)
  | .always b, _ => b
  | .neg f, held => !f.worth held
  | .two o f g, held => if V.str o = V.str "&" then (f.worth held && g.worth held) else if V.str o = V.str "|" then (f.worth held || g.worth held) else !decide (V.bl (f.worth held) = V.bl (g.worth held))
def sets : List Str → List (List Str) := fun zs => zs.foldl (fun found z => found ++ found.map fun some => some ++ [z]) [[]]
def Fm.needs (f : Fm) : List Str := f.names.filter fun n => (sets (f.names.filter fun x => !decide (V.str x = V.str n))).any fun s => !decide (V.bl (f.worth s) = V.bl (f.worth (s ++ [n])))
/-- tuples stay -/
def TupKeep (H H' : Hp) : Prop := ∀ p xs, H p = some (.tup xs) → H' p = some (.tup xs)
theorem Same.tups {H H' : Hp} (s : Same H H') : TupKeep H H' := fun p xs e => s p _ e
theorem DealAt.tups {d l : Addr} {H H' : Hp} (D : DealAt H d l) (k : Keep d l H H') : TupKeep H H' := fun p xs e => by
  obtain ⟨cs, b, h1, h2, _⟩ := D.ex
  exact k p _ e (ne_of e h1 (by intro z; cases z)) (ne_of e h2 (by intro z; cases z))
theorem FmAt.stay {H H' : Hp} (k : TupKeep H H') : ∀ (f : Fm) (v : V), FmAt H v f → FmAt H' v f
  | .bit _, _, ⟨p, e, h⟩ => ⟨p, e, k _ _ h⟩
  | .always _, _, ⟨p, e, h⟩ => ⟨p, e, k _ _ h⟩
  | .neg f, _, ⟨p, u, e, h, q⟩ => ⟨p, u, e, k _ _ h, FmAt.stay k f u q⟩
  | .two _ f g, _, ⟨p, u, u', e, h, o, q, q'⟩ => ⟨p, u, u', e, k _ _ h, o, FmAt.stay k f u q, FmAt.stay k g u' q'⟩
theorem no_fn {P : Program} {w : World} {K : PySem.W.Frag} {mg : Str → Option Value} {base : Heap} {CX : CXT} {k : Nat} {f : Addr} {fd : FuncData} {ps : List Str} : FnOk P w K mg base CX k f fd ps (fun _ _ _ _ => False) :=
  ⟨fun _ _ _ _ h => h.elim, fun _ _ _ _ _ _ _ _ _ _ _ _ _ h => h.elim⟩
def spFormula (n : Nat) : Sp := fun vs H Q _ => ∃ (d l nm : Addr) (zs : List Str), vs = [.ref d, .ref nm, .int (n : Int)] ∧ DealAt H d l ∧ H nm = some (.lst (zs.map V.str)) ∧ nm ≠ d ∧ nm ≠ l ∧ zs ≠ [] ∧ zs.length ≤ 1000 ∧
  ∀ (v : V) (f : Fm) (H' : Hp), FmAt H' v f → f.deep ≤ n → (∀ x ∈ f.names, x ∈ zs) → DealAt H' d l → Keep d l H H' → Q v H'
def spWorth (n : Nat) : Sp := fun vs H Q _ => ∃ (v : V) (f : Fm) (hl : Addr) (hs : List Str), vs = [v, .ref hl] ∧ FmAt H v f ∧ f.deep ≤ n ∧ H hl = some (.lst (hs.map V.str)) ∧ ∀ H', Same H H' → Q (.bl (f.worth hs)) H'
structure Ss where
  formula : Addr
  worth : Addr
  sets : Addr
  told_names : Addr
  needs : Addr
structure TxtS (K : PySem.W.Frag) (mg : Str → Option Value) (a : Ds) (b : Ss) : Prop extends TxtD K mg a where
  b_tuple : mg "tuple" = none
  g__law_formula : mg "_law_formula" = some (.ref b.formula)
  k__law_formula : PySem.W.keepIn K (.ref b.formula) = true
  g__law_worth : mg "_law_worth" = some (.ref b.worth)
  k__law_worth : PySem.W.keepIn K (.ref b.worth) = true
  g__law_sets : mg "_law_sets" = some (.ref b.sets)
  k__law_sets : PySem.W.keepIn K (.ref b.sets) = true
  g__law_told_names : mg "_law_told_names" = some (.ref b.told_names)
  k__law_told_names : PySem.W.keepIn K (.ref b.told_names) = true
  g__law_needs : mg "_law_needs" = some (.ref b.needs)
  k__law_needs : PySem.W.keepIn K (.ref b.needs) = true
section
variable {P : Program} {w : World} {K : PySem.W.Frag} {mg : Str → Option Value} {base : Heap} {a : Ds} {b : Ss} {f : Addr} {fd : FuncData}
theorem ok_formula {f1 f2 f3 : FuncData} {j n : Nat} {spS : Sp} (F : Fun K "_law_formula" "_law_formula" s_law_formula f fd) (T : TxtS K mg a b) (hj : 2 ≤ j)
    (G__law_draw : FnOk P w K mg base CX0 1 a.draw f1 ["_law_deal_here", "_law_many"] spDraw) (b__law_draw : Binds K f1 ["_law_deal_here", "_law_many"] [])
    (G__law_pick : FnOk P w K mg base CX0 2 a.pick f2 ["_law_deal_here", "_law_some"] (spPick K)) (b__law_pick : Binds K f2 ["_law_deal_here", "_law_some"] [])
    (hS : n = 0 ∨ spS = spFormula (n - 1)) (G__law_formula : FnOk P w K mg base CX0 j b.formula f3 ["_law_deal_here", "_law_names_here", "_law_deep"] spS) (b__law_formula : Binds K f3 ["_law_deal_here", "_law_names_here", "_law_deep"] []) :
    FnOk P w K mg base CX0 (j + 1) f fd ["_law_deal_here", "_law_names_here", "_law_deep"] (spFormula n) := by
  refine F.ok sc_law_formula (fun vs H Q E h => ?_) (fun cdv A outer s H vs Q E hr h => ?_)
  · obtain ⟨_, _, _, _, rfl, _⟩ := h
    rfl
  · obtain ⟨d, l, nm, zs, rfl, D, hnm, e1, e2, hne, hlen, k⟩ := h
    refine ⟨_, (pss_cons (ps_set (i := 3) sc_law_formula.nd rfl (Or.inl rfl) (pe_call G__law_draw (hr.mono (by omega)) rfl T.g__law_draw T.k__law_draw b__law_draw .nil pass0 (pa_cons (pv 0) (pa_cons pe_int pa_nil))))
    (pss_cons (ps_if (PW.pt (pw_or (pt_cmpR op_eq (pv 2) pe_int (nomark _)) (pw_or1 (pt_cmpR op_lt (pv 3) pe_int (nomark _))))) (pss_one (ps_ret (pe_ifExp (pt_cmpR op_eq (pe_call G__law_draw (hr.mono (by omega)) rfl T.g__law_draw T.k__law_draw b__law_draw .nil pass0 (pa_cons (pv 0) (pa_cons pe_int pa_nil))) pe_int (nomark _)) (pe_tup (pa_cons pe_str (pa_cons (pe_cmpR op_eq (pv 3) pe_int (nomark _)) pa_nil))) (pe_tup (pa_cons pe_str (pa_cons (pe_call G__law_pick (hr.mono (by omega)) rfl T.g__law_pick T.k__law_pick b__law_pick .nil pass0 (pa_cons (pv 0) (pa_cons (pv 1) pa_nil))) pa_nil)))))) pss_nil)
    (pss_cons (ps_set (i := 4) sc_law_formula.nd rfl (Or.inl rfl) (pe_call G__law_formula (hr.mono (by omega)) rfl T.g__law_formula T.k__law_formula b__law_formula .nil pass0 (pa_cons (pv 0) (pa_cons (pv 1) (pa_cons (pe_op op_sub (pv 2) pe_int) pa_nil)))))
    (pss_cons (ps_if (pt_cmpR op_eq (pv 3) pe_int (nomark _)) (pss_one (ps_ret (pe_tup (pa_cons pe_str (pa_cons (pv 4) pa_nil))))) pss_nil)
    (pss_one (ps_ret (pe_tup (pa_cons (pe_call G__law_pick (hr.mono (by omega)) rfl T.g__law_pick T.k__law_pick b__law_pick .nil pass0 (pa_cons (pv 0) (pa_cons (pe_lst (pa_cons pe_str (pa_cons pe_str (pa_cons pe_str (pa_cons pe_str pa_nil))))) pa_nil))) (pa_cons (pv 4) (pa_cons (pe_call G__law_formula (hr.mono (by omega)) rfl T.g__law_formula T.k__law_formula b__law_formula .nil pass0 (pa_cons (pv 0) (pa_cons (pv 1) (pa_cons (pe_op op_sub (pv 2) pe_int) pa_nil)))) pa_nil)))))))))), ?_⟩
    refine ⟨_, rfl, d, l, 9, rfl, D, by decide, by decide, fun r1 H1 r10 r11 D1 kp1 => ?_⟩
    refine ⟨_, rfl, rfl, _, rfl, ?_⟩
    have hnm1 := kp1 _ _ hnm e1 e2
    have mp : zs.map V.str ≠ [] := by
      intro e
      exact hne (List.map_eq_nil_iff.mp e)
    have leaf : (tIf (tTest (tOp rEq (tCall spDraw [] E0 (tCons (tVar 0) (tCons (tC (.int 12)) tNil))) (tC (.int 0)))) (tTup (tCons (tC (.str "always")) (tCons (tOp rEq (tVar 3) (tC (.int 1))) tNil))) (tTup (tCons (tC (.str "bit")) (tCons (tCall (spPick K) [] E0 (tCons (tVar 0) (tCons (tVar 1) tNil))) tNil)))) [some (.ref d), some (.ref nm), some (.int (n : Int)), some (.int r1), none] H1 Q := by
      refine ⟨_, rfl, d, l, 12, rfl, D1, by decide, by decide, fun r2 H2 r20 r21 D2 kp2 => ?_⟩
      refine ⟨rfl, _, rfl, ?_⟩
      refine ite2 (fun _ => ?_) (fun _ => ?_)
      · refine ⟨_, rfl, rfl, (by show 2 ≤ sizeLine; decide), fun p hp => ?_⟩
        exact k _ (.always (decide (V.int r1 = V.int 1))) _ ⟨p, rfl, upd_same⟩ (Nat.zero_le _) (fun x hx => by cases hx) (D2.same (Same.upd_new hp)) ((kp1.trans kp2).trans (Keep.same (Same.upd_new hp)))
      · refine ⟨_, rfl, _, rfl, d, l, nm, _, rfl, D2, kp2 _ _ hnm1 e1 e2, e1, e2, mp, by rw [List.length_map]; exact hlen, fun v H3 hv D3 kp3 => ⟨by show 2 ≤ sizeLine; decide, fun p hp => ?_⟩⟩
        obtain ⟨z, hz, rfl⟩ := List.mem_map.mp hv
        exact k _ (.bit z) _ ⟨p, rfl, upd_same⟩ (Nat.zero_le _) (fun x hx => by rw [List.mem_singleton.mp hx]; exact hz) (D3.same (Same.upd_new hp)) (((kp1.trans kp2).trans kp3).trans (Keep.same (Same.upd_new hp)))
    by_cases h0 : n = 0
    · subst h0
      refine iteT ?_
      exact leaf
    · have hd : decide (V.int (n : Int) = V.int 0) = false := decide_eq_false (by intro e; injection e with e; omega)
      rw [hd]
      refine iteF ?_
      refine ⟨_, rfl, _, _, rfl, rfl, _, rfl, ?_⟩
      refine ite2 (fun _ => leaf) (fun _ => ?_)
      clear leaf
      rcases hS with e | rfl
      · exact absurd e h0
      obtain ⟨m, rfl⟩ : ∃ m, n = m + 1 := ⟨n - 1, by omega⟩
      refine ⟨_, rfl, _, rfl, _, rfl, _, _, rfl, rfl, d, l, nm, zs, ?_, D1, hnm1, e1, e2, hne, hlen, fun v g H2 hv hg gn D2 kp2 => ?_⟩
      · show [V.ref d, V.ref nm, V.int (((m + 1 : Nat) : Int) - 1)] = [V.ref d, V.ref nm, V.int ((m + 1 - 1 : Nat) : Int)]
        have : ((m + 1 : Nat) : Int) - 1 = ((m + 1 - 1 : Nat) : Int) := by omega
        rw [this]
      refine ⟨_, rfl, rfl, _, rfl, ?_⟩
      refine ite2 (fun _ => ?_) (fun _ => ?_)
      · refine ⟨_, rfl, by show 2 ≤ sizeLine; decide, fun p hp => ?_⟩
        have s3 := Same.upd_new (o := .tup [.str "~", v]) hp
        exact k _ (.neg g) _ ⟨p, v, rfl, upd_same, FmAt.stay (Same.tups s3) g v hv⟩ (by show g.deep + 1 ≤ _; omega) gn (D2.same s3) ((kp1.trans kp2).trans (Keep.same s3))
      · refine ⟨_, rfl, by show 4 ≤ sizeLine; decide, fun q hq => ?_⟩
        have s3 := Same.upd_new (o := .lst [.str "&", .str "|", .str "^", .str "&"]) hq
        refine ⟨d, l, q, [.str "&", .str "|", .str "^", .str "&"], rfl, D2.same s3, upd_same, D2.nd hq, D2.nl hq, (by intro e; cases e), (by show 4 ≤ 1000; decide), fun o H4 ho D4 kp4 => ?_⟩
        obtain ⟨o, hos, rfl⟩ : ∃ z, z ∈ signs ∧ o = V.str z := by
          simp only [List.mem_cons, List.not_mem_nil, or_false] at ho
          rcases ho with rfl | rfl | rfl | rfl
          · exact ⟨_, by unfold signs txts; simp, rfl⟩
          · exact ⟨_, by unfold signs txts; simp, rfl⟩
          · exact ⟨_, by unfold signs txts; simp, rfl⟩
          · exact ⟨_, by unfold signs txts; simp, rfl⟩
        have kp : Keep d l H H4 := ((kp1.trans kp2).trans (Keep.same s3)).trans kp4
        have hv4 := FmAt.stay (DealAt.tups (D2.same s3) kp4) g v (FmAt.stay (Same.tups s3) g v hv)
        refine ⟨_, rfl, _, rfl, _, rfl, _, rfl, _, _, rfl, rfl, d, l, nm, zs, ?_, D4, kp _ _ hnm e1 e2, e1, e2, hne, hlen, fun v' g' H5 hv' hg' gn' D5 kp5 => ?_⟩
        · show [V.ref d, V.ref nm, V.int (((m + 1 : Nat) : Int) - 1)] = [V.ref d, V.ref nm, V.int ((m + 1 - 1 : Nat) : Int)]
          have : ((m + 1 : Nat) : Int) - 1 = ((m + 1 - 1 : Nat) : Int) := by omega
          rw [this]
        refine ⟨by show 3 ≤ sizeLine; decide, fun p hp => ?_⟩
        have s6 := Same.upd_new (o := .tup [.str o, v, v']) hp
        refine k _ (.two o g g') _ ⟨p, v, v', rfl, upd_same, hos, FmAt.stay (Same.tups s6) g v (FmAt.stay (D4.tups kp5) g v hv4), FmAt.stay (Same.tups s6) g' v' hv'⟩ (by show max g.deep g'.deep + 1 ≤ _; omega) ?_ (D5.same s6) ((kp.trans kp5).trans (Keep.same s6))
        intro x hx
        rcases List.mem_append.mp (show x ∈ g.names ++ g'.names.filter _ from hx) with hx | hx
        · exact gn x hx
        · exact gn' x (List.mem_filter.mp hx).1
theorem ok_worth {f1 : FuncData} {j n : Nat} {spS : Sp} (F : Fun K "_law_worth" "_law_worth" s_law_worth f fd) (T : TxtS K mg a b)
    (hS : n = 0 ∨ spS = spWorth (n - 1)) (G__law_worth : FnOk P w K mg base CX0 j b.worth f1 ["_law_one", "_law_held"] spS) (b__law_worth : Binds K f1 ["_law_one", "_law_held"] []) :
    FnOk P w K mg base CX0 (j + 1) f fd ["_law_one", "_law_held"] (spWorth n) := by
  refine F.ok sc_law_worth (fun vs H Q E h => ?_) (fun cdv A outer s H vs Q E hr h => ?_)
  · obtain ⟨_, _, _, _, rfl, _⟩ := h
    rfl
  · obtain ⟨v, g, hl, hs, rfl, hv, hn, hh, k⟩ := h
    refine ⟨_, (pss_cons (ps_if (pt_cmpR op_eq (pe_ix ix_tup (pv 0) pe_int (fun _ _ => rfl)) pe_str (nomark _)) (pss_one (ps_ret (pe_cmpR op_in_seq (pe_ix ix_tup (pv 0) pe_int (fun _ _ => rfl)) (pv 1) (by rfl)))) pss_nil)
    (pss_cons (ps_if (pt_cmpR op_eq (pe_ix ix_tup (pv 0) pe_int (fun _ _ => rfl)) pe_str (nomark _)) (pss_one (ps_ret (pe_ix ix_tup (pv 0) pe_int (fun _ _ => rfl)))) pss_nil)
    (pss_cons (ps_if (pt_cmpR op_eq (pe_ix ix_tup (pv 0) pe_int (fun _ _ => rfl)) pe_str (nomark _)) (pss_one (ps_ret (pe_not (pe_call G__law_worth (hr.mono (by omega)) rfl T.g__law_worth T.k__law_worth b__law_worth .nil pass0 (pa_cons (pe_ix ix_tup (pv 0) pe_int (fun _ _ => rfl)) (pa_cons (pv 1) pa_nil)))))) pss_nil)
    (pss_cons (ps_par (i := 2) (j := 3) rfl sc_law_worth.nd rfl rfl (by decide) rfl rfl (pa_cons (pe_call G__law_worth (hr.mono (by omega)) rfl T.g__law_worth T.k__law_worth b__law_worth .nil pass0 (pa_cons (pe_ix ix_tup (pv 0) pe_int (fun _ _ => rfl)) (pa_cons (pv 1) pa_nil))) (pa_cons (pe_call G__law_worth (hr.mono (by omega)) rfl T.g__law_worth T.k__law_worth b__law_worth .nil pass0 (pa_cons (pe_ix ix_tup (pv 0) pe_int (fun _ _ => rfl)) (pa_cons (pv 1) pa_nil))) pa_nil)) rfl)
    (pss_cons (ps_if (pt_cmpR op_eq (pe_ix ix_tup (pv 0) pe_int (fun _ _ => rfl)) pe_str (nomark _)) (pss_one (ps_ret (pe_and (pv 2) (pe_one (pv 3))))) pss_nil)
    (pss_one (ps_ret (pe_ifExp (pt_cmpR op_eq (pe_ix ix_tup (pv 0) pe_int (fun _ _ => rfl)) pe_str (nomark _)) (pe_or (pv 2) (pe_one (pv 3))) (pe_cmpR op_ne (pv 2) (pv 3) (nomark _)))))))))), ?_⟩
    cases g with
    | bit z =>
      obtain ⟨p, rfl, hp⟩ := hv
      refine ⟨_, rfl, p, _, _, _, rfl, rfl, .inl (.inl hp), atI_nat (j := 0) rfl, rfl, _, rfl, iteT ?_⟩
      exact ⟨_, rfl, p, _, _, _, rfl, rfl, .inl (.inl hp), atI_nat (j := 1) rfl, _, rfl, _, _, rfl, .inl (.inl (.inl hh)), rfl, flat_txts _, k _ (Same.refl _)⟩
    | always c =>
      obtain ⟨p, rfl, hp⟩ := hv
      refine ⟨_, rfl, p, _, _, _, rfl, rfl, .inl (.inl hp), atI_nat (j := 0) rfl, rfl, _, rfl, ?_⟩
      have e1 : decide (V.str (Str.ofString "always") = V.str (Str.ofString "bit")) = false := by decide +kernel
      rw [e1]
      refine iteF ⟨_, rfl, p, _, _, _, rfl, rfl, .inl (.inl hp), atI_nat (j := 0) rfl, rfl, _, rfl, iteT ?_⟩
      exact ⟨_, rfl, p, _, _, _, rfl, rfl, .inl (.inl hp), atI_nat (j := 1) rfl, k _ (Same.refl _)⟩
    | neg g =>
      obtain ⟨p, u, rfl, hp, hu⟩ := hv
      refine ⟨_, rfl, p, _, _, _, rfl, rfl, .inl (.inl hp), atI_nat (j := 0) rfl, rfl, _, rfl, ?_⟩
      have e1 : decide (V.str (Str.ofString "~") = V.str (Str.ofString "bit")) = false := by decide +kernel
      have e2 : decide (V.str (Str.ofString "~") = V.str (Str.ofString "always")) = false := by decide +kernel
      rw [e1]
      refine iteF ⟨_, rfl, p, _, _, _, rfl, rfl, .inl (.inl hp), atI_nat (j := 0) rfl, rfl, _, rfl, ?_⟩
      rw [e2]
      refine iteF ⟨_, rfl, p, _, _, _, rfl, rfl, .inl (.inl hp), atI_nat (j := 0) rfl, rfl, _, rfl, iteT ?_⟩
      rcases hS with rfl | rfl
      · exact absurd hn (by show ¬ g.deep + 1 ≤ 0; omega)
      refine ⟨_, rfl, p, _, _, _, rfl, rfl, .inl (.inl hp), atI_nat (j := 1) rfl, _, rfl, u, g, hl, hs, rfl, hu, (by have : g.deep + 1 ≤ n := hn; omega), hh, fun H1 s1 => ⟨_, rfl, k _ s1⟩⟩
    | two o g g' =>
      obtain ⟨p, u, u', rfl, hp, ho, hu, hu'⟩ := hv
      have nb : ∀ z ∈ signs, decide (V.str z = V.str (Str.ofString "bit")) = false ∧ decide (V.str z = V.str (Str.ofString "always")) = false ∧ decide (V.str z = V.str (Str.ofString "~")) = false := by decide +kernel
      obtain ⟨e1, e2, e3⟩ := nb o ho
      refine ⟨_, rfl, p, _, _, _, rfl, rfl, .inl (.inl hp), atI_nat (j := 0) rfl, rfl, _, rfl, ?_⟩
      rw [e1]
      refine iteF ⟨_, rfl, p, _, _, _, rfl, rfl, .inl (.inl hp), atI_nat (j := 0) rfl, rfl, _, rfl, ?_⟩
      rw [e2]
      refine iteF ⟨_, rfl, p, _, _, _, rfl, rfl, .inl (.inl hp), atI_nat (j := 0) rfl, rfl, _, rfl, ?_⟩
      rw [e3]
      refine iteF ?_
      rcases hS with rfl | rfl
      · exact absurd hn (by show ¬ max g.deep g'.deep + 1 ≤ 0; omega)
      have hn' : max g.deep g'.deep + 1 ≤ n := hn
      refine ⟨_, rfl, p, _, _, _, rfl, rfl, .inl (.inl hp), atI_nat (j := 1) rfl, _, rfl, u, g, hl, hs, rfl, hu, (by omega), hh, fun H1 s1 => ?_⟩
      have hp1 := s1 _ _ hp
      refine ⟨_, rfl, p, _, _, _, rfl, rfl, .inl (.inl hp1), atI_nat (j := 2) rfl, _, rfl, u', g', hl, hs, rfl, FmAt.stay (Same.tups s1) g' u' hu', (by omega), s1 _ _ hh, fun H2 s2 => ?_⟩
      have hp2 := s2 _ _ hp1
      have kk := k _ (s1.trans s2)
      unfold Fm.worth at kk
      refine ⟨_, _, rfl, ?_⟩
      refine ⟨_, rfl, p, _, _, _, rfl, rfl, .inl (.inl hp2), atI_nat (j := 0) rfl, rfl, _, rfl, ?_⟩
      by_cases c1 : V.str o = V.str (Str.ofString "&")
      · rw [decide_eq_true c1]
        rw [if_pos c1] at kk
        refine iteT ⟨_, rfl, _, rfl, ?_⟩
        cases ew : g.worth hs with
        | true => rw [ew] at kk; exact iteT ⟨_, rfl, by simpa using kk⟩
        | false => rw [ew] at kk; exact iteF (by simpa using kk)
      · rw [decide_eq_false c1]
        rw [if_neg c1] at kk
        refine iteF ⟨_, rfl, p, _, _, _, rfl, rfl, .inl (.inl hp2), atI_nat (j := 0) rfl, rfl, _, rfl, ?_⟩
        by_cases c2 : V.str o = V.str (Str.ofString "|")
        · rw [decide_eq_true c2]
          rw [if_pos c2] at kk
          refine iteT ⟨_, rfl, _, rfl, ?_⟩
          cases ew : g.worth hs with
          | true => rw [ew] at kk; exact iteT (by simpa using kk)
          | false => rw [ew] at kk; exact iteF ⟨_, rfl, by simpa using kk⟩
        · rw [decide_eq_false c2]
          rw [if_neg c2] at kk
          exact iteF ⟨_, rfl, _, rfl, rfl, kk⟩
end
end L2.Wk
namespace L2.Wk
open PySem PySem.Spec PyProof.Rows
/-! ### lists of lists of texts -/
def ListsAt (H : Hp) : List Addr → List (List Str) → Prop
  | [], [] => True
  | q :: qs, s :: ss => H q = some (.lst (s.map V.str)) ∧ ListsAt H qs ss
  | [], _ :: _ => False
  | _ :: _, [] => False
theorem ListsAt.len {H : Hp} : ∀ {qs : List Addr} {ss : List (List Str)}, ListsAt H qs ss → qs.length = ss.length
  | [], [], _ => rfl
  | _ :: _, _ :: _, h => congrArg Nat.succ (ListsAt.len h.2)
  | [], _ :: _, h => h.elim
  | _ :: _, [], h => h.elim
theorem ListsAt.stay {H H' : Hp} (s : Same H H') : ∀ {qs : List Addr} {ss : List (List Str)}, ListsAt H qs ss → ListsAt H' qs ss
  | [], [], _ => True.intro
  | _ :: _, _ :: _, h => ⟨s _ _ h.1, ListsAt.stay s h.2⟩
  | [], _ :: _, h => h.elim
  | _ :: _, [], h => h.elim
theorem ListsAt.app {H : Hp} : ∀ {qs rs : List Addr} {ss ts : List (List Str)}, ListsAt H qs ss → ListsAt H rs ts → ListsAt H (qs ++ rs) (ss ++ ts)
  | [], _, [], _, _, h => h
  | _ :: _, _, _ :: _, _, h, h' => ⟨h.1, ListsAt.app h.2 h'⟩
  | [], _, _ :: _, _, h, _ => h.elim
  | _ :: _, _, [], _, h, _ => h.elim
theorem ListsAt.get {H : Hp} : ∀ {qs : List Addr} {ss : List (List Str)} {i : Nat} {q : Addr}, ListsAt H qs ss → qs[i]? = some q → ∃ s, ss[i]? = some s ∧ H q = some (.lst (s.map V.str))
  | _ :: _, _ :: _, 0, _, h, e => by
    cases (Option.some.inj e)
    exact ⟨_, rfl, h.1⟩
  | _ :: _, _ :: _, i + 1, _, h, e => ListsAt.get (i := i) h.2 e
  | [], _, _, _, _, e => by cases e
  | _ :: _, [], _, _, h, _ => h.elim
def spSets : Sp := fun vs H Q _ => ∃ (nm : Addr) (zs : List Str), vs = [.ref nm] ∧ H nm = some (.lst (zs.map V.str)) ∧ zs.length ≤ 8 ∧
  ∀ (p : Addr) (qs : List Addr) (H' : Hp), H p = none → H' p = some (.lst (qs.map V.ref)) → ListsAt H' qs (sets zs) → Same H H' → Q (.ref p) H'
def spTold (n : Nat) : Sp := fun vs H Q _ => ∃ (v : V) (f : Fm), vs = [v] ∧ FmAt H v f ∧ f.deep ≤ n ∧ n ≤ 8 ∧ ∀ (p : Addr) (H' : Hp), H p = none → H' p = some (.lst (f.names.map V.str)) → Same H H' → Q (.ref p) H'
theorem Fm.names_len : ∀ f : Fm, f.names.length ≤ 2 ^ f.deep
  | .bit _ => Nat.le_refl _
  | .always _ => Nat.zero_le _
  | .neg f => by
    have := Fm.names_len f
    show f.names.length ≤ 2 ^ (f.deep + 1)
    rw [Nat.pow_succ]
    omega
  | .two o f g => by
    have h1 := Fm.names_len f
    have h2 := Fm.names_len g
    show (f.names ++ g.names.filter _).length ≤ 2 ^ (max f.deep g.deep + 1)
    rw [List.length_append, Nat.pow_succ]
    have h3 := List.length_filter_le (fun x => !inV (.str x) (f.names.map V.str)) g.names
    have h4 : 2 ^ f.deep ≤ 2 ^ max f.deep g.deep := Nat.pow_le_pow_right (by decide) (Nat.le_max_left _ _)
    have h5 : 2 ^ g.deep ≤ 2 ^ max f.deep g.deep := Nat.pow_le_pow_right (by decide) (Nat.le_max_right _ _)
    omega
theorem Fm.names_1000 {f : Fm} (h : f.deep ≤ 8) : f.names.length ≤ 1000 := by
  have h1 := f.names_len
  have h2 : 2 ^ f.deep ≤ 2 ^ 8 := Nat.pow_le_pow_right (by decide) h
  have h3 : 2 ^ 8 = 256 := rfl
  omega
theorem sets_step (zs : List Str) (z : Str) : sets (zs ++ [z]) = sets zs ++ (sets zs).map (fun s => s ++ [z]) := by
  unfold sets
  rw [List.foldl_append]
  rfl
theorem sets_len : ∀ (zs : List Str), (sets zs).length = 2 ^ zs.length := by
  refine snoc_ind ?_ ?_
  · rfl
  · intro xs x ih
    rw [sets_step, List.length_append, List.length_map, List.length_append, ih]
    show 2 ^ xs.length + 2 ^ xs.length = 2 ^ (xs.length + 1)
    rw [Nat.pow_succ]
    omega
theorem sets_in : ∀ (zs : List Str) (s : List Str), s ∈ sets zs → s.length ≤ zs.length := by
  refine snoc_ind ?_ ?_
  · intro s hs
    rw [List.mem_singleton.mp hs]
    exact Nat.le_refl _
  · intro xs x ih s hs
    rw [sets_step] at hs
    rw [List.length_append]
    rcases List.mem_append.mp hs with h | h
    · have := ih s h
      omega
    · obtain ⟨t, ht, rfl⟩ := List.mem_map.mp h
      have := ih t ht
      rw [List.length_append]
      simp only [List.length_cons, List.length_nil]
      omega
section
variable {P : Program} {w : World} {K : PySem.W.Frag} {mg : Str → Option Value} {base : Heap} {a : Ds} {b : Ss} {f : Addr} {fd : FuncData}
theorem ok_sets (F : Fun K "_law_sets" "_law_sets" s_law_sets f fd) (T : TxtS K mg a b) : FnOk P w K mg base CX0 1 f fd ["_law_names_here"] spSets := by
  refine F.ok sc_law_sets (fun vs H Q E h => ?_) (fun cdv A outer s H vs Q E hr h => ?_)
  · obtain ⟨_, _, rfl, _⟩ := h
    rfl
  · obtain ⟨nm, zs, rfl, hnm, hlen, k⟩ := h
    refine ⟨_, (pss_cons (ps_set (i := 1) sc_law_sets.nd rfl (Or.inl rfl) (pe_lst (pa_cons (pe_lst pa_nil) pa_nil)))
    (pss_cons (ps_for PassesOwn.never rfl (pi_list (pv 0)) (pg_name (i := 2) sc_law_sets.nd rfl (Or.inr rfl))
      (pss_one (ps_set (i := 1) sc_law_sets.nd rfl (Or.inl rfl) (pe_op op_cat (pv 1) (pe_lc (own := [("_law_some", 3)]) (g := gName 3) (tt := tYes) rfl sc_law_sets.nd (pi_list (pv 1)) (blkOk_by (N := N_law_sets) (sc := defScope s_law_sets) (by decide +kernel)) (fun _ _ _ _ _ => (pg_name (i := 3) sc_law_sets.nd rfl (Or.inl rfl))) (fun _ _ _ _ _ => pts_nil) (fun _ _ _ _ _ => (pe_op op_cat (pv 3) (pe_lst (pa_cons (pv 2) pa_nil)))))))))
    (pss_one (ps_ret (pv 1))))), ?_⟩
    refine ⟨by show 0 ≤ sizeLine; decide, fun p0 hp0 => ⟨by show 1 ≤ sizeLine; decide, fun f0 hf0 => ?_⟩⟩
    have sm0 : Same H (upd (upd H p0 (.lst [])) f0 (.lst [.ref p0])) := (Same.upd_new hp0).trans (Same.upd_new hf0)
    have n0 : p0 ≠ f0 := ne_of_none upd_same hf0
    refine ⟨_, rfl, nm, rfl, ⟨_, .inl (.inl (sm0 _ _ hnm))⟩, ?_⟩
    refine for_list (K := K) (a := nm) (xs := zs.map V.str) (fun i σ H' => ∃ (fa : Addr) (qs : List Addr) (v2 : Option V), σ = [some (.ref nm), some (.ref fa), v2, none] ∧ H fa = none ∧ H' fa = some (.lst (qs.map V.ref)) ∧ ListsAt H' qs (sets (zs.take i)) ∧ Same H H')
      ⟨f0, [p0], none, rfl, (Same.free (Same.upd_new hp0) hf0), upd_same, ⟨by rw [upd_ne n0]; exact upd_same, True.intro⟩, sm0⟩ (fun i σ H' _ ⟨_, _, _, _, _, _, _, s⟩ => .inl (.inl (s _ _ hnm))) ?_ ?_
    · rintro i x σ H1 hx ⟨fa, qs, v2, rfl, hfa0, hfa, hq, s1⟩
      obtain ⟨z, _, hz, rfl⟩ := get_map_str hx
      have hi : i < zs.length := (List.getElem?_eq_some_iff.mp hz).1
      have hsl := sets_len (zs.take i)
      have hql := hq.len
      have htl : (zs.take i).length ≤ 8 := by rw [List.length_take]; omega
      have hp2 : 2 ^ (zs.take i).length ≤ 256 := Nat.pow_le_pow_right (by decide) htl
      refine ⟨_, rfl, _, rfl, fa, rfl, ⟨_, .inl (.inl hfa)⟩, fun D hD => ?_⟩
      refine lc_list (K := K) (a := fa) (xs := qs.map V.ref) (fun j H2 => Same H1 H2 ∧ ∃ rs, H2 D = some (.lst (rs.map V.ref)) ∧ ListsAt H2 rs (((sets (zs.take i)).take j).map fun s => s ++ [z])) ⟨Same.upd_new hD, [], upd_same, True.intro⟩
        (fun j H2 _ h => .inl (.inl (h.1 _ _ hfa))) ?_ ?_
      · rintro j y H2 hy ⟨t1, rs, t2, t3⟩
        obtain ⟨q, hqj, rfl⟩ : ∃ q, qs[j]? = some q ∧ y = V.ref q := by
          rw [List.getElem?_map] at hy
          cases e : qs[j]? with
          | none => rw [e] at hy; cases hy
          | some q => rw [e] at hy; exact ⟨q, rfl, (Option.some.inj hy).symm⟩
        obtain ⟨s', hs', hqs⟩ := ListsAt.get hq hqj
        have hsl' := sets_in _ _ (List.mem_of_getElem? hs')
        have rl := t3.len
        rw [List.length_map, List.length_take] at rl
        refine ⟨rfl, _, rfl, _, rfl, by show 1 ≤ sizeLine; decide, fun u hu => ?_⟩
        refine ⟨_, _, _, _, rfl, rfl, Same.upd_new hu _ _ (t1 _ _ hqs), upd_same, ?_, fun u2 hu2 => ?_⟩
        · rw [List.length_map]
          exact len1000 (by show s'.length + 1 ≤ 1000; omega)
        have s3 : Same H2 (upd (upd H2 u (.lst [.str z])) u2 (.lst (s'.map V.str ++ [.str z]))) := (Same.upd_new hu).trans (Same.upd_new hu2)
        have nD : ∀ x o, H1 x = some o → x ≠ D := fun x o e => ne_of_none e hD
        refine ⟨_, s3 _ _ t2, ?_, fun x o e => ?_, rs ++ [u2], ?_, ?_⟩
        · rw [List.length_map, rl]
          exact small1000 (by omega)
        · rw [upd_ne (nD x o e)]
          exact s3 _ _ (t1 x o e)
        · rw [List.map_append]
          exact upd_same
        · have nu2 : u2 ≠ D := (ne_of_none (Same.upd_new hu _ _ t2) hu2).symm
          have keep : ∀ {qs' : List Addr} {ss' : List (List Str)}, ListsAt H2 qs' ss' → (∀ q ∈ qs', q ≠ D) → ListsAt (upd (upd (upd H2 u (.lst [.str z])) u2 (.lst (s'.map V.str ++ [.str z]))) D (.lst (rs.map V.ref ++ [.ref u2]))) qs' ss' := by
            intro qs'
            induction qs' with
            | nil => intro ss' h _; cases ss' with
              | nil => exact True.intro
              | cons _ _ => exact h.elim
            | cons q qs' ih => intro ss' h hn; cases ss' with
              | nil => exact h.elim
              | cons s0 ss' => exact ⟨by rw [upd_ne (hn q (List.mem_cons_self ..))]; exact s3 _ _ h.1, ih h.2 fun q' hq' => hn q' (List.mem_cons_of_mem _ hq')⟩
          rw [take_succ_map _ hs']
          refine ListsAt.app (keep t3 ?_) ⟨?_, True.intro⟩
          · intro q' hq'
            obtain ⟨m', hm', e'⟩ := List.mem_iff_getElem.mp hq'
            obtain ⟨s0, _, h0⟩ := ListsAt.get t3 (List.getElem?_eq_some_iff.mpr ⟨hm', e'⟩)
            intro e
            rw [e, t2] at h0
            have := Option.some.inj h0
            injection this with this
            have hl := congrArg List.length this
            cases rs with
            | nil => cases hq'
            | cons r0 rs =>
              cases s0 with
              | nil => simp at hl
              | cons c0 s0 =>
                rw [List.map_cons, List.map_cons] at this
                injection this with t _
                cases t
          · rw [upd_ne nu2, upd_same, List.map_append]
            rfl
      · rintro H2 ⟨t1, rs, t2, t3⟩
        have ef : (sets (zs.take i)).take (qs.map V.ref).length = sets (zs.take i) := by
          rw [List.length_map, hql]
          exact List.take_length
        rw [ef] at t3
        have rl := t3.len
        rw [List.length_map] at rl
        refine ⟨_, _, _, _, rfl, rfl, t1 _ _ hfa, t2, ?_, fun fb hfb => ?_⟩
        · rw [List.length_map, List.length_map, rl, hql, hsl]
          exact len1000 (by omega)
        have s3 : Same H2 (upd H2 fb (.lst (qs.map V.ref ++ rs.map V.ref))) := Same.upd_new hfb
        refine ⟨fb, qs ++ rs, _, rfl, (s1.trans t1).free hfb, ?_, ?_, (s1.trans t1).trans s3⟩
        · rw [upd_same, List.map_append]
        · have e2 : zs.take (i + 1) = zs.take i ++ [z] := by
            rw [List.take_add_one, hz]
            rfl
          rw [e2, sets_step]
          exact ListsAt.app (hq.stay (t1.trans s3)) (t3.stay s3)
    · rintro σ H1 ⟨fa, qs, v2, rfl, hfa0, hfa, hq, s1⟩
      rw [List.length_map, List.take_length] at hq
      exact ⟨_, rfl, k fa qs H1 hfa0 hfa hq s1⟩
theorem ok_told {f1 : FuncData} {j n : Nat} {spS : Sp} (F : Fun K "_law_told_names" "_law_told_names" s_law_told_names f fd) (T : TxtS K mg a b)
    (hS : n = 0 ∨ spS = spTold (n - 1)) (G__law_told_names : FnOk P w K mg base CX0 j b.told_names f1 ["_law_one"] spS) (b__law_told_names : Binds K f1 ["_law_one"] []) :
    FnOk P w K mg base CX0 (j + 1) f fd ["_law_one"] (spTold n) := by
  refine F.ok sc_law_told_names (fun vs H Q E h => ?_) (fun cdv A outer s H vs Q E hr h => ?_)
  · obtain ⟨_, _, rfl, _⟩ := h
    rfl
  · obtain ⟨v, g, rfl, hv, hn, hlen, k⟩ := h
    have loop : ∃ t, PSs (cxOf CX0 P w K mg base N_law_told_names "_law_told_names" (defScope s_law_told_names) f cdv A outer s H E).nox ((defBody s_law_told_names).drop 1) t ∧
        ∀ (H0 : Hp) (p0 : Addr) (o : Str) (ps : List (V × Fm)), Same H H0 → v = .ref p0 → ps ≠ [] → H0 p0 = some (.tup (.str o :: ps.map (·.1))) → (∀ q ∈ ps, FmAt H0 q.1 q.2 ∧ q.2.deep + 1 ≤ n) →
          ps.foldl (fun acc q => acc ++ q.2.names.filter fun x => !inV (.str x) (acc.map V.str)) [] = g.names → (∀ q ∈ ps, q.2.names.length ≤ 1000) → ps.length ≤ 2 → t { nx := fun _ H' => Q .non H', rt := Q } [some v, none, none, none] H0 := by
      refine ⟨_, (pss_cons (ps_set (i := 1) sc_law_told_names.nd rfl (Or.inr rfl) (pe_lst pa_nil))
    (pss_cons (ps_for PassesOwn.never rfl (pi_tup (pe_slice sl_tup (pv 0) (po_some pe_int) po_none)) (pg_name (i := 2) sc_law_told_names.nd rfl (Or.inl rfl))
      (pss_one (ps_expr (pe_bm PySem.F.plainAttrs_list PySem.F.slot_list_extend PySem.F.type_list_extend mt_extend (pv 1) (pa_cons (pe_lc (own := [("_law_name", 3)]) (g := gName 3) rfl sc_law_told_names.nd (pi_list (pe_call G__law_told_names (hr.mono (by omega)) rfl T.g__law_told_names T.k__law_told_names b__law_told_names .nil pass0 (pa_cons (pv 2) pa_nil))) (blkOk_by (N := N_law_told_names) (sc := defScope s_law_told_names) (by decide +kernel)) (fun _ _ _ _ _ => (pg_name (i := 3) sc_law_told_names.nd rfl (Or.inl rfl))) (fun _ _ _ _ _ => (pts_one (pt_cmpR (op_notIn_seqK (K := K) rfl) (pv 3) (pv 1) (by rfl)))) (fun _ _ _ _ _ => (pv 3))) pa_nil)))))
    (pss_one (ps_ret (pv 1))))), ?_⟩
      rintro H0 p0 o ps sH rfl hne hp hq hg hql hpl
      refine ⟨by show 0 ≤ sizeLine; decide, fun fo hfo => ?_⟩
      have s0 : Same H0 (upd H0 fo (.lst [])) := Same.upd_new hfo
      have hf1 : (upd H0 fo (.lst [])) fo = some (.lst []) := upd_same
      have hp1 := s0 _ _ hp
      generalize upd H0 fo (.lst []) = H1 at s0 hf1 hp1
      refine ⟨_, rfl, 1, rfl, p0, _, rfl, .inl (.inl hp1), ?_, fun tp ht => ?_⟩
      · intro ⟨c1, _⟩
        have := HT.sIx_nat (V.str o :: ps.map (·.1)).length 0 1
        have e : min 1 (V.str o :: ps.map (·.1)).length = 1 := by simp
        rw [e] at this
        rw [show (some (1 : Int)) = some ((1 : Nat) : Int) from rfl] at c1
        omega
      have ec : cutV (V.str o :: ps.map (·.1)) (some 1) none = ps.map (·.1) := cut_from _ 1
      rw [ec]
      have s2 : Same H1 (upd H1 tp (.tup (ps.map (·.1)))) := Same.upd_new ht
      refine ⟨tp, rfl, ⟨_, .inl (.inl upd_same)⟩, ?_⟩
      refine for_tup (K := K) (a := tp) (xs := ps.map (·.1)) (fun i σ H' => ∃ v2 : Option V, σ = [some (.ref p0), some (.ref fo), v2, none] ∧ (∀ b o, H0 b = some o → H' b = some o) ∧ H' tp = some (.tup (ps.map (·.1))) ∧
        H' fo = some (.lst (((ps.take i).foldl (fun acc q => acc ++ q.2.names.filter fun x => !inV (.str x) (acc.map V.str)) []).map V.str)) ∧ ((ps.take i).foldl (fun acc q => acc ++ q.2.names.filter fun x => !inV (.str x) (acc.map V.str)) []).length ≤ 1000 * i)
        ⟨none, rfl, fun b o e => s2 _ _ (s0 _ _ e), upd_same, s2 _ _ hf1, Nat.zero_le _⟩ (fun i σ H' _ ⟨_, _, _, h, _⟩ => .inl (.inl h)) ?_ ?_
      · rintro i x σ H2 hx ⟨v2, rfl, k2, t2, f2, ln⟩
        obtain ⟨⟨u, g1⟩, hqi, rfl⟩ : ∃ q, ps[i]? = some q ∧ x = q.1 := by
          rw [List.getElem?_map] at hx
          cases e : ps[i]? with
          | none => rw [e] at hx; cases hx
          | some q => rw [e] at hx; exact ⟨q, rfl, (Option.some.inj hx).symm⟩
        have hi : i < ps.length := (List.getElem?_eq_some_iff.mp hqi).1
        obtain ⟨q1, q2⟩ := hq _ (List.mem_of_getElem? hqi)
        have q3 := hql _ (List.mem_of_getElem? hqi)
        rcases hS with rfl | rfl
        · exact absurd q2 (by omega)
        have q2' : g1.deep + 1 ≤ n := q2
        have q3' : g1.names.length ≤ 1000 := q3
        have htp : H2 tp = some _ := t2
        generalize eacc : (ps.take i).foldl (fun acc q => acc ++ q.2.names.filter fun x => !inV (.str x) (acc.map V.str)) [] = acc at f2 ln
        refine ⟨_, rfl, .inl ⟨rfl, _, .inl (.inl f2)⟩, ?_⟩
        refine ⟨_, rfl, x, g1, rfl, FmAt.stay (fun b xs e => k2 b _ e) g1 x q1, by omega, by omega, fun p H3 hp3 hpn s3 => ?_⟩
        refine ⟨p, rfl, ⟨_, .inl (.inl hpn)⟩, fun D hD => ?_⟩
        refine lc_list (K := K) (a := p) (xs := g1.names.map V.str) (fun m H4 => Same H3 H4 ∧ H4 D = some (.lst (((g1.names.take m).filter fun x => !inV (.str x) (acc.map V.str)).map V.str))) ⟨Same.upd_new hD, upd_same⟩
          (fun m H4 _ h => .inl (.inl (h.1 _ _ hpn))) ?_ ?_
        · rintro m y H4 hy ⟨t3, t4⟩
          obtain ⟨z, _, hz, rfl⟩ := get_map_str hy
          have em : g1.names.take (m + 1) = g1.names.take m ++ [z] := by
            rw [List.take_add_one, hz]
            rfl
          refine ⟨rfl, _, rfl, _, rfl, _, _, rfl, .inl (.inl (.inl (t3 _ _ (s3 _ _ f2)))), rfl, flat_txts _, _, rfl, ?_⟩
          show if (!inV (V.str z) (acc.map V.str)) = true then _ else _
          cases ez : inV (V.str z) (acc.map V.str) with
          | true =>
            refine iteF ⟨t3, ?_⟩
            rw [em, List.filter_append]
            simp only [List.filter_cons, List.filter_nil, ez]
            simpa using t4
          | false =>
            refine iteT ⟨_, rfl, _, t4, ?_, fun x o e => ?_, ?_⟩
            · rw [List.length_map]
              refine Nat.lt_of_le_of_lt (List.length_filter_le _ _) (small1000 ?_)
              rw [List.length_take]
              omega
            · rw [upd_ne (ne_of_none e hD)]
              exact t3 x o e
            · rw [em, List.filter_append, List.map_append]
              simp only [List.filter_cons, List.filter_nil, ez]
              exact upd_same
        · rintro H4 ⟨t3, t4⟩
          rw [List.length_map, List.take_length] at t4
          have f4 := t3 _ _ (s3 _ _ f2)
          refine ⟨fo, D, _, _, rfl, rfl, f4, t4, ?_, ?_⟩
          · rw [List.length_map, List.length_map]
            have h1 := List.length_filter_le (fun x => !inV (.str x) (acc.map V.str)) g1.names
            have : sizeLine = 16777216 := sizeLine_eq
            omega
          have ef : (ps.take (i + 1)).foldl (fun acc q => acc ++ q.2.names.filter fun x => !inV (.str x) (acc.map V.str)) [] = acc ++ g1.names.filter fun x => !inV (.str x) (acc.map V.str) := by
            rw [List.take_add_one, hqi, List.foldl_append, eacc]
            rfl
          refine ⟨_, rfl, fun b o e => ?_, ?_, ?_, ?_⟩
          · rw [upd_ne (ne_of_none e hfo)]
            exact t3 _ _ (s3 _ _ (k2 b o e))
          · rw [upd_ne (ne_of htp f2 (by intro z; cases z))]
            exact t3 _ _ (s3 _ _ t2)
          · rw [ef, upd_same, List.map_append]
          · rw [ef, List.length_append]
            have h1 := List.length_filter_le (fun x => !inV (.str x) (acc.map V.str)) g1.names
            omega
      · rintro σ H2 ⟨v2, rfl, k2, t2, f2, ln⟩
        rw [List.length_map, List.take_length, hg] at f2
        exact ⟨_, rfl, k fo H2 (sH.free hfo) f2 fun b o e => k2 b o (sH b o e)⟩
    obtain ⟨tr, hrest, krest⟩ := loop
    refine ⟨_, pss_cons (ps_if (pt_cmpR op_in_seq (pe_ix ix_tup (pv 0) pe_int (fun _ _ => rfl)) (pe_tup (pa_cons pe_str (pa_cons pe_str pa_nil))) (by rfl)) (pss_one (ps_ret (pe_ifExp (pt_cmpR op_eq (pe_ix ix_tup (pv 0) pe_int (fun _ _ => rfl)) pe_str (nomark _)) (pe_lst (pa_cons (pe_ix ix_tup (pv 0) pe_int (fun _ _ => rfl)) pa_nil)) (pe_lst pa_nil)))) pss_nil) hrest, ?_⟩
    have flat2 : ([.str "bit", .str "always"] : List V).all flatV = true := rfl
    cases g with
    | bit z =>
      obtain ⟨p, rfl, hp⟩ := hv
      refine ⟨_, rfl, p, _, _, _, rfl, rfl, .inl (.inl hp), atI_nat (j := 0) rfl, by show 2 ≤ sizeLine; decide, fun tp ht => ?_⟩
      have s1 := Same.upd_new (o := .tup [.str "bit", .str "always"]) ht
      refine ⟨_, _, rfl, .inr (.inl (.inl upd_same)), rfl, rfl, _, rfl, ?_⟩
      have e1 : inV (V.str (Str.ofString "bit")) [.str "bit", .str "always"] = true := by decide +kernel
      show if inV (V.str (Str.ofString "bit")) [.str "bit", .str "always"] = true then _ else _
      rw [e1]
      refine iteT ⟨_, rfl, p, _, _, _, rfl, rfl, .inl (.inl (s1 _ _ hp)), atI_nat (j := 0) rfl, rfl, _, rfl, iteT ?_⟩
      refine ⟨_, rfl, p, _, _, _, rfl, rfl, .inl (.inl (s1 _ _ hp)), atI_nat (j := 1) rfl, by show 1 ≤ sizeLine; decide, fun q hq => ?_⟩
      exact k q _ (s1.free hq) upd_same (s1.trans (Same.upd_new hq))
    | always c =>
      obtain ⟨p, rfl, hp⟩ := hv
      refine ⟨_, rfl, p, _, _, _, rfl, rfl, .inl (.inl hp), atI_nat (j := 0) rfl, by show 2 ≤ sizeLine; decide, fun tp ht => ?_⟩
      have s1 := Same.upd_new (o := .tup [.str "bit", .str "always"]) ht
      refine ⟨_, _, rfl, .inr (.inl (.inl upd_same)), rfl, rfl, _, rfl, ?_⟩
      have e1 : inV (V.str (Str.ofString "always")) [.str "bit", .str "always"] = true := by decide +kernel
      have e2 : decide (V.str (Str.ofString "always") = V.str (Str.ofString "bit")) = false := by decide +kernel
      show if inV (V.str (Str.ofString "always")) [.str "bit", .str "always"] = true then _ else _
      rw [e1]
      refine iteT ⟨_, rfl, p, _, _, _, rfl, rfl, .inl (.inl (s1 _ _ hp)), atI_nat (j := 0) rfl, rfl, _, rfl, ?_⟩
      rw [e2]
      refine iteF ⟨by show 0 ≤ sizeLine; decide, fun q hq => ?_⟩
      exact k q _ (s1.free hq) upd_same (s1.trans (Same.upd_new hq))
    | neg g =>
      obtain ⟨p, u, rfl, hp, hu⟩ := hv
      refine ⟨_, rfl, p, _, _, _, rfl, rfl, .inl (.inl hp), atI_nat (j := 0) rfl, by show 2 ≤ sizeLine; decide, fun tp ht => ?_⟩
      have s1 := Same.upd_new (o := .tup [.str "bit", .str "always"]) ht
      refine ⟨_, _, rfl, .inr (.inl (.inl upd_same)), rfl, rfl, _, rfl, ?_⟩
      have e1 : inV (V.str (Str.ofString "~")) [.str "bit", .str "always"] = false := by decide +kernel
      show if inV (V.str (Str.ofString "~")) [.str "bit", .str "always"] = true then _ else _
      rw [e1]
      refine iteF ?_
      refine krest _ p "~" [(u, g)] s1 rfl (by simp) (s1 _ _ hp) ?_ ?_ ?_ (by show 1 ≤ 2; decide)
      · intro q hq
        rw [List.mem_singleton.mp hq]
        exact ⟨FmAt.stay (Same.tups s1) g u hu, hn⟩
      · show [] ++ g.names.filter _ = g.names
        rw [List.nil_append]
        exact List.filter_eq_self.mpr fun _ _ => rfl
      · intro q hq
        rw [List.mem_singleton.mp hq]
        exact Fm.names_1000 (f := g) (by have : g.deep + 1 ≤ n := hn; omega)
    | two o g g' =>
      obtain ⟨p, u, u', rfl, hp, ho, hu, hu'⟩ := hv
      refine ⟨_, rfl, p, _, _, _, rfl, rfl, .inl (.inl hp), atI_nat (j := 0) rfl, by show 2 ≤ sizeLine; decide, fun tp ht => ?_⟩
      have s1 := Same.upd_new (o := .tup [.str "bit", .str "always"]) ht
      refine ⟨_, _, rfl, .inr (.inl (.inl upd_same)), rfl, rfl, _, rfl, ?_⟩
      have e1 : ∀ z ∈ signs, inV (V.str z) [.str "bit", .str "always"] = false := by decide +kernel
      show if inV (V.str o) [.str "bit", .str "always"] = true then _ else _
      rw [e1 o ho]
      refine iteF ?_
      have hn' : max g.deep g'.deep + 1 ≤ n := hn
      refine krest _ p o [(u, g), (u', g')] s1 rfl (by simp) (s1 _ _ hp) ?_ ?_ ?_ (by show 2 ≤ 2; decide)
      · intro q hq
        simp only [List.mem_cons, List.not_mem_nil, or_false] at hq
        rcases hq with rfl | rfl
        · exact ⟨FmAt.stay (Same.tups s1) g u hu, by show g.deep + 1 ≤ n; omega⟩
        · exact ⟨FmAt.stay (Same.tups s1) g' u' hu', by show g'.deep + 1 ≤ n; omega⟩
      · have : g.names.filter (fun x => !inV (.str x) (([] : List Str).map V.str)) = g.names := List.filter_eq_self.mpr fun _ _ => rfl
        simp only [List.foldl_cons, List.foldl_nil, List.nil_append, this]
        rfl
      · intro q hq
        simp only [List.mem_cons, List.not_mem_nil, or_false] at hq
        rcases hq with rfl | rfl
        · exact Fm.names_1000 (f := g) (by omega)
        · exact Fm.names_1000 (f := g') (by omega)
theorem sets_mem : ∀ (zs : List Str) (s : List Str), s ∈ sets zs → ∀ x ∈ s, x ∈ zs := by
  refine snoc_ind ?_ ?_
  · intro s hs x hx
    rw [List.mem_singleton.mp hs] at hx
    cases hx
  · intro xs y ih s hs x hx
    rw [sets_step] at hs
    rcases List.mem_append.mp hs with h | h
    · exact List.mem_append_left _ (ih s h x hx)
    · obtain ⟨t, ht, rfl⟩ := List.mem_map.mp h
      rcases List.mem_append.mp hx with h' | h'
      · exact List.mem_append_left _ (ih t ht x h')
      · exact List.mem_append_right _ h'
theorem dp_lists {H : Hp} : ∀ {qs : List Addr} {ss : List (List Str)}, ListsAt H qs ss → DpAll K H (qs.map V.ref) (ss.map fun s => PyData.list (s.map PyData.str))
  | [], [], _ => .nil
  | _ :: _, s :: _, h => .cons (.lst (.inl (.inl h.1)) (dp_strs s)) (dp_lists h.2)
  | [], _ :: _, h => h.elim
  | _ :: _, [], h => h.elim
theorem shaped_lists {ss : List (List Str)} (h : ∀ s ∈ ss, ∀ z ∈ s, PyData.strOk z = true) : SeqAt.shaped (.list (ss.map fun s => PyData.list (s.map PyData.str))) = true := by
  have hh : PyData.canLayAll0 (ss.map fun s => PyData.list (s.map PyData.str)) = true ∧ PyData.depthAll (ss.map fun s => PyData.list (s.map PyData.str)) ≤ 1 := by
    induction ss with
    | nil => exact ⟨by simp [PyData.canLayAll0], by simp [PyData.depthAll]⟩
    | cons s ss ih =>
      obtain ⟨i1, i2⟩ := ih fun s' hs' => h s' (List.mem_cons_of_mem _ hs')
      obtain ⟨j1, j2⟩ := lay_strs (h s (List.mem_cons_self ..))
      rw [List.map_cons]
      refine ⟨by simp [PyData.canLayAll0, PyData.canLay0, i1, j1], ?_⟩
      simp only [PyData.depthAll, PyData.depth, j2]
      omega
  unfold SeqAt.shaped
  rw [Bool.and_eq_true]
  refine ⟨by simp only [PyData.canLay0, hh.1], decide_eq_true ?_⟩
  simp only [PyData.depth]
  omega
def Fm.need (f : Fm) (n : Str) : Bool := (sets (f.names.filter fun x => !decide (V.str x = V.str n))).any fun s => !decide (V.bl (f.worth s) = V.bl (f.worth (s ++ [n])))
theorem Fm.needs_eq (f : Fm) : f.needs = f.names.filter f.need := rfl
def spNeeds : Sp := fun vs H Q _ => ∃ (v : V) (f : Fm), vs = [v] ∧ FmAt H v f ∧ f.deep ≤ 3 ∧ (∀ x ∈ f.names, PyData.strOk x = true) ∧ ∀ (p : Addr) (H' : Hp), H p = none → H' p = some (.lst (f.needs.map V.str)) → Same H H' → Q (.ref p) H'
theorem ok_needs {f1 f2 f3 : FuncData} {j : Nat} (F : Fun K "_law_needs" "_law_needs" s_law_needs f fd) (T : TxtS K mg a b) (hj : 1 ≤ j)
    (G__law_told_names : FnOk P w K mg base CX0 j b.told_names f1 ["_law_one"] (spTold 3)) (b__law_told_names : Binds K f1 ["_law_one"] [])
    (G__law_worth : FnOk P w K mg base CX0 j b.worth f2 ["_law_one", "_law_held"] (spWorth 3)) (b__law_worth : Binds K f2 ["_law_one", "_law_held"] [])
    (G__law_sets : FnOk P w K mg base CX0 1 b.sets f3 ["_law_names_here"] spSets) (b__law_sets : Binds K f3 ["_law_names_here"] []) :
    FnOk P w K mg base CX0 (j + 1) f fd ["_law_one"] spNeeds := by
  refine F.ok sc_law_needs (fun vs H Q E h => ?_) (fun cdv A outer s H vs Q E hr h => ?_)
  · obtain ⟨_, _, rfl, _⟩ := h
    rfl
  · obtain ⟨v, g, rfl, hv, hn, hok, k⟩ := h
    refine ⟨_, (pss_cons (ps_par (i := 1) (j := 2) rfl sc_law_needs.nd rfl rfl (by decide) rfl rfl (pa_cons (pe_call G__law_told_names (hr.mono (by omega)) rfl T.g__law_told_names T.k__law_told_names b__law_told_names .nil pass0 (pa_cons (pv 0) pa_nil)) (pa_cons (pe_lst pa_nil) pa_nil)) rfl)
    (pss_cons (ps_for PassesOwn.never rfl (pi_list (pv 1)) (pg_name (i := 3) sc_law_needs.nd rfl (Or.inr rfl))
      (pss_cons (ps_setLc (i := 4) (own := [("_law_other", 5)]) (g := gName 5) rfl sc_law_needs.nd rfl rfl (sw_true rfl rfl rfl (by decide +kernel)) (pi_list (pv 1)) (blkOk_by (N := N_law_needs) (sc := defScope s_law_needs) (by decide +kernel)) (fun _ _ _ _ _ => (pg_name (i := 5) sc_law_needs.nd rfl (Or.inl rfl))) (fun _ _ _ _ _ => (pts_one (pt_cmpR op_ne (pv 5) (pv 3) (nomark _)))) (fun _ _ _ _ _ => (pv 5)))
      (pss_one (ps_if (pt_cmpR (op_neD hr.units) (pe_lc (own := [("_law_some", 6)]) (g := gName 6) rfl sc_law_needs.nd (pi_list (pe_call G__law_sets (hr.mono (by omega)) rfl T.g__law_sets T.k__law_sets b__law_sets .nil pass0 (pa_cons (pv 4) pa_nil))) (blkOk_by (N := N_law_needs) (sc := defScope s_law_needs) (by decide +kernel)) (fun _ _ _ _ _ => (pg_name (i := 6) sc_law_needs.nd rfl (Or.inl rfl))) (fun _ _ _ _ _ => (pts_one (pt_cmpR op_ne (pe_call G__law_worth (hr.mono (by omega)) rfl T.g__law_worth T.k__law_worth b__law_worth .nil pass0 (pa_cons (pv 0) (pa_cons (pv 6) pa_nil))) (pe_call G__law_worth (hr.mono (by omega)) rfl T.g__law_worth T.k__law_worth b__law_worth .nil pass0 (pa_cons (pv 0) (pa_cons (pe_op op_cat (pv 6) (pe_lst (pa_cons (pv 3) pa_nil))) pa_nil))) (nomark _)))) (fun _ _ _ _ _ => (pv 6))) (pe_lst pa_nil) (nomark _)) (pss_one (ps_expr (pe_bm PySem.F.plainAttrs_list PySem.F.slot_list_append PySem.F.type_list_append mt_append (pv 2) (pa_cons (pv 3) pa_nil)))) pss_nil))))
    (pss_one (ps_ret (pv 2))))), ?_⟩
    have hl8 : g.names.length ≤ 8 := by
      have h1 := g.names_len
      have h2 : 2 ^ g.deep ≤ 2 ^ 3 := Nat.pow_le_pow_right (by decide) hn
      omega
    refine ⟨_, rfl, v, g, rfl, hv, hn, by decide, fun p H1 hp hpn s1 => ⟨by show 0 ≤ sizeLine; decide, fun fo hfo => ⟨_, _, rfl, ?_⟩⟩⟩
    have s2 : Same H1 (upd H1 fo (.lst [])) := Same.upd_new hfo
    refine ⟨_, rfl, p, rfl, ⟨_, .inl (.inl (s2 _ _ hpn))⟩, ?_⟩
    refine for_list (K := K) (a := p) (xs := g.names.map V.str) (fun i σ H' => ∃ v3 v4 : Option V, σ = [some v, some (.ref p), some (.ref fo), v3, v4, none, none] ∧ Same H1 H' ∧ H' fo = some (.lst (((g.names.take i).filter g.need).map V.str)))
      ⟨none, none, rfl, s2, upd_same⟩ (fun i σ H' _ ⟨_, _, _, h, _⟩ => .inl (.inl (h _ _ hpn))) ?_ ?_
    · rintro i x σ H2 hx ⟨v3, v4, rfl, k2, f2⟩
      obtain ⟨z, hzm, hz, rfl⟩ := get_map_str hx
      refine ⟨_, rfl, p, rfl, ⟨_, .inl (.inl (k2 _ _ hpn))⟩, fun D hD => ?_⟩
      refine lc_list (K := K) (a := p) (xs := g.names.map V.str) (fun m H3 => Same H2 H3 ∧ H3 D = some (.lst (((g.names.take m).filter fun x => !decide (V.str x = V.str z)).map V.str))) ⟨Same.upd_new hD, upd_same⟩
        (fun m H3 _ h => .inl (.inl (h.1 _ _ (k2 _ _ hpn)))) ?_ ?_
      · rintro m y H3 hy ⟨t1, t2⟩
        obtain ⟨c, _, hc, rfl⟩ := get_map_str hy
        have em : g.names.take (m + 1) = g.names.take m ++ [c] := by
          rw [List.take_add_one, hc]
          rfl
        refine ⟨rfl, _, rfl, _, rfl, rfl, _, rfl, ?_⟩
        cases ec : (!decide (V.str c = V.str z)) with
        | false =>
          refine iteF ⟨t1, ?_⟩
          rw [em, List.filter_append]
          simp only [List.filter_cons, List.filter_nil, ec]
          simpa using t2
        | true =>
          refine iteT ⟨_, rfl, _, t2, ?_, fun x o e => ?_, ?_⟩
          · rw [List.length_map]
            refine Nat.lt_of_le_of_lt (List.length_filter_le _ _) (small1000 ?_)
            rw [List.length_take]
            omega
          · rw [upd_ne (ne_of_none e hD)]
            exact t1 x o e
          · rw [em, List.filter_append, List.map_append]
            simp only [List.filter_cons, List.filter_nil, ec]
            exact upd_same
      · rintro H3 ⟨t1, t2⟩
        rw [List.length_map, List.take_length] at t2
        generalize eo : (g.names.filter fun x => !decide (V.str x = V.str z)) = others at t2
        have ho8 : others.length ≤ 8 := by
          rw [← eo]
          exact Nat.le_trans (List.length_filter_le _ _) hl8
        have hom : ∀ x ∈ others, x ∈ g.names := fun x hx => by
          rw [← eo] at hx
          exact (List.mem_filter.mp hx).1
        refine ⟨_, rfl, D, others, rfl, t2, ho8, fun ps qs H4 hps hpsn hL s4 => ?_⟩
        refine ⟨ps, rfl, ⟨_, .inl (.inl hpsn)⟩, fun E hE => ?_⟩
        have k4 : Same H H4 := ((s1.trans k2).trans t1).trans s4
        refine lc_list (K := K) (a := ps) (xs := qs.map V.ref) (fun m H5 => Same H4 H5 ∧ ∃ rs, H5 E = some (.lst (rs.map V.ref)) ∧ ListsAt H4 rs (((sets others).take m).filter fun s => !decide (V.bl (g.worth s) = V.bl (g.worth (s ++ [z])))) ∧ rs.length ≤ m)
          ⟨Same.upd_new hE, [], upd_same, True.intro, Nat.le_refl _⟩ (fun m H5 _ h => .inl (.inl (h.1 _ _ hpsn))) ?_ ?_
        · rintro m y H5 hy ⟨t3, rs, t4, t5, t6⟩
          obtain ⟨q, hq, rfl⟩ := get_map_ref hy
          obtain ⟨s', hs', hqs⟩ := ListsAt.get hL hq
          have hsl := sets_in _ _ (List.mem_of_getElem? hs')
          have em : (sets others).take (m + 1) = (sets others).take m ++ [s'] := by
            rw [List.take_add_one, hs']
            rfl
          have hq5 := t3 _ _ hqs
          refine ⟨rfl, _, rfl, _, rfl, v, g, q, s', rfl, FmAt.stay (Same.tups (k4.trans t3)) g v hv, hn, hq5, fun H6 s6 => ?_⟩
          refine ⟨_, rfl, _, rfl, _, rfl, by show 1 ≤ sizeLine; decide, fun u hu => ⟨_, _, _, _, rfl, rfl, Same.upd_new hu _ _ (s6 _ _ hq5), upd_same, ?_, fun u2 hu2 => ?_⟩⟩
          · rw [List.length_map]
            exact len1000 (by show s'.length + 1 ≤ 1000; omega)
          have s7 := (s6.trans (Same.upd_new (o := .lst [.str z]) hu)).trans (Same.upd_new (o := .lst (s'.map V.str ++ [.str z])) hu2)
          refine ⟨v, g, u2, s' ++ [z], rfl, FmAt.stay (Same.tups ((k4.trans t3).trans s7)) g v hv, hn, by rw [upd_same, List.map_append]; rfl, fun H8 s8 => ⟨rfl, _, rfl, ?_⟩⟩
          replace s7 := s7.trans s8
          have hml : m < qs.length := (List.getElem?_eq_some_iff.mp hq).1
          have hql := hL.len
          have hs2 := sets_len others
          have hp2 : 2 ^ others.length ≤ 256 := Nat.pow_le_pow_right (by decide) ho8
          cases ec : (!decide (V.bl (g.worth s') = V.bl (g.worth (s' ++ [z])))) with
          | false =>
            refine iteF ⟨t3.trans s7, rs, s7 _ _ t4, ?_, by omega⟩
            rw [em, List.filter_append]
            simp only [List.filter_cons, List.filter_nil, ec]
            simpa using t5
          | true =>
            refine iteT ⟨_, rfl, _, s7 _ _ t4, ?_, fun x o e => ?_, rs ++ [q], ?_, ?_, ?_⟩
            · rw [List.length_map]
              exact small1000 (by omega)
            · rw [upd_ne (ne_of_none e hE)]
              exact s7 _ _ (t3 x o e)
            · rw [List.map_append]
              exact upd_same
            · rw [em, List.filter_append]
              simp only [List.filter_cons, List.filter_nil, ec]
              exact ListsAt.app t5 ⟨hqs, True.intro⟩
            · rw [List.length_append]
              show rs.length + 1 ≤ m + 1
              omega
        · rintro H5 ⟨t3, rs, t4, t5, t6⟩
          rw [List.length_map, hL.len, List.take_length] at t5
          refine ⟨by show 0 ≤ sizeLine; decide, fun w0 hw0 => ?_⟩
          have s6 := Same.upd_new (o := .lst []) hw0
          refine ne_nil (.inl (.inl (s6 _ _ t4))) (dp_lists (t5.stay (t3.trans s6))) (shaped_lists fun s hs x hx => hok x (hom x (sets_mem _ s (List.mem_filter.mp hs).1 x hx))) upd_same ⟨_, rfl, ?_⟩
          have eb : (!(rs.map V.ref).isEmpty) = g.need z := by
            have e1 := t5.len
            have e2 : g.need z = (sets others).any fun s => !decide (V.bl (g.worth s) = V.bl (g.worth (s ++ [z]))) := by
              unfold Fm.need
              rw [eo]
            rw [e2]
            generalize (fun s : List Str => !decide (V.bl (g.worth s) = V.bl (g.worth (s ++ [z])))) = pr at e1
            cases rs with
            | nil =>
              have : ((sets others).filter pr) = [] := List.eq_nil_of_length_eq_zero e1.symm
              have h3 : (sets others).any pr = false := by
                rw [List.any_eq_false]
                intro s hs
                exact (List.filter_eq_nil_iff.mp this) s hs
              rw [h3]
              rfl
            | cons r rs =>
              have h3 : (sets others).any pr = true := by
                cases hf : (sets others).filter pr with
                | nil => rw [hf] at e1; cases e1
                | cons s0 ss =>
                  have : s0 ∈ (sets others).filter pr := by rw [hf]; exact List.mem_cons_self ..
                  rw [List.any_eq_true]
                  exact ⟨s0, (List.mem_filter.mp this).1, (List.mem_filter.mp this).2⟩
              rw [h3]
              rfl
          have em : g.names.take (i + 1) = g.names.take i ++ [z] := by
            rw [List.take_add_one, hz]
            rfl
          have k6 : Same H2 _ := ((t1.trans s4).trans t3).trans s6
          have f6 := k6 _ _ f2
          rw [eb]
          cases ec : g.need z with
          | false =>
            refine iteF ⟨_, _, rfl, k2.trans k6, ?_⟩
            rw [em, List.filter_append]
            simp only [List.filter_cons, List.filter_nil, ec]
            simpa using f6
          | true =>
            refine iteT ⟨_, rfl, .inl ⟨rfl, _, .inl (.inl f6)⟩, _, rfl, fo, _, _, rfl, rfl, f6, ?_, _, _, rfl, fun x o e => ?_, ?_⟩
            · rw [List.length_map]
              refine Nat.lt_of_le_of_lt (List.length_filter_le _ _) (small1000 ?_)
              rw [List.length_take]
              omega
            · rw [upd_ne (ne_of_none e hfo)]
              exact k6 _ _ (k2 x o e)
            · rw [em, List.filter_append, List.map_append]
              simp only [List.filter_cons, List.filter_nil, ec]
              exact upd_same
    · rintro σ H2 ⟨v3, v4, rfl, k2, f2⟩
      rw [List.length_map, List.take_length, ← Fm.needs_eq] at f2
      exact ⟨_, rfl, k fo H2 (s1.free hfo) f2 (s1.trans k2)⟩
end
end L2.Wk
namespace L2.Wk
open PySem PySem.Spec PyProof.Rows
abbrev s_law_block : Stmt := top 51
abbrev N_law_block : List Str := ["_law_deal_here", "_law_most", "_law_areas", "_law_signals", "_law_names_here", "_law_places_here", "_law_cells", "_law_edge", "_law_fences_here", "_law_name", "_law_kept", "_law_started", "_law_shape", "_law_fenced", "_law_cell"]
theorem sc_law_block : FnScope N_law_block ["_law_deal_here", "_law_most", "_law_areas", "_law_signals"] (defScope s_law_block) := ⟨rfl, rfl, rfl, by decide +kernel, rfl, by decide +kernel, by decide +kernel⟩
abbrev s_law_places : Stmt := top 52
abbrev N_law_places : List Str := ["_law_block_here", "_law_cell"]
theorem sc_law_places : FnScope N_law_places ["_law_block_here"] (defScope s_law_places) := ⟨rfl, rfl, rfl, by decide +kernel, rfl, by decide +kernel, by decide +kernel⟩
abbrev s_law_fences : Stmt := top 53
abbrev N_law_fences : List Str := ["_law_block_here", "_law_edge"]
theorem sc_law_fences : FnScope N_law_fences ["_law_block_here"] (defScope s_law_fences) := ⟨rfl, rfl, rfl, by decide +kernel, rfl, by decide +kernel, by decide +kernel⟩
/-! ### a drawn block: what stands in the heap, and as data -/
structure Cell where
  name : Str
  area : Str
  kept : Bool
  keeper : Bool
  start : Bool
structure Edge where
  name : Str
  f : Fm
  fence : Option Str
structure Blk where
  cells : List Cell
  edges : List Edge
def fenceV : Option Str → V
  | none => .non
  | some z => .str z
def CellAt (H : Hp) (v : V) (c : Cell) : Prop := ∃ p, v = .ref p ∧ H p = some (.tup [.str c.name, .str c.area, .bl c.kept, .bl c.keeper, .bl c.start])
def EdgeAt (H : Hp) (v : V) (e : Edge) : Prop := ∃ p q u, v = .ref p ∧ H p = some (.tup [.str e.name, u, fenceV e.fence, .ref q]) ∧ FmAt H u e.f ∧ H q = some (.tup (e.f.needs.map V.str))
def BlkAt (H : Hp) (v : V) (B : Blk) : Prop := ∃ p pc pe vc ve, v = .ref p ∧ H p = some (.tup [.ref pc, .ref pe]) ∧ H pc = some (.tup vc) ∧ H pe = some (.tup ve) ∧ AllAt (CellAt H) vc B.cells ∧ AllAt (EdgeAt H) ve B.edges
theorem CellAt.stay {H H' : Hp} (k : TupKeep H H') (v : V) (c : Cell) : CellAt H v c → CellAt H' v c := fun ⟨p, e, h⟩ => ⟨p, e, k _ _ h⟩
theorem EdgeAt.stay {H H' : Hp} (k : TupKeep H H') (v : V) (c : Edge) : EdgeAt H v c → EdgeAt H' v c := fun ⟨p, q, u, e, h, f, n⟩ => ⟨p, q, u, e, k _ _ h, FmAt.stay k _ _ f, k _ _ n⟩
theorem BlkAt.stay {H H' : Hp} (k : TupKeep H H') {v : V} {B : Blk} : BlkAt H v B → BlkAt H' v B := fun ⟨p, pc, pe, vc, ve, e, h, h1, h2, a, b⟩ => ⟨p, pc, pe, vc, ve, e, k _ _ h, k _ _ h1, k _ _ h2, a.imp (CellAt.stay k), b.imp (EdgeAt.stay k)⟩
structure BlkGood (B : Blk) (most signals : Nat) : Prop where
  cpos : B.cells ≠ []
  clen : B.cells.length ≤ most
  elen : B.edges.length ≤ signals
  cname : ∀ c ∈ B.cells, c.name ∈ allNames ∧ c.area ∈ allNames ∧ (c.keeper = true → c.kept = true)
  ename : ∀ e ∈ B.edges, e.name ∈ allNames ∧ (∀ z, e.fence = some z → z ∈ allNames) ∧ e.f.deep ≤ 2 ∧ ∀ x ∈ e.f.names, ∃ c ∈ B.cells, c.name = x
def spBlock : Sp := fun vs H Q _ => ∃ (d l : Addr) (most areas signals : Nat), vs = [.ref d, .int (most : Int), .int (areas : Int), .int (signals : Int)] ∧ DealAt H d l ∧ 1 ≤ most ∧ most ≤ 10 ∧ 1 ≤ areas ∧ areas ≤ 6 ∧ signals ≤ 10 ∧
  ∀ (v : V) (B : Blk) (H' : Hp), BlkAt H' v B → BlkGood B most signals → DealAt H' d l → Keep d l H H' → Q v H'
def spPlaces : Sp := fun vs H Q _ => ∃ (v : V) (B : Blk), vs = [v] ∧ BlkAt H v B ∧ B.cells.length ≤ 60 ∧
  ∀ (p : Addr) (ys : List Str) (H' : Hp), H p = none → H' p = some (.lst (ys.map V.str)) → (∀ k, k ∈ ys ↔ ∃ c ∈ B.cells, c.area = k) → sortedS ys = true → ys.Nodup → ys.length ≤ B.cells.length → Same H H' → Q (.ref p) H'
def spFences : Sp := fun vs H Q _ => ∃ (v : V) (B : Blk), vs = [v] ∧ BlkAt H v B ∧ B.edges.length ≤ 60 ∧
  ∀ (p : Addr) (ys : List Str) (H' : Hp), H p = none → H' p = some (.lst (ys.map V.str)) → (∀ k, k ∈ ys ↔ ∃ e ∈ B.edges, e.fence = some k) → sortedS ys = true → ys.Nodup → ys.length ≤ B.edges.length → Same H H' → Q (.ref p) H'
structure Bs where
  block : Addr
  places : Addr
  fences : Addr
structure TxtB (K : PySem.W.Frag) (mg : Str → Option Value) (a : Ds) (b : Ss) (c : Bs) : Prop extends TxtS K mg a b where
  b_set : mg "set" = none
  b_sorted : mg "sorted" = none
  b_str : mg "str" = none
  g__law_block : mg "_law_block" = some (.ref c.block)
  k__law_block : PySem.W.keepIn K (.ref c.block) = true
  g__law_places : mg "_law_places" = some (.ref c.places)
  k__law_places : PySem.W.keepIn K (.ref c.places) = true
  g__law_fences : mg "_law_fences" = some (.ref c.fences)
  k__law_fences : PySem.W.keepIn K (.ref c.fences) = true
section
variable {P : Program} {w : World} {K : PySem.W.Frag} {mg : Str → Option Value} {base : Heap} {a : Ds} {b : Ss} {c : Bs} {f : Addr} {fd : FuncData}
theorem ok_places (F : Fun K "_law_places" "_law_places" s_law_places f fd) (T : TxtB K mg a b c) : FnOk P w K mg base CX0 1 f fd ["_law_block_here"] spPlaces := by
  refine F.ok sc_law_places (fun vs H Q E h => ?_) (fun cdv A outer s H vs Q E hr h => ?_)
  · obtain ⟨_, _, rfl, _⟩ := h
    rfl
  · obtain ⟨v, B, rfl, ⟨p, pc, pe, vc, ve, rfl, h1, h2, h3, hc, he⟩, hlen, k⟩ := h
    refine ⟨_, (pss_one (ps_ret (pe_callB (cr_sortT rfl) (by rfl) T.b_sorted (by decide +kernel) (pa_cons (pe_callTy (cr_setL rfl) (by rfl) T.b_set (by decide +kernel) (pa_cons (pe_lc (own := [("_law_cell", 1)]) (g := gName 1) (tt := tYes) rfl sc_law_places.nd (pi_tup (pe_ix ix_tup (pv 0) pe_int (fun _ _ => rfl))) (blkOk_by (N := N_law_places) (sc := defScope s_law_places) (by decide +kernel)) (fun _ _ _ _ _ => (pg_name (i := 1) sc_law_places.nd rfl (Or.inl rfl))) (fun _ _ _ _ _ => pts_nil) (fun _ _ _ _ _ => (pe_callTy SkE.call_str_str (by rfl) T.b_str (by decide +kernel) (pa_cons (pe_ix (ix_tupK (K := K) rfl) (pv 1) pe_int (fun _ _ => rfl)) pa_nil)))) pa_nil)) pa_nil)))), ?_⟩
    refine ⟨_, rfl, p, _, _, _, rfl, rfl, .inl (.inl h1), atI_nat (j := 0) rfl, pc, rfl, ⟨_, .inl (.inl h2)⟩, fun D hD => ?_⟩
    have hvl := hc.len
    refine lc_tup (K := K) (a := pc) (xs := vc) (fun i H' => Same H H' ∧ H' D = some (.lst (((B.cells.take i).map Cell.area).map V.str))) ⟨Same.upd_new hD, upd_same⟩ (fun i H' _ h => .inl (.inl (h.1 _ _ h2))) ?_ ?_
    · rintro i x H' hx ⟨t1, t2⟩
      obtain ⟨ce, hce, q, rfl, hq⟩ := hc.get hx
      refine ⟨rfl, _, rfl, q, _, _, _, rfl, rfl, .inl (.inl (t1 _ _ hq)), atI_nat (j := 1) rfl, _, rfl, _, t2, ?_, fun b o e => ?_, ?_⟩
      · rw [List.length_map, List.length_map, List.length_take]
        exact small1000 (by omega)
      · rw [upd_ne (ne_of_none e hD)]
        exact t1 b o e
      · rw [take_succ_map _ hce, List.map_append]
        exact upd_same
    · rintro H1 ⟨t1, t2⟩
      rw [hvl, List.take_length] at t2
      refine ⟨D, _, rfl, .inl (.inl t2), by rw [List.length_map]; omega, fun st n hn hst => ?_⟩
      rw [List.length_map] at hn
      refine ⟨st, _, n, rfl, upd_same, by omega, fun ys q hs hnd hm hl hq => ?_⟩
      have s3 := (t1.trans (Same.upd_new (o := SetT w st (fun k => decide (k ∈ B.cells.map Cell.area)) n) hst)).trans (Same.upd_new (o := .lst (ys.map V.str)) hq)
      refine k q ys _ ((t1.trans (Same.upd_new hst)).free hq) upd_same (fun z => ?_) hs hnd (by omega) s3
      rw [hm z, decide_eq_true_eq, List.mem_map]
theorem ok_fences (F : Fun K "_law_fences" "_law_fences" s_law_fences f fd) (T : TxtB K mg a b c) : FnOk P w K mg base CX0 1 f fd ["_law_block_here"] spFences := by
  refine F.ok sc_law_fences (fun vs H Q E h => ?_) (fun cdv A outer s H vs Q E hr h => ?_)
  · obtain ⟨_, _, rfl, _⟩ := h
    rfl
  · obtain ⟨v, B, rfl, ⟨p, pc, pe, vc, ve, rfl, h1, h2, h3, hc, he⟩, hlen, k⟩ := h
    refine ⟨_, (pss_one (ps_ret (pe_callB (cr_sortT rfl) (by rfl) T.b_sorted (by decide +kernel) (pa_cons (pe_callTy (cr_setL rfl) (by rfl) T.b_set (by decide +kernel) (pa_cons (pe_lc (own := [("_law_edge", 1)]) (g := gName 1) rfl sc_law_fences.nd (pi_tup (pe_ix ix_tup (pv 0) pe_int (fun _ _ => rfl))) (blkOk_by (N := N_law_fences) (sc := defScope s_law_fences) (by decide +kernel)) (fun _ _ _ _ _ => (pg_name (i := 1) sc_law_fences.nd rfl (Or.inl rfl))) (fun _ _ _ _ _ => (pts_one (pt_cmpR op_notN (pe_ix (ix_tupK (K := K) rfl) (pv 1) pe_int (fun _ _ => rfl)) pe_non (nomark _)))) (fun _ _ _ _ _ => (pe_callTy SkE.call_str_str (by rfl) T.b_str (by decide +kernel) (pa_cons (pe_ix (ix_tupK (K := K) rfl) (pv 1) pe_int (fun _ _ => rfl)) pa_nil)))) pa_nil)) pa_nil)))), ?_⟩
    refine ⟨_, rfl, p, _, _, _, rfl, rfl, .inl (.inl h1), atI_nat (j := 1) rfl, pe, rfl, ⟨_, .inl (.inl h3)⟩, fun D hD => ?_⟩
    have hvl := he.len
    refine lc_tup (K := K) (a := pe) (xs := ve) (fun i H' => Same H H' ∧ H' D = some (.lst (((B.edges.take i).filterMap Edge.fence).map V.str))) ⟨Same.upd_new hD, upd_same⟩ (fun i H' _ h => .inl (.inl (h.1 _ _ h3))) ?_ ?_
    · rintro i x H' hx ⟨t1, t2⟩
      obtain ⟨ed, hed, q, q2, u, rfl, hq, _, _⟩ := he.get hx
      have em : B.edges.take (i + 1) = B.edges.take i ++ [ed] := by
        rw [List.take_add_one, hed]
        rfl
      refine ⟨rfl, _, rfl, q, _, _, _, rfl, rfl, .inl (.inl (t1 _ _ hq)), atI_nat (j := 2) rfl, rfl, _, rfl, ?_⟩
      cases ef : ed.fence with
      | none =>
        refine iteF ⟨t1, ?_⟩
        rw [em, List.filterMap_append]
        simp only [List.filterMap_cons, List.filterMap_nil, ef, List.append_nil]
        exact t2
      | some z =>
        refine iteT ⟨_, rfl, q, _, _, _, rfl, rfl, .inl (.inl (t1 _ _ hq)), atI_nat (j := 2) rfl, z, by rw [ef]; rfl, _, t2, ?_, fun b o e => ?_, ?_⟩
        · rw [List.length_map]
          refine Nat.lt_of_le_of_lt (List.length_filterMap_le _ _) (small1000 ?_)
          rw [List.length_take]
          omega
        · rw [upd_ne (ne_of_none e hD)]
          exact t1 b o e
        · rw [em, List.filterMap_append, List.map_append]
          simp only [List.filterMap_cons, List.filterMap_nil, ef]
          exact upd_same
    · rintro H1 ⟨t1, t2⟩
      rw [hvl, List.take_length] at t2
      have hfl := List.length_filterMap_le Edge.fence B.edges
      refine ⟨D, _, rfl, .inl (.inl t2), by omega, fun st n hn hst => ?_⟩
      refine ⟨st, _, n, rfl, upd_same, by omega, fun ys q hs hnd hm hl hq => ?_⟩
      have s3 := (t1.trans (Same.upd_new (o := SetT w st (fun k => decide (k ∈ B.edges.filterMap Edge.fence)) n) hst)).trans (Same.upd_new (o := .lst (ys.map V.str)) hq)
      refine k q ys _ ((t1.trans (Same.upd_new hst)).free hq) upd_same (fun z => ?_) hs hnd (by omega) s3
      rw [hm z, decide_eq_true_eq, List.mem_filterMap]
/-- while a block is drawn: what stands at its lists -/
structure Drawing (H H' : Hp) (d l nm pl ce ed fn : Addr) (zs ps fs : List Str) (B : Blk) : Prop where
  D : DealAt H' d l
  kp : Keep d l H H'
  hn : H' nm = some (.lst (zs.map V.str))
  hp : H' pl = some (.lst (ps.map V.str))
  hf : H' fn = some (.lst (fs.map V.str))
  hc : ∃ vc, H' ce = some (.lst vc) ∧ AllAt (CellAt H') vc B.cells
  he : ∃ ve, H' ed = some (.lst ve) ∧ AllAt (EdgeAt H') ve B.edges
structure Aparts (d l nm pl ce ed fn : Addr) : Prop where
  n1 : nm ≠ d ∧ nm ≠ l
  n2 : pl ≠ d ∧ pl ≠ l
  n3 : ce ≠ d ∧ ce ≠ l
  n4 : ed ≠ d ∧ ed ≠ l
  n5 : fn ≠ d ∧ fn ≠ l
  c1 : nm ≠ ce ∧ nm ≠ ed
  c2 : pl ≠ ce ∧ pl ≠ ed
  c3 : fn ≠ ce ∧ fn ≠ ed
  c4 : ce ≠ ed
theorem Drawing.keep {H H1 H2 : Hp} {d l nm pl ce ed fn : Addr} {zs ps fs : List Str} {B : Blk} (A : Aparts d l nm pl ce ed fn) (x : Drawing H H1 d l nm pl ce ed fn zs ps fs B) (k : Keep d l H1 H2) (D : DealAt H2 d l) : Drawing H H2 d l nm pl ce ed fn zs ps fs B := by
  have tk := x.D.tups k
  obtain ⟨vc, c1, c2⟩ := x.hc
  obtain ⟨ve, e1, e2⟩ := x.he
  exact ⟨D, x.kp.trans k, k _ _ x.hn A.n1.1 A.n1.2, k _ _ x.hp A.n2.1 A.n2.2, k _ _ x.hf A.n5.1 A.n5.2, ⟨vc, k _ _ c1 A.n3.1 A.n3.2, c2.imp (CellAt.stay tk)⟩, ⟨ve, k _ _ e1 A.n4.1 A.n4.2, e2.imp (EdgeAt.stay tk)⟩⟩
theorem Drawing.same {H H1 H2 : Hp} {d l nm pl ce ed fn : Addr} {zs ps fs : List Str} {B : Blk} (A : Aparts d l nm pl ce ed fn) (x : Drawing H H1 d l nm pl ce ed fn zs ps fs B) (s : Same H1 H2) : Drawing H H2 d l nm pl ce ed fn zs ps fs B := x.keep A (Keep.same s) (x.D.same s)
theorem names_ok : allNames.all (fun z => PyData.strOk z) = true := by decide +kernel
def EdgeGood (cs : List Cell) (e : Edge) : Prop := e.name ∈ allNames ∧ (∀ z, e.fence = some z → z ∈ allNames) ∧ e.f.deep ≤ 2 ∧ ∀ x ∈ e.f.names, ∃ c ∈ cs, c.name = x
def EdW (H : Hp) (d l nm pl ce ed fn lq : Addr) (zs ps fs qs : List Str) (cs : List Cell) (most areas signals : Nat) (i : Nat) (σ : L2.St) (H' : Hp) : Prop := ∃ (v9 v10 v11 v12 v13 : Option V) (es : List Edge),
  σ = [some (.ref d), some (.int (most : Int)), some (.int (areas : Int)), some (.int (signals : Int)), some (.ref nm), some (.ref pl), some (.ref ce), some (.ref ed), some (.ref fn), v9, v10, v11, v12, v13, none] ∧
  Drawing H H' d l nm pl ce ed fn zs ps fs ⟨cs, es⟩ ∧ H' lq = some (.lst (qs.map V.str)) ∧ es.length = i ∧ ∀ x ∈ es, EdgeGood cs x
def tup1 (K : PySem.W.Frag) : List V → Hp → VK → Prop := fun xs H Q => ∃ p ys, xs = [.ref p] ∧ ((SqL K H p ys ∧ ∀ l, H l = none → Q (.ref l) (upd H l (.tup ys))) ∨ (SqT K H p ys ∧ Q (.ref p) H))
theorem ok_block {f1 f2 f3 f4 f5 : FuncData} {j : Nat} (F : Fun K "_law_block" "_law_block" s_law_block f fd) (T : TxtB K mg a b c) (hj : 2 ≤ j)
    (G__law_draw : FnOk P w K mg base CX0 1 a.draw f1 ["_law_deal_here", "_law_many"] spDraw) (b__law_draw : Binds K f1 ["_law_deal_here", "_law_many"] [])
    (G__law_pick : FnOk P w K mg base CX0 2 a.pick f2 ["_law_deal_here", "_law_some"] (spPick K)) (b__law_pick : Binds K f2 ["_law_deal_here", "_law_some"] [])
    (G__law_names : FnOk P w K mg base CX0 2 a.names f3 ["_law_deal_here", "_law_many"] spNames) (b__law_names : Binds K f3 ["_law_deal_here", "_law_many"] [])
    (G__law_formula : FnOk P w K mg base CX0 j b.formula f4 ["_law_deal_here", "_law_names_here", "_law_deep"] (spFormula 2)) (b__law_formula : Binds K f4 ["_law_deal_here", "_law_names_here", "_law_deep"] [])
    (G__law_needs : FnOk P w K mg base CX0 j b.needs f5 ["_law_one"] spNeeds) (b__law_needs : Binds K f5 ["_law_one"] []) :
    FnOk P w K mg base CX0 (j + 1) f fd ["_law_deal_here", "_law_most", "_law_areas", "_law_signals"] spBlock := by
  refine F.ok sc_law_block (fun vs H Q E h => ?_) (fun cdv A outer s H vs Q E hr h => ?_)
  · obtain ⟨_, _, _, _, _, rfl, _⟩ := h
    rfl
  · obtain ⟨d, l, most, areas, signals, rfl, D, m1, m2, a1, a2, g1, k⟩ := h
    refine ⟨_, (pss_cons (ps_set (i := 4) sc_law_block.nd rfl (Or.inl rfl) (pe_call G__law_names (hr.mono (by omega)) rfl T.g__law_names T.k__law_names b__law_names .nil pass0 (pa_cons (pv 0) (pa_cons pe_int pa_nil))))
    (pss_cons (ps_par3 (i := 5) (j := 6) (l := 7) rfl sc_law_block.nd rfl rfl rfl (by decide) (by decide) (by decide) rfl rfl rfl (pa_cons (pe_slice sl_list (pv 4) (po_some pe_int) (po_some (pe_op op_add pe_int (pv 2)))) (pa_cons (pe_lst pa_nil) (pa_cons (pe_lst pa_nil) pa_nil))) rfl)
    (pss_cons (ps_set (i := 8) sc_law_block.nd rfl (Or.inl rfl) (pe_slice sl_list (pv 4) (po_some pe_int) (po_some (pe_op op_add pe_int (pe_call G__law_draw (hr.mono (by omega)) rfl T.g__law_draw T.k__law_draw b__law_draw .nil pass0 (pa_cons (pv 0) (pa_cons pe_int pa_nil)))))))
    (pss_cons (ps_for PassesOwn.never rfl (pi_list (pe_slice sl_list (pv 4) po_none (po_some (pe_op op_add pe_int (pe_call G__law_draw (hr.mono (by omega)) rfl T.g__law_draw T.k__law_draw b__law_draw .nil pass0 (pa_cons (pv 0) (pa_cons (pv 1) pa_nil))))))) (pg_name (i := 9) sc_law_block.nd rfl (Or.inl rfl))
      (pss_cons (ps_par (i := 10) (j := 11) rfl sc_law_block.nd rfl rfl (by decide) rfl rfl (pa_cons (pe_cmpR op_gt (pe_call G__law_draw (hr.mono (by omega)) rfl T.g__law_draw T.k__law_draw b__law_draw .nil pass0 (pa_cons (pv 0) (pa_cons pe_int pa_nil))) pe_int (nomark _)) (pa_cons (pe_cmpR op_gt (pe_call G__law_draw (hr.mono (by omega)) rfl T.g__law_draw T.k__law_draw b__law_draw .nil pass0 (pa_cons (pv 0) (pa_cons pe_int pa_nil))) pe_int (nomark _)) pa_nil)) rfl)
      (pss_one (ps_expr (pe_bm PySem.F.plainAttrs_list PySem.F.slot_list_append PySem.F.type_list_append mt_append (pv 6) (pa_cons (pe_tup (pa_cons (pv 9) (pa_cons (pe_call G__law_pick (hr.mono (by omega)) rfl T.g__law_pick T.k__law_pick b__law_pick .nil pass0 (pa_cons (pv 0) (pa_cons (pv 5) pa_nil))) (pa_cons (pv 10) (pa_cons (pe_and (pv 10) (pe_one (pe_cmpR op_gt (pe_call G__law_draw (hr.mono (by omega)) rfl T.g__law_draw T.k__law_draw b__law_draw .nil pass0 (pa_cons (pv 0) (pa_cons pe_int pa_nil))) pe_int (nomark _)))) (pa_cons (pv 11) pa_nil)))))) pa_nil))))))
    (pss_cons (ps_for PassesOwn.never rfl (pi_list (pe_slice sl_list (pv 4) (po_some pe_int) (po_some (pe_op op_add pe_int (pe_call G__law_draw (hr.mono (by omega)) rfl T.g__law_draw T.k__law_draw b__law_draw .nil pass0 (pa_cons (pv 0) (pa_cons (pe_op op_add (pv 3) pe_int) pa_nil))))))) (pg_name (i := 9) sc_law_block.nd rfl (Or.inl rfl))
      (pss_cons (ps_set (i := 12) sc_law_block.nd rfl (Or.inl rfl) (pe_call G__law_formula (hr.mono (by omega)) rfl T.g__law_formula T.k__law_formula b__law_formula .nil pass0 (pa_cons (pv 0) (pa_cons (pe_lc (own := [("_law_cell", 14)]) (g := gName 14) (tt := tYes) rfl sc_law_block.nd (pi_list (pv 6)) (blkOk_by (N := N_law_block) (sc := defScope s_law_block) (by decide +kernel)) (fun _ _ _ _ _ => (pg_name (i := 14) sc_law_block.nd rfl (Or.inl rfl))) (fun _ _ _ _ _ => pts_nil) (fun _ _ _ _ _ => (pe_ix (ix_tupK (K := K) rfl) (pv 14) pe_int (fun _ _ => rfl)))) (pa_cons pe_int pa_nil)))))
      (pss_cons (ps_set (i := 13) sc_law_block.nd rfl (Or.inl rfl) (pe_ifExp (pt_cmpR op_eq (pe_call G__law_draw (hr.mono (by omega)) rfl T.g__law_draw T.k__law_draw b__law_draw .nil pass0 (pa_cons (pv 0) (pa_cons pe_int pa_nil))) pe_int (nomark _)) pe_non (pe_call G__law_pick (hr.mono (by omega)) rfl T.g__law_pick T.k__law_pick b__law_pick .nil pass0 (pa_cons (pv 0) (pa_cons (pv 8) pa_nil)))))
      (pss_one (ps_expr (pe_bm PySem.F.plainAttrs_list PySem.F.slot_list_append PySem.F.type_list_append mt_append (pv 7) (pa_cons (pe_tup (pa_cons (pv 9) (pa_cons (pv 12) (pa_cons (pv 13) (pa_cons (pe_callTy call_tupS (by rfl) T.b_tuple (by decide +kernel) (pa_cons (pe_call G__law_needs (hr.mono (by omega)) rfl T.g__law_needs T.k__law_needs b__law_needs .nil pass0 (pa_cons (pv 12) pa_nil)) pa_nil)) pa_nil))))) pa_nil)))))))
    (pss_one (ps_ret (pe_tup (pa_cons (pe_callTy call_tupS (by rfl) T.b_tuple (by decide +kernel) (pa_cons (pv 6) pa_nil)) (pa_cons (pe_callTy call_tupS (by rfl) T.b_tuple (by decide +kernel) (pa_cons (pv 7) pa_nil)) pa_nil)))))))))), ?_⟩
    refine ⟨_, rfl, d, l, 12, rfl, D, by decide, by decide, fun nm zs H1 hnm hz hzl hzm D1 kp1 => ?_⟩
    have hzl' : zs.length = 12 := hzl
    have nd := D.nd hnm
    have nl := D.nl hnm
    refine ⟨_, rfl, _, rfl, _, rfl, _, _, rfl, rfl, _, rfl, nm, _, rfl, .inl (.inl hz), fun pl hpl => ?_⟩
    rw [show (6 : Int) = ((6 : Nat) : Int) from rfl, show ((6 : Nat) : Int) + (areas : Int) = ((6 + areas : Nat) : Int) by omega, cut_map]
    have psl : (cutL zs (some ((6 : Nat) : Int)) (some ((6 + areas : Nat) : Int))).length = areas := by
      rw [cutL_len, hzl']
      omega
    have psm : ∀ x ∈ cutL zs (some ((6 : Nat) : Int)) (some ((6 + areas : Nat) : Int)), x ∈ allNames := fun x hx => hzm x (cutL_mem hx)
    generalize cutL zs (some ((6 : Nat) : Int)) (some ((6 + areas : Nat) : Int)) = ps at psl psm
    refine ⟨by show 0 ≤ sizeLine; decide, fun ce hce => ⟨by show 0 ≤ sizeLine; decide, fun ed hed => ⟨_, _, _, rfl, ?_⟩⟩⟩
    have t1 : Same H1 (upd H1 pl (.lst (ps.map V.str))) := Same.upd_new hpl
    have t2 := t1.trans (Same.upd_new (o := .lst []) hce)
    have t3 := t2.trans (Same.upd_new (o := .lst []) hed)
    have hceH : H ce = none := kp1.free D D1 (t1.free hce)
    have hedH : H ed = none := kp1.free D D1 (t2.free hed)
    have pcn : pl ≠ ce := ne_of_none upd_same hce
    have cen : ce ≠ ed := ne_of_none upd_same hed
    have pen : pl ≠ ed := ne_of_none (Same.upd_new hce _ _ upd_same) hed
    have ncn : nm ≠ ce := ne_of_none (t1 _ _ hz) hce
    have nen : nm ≠ ed := ne_of_none (t2 _ _ hz) hed
    have D2 : DealAt (upd (upd (upd H1 pl (.lst (ps.map V.str))) ce (.lst [])) ed (.lst [])) d l := D1.same t3
    have hpl2 : (upd (upd (upd H1 pl (.lst (ps.map V.str))) ce (.lst [])) ed (.lst [])) pl = some (.lst (ps.map V.str)) := by rw [upd_ne pen, upd_ne pcn, upd_same]
    have hce2 : (upd (upd (upd H1 pl (.lst (ps.map V.str))) ce (.lst [])) ed (.lst [])) ce = some (.lst []) := by rw [upd_ne cen, upd_same]
    have hed2 : (upd (upd (upd H1 pl (.lst (ps.map V.str))) ce (.lst [])) ed (.lst [])) ed = some (.lst []) := upd_same
    have hz2 := t3 _ _ hz
    have kp2 : Keep d l H (upd (upd (upd H1 pl (.lst (ps.map V.str))) ce (.lst [])) ed (.lst [])) := kp1.trans (Keep.same t3)
    have npl := D1.nd hpl
    have npl2 := D1.nl hpl
    have nce := (D1.same t1).nd hce
    have nce2 := (D1.same t1).nl hce
    have ned := (D1.same t2).nd hed
    have ned2 := (D1.same t2).nl hed
    generalize upd (upd (upd H1 pl (.lst (ps.map V.str))) ce (.lst [])) ed (.lst []) = H2 at D2 hpl2 hce2 hed2 hz2 kp2
    -- fences
    refine ⟨_, rfl, _, rfl, _, rfl, d, l, 2, rfl, D2, by decide, by decide, fun r H3 r0 r1 D3 kp3 => ?_⟩
    have hz3 := kp3 _ _ hz2 nd nl
    refine ⟨_, _, rfl, rfl, _, rfl, nm, _, rfl, .inl (.inl hz3), fun fn hfn => ?_⟩
    obtain ⟨rn, rfl⟩ := Int.eq_ofNat_of_zero_le r0
    rw [show (8 : Int) = ((8 : Nat) : Int) from rfl, show (9 : Int) + (rn : Int) = ((9 + rn : Nat) : Int) by omega, cut_map]
    have fsl : (cutL zs (some ((8 : Nat) : Int)) (some ((9 + rn : Nat) : Int))).length = 1 + rn := by
      rw [cutL_len, hzl']
      omega
    have fsm : ∀ x ∈ cutL zs (some ((8 : Nat) : Int)) (some ((9 + rn : Nat) : Int)), x ∈ allNames := fun x hx => hzm x (cutL_mem hx)
    generalize cutL zs (some ((8 : Nat) : Int)) (some ((9 + rn : Nat) : Int)) = fs at fsl fsm
    have hce3 := kp3 _ _ hce2 nce nce2
    have hed3 := kp3 _ _ hed2 ned ned2
    have AP : Aparts d l nm pl ce ed fn := ⟨⟨nd, nl⟩, ⟨npl, npl2⟩, ⟨nce, nce2⟩, ⟨ned, ned2⟩, ⟨D3.nd hfn, D3.nl hfn⟩, ⟨ncn, nen⟩, ⟨pcn, pen⟩, ⟨(ne_of_none hce3 hfn).symm, (ne_of_none hed3 hfn).symm⟩, cen⟩
    have s4 : Same H3 (upd H3 fn (.lst (fs.map V.str))) := Same.upd_new hfn
    have X4 : Drawing H (upd H3 fn (.lst (fs.map V.str))) d l nm pl ce ed fn zs ps fs ⟨[], []⟩ :=
      ⟨D3.same s4, (kp2.trans kp3).trans (Keep.same s4), s4 _ _ hz3, s4 _ _ (kp3 _ _ hpl2 npl npl2), upd_same, ⟨[], s4 _ _ hce3, True.intro⟩, ⟨[], s4 _ _ hed3, True.intro⟩⟩
    clear hce3 hed3 hz3 hce2 hed2 hz2 hpl2
    generalize upd H3 fn (.lst (fs.map V.str)) = H4 at X4
    clear s4 D3 kp3 hfn t1 t2 t3 hpl hce hed
    -- cells
    refine ⟨_, rfl, _, rfl, _, rfl, d, l, (most : Int), rfl, X4.D, by omega, by omega, fun r H5 r0 r1' D5 kp5 => ?_⟩
    have X5 := X4.keep AP kp5 D5
    obtain ⟨cn, rfl⟩ := Int.eq_ofNat_of_zero_le r0
    refine ⟨_, _, rfl, rfl, _, rfl, nm, _, rfl, .inl (.inl X5.hn), fun lp hlp => ?_⟩
    rw [show (1 : Int) + (cn : Int) = ((1 + cn : Nat) : Int) by omega, cut_map]
    have lpl : (cutL zs none (some ((1 + cn : Nat) : Int))).length = 1 + cn := by
      rw [cutL_len0, hzl']
      omega
    have lpm : ∀ x ∈ cutL zs none (some ((1 + cn : Nat) : Int)), x ∈ allNames := fun x hx => hzm x (cutL_mem hx)
    generalize cutL zs none (some ((1 + cn : Nat) : Int)) = ls at lpl lpm
    have X6 := X5.same AP (Same.upd_new (o := .lst (ls.map V.str)) hlp)
    have lpd := D5.nd hlp
    have lpl2 := D5.nl hlp
    have lpc : lp ≠ ce := by
      obtain ⟨vc, h1, _⟩ := X5.hc
      exact (ne_of_none h1 hlp).symm
    refine ⟨lp, rfl, ⟨_, .inl (.inl upd_same)⟩, ?_⟩
    refine for_list (K := K) (a := lp) (xs := ls.map V.str) (fun i σ H' => ∃ (v9 v10 v11 : Option V) (cs : List Cell), σ = [some (.ref d), some (.int (most : Int)), some (.int (areas : Int)), some (.int (signals : Int)), some (.ref nm), some (.ref pl), some (.ref ce), some (.ref ed), some (.ref fn), v9, v10, v11, none, none, none] ∧
      Drawing H H' d l nm pl ce ed fn zs ps fs ⟨cs, []⟩ ∧ H' lp = some (.lst (ls.map V.str)) ∧ cs.length = i ∧ ∀ x ∈ cs, x.name ∈ allNames ∧ x.area ∈ allNames ∧ (x.keeper = true → x.kept = true))
      ⟨none, none, none, [], rfl, X6, upd_same, rfl, fun _ h => by cases h⟩ (fun i σ H' _ ⟨_, _, _, _, _, _, h, _⟩ => .inl (.inl h)) ?_ ?_
    · clear X4 X5 X6 D5 kp5 hlp
      rintro i x σ H6 hx ⟨v9, v10, v11, cs, rfl, X6, hlp, hci, hcg⟩
      obtain ⟨z, hzm2, _, rfl⟩ := get_map_str hx
      have hi : i < ls.length := by
        have := (List.getElem?_eq_some_iff.mp hx).1
        rw [List.length_map] at this
        exact this
      refine ⟨_, rfl, d, l, 3, rfl, X6.D, by decide, by decide, fun r2 H7 _ _ D7 kp7 => ⟨_, _, rfl, rfl, ?_⟩⟩
      refine ⟨_, rfl, d, l, 3, rfl, D7, by decide, by decide, fun r3 H8 _ _ D8 kp8 => ⟨_, _, rfl, rfl, _, _, rfl, ?_⟩⟩
      have X8 := (X6.keep AP kp7 D7).keep AP kp8 D8
      have hlp8 := kp8 _ _ (kp7 _ _ hlp lpd lpl2) lpd lpl2
      obtain ⟨vc8, h81, h82⟩ := id X8.hc
      have mps : ps.map V.str ≠ [] := by
        intro e
        have := congrArg List.length e
        rw [List.length_map, psl] at this
        simp at this <;> omega
      refine ⟨_, rfl, .inl ⟨rfl, _, .inl (.inl h81)⟩, _, rfl, _, rfl, _, rfl, d, l, pl, _, rfl, D8, X8.hp, npl, npl2, mps, by rw [List.length_map]; omega, fun v H9 hv D9 kp9 => ?_⟩
      obtain ⟨ar, har, rfl⟩ := List.mem_map.mp hv
      have X9 := X8.keep AP kp9 D9
      have hlp9 := kp9 _ _ hlp8 lpd lpl2
      have fin : ∀ (kb : Bool) (HA : Hp), (kb = true → decide (0 < r2) = true) → Keep d l H9 HA → DealAt HA d l → (tCons (tVar 11) tNil) [some (.ref d), some (.int (most : Int)), some (.int (areas : Int)), some (.int (signals : Int)), some (.ref nm), some (.ref pl), some (.ref ce), some (.ref ed), some (.ref fn), some (.str z), some (.bl (decide (0 < r2))), some (.bl (decide (0 < r3))), none, none, none] HA fun xs HB =>
          ([V.str z, V.str ar, V.bl (decide (0 < r2)), V.bl kb] ++ xs).length ≤ sizeLine ∧ ∀ t, HB t = none → rAppend (.ref ce) [.ref t] (upd HB t (.tup ([V.str z, V.str ar, V.bl (decide (0 < r2)), V.bl kb] ++ xs))) fun _ HC => ∃ (v9 v10 v11 : Option V) (cs' : List Cell), [some (V.ref d), some (.int (most : Int)), some (.int (areas : Int)), some (.int (signals : Int)), some (.ref nm), some (.ref pl), some (.ref ce), some (.ref ed), some (.ref fn), some (.str z), some (.bl (decide (0 < r2))), some (.bl (decide (0 < r3))), none, none, none] = [some (V.ref d), some (.int (most : Int)), some (.int (areas : Int)), some (.int (signals : Int)), some (.ref nm), some (.ref pl), some (.ref ce), some (.ref ed), some (.ref fn), v9, v10, v11, none, none, none] ∧
            Drawing H HC d l nm pl ce ed fn zs ps fs ⟨cs', []⟩ ∧ HC lp = some (.lst (ls.map V.str)) ∧ cs'.length = i + 1 ∧ ∀ x ∈ cs', x.name ∈ allNames ∧ x.area ∈ allNames ∧ (x.keeper = true → x.kept = true) := by
        intro kb HA hkb kpA DA
        have XA := X9.keep AP kpA DA
        have hlpA := kpA _ _ hlp9 lpd lpl2
        obtain ⟨vc, hA1, hA2⟩ := id XA.hc
        have hvl := hA2.len
        refine ⟨_, rfl, (by show 5 ≤ sizeLine; decide), fun t ht => ?_⟩
        have sT := Same.upd_new (o := .tup [V.str z, V.str ar, V.bl (decide (0 < r2)), V.bl kb, V.bl (decide (0 < r3))]) ht
        have XB := XA.same AP sT
        have tce : ce ≠ t := ne_of_none hA1 ht
        refine ⟨ce, vc, .ref t, rfl, rfl, sT _ _ hA1, small1000 (by rw [hvl]; show cs.length ≤ 1000; omega), _, _, _, cs ++ [⟨z, ar, decide (0 < r2), kb, decide (0 < r3)⟩], rfl, ?_, ?_, ?_, ?_⟩
        · have tk : TupKeep (upd HA t (.tup [V.str z, V.str ar, V.bl (decide (0 < r2)), V.bl kb, V.bl (decide (0 < r3))])) (upd (upd HA t (.tup [V.str z, V.str ar, V.bl (decide (0 < r2)), V.bl kb, V.bl (decide (0 < r3))])) ce (.lst (vc ++ [.ref t]))) := fun q xs e => by
            rw [upd_ne (ne_of e (sT _ _ hA1) (by intro z; cases z))]
            exact e
          obtain ⟨ve, he1, he2⟩ := XB.he
          refine ⟨XB.D.upd nce nce2, ?_, ?_, ?_, ?_, ⟨vc ++ [.ref t], upd_same, ?_⟩, ⟨ve, by rw [upd_ne cen.symm]; exact he1, he2.imp (EdgeAt.stay tk)⟩⟩
          · intro q o e q1 q2
            have : q ≠ ce := by
              intro e2
              rw [e2] at e
              exact absurd (hceH) (by rw [e]; intro z; cases z)
            rw [upd_ne this]
            exact XB.kp q o e q1 q2
          · rw [upd_ne ncn]; exact XB.hn
          · rw [upd_ne pcn]; exact XB.hp
          · rw [upd_ne AP.c3.1]; exact XB.hf
          · exact AllAt.app ((hA2.imp (CellAt.stay (Same.tups sT))).imp (CellAt.stay tk)) ⟨⟨t, rfl, by rw [upd_ne tce.symm]; exact upd_same⟩, True.intro⟩
        · rw [upd_ne lpc]
          exact sT _ _ hlpA
        · rw [List.length_append, hci]
          rfl
        · intro x hx
          rcases List.mem_append.mp hx with hx | hx
          · exact hcg x hx
          · rw [List.mem_singleton.mp hx]
            exact ⟨lpm z hzm2, psm ar har, hkb⟩
      refine ⟨_, rfl, _, rfl, _, rfl, ?_⟩
      refine ite_bool (fun er => ?_) (fun er => ?_)
      · refine ⟨_, rfl, d, l, 5, rfl, D9, by decide, by decide, fun r4 HA _ _ DA kpA => ⟨_, _, rfl, rfl, ?_⟩⟩
        exact fin _ HA (fun _ => er) kpA DA
      · exact fin false H9 (fun e => by cases e) (Keep.refl _ _ _) D9
    · clear X4 X5 X6 D5 kp5 hlp lpd lpl2 lpc
      rintro σ H6 ⟨v9, v10, v11, cs, rfl, X6, _, hci, hcg⟩
      rw [List.length_map, lpl] at hci
      -- edges
      refine ⟨_, rfl, _, rfl, _, rfl, _, rfl, _, _, rfl, rfl, d, l, ((signals : Int) + 1), rfl, X6.D, by omega, by omega, fun r H7 s0 s1 D7 kp7 => ?_⟩
      have X7 := X6.keep AP kp7 D7
      obtain ⟨sn, rfl⟩ := Int.eq_ofNat_of_zero_le s0
      refine ⟨_, _, rfl, rfl, _, rfl, nm, _, rfl, .inl (.inl X7.hn), fun lq hlq => ?_⟩
      rw [show (10 : Int) = ((10 : Nat) : Int) from rfl, show ((10 : Nat) : Int) + (sn : Int) = ((10 + sn : Nat) : Int) by omega, cut_map]
      have lql : (cutL zs (some ((10 : Nat) : Int)) (some ((10 + sn : Nat) : Int))).length ≤ sn := by
        rw [cutL_len, hzl']
        omega
      have lqm : ∀ x ∈ cutL zs (some ((10 : Nat) : Int)) (some ((10 + sn : Nat) : Int)), x ∈ allNames := fun x hx => hzm x (cutL_mem hx)
      generalize cutL zs (some ((10 : Nat) : Int)) (some ((10 + sn : Nat) : Int)) = qs at lql lqm
      have X8 := X7.same AP (Same.upd_new (o := .lst (qs.map V.str)) hlq)
      have lpd := D7.nd hlq
      have lpl2 := D7.nl hlq
      have lpe : lq ≠ ed := by
        obtain ⟨ve, h1, _⟩ := X7.he
        exact (ne_of_none h1 hlq).symm
      refine ⟨lq, rfl, ⟨_, .inl (.inl upd_same)⟩, ?_⟩
      refine for_list (K := K) (a := lq) (xs := qs.map V.str) (EdW H d l nm pl ce ed fn lq zs ps fs qs cs most areas signals)
        ⟨_, _, _, none, none, [], rfl, X8, upd_same, rfl, fun _ h => by cases h⟩ (fun i σ H' _ ⟨_, _, _, _, _, _, _, _, h, _⟩ => .inl (.inl h)) ?_ ?_
      · clear X6 X7 X8 D7 kp7 hlq
        rintro i x σ H6 hx ⟨v9, v10, v11, v12, v13, es, rfl, X6, hlq, hei, heg⟩
        obtain ⟨z, hzm2, _, rfl⟩ := get_map_str hx
        have hi : i < qs.length := by
          have := (List.getElem?_eq_some_iff.mp hx).1
          rw [List.length_map] at this
          exact this
        obtain ⟨vc, hc1, hc2⟩ := id X6.hc
        have hvl := hc2.len
        have hcl : cs.length ≤ 10 := by omega
        refine ⟨_, rfl, _, rfl, ce, rfl, ⟨_, .inl (.inl hc1)⟩, fun D1 hD1 => ?_⟩
        refine lc_list (K := K) (a := ce) (xs := vc) (fun m H' => Same H6 H' ∧ H' D1 = some (.lst (((cs.take m).map Cell.name).map V.str))) ⟨Same.upd_new hD1, upd_same⟩ (fun m H' _ h => .inl (.inl (h.1 _ _ hc1))) ?_ ?_
        · rintro m y H' hy ⟨t1, t2⟩
          obtain ⟨cc, hcc, q, rfl, hq⟩ := hc2.get hy
          refine ⟨rfl, _, rfl, q, _, _, _, rfl, rfl, .inl (.inl (t1 _ _ hq)), atI_nat (j := 0) rfl, _, t2, ?_, fun b o e => ?_, ?_⟩
          · rw [List.length_map, List.length_map, List.length_take]
            exact small1000 (by omega)
          · rw [upd_ne (ne_of_none e hD1)]
            exact t1 b o e
          · rw [take_succ_map _ hcc, List.map_append]
            exact upd_same
        · rintro H7 ⟨t1, t2⟩
          have hvl' : vc.length = cs.length := hvl
          rw [hvl', List.take_length] at t2
          have X7 := X6.same AP t1
          have hlq7 := t1 _ _ hlq
          have mcs : cs.map Cell.name ≠ [] := by
            intro e
            have := congrArg List.length e
            rw [List.length_map, hci] at this
            simp at this <;> omega
          refine ⟨d, l, D1, cs.map Cell.name, rfl, X7.D, t2, X6.D.nd hD1, X6.D.nl hD1, mcs, by rw [List.length_map]; omega, fun v g H8 hv hg hgn D8 kp8 => ?_⟩
          have X8 := X7.keep AP kp8 D8
          have hlq8 := kp8 _ _ hlq7 lpd lpl2
          have gnm : ∀ x ∈ g.names, ∃ c ∈ cs, c.name = x := fun x hx => by
            obtain ⟨cc, hc, e⟩ := List.mem_map.mp (hgn x hx)
            exact ⟨cc, hc, e⟩
          have gok : ∀ x ∈ g.names, PyData.strOk x = true := fun x hx => by
            obtain ⟨cc, hc, e⟩ := gnm x hx
            rw [← e]
            exact (List.all_eq_true.mp names_ok) _ (hcg cc hc).1
          have fin : ∀ (fo : Option Str) (H9 : Hp), (∀ z, fo = some z → z ∈ allNames) → Keep d l H8 H9 → DealAt H9 d l →
              (tDrop (tBM K "list" rAppend (tVar 7) (tCons (tTup (tCons (tVar 9) (tCons (tVar 12) (tCons (tVar 13) (tCons (tCB (tup1 K) (tCons (tCall spNeeds [] E0 (tCons (tVar 12) tNil)) tNil)) tNil))))) tNil))) { nx := EdW H d l nm pl ce ed fn lq zs ps fs qs cs most areas signals (i + 1), rt := fun _ _ => False }
                [some (.ref d), some (.int (most : Int)), some (.int (areas : Int)), some (.int (signals : Int)), some (.ref nm), some (.ref pl), some (.ref ce), some (.ref ed), some (.ref fn), some (.str z), v10, v11, some v, some (fenceV fo), none] H9 := by
            intro fo H9 hfo kp9 D9
            have X9 := X8.keep AP kp9 D9
            have hlq9 := kp9 _ _ hlq8 lpd lpl2
            have hv9 := FmAt.stay (D8.tups kp9) g v hv
            obtain ⟨ve, he1, he2⟩ := id X9.he
            have hel := he2.len
            refine ⟨_, rfl, .inl ⟨rfl, _, .inl (.inl he1)⟩, _, rfl, _, rfl, _, rfl, _, rfl, v, g, rfl, hv9, by omega, gok, fun p HA hp hpn sA => ?_⟩
            refine ⟨p, _, rfl, .inl ⟨.inl (.inl hpn), fun q hq => ⟨by show 4 ≤ sizeLine; decide, fun t ht => ?_⟩⟩⟩
            have sB := sA.trans (Same.upd_new (o := .tup (g.needs.map V.str)) hq)
            have sC := sB.trans (Same.upd_new (o := .tup [V.str z, v, fenceV fo, V.ref q]) ht)
            have XC := X9.same AP sC
            have heC := sC _ _ he1
            have ted : ed ≠ t := ne_of_none (sB _ _ he1) ht
            have tq : q ≠ t := ne_of_none upd_same ht
            have qed : q ≠ ed := (ne_of_none (sA _ _ he1) hq).symm
            refine ⟨ed, ve, .ref t, rfl, rfl, heC, small1000 (by have : ve.length = es.length := hel; omega), _, _, _, _, _, es ++ [⟨z, g, fo⟩], rfl, ?_, ?_, ?_, ?_⟩
            · have tk : TupKeep (upd (upd HA q (.tup (g.needs.map V.str))) t (.tup [V.str z, v, fenceV fo, V.ref q])) (upd (upd (upd HA q (.tup (g.needs.map V.str))) t (.tup [V.str z, v, fenceV fo, V.ref q])) ed (.lst (ve ++ [.ref t]))) := fun q' xs e => by
                rw [upd_ne (ne_of e heC (by intro z; cases z))]
                exact e
              obtain ⟨vc', hc1', hc2'⟩ := XC.hc
              refine ⟨XC.D.upd ned ned2, ?_, ?_, ?_, ?_, ⟨vc', by rw [upd_ne cen]; exact hc1', hc2'.imp (CellAt.stay tk)⟩, ⟨ve ++ [.ref t], upd_same, ?_⟩⟩
              · intro q' o e q1 q2
                have : q' ≠ ed := by
                  intro e2
                  rw [e2] at e
                  exact absurd hedH (by rw [e]; intro z; cases z)
                rw [upd_ne this]
                exact XC.kp q' o e q1 q2
              · rw [upd_ne nen]; exact XC.hn
              · rw [upd_ne pen]; exact XC.hp
              · rw [upd_ne AP.c3.2]; exact XC.hf
              · refine AllAt.app ((he2.imp (EdgeAt.stay (Same.tups sC))).imp (EdgeAt.stay tk)) ⟨⟨t, q, v, rfl, ?_, ?_, ?_⟩, True.intro⟩
                · rw [upd_ne ted.symm]
                  exact upd_same
                · exact FmAt.stay tk g v (FmAt.stay (Same.tups sC) g v hv9)
                · rw [upd_ne qed, upd_ne tq]
                  exact upd_same
            · rw [upd_ne lpe]
              exact sC _ _ hlq9
            · rw [List.length_append, hei]
              rfl
            · intro x hx
              rcases List.mem_append.mp hx with hx | hx
              · exact heg x hx
              · rw [List.mem_singleton.mp hx]
                exact ⟨lqm z hzm2, hfo, hg, gnm⟩
          refine ⟨_, rfl, d, l, 5, rfl, D8, by decide, by decide, fun r2 H9 _ _ D9 kp9 => ⟨rfl, _, rfl, ?_⟩⟩
          refine ite_bool (fun _ => ?_) (fun _ => ?_)
          · exact fin none H9 (fun _ h => by cases h) kp9 D9
          · have X9 := X8.keep AP kp9 D9
            have mfs : fs.map V.str ≠ [] := by
              intro e
              have := congrArg List.length e
              rw [List.length_map, fsl] at this
              simp at this <;> omega
            refine ⟨_, rfl, _, rfl, d, l, fn, _, rfl, D9, X9.hf, AP.n5.1, AP.n5.2, mfs, by rw [List.length_map]; omega, fun v' HA hv' DA kpA => ?_⟩
            obtain ⟨fz, hfz, rfl⟩ := List.mem_map.mp hv'
            exact fin (some fz) HA (fun z hz => by cases hz; exact fsm fz hfz) (kp9.trans kpA) DA
      · clear X6 X7 X8 D7 kp7 hlq
        rintro σ H6 ⟨v9, v10, v11, v12, v13, es, rfl, X6, _, hei, heg⟩
        rw [List.length_map] at hei
        obtain ⟨vc, hc1, hc2⟩ := id X6.hc
        obtain ⟨ve, he1, he2⟩ := id X6.he
        refine ⟨_, rfl, ce, vc, rfl, .inl ⟨.inl (.inl hc1), fun tc htc => ?_⟩⟩
        have sA := Same.upd_new (o := .tup vc) htc
        refine ⟨_, rfl, ed, ve, rfl, .inl ⟨.inl (.inl (sA _ _ he1)), fun te hte => ⟨by show 2 ≤ sizeLine; decide, fun t ht => ?_⟩⟩⟩
        have sB := Same.upd_new (o := .tup ve) hte
        have sC := Same.upd_new (o := .tup [.ref tc, .ref te]) ht
        have s3 := (sA.trans sB).trans sC
        refine k _ ⟨cs, es⟩ _ ⟨t, tc, te, vc, ve, rfl, upd_same, sC _ _ (sB _ _ upd_same), sC _ _ upd_same, hc2.imp (CellAt.stay (Same.tups s3)), he2.imp (EdgeAt.stay (Same.tups s3))⟩ ⟨?_, ?_, ?_, hcg, heg⟩ (X6.D.same s3) (X6.kp.trans (Keep.same s3))
        · intro e
          have : cs = [] := e
          rw [this] at hci
          simp at hci <;> omega
        · show cs.length ≤ most
          omega
        · show es.length ≤ signals
          omega
end
end L2.Wk
namespace L2.Wk
open PySem PySem.Spec PyProof.Rows
abbrev s_law_all_events : Stmt := top 54
abbrev N_law_all_events : List Str := ["_law_block_here", "_law_found", "_law_place"]
theorem sc_law_all_events : FnScope N_law_all_events ["_law_block_here"] (defScope s_law_all_events) := ⟨rfl, rfl, rfl, by decide +kernel, rfl, by decide +kernel, by decide +kernel⟩
abbrev s_law_deed : Stmt := top 55
abbrev N_law_deed : List Str := ["_law_deal_here", "_law_block_here", "_law_is_ask", "_law_some", "_law_place", "_law_name", "_law_word"]
theorem sc_law_deed : FnScope N_law_deed ["_law_deal_here", "_law_block_here", "_law_is_ask"] (defScope s_law_deed) := ⟨rfl, rfl, rfl, by decide +kernel, rfl, by decide +kernel, by decide +kernel⟩
abbrev s_law_any_rule : Stmt := top 56
abbrev N_law_any_rule : List Str := ["_law_deal_here", "_law_block_here", "_law_states", "_law_told_here", "_law_row", "_law_guard", "_law_turn"]
theorem sc_law_any_rule : FnScope N_law_any_rule ["_law_deal_here", "_law_block_here", "_law_states"] (defScope s_law_any_rule) := ⟨rfl, rfl, rfl, by decide +kernel, rfl, by decide +kernel, by decide +kernel⟩
/-! ### events and deeds of a block -/
def eventsL (ys : List Str) : List Str := txts ["ask", "idle", "tick"] ++ ys.flatMap fun y => [Str.ofString "dip " ++ y, Str.ofString "spill " ++ y]
def plainDs : List Str := txts ["hold", "go", "answer", "forget"]
def areaW : List Str := txts ["save", "load", "cut", "power", "reset"]
def fenceW : List Str := txts ["fence", "open"]
inductive DeedOf (B : Blk) (ask : Bool) : Str → Prop where
  | plain {z : Str} (h : z ∈ plainDs) : DeedOf B ask z
  | note (h : ask = true) : DeedOf B ask (Str.ofString "note")
  | area {u y : Str} (hu : u ∈ areaW) (h : ∃ c ∈ B.cells, c.area = y) : DeedOf B ask (u ++ Str.ofString " " ++ y)
  | fence {u y : Str} (hu : u ∈ fenceW) (h : ∃ e ∈ B.edges, e.fence = some y) : DeedOf B ask (u ++ Str.ofString " " ++ y)
def EventOf (B : Blk) (z : Str) : Prop := z ∈ txts ["ask", "idle", "tick"] ∨ ∃ y, (∃ c ∈ B.cells, c.area = y) ∧ (z = Str.ofString "dip" ++ Str.ofString " " ++ y ∨ z = Str.ofString "spill" ++ Str.ofString " " ++ y)
theorem phrase_app {u z : Str} {as bs : List Str} (hu : (32 : Nat) ∉ TL.tl u) : isPhrase (u ++ Str.ofString " " ++ z) as bs = (inV (.str u) (bs.map V.str) && isName z) := by
  have ey : TL.tl (Str.ofString " ") = 32 :: [] := by decide +kernel
  unfold isPhrase
  rw [TL.partition_app ey hu]
  show (if (((Str.ofString " ").length : Int) != 0) = true then _ else _) = _
  exact if_pos (by decide +kernel)
theorem names_len20 : allNames.all (fun z => decide (z.length ≤ 4) && isName z) = true := by decide +kernel
theorem nm_len {z : Str} (h : z ∈ allNames) : z.length ≤ 4 ∧ isName z = true := by
  have := (List.all_eq_true.mp names_len20) z h
  simpa using this
theorem dip_eq (y : Str) : Str.ofString "dip " ++ y = Str.ofString "dip" ++ Str.ofString " " ++ y := by
  have : Str.ofString "dip " = Str.ofString "dip" ++ Str.ofString " " := by decide +kernel
  rw [this]
theorem spill_eq (y : Str) : Str.ofString "spill " ++ y = Str.ofString "spill" ++ Str.ofString " " ++ y := by
  have : Str.ofString "spill " = Str.ofString "spill" ++ Str.ofString " " := by decide +kernel
  rw [this]
theorem plain_ev : ∀ z ∈ txts ["ask", "idle", "tick"], isEvent z = true ∧ z.length ≤ 20 := by decide +kernel
theorem plain_de : ∀ z ∈ plainDs, isDeed z = true ∧ z.length ≤ 20 ∧ decide (V.str z = V.str (Str.ofString "note")) = false := by decide +kernel
theorem area_w : ∀ u ∈ areaW, (32 : Nat) ∉ TL.tl u ∧ inV (.str u) ((fenceD ++ areaD).map V.str) = true ∧ u.length ≤ 5 := by decide +kernel
theorem fence_w : ∀ u ∈ fenceW, (32 : Nat) ∉ TL.tl u ∧ inV (.str u) ((fenceD ++ areaD).map V.str) = true ∧ u.length ≤ 5 := by decide +kernel
theorem sp_len : (Str.ofString " ").length = 1 := by decide +kernel
theorem note_de : isDeed (Str.ofString "note") = true ∧ (Str.ofString "note").length ≤ 20 := by decide +kernel
/-- a phrase is no single word -/
theorem app_ne_note {u y : Str} : (32 : Nat) ∉ TL.tl (Str.ofString "note") → decide (V.str (u ++ Str.ofString " " ++ y) = V.str (Str.ofString "note")) = false := fun h => by
  refine decide_eq_false fun e => h ?_
  have e2 : u ++ Str.ofString " " ++ y = Str.ofString "note" := by injection e
  rw [← e2]
  have t1 : TL.tl (u ++ Str.ofString " " ++ y) = TL.tl u ++ TL.tl (Str.ofString " ") ++ TL.tl y := by rw [TL.tl_append, TL.tl_append]
  rw [t1]
  have : TL.tl (Str.ofString " ") = [32] := by decide +kernel
  rw [this]
  simp
theorem event_ok {B : Blk} {z : Str} {m s : Nat} (g : BlkGood B m s) (h : EventOf B z) : isEvent z = true ∧ z.length ≤ 20 := by
  rcases h with h | ⟨y, ⟨ce, hce, rfl⟩, rfl | rfl⟩
  · exact plain_ev z h
  · obtain ⟨l1, l2⟩ := nm_len (g.cname ce hce).2.1
    refine ⟨?_, ?_⟩
    · unfold isEvent
      rw [phrase_app (by decide +kernel), l2]
      decide +kernel
    · rw [app_len, app_len, sp_len]
      have : (Str.ofString "dip").length = 3 := by decide +kernel
      omega
  · obtain ⟨l1, l2⟩ := nm_len (g.cname ce hce).2.1
    refine ⟨?_, ?_⟩
    · unfold isEvent
      rw [phrase_app (by decide +kernel), l2]
      decide +kernel
    · rw [app_len, app_len, sp_len]
      have : (Str.ofString "spill").length = 5 := by decide +kernel
      omega
theorem deed_ok {B : Blk} {ask : Bool} {z : Str} {m s : Nat} (g : BlkGood B m s) (h : DeedOf B ask z) : isDeed z = true ∧ z.length ≤ 20 ∧ (decide (V.str z = V.str (Str.ofString "note")) = true → ask = true) := by
  cases h with
  | plain h =>
    obtain ⟨h1, h2, h3⟩ := plain_de z h
    exact ⟨h1, h2, fun e => by rw [h3] at e; cases e⟩
  | note h => exact ⟨note_de.1, note_de.2, fun _ => h⟩
  | area hu h =>
    obtain ⟨ce, hce, rfl⟩ := h
    obtain ⟨l1, l2⟩ := nm_len (g.cname ce hce).2.1
    obtain ⟨w1, w2, w3⟩ := area_w _ hu
    refine ⟨?_, ?_, fun e => ?_⟩
    · unfold isDeed
      rw [phrase_app w1, w2, l2]
      rfl
    · rw [app_len, app_len, sp_len]
      omega
    · rw [app_ne_note (by decide +kernel)] at e
      cases e
  | fence hu h =>
    obtain ⟨ed, hed, hf⟩ := h
    obtain ⟨l1, l2⟩ := nm_len ((g.ename ed hed).2.1 _ hf)
    obtain ⟨w1, w2, w3⟩ := fence_w _ hu
    refine ⟨?_, ?_, fun e => ?_⟩
    · unfold isDeed
      rw [phrase_app w1, w2, l2]
      rfl
    · rw [app_len, app_len, sp_len]
      omega
    · rw [app_ne_note (by decide +kernel)] at e
      cases e
def AreasOf (B : Blk) (ys : List Str) : Prop := (∀ k, k ∈ ys ↔ ∃ c ∈ B.cells, c.area = k) ∧ sortedS ys = true ∧ ys.Nodup ∧ ys.length ≤ B.cells.length
def spAllEvents (m s : Nat) : Sp := fun vs H Q _ => ∃ (v : V) (B : Blk), vs = [v] ∧ BlkAt H v B ∧ BlkGood B m s ∧ m ≤ 10 ∧ ∀ (p : Addr) (ys : List Str) (H' : Hp), H p = none → H' p = some (.lst ((eventsL ys).map V.str)) → AreasOf B ys → Same H H' → Q (.ref p) H'
def spDeed (m s : Nat) : Sp := fun vs H Q _ => ∃ (d l : Addr) (v : V) (B : Blk) (ask : Bool), vs = [.ref d, v, .bl ask] ∧ DealAt H d l ∧ BlkAt H v B ∧ BlkGood B m s ∧ m ≤ 10 ∧ s ≤ 10 ∧
  ∀ (z : Str) (H' : Hp), DeedOf B ask z → DealAt H' d l → Keep d l H H' → Q (.str z) H'
def guardL : List Str := txts ["any", "waits", "calm"]
structure RuleOf (B : Blk) (states : List Str) (r : RuleD) : Prop where
  st : r.st ∈ states
  th : r.th ∈ states
  ev : EventOf B r.ev
  gd : r.gd ∈ guardL
  ds : ∀ z ∈ r.ds, DeedOf B (decide (V.str r.ev = V.str (Str.ofString "ask"))) z
theorem cut4 (a b c d e : V) : cutV [a, b, c, d, e] none (some 4) = [a, b, c, d] := by
  rw [show (4 : Int) = ((4 : Nat) : Int) from rfl, cut_to]
  rfl
theorem not4 (a b c d e : V) : ¬ (HT.sIx [a, b, c, d, e].length 0 none = 0 ∧ HT.sIx [a, b, c, d, e].length [a, b, c, d, e].length (some 4) = [a, b, c, d, e].length) := by
  intro h
  have h2 := h.2
  rw [show (4 : Int) = ((4 : Nat) : Int) from rfl, HT.sIx_nat] at h2
  cases h2
theorem strOk_app {x y : Str} (hx : PyData.strOk x = true) (hy : PyData.strOk y = true) : PyData.strOk (x ++ y) = true := by
  unfold PyData.strOk at *
  rw [Str.cps_append, Array.all_append, hx, hy]
  rfl
theorem nm_ok {z : Str} (h : z ∈ allNames) : PyData.strOk z = true := (List.all_eq_true.mp names_ok) z h
theorem event_str {B : Blk} {z : Str} {m s : Nat} (g : BlkGood B m s) (h : EventOf B z) : PyData.strOk z = true := by
  rcases h with h | ⟨y, ⟨ce, hce, rfl⟩, rfl | rfl⟩
  · have : ∀ z ∈ txts ["ask", "idle", "tick"], PyData.strOk z = true := by decide +kernel
    exact this z h
  · exact strOk_app (by decide +kernel) (nm_ok (g.cname ce hce).2.1)
  · exact strOk_app (by decide +kernel) (nm_ok (g.cname ce hce).2.1)
theorem deed_str {B : Blk} {ask : Bool} {z : Str} {m s : Nat} (g : BlkGood B m s) (h : DeedOf B ask z) : PyData.strOk z = true := by
  cases h with
  | plain h =>
    have : ∀ z ∈ plainDs, PyData.strOk z = true := by decide +kernel
    exact this z h
  | note h => decide +kernel
  | area hu h =>
    obtain ⟨ce, hce, rfl⟩ := h
    have : ∀ z ∈ areaW, PyData.strOk z = true := by decide +kernel
    exact strOk_app (strOk_app (this _ hu) (by decide +kernel)) (nm_ok (g.cname ce hce).2.1)
  | fence hu h =>
    obtain ⟨ed, hed, hf⟩ := h
    have : ∀ z ∈ fenceW, PyData.strOk z = true := by decide +kernel
    exact strOk_app (strOk_app (this _ hu) (by decide +kernel)) (nm_ok ((g.ename ed hed).2.1 _ hf))
theorem guard_ok : ∀ z ∈ guardL, PyData.strOk z = true ∧ z.length ≤ 20 ∧ inV (.str z) (guardsV.map V.str) = true := by decide +kernel
/-- what is drawn is small, and a rule -/
structure RuleFine (R : RuleD) : Prop where
  small : RuleSmall R
  dn : R.ds.length ≤ 10
  err : ruleErr R.st R.ev R.gd R.th R.ds = none
  ok : PyData.strOk R.st = true ∧ PyData.strOk R.ev = true ∧ PyData.strOk R.gd = true ∧ PyData.strOk R.th = true ∧ ∀ z ∈ R.ds, PyData.strOk z = true
  deed : ∀ z ∈ R.ds, isDeed z = true ∧ z.length ≤ 20
theorem rule_fine {B : Blk} {states : List Str} {R : RuleD} {m s : Nat} (g : BlkGood B m s) (hs : ∀ z ∈ states, z ∈ allNames) (h : RuleOf B states R) (hn : R.ds.length ≤ 10) : RuleFine R := by
  obtain ⟨e1, e2⟩ := event_ok g h.ev
  obtain ⟨a1, a2⟩ := nm_len (hs _ h.st)
  obtain ⟨b1, b2⟩ := nm_len (hs _ h.th)
  obtain ⟨c1, c2, c3⟩ := guard_ok _ h.gd
  have dd : ∀ z ∈ R.ds, isDeed z = true ∧ z.length ≤ 20 ∧ mayDo R.ev z = true := fun z hz => by
    obtain ⟨q1, q2, q3⟩ := deed_ok g (h.ds z hz)
    refine ⟨q1, q2, ?_⟩
    unfold mayDo
    rw [q1, Bool.true_and]
    cases e : decide (V.str z = V.str (Str.ofString "note")) with
    | false => rfl
    | true =>
      have := q3 e
      rw [this]
      rfl
  refine ⟨⟨by omega, by omega, by omega, by omega, by omega, fun z hz => by have := (dd z hz).2.1; omega⟩, hn, ?_, ⟨nm_ok (hs _ h.st), event_str g h.ev, c1, nm_ok (hs _ h.th), fun z hz => deed_str g (h.ds z hz)⟩, fun z hz => ⟨(dd z hz).1, (dd z hz).2.1⟩⟩
  unfold ruleErr
  rw [a2, e1, c3, b2]
  have : (R.ds.map (mayDo R.ev)).all id = true := by
    rw [List.all_map, List.all_eq_true]
    exact fun z hz => (dd z hz).2.2
  rw [this]
  rfl
def spAnyRule (m s : Nat) : Sp := fun vs H Q _ => ∃ (d l sn : Addr) (v : V) (B : Blk) (zs : List Str), vs = [.ref d, v, .ref sn] ∧ DealAt H d l ∧ BlkAt H v B ∧ BlkGood B m s ∧ m ≤ 10 ∧ s ≤ 10 ∧ H sn = some (.lst (zs.map V.str)) ∧ sn ≠ d ∧ sn ≠ l ∧ zs ≠ [] ∧ zs.length ≤ 1000 ∧
  ∀ (p q : Addr) (r : RuleD) (H' : Hp), H' p = some (.tup [.str r.st, .str r.ev, .str r.gd, .str r.th, .ref q]) → H q = none → H' q = some (.lst (r.ds.map V.str)) → r.ds.length ≤ 4 → RuleOf B zs r → DealAt H' d l → Keep d l H H' → Q (.ref p) H'
structure As where
  all_events : Addr
  deed : Addr
  any_rule : Addr
structure TxtA (K : PySem.W.Frag) (mg : Str → Option Value) (a : Ds) (b : Ss) (c : Bs) (e : As) : Prop extends TxtB K mg a b c where
  g__law_all_events : mg "_law_all_events" = some (.ref e.all_events)
  k__law_all_events : PySem.W.keepIn K (.ref e.all_events) = true
  g__law_deed : mg "_law_deed" = some (.ref e.deed)
  k__law_deed : PySem.W.keepIn K (.ref e.deed) = true
  g__law_any_rule : mg "_law_any_rule" = some (.ref e.any_rule)
  k__law_any_rule : PySem.W.keepIn K (.ref e.any_rule) = true
section
variable {P : Program} {w : World} {K : PySem.W.Frag} {mg : Str → Option Value} {base : Heap} {a : Ds} {b : Ss} {c : Bs} {e : As} {f : Addr} {fd : FuncData} {m s : Nat}
theorem ok_all_events {f1 : FuncData} (F : Fun K "_law_all_events" "_law_all_events" s_law_all_events f fd) (T : TxtA K mg a b c e)
    (G__law_places : FnOk P w K mg base CX0 1 c.places f1 ["_law_block_here"] spPlaces) (b__law_places : Binds K f1 ["_law_block_here"] []) : FnOk P w K mg base CX0 2 f fd ["_law_block_here"] (spAllEvents m s) := by
  refine F.ok sc_law_all_events (fun vs H Q E h => ?_) (fun cdv A outer sh H vs Q E hr h => ?_)
  · obtain ⟨_, _, rfl, _⟩ := h
    rfl
  · obtain ⟨v, B, rfl, hB, gB, hm, k⟩ := h
    refine ⟨_, (pss_cons (ps_set (i := 1) sc_law_all_events.nd rfl (Or.inl rfl) (pe_lst (pa_cons pe_str (pa_cons pe_str (pa_cons pe_str pa_nil)))))
    (pss_cons (ps_for PassesOwn.never rfl (pi_list (pe_call G__law_places (hr.mono (by decide)) rfl T.g__law_places T.k__law_places b__law_places .nil pass0 (pa_cons (pv 0) pa_nil))) (pg_name (i := 2) sc_law_all_events.nd rfl (Or.inl rfl))
      (pss_one (ps_expr (pe_bm PySem.F.plainAttrs_list PySem.F.slot_list_extend PySem.F.type_list_extend mt_extend (pv 1) (pa_cons (pe_lst (pa_cons (pe_op op_add_str pe_str (pv 2)) (pa_cons (pe_op op_add_str pe_str (pv 2)) pa_nil))) pa_nil)))))
    (pss_one (ps_ret (pv 1))))), ?_⟩
    refine ⟨by show 3 ≤ sizeLine; decide, fun fo hfo => ?_⟩
    have s1 : Same H (upd H fo (.lst ((txts ["ask", "idle", "tick"]).map V.str))) := Same.upd_new hfo
    have f1 : (upd H fo (.lst ((txts ["ask", "idle", "tick"]).map V.str))) fo = some (.lst ((txts ["ask", "idle", "tick"]).map V.str)) := upd_same
    have hcl := gB.clen
    refine ⟨_, rfl, v, B, rfl, BlkAt.stay (Same.tups s1) hB, by omega, fun p ys H2 hp hpn h1 h2 h3 h4 s2 => ⟨p, rfl, ⟨_, .inl (.inl hpn)⟩, ?_⟩⟩
    refine for_list (K := K) (a := p) (xs := ys.map V.str) (fun i σ H' => ∃ v2 : Option V, σ = [some v, some (.ref fo), v2] ∧ (∀ x o, H x = some o → H' x = some o) ∧ H' p = some (.lst (ys.map V.str)) ∧ H' fo = some (.lst ((eventsL (ys.take i)).map V.str)))
      ⟨none, rfl, fun x o e => s2 _ _ (s1 x o e), hpn, by
        have : eventsL (ys.take 0) = txts ["ask", "idle", "tick"] := rfl
        rw [this]
        exact s2 _ _ f1⟩ (fun i σ H' _ ⟨_, _, _, h, _⟩ => .inl (.inl h)) ?_ ?_
    · rintro i x σ H3 hx ⟨v2, rfl, k3, p3, f3⟩
      obtain ⟨y, hy, hyi, rfl⟩ := get_map_str hx
      have hyl : y.length ≤ 4 := by
        obtain ⟨ce, hce, rfl⟩ := (h1 y).mp hy
        exact (nm_len (gB.cname ce hce).2.1).1
      have hi : i < ys.length := (List.getElem?_eq_some_iff.mp hyi).1
      have d1 : (Str.ofString "dip ").length = 4 := by decide +kernel
      have d2 : (Str.ofString "spill ").length = 6 := by decide +kernel
      have el : (eventsL (ys.take i)).length ≤ 3 + 2 * i := by
        unfold eventsL
        rw [List.length_append]
        have : ∀ l : List Str, (l.flatMap fun y => [Str.ofString "dip " ++ y, Str.ofString "spill " ++ y]).length = 2 * l.length := fun l => by
          induction l with
          | nil => rfl
          | cons a l ih =>
            rw [List.flatMap_cons, List.length_append, ih, List.length_cons]
            show 2 + 2 * l.length = 2 * (l.length + 1)
            omega
        rw [this, List.length_take]
        show 3 + _ ≤ _
        omega
      refine ⟨_, rfl, .inl ⟨rfl, _, .inl (.inl f3)⟩, _, rfl, _, _, rfl, rfl, len1000 (by omega), _, rfl, _, _, rfl, rfl, len1000 (by omega), by show 2 ≤ sizeLine; decide, fun q hq => ?_⟩
      have s4 := Same.upd_new (o := .lst [V.str (Str.ofString "dip " ++ y), V.str (Str.ofString "spill " ++ y)]) hq
      have hff : H fo = none := hfo
      refine ⟨fo, q, _, _, rfl, rfl, s4 _ _ f3, upd_same, ?_, _, rfl, fun x o e => ?_, ?_, ?_⟩
      · rw [List.length_map]
        exact len1000 (by show (eventsL (ys.take i)).length + 2 ≤ 1000; omega)
      · rw [upd_ne (ne_of_none e hff)]
        exact s4 _ _ (k3 x o e)
      · have : p ≠ fo := (ne_of_none f1 hp).symm
        rw [upd_ne this]
        exact s4 _ _ p3
      · have em : eventsL (ys.take (i + 1)) = eventsL (ys.take i) ++ [Str.ofString "dip " ++ y, Str.ofString "spill " ++ y] := by
          unfold eventsL
          rw [List.take_add_one, hyi, List.flatMap_append, List.append_assoc]
          rfl
        rw [em, upd_same, List.map_append]
        rfl
    · rintro σ H3 ⟨v2, rfl, k3, p3, f3⟩
      rw [List.length_map, List.take_length] at f3
      exact ⟨_, rfl, k fo ys H3 hfo f3 ⟨h1, h2, h3, h4⟩ k3⟩
def DeedW (B : Blk) (ask : Bool) (H : Hp) (d l so : Addr) (n : Nat) (H' : Hp) : Prop := DealAt H' d l ∧ Same H H' ∧ ∃ L : List Str, H' so = some (.lst (L.map V.str)) ∧ L ≠ [] ∧ L.length ≤ n ∧ ∀ z ∈ L, DeedOf B ask z
theorem DeedW.same {B : Blk} {ask : Bool} {H : Hp} {d l so : Addr} {n : Nat} {H1 H2 : Hp} (x : DeedW B ask H d l so n H1) (s : Same H1 H2) : DeedW B ask H d l so n H2 := by
  obtain ⟨h1, h2, L, h3, h4⟩ := x
  exact ⟨h1.same s, h2.trans s, L, s _ _ h3, h4⟩
theorem DeedW.more {B : Blk} {ask : Bool} {H : Hp} {d l so : Addr} {n m : Nat} {H1 : Hp} {L xs : List Str} (h : DeedW B ask H d l so n H1) (hL : H1 so = some (.lst (L.map V.str))) (nd : so ≠ d) (nl : so ≠ l) (hso : H so = none) (hm : n + xs.length ≤ m) (hx : ∀ z ∈ xs, DeedOf B ask z) :
    DeedW B ask H d l so m (upd H1 so (.lst (L.map V.str ++ xs.map V.str))) := by
  obtain ⟨h1, h2, L', h3, h4, h5, h6⟩ := h
  rw [hL] at h3
  have e : L = L' := by
    have : L.map V.str = L'.map V.str := by injection h3 with h3; injection h3
    have q : ∀ a b : List Str, a.map V.str = b.map V.str → a = b := fun a => by
      induction a with
      | nil => intro b hb; cases b with
        | nil => rfl
        | cons _ _ => cases hb
      | cons x a ih => intro b hb; cases b with
        | nil => cases hb
        | cons y b =>
          rw [List.map_cons, List.map_cons] at hb
          injection hb with hb1 hb2
          injection hb1 with hb1
          rw [hb1, ih b hb2]
    exact q _ _ this
  subst e
  refine ⟨h1.upd nd nl, fun q o e => ?_, L ++ xs, ?_, ?_, ?_, fun z hz => ?_⟩
  · rw [upd_ne (ne_of_none e hso)]
    exact h2 q o e
  · rw [upd_same, List.map_append]
  · intro e
    exact h4 (List.append_eq_nil_iff.mp e).1
  · rw [List.length_append]
    omega
  · rcases List.mem_append.mp hz with hz | hz
    · exact h6 z hz
    · exact hx z hz
theorem ok_deed {f1 f2 f3 : FuncData} (F : Fun K "_law_deed" "_law_deed" s_law_deed f fd) (T : TxtA K mg a b c e)
    (G__law_places : FnOk P w K mg base CX0 1 c.places f1 ["_law_block_here"] spPlaces) (b__law_places : Binds K f1 ["_law_block_here"] [])
    (G__law_fences : FnOk P w K mg base CX0 1 c.fences f2 ["_law_block_here"] spFences) (b__law_fences : Binds K f2 ["_law_block_here"] [])
    (G__law_pick : FnOk P w K mg base CX0 2 a.pick f3 ["_law_deal_here", "_law_some"] (spPick K)) (b__law_pick : Binds K f3 ["_law_deal_here", "_law_some"] []) :
    FnOk P w K mg base CX0 3 f fd ["_law_deal_here", "_law_block_here", "_law_is_ask"] (spDeed m s) := by
  refine F.ok sc_law_deed (fun vs H Q E h => ?_) (fun cdv A outer sh H vs Q E hr h => ?_)
  · obtain ⟨_, _, _, _, _, rfl, _⟩ := h
    rfl
  · obtain ⟨d, l, v, B, ask, rfl, D, hB, gB, hm, hs, k⟩ := h
    have hcl := gB.clen
    have hel := gB.elen
    have rest : ∃ t, PSs (cxOf CX0 P w K mg base N_law_deed "_law_deed" (defScope s_law_deed) f cdv A outer sh H E).nox ((defBody s_law_deed).drop 1) t ∧
        ∀ (so : Addr) (H1 : Hp), so ≠ d → so ≠ l → H so = none → DeedW B ask H d l so 6 H1 → t { nx := fun _ H' => Q .non H', rt := Q } [some (.ref d), some v, some (.bl ask), some (.ref so), none, none, none] H1 := by
      refine ⟨_, (pss_cons (ps_for PassesOwn.never rfl (pi_list (pe_call G__law_places (hr.mono (by decide)) rfl T.g__law_places T.k__law_places b__law_places .nil pass0 (pa_cons (pv 1) pa_nil))) (pg_name (i := 4) sc_law_deed.nd rfl (Or.inr rfl))
      (pss_one (ps_expr (pe_bm PySem.F.plainAttrs_list PySem.F.slot_list_extend PySem.F.type_list_extend mt_extend (pv 3) (pa_cons (pe_lc (own := [("_law_word", 6)]) (g := gName 6) (tt := tYes) rfl sc_law_deed.nd (pi_list (pe_lst (pa_cons pe_str (pa_cons pe_str (pa_cons pe_str (pa_cons pe_str (pa_cons pe_str pa_nil))))))) (blkOk_by (N := N_law_deed) (sc := defScope s_law_deed) (by decide +kernel)) (fun _ _ _ _ _ => (pg_name (i := 6) sc_law_deed.nd rfl (Or.inl rfl))) (fun _ _ _ _ _ => pts_nil) (fun _ _ _ _ _ => (pe_op op_add_str (pe_op op_add_str (pv 6) pe_str) (pv 4)))) pa_nil)))))
    (pss_cons (ps_for PassesOwn.never rfl (pi_list (pe_call G__law_fences (hr.mono (by decide)) rfl T.g__law_fences T.k__law_fences b__law_fences .nil pass0 (pa_cons (pv 1) pa_nil))) (pg_name (i := 5) sc_law_deed.nd rfl (Or.inl rfl))
      (pss_one (ps_expr (pe_bm PySem.F.plainAttrs_list PySem.F.slot_list_extend PySem.F.type_list_extend mt_extend (pv 3) (pa_cons (pe_lst (pa_cons (pe_op op_add_str pe_str (pv 5)) (pa_cons (pe_op op_add_str pe_str (pv 5)) pa_nil))) pa_nil)))))
    (pss_one (ps_ret (pe_call G__law_pick (hr.mono (by decide)) rfl T.g__law_pick T.k__law_pick b__law_pick .nil pass0 (pa_cons (pv 0) (pa_cons (pv 3) pa_nil))))))), ?_⟩
      intro so H1 nd nl hso W1
      refine ⟨_, rfl, v, B, rfl, BlkAt.stay (Same.tups W1.2.1) hB, by omega, fun p ys H2 hp hpn h1 h2 h3 h4 s2 => ⟨p, rfl, ⟨_, .inl (.inl hpn)⟩, ?_⟩⟩
      have pso : p ≠ so := by
        obtain ⟨_, _, L, hL, _⟩ := W1
        exact (ne_of_none hL hp).symm
      replace W1 := W1.same s2
      refine for_list (K := K) (a := p) (xs := ys.map V.str) (fun i σ H' => ∃ v4 : Option V, σ = [some (.ref d), some v, some (.bl ask), some (.ref so), v4, none, none] ∧ DeedW B ask H d l so (6 + 5 * i) H' ∧ H' p = some (.lst (ys.map V.str)))
        ⟨none, rfl, W1, hpn⟩ (fun i σ H' _ ⟨_, _, _, h⟩ => .inl (.inl h)) ?_ ?_
      · rintro i x σ H3 hx ⟨v4, rfl, W3, p3⟩
        obtain ⟨y, hy, hyi, rfl⟩ := get_map_str hx
        have hyl : y.length ≤ 4 := by
          obtain ⟨ce, hce, rfl⟩ := (h1 y).mp hy
          exact (nm_len (gB.cname ce hce).2.1).1
        have hi : i < ys.length := (List.getElem?_eq_some_iff.mp hyi).1
        obtain ⟨L, hL, hLn, hLl⟩ : ∃ L : List Str, H3 so = some (.lst (L.map V.str)) ∧ L ≠ [] ∧ L.length ≤ 6 + 5 * i := by
          obtain ⟨_, _, L, a1, a2, a3, _⟩ := W3
          exact ⟨L, a1, a2, a3⟩
        refine ⟨_, rfl, .inl ⟨rfl, _, .inl (.inl hL)⟩, (by show 5 ≤ sizeLine; decide), fun q hq => ⟨q, rfl, ⟨_, .inl (.inl upd_same)⟩, fun D1 hD1 => ?_⟩⟩
        have s4 := Same.upd_new (o := .lst (areaW.map V.str)) hq
        have q4 : (upd H3 q (.lst (areaW.map V.str))) q = some (.lst (areaW.map V.str)) := upd_same
        refine lc_list (K := K) (a := q) (xs := areaW.map V.str) (fun j H' => Same H3 H' ∧ H' q = some (.lst (areaW.map V.str)) ∧ H' D1 = some (.lst (((areaW.take j).map fun u => u ++ Str.ofString " " ++ y).map V.str)))
          ⟨s4.trans (Same.upd_new hD1), Same.upd_new hD1 _ _ q4, upd_same⟩ (fun j H' _ h => .inl (.inl h.2.1)) ?_ ?_
        · rintro j x H' hx' ⟨t1, t2, t3⟩
          obtain ⟨u, hu, hui, rfl⟩ := get_map_str hx'
          obtain ⟨_, _, hul⟩ := area_w u hu
          have hj : j < 5 := (List.getElem?_eq_some_iff.mp hui).1
          refine ⟨rfl, _, rfl, _, _, rfl, rfl, len1000 (by rw [sp_len]; omega), _, rfl, _, _, rfl, rfl, len1000 (by rw [app_len, sp_len]; omega), _, t3, ?_, fun b o e => ?_, ?_, ?_⟩
          · rw [List.length_map, List.length_map, List.length_take]
            exact small1000 (by omega)
          · rw [upd_ne (ne_of_none (s4 _ _ e) hD1)]
            exact t1 b o e
          · rw [upd_ne (ne_of_none q4 hD1)]
            exact t2
          · rw [take_succ_map _ hui, List.map_append]
            exact upd_same
        · rintro H4 ⟨t1, t2, t3⟩
          rw [List.length_map, List.take_length] at t3
          refine ⟨so, D1, _, _, rfl, rfl, t1 _ _ hL, t3, ?_, _, rfl, (W3.same t1).more (t1 _ _ hL) nd nl hso (by show 6 + 5 * i + 5 ≤ _; omega) fun z hz => ?_, ?_⟩
          · rw [List.length_map, List.length_map]
            exact len1000 (by show L.length + 5 ≤ 1000; omega)
          · obtain ⟨u, hu, rfl⟩ := List.mem_map.mp hz
            exact .area hu ((h1 y).mp hy)
          · rw [upd_ne pso]
            exact t1 _ _ p3
      · rintro σ H3 ⟨v4, rfl, W3, p3⟩
        rw [List.length_map] at W3
        clear p3 W1 s2 hpn pso hp
        refine ⟨_, rfl, v, B, rfl, BlkAt.stay (Same.tups W3.2.1) hB, by omega, fun p zs H4 hp hpn k1 k2 k3 k4 s4 => ⟨p, rfl, ⟨_, .inl (.inl hpn)⟩, ?_⟩⟩
        have pso : p ≠ so := by
          obtain ⟨_, _, L, hL, _⟩ := W3
          exact (ne_of_none hL hp).symm
        replace W3 := W3.same s4
        refine for_list (K := K) (a := p) (xs := zs.map V.str) (fun i σ H' => ∃ v5 : Option V, σ = [some (.ref d), some v, some (.bl ask), some (.ref so), v4, v5, none] ∧ DeedW B ask H d l so (6 + 5 * ys.length + 2 * i) H' ∧ H' p = some (.lst (zs.map V.str)))
          ⟨none, rfl, W3, hpn⟩ (fun i σ H' _ ⟨_, _, _, h⟩ => .inl (.inl h)) ?_ ?_
        · rintro i x σ H5 hx ⟨v5, rfl, W5, p5⟩
          obtain ⟨y, hy, hyi, rfl⟩ := get_map_str hx
          have hyl : y.length ≤ 4 := by
            obtain ⟨ed, hed, hf⟩ := (k1 y).mp hy
            exact (nm_len ((gB.ename ed hed).2.1 _ hf)).1
          have hi : i < zs.length := (List.getElem?_eq_some_iff.mp hyi).1
          obtain ⟨L, hL, hLn, hLl⟩ : ∃ L : List Str, H5 so = some (.lst (L.map V.str)) ∧ L ≠ [] ∧ L.length ≤ 6 + 5 * ys.length + 2 * i := by
            obtain ⟨_, _, L, a1, a2, a3, _⟩ := W5
            exact ⟨L, a1, a2, a3⟩
          have d1 : (Str.ofString "fence ").length = 6 := by decide +kernel
          have d2 : (Str.ofString "open ").length = 5 := by decide +kernel
          refine ⟨_, rfl, .inl ⟨rfl, _, .inl (.inl hL)⟩, _, rfl, _, _, rfl, rfl, len1000 (by omega), _, rfl, _, _, rfl, rfl, len1000 (by omega), (by show 2 ≤ sizeLine; decide), fun q hq => ?_⟩
          have t1 := Same.upd_new (o := .lst [V.str (Str.ofString "fence " ++ y), V.str (Str.ofString "open " ++ y)]) hq
          refine ⟨so, q, _, _, rfl, rfl, t1 _ _ hL, upd_same, ?_, _, rfl, (W5.same t1).more (xs := [Str.ofString "fence " ++ y, Str.ofString "open " ++ y]) (t1 _ _ hL) nd nl hso (by show _ + 2 ≤ _; omega) fun z hz => ?_, ?_⟩
          · rw [List.length_map]
            exact len1000 (by show L.length + 2 ≤ 1000; omega)
          · rcases List.mem_cons.mp hz with rfl | hz
            · have : Str.ofString "fence " = Str.ofString "fence" ++ Str.ofString " " := by decide +kernel
              rw [this]
              exact .fence (by decide +kernel) ((k1 y).mp hy)
            · rw [List.mem_singleton.mp hz]
              have : Str.ofString "open " = Str.ofString "open" ++ Str.ofString " " := by decide +kernel
              rw [this]
              exact .fence (by decide +kernel) ((k1 y).mp hy)
          · rw [upd_ne pso]
            exact t1 _ _ p5
        · rintro σ H5 ⟨v5, rfl, W5, p5⟩
          rw [List.length_map] at W5
          obtain ⟨D5, s5, L, hL, hLn, hLl, hLd⟩ := W5
          refine ⟨_, rfl, _, rfl, d, l, so, _, rfl, D5, hL, nd, nl, (by intro e; exact hLn (List.map_eq_nil_iff.mp e)), by rw [List.length_map]; omega, fun x H6 hx D6 kp6 => ?_⟩
          obtain ⟨z, hz, rfl⟩ := List.mem_map.mp hx
          exact k z H6 (hLd z hz) D6 ((Keep.same s5).trans kp6)
    obtain ⟨tr, hrest, krest⟩ := rest
    refine ⟨_, pss_cons (ps_set (i := 3) sc_law_deed.nd rfl (Or.inl rfl) (pe_op op_cat (pe_lst (pa_cons pe_str (pa_cons pe_str (pa_cons pe_str (pa_cons pe_str pa_nil))))) (pe_ifExp (pt_val (pv 2)) (pe_lst (pa_cons pe_str (pa_cons pe_str pa_nil))) (pe_lst pa_nil)))) hrest, ?_⟩
    refine ⟨by show 4 ≤ sizeLine; decide, fun p1 hp1 => ⟨_, rfl, _, rfl, ?_⟩⟩
    have pl : ∀ z ∈ plainDs, DeedOf B ask z := fun z hz => .plain hz
    refine ite_bool (fun ea => ⟨by show 2 ≤ sizeLine; decide, fun p2 hp2 => ?_⟩) (fun _ => ⟨by show 0 ≤ sizeLine; decide, fun p2 hp2 => ?_⟩)
    · have s2 := (Same.upd_new (o := .lst (plainDs.map V.str)) hp1).trans (Same.upd_new (o := .lst ([Str.ofString "note", Str.ofString "note"].map V.str)) hp2)
      refine ⟨p1, p2, _, _, rfl, rfl, Same.upd_new hp2 _ _ upd_same, upd_same, (by show 6 ≤ sizeLine; decide), fun so hso => ?_⟩
      refine krest so _ (DealAt.nd (D.same s2) hso) (DealAt.nl (D.same s2) hso) (s2.free hso) ⟨(D.same s2).same (Same.upd_new hso), s2.trans (Same.upd_new hso), plainDs ++ [Str.ofString "note", Str.ofString "note"], upd_same, (by intro e; cases e), (by show 6 ≤ 6; decide), fun z hz => ?_⟩
      rcases List.mem_append.mp hz with hz | hz
      · exact pl z hz
      · have : z = Str.ofString "note" := by
          simp only [List.mem_cons, List.not_mem_nil, or_false, or_self] at hz
          exact hz
        rw [this]
        exact .note ea
    · have s2 := (Same.upd_new (o := .lst (plainDs.map V.str)) hp1).trans (Same.upd_new (o := .lst (([] : List Str).map V.str)) hp2)
      refine ⟨p1, p2, _, _, rfl, rfl, Same.upd_new hp2 _ _ upd_same, upd_same, (by show 4 ≤ sizeLine; decide), fun so hso => ?_⟩
      exact krest so _ (DealAt.nd (D.same s2) hso) (DealAt.nl (D.same s2) hso) (s2.free hso) ⟨(D.same s2).same (Same.upd_new hso), s2.trans (Same.upd_new hso), plainDs, upd_same, (by intro e; cases e), (by show 4 ≤ 6; decide), pl⟩
theorem ok_any_rule {f1 f2 f3 f4 : FuncData} (F : Fun K "_law_any_rule" "_law_any_rule" s_law_any_rule f fd) (T : TxtA K mg a b c e)
    (G__law_all_events : FnOk P w K mg base CX0 2 e.all_events f1 ["_law_block_here"] (spAllEvents m s)) (b__law_all_events : Binds K f1 ["_law_block_here"] [])
    (G__law_deed : FnOk P w K mg base CX0 3 e.deed f2 ["_law_deal_here", "_law_block_here", "_law_is_ask"] (spDeed m s)) (b__law_deed : Binds K f2 ["_law_deal_here", "_law_block_here", "_law_is_ask"] [])
    (G__law_draw : FnOk P w K mg base CX0 1 a.draw f4 ["_law_deal_here", "_law_many"] spDraw) (b__law_draw : Binds K f4 ["_law_deal_here", "_law_many"] [])
    (G__law_pick : FnOk P w K mg base CX0 2 a.pick f3 ["_law_deal_here", "_law_some"] (spPick K)) (b__law_pick : Binds K f3 ["_law_deal_here", "_law_some"] []) :
    FnOk P w K mg base CX0 4 f fd ["_law_deal_here", "_law_block_here", "_law_states"] (spAnyRule m s) := by
  refine F.ok sc_law_any_rule (fun vs H Q E h => ?_) (fun cdv A outer sh H vs Q E hr h => ?_)
  · obtain ⟨_, _, _, _, _, _, rfl, _⟩ := h
    rfl
  · obtain ⟨d, l, sn, v, B, zs, rfl, D, hB, gB, hm, hs, hsn, nd, nl, hne, hlen, k⟩ := h
    refine ⟨_, (pss_cons (ps_set (i := 3) sc_law_any_rule.nd rfl (Or.inr rfl) (pe_call G__law_pick (hr.mono (by decide)) rfl T.g__law_pick T.k__law_pick b__law_pick .nil pass0 (pa_cons (pv 0) (pa_cons (pe_op op_cat (pe_lst (pa_cons pe_str (pa_cons pe_str (pa_cons pe_str (pa_cons pe_str (pa_cons pe_str pa_nil)))))) (pe_call G__law_all_events (hr.mono (by decide)) rfl T.g__law_all_events T.k__law_all_events b__law_all_events .nil pass0 (pa_cons (pv 1) pa_nil))) pa_nil))))
    (pss_cons (ps_setLc (i := 4) (own := [("_law_turn", 6)]) (g := gName 6) (tt := tYes) rfl sc_law_any_rule.nd rfl rfl (sw_true rfl rfl rfl (by decide +kernel)) (pi_range1 rfl T.b_range (pa_cons (pe_call G__law_draw (hr.mono (by decide)) rfl T.g__law_draw T.k__law_draw b__law_draw .nil pass0 (pa_cons (pv 0) (pa_cons pe_int pa_nil))) pa_nil)) (blkOk_by (N := N_law_any_rule) (sc := defScope s_law_any_rule) (by decide +kernel)) (fun _ _ _ _ _ => (pg_name (i := 6) sc_law_any_rule.nd rfl (Or.inl rfl))) (fun _ _ _ _ _ => pts_nil) (fun _ _ _ _ _ => (pe_call G__law_deed (hr.mono (by decide)) rfl T.g__law_deed T.k__law_deed b__law_deed .nil pass0 (pa_cons (pv 0) (pa_cons (pv 1) (pa_cons (pe_cmpR op_eq (pv 3) pe_str (nomark _)) pa_nil))))))
    (pss_cons (ps_set (i := 5) sc_law_any_rule.nd rfl (Or.inl rfl) (pe_call G__law_pick (hr.mono (by decide)) rfl T.g__law_pick T.k__law_pick b__law_pick .nil pass0 (pa_cons (pv 0) (pa_cons (pe_lst (pa_cons pe_str (pa_cons pe_str (pa_cons pe_str (pa_cons pe_str pa_nil))))) pa_nil))))
    (pss_one (ps_ret (pe_tup (pa_cons (pe_call G__law_pick (hr.mono (by decide)) rfl T.g__law_pick T.k__law_pick b__law_pick .nil pass0 (pa_cons (pv 0) (pa_cons (pv 2) pa_nil))) (pa_cons (pv 3) (pa_cons (pv 5) (pa_cons (pe_call G__law_pick (hr.mono (by decide)) rfl T.g__law_pick T.k__law_pick b__law_pick .nil pass0 (pa_cons (pv 0) (pa_cons (pv 2) pa_nil))) (pa_cons (pv 4) pa_nil))))))))))), ?_⟩
    refine ⟨_, rfl, (by show 5 ≤ sizeLine; decide), fun p1 hp1 => ?_⟩
    have s1 := Same.upd_new (o := .lst ((txts ["ask", "ask", "idle", "tick", "tick"]).map V.str)) hp1
    refine ⟨_, rfl, v, B, rfl, BlkAt.stay (Same.tups s1) hB, gB, hm, fun p2 ys H2 hp2 hpn2 ar s2 => ?_⟩
    have hcl := gB.clen
    obtain ⟨ar1, ar2, ar3, ar4⟩ := ar
    have s12 : Same H H2 := fun b o e => s2 _ _ (s1 b o e)
    have el : (eventsL ys).length ≤ 23 := by
      unfold eventsL
      rw [List.length_append]
      have : ∀ l : List Str, (l.flatMap fun y => [Str.ofString "dip " ++ y, Str.ofString "spill " ++ y]).length = 2 * l.length := fun l => by
        induction l with
        | nil => rfl
        | cons a l ih =>
          rw [List.flatMap_cons, List.length_append, ih, List.length_cons]
          show 2 + 2 * l.length = 2 * (l.length + 1)
          omega
      rw [this]
      show 3 + _ ≤ _
      omega
    have hev : ∀ z ∈ txts ["ask", "ask", "idle", "tick", "tick"] ++ eventsL ys, EventOf B z := fun z hz => by
      rcases List.mem_append.mp hz with hz | hz
      · refine .inl ?_
        have : ∀ z ∈ txts ["ask", "ask", "idle", "tick", "tick"], z ∈ txts ["ask", "idle", "tick"] := by decide +kernel
        exact this z hz
      · unfold eventsL at hz
        rcases List.mem_append.mp hz with hz | hz
        · exact .inl hz
        · obtain ⟨y, hy, hz⟩ := List.mem_flatMap.mp hz
          refine .inr ⟨y, (ar1 y).mp hy, ?_⟩
          rcases List.mem_cons.mp hz with hz | hz
          · rw [hz, dip_eq]
            exact .inl rfl
          · rw [List.mem_singleton.mp hz, spill_eq]
            exact .inr rfl
    refine ⟨_, _, _, _, rfl, rfl, s2 _ _ upd_same, hpn2, ?_, fun p3 hp3 => ?_⟩
    · rw [List.length_map]
      exact len1000 (by show 5 + (eventsL ys).length ≤ 1000; omega)
    have D2 := D.same s12
    have s3 : Same H2 (upd H2 p3 (.lst ((txts ["ask", "ask", "idle", "tick", "tick"] ++ eventsL ys).map V.str))) := Same.upd_new hp3
    rw [show ([V.str "ask", V.str "ask", V.str "idle", V.str "tick", V.str "tick"] ++ (eventsL ys).map V.str) = (txts ["ask", "ask", "idle", "tick", "tick"] ++ eventsL ys).map V.str by rw [List.map_append]; rfl]
    refine ⟨d, l, p3, _, rfl, D2.same s3, upd_same, D2.nd hp3, D2.nl hp3, (by intro e; cases e), (by rw [List.length_map, List.length_append]; show 5 + _ ≤ _; omega), fun x H4 hx D4 kp4 => ?_⟩
    obtain ⟨ev, hevm, rfl⟩ := List.mem_map.mp hx
    have kp : Keep d l H H4 := (Keep.same (s12.trans s3)).trans kp4
    clear kp4 s3 D2 s2 s1 hp1 hp2 hpn2 hp3
    -- the deeds
    refine ⟨_, rfl, d, l, 5, rfl, D4, by decide, by decide, fun r H5 r0 r1 D5 kp5 => ?_⟩
    replace kp := kp.trans kp5
    refine ⟨r, rfl, by omega, by omega, fun D1 hD1 => ?_⟩
    have d1d := D5.nd hD1
    have d1l := D5.nl hD1
    have hD0 : H D1 = none := kp.free D D5 hD1
    refine lc_range (fun i H' => DealAt H' d l ∧ Keep d l H H' ∧ ∃ L : List Str, H' D1 = some (.lst (L.map V.str)) ∧ L.length = i ∧ ∀ z ∈ L, DeedOf B (decide (V.str ev = V.str (Str.ofString "ask"))) z)
      ⟨D5.same (Same.upd_new hD1), kp.trans (Keep.same (Same.upd_new hD1)), [], upd_same, rfl, fun _ h => by cases h⟩ ?_ ?_
    · rintro i H' hi ⟨D', kp', L, hL, hLi, hLd⟩
      refine ⟨rfl, _, rfl, _, rfl, _, rfl, rfl, d, l, v, B, _, rfl, D', BlkAt.stay (D.tups kp') hB, gB, hm, hs, fun z H6 hz D6 kp6 => ?_⟩
      refine ⟨_, kp6 _ _ hL d1d d1l, ?_, D6.upd d1d d1l, ?_, L ++ [z], ?_, ?_, ?_⟩
      · rw [List.length_map]
        exact small1000 (by omega)
      · intro b o e h1 h2
        rw [upd_ne (ne_of_none e hD0)]
        exact kp6 _ _ (kp' _ _ e h1 h2) h1 h2
      · rw [upd_same, List.map_append]
        rfl
      · rw [List.length_append, hLi]
        rfl
      · intro y hy
        rcases List.mem_append.mp hy with hy | hy
        · exact hLd y hy
        · rw [List.mem_singleton.mp hy]
          exact hz
    · rintro H6 ⟨D6, kp6, L, hL, hLi, hLd⟩
      refine ⟨_, rfl, (by show 4 ≤ sizeLine; decide), fun p4 hp4 => ?_⟩
      have s7 := Same.upd_new (o := .lst ((txts ["any", "any", "waits", "calm"]).map V.str)) hp4
      refine ⟨d, l, p4, _, rfl, D6.same s7, upd_same, D6.nd hp4, D6.nl hp4, (by intro e; cases e), (by show 4 ≤ 1000; decide), fun x H8 hx D8 kp8 => ?_⟩
      have kp9 : Keep d l H H8 := (kp6.trans (Keep.same s7)).trans kp8
      have hL8 := kp8 _ _ (s7 _ _ hL) d1d d1l
      obtain ⟨gd, hgd, rfl⟩ : ∃ g, g ∈ guardL ∧ x = V.str g := by
        have : x ∈ (txts ["any", "any", "waits", "calm"]).map V.str := hx
        obtain ⟨g, hg, rfl⟩ := List.mem_map.mp this
        have q : ∀ z ∈ txts ["any", "any", "waits", "calm"], z ∈ guardL := by decide +kernel
        exact ⟨g, q g hg, rfl⟩
      have zne : zs.map V.str ≠ [] := fun e => hne (List.map_eq_nil_iff.mp e)
      refine ⟨_, rfl, _, rfl, d, l, sn, _, rfl, D8, kp9 _ _ hsn nd nl, nd, nl, zne, by rw [List.length_map]; exact hlen, fun x H9 hx D9 kpA => ?_⟩
      obtain ⟨st, hst, rfl⟩ := List.mem_map.mp hx
      have kpB := kp9.trans kpA
      refine ⟨_, rfl, _, rfl, _, rfl, _, rfl, d, l, sn, _, rfl, D9, kpB _ _ hsn nd nl, nd, nl, zne, by rw [List.length_map]; exact hlen, fun x HA hx DA kpC => ?_⟩
      obtain ⟨th, hth, rfl⟩ := List.mem_map.mp hx
      have kpD := kpB.trans kpC
      have hLA := kpC _ _ (kpA _ _ hL8 d1d d1l) d1d d1l
      refine ⟨_, rfl, (by show 5 ≤ sizeLine; decide), fun t ht => ?_⟩
      have sT := Same.upd_new (o := .tup [.str st, .str ev, .str gd, .str th, .ref D1]) ht
      exact k t D1 ⟨st, ev, gd, th, L⟩ _ upd_same hD0 (sT _ _ hLA) (by show L.length ≤ 4; omega) ⟨hst, hth, hev ev hevm, hgd, hLd⟩ (DA.same sT) (kpD.trans (Keep.same sT))
end
end L2.Wk
namespace L2.Wk
open PySem PySem.Spec PyProof.Rows
abbrev s_law_mixed : Stmt := top 44
abbrev N_law_mixed : List Str := ["_law_deal_here", "_law_some", "_law_left", "_law_found"]
theorem sc_law_mixed : FnScope N_law_mixed ["_law_deal_here", "_law_some"] (defScope s_law_mixed) := ⟨rfl, rfl, rfl, by decide +kernel, rfl, by decide +kernel, by decide +kernel⟩
def spMixed : Sp := fun vs H Q _ => ∃ (d l s : Addr) (zs : List Str), vs = [.ref d, .ref s] ∧ DealAt H d l ∧ H s = some (.lst (zs.map V.str)) ∧ s ≠ d ∧ s ≠ l ∧ zs.length ≤ 1000 ∧ (∀ z ∈ zs, PyData.strOk z = true) ∧
  ∀ (p : Addr) (ys : List Str) (H' : Hp), H p = none → H' p = some (.lst (ys.map V.str)) → ys.length = zs.length → (∀ y ∈ ys, y ∈ zs) → DealAt H' d l → Keep d l H H' → Q (.ref p) H'
/-- xs is left, ys is found -/
def MixW (d l s L F : Addr) (zs : List Str) (H : Hp) (m : Nat) (σ : L2.St) (H' : Hp) : Prop := ∃ xs ys : List Str, σ = [some (.ref d), some (.ref s), some (.ref L), some (.ref F)] ∧ H' L = some (.lst (xs.map V.str)) ∧ H' F = some (.lst (ys.map V.str)) ∧
  (∀ x ∈ xs, x ∈ zs) ∧ (∀ y ∈ ys, y ∈ zs) ∧ ys.length + xs.length = zs.length ∧ DealAt H' d l ∧ Keep d l H H' ∧ m = xs.length
section
variable {P : Program} {w : World} {K : PySem.W.Frag} {mg : Str → Option Value} {base : Heap} {a : Ds} {f : Addr} {fd : FuncData}
theorem ok_mixed {f1 : FuncData} (F : Fun K "_law_mixed" "_law_mixed" s_law_mixed f fd) (T : TxtD K mg a) (G__law_draw : FnOk P w K mg base CX0 1 a.draw f1 ["_law_deal_here", "_law_many"] spDraw) (b__law_draw : Binds K f1 ["_law_deal_here", "_law_many"] []) :
    FnOk P w K mg base CX0 2 f fd ["_law_deal_here", "_law_some"] spMixed := by
  refine F.ok sc_law_mixed (fun vs H Q E h => ?_) (fun cdv A outer s H vs Q E hr h => ?_)
  · obtain ⟨_, _, _, _, rfl, _⟩ := h
    rfl
  · obtain ⟨d, l, sa, zs, rfl, D, hs, e1, e2, hlen, hok, k⟩ := h
    refine ⟨_, (pss_cons (ps_par (i := 2) (j := 3) rfl sc_law_mixed.nd rfl rfl (by decide) rfl rfl (pa_cons (pe_callTy call_list_of (by rfl) T.b_list (by decide +kernel) (pa_cons (pv 1) pa_nil)) (pa_cons (pe_lst pa_nil) pa_nil)) rfl)
    (pss_cons (ps_while PassesOwn.never (pt_cmpR (op_neD hr.units) (pv 2) (pe_lst pa_nil) (nomark _)) (pss_one (ps_expr (pe_bm PySem.F.plainAttrs_list PySem.F.slot_list_append PySem.F.type_list_append mt_append (pv 3) (pa_cons (pe_bm PySem.F.plainAttrs_list PySem.F.slot_list_pop PySem.F.type_list_pop mt_popAt (pv 2) (pa_cons (pe_call G__law_draw (hr.mono (by decide)) rfl T.g__law_draw T.k__law_draw b__law_draw .nil pass0 (pa_cons (pv 0) (pa_cons (pe_callB call_len (by rfl) T.b_len PySem.boot_len (pa_cons (pv 2) pa_nil)) pa_nil))) pa_nil)) pa_nil)))))
    (pss_one (ps_ret (pv 3))))), ?_⟩
    refine ⟨_, rfl, _, _, rfl, .inl (.inl (.inl hs)), fun L hL => ⟨by decide, fun FF hF => ⟨_, _, rfl, ?_⟩⟩⟩
    have nLF : L ≠ FF := ne_of_none upd_same hF
    have hF0 : H FF = none := by
      rw [upd_ne nLF.symm] at hF
      exact hF
    have sm : Same H (upd (upd H L (.lst (zs.map V.str))) FF (.lst [])) := (Same.upd_new hL).trans (Same.upd_new hF)
    have dL := D.nd hL
    have lL := D.nl hL
    have dF := D.nd hF0
    have lF := D.nl hF0
    refine ⟨MixW d l sa L FF zs H, ⟨_, zs, [], rfl, by rw [upd_ne nLF]; exact upd_same, upd_same, (fun _ h => h), (fun _ h => by cases h), (by simp), D.same sm, Keep.same sm, rfl⟩, ?_⟩
    rintro m σ H1 ⟨xs, ys, rfl, h1, h2, x1, y1, ln, D1, kp, rfl⟩
    refine ⟨_, rfl, by decide, fun p hp => ?_⟩
    have s2 : Same H1 (upd H1 p (.lst [])) := Same.upd_new hp
    refine ne_nil (.inl (.inl (s2 _ _ h1))) (dp_strs xs) (shaped_strs fun z hz => hok z (x1 z hz)) upd_same ⟨_, rfl, ?_⟩
    replace h1 := s2 _ _ h1
    replace h2 := s2 _ _ h2
    replace kp := kp.trans (Keep.same (d := d) (l := l) s2)
    replace D1 := D1.same s2
    generalize upd H1 p (.lst []) = H2 at h1 h2 kp D1
    cases exs : xs with
    | nil =>
      refine iteF ?_
      rw [exs] at ln
      exact ⟨_, rfl, k FF ys H2 hF0 h2 (by simpa using ln) y1 D1 kp⟩
    | cons c cs =>
      refine iteT ⟨MixW d l sa L FF zs H (xs.length - 1), fun σ' H' w => ⟨_, ?_, w⟩, ?_⟩
      · rw [exs]
        simp
      have hpos : 0 < xs.length := by rw [exs]; simp
      refine ⟨_, rfl, .inl ⟨rfl, _, .inl (.inl h2)⟩, _, rfl, .inl ⟨rfl, _, .inl (.inl h1)⟩, _, rfl, _, rfl, _, xs.length, rfl, .inl ⟨_, .inl (.inl h1), by rw [List.length_map]⟩, d, l, _, rfl, D1, by omega, by omega, fun r H3 r0 r1 D3 kp3 => ?_⟩
      obtain ⟨j, rfl⟩ := Int.eq_ofNat_of_zero_le r0
      have hj : j < xs.length := by omega
      have h13 := kp3 _ _ h1 dL lL
      have h23 := kp3 _ _ h2 dF lF
      refine ⟨L, _, (j : Int), j, V.str xs[j], rfl, rfl, h13, by omega, by omega, ?_, ?_, ?_⟩
      · rw [List.length_map]
        exact seq_ix hj
      · rw [List.getElem?_map, List.getElem?_eq_getElem hj]
        rfl
      refine ⟨FF, ys.map V.str, _, rfl, rfl, (by rw [upd_ne nLF.symm]; exact h23), ?_, xs.eraseIdx j, ys ++ [xs[j]], rfl, ?_, ?_, ?_, ?_, ?_, ?_, ?_, ?_⟩
      · rw [List.length_map]
        exact small1000 (by omega)
      · rw [upd_ne nLF, upd_same, map_erase]
      · rw [List.map_append]
        exact upd_same
      · intro x hx
        exact x1 x (List.mem_of_mem_eraseIdx hx)
      · intro y hy
        rcases List.mem_append.mp hy with hy | hy
        · exact y1 y hy
        · rw [List.mem_singleton.mp hy]
          exact x1 _ (List.getElem_mem hj)
      · rw [List.length_append, List.length_eraseIdx_of_lt hj]
        simp only [List.length_cons, List.length_nil]
        omega
      · exact (D3.upd dL lL).upd dF lF
      · exact fun b o e q1 q2 => by
          rw [upd_ne (ne_of_none e hF0), upd_ne (ne_of_none e hL)]
          exact (kp.trans kp3) b o e q1 q2
      · rw [List.length_eraseIdx_of_lt hj]
end
end L2.Wk
namespace L2.Wk
open PySem PySem.Spec PyProof.Rows
abbrev s_law_sleep_row : Stmt := top 57
abbrev N_law_sleep_row : List Str := ["_law_deal_here", "_law_block_here", "_law_cut", "_law_row", "_law_place", "_law_name"]
theorem sc_law_sleep_row : FnScope N_law_sleep_row ["_law_deal_here", "_law_block_here"] (defScope s_law_sleep_row) := ⟨rfl, rfl, rfl, by decide +kernel, rfl, by decide +kernel, by decide +kernel⟩
abbrev s_law_wake_row : Stmt := top 58
abbrev N_law_wake_row : List Str := ["_law_deal_here", "_law_block_here", "_law_places_here", "_law_row", "_law_place", "_law_name"]
theorem sc_law_wake_row : FnScope N_law_wake_row ["_law_deal_here", "_law_block_here"] (defScope s_law_wake_row) := ⟨rfl, rfl, rfl, by decide +kernel, rfl, by decide +kernel, by decide +kernel⟩
abbrev s_law_spoilt_row : Stmt := top 59
abbrev N_law_spoilt_row : List Str := ["_law_deal_here", "_law_row", "_law_form", "_law_at", "_law_to", "_law_found"]
theorem sc_law_spoilt_row : FnScope N_law_spoilt_row ["_law_deal_here", "_law_row"] (defScope s_law_spoilt_row) := ⟨rfl, rfl, rfl, by decide +kernel, rfl, by decide +kernel, by decide +kernel⟩
theorem cutS {α : Type} (xs : List α) (f : α → V) (lo hi : Option Int) : cutV (xs.map f) lo hi = (cutL xs lo hi).map f := cut_map f xs lo hi
theorem cutL_le {α : Type} (xs : List α) (lo hi : Option Int) : (cutL xs lo hi).length ≤ xs.length := by
  unfold cutL
  rw [List.length_take, List.length_drop]
  omega
def spSpoilt (n : Nat) : Sp := fun vs H Q _ => ∃ (d l s : Addr) (zs : List Str), vs = [.ref d, .ref s] ∧ DealAt H d l ∧ H s = some (.lst (zs.map V.str)) ∧ s ≠ d ∧ s ≠ l ∧ zs ≠ [] ∧ zs.length ≤ n ∧ n ≤ 400 ∧
  ∀ (p : Addr) (ys : List Str) (H' : Hp), (p = s ∨ H p = none) → H' p = some (.lst (ys.map V.str)) → ys.length ≤ n → (∀ y ∈ ys, y ∈ zs) → DealAt H' d l → Keep d l H H' → Q (.ref p) H'
def spRow (m s : Nat) : Sp := fun vs H Q _ => ∃ (d l : Addr) (v : V) (B : Blk), vs = [.ref d, v] ∧ DealAt H d l ∧ BlkAt H v B ∧ BlkGood B m s ∧ m ≤ 10 ∧ s ≤ 10 ∧
  ∀ (p : Addr) (ys : List Str) (H' : Hp), H p = none → H' p = some (.lst (ys.map V.str)) → ys.length ≤ 60 → (∀ y ∈ ys, DeedOf B false y) → DealAt H' d l → Keep d l H H' → Q (.ref p) H'
structure Ms where
  mixed : Addr
  sleep_row : Addr
  wake_row : Addr
  spoilt_row : Addr
structure TxtM (K : PySem.W.Frag) (mg : Str → Option Value) (a : Ds) (b : Ss) (c : Bs) (e : As) (g : Ms) : Prop extends TxtA K mg a b c e where
  g__law_mixed : mg "_law_mixed" = some (.ref g.mixed)
  k__law_mixed : PySem.W.keepIn K (.ref g.mixed) = true
  g__law_sleep_row : mg "_law_sleep_row" = some (.ref g.sleep_row)
  k__law_sleep_row : PySem.W.keepIn K (.ref g.sleep_row) = true
  g__law_wake_row : mg "_law_wake_row" = some (.ref g.wake_row)
  k__law_wake_row : PySem.W.keepIn K (.ref g.wake_row) = true
  g__law_spoilt_row : mg "_law_spoilt_row" = some (.ref g.spoilt_row)
  k__law_spoilt_row : PySem.W.keepIn K (.ref g.spoilt_row) = true
section
variable {P : Program} {w : World} {K : PySem.W.Frag} {mg : Str → Option Value} {base : Heap} {a : Ds} {b : Ss} {c : Bs} {e : As} {g : Ms} {f : Addr} {fd : FuncData} {m s n : Nat}
theorem ok_spoilt {f1 : FuncData} (F : Fun K "_law_spoilt_row" "_law_spoilt_row" s_law_spoilt_row f fd) (T : TxtM K mg a b c e g)
    (G__law_draw : FnOk P w K mg base CX0 1 a.draw f1 ["_law_deal_here", "_law_many"] spDraw) (b__law_draw : Binds K f1 ["_law_deal_here", "_law_many"] []) :
    FnOk P w K mg base CX0 2 f fd ["_law_deal_here", "_law_row"] (spSpoilt n) := by
  refine F.ok sc_law_spoilt_row (fun vs H Q E h => ?_) (fun cdv A outer sh H vs Q E hr h => ?_)
  · obtain ⟨_, _, _, _, rfl, _⟩ := h
    rfl
  · obtain ⟨d, l, sa, zs, rfl, D, hs, nd, nl, hne, hzn, hn, k⟩ := h
    refine ⟨_, (pss_cons (ps_par3 (i := 2) (j := 3) (l := 4) rfl sc_law_spoilt_row.nd rfl rfl rfl (by decide) (by decide) (by decide) rfl rfl rfl (pa_cons (pe_call G__law_draw (hr.mono (by decide)) rfl T.g__law_draw T.k__law_draw b__law_draw .nil pass0 (pa_cons (pv 0) (pa_cons pe_int pa_nil))) (pa_cons (pe_call G__law_draw (hr.mono (by decide)) rfl T.g__law_draw T.k__law_draw b__law_draw .nil pass0 (pa_cons (pv 0) (pa_cons (pe_callB call_len (by rfl) T.b_len PySem.boot_len (pa_cons (pv 1) pa_nil)) pa_nil))) (pa_cons (pe_call G__law_draw (hr.mono (by decide)) rfl T.g__law_draw T.k__law_draw b__law_draw .nil pass0 (pa_cons (pv 0) (pa_cons (pe_callB call_len (by rfl) T.b_len PySem.boot_len (pa_cons (pv 1) pa_nil)) pa_nil))) pa_nil))) rfl)
    (pss_cons (ps_if (pt_cmpR op_eq (pv 2) pe_int (nomark _)) (pss_one (ps_ret (pe_op op_cat (pe_slice sl_list (pv 1) po_none (po_some (pv 3))) (pe_slice sl_list (pv 1) (po_some (pe_op op_add (pv 3) pe_int)) po_none)))) pss_nil)
    (pss_cons (ps_if (pt_cmpR op_eq (pv 2) pe_int (nomark _)) (pss_cons (ps_set (i := 5) sc_law_spoilt_row.nd rfl (Or.inl rfl) (pe_callTy call_list_of (by rfl) T.b_list (by decide +kernel) (pa_cons (pv 1) pa_nil)))
    (pss_cons (ps_asg (pe_tup (pa_cons (pe_ix ix_list (pv 5) (pv 4) (fun _ _ => rfl)) (pa_cons (pe_ix ix_list (pv 5) (pv 3) (fun _ _ => rfl)) pa_nil))) (pg_tup rfl (pgs_cons (pg_sub (pv 5) (pv 3) set_list) (pgs_cons (pg_sub (pv 5) (pv 4) set_list) pgs_nil))))
    (pss_one (ps_ret (pv 5))))) pss_nil)
    (pss_one (ps_ret (pv 1)))))), ?_⟩
    have hpos : 0 < zs.length := List.length_pos_iff.mpr hne
    refine ⟨_, rfl, d, l, 5, rfl, D, by decide, by decide, fun r1 H1 _ _ D1 kp1 => ?_⟩
    have h1 := kp1 _ _ hs nd nl
    refine ⟨_, rfl, _, rfl, _, zs.length, rfl, .inl ⟨_, .inl (.inl h1), by rw [List.length_map]⟩, d, l, (zs.length : Int), rfl, D1, by omega, by omega, fun r2 H2 r20 r21 D2 kp2 => ?_⟩
    have h2 := kp2 _ _ h1 nd nl
    refine ⟨_, rfl, _, rfl, _, zs.length, rfl, .inl ⟨_, .inl (.inl h2), by rw [List.length_map]⟩, d, l, (zs.length : Int), rfl, D2, by omega, by omega, fun r3 H3 r30 r31 D3 kp3 => ⟨_, _, _, rfl, ?_⟩⟩
    have h3 := kp3 _ _ h2 nd nl
    have kp := (kp1.trans kp2).trans kp3
    obtain ⟨i, rfl⟩ := Int.eq_ofNat_of_zero_le r20
    obtain ⟨j, rfl⟩ := Int.eq_ofNat_of_zero_le r30
    have hi : i < zs.length := by omega
    have hj : j < zs.length := by omega
    clear kp1 kp2 kp3 h1 h2 D1 D2 hs
    refine ⟨_, rfl, rfl, _, rfl, ?_⟩
    refine ite_bool (fun _ => ?_) (fun _ => ?_)
    · refine ⟨_, rfl, _, rfl, _, rfl, sa, _, rfl, .inl (.inl h3), fun p1 hp1 => ?_⟩
      rw [cutS]
      have s1 := Same.upd_new (o := .lst ((cutL zs none (some (i : Int))).map V.str)) hp1
      refine ⟨_, rfl, _, rfl, _, _, rfl, rfl, _, rfl, sa, _, rfl, .inl (.inl (s1 _ _ h3)), fun p2 hp2 => ?_⟩
      rw [cutS]
      have s2 := Same.upd_new (o := .lst ((cutL zs (some ((i : Int) + 1)) none).map V.str)) hp2
      have lt : (cutL zs none (some (i : Int))).length + (cutL zs (some ((i : Int) + 1)) none).length ≤ zs.length := by
        rw [cutL_len0, show (i : Int) + 1 = ((i + 1 : Nat) : Int) by omega]
        unfold cutL
        rw [HT.sIx_nat, HT.sIx_none, List.length_take, List.length_drop]
        omega
      refine ⟨p1, p2, _, _, rfl, rfl, s2 _ _ upd_same, upd_same, ?_, fun p3 hp3 => ?_⟩
      · rw [List.length_map, List.length_map]
        exact len1000 (by omega)
      rw [← List.map_append]
      have s3 := Same.upd_new (o := .lst ((cutL zs none (some (i : Int)) ++ cutL zs (some ((i : Int) + 1)) none).map V.str)) hp3
      have sX := (s1.trans s2).trans s3
      refine k p3 _ _ (.inr (kp.free D D3 ((s1.trans s2).free hp3))) upd_same (by rw [List.length_append]; omega) (fun y hy => ?_) (D3.same sX) (kp.trans (Keep.same sX))
      rcases List.mem_append.mp hy with hy | hy <;> exact cutL_mem hy
    · refine ⟨_, rfl, rfl, _, rfl, ?_⟩
      refine ite_bool (fun _ => ?_) (fun _ => ?_)
      · refine ⟨_, rfl, sa, _, rfl, .inl (.inl (.inl h3)), fun p1 hp1 => ?_⟩
        have p1d := D3.nd hp1
        have p1l := D3.nl hp1
        have s1 := Same.upd_new (o := .lst (zs.map V.str)) hp1
        have gj : (zs.map V.str)[j]? = some (V.str zs[j]) := by rw [List.getElem?_map, List.getElem?_eq_getElem hj]; rfl
        have gi : (zs.map V.str)[i]? = some (V.str zs[i]) := by rw [List.getElem?_map, List.getElem?_eq_getElem hi]; rfl
        refine ⟨_, rfl, _, rfl, _, _, _, _, rfl, rfl, .inl (.inl upd_same), atI_nat gj, _, rfl, _, rfl, _, _, _, _, rfl, rfl, .inl (.inl upd_same), atI_nat gi, (by show 2 ≤ sizeLine; decide), fun tp htp => ?_⟩
        have s2 := Same.upd_new (o := .tup [V.str zs[j], V.str zs[i]]) htp
        have tpn : p1 ≠ tp := ne_of_none upd_same htp
        refine ⟨tp, _, rfl, .inl (.inl upd_same), rfl, _, _, rfl, _, rfl, _, rfl, p1, _, (i : Int), i, rfl, rfl, s2 _ _ upd_same, ?_, _, _, rfl, _, rfl, _, rfl, p1, _, (j : Int), j, rfl, rfl, upd_same, ?_, rfl, ?_⟩
        · unfold ixN
          rw [List.length_map, if_pos (by omega), if_pos (by omega)]
          rfl
        · unfold ixN
          rw [List.length_set, List.length_map, if_pos (by omega), if_pos (by omega)]
          rfl
        have eset : ((zs.map V.str).set i (V.str zs[j])).set j (V.str zs[i]) = ((zs.set i zs[j]).set j zs[i]).map V.str := by
          rw [List.map_set, List.map_set]
        rw [eset]
        refine ⟨_, rfl, k p1 _ _ (.inr (kp.free D D3 hp1)) upd_same ?_ (fun y hy => ?_) ?_ ?_⟩
        · rw [List.length_set, List.length_set]
          exact hzn
        · rcases List.mem_or_eq_of_mem_set hy with hy | hy
          · rcases List.mem_or_eq_of_mem_set hy with hy | hy
            · exact hy
            · rw [hy]
              exact List.getElem_mem hj
          · rw [hy]
            exact List.getElem_mem hi
        · exact (((D3.same s1).same s2).upd p1d p1l).upd p1d p1l
        · intro q o e1 e2 e3
          have : q ≠ p1 := ne_of_none (kp q o e1 e2 e3) hp1
          rw [upd_ne this, upd_ne this]
          exact s2 _ _ (s1 _ _ (kp q o e1 e2 e3))
      · exact ⟨_, rfl, k sa zs H3 (.inl rfl) h3 hzn (fun _ h => h) D3 kp⟩
theorem area_deed {B : Blk} {ask : Bool} {u v y : Str} (h : v = u ++ Str.ofString " ") (hu : u ∈ areaW) (hy : ∃ c ∈ B.cells, c.area = y) : DeedOf B ask (v ++ y) := by
  rw [h]
  exact .area hu hy
theorem fence_deed {B : Blk} {ask : Bool} {u v y : Str} (h : v = u ++ Str.ofString " ") (hu : u ∈ fenceW) (hy : ∃ e ∈ B.edges, e.fence = some y) : DeedOf B ask (v ++ y) := by
  rw [h]
  exact .fence hu hy
theorem plain_deed {B : Blk} {ask : Bool} {u : Str} (h : u ∈ plainDs) : DeedOf B ask u := .plain h
theorem ok_wake_row {f1 f2 f3 : FuncData} (F : Fun K "_law_wake_row" "_law_wake_row" s_law_wake_row f fd) (T : TxtM K mg a b c e g)
    (G__law_places : FnOk P w K mg base CX0 1 c.places f1 ["_law_block_here"] spPlaces) (b__law_places : Binds K f1 ["_law_block_here"] [])
    (G__law_fences : FnOk P w K mg base CX0 1 c.fences f2 ["_law_block_here"] spFences) (b__law_fences : Binds K f2 ["_law_block_here"] [])
    (G__law_spoilt_row : FnOk P w K mg base CX0 2 g.spoilt_row f3 ["_law_deal_here", "_law_row"] (spSpoilt 60)) (b__law_spoilt_row : Binds K f3 ["_law_deal_here", "_law_row"] []) :
    FnOk P w K mg base CX0 3 f fd ["_law_deal_here", "_law_block_here"] (spRow m s) := by
  refine F.ok sc_law_wake_row (fun vs H Q E h => ?_) (fun cdv A outer sh H vs Q E hr h => ?_)
  · obtain ⟨_, _, _, _, rfl, _⟩ := h
    rfl
  · obtain ⟨d, l, v, B, rfl, D, hB, gB, hm, hs, k⟩ := h
    refine ⟨_, (pss_cons (ps_set (i := 2) sc_law_wake_row.nd rfl (Or.inl rfl) (pe_call G__law_places (hr.mono (by decide)) rfl T.g__law_places T.k__law_places b__law_places .nil pass0 (pa_cons (pv 1) pa_nil)))
    (pss_cons (ps_set (i := 3) sc_law_wake_row.nd rfl (Or.inl rfl) (pe_op op_cat (pe_lc (own := [("_law_place", 4)]) (g := gName 4) (tt := tYes) rfl sc_law_wake_row.nd (pi_list (pv 2)) (blkOk_by (N := N_law_wake_row) (sc := defScope s_law_wake_row) (by decide +kernel)) (fun _ _ _ _ _ => (pg_name (i := 4) sc_law_wake_row.nd rfl (Or.inl rfl))) (fun _ _ _ _ _ => pts_nil) (fun _ _ _ _ _ => (pe_op op_add_str pe_str (pv 4)))) (pe_lc (own := [("_law_place", 4)]) (g := gName 4) (tt := tYes) rfl sc_law_wake_row.nd (pi_list (pv 2)) (blkOk_by (N := N_law_wake_row) (sc := defScope s_law_wake_row) (by decide +kernel)) (fun _ _ _ _ _ => (pg_name (i := 4) sc_law_wake_row.nd rfl (Or.inl rfl))) (fun _ _ _ _ _ => pts_nil) (fun _ _ _ _ _ => (pe_op op_add_str pe_str (pv 4))))))
    (pss_cons (ps_set (i := 3) sc_law_wake_row.nd rfl (Or.inl rfl) (pe_op op_cat (pe_op op_cat (pv 3) (pe_lc (own := [("_law_place", 4)]) (g := gName 4) (tt := tYes) rfl sc_law_wake_row.nd (pi_list (pv 2)) (blkOk_by (N := N_law_wake_row) (sc := defScope s_law_wake_row) (by decide +kernel)) (fun _ _ _ _ _ => (pg_name (i := 4) sc_law_wake_row.nd rfl (Or.inl rfl))) (fun _ _ _ _ _ => pts_nil) (fun _ _ _ _ _ => (pe_op op_add_str pe_str (pv 4))))) (pe_lc (own := [("_law_name", 5)]) (g := gName 5) (tt := tYes) rfl sc_law_wake_row.nd (pi_list (pe_call G__law_fences (hr.mono (by decide)) rfl T.g__law_fences T.k__law_fences b__law_fences .nil pass0 (pa_cons (pv 1) pa_nil))) (blkOk_by (N := N_law_wake_row) (sc := defScope s_law_wake_row) (by decide +kernel)) (fun _ _ _ _ _ => (pg_name (i := 5) sc_law_wake_row.nd rfl (Or.inl rfl))) (fun _ _ _ _ _ => pts_nil) (fun _ _ _ _ _ => (pe_op op_add_str pe_str (pv 5))))))
    (pss_one (ps_ret (pe_call G__law_spoilt_row (hr.mono (by decide)) rfl T.g__law_spoilt_row T.k__law_spoilt_row b__law_spoilt_row .nil pass0 (pa_cons (pv 0) (pa_cons (pe_op op_cat (pv 3) (pe_lst (pa_cons pe_str pa_nil))) pa_nil)))))))), ?_⟩
    have hcl := gB.clen
    have hel := gB.elen
    refine ⟨_, rfl, v, B, rfl, hB, by omega, fun p ys H1 hp hpn h1 h2 h3 h4 s1 => ?_⟩
    have hy4 : ∀ y ∈ ys, y.length ≤ 4 := fun y hy => by
      obtain ⟨ce, hce, rfl⟩ := (h1 y).mp hy
      exact (nm_len (gB.cname ce hce).2.1).1
    have l6 : (Str.ofString "power ").length = 6 ∧ (Str.ofString "reset ").length = 6 ∧ (Str.ofString "load ").length = 5 ∧ (Str.ofString "open ").length = 5 := by decide +kernel
    obtain ⟨la, lb, lc, ld⟩ := l6
    -- power, reset
    refine ⟨_, rfl, p, rfl, ⟨_, .inl (.inl hpn)⟩, fun D1 hD1 => ?_⟩
    refine lc_map (f := fun y => Str.ofString "power " ++ y) hpn (by omega) hD1 (fun _ => rfl) (fun y hy H' R h => ⟨_, rfl, _, _, rfl, rfl, len1000 (by have := hy4 y hy; omega), h⟩) fun H2 s2 hd1 => ?_
    refine ⟨_, rfl, p, rfl, ⟨_, .inl (.inl (s2 _ _ hpn))⟩, fun D2 hD2 => ?_⟩
    refine lc_map (f := fun y => Str.ofString "reset " ++ y) (s2 _ _ hpn) (by omega) hD2 (fun _ => rfl) (fun y hy H' R h => ⟨_, rfl, _, _, rfl, rfl, len1000 (by have := hy4 y hy; omega), h⟩) fun H3 s3 hd2 => ?_
    refine ⟨D1, D2, _, _, rfl, rfl, s3 _ _ hd1, hd2, ?_, fun r1 hr1 => ?_⟩
    · simp only [List.length_map]
      exact len1000 (by omega)
    rw [← List.map_append]
    have s4 := Same.upd_new (o := .lst ((ys.map (fun y => Str.ofString "power " ++ y) ++ ys.map fun y => Str.ofString "reset " ++ y).map V.str)) hr1
    have hr4 := (upd_same : (upd H3 r1 (.lst ((ys.map (fun y => Str.ofString "power " ++ y) ++ ys.map fun y => Str.ofString "reset " ++ y).map V.str))) r1 = _)
    have s14 := ((s1.trans s2).trans s3).trans s4
    have hp4 := s4 _ _ (s3 _ _ (s2 _ _ hpn))
    generalize upd H3 r1 _ = H4 at *
    clear s2 s3 s4 hd1 hd2 hD1 hD2 hr1 hpn
    -- load, open
    refine ⟨_, rfl, _, rfl, p, rfl, ⟨_, .inl (.inl hp4)⟩, fun D3 hD3 => ?_⟩
    refine lc_map (f := fun y => Str.ofString "load " ++ y) hp4 (by omega) hD3 (fun _ => rfl) (fun y hy H' R h => ⟨_, rfl, _, _, rfl, rfl, len1000 (by have := hy4 y hy; omega), h⟩) fun H5 s5 hd3 => ?_
    refine ⟨r1, D3, _, _, rfl, rfl, s5 _ _ hr4, hd3, ?_, fun r2 hr2 => ?_⟩
    · simp only [List.length_map, List.length_append]
      exact len1000 (by omega)
    rw [← List.map_append]
    have s6 := Same.upd_new (o := .lst (((ys.map (fun y => Str.ofString "power " ++ y) ++ ys.map fun y => Str.ofString "reset " ++ y) ++ ys.map fun y => Str.ofString "load " ++ y).map V.str)) hr2
    have s16 := (s14.trans s5).trans s6
    refine ⟨_, rfl, v, B, rfl, BlkAt.stay (Same.tups s16) hB, by omega, fun q zs H7 hq hqn k1 k2 k3 k4 s7 => ⟨q, rfl, ⟨_, .inl (.inl hqn)⟩, fun D4 hD4 => ?_⟩⟩
    have hz4 : ∀ y ∈ zs, y.length ≤ 4 := fun y hy => by
      obtain ⟨ed, hed, hf⟩ := (k1 y).mp hy
      exact (nm_len ((gB.ename ed hed).2.1 _ hf)).1
    refine lc_map (f := fun y => Str.ofString "open " ++ y) hqn (by omega) hD4 (fun _ => rfl) (fun y hy H' R h => ⟨_, rfl, _, _, rfl, rfl, len1000 (by have := hz4 y hy; omega), h⟩) fun H8 s8 hd4 => ?_
    refine ⟨r2, D4, _, _, rfl, rfl, s8 _ _ (s7 _ _ upd_same), hd4, ?_, fun r3 hr3 => ?_⟩
    · simp only [List.length_map, List.length_append]
      exact len1000 (by omega)
    rw [← List.map_append]
    have s18 := (s16.trans s7).trans s8
    clear s5 s6 s7 s8 hd3 hd4 hD3 hD4 hr2 hq hqn hr4 hp4 s14 s16
    refine ⟨_, rfl, _, rfl, (by show 1 ≤ sizeLine; decide), fun lg hlg => ?_⟩
    have s9 := Same.upd_new (o := .lst ((((ys.map (fun y => Str.ofString "power " ++ y) ++ ys.map fun y => Str.ofString "reset " ++ y) ++ ys.map fun y => Str.ofString "load " ++ y) ++ zs.map fun y => Str.ofString "open " ++ y).map V.str)) hr3
    have s10 := Same.upd_new (o := .lst [V.str (Str.ofString "go")]) hlg
    refine ⟨r3, lg, _, _, rfl, rfl, s10 _ _ upd_same, upd_same, ?_, fun r4 hr4 => ?_⟩
    · simp only [List.length_map, List.length_append]
      exact len1000 (by show _ + 1 ≤ _; omega)
    rw [show ([V.str (Str.ofString "go")] : List V) = [Str.ofString "go"].map V.str from rfl, ← List.map_append]
    have s1X := ((s18.trans s9).trans s10).trans (Same.upd_new (o := .lst (((((ys.map (fun y => Str.ofString "power " ++ y) ++ ys.map fun y => Str.ofString "reset " ++ y) ++ ys.map fun y => Str.ofString "load " ++ y) ++ zs.map fun y => Str.ofString "open " ++ y) ++ [Str.ofString "go"]).map V.str)) hr4)
    have hr0 : H r4 = none := (((s18.trans s9).trans s10)).free hr4
    refine ⟨d, l, r4, _, rfl, D.same s1X, upd_same, D.nd hr0, D.nl hr0, (by simp), ?_, (by decide), fun o os HF ho hon hol hom DF kpF => ?_⟩
    · simp only [List.length_map, List.length_append, List.length_cons, List.length_nil]
      omega
    refine k o os HF ?_ hon hol (fun y hy => ?_) DF ((Keep.same s1X).trans kpF)
    · rcases ho with rfl | ho
      · exact hr0
      · exact s1X.free ho
    · have := hom y hy
      simp only [List.mem_append, List.mem_map, List.mem_singleton] at this
      rcases this with (((⟨z, hz, rfl⟩ | ⟨z, hz, rfl⟩) | ⟨z, hz, rfl⟩) | ⟨z, hz, rfl⟩) | rfl
      · exact area_deed (u := Str.ofString "power") (by decide +kernel) (by decide +kernel) ((h1 z).mp hz)
      · exact area_deed (u := Str.ofString "reset") (by decide +kernel) (by decide +kernel) ((h1 z).mp hz)
      · exact area_deed (u := Str.ofString "load") (by decide +kernel) (by decide +kernel) ((h1 z).mp hz)
      · exact fence_deed (u := Str.ofString "open") (by decide +kernel) (by decide +kernel) ((k1 z).mp hz)
      · exact plain_deed (by decide +kernel)
theorem ok_sleep_row {f1 f2 f3 f4 f5 : FuncData} (F : Fun K "_law_sleep_row" "_law_sleep_row" s_law_sleep_row f fd) (T : TxtM K mg a b c e g)
    (G__law_draw : FnOk P w K mg base CX0 1 a.draw f4 ["_law_deal_here", "_law_many"] spDraw) (b__law_draw : Binds K f4 ["_law_deal_here", "_law_many"] [])
    (G__law_places : FnOk P w K mg base CX0 1 c.places f1 ["_law_block_here"] spPlaces) (b__law_places : Binds K f1 ["_law_block_here"] [])
    (G__law_fences : FnOk P w K mg base CX0 1 c.fences f2 ["_law_block_here"] spFences) (b__law_fences : Binds K f2 ["_law_block_here"] [])
    (G__law_mixed : FnOk P w K mg base CX0 2 g.mixed f5 ["_law_deal_here", "_law_some"] spMixed) (b__law_mixed : Binds K f5 ["_law_deal_here", "_law_some"] [])
    (G__law_spoilt_row : FnOk P w K mg base CX0 2 g.spoilt_row f3 ["_law_deal_here", "_law_row"] (spSpoilt 60)) (b__law_spoilt_row : Binds K f3 ["_law_deal_here", "_law_row"] []) :
    FnOk P w K mg base CX0 3 f fd ["_law_deal_here", "_law_block_here"] (spRow m s) := by
  refine F.ok sc_law_sleep_row (fun vs H Q E h => ?_) (fun cdv A outer sh H vs Q E hr h => ?_)
  · obtain ⟨_, _, _, _, rfl, _⟩ := h
    rfl
  · obtain ⟨d, l, v, B, rfl, D, hB, gB, hm, hs, k⟩ := h
    refine ⟨_, (pss_cons (ps_setLc (i := 2) (own := [("_law_place", 4)]) (g := gName 4) rfl sc_law_sleep_row.nd rfl rfl (sw_true rfl rfl rfl (by decide +kernel)) (pi_list (pe_call G__law_places (hr.mono (by decide)) rfl T.g__law_places T.k__law_places b__law_places .nil pass0 (pa_cons (pv 1) pa_nil))) (blkOk_by (N := N_law_sleep_row) (sc := defScope s_law_sleep_row) (by decide +kernel)) (fun _ _ _ _ _ => (pg_name (i := 4) sc_law_sleep_row.nd rfl (Or.inl rfl))) (fun _ _ _ _ _ => (pts_one (pt_cmpR op_gt (pe_call G__law_draw (hr.mono (by decide)) rfl T.g__law_draw T.k__law_draw b__law_draw .nil pass0 (pa_cons (pv 0) (pa_cons pe_int pa_nil))) pe_int (nomark _)))) (fun _ _ _ _ _ => (pv 4)))
    (pss_cons (ps_set (i := 3) sc_law_sleep_row.nd rfl (Or.inl rfl) (pe_op op_cat (pe_lst (pa_cons pe_str pa_nil)) (pe_call G__law_mixed (hr.mono (by decide)) rfl T.g__law_mixed T.k__law_mixed b__law_mixed .nil pass0 (pa_cons (pv 0) (pa_cons (pe_lc (own := [("_law_name", 5)]) (g := gName 5) (tt := tYes) rfl sc_law_sleep_row.nd (pi_list (pe_call G__law_fences (hr.mono (by decide)) rfl T.g__law_fences T.k__law_fences b__law_fences .nil pass0 (pa_cons (pv 1) pa_nil))) (blkOk_by (N := N_law_sleep_row) (sc := defScope s_law_sleep_row) (by decide +kernel)) (fun _ _ _ _ _ => (pg_name (i := 5) sc_law_sleep_row.nd rfl (Or.inl rfl))) (fun _ _ _ _ _ => pts_nil) (fun _ _ _ _ _ => (pe_op op_add_str pe_str (pv 5)))) pa_nil)))))
    (pss_cons (ps_set (i := 3) sc_law_sleep_row.nd rfl (Or.inl rfl) (pe_op op_cat (pe_op op_cat (pv 3) (pe_lc (own := [("_law_place", 4)]) (g := gName 4) (tt := tYes) rfl sc_law_sleep_row.nd (pi_list (pv 2)) (blkOk_by (N := N_law_sleep_row) (sc := defScope s_law_sleep_row) (by decide +kernel)) (fun _ _ _ _ _ => (pg_name (i := 4) sc_law_sleep_row.nd rfl (Or.inl rfl))) (fun _ _ _ _ _ => pts_nil) (fun _ _ _ _ _ => (pe_op op_add_str pe_str (pv 4))))) (pe_call G__law_mixed (hr.mono (by decide)) rfl T.g__law_mixed T.k__law_mixed b__law_mixed .nil pass0 (pa_cons (pv 0) (pa_cons (pe_lc (own := [("_law_place", 4)]) (g := gName 4) (tt := tYes) rfl sc_law_sleep_row.nd (pi_list (pv 2)) (blkOk_by (N := N_law_sleep_row) (sc := defScope s_law_sleep_row) (by decide +kernel)) (fun _ _ _ _ _ => (pg_name (i := 4) sc_law_sleep_row.nd rfl (Or.inl rfl))) (fun _ _ _ _ _ => pts_nil) (fun _ _ _ _ _ => (pe_op op_add_str pe_str (pv 4)))) pa_nil)))))
    (pss_one (ps_ret (pe_call G__law_spoilt_row (hr.mono (by decide)) rfl T.g__law_spoilt_row T.k__law_spoilt_row b__law_spoilt_row .nil pass0 (pa_cons (pv 0) (pa_cons (pv 3) pa_nil)))))))), ?_⟩
    have hcl := gB.clen
    have hel := gB.elen
    refine ⟨_, rfl, v, B, rfl, hB, by omega, fun p ys H1 hp hpn h1 h2 h3 h4 s1 => ⟨p, rfl, ⟨_, .inl (.inl hpn)⟩, fun D1 hD1 => ?_⟩⟩
    have hy4 : ∀ y ∈ ys, y.length ≤ 4 := fun y hy => by
      obtain ⟨ce, hce, rfl⟩ := (h1 y).mp hy
      exact (nm_len (gB.cname ce hce).2.1).1
    have D1' := D.same s1
    have pd := D.nd hp
    have pl := D.nl hp
    have d1d := D1'.nd hD1
    have d1l := D1'.nl hD1
    have hD0 : H D1 = none := s1.free hD1
    refine lc_list (K := K) (a := p) (xs := ys.map V.str) (fun i H' => DealAt H' d l ∧ Keep d l H1 H' ∧ ∃ L : List Str, H' D1 = some (.lst (L.map V.str)) ∧ L.length ≤ i ∧ ∀ y ∈ L, y ∈ ys)
      ⟨D1'.same (Same.upd_new hD1), Keep.same (Same.upd_new hD1), [], upd_same, Nat.le_refl _, fun _ h => by cases h⟩ (fun i H' _ h => .inl (.inl (h.2.1 _ _ hpn pd pl))) ?_ ?_
    · rintro i x H' hx ⟨D', kp', L, hL, hLi, hLy⟩
      obtain ⟨y, hy, hyi, rfl⟩ := get_map_str hx
      have hi : i < ys.length := (List.getElem?_eq_some_iff.mp hyi).1
      refine ⟨rfl, _, rfl, d, l, 4, rfl, D', by decide, by decide, fun r H3 _ _ D3 kp3 => ⟨_, _, rfl, rfl, _, rfl, ?_⟩⟩
      have hL3 := kp3 _ _ hL d1d d1l
      refine ite_bool (fun _ => ?_) (fun _ => ?_)
      · refine ⟨_, rfl, _, hL3, ?_, D3.upd d1d d1l, ?_, L ++ [y], ?_, ?_, ?_⟩
        · rw [List.length_map]
          exact small1000 (by omega)
        · intro b o e h1 h2
          rw [upd_ne (ne_of_none e hD1)]
          exact (kp'.trans kp3) _ _ e h1 h2
        · rw [upd_same, List.map_append]
          rfl
        · rw [List.length_append]
          show L.length + 1 ≤ i + 1
          omega
        · intro z hz
          rcases List.mem_append.mp hz with hz | hz
          · exact hLy z hz
          · rw [List.mem_singleton.mp hz]
            exact hy
      · exact ⟨D3, kp'.trans kp3, L, hL3, by omega, hLy⟩
    · rintro H2 ⟨D2, kp2, L, hL, hLi, hLy⟩
      rw [List.length_map] at hLi
      have kpH : Keep d l H H2 := (Keep.same s1).trans kp2
      have hL4 : ∀ y ∈ L, y.length ≤ 4 := fun y hy => hy4 y (hLy y hy)
      have hB2 := BlkAt.stay (D.tups kpH) hB
      have l6 : (Str.ofString "fence ").length = 6 ∧ (Str.ofString "save ").length = 5 ∧ (Str.ofString "cut ").length = 4 := by decide +kernel
      obtain ⟨la, lb, lc⟩ := l6
      clear hD1 kp2 s1 hpn D1' h2 h3
      -- ['hold'] + mixed(..)
      refine ⟨(by show 1 ≤ sizeLine; decide), fun lh hlh => ?_⟩
      have s3 := Same.upd_new (o := .lst [V.str (Str.ofString "hold")]) hlh
      have D3 := D2.same s3
      have lhd := D2.nd hlh
      have lhl := D2.nl hlh
      refine ⟨_, rfl, _, rfl, v, B, rfl, BlkAt.stay (Same.tups s3) hB2, by omega, fun q zs H4 hq hqn k1 k2 k3 k4 s4 => ⟨q, rfl, ⟨_, .inl (.inl hqn)⟩, fun D5 hD5 => ?_⟩⟩
      have hz4 : ∀ y ∈ zs, y.length ≤ 4 := fun y hy => by
        obtain ⟨ed, hed, hf⟩ := (k1 y).mp hy
        exact (nm_len ((gB.ename ed hed).2.1 _ hf)).1
      refine lc_map (f := fun y => Str.ofString "fence " ++ y) hqn (by omega) hD5 (fun _ => rfl) (fun y hy H' R h => ⟨_, rfl, _, _, rfl, rfl, len1000 (by have := hz4 y hy; omega), h⟩) fun H5 s5 hd5 => ?_
      have fd5 : ∀ z ∈ zs.map (fun y => Str.ofString "fence " ++ y), DeedOf B false z := fun z hz => by
        obtain ⟨y, hy, rfl⟩ := List.mem_map.mp hz
        exact fence_deed (u := Str.ofString "fence") (by decide +kernel) (by decide +kernel) ((k1 y).mp hy)
      have D5' := (D3.same s4).same s5
      refine ⟨d, l, D5, _, rfl, D5', hd5, (D3.same s4).nd hD5, (D3.same s4).nl hD5, by rw [List.length_map]; omega, fun z hz => deed_str gB (fd5 z hz), fun pm ms H6 hpm hpmn hml hmm D6 kp6 => ?_⟩
      have s35 := (s3.trans s4).trans s5
      have hlh6 : H6 lh = some (.lst [V.str (Str.ofString "hold")]) := kp6 _ _ (s5 _ _ (s4 _ _ upd_same)) lhd lhl
      refine ⟨lh, pm, _, _, rfl, rfl, hlh6, hpmn, ?_, fun r1 hr1 => ?_⟩
      · rw [List.length_map, hml, List.length_map]
        exact len1000 (by show 1 + zs.length ≤ 1000; omega)
      rw [show ([V.str (Str.ofString "hold")] : List V) = [Str.ofString "hold"].map V.str from rfl, ← List.map_append]
      have s7 := Same.upd_new (o := .lst (([Str.ofString "hold"] ++ ms).map V.str)) hr1
      have kp7 : Keep d l H2 (upd H6 r1 (.lst (([Str.ofString "hold"] ++ ms).map V.str))) := ((Keep.same s35).trans kp6).trans (Keep.same s7)
      have D7 := D6.same s7
      have hr7 : (upd H6 r1 (.lst (([Str.ofString "hold"] ++ ms).map V.str))) r1 = some (.lst (([Str.ofString "hold"] ++ ms).map V.str)) := upd_same
      have r1d := D6.nd hr1
      have r1l := D6.nl hr1
      have hL7 := kp7 _ _ hL d1d d1l
      have hmd : ∀ z ∈ [Str.ofString "hold"] ++ ms, DeedOf B false z := fun z hz => by
        rcases List.mem_append.mp hz with hz | hz
        · rw [List.mem_singleton.mp hz]
          exact plain_deed (by decide +kernel)
        · exact fd5 z (hmm z hz)
      have hml' : ([Str.ofString "hold"] ++ ms).length ≤ 11 := by
        rw [List.length_append, hml, List.length_map]
        show 1 + zs.length ≤ 11
        omega
      generalize upd H6 r1 (.lst (([Str.ofString "hold"] ++ ms).map V.str)) = H7 at *
      have hrne : [Str.ofString "hold"] ++ ms ≠ [] := by intro e; cases e
      generalize [Str.ofString "hold"] ++ ms = row at *
      clear s35 s5 s4 s3 kp6 D6 D5' D3 hd5 hlh6 hpmn hml hmm hqn hq hr1 s7 hD5 hlh hpm
      -- + ['save '..] + mixed(['cut '..])
      refine ⟨_, rfl, _, rfl, D1, rfl, ⟨_, .inl (.inl hL7)⟩, fun D8 hD8 => ?_⟩
      refine lc_map (f := fun y => Str.ofString "save " ++ y) hL7 (by omega) hD8 (fun _ => rfl) (fun y hy H' R h => ⟨_, rfl, _, _, rfl, rfl, len1000 (by have := hL4 y hy; omega), h⟩) fun H8 s8 hd8 => ?_
      refine ⟨r1, D8, _, _, rfl, rfl, s8 _ _ hr7, hd8, ?_, fun r2 hr2 => ?_⟩
      · simp only [List.length_map]
        exact len1000 (by omega)
      rw [← List.map_append]
      have s9 := Same.upd_new (o := .lst ((row ++ L.map fun y => Str.ofString "save " ++ y).map V.str)) hr2
      have D9 := (D7.same s8).same s9
      have hL9 := s9 _ _ (s8 _ _ hL7)
      have r2d := (D7.same s8).nd hr2
      have r2l := (D7.same s8).nl hr2
      refine ⟨_, rfl, _, rfl, D1, rfl, ⟨_, .inl (.inl hL9)⟩, fun DA hDA => ?_⟩
      refine lc_map (f := fun y => Str.ofString "cut " ++ y) hL9 (by omega) hDA (fun _ => rfl) (fun y hy H' R h => ⟨_, rfl, _, _, rfl, rfl, len1000 (by have := hL4 y hy; omega), h⟩) fun HA sA hdA => ?_
      have ctA : ∀ z ∈ L.map (fun y => Str.ofString "cut " ++ y), DeedOf B false z := fun z hz => by
        obtain ⟨y, hy, rfl⟩ := List.mem_map.mp hz
        exact area_deed (u := Str.ofString "cut") (by decide +kernel) (by decide +kernel) ((h1 y).mp (hLy y hy))
      refine ⟨d, l, DA, _, rfl, D9.same sA, hdA, D9.nd hDA, D9.nl hDA, by rw [List.length_map]; omega, fun z hz => deed_str gB (ctA z hz), fun pn ns HB hpn hpnn hnl hnm DB kpB => ?_⟩
      refine ⟨r2, pn, _, _, rfl, rfl, kpB _ _ (sA _ _ upd_same) r2d r2l, hpnn, ?_, fun r3 hr3 => ?_⟩
      · simp only [List.length_map, List.length_append, hnl]
        exact len1000 (by omega)
      rw [← List.map_append]
      have sC := Same.upd_new (o := .lst (((row ++ L.map fun y => Str.ofString "save " ++ y) ++ ns).map V.str)) hr3
      have kpC : Keep d l H (upd HB r3 (.lst (((row ++ L.map fun y => Str.ofString "save " ++ y) ++ ns).map V.str))) := ((kpH.trans kp7).trans ((Keep.same ((s8.trans s9).trans sA)).trans kpB)).trans (Keep.same sC)
      have hr30 : H r3 = none := (((kpH.trans kp7).trans ((Keep.same ((s8.trans s9).trans sA)).trans kpB))).free D DB hr3
      refine ⟨_, rfl, _, rfl, d, l, r3, _, rfl, DB.same sC, upd_same, DB.nd hr3, DB.nl hr3, ?_, ?_, (by decide), fun o os HF ho hon hol hom DF kpF => ?_⟩
      · intro e
        exact hrne (List.append_eq_nil_iff.mp (List.append_eq_nil_iff.mp e).1).1
      · simp only [List.length_map, List.length_append, hnl]
        omega
      refine k o os HF ?_ hon hol (fun y hy => ?_) DF (kpC.trans kpF)
      · rcases ho with rfl | ho
        · exact hr30
        · exact kpC.free D (DB.same sC) ho
      · have := hom y hy
        rcases List.mem_append.mp this with h | h
        · rcases List.mem_append.mp h with h | h
          · exact hmd y h
          · obtain ⟨z, hz, rfl⟩ := List.mem_map.mp h
            exact area_deed (u := Str.ofString "save") (by decide +kernel) (by decide +kernel) ((h1 z).mp (hLy z hz))
        · exact ctA y (hnm y h)
end
end L2.Wk
namespace L2.Wk
open PySem PySem.Spec PyProof.Rows
abbrev s_law_sleeper : Stmt := top 60
abbrev N_law_sleeper : List Str := ["_law_deal_here", "_law_block_here", "_law_up", "_law_off", "_law_mid", "_law_planned", "_law_last", "_law_found", "_law_rule"]
theorem sc_law_sleeper : FnScope N_law_sleeper ["_law_deal_here", "_law_block_here"] (defScope s_law_sleeper) := ⟨rfl, rfl, rfl, by decide +kernel, rfl, by decide +kernel, by decide +kernel⟩
abbrev s_law_machine : Stmt := top 61
abbrev N_law_machine : List Str := ["_law_deal_here", "_law_block_here", "_law_most", "_law_states", "_law_turn"]
theorem sc_law_machine : FnScope N_law_machine ["_law_deal_here", "_law_block_here", "_law_most"] (defScope s_law_machine) := ⟨rfl, rfl, rfl, by decide +kernel, rfl, by decide +kernel, by decide +kernel⟩
/-! ### drawn machines: what stands, and as data -/
def RuleDr (B : Blk) (R : RuleD) (n : Nat) : Prop := RuleOf B allNames R ∧ R.ds.length ≤ n
theorem RuleDr.fine {B : Blk} {R : RuleD} {m s : Nat} (g : BlkGood B m s) (h : RuleDr B R 10) : RuleFine R := rule_fine g (fun _ h => h) h.1 h.2
def RuleRowAt (d l : Addr) (H : Hp) (v : V) (R : RuleD) : Prop := ∃ p q, v = .ref p ∧ H p = some (.tup [.str R.st, .str R.ev, .str R.gd, .str R.th, .ref q]) ∧ H q = some (.lst (R.ds.map V.str)) ∧ q ≠ d ∧ q ≠ l
theorem RuleRowAt.keep {d l : Addr} {H H' : Hp} (D : DealAt H d l) (k : Keep d l H H') (v : V) (R : RuleD) : RuleRowAt d l H v R → RuleRowAt d l H' v R := fun ⟨p, q, e, h1, h2, n1, n2⟩ => ⟨p, q, e, D.tups k _ _ h1, k _ _ h2 n1 n2, n1, n2⟩
theorem RuleRowAt.same {d l : Addr} {H H' : Hp} (s : Same H H') (v : V) (R : RuleD) : RuleRowAt d l H v R → RuleRowAt d l H' v R := fun ⟨p, q, e, h1, h2, n1, n2⟩ => ⟨p, q, e, s _ _ h1, s _ _ h2, n1, n2⟩
/-- a list that is changed, of which none of these is made -/
theorem RuleRowAt.upd {d l x : Addr} {H : Hp} {xs : List V} {o : HO} (hx : H x = some (.lst xs)) (v : V) (R : RuleD) (hne : ∀ p q, v = .ref p → H p = some (.tup [.str R.st, .str R.ev, .str R.gd, .str R.th, .ref q]) → q ≠ x) : RuleRowAt d l H v R → RuleRowAt d l (L2.upd H x o) v R := fun ⟨p, q, e, h1, h2, n1, n2⟩ =>
  ⟨p, q, e, by rw [upd_ne (ne_of h1 hx (by intro z; cases z))]; exact h1, by rw [upd_ne (hne p q e h1)]; exact h2, n1, n2⟩
/-- first and rules -/
def MachAt (d l : Addr) (H : Hp) (v : V) (M : MachD) : Prop := ∃ p q vs, v = .ref p ∧ H p = some (.tup [.str M.first, .ref q]) ∧ H q = some (.lst vs) ∧ q ≠ d ∧ q ≠ l ∧ AllAt (RuleRowAt d l H) vs M.rules
theorem MachAt.keep {d l : Addr} {H H' : Hp} (D : DealAt H d l) (k : Keep d l H H') {v : V} {M : MachD} : MachAt d l H v M → MachAt d l H' v M := fun ⟨p, q, vs, e, h1, h2, n1, n2, h3⟩ => ⟨p, q, vs, e, D.tups k _ _ h1, k _ _ h2 n1 n2, n1, n2, h3.imp (RuleRowAt.keep D k)⟩
theorem MachAt.same {d l : Addr} {H H' : Hp} (s : Same H H') {v : V} {M : MachD} : MachAt d l H v M → MachAt d l H' v M := fun ⟨p, q, vs, e, h1, h2, n1, n2, h3⟩ => ⟨p, q, vs, e, s _ _ h1, s _ _ h2, n1, n2, h3.imp (RuleRowAt.same s)⟩
structure MachGood (B : Blk) (M : MachD) (n : Nat) : Prop where
  first : M.first ∈ allNames
  rules : ∀ R ∈ M.rules, RuleDr B R 10
  len : M.rules.length ≤ n
/-- a planned rule: its deeds told, or None -/
def Planned (d l : Addr) (B : Blk) (x : Addr) (H : Hp) (v : V) : Prop := ∃ (p : Addr) (u : V) (R : RuleD), v = .ref p ∧ p ≠ x ∧ H p = some (.tup [.str R.st, .str R.ev, .str R.gd, .str R.th, u]) ∧ RuleDr B R 70 ∧ (u = .non ∨ ∃ q, u = .ref q ∧ H q = some (.lst (R.ds.map V.str)) ∧ q ≠ d ∧ q ≠ l ∧ q ≠ x)
theorem Planned.same {d l x : Addr} {B : Blk} {H H' : Hp} (s : Same H H') {v : V} : Planned d l B x H v → Planned d l B x H' v := fun ⟨p, u, R, e, n, h1, h2, h3⟩ => ⟨p, u, R, e, n, s _ _ h1, h2, h3.imp id fun ⟨q, e, h, n⟩ => ⟨q, e, s _ _ h, n⟩⟩
theorem Planned.keep {d l x : Addr} {B : Blk} {H H' : Hp} (D : DealAt H d l) (k : Keep d l H H') {v : V} : Planned d l B x H v → Planned d l B x H' v := fun ⟨p, u, R, e, n, h1, h2, h3⟩ => ⟨p, u, R, e, n, D.tups k _ _ h1, h2, h3.imp id fun ⟨q, e, h, n1, n2, n3⟩ => ⟨q, e, k _ _ h n1 n2, n1, n2, n3⟩⟩
theorem Planned.upd {d l x : Addr} {B : Blk} {H : Hp} {o : HO} {v : V} : Planned d l B x H v → Planned d l B x (L2.upd H x o) v := fun ⟨p, u, R, e, n, h1, h2, h3⟩ => ⟨p, u, R, e, n, by rw [upd_ne n]; exact h1, h2, h3.imp id fun ⟨q, e, h, n1, n2, n3⟩ => ⟨q, e, by rw [upd_ne n3]; exact h, n1, n2, n3⟩⟩
/-- one that has its deeds -/
def Rowed (d l : Addr) (B : Blk) (x : Addr) (H : Hp) (v : V) : Prop := ∃ (p q : Addr) (R : RuleD), v = .ref p ∧ p ≠ x ∧ H p = some (.tup [.str R.st, .str R.ev, .str R.gd, .str R.th, .ref q]) ∧ RuleDr B R 70 ∧ H q = some (.lst (R.ds.map V.str)) ∧ q ≠ d ∧ q ≠ l ∧ q ≠ x
theorem Rowed.same {d l x : Addr} {B : Blk} {H H' : Hp} (s : Same H H') {v : V} : Rowed d l B x H v → Rowed d l B x H' v := fun ⟨p, q, R, e, n, h1, h2, h3, n3⟩ => ⟨p, q, R, e, n, s _ _ h1, h2, s _ _ h3, n3⟩
theorem Rowed.keep {d l x : Addr} {B : Blk} {H H' : Hp} (D : DealAt H d l) (k : Keep d l H H') {v : V} : Rowed d l B x H v → Rowed d l B x H' v := fun ⟨p, q, R, e, n, h1, h2, h3, n1, n2, n3⟩ => ⟨p, q, R, e, n, D.tups k _ _ h1, h2, k _ _ h3 n1 n2, n1, n2, n3⟩
theorem Rowed.upd {d l x : Addr} {B : Blk} {H : Hp} {o : HO} {v : V} : Rowed d l B x H v → Rowed d l B x (L2.upd H x o) v := fun ⟨p, q, R, e, n, h1, h2, h3, n1, n2, n3⟩ => ⟨p, q, R, e, n, by rw [upd_ne n]; exact h1, h2, by rw [upd_ne n3]; exact h3, n1, n2, n3⟩
theorem Rowed.plan {d l x : Addr} {B : Blk} {H : Hp} {v : V} : Rowed d l B x H v → Planned d l B x H v := fun ⟨p, q, R, e, n, h1, h2, h3, n1, n2, n3⟩ => ⟨p, .ref q, R, e, n, h1, h2, .inr ⟨q, rfl, h3, n1, n2, n3⟩⟩
theorem DeedOf.any {B : Blk} {ask : Bool} {z : Str} (h : DeedOf B false z) : DeedOf B ask z := by
  cases h with
  | plain h => exact .plain h
  | note h => cases h
  | area hu h => exact .area hu h
  | fence hu h => exact .fence hu h
/-- a list of planned rules (or of such as have their deeds), at x -/
structure PileW (Pd : Addr → Addr → Blk → Addr → Hp → V → Prop) (d l : Addr) (B : Blk) (x : Addr) (H0 H : Hp) (n : Nat) : Prop where
  D : DealAt H d l
  kp : Keep d l H0 H
  nd : x ≠ d
  nl : x ≠ l
  h0 : H0 x = none
  ex : ∃ vs, H x = some (.lst vs) ∧ vs.length = n ∧ ∀ v ∈ vs, Pd d l B x H v
theorem PlanW.same {d l x : Addr} {B : Blk} {H0 H H' : Hp} {n : Nat} (h : PileW Planned d l B x H0 H n) (s : Same H H') : PileW Planned d l B x H0 H' n := by
  obtain ⟨D, kp, nd, nl, h0, vs, h1, h2, h3⟩ := h
  exact ⟨D.same s, kp.trans (Keep.same s), nd, nl, h0, vs, s _ _ h1, h2, fun v hv => (h3 v hv).same s⟩
theorem PlanW.keep {d l x : Addr} {B : Blk} {H0 H H' : Hp} {n : Nat} (h : PileW Planned d l B x H0 H n) (k : Keep d l H H') (D' : DealAt H' d l) : PileW Planned d l B x H0 H' n := by
  obtain ⟨D, kp, nd, nl, h0, vs, h1, h2, h3⟩ := h
  exact ⟨D', kp.trans k, nd, nl, h0, vs, k _ _ h1 nd nl, h2, fun v hv => (h3 v hv).keep D k⟩
theorem PlanW.app {d l x : Addr} {B : Blk} {H0 H : Hp} {n : Nat} {vs : List V} {v : V} (h : PileW Planned d l B x H0 H n) (hv : H x = some (.lst vs)) (p : Planned d l B x H v) : PileW Planned d l B x H0 (L2.upd H x (.lst (vs ++ [v]))) (n + 1) := by
  obtain ⟨D, kp, nd, nl, h0, vs', h1, h2, h3⟩ := h
  rw [hv] at h1
  have e : vs = vs' := by injection h1 with h1; injection h1
  subst e
  refine ⟨D.upd nd nl, fun q o e a b => ?_, nd, nl, h0, _, upd_same, by rw [List.length_append, h2]; rfl, fun u hu => ?_⟩
  · rw [upd_ne (ne_of_none e h0)]
    exact kp q o e a b
  · rcases List.mem_append.mp hu with hu | hu
    · exact (h3 u hu).upd
    · rw [List.mem_singleton.mp hu]
      exact p.upd
theorem RowW.same {d l x : Addr} {B : Blk} {H0 H H' : Hp} {n : Nat} (h : PileW Rowed d l B x H0 H n) (s : Same H H') : PileW Rowed d l B x H0 H' n := by
  obtain ⟨D, kp, nd, nl, h0, vs, h1, h2, h3⟩ := h
  exact ⟨D.same s, kp.trans (Keep.same s), nd, nl, h0, vs, s _ _ h1, h2, fun v hv => (h3 v hv).same s⟩
theorem RowW.keep {d l x : Addr} {B : Blk} {H0 H H' : Hp} {n : Nat} (h : PileW Rowed d l B x H0 H n) (k : Keep d l H H') (D' : DealAt H' d l) : PileW Rowed d l B x H0 H' n := by
  obtain ⟨D, kp, nd, nl, h0, vs, h1, h2, h3⟩ := h
  exact ⟨D', kp.trans k, nd, nl, h0, vs, k _ _ h1 nd nl, h2, fun v hv => (h3 v hv).keep D k⟩
/-- the list becomes another one of such -/
theorem RowW.put {d l x : Addr} {B : Blk} {H0 H : Hp} {n m : Nat} {ws : List V} (h : PileW Rowed d l B x H0 H n) (hw : ws.length = m) (p : ∀ v ∈ ws, Rowed d l B x H v) : PileW Rowed d l B x H0 (L2.upd H x (.lst ws)) m := by
  obtain ⟨D, kp, nd, nl, h0, vs', h1, h2, h3⟩ := h
  refine ⟨D.upd nd nl, fun q o e a b => ?_, nd, nl, h0, _, upd_same, hw, fun u hu => (p u hu).upd⟩
  rw [upd_ne (ne_of_none e h0)]
  exact kp q o e a b
def RowX (d l : Addr) (x : Addr) (H : Hp) (v : V) (R : RuleD) : Prop := ∃ p q, v = .ref p ∧ H p = some (.tup [.str R.st, .str R.ev, .str R.gd, .str R.th, .ref q]) ∧ H q = some (.lst (R.ds.map V.str)) ∧ q ≠ d ∧ q ≠ l ∧ q ≠ x
theorem RowX.drop {d l x : Addr} {H : Hp} (v : V) (R : RuleD) : RowX d l x H v R → RuleRowAt d l H v R := fun ⟨p, q, e, h1, h2, n1, n2, _⟩ => ⟨p, q, e, h1, h2, n1, n2⟩
theorem RowX.same {d l x : Addr} {H H' : Hp} (s : Same H H') (v : V) (R : RuleD) : RowX d l x H v R → RowX d l x H' v R := fun ⟨p, q, e, h1, h2, n⟩ => ⟨p, q, e, s _ _ h1, s _ _ h2, n⟩
theorem RowX.keep {d l x : Addr} {H H' : Hp} (D : DealAt H d l) (k : Keep d l H H') (v : V) (R : RuleD) : RowX d l x H v R → RowX d l x H' v R := fun ⟨p, q, e, h1, h2, n1, n2, n3⟩ => ⟨p, q, e, D.tups k _ _ h1, k _ _ h2 n1 n2, n1, n2, n3⟩
theorem RowX.upd {d l x : Addr} {H : Hp} {xs : List V} {o : HO} (hx : H x = some (.lst xs)) (v : V) (R : RuleD) : RowX d l x H v R → RowX d l x (L2.upd H x o) v R := fun ⟨p, q, e, h1, h2, n1, n2, n3⟩ =>
  ⟨p, q, e, by rw [upd_ne (ne_of h1 hx (by intro z; cases z))]; exact h1, by rw [upd_ne n3]; exact h2, n1, n2, n3⟩
theorem ten_dr {B : Blk} {R : RuleD} {n : Nat} (h : RuleDr B R n) : RuleDr B ⟨R.st, R.ev, R.gd, R.th, cutL R.ds none (some ((10 : Nat) : Int))⟩ 10 :=
  ⟨⟨h.1.st, h.1.th, h.1.ev, h.1.gd, fun z hz => h.1.ds z (cutL_mem hz)⟩, by show (cutL R.ds none (some ((10 : Nat) : Int))).length ≤ 10; rw [cutL_len0]; omega⟩
/-- the plan, while what is found is gathered at x -/
structure PlanF (d l : Addr) (B : Blk) (pl x : Addr) (H : Hp) (vs : List V) : Prop where
  h : H pl = some (.lst vs)
  nd : pl ≠ d
  nl : pl ≠ l
  nx : pl ≠ x
  all : ∀ v ∈ vs, Planned d l B x H v
theorem PlanF.keep {d l pl x : Addr} {B : Blk} {H H' : Hp} {vs : List V} (h : PlanF d l B pl x H vs) (D : DealAt H d l) (k : Keep d l H H') : PlanF d l B pl x H' vs := ⟨k _ _ h.h h.nd h.nl, h.nd, h.nl, h.nx, fun v hv => (h.all v hv).keep D k⟩
theorem PlanF.same {d l pl x : Addr} {B : Blk} {H H' : Hp} {vs : List V} (h : PlanF d l B pl x H vs) (s : Same H H') : PlanF d l B pl x H' vs := ⟨s _ _ h.h, h.nd, h.nl, h.nx, fun v hv => (h.all v hv).same s⟩
theorem PlanF.upd {d l pl x : Addr} {B : Blk} {H : Hp} {vs : List V} {o : HO} (h : PlanF d l B pl x H vs) : PlanF d l B pl x (L2.upd H x o) vs := ⟨by rw [upd_ne h.nx]; exact h.h, h.nd, h.nl, h.nx, fun v hv => (h.all v hv).upd⟩
theorem row_dr {B : Blk} {st ev gd th : Str} {ds : List Str} {n : Nat} (h1 : st ∈ allNames) (h2 : ev ∈ txts ["ask", "idle", "tick"]) (h3 : gd ∈ guardL) (h4 : th ∈ allNames) (h5 : ∀ z ∈ ds, DeedOf B (decide (V.str ev = V.str (Str.ofString "ask"))) z) (h6 : ds.length ≤ n) : RuleDr B ⟨st, ev, gd, th, ds⟩ n :=
  ⟨⟨h1, h4, .inl h2, h3, h5⟩, h6⟩
def spSleeper (m s : Nat) : Sp := fun vs H Q _ => ∃ (d l : Addr) (v : V) (B : Blk), vs = [.ref d, v] ∧ DealAt H d l ∧ BlkAt H v B ∧ BlkGood B m s ∧ m ≤ 10 ∧ s ≤ 10 ∧
  ∀ (u : V) (M : MachD) (H' : Hp), MachAt d l H' u M → MachGood B M 6 → DealAt H' d l → Keep d l H H' → Q u H'
def spMachine (m s : Nat) : Sp := fun vs H Q _ => ∃ (d l : Addr) (v : V) (B : Blk) (n : Nat), vs = [.ref d, v, .int (n : Int)] ∧ DealAt H d l ∧ BlkAt H v B ∧ BlkGood B m s ∧ m ≤ 10 ∧ s ≤ 10 ∧ n ≤ 20 ∧
  ∀ (u : V) (M : MachD) (H' : Hp), MachAt d l H' u M → MachGood B M (max 6 n) → DealAt H' d l → Keep d l H H' → Q u H'
structure Mk2 where
  sleeper : Addr
  machine : Addr
structure TxtN (K : PySem.W.Frag) (mg : Str → Option Value) (a : Ds) (b : Ss) (c : Bs) (e : As) (g : Ms) (k : Mk2) : Prop extends TxtM K mg a b c e g where
  g__law_sleeper : mg "_law_sleeper" = some (.ref k.sleeper)
  k__law_sleeper : PySem.W.keepIn K (.ref k.sleeper) = true
  g__law_machine : mg "_law_machine" = some (.ref k.machine)
  k__law_machine : PySem.W.keepIn K (.ref k.machine) = true
section
variable {P : Program} {w : World} {K : PySem.W.Frag} {mg : Str → Option Value} {base : Heap} {a : Ds} {b : Ss} {c : Bs} {e : As} {g : Ms} {kk : Mk2} {f : Addr} {fd : FuncData} {m s n : Nat}
theorem ok_sleeper {f1 f2 f3 f4 f5 f6 : FuncData} (F : Fun K "_law_sleeper" "_law_sleeper" s_law_sleeper f fd) (T : TxtN K mg a b c e g kk)
    (G__law_draw : FnOk P w K mg base CX0 1 a.draw f1 ["_law_deal_here", "_law_many"] spDraw) (b__law_draw : Binds K f1 ["_law_deal_here", "_law_many"] [])
    (G__law_pick : FnOk P w K mg base CX0 2 a.pick f2 ["_law_deal_here", "_law_some"] (spPick K)) (b__law_pick : Binds K f2 ["_law_deal_here", "_law_some"] [])
    (G__law_names : FnOk P w K mg base CX0 2 a.names f3 ["_law_deal_here", "_law_many"] spNames) (b__law_names : Binds K f3 ["_law_deal_here", "_law_many"] [])
    (G__law_any_rule : FnOk P w K mg base CX0 4 e.any_rule f4 ["_law_deal_here", "_law_block_here", "_law_states"] (spAnyRule m s)) (b__law_any_rule : Binds K f4 ["_law_deal_here", "_law_block_here", "_law_states"] [])
    (G__law_sleep_row : FnOk P w K mg base CX0 3 g.sleep_row f5 ["_law_deal_here", "_law_block_here"] (spRow m s)) (b__law_sleep_row : Binds K f5 ["_law_deal_here", "_law_block_here"] [])
    (G__law_wake_row : FnOk P w K mg base CX0 3 g.wake_row f6 ["_law_deal_here", "_law_block_here"] (spRow m s)) (b__law_wake_row : Binds K f6 ["_law_deal_here", "_law_block_here"] []) :
    FnOk P w K mg base CX0 5 f fd ["_law_deal_here", "_law_block_here"] (spSleeper m s) := by
  refine F.ok sc_law_sleeper (fun vs H Q E h => ?_) (fun cdv A outer sh H vs Q E hr h => ?_)
  · obtain ⟨_, _, _, _, rfl, _⟩ := h
    rfl
  · obtain ⟨d, l, v, B, rfl, D, hB, gB, hm, hs, k⟩ := h
    have nm4 : ∀ z ∈ allNames, z.length ≤ 4 := fun z hz => (nm_len hz).1
    -- the end
    have rest10 : ∃ t, PSs (cxOf CX0 P w K mg base N_law_sleeper "_law_sleeper" (defScope s_law_sleeper) f cdv A outer sh H E).nox ((defBody s_law_sleeper).drop 10) t ∧
        ∀ (up off mid : Str) (pl fo : Addr) (v6 v8 : Option V) (n : Nat) (Hx : Hp), up ∈ allNames → PileW Rowed d l B fo H Hx n → n ≤ 6 → t { nx := fun _ H' => Q .non H', rt := Q } [some (.ref d), some v, some (.str up), some (.str off), some (.str mid), some (.ref pl), v6, some (.ref fo), v8] Hx := by
      refine ⟨_, (pss_one (ps_ret (pe_tup (pa_cons (pv 2) (pa_cons (pe_lc (own := [("_law_rule", 8)]) (g := gName 8) (tt := tYes) rfl sc_law_sleeper.nd (pi_list (pv 7)) (blkOk_by (N := N_law_sleeper) (sc := defScope s_law_sleeper) (by decide +kernel)) (fun _ _ _ _ _ => (pg_name (i := 8) sc_law_sleeper.nd rfl (Or.inl rfl))) (fun _ _ _ _ _ => pts_nil) (fun _ _ _ _ _ => (pe_op (op_catAK (K := K) rfl) (pe_slice (sl_tupK (K := K) rfl) (pv 8) po_none (po_some pe_int)) (pe_tup (pa_cons (pe_slice (sl_listK (K := K) rfl) (pe_ix (ix_tupK (K := K) rfl) (pv 8) pe_int (fun _ _ => rfl)) po_none (po_some pe_int)) pa_nil))))) pa_nil))))), ?_⟩
      intro up off mid pl fo v6 v8 n Hx hup W hn
      obtain ⟨vs, hvs, hvl, hva⟩ := id W.ex
      refine ⟨_, rfl, _, rfl, fo, rfl, ⟨_, .inl (.inl hvs)⟩, fun D1 hD1 => ?_⟩
      have d1d := W.D.nd hD1
      have d1l := W.D.nl hD1
      have hD0 := W.kp.free D W.D hD1
      refine lc_list (K := K) (a := fo) (xs := vs) (fun j H' => Same Hx H' ∧ ∃ ws Rs, H' D1 = some (.lst ws) ∧ AllAt (RowX d l D1 H') ws Rs ∧ Rs.length = j ∧ ∀ R ∈ Rs, RuleDr B R 10) ⟨Same.upd_new hD1, [], [], upd_same, True.intro, rfl, fun _ h => by cases h⟩ (fun j H' _ h => .inl (.inl (h.1 _ _ hvs))) ?_ ?_
      · rintro j x H' hx ⟨s1, ws, Rs, hw, hA, hj, hR⟩
        have hxm := List.mem_of_getElem? hx
        have hjl : j < vs.length := (List.getElem?_eq_some_iff.mp hx).1
        obtain ⟨p, q, R, rfl, px, hp, dr, hq, qd, ql, qx⟩ := (hva x hxm).same s1
        refine ⟨rfl, _, rfl, _, rfl, p, _, rfl, .inl (.inl hp), not4 _ _ _ _ _, fun sl hsl => ?_⟩
        rw [cut4]
        have t2 := Same.upd_new (o := .tup [.str R.st, .str R.ev, .str R.gd, .str R.th]) hsl
        refine ⟨_, rfl, p, _, _, _, rfl, rfl, .inl (.inl (t2 _ _ hp)), atI_nat (j := 4) rfl, _, rfl, q, _, rfl, .inl (.inl (t2 _ _ hq)), fun lq hlq => ?_⟩
        rw [show (10 : Int) = ((10 : Nat) : Int) from rfl, cut_map]
        have t3 := Same.upd_new (o := .lst ((cutL R.ds none (some ((10 : Nat) : Int))).map V.str)) hlq
        refine ⟨(by show 1 ≤ sizeLine; decide), fun t1 ht1 => ?_⟩
        have t4 := Same.upd_new (o := .tup [.ref lq]) ht1
        refine ⟨sl, t1, _, _, rfl, rfl, .inl (.inl (t4 _ _ (t3 _ _ upd_same))), .inl (.inl upd_same), (by show 5 ≤ sizeLine; decide), (fun e => by cases e), (fun _ e => by cases e), fun _ _ tc htc => ?_⟩
        have t5 := Same.upd_new (o := .tup ([.str R.st, .str R.ev, .str R.gd, .str R.th] ++ [.ref lq])) htc
        have sX := ((t2.trans t3).trans t4).trans t5
        have D1k := sX _ _ hw
        have lqD : lq ≠ D1 := (ne_of_none (t2 _ _ hw) hlq).symm
        refine ⟨ws, D1k, ?_, ?_, ws ++ [.ref tc], Rs ++ [⟨R.st, R.ev, R.gd, R.th, cutL R.ds none (some ((10 : Nat) : Int))⟩], upd_same, ?_, ?_, ?_⟩
        · rw [hA.len]
          exact small1000 (by omega)
        · intro b o e
          rw [upd_ne (ne_of_none e hD1)]
          exact sX _ _ (s1 b o e)
        · refine AllAt.app ((hA.imp (RowX.same sX)).imp (RowX.upd D1k)) ⟨RowX.upd D1k _ _ ⟨tc, lq, rfl, upd_same, t5 _ _ (t4 _ _ upd_same), (W.D.same (s1.trans t2)).nd hlq, (W.D.same (s1.trans t2)).nl hlq, lqD⟩, True.intro⟩
        · rw [List.length_append, hj]
          rfl
        · intro R' hR'
          rcases List.mem_append.mp hR' with h | h
          · exact hR R' h
          · rw [List.mem_singleton.mp h]
            exact ten_dr dr
      · rintro H' ⟨s1, ws, Rs, hw, hA, hj, hR⟩
        refine ⟨(by show 2 ≤ sizeLine; decide), fun tm htm => ?_⟩
        have s2 := Same.upd_new (o := .tup [.str up, .ref D1]) htm
        exact k (.ref tm) ⟨up, Rs⟩ _ ⟨tm, D1, ws, rfl, upd_same, s2 _ _ hw, d1d, d1l, (hA.imp (RowX.same s2)).imp RowX.drop⟩ ⟨hup, hR, by show Rs.length ≤ 6; omega⟩ ((W.D.same s1).same s2) (W.kp.trans (Keep.same (s1.trans s2)))
    obtain ⟨t10, h10, k10⟩ := rest10
    have rest9 : ∃ t, PSs (cxOf CX0 P w K mg base N_law_sleeper "_law_sleeper" (defScope s_law_sleeper) f cdv A outer sh H E).nox ((defBody s_law_sleeper).drop 9) t ∧
        ∀ (up off mid : Str) (pl fo : Addr) (v6 v8 : Option V) (n : Nat) (Hx : Hp), up ∈ allNames → PileW Rowed d l B fo H Hx n → 1 ≤ n → n ≤ 6 → t { nx := fun _ H' => Q .non H', rt := Q } [some (.ref d), some v, some (.str up), some (.str off), some (.str mid), some (.ref pl), v6, some (.ref fo), v8] Hx := by
      refine ⟨_, pss_cons (ps_if (pt_cmpR op_eq (pe_call G__law_draw (hr.mono (by decide)) rfl T.g__law_draw T.k__law_draw b__law_draw .nil pass0 (pa_cons (pv 0) (pa_cons pe_int pa_nil))) pe_int (nomark _)) (pss_one (ps_expr (pe_bm PySem.F.plainAttrs_list PySem.F.slot_list_pop PySem.F.type_list_pop mt_popAt (pv 7) (pa_cons (pe_call G__law_draw (hr.mono (by decide)) rfl T.g__law_draw T.k__law_draw b__law_draw .nil pass0 (pa_cons (pv 0) (pa_cons (pe_callB call_len (by rfl) T.b_len PySem.boot_len (pa_cons (pv 7) pa_nil)) pa_nil))) pa_nil)))) pss_nil) h10, ?_⟩
      intro up off mid pl fo v6 v8 n Hx hup W hn1 hn
      refine ⟨_, rfl, d, l, 6, rfl, W.D, by decide, by decide, fun r H1 _ _ D1 kp1 => ⟨rfl, _, rfl, ?_⟩⟩
      replace W := RowW.keep W kp1 D1
      refine ite_bool (fun _ => ?_) (fun _ => k10 up off mid pl fo v6 v8 n H1 hup W hn)
      obtain ⟨vs, hvs, hvl, hva⟩ := id W.ex
      refine ⟨_, rfl, .inl ⟨rfl, _, .inl (.inl hvs)⟩, _, rfl, _, rfl, _, n, rfl, .inl ⟨_, .inl (.inl hvs), hvl.symm⟩, d, l, (n : Int), rfl, W.D, by omega, by omega, fun r2 H2 r0 r1 D2 kp2 => ?_⟩
      obtain ⟨j, rfl⟩ := Int.eq_ofNat_of_zero_le r0
      have hj : j < vs.length := by omega
      replace W := RowW.keep W kp2 D2
      have hvs2 := kp2 _ _ hvs W.nd W.nl
      refine ⟨fo, vs, (j : Int), j, vs[j], rfl, rfl, hvs2, by omega, by omega, seq_ix hj, List.getElem?_eq_getElem hj, ?_⟩
      refine k10 up off mid pl fo v6 v8 (n - 1) _ hup (RowW.put W (by rw [List.length_eraseIdx, if_pos hj]; omega) fun v hv => ?_) (by omega)
      obtain ⟨vs', h1, _, h3⟩ := W.ex
      rw [hvs2] at h1
      have e : vs = vs' := by injection h1 with h1; injection h1
      subst e
      exact h3 v (List.mem_of_mem_eraseIdx hv)
    obtain ⟨t9, h9, k9⟩ := rest9
    have rest8 : ∃ t, PSs (cxOf CX0 P w K mg base N_law_sleeper "_law_sleeper" (defScope s_law_sleeper) f cdv A outer sh H E).nox ((defBody s_law_sleeper).drop 8) t ∧
        ∀ (up off mid : Str) (pl fo : Addr) (v6 v8 : Option V) (Hx : Hp), up ∈ allNames → off ∈ allNames → mid ∈ allNames → PileW Rowed d l B fo H Hx 5 → t { nx := fun _ H' => Q .non H', rt := Q } [some (.ref d), some v, some (.str up), some (.str off), some (.str mid), some (.ref pl), v6, some (.ref fo), v8] Hx := by
      refine ⟨_, pss_cons (ps_if (pt_cmpR op_eq (pe_call G__law_draw (hr.mono (by decide)) rfl T.g__law_draw T.k__law_draw b__law_draw .nil pass0 (pa_cons (pv 0) (pa_cons pe_int pa_nil))) pe_int (nomark _)) (pss_one (ps_expr (pe_bm PySem.F.plainAttrs_list PySem.F.slot_list_insert PySem.F.type_list_insert mt_insert (pv 7) (pa_cons (pe_call G__law_draw (hr.mono (by decide)) rfl T.g__law_draw T.k__law_draw b__law_draw .nil pass0 (pa_cons (pv 0) (pa_cons (pe_op op_add (pe_callB call_len (by rfl) T.b_len PySem.boot_len (pa_cons (pv 7) pa_nil)) pe_int) pa_nil))) (pa_cons (pe_call G__law_any_rule (hr.mono (by decide)) rfl T.g__law_any_rule T.k__law_any_rule b__law_any_rule .nil pass0 (pa_cons (pv 0) (pa_cons (pv 1) (pa_cons (pe_lst (pa_cons (pv 2) (pa_cons (pv 3) (pa_cons (pv 4) pa_nil)))) pa_nil)))) pa_nil))))) pss_nil) h9, ?_⟩
      intro up off mid pl fo v6 v8 Hx hup hoff hmid W
      refine ⟨_, rfl, d, l, 3, rfl, W.D, by decide, by decide, fun r H1 _ _ D1 kp1 => ⟨rfl, _, rfl, ?_⟩⟩
      replace W := RowW.keep W kp1 D1
      refine ite_bool (fun _ => ?_) (fun _ => k9 up off mid pl fo v6 v8 5 H1 hup W (by decide) (by decide))
      obtain ⟨vs, hvs, hvl, hva⟩ := id W.ex
      refine ⟨_, rfl, .inl ⟨rfl, _, .inl (.inl hvs)⟩, _, rfl, _, rfl, _, 5, rfl, .inl ⟨_, .inl (.inl hvs), hvl.symm⟩, _, _, rfl, rfl, d, l, _, rfl, W.D, by decide, by decide, fun r2 H2 r0 r1 D2 kp2 => ?_⟩
      obtain ⟨j, rfl⟩ := Int.eq_ofNat_of_zero_le r0
      replace W := RowW.keep W kp2 D2
      have hvs2 := kp2 _ _ hvs W.nd W.nl
      refine ⟨_, rfl, _, rfl, _, rfl, _, rfl, _, rfl, (by show 3 ≤ sizeLine; decide), fun ln hln => ?_⟩
      have s3 := Same.upd_new (o := .lst ([up, off, mid].map V.str)) hln
      have W3 := RowW.same W s3
      refine ⟨d, l, ln, v, B, [up, off, mid], rfl, W3.D, BlkAt.stay (D.tups W3.kp) hB, gB, hm, hs, upd_same, W.D.nd hln, W.D.nl hln, (by intro e; cases e), (by show 3 ≤ 1000; decide), fun p q R H4 hp hqn hq hRl hR D4 kp4 => ?_⟩
      have W4 := RowW.keep W3 kp4 D4
      have hvs4 := kp4 _ _ (s3 _ _ hvs2) W.nd W.nl
      have h3 : ∀ z ∈ [up, off, mid], z ∈ allNames := fun z hz => by
        simp only [List.mem_cons, List.not_mem_nil, or_false] at hz
        rcases hz with rfl | rfl | rfl
        · exact hup
        · exact hoff
        · exact hmid
      have dr : RuleDr B R 70 := ⟨⟨h3 _ hR.st, h3 _ hR.th, hR.ev, hR.gd, hR.ds⟩, by omega⟩
      refine ⟨fo, vs, (j : Int), .ref p, rfl, rfl, hvs4, small1000 (by omega), by omega, by omega, ?_⟩
      refine k9 up off mid pl fo v6 v8 6 _ hup (RowW.put (m := 6) W4 ?_ fun u hu => ?_) (by decide) (by decide)
      · rw [List.length_append, List.length_append, List.length_take, List.length_drop]
        show min _ _ + 1 + _ = 6
        rw [hvl]
        omega
      · obtain ⟨vs', h1, _, h4⟩ := W4.ex
        rw [hvs4] at h1
        have e : vs = vs' := by injection h1 with h1; injection h1
        subst e
        rcases List.mem_append.mp hu with hu | hu
        · rcases List.mem_append.mp hu with hu | hu
          · exact h4 u (List.mem_of_mem_take hu)
          · rw [List.mem_singleton.mp hu]
            refine ⟨p, q, R, rfl, ne_of hp hvs4 (by intro z; cases z), hp, dr, hq, W3.D.nd hqn, W3.D.nl hqn, (ne_of_none (s3 _ _ hvs2) hqn).symm⟩
        · exact h4 u (List.mem_of_mem_drop hu)
    obtain ⟨t8, h8, k8⟩ := rest8
    have rest5 : ∃ t, PSs (cxOf CX0 P w K mg base N_law_sleeper "_law_sleeper" (defScope s_law_sleeper) f cdv A outer sh H E).nox ((defBody s_law_sleeper).drop 5) t ∧
        ∀ (up off mid : Str) (pl la : Addr) (as : List Str) (Hx : Hp), up ∈ allNames → off ∈ allNames → mid ∈ allNames → PileW Planned d l B pl H Hx 4 → Hx la = some (.lst (as.map V.str)) → la ≠ d → la ≠ l → as.length ≤ 1 → (∀ z ∈ as, DeedOf B false z) → t { nx := fun _ H' => Q .non H', rt := Q } [some (.ref d), some v, some (.str up), some (.str off), some (.str mid), some (.ref pl), some (.ref la), none, none] Hx := by
      refine ⟨_, pss_cons (ps_expr (pe_bm PySem.F.plainAttrs_list PySem.F.slot_list_append PySem.F.type_list_append mt_append (pv 5) (pa_cons (pe_tup (pa_cons (pv 4) (pa_cons pe_str (pa_cons (pe_call G__law_pick (hr.mono (by decide)) rfl T.g__law_pick T.k__law_pick b__law_pick .nil pass0 (pa_cons (pv 0) (pa_cons (pe_lst (pa_cons pe_str (pa_cons pe_str pa_nil))) pa_nil))) (pa_cons (pv 2) (pa_cons (pe_op op_cat (pe_call G__law_wake_row (hr.mono (by decide)) rfl T.g__law_wake_row T.k__law_wake_row b__law_wake_row .nil pass0 (pa_cons (pv 0) (pa_cons (pv 1) pa_nil))) (pv 6)) pa_nil)))))) pa_nil))) (pss_cons (ps_set (i := 7) sc_law_sleeper.nd rfl (Or.inl rfl) (pe_lst pa_nil)) (pss_cons (ps_for PassesOwn.never rfl (pi_list (pv 5)) (pg_name (i := 8) sc_law_sleeper.nd rfl (Or.inl rfl))
      (pss_one (ps_expr (pe_bm PySem.F.plainAttrs_list PySem.F.slot_list_append PySem.F.type_list_append mt_append (pv 7) (pa_cons (pe_ifExp (pt_cmpR op_notN (pe_ix ix_tup (pv 8) pe_int (fun _ _ => rfl)) pe_non (nomark _)) (pv 8) (pe_op (op_catA) (pe_slice sl_tup (pv 8) po_none (po_some pe_int)) (pe_tup (pa_cons (pe_call G__law_sleep_row (hr.mono (by decide)) rfl T.g__law_sleep_row T.k__law_sleep_row b__law_sleep_row .nil pass0 (pa_cons (pv 0) (pa_cons (pv 1) pa_nil))) pa_nil)))) pa_nil))))) h8)), ?_⟩
      intro up off mid pl la as Hx hup hoff hmid W hla lad lal has hasd
      obtain ⟨vs0, hv0, hvl0, _⟩ := id W.ex
      refine ⟨_, rfl, .inl ⟨rfl, _, .inl (.inl hv0)⟩, _, rfl, _, rfl, (by show 2 ≤ sizeLine; decide), fun lp hlp => ?_⟩
      have s1 := Same.upd_new (o := .lst ((txts ["any", "waits"]).map V.str)) hlp
      have W1 := PlanW.same W s1
      refine ⟨d, l, lp, _, rfl, W1.D, upd_same, W.D.nd hlp, W.D.nl hlp, (by intro e; cases e), (by show 2 ≤ 1000; decide), fun g1 H2 hg1 D2 kp2 => ?_⟩
      obtain ⟨gd1, hgd1, rfl⟩ : ∃ z, z ∈ guardL ∧ g1 = V.str z := by
        obtain ⟨z, hz, rfl⟩ := List.mem_map.mp (show g1 ∈ (txts ["any", "waits"]).map V.str from hg1)
        have q : ∀ z ∈ txts ["any", "waits"], z ∈ guardL := by decide +kernel
        exact ⟨z, q z hz, rfl⟩
      have W2 := PlanW.keep W1 kp2 D2
      have hla2 := kp2 _ _ (s1 _ _ hla) lad lal
      refine ⟨_, rfl, _, rfl, _, rfl, d, l, v, B, rfl, D2, BlkAt.stay (D.tups W2.kp) hB, gB, hm, hs, fun wr ys H3 hwr hwn hwl hwd D3 kp3 => ?_⟩
      have W3 := PlanW.keep W2 kp3 D3
      have hla3 := kp3 _ _ hla2 lad lal
      refine ⟨_, rfl, wr, la, _, _, rfl, rfl, hwn, hla3, ?_, fun lr hlr => ?_⟩
      · rw [List.length_map, List.length_map]
        exact len1000 (by omega)
      rw [← List.map_append]
      have s4 := Same.upd_new (o := .lst ((ys ++ as).map V.str)) hlr
      have W4 := PlanW.same W3 s4
      have lrd := D3.nd hlr
      have lrl := D3.nl hlr
      obtain ⟨vs3, hv3, hvl3, _⟩ := id W3.ex
      have lrp : lr ≠ pl := (ne_of_none hv3 hlr).symm
      refine ⟨(by show 5 ≤ sizeLine; decide), fun t5 ht5 => ?_⟩
      have s5 := Same.upd_new (o := .tup [V.str mid, V.str (Str.ofString "tick"), V.str gd1, V.str up, .ref lr]) ht5
      have W5 := PlanW.same W4 s5
      have dr : RuleDr B ⟨mid, Str.ofString "tick", gd1, up, ys ++ as⟩ 70 := row_dr hmid (by decide +kernel) hgd1 hup (fun z hz => by
        rcases List.mem_append.mp hz with h | h
        · exact (hwd z h).any
        · exact (hasd z h).any) (by rw [List.length_append]; omega)
      have pn : Planned d l B pl (upd (upd H3 lr (.lst ((ys ++ as).map V.str))) t5 (.tup [V.str mid, V.str (Str.ofString "tick"), V.str gd1, V.str up, .ref lr])) (.ref t5) := ⟨t5, .ref lr, ⟨mid, Str.ofString "tick", gd1, up, ys ++ as⟩, rfl, (ne_of_none (s4 _ _ hv3) ht5).symm, upd_same, dr, .inr ⟨lr, rfl, s5 _ _ upd_same, lrd, lrl, lrp⟩⟩
      refine ⟨pl, vs3, _, rfl, rfl, s5 _ _ (s4 _ _ hv3), small1000 (by omega), ?_⟩
      have W6 := PlanW.app W5 (s5 _ _ (s4 _ _ hv3)) pn
      clear W W1 W2 W3 W4 W5 s1 s4 s5 hv0 hvl0 hv3 hvl3 pn dr hla hla2 hla3 hwn hwr hlr ht5 hlp kp2 kp3
      generalize upd (upd (upd H3 lr _) t5 _) pl _ = H4 at W6 ⊢
      -- found
      refine ⟨(by show 0 ≤ sizeLine; decide), fun fo hfo => ?_⟩
      obtain ⟨vs, hvs, hvl, hva⟩ := id W6.ex
      have fod := W6.D.nd hfo
      have fol := W6.D.nl hfo
      have fo0 := W6.kp.free D W6.D hfo
      have s7 := Same.upd_new (o := .lst []) hfo
      have PF : PlanF d l B pl fo (upd H4 fo (.lst [])) vs := ⟨s7 _ _ hvs, W6.nd, W6.nl, ne_of_none hvs hfo, fun u hu => by
        obtain ⟨p, x, R, e, n, h1, h2, h3⟩ := hva u hu
        refine ⟨p, x, R, e, ne_of_none h1 hfo, s7 _ _ h1, h2, h3.imp id fun ⟨q, e, h, n1, n2, n3⟩ => ⟨q, e, s7 _ _ h, n1, n2, ne_of_none h hfo⟩⟩⟩
      have W7 : PileW Rowed d l B fo H (upd H4 fo (.lst [])) 0 := ⟨W6.D.same s7, W6.kp.trans (Keep.same s7), fod, fol, fo0, [], upd_same, rfl, fun _ h => by cases h⟩
      clear W6 hva hvs s7 hfo
      refine ⟨_, rfl, pl, rfl, ⟨_, .inl (.inl PF.h)⟩, ?_⟩
      refine for_list (K := K) (a := pl) (xs := vs) (fun i σ H' => ∃ v8 : Option V, σ = [some (.ref d), some v, some (.str up), some (.str off), some (.str mid), some (.ref pl), some (.ref la), some (.ref fo), v8] ∧ PlanF d l B pl fo H' vs ∧ PileW Rowed d l B fo H H' i)
        ⟨none, rfl, PF, W7⟩ (fun i σ H' _ ⟨_, _, h, _⟩ => .inl (.inl h.h)) ?_ ?_
      · clear PF W7
        rintro i x σ H5 hx ⟨v8, rfl, PF, W5⟩
        have hi : i < vs.length := (List.getElem?_eq_some_iff.mp hx).1
        obtain ⟨p, u, R, rfl, px, hp, dr, hu⟩ := PF.all x (List.mem_of_getElem? hx)
        obtain ⟨ws, hws, hwl, hwa⟩ := id W5.ex
        refine ⟨_, rfl, .inl ⟨rfl, _, .inl (.inl hws)⟩, ?_⟩
        refine ⟨_, rfl, p, _, _, _, rfl, rfl, .inl (.inl hp), atI_nat (j := 4) rfl, rfl, _, rfl, ?_⟩
        rcases hu with rfl | ⟨q, rfl, hq, n1, n2, n3⟩
        · refine iteF ?_
          refine ⟨_, rfl, _, rfl, p, _, rfl, .inl (.inl hp), not4 _ _ _ _ _, fun sl hsl => ?_⟩
          rw [cut4]
          have s1 := Same.upd_new (o := .tup [.str R.st, .str R.ev, .str R.gd, .str R.th]) hsl
          have W6 := RowW.same W5 s1
          refine ⟨_, rfl, _, rfl, d, l, v, B, rfl, W6.D, BlkAt.stay (D.tups W6.kp) hB, gB, hm, hs, fun sr ys' H6 hsr hsn hsl' hsd D6 kp6 => ?_⟩
          have W7 := RowW.keep W6 kp6 D6
          have hws6 := kp6 _ _ (s1 _ _ hws) fod fol
          have srf : sr ≠ fo := by
            intro e
            rw [e, s1 _ _ hws] at hsr
            cases hsr
          have srd := W6.D.nd hsr
          have srl := W6.D.nl hsr
          have sl6 := W6.D.tups kp6 _ _ upd_same
          refine ⟨(by show 1 ≤ sizeLine; decide), fun t1 ht1 => ?_⟩
          have s2 := Same.upd_new (o := .tup [.ref sr]) ht1
          refine ⟨sl, t1, _, _, rfl, rfl, .inl (.inl (s2 _ _ sl6)), .inl (.inl upd_same), (by show 5 ≤ sizeLine; decide), (fun e => by cases e), (fun _ e => by cases e), fun _ _ tc htc => ?_⟩
          have s3 := Same.upd_new (o := .tup ([.str R.st, .str R.ev, .str R.gd, .str R.th] ++ [.ref sr])) htc
          have s23 := s2.trans s3
          have W8 := RowW.same W7 s23
          have dr2 : RuleDr B ⟨R.st, R.ev, R.gd, R.th, ys'⟩ 70 := ⟨⟨dr.1.st, dr.1.th, dr.1.ev, dr.1.gd, fun z hz => (hsd z hz).any⟩, by show ys'.length ≤ 70; omega⟩
          have hws8 := s23 _ _ hws6
          refine ⟨fo, ws, _, rfl, rfl, hws8, small1000 (by omega), _, rfl, ?_, RowW.put W8 (by rw [List.length_append, hwl]; rfl) fun y hy => ?_⟩
          · exact (((PF.same s1).keep W6.D kp6).same s23).upd
          · rcases List.mem_append.mp hy with hy | hy
            · exact ((hwa y hy).same s1).keep W6.D kp6 |>.same s23
            · rw [List.mem_singleton.mp hy]
              exact ⟨tc, sr, ⟨R.st, R.ev, R.gd, R.th, ys'⟩, rfl, (ne_of_none (s2 _ _ hws6) htc).symm, upd_same, dr2, s23 _ _ hsn, srd, srl, srf⟩
        · refine iteT ⟨_, rfl, fo, ws, _, rfl, rfl, hws, small1000 (by omega), _, rfl, PF.upd, RowW.put W5 (by rw [List.length_append, hwl]; rfl) fun y hy => ?_⟩
          rcases List.mem_append.mp hy with hy | hy
          · exact hwa y hy
          · rw [List.mem_singleton.mp hy]
            exact ⟨p, q, R, rfl, px, hp, dr, hq, n1, n2, n3⟩
      · rintro σ H5 ⟨v8, rfl, PF, W5⟩
        rw [hvl] at W5
        exact k8 up off mid pl fo _ v8 H5 hup hoff hmid W5
    obtain ⟨t5, h5, k5⟩ := rest5
    refine ⟨_, pss_cons (ps_asg (pe_call G__law_names (hr.mono (by decide)) rfl T.g__law_names T.k__law_names b__law_names .nil pass0 (pa_cons (pv 0) (pa_cons pe_int pa_nil))) (pg_unl rfl (pgs_cons (pg_name (i := 2) sc_law_sleeper.nd rfl (Or.inl rfl)) (pgs_cons (pg_name (i := 3) sc_law_sleeper.nd rfl (Or.inl rfl)) (pgs_cons (pg_name (i := 4) sc_law_sleeper.nd rfl (Or.inl rfl)) pgs_nil))))) (pss_cons (ps_set (i := 5) sc_law_sleeper.nd rfl (Or.inl rfl) (pe_lst (pa_cons (pe_tup (pa_cons (pv 2) (pa_cons pe_str (pa_cons pe_str (pa_cons (pv 2) (pa_cons (pe_lst (pa_cons pe_str pa_nil)) pa_nil)))))) (pa_cons (pe_tup (pa_cons (pv 2) (pa_cons pe_str (pa_cons (pe_call G__law_pick (hr.mono (by decide)) rfl T.g__law_pick T.k__law_pick b__law_pick .nil pass0 (pa_cons (pv 0) (pa_cons (pe_lst (pa_cons pe_str (pa_cons pe_str pa_nil))) pa_nil))) (pa_cons (pv 3) (pa_cons pe_non pa_nil)))))) pa_nil)))) (pss_cons (ps_expr (pe_bm PySem.F.plainAttrs_list PySem.F.slot_list_append PySem.F.type_list_append mt_append (pv 5) (pa_cons (pe_tup (pa_cons (pv 3) (pa_cons pe_str (pa_cons pe_str (pa_cons (pv 4) (pa_cons (pe_lst (pa_cons pe_str pa_nil)) pa_nil)))))) pa_nil))) (pss_cons (ps_expr (pe_bm PySem.F.plainAttrs_list PySem.F.slot_list_append PySem.F.type_list_append mt_append (pv 5) (pa_cons (pe_tup (pa_cons (pv 4) (pa_cons pe_str (pa_cons (pe_call G__law_pick (hr.mono (by decide)) rfl T.g__law_pick T.k__law_pick b__law_pick .nil pass0 (pa_cons (pv 0) (pa_cons (pe_lst (pa_cons pe_str (pa_cons pe_str pa_nil))) pa_nil))) (pa_cons (pv 4) (pa_cons (pe_lst (pa_cons pe_str pa_nil)) pa_nil)))))) pa_nil))) (pss_cons (ps_set (i := 6) sc_law_sleeper.nd rfl (Or.inl rfl) (pe_ifExp (pt_cmpR op_gt (pe_call G__law_draw (hr.mono (by decide)) rfl T.g__law_draw T.k__law_draw b__law_draw .nil pass0 (pa_cons (pv 0) (pa_cons pe_int pa_nil))) pe_int (nomark _)) (pe_lst (pa_cons pe_str pa_nil)) (pe_lst pa_nil))) h5)))), ?_⟩
    refine ⟨_, rfl, d, l, 3, rfl, D, by decide, by decide, fun sn zs H1 hsn hzs hzl hzm D1 kp1 => ⟨sn, _, rfl, .inl (.inl hzs), by rw [List.length_map, hzl]; rfl, ?_⟩⟩
    obtain ⟨up, off, mid, rfl⟩ : ∃ x y z, zs = [x, y, z] := by
      match zs, hzl with
      | [x, y, z], _ => exact ⟨x, y, z, rfl⟩
    have nup := hzm up (by simp)
    have noff := hzm off (by simp)
    have nmid := hzm mid (by simp)
    refine ⟨_, _, rfl, _, _, rfl, _, _, rfl, rfl, ?_⟩
    have hB1 := BlkAt.stay (D.tups kp1) hB
    clear hsn hzs hzl hzm
    -- planned
    refine ⟨_, rfl, _, rfl, (by show 1 ≤ sizeLine; decide), fun l1 hl1 => ⟨(by show 5 ≤ sizeLine; decide), fun t1 ht1 => ?_⟩⟩
    have l1d := D1.nd hl1
    have l1l := D1.nl hl1
    have a1 := Same.upd_new (o := .lst [V.str (Str.ofString "answer")]) hl1
    have a2 := Same.upd_new (o := .tup [V.str up, V.str (Str.ofString "ask"), V.str (Str.ofString "any"), V.str up, .ref l1]) ht1
    have D2 := (D1.same a1).same a2
    refine ⟨_, rfl, _, rfl, (by show 2 ≤ sizeLine; decide), fun lp hlp => ?_⟩
    have a3 := Same.upd_new (o := .lst ((txts ["calm", "any"]).map V.str)) hlp
    refine ⟨d, l, lp, _, rfl, D2.same a3, upd_same, D2.nd hlp, D2.nl hlp, (by intro e; cases e), (by show 2 ≤ 1000; decide), fun g1 H2 hg1 D3 kp2 => ?_⟩
    obtain ⟨gd1, hgd1, rfl⟩ : ∃ z, z ∈ guardL ∧ g1 = V.str z := by
      obtain ⟨z, hz, rfl⟩ := List.mem_map.mp (show g1 ∈ (txts ["calm", "any"]).map V.str from hg1)
      have q : ∀ z ∈ txts ["calm", "any"], z ∈ guardL := by decide +kernel
      exact ⟨z, q z hz, rfl⟩
    have ht1' := kp2 _ _ (a3 _ _ upd_same) (D1.same a1 |>.nd ht1) (D1.same a1 |>.nl ht1)
    have hl1' := kp2 _ _ (a3 _ _ (a2 _ _ upd_same)) l1d l1l
    have kpA : Keep d l H H2 := (kp1.trans (Keep.same ((a1.trans a2).trans a3))).trans kp2
    clear a1 a2 a3 hlp D2 kp2 hl1 ht1 hg1
    refine ⟨_, rfl, (by show 5 ≤ sizeLine; decide), fun t2 ht2 => ⟨(by show 2 ≤ sizeLine; decide), fun pl hpl => ?_⟩⟩
    have a4 := Same.upd_new (o := .tup [V.str up, V.str (Str.ofString "idle"), V.str gd1, V.str off, .non]) ht2
    have a5 := Same.upd_new (o := .lst [.ref t1, .ref t2]) hpl
    have a45 := a4.trans a5
    have D5 := D3.same a45
    have W : PileW Planned d l B pl H (upd (upd H2 t2 (.tup [V.str up, V.str (Str.ofString "idle"), V.str gd1, V.str off, .non])) pl (.lst [.ref t1, .ref t2])) 2 := by
      refine ⟨D5, kpA.trans (Keep.same a45), (D3.same a4).nd hpl, (D3.same a4).nl hpl, (kpA.trans (Keep.same a4)).free D (D3.same a4) hpl, _, upd_same, rfl, fun v hv => ?_⟩
      rcases List.mem_cons.mp hv with rfl | hv
      · exact ⟨t1, .ref l1, ⟨up, Str.ofString "ask", Str.ofString "any", up, [Str.ofString "answer"]⟩, rfl, ne_of_none (a4 _ _ ht1') hpl, a45 _ _ ht1', row_dr nup (by decide +kernel) (by decide +kernel) nup (fun z hz => by rw [List.mem_singleton.mp hz]; exact .plain (by decide +kernel)) (by decide), .inr ⟨l1, rfl, a45 _ _ hl1', l1d, l1l, ne_of_none (a4 _ _ hl1') hpl⟩⟩
      · rw [List.mem_singleton.mp hv]
        exact ⟨t2, .non, ⟨up, Str.ofString "idle", gd1, off, []⟩, rfl, ne_of_none upd_same hpl, a5 _ _ upd_same, row_dr nup (by decide +kernel) hgd1 noff (fun z hz => by cases hz) (by decide), .inl rfl⟩
    clear ht1' hl1' a4 a5 a45 D5 ht2 hpl kpA D3
    generalize upd (upd H2 t2 _) pl _ = H3 at W ⊢
    -- three more
    have more : ∀ {Hx : Hp} {n : Nat} {st ev gd th : Str} {ds : List Str} {q t : Addr} (W : PileW Planned d l B pl H Hx n), Hx q = some (.lst (ds.map V.str)) → q ≠ d → q ≠ l → q ≠ pl → Hx t = none → RuleDr B ⟨st, ev, gd, th, ds⟩ 70 → ∃ vs, (upd Hx t (.tup [V.str st, V.str ev, V.str gd, V.str th, .ref q])) pl = some (.lst vs) ∧ vs.length = n ∧ PileW Planned d l B pl H (upd (upd Hx t (.tup [V.str st, V.str ev, V.str gd, V.str th, .ref q])) pl (.lst (vs ++ [.ref t]))) (n + 1) := by
      intro Hx n st ev gd th ds q t W hq n1 n2 n3 ht dr
      have s := Same.upd_new (o := .tup [V.str st, V.str ev, V.str gd, V.str th, .ref q]) ht
      have W2 := PlanW.same W s
      obtain ⟨vs, hvs, hvl, _⟩ := id W.ex
      exact ⟨vs, s _ _ hvs, hvl, PlanW.app W2 (s _ _ hvs) ⟨t, .ref q, ⟨st, ev, gd, th, ds⟩, rfl, (ne_of_none hvs ht).symm, upd_same, dr, .inr ⟨q, rfl, s _ _ hq, n1, n2, n3⟩⟩⟩
    obtain ⟨vs0, hv0, hvl0, _⟩ := id W.ex
    refine ⟨_, rfl, .inl ⟨rfl, _, .inl (.inl hv0)⟩, _, rfl, _, rfl, (by show 1 ≤ sizeLine; decide), fun l2 hl2 => ⟨(by show 5 ≤ sizeLine; decide), fun t3 ht3 => ?_⟩⟩
    have W2 := PlanW.same W (Same.upd_new (o := .lst [V.str (Str.ofString "note")]) hl2)
    obtain ⟨vs1, hv1, hvl1, W3⟩ := more (st := off) (ev := Str.ofString "ask") (gd := Str.ofString "any") (th := mid) (ds := [Str.ofString "note"]) W2 upd_same (W.D.nd hl2) (W.D.nl hl2) (ne_of_none hv0 hl2).symm ht3 (row_dr noff (by decide +kernel) (by decide +kernel) nmid (fun z hz => by rw [List.mem_singleton.mp hz]; exact .note (by decide +kernel)) (by decide))
    refine ⟨pl, vs1, _, rfl, rfl, hv1, small1000 (by omega), ?_⟩
    clear W W2 hv0 hvl0 hv1 hvl1 hl2 ht3
    generalize upd (upd (upd H3 l2 _) t3 _) pl _ = H4 at W3 ⊢
    -- the fourth
    obtain ⟨vs0, hv0, hvl0, _⟩ := id W3.ex
    refine ⟨_, rfl, .inl ⟨rfl, _, .inl (.inl hv0)⟩, _, rfl, _, rfl, (by show 2 ≤ sizeLine; decide), fun lp hlp => ?_⟩
    have s1 := Same.upd_new (o := .lst ((txts ["any", "calm"]).map V.str)) hlp
    have W4 := PlanW.same W3 s1
    refine ⟨d, l, lp, _, rfl, W4.D, upd_same, W3.D.nd hlp, W3.D.nl hlp, (by intro e; cases e), (by show 2 ≤ 1000; decide), fun g2 H5 hg2 D5 kp5 => ?_⟩
    obtain ⟨gd2, hgd2, rfl⟩ : ∃ z, z ∈ guardL ∧ g2 = V.str z := by
      obtain ⟨z, hz, rfl⟩ := List.mem_map.mp (show g2 ∈ (txts ["any", "calm"]).map V.str from hg2)
      have q : ∀ z ∈ txts ["any", "calm"], z ∈ guardL := by decide +kernel
      exact ⟨z, q z hz, rfl⟩
    have W5 := PlanW.keep W4 kp5 D5
    obtain ⟨vs5, hv5, hvl5, _⟩ := id W5.ex
    refine ⟨_, rfl, (by show 1 ≤ sizeLine; decide), fun l3 hl3 => ⟨(by show 5 ≤ sizeLine; decide), fun t4 ht4 => ?_⟩⟩
    have W6 := PlanW.same W5 (Same.upd_new (o := .lst [V.str (Str.ofString "note")]) hl3)
    obtain ⟨vs6, hv6, hvl6, W7⟩ := more (st := mid) (ev := Str.ofString "ask") (gd := gd2) (th := mid) (ds := [Str.ofString "note"]) W6 upd_same (D5.nd hl3) (D5.nl hl3) (ne_of_none hv5 hl3).symm ht4 (row_dr nmid (by decide +kernel) hgd2 nmid (fun z hz => by rw [List.mem_singleton.mp hz]; exact .note (by decide +kernel)) (by decide))
    refine ⟨pl, vs6, _, rfl, rfl, hv6, small1000 (by omega), ?_⟩
    clear W3 W4 W5 W6 s1 kp5 hv0 hvl0 hv5 hvl5 hv6 hvl6 hlp hl3 ht4 D5
    generalize upd (upd (upd H5 l3 _) t4 _) pl _ = H6 at W7 ⊢
    -- last
    refine ⟨_, rfl, d, l, 5, rfl, W7.D, by decide, by decide, fun r H7 _ _ D7 kp7 => ⟨_, _, rfl, rfl, _, rfl, ?_⟩⟩
    have W8 := PlanW.keep W7 kp7 D7
    refine ite_bool (fun _ => ⟨(by show 1 ≤ sizeLine; decide), fun la hla => ?_⟩) (fun _ => ⟨(by show 0 ≤ sizeLine; decide), fun la hla => ?_⟩)
    · exact k5 up off mid pl la [Str.ofString "answer"] _ nup noff nmid (PlanW.same W8 (Same.upd_new hla)) upd_same (D7.nd hla) (D7.nl hla) (by decide) fun z hz => by
        rw [List.mem_singleton.mp hz]
        exact .plain (by decide +kernel)
    · exact k5 up off mid pl la [] _ nup noff nmid (PlanW.same W8 (Same.upd_new hla)) upd_same (D7.nd hla) (D7.nl hla) (by decide) fun z hz => by cases hz
theorem ok_machine {f1 f2 f3 f4 : FuncData} (F : Fun K "_law_machine" "_law_machine" s_law_machine f fd) (T : TxtN K mg a b c e g kk)
    (G__law_draw : FnOk P w K mg base CX0 1 a.draw f1 ["_law_deal_here", "_law_many"] spDraw) (b__law_draw : Binds K f1 ["_law_deal_here", "_law_many"] [])
    (G__law_names : FnOk P w K mg base CX0 2 a.names f2 ["_law_deal_here", "_law_many"] spNames) (b__law_names : Binds K f2 ["_law_deal_here", "_law_many"] [])
    (G__law_any_rule : FnOk P w K mg base CX0 4 e.any_rule f3 ["_law_deal_here", "_law_block_here", "_law_states"] (spAnyRule m s)) (b__law_any_rule : Binds K f3 ["_law_deal_here", "_law_block_here", "_law_states"] [])
    (G__law_sleeper : FnOk P w K mg base CX0 5 kk.sleeper f4 ["_law_deal_here", "_law_block_here"] (spSleeper m s)) (b__law_sleeper : Binds K f4 ["_law_deal_here", "_law_block_here"] []) :
    FnOk P w K mg base CX0 6 f fd ["_law_deal_here", "_law_block_here", "_law_most"] (spMachine m s) := by
  refine F.ok sc_law_machine (fun vs H Q E h => ?_) (fun cdv A outer sh H vs Q E hr h => ?_)
  · obtain ⟨_, _, _, _, _, rfl, _⟩ := h
    rfl
  · obtain ⟨d, l, v, B, n, rfl, D, hB, gB, hm, hs, hn, k⟩ := h
    refine ⟨_, (pss_cons (ps_if (pt_cmpR op_gt (pe_call G__law_draw (hr.mono (by decide)) rfl T.g__law_draw T.k__law_draw b__law_draw .nil pass0 (pa_cons (pv 0) (pa_cons pe_int pa_nil))) pe_int (nomark _)) (pss_one (ps_ret (pe_call G__law_sleeper (hr.mono (by decide)) rfl T.g__law_sleeper T.k__law_sleeper b__law_sleeper .nil pass0 (pa_cons (pv 0) (pa_cons (pv 1) pa_nil))))) pss_nil)
    (pss_cons (ps_set (i := 3) sc_law_machine.nd rfl (Or.inr rfl) (pe_call G__law_names (hr.mono (by decide)) rfl T.g__law_names T.k__law_names b__law_names .nil pass0 (pa_cons (pv 0) (pa_cons (pe_op op_add pe_int (pe_call G__law_draw (hr.mono (by decide)) rfl T.g__law_draw T.k__law_draw b__law_draw .nil pass0 (pa_cons (pv 0) (pa_cons pe_int pa_nil)))) pa_nil))))
    (pss_one (ps_ret (pe_tup (pa_cons (pe_ix ix_list (pv 3) pe_int (fun _ _ => rfl)) (pa_cons (pe_lc (own := [("_law_turn", 4)]) (g := gName 4) (tt := tYes) rfl sc_law_machine.nd (pi_range1 rfl T.b_range (pa_cons (pe_call G__law_draw (hr.mono (by decide)) rfl T.g__law_draw T.k__law_draw b__law_draw .nil pass0 (pa_cons (pv 0) (pa_cons (pe_op op_add (pv 2) pe_int) pa_nil))) pa_nil)) (blkOk_by (N := N_law_machine) (sc := defScope s_law_machine) (by decide +kernel)) (fun _ _ _ _ _ => (pg_name (i := 4) sc_law_machine.nd rfl (Or.inl rfl))) (fun _ _ _ _ _ => pts_nil) (fun _ _ _ _ _ => (pe_call G__law_any_rule (hr.mono (by decide)) rfl T.g__law_any_rule T.k__law_any_rule b__law_any_rule .nil pass0 (pa_cons (pv 0) (pa_cons (pv 1) (pa_cons (pv 3) pa_nil)))))) pa_nil))))))), ?_⟩
    refine ⟨_, rfl, d, l, 3, rfl, D, by decide, by decide, fun r H1 _ _ D1 kp1 => ⟨_, _, rfl, rfl, _, rfl, ?_⟩⟩
    refine ite_bool (fun _ => ?_) (fun _ => ?_)
    · refine ⟨_, rfl, _, rfl, d, l, v, B, rfl, D1, BlkAt.stay (D.tups kp1) hB, gB, hm, hs, fun u M H2 hM gM D2 kp2 => ?_⟩
      exact k u M H2 hM ⟨gM.first, gM.rules, Nat.le_trans gM.len (Nat.le_max_left _ _)⟩ D2 (kp1.trans kp2)
    · refine ⟨_, rfl, _, rfl, d, l, 4, rfl, D1, by decide, by decide, fun r2 H2 r0 r1 D2 kp2 => ⟨_, _, rfl, rfl, d, l, 1 + r2, rfl, D2, by omega, by omega, fun sn zs H3 hsn hzs hzl hzm D3 kp3 => ?_⟩⟩
      have zpos : 0 < zs.length := by
        rw [hzl]
        omega
      have zne : zs ≠ [] := List.length_pos_iff.mp zpos
      have snd := D2.nd hsn
      have snl := D2.nl hsn
      have kp123 := (kp1.trans kp2).trans kp3
      have z0 : (zs.map V.str)[0]? = some (V.str zs[0]) := by rw [List.getElem?_map, List.getElem?_eq_getElem zpos]; rfl
      refine ⟨_, rfl, _, _, _, _, rfl, rfl, .inl (.inl hzs), atI_nat (j := 0) z0, ?_⟩
      refine ⟨_, rfl, _, rfl, _, _, rfl, rfl, d, l, (n : Int) + 1, rfl, D3, by omega, by omega, fun r3 H4 r30 r31 D4 kp4 => ⟨r3, rfl, by omega, by omega, fun D1a hD1 => ?_⟩⟩
      have d1d := D4.nd hD1
      have d1l := D4.nl hD1
      have kpA := kp123.trans kp4
      have hD0 := kpA.free D D4 hD1
      have hzs4 := kp4 _ _ hzs snd snl
      have zl : zs.length ≤ 1000 := by rw [hzl]; omega
      refine lc_range (fun i H' => DealAt H' d l ∧ Keep d l H4 H' ∧ ∃ ws Rs, H' D1a = some (.lst ws) ∧ AllAt (RowX d l D1a H') ws Rs ∧ Rs.length = i ∧ ∀ R ∈ Rs, RuleDr B R 10)
        ⟨D4.same (Same.upd_new hD1), Keep.same (Same.upd_new hD1), [], [], upd_same, True.intro, rfl, fun _ h => by cases h⟩ ?_ ?_
      · rintro i H' hi ⟨D', kp', ws, Rs, hw, hA, hj, hR⟩
        refine ⟨rfl, _, rfl, _, rfl, _, rfl, d, l, sn, v, B, zs, rfl, D', BlkAt.stay (D.tups (kpA.trans kp')) hB, gB, hm, hs, kp' _ _ hzs4 snd snl, snd, snl, zne, zl, fun p q R H5 hp hqn hq hRl hRo D5 kp5 => ?_⟩
        have hw5 := kp5 _ _ hw d1d d1l
        refine ⟨ws, hw5, ?_, D5.upd d1d d1l, ?_, ws ++ [.ref p], Rs ++ [R], upd_same, ?_, ?_, ?_⟩
        · rw [hA.len, hj]
          exact small1000 (by omega)
        · intro b o e h1 h2
          rw [upd_ne (ne_of_none e hD1)]
          exact kp5 _ _ (kp' _ _ e h1 h2) h1 h2
        · exact AllAt.app ((hA.imp (RowX.keep D' kp5)).imp (RowX.upd hw5)) ⟨RowX.upd hw5 _ _ ⟨p, q, rfl, hp, hq, D'.nd hqn, D'.nl hqn, (ne_of_none hw hqn).symm⟩, True.intro⟩
        · rw [List.length_append, hj]
          rfl
        · intro R' hR'
          rcases List.mem_append.mp hR' with h | h
          · exact hR R' h
          · rw [List.mem_singleton.mp h]
            exact ⟨⟨hzm _ hRo.st, hzm _ hRo.th, hRo.ev, hRo.gd, hRo.ds⟩, by omega⟩
      · rintro H5 ⟨D5, kp5, ws, Rs, hw, hA, hj, hR⟩
        refine ⟨(by show 2 ≤ sizeLine; decide), fun tm htm => ?_⟩
        have s2 := Same.upd_new (o := .tup [.str zs[0], .ref D1a]) htm
        refine k (.ref tm) ⟨zs[0], Rs⟩ _ ⟨tm, D1a, ws, rfl, upd_same, s2 _ _ hw, d1d, d1l, (hA.imp (RowX.same s2)).imp RowX.drop⟩ ⟨hzm _ (List.getElem_mem zpos), hR, ?_⟩ (D5.same s2) ((kpA.trans kp5).trans (Keep.same s2))
        show Rs.length ≤ max 6 n
        omega
end
end L2.Wk
namespace L2.Wk
open PySem PySem.Spec PyProof.Rows
/-! ### a drawn machine is small -/
theorem part_app {u z : Str} (hu : (32 : Nat) ∉ TL.tl u) : Txt.partition (u ++ Str.ofString " " ++ z) (Str.ofString " ") = (u, Str.ofString " ", z) := by
  have ey : TL.tl (Str.ofString " ") = 32 :: [] := by decide +kernel
  exact TL.partition_app ey hu
theorem phr_cases {B : Blk} {z : Str} (h : EventOf B z ∨ ∃ ask, DeedOf B ask z) :
    (inV (.str (kindOf z)) ((areaE ++ areaD).map V.str) = true → ∃ ce ∈ B.cells, ce.area = nameOf z) ∧ (inV (.str (kindOf z)) (fenceD.map V.str) = true → ∃ ed ∈ B.edges, ed.fence = some (nameOf z)) := by
  rcases h with (h | ⟨y, hy, rfl | rfl⟩) | ⟨ask, h⟩
  · have q : ∀ z ∈ txts ["ask", "idle", "tick"], inV (.str (kindOf z)) ((areaE ++ areaD).map V.str) = false ∧ inV (.str (kindOf z)) (fenceD.map V.str) = false := by decide +kernel
    obtain ⟨q1, q2⟩ := q z h
    rw [q1, q2]
    exact ⟨(fun e => by cases e), (fun e => by cases e)⟩
  · have e := part_app (u := Str.ofString "dip") (z := y) (by decide +kernel)
    have k : kindOf (Str.ofString "dip" ++ Str.ofString " " ++ y) = Str.ofString "dip" := by unfold kindOf; rw [e]
    have m : nameOf (Str.ofString "dip" ++ Str.ofString " " ++ y) = y := by unfold nameOf; rw [e]
    rw [k, m]
    exact ⟨fun _ => hy, fun q => by rw [show inV (V.str (Str.ofString "dip")) (fenceD.map V.str) = false by decide +kernel] at q; cases q⟩
  · have e := part_app (u := Str.ofString "spill") (z := y) (by decide +kernel)
    have k : kindOf (Str.ofString "spill" ++ Str.ofString " " ++ y) = Str.ofString "spill" := by unfold kindOf; rw [e]
    have m : nameOf (Str.ofString "spill" ++ Str.ofString " " ++ y) = y := by unfold nameOf; rw [e]
    rw [k, m]
    exact ⟨fun _ => hy, fun q => by rw [show inV (V.str (Str.ofString "spill")) (fenceD.map V.str) = false by decide +kernel] at q; cases q⟩
  · cases h with
    | plain h =>
      have q : ∀ z ∈ plainDs, inV (.str (kindOf z)) ((areaE ++ areaD).map V.str) = false ∧ inV (.str (kindOf z)) (fenceD.map V.str) = false := by decide +kernel
      obtain ⟨q1, q2⟩ := q z h
      rw [q1, q2]
      exact ⟨(fun e => by cases e), (fun e => by cases e)⟩
    | note _ =>
      rw [show inV (V.str (kindOf (Str.ofString "note"))) ((areaE ++ areaD).map V.str) = false by decide +kernel, show inV (V.str (kindOf (Str.ofString "note"))) (fenceD.map V.str) = false by decide +kernel]
      exact ⟨(fun e => by cases e), (fun e => by cases e)⟩
    | @area u y hu hy =>
      have q : ∀ u ∈ areaW, (32 : Nat) ∉ TL.tl u ∧ inV (V.str u) (fenceD.map V.str) = false := by decide +kernel
      have e := part_app (z := y) (q u hu).1
      have k : kindOf (u ++ Str.ofString " " ++ y) = u := by unfold kindOf; rw [e]
      have m : nameOf (u ++ Str.ofString " " ++ y) = y := by unfold nameOf; rw [e]
      rw [k, m]
      exact ⟨fun _ => hy, fun z => by rw [(q u hu).2] at z; cases z⟩
    | @fence u y hu hy =>
      have q : ∀ u ∈ fenceW, (32 : Nat) ∉ TL.tl u ∧ inV (V.str u) ((areaE ++ areaD).map V.str) = false := by decide +kernel
      have e := part_app (z := y) (q u hu).1
      have k : kindOf (u ++ Str.ofString " " ++ y) = u := by unfold kindOf; rw [e]
      have m : nameOf (u ++ Str.ofString " " ++ y) = y := by unfold nameOf; rw [e]
      rw [k, m]
      exact ⟨fun z => (by rw [(q u hu).2] at z; cases z), fun _ => hy⟩
theorem phr_drawn {B : Blk} {Rs : List RuleD} (h : ∀ R ∈ Rs, RuleDr B R 10) : ∀ z ∈ phrasesL Rs, EventOf B z ∨ ∃ ask, DeedOf B ask z := fun z hz => by
  unfold phrasesL at hz
  obtain ⟨R, hR, hz⟩ := List.mem_flatMap.mp hz
  obtain ⟨h1, _⟩ := h R hR
  rcases List.mem_cons.mp hz with rfl | hz
  · exact .inl h1.ev
  · exact .inr ⟨_, h1.ds z hz⟩
theorem mach_small {B : Blk} {M : MachD} {m s n : Nat} (g : BlkGood B m s) (hm : m ≤ 10) (hs : s ≤ 10) (h : MachGood B M n) (hn : n ≤ 30) : MachSmall M := by
  refine ⟨Nat.le_trans (nm_len h.first).1 (by decide), fun R hR => ((h.rules R hR).fine g).small, Nat.le_trans h.len hn, ⟨B.cells.map Cell.area, fun x hx => ?_, ?_⟩, ⟨B.edges.filterMap Edge.fence, fun x hx => ?_, ?_⟩⟩
  · unfold areasL behind at hx
    obtain ⟨z, hz, rfl⟩ := List.mem_map.mp hx
    obtain ⟨hz1, hz2⟩ := List.mem_filter.mp hz
    obtain ⟨ce, hce, e⟩ := (phr_cases (phr_drawn h.rules z hz1)).1 hz2
    exact List.mem_map.mpr ⟨ce, hce, e⟩
  · have := g.clen
    rw [List.length_map]
    omega
  · unfold fencesL behind at hx
    obtain ⟨z, hz, rfl⟩ := List.mem_map.mp hx
    obtain ⟨hz1, hz2⟩ := List.mem_filter.mp hz
    obtain ⟨ed, hed, e⟩ := (phr_cases (phr_drawn h.rules z hz1)).2 hz2
    exact List.mem_filterMap.mpr ⟨ed, hed, e⟩
  · have := g.elen
    have := List.length_filterMap_le Edge.fence B.edges
    omega
end L2.Wk
namespace L2.Wk
open PySem PySem.Spec PyProof.Rows
abbrev s_law_rule_text : Stmt := top 62
abbrev N_law_rule_text : List Str := ["_law_rule", "_law_head"]
theorem sc_law_rule_text : FnScope N_law_rule_text ["_law_rule"] (defScope s_law_rule_text) := ⟨rfl, rfl, rfl, by decide +kernel, rfl, by decide +kernel, by decide +kernel⟩
theorem head_eq (a b c d : Str) : Txt.join (Str.ofString " ") [a, b, c, Str.ofString "->", d] = Str.empty ++ a ++ Str.ofString " " ++ b ++ Str.ofString " " ++ c ++ Str.ofString " -> " ++ d := by
  refine TL.ext_tl ?_
  rw [TL.join_eq, TL.tl_join]
  have e1 : TL.tl (Str.ofString " ") = [32] := by decide +kernel
  have e2 : TL.tl (Str.ofString " -> ") = [32, 45, 62, 32] := by decide +kernel
  have e3 : TL.tl (Str.ofString "->") = [45, 62] := by decide +kernel
  have e4 : TL.tl Str.empty = [] := by decide +kernel
  simp only [TL.tl_append, List.map_cons, List.map_nil, TL.joinL, e1, e2, e3, e4, List.nil_append, List.append_assoc, List.cons_append]
theorem lawTxt_eq (R : RuleD) : Txt.join (Str.ofString " ") [R.st, R.ev, R.gd, Str.ofString "->", R.th] ++ deedsTxt R.ds = ruleTxt R := by
  rw [head_eq]
  rfl
def spLRT (K : PySem.W.Frag) : Sp := fun vs H Q _ => ∃ (p q : Addr) (R : RuleD), vs = [.ref p] ∧ H p = some (.tup [.str R.st, .str R.ev, .str R.gd, .str R.th, .ref q]) ∧ H q = some (.lst (R.ds.map V.str)) ∧ RuleSmall R ∧ ∀ H', Same H H' → Q (.str (ruleTxt R)) H'
structure TxtLR (K : PySem.W.Frag) (mg : Str → Option Value) (f : Addr) : Prop where
  b_len : mg "len" = none
  g__law_rule_text : mg "_law_rule_text" = some (.ref f)
  k__law_rule_text : PySem.W.keepIn K (.ref f) = true
theorem ok_law_rule_text {P : Program} {w : World} {K : PySem.W.Frag} {mg : Str → Option Value} {base : Heap} {f f0 : Addr} {fd : FuncData} (F : Fun K "_law_rule_text" "_law_rule_text" s_law_rule_text f fd) (T : TxtLR K mg f0) :
    FnOk P w K mg base CX0 1 f fd ["_law_rule"] (spLRT K) := by
  refine F.ok sc_law_rule_text (fun vs H Q E h => ?_) (fun cdv A outer s H vs Q E hr h => ?_)
  · obtain ⟨_, _, _, rfl, _⟩ := h
    rfl
  · obtain ⟨p, q, R, rfl, hp, hq, sm, k⟩ := h
    refine ⟨_, (pss_cons (ps_set (i := 1) sc_law_rule_text.nd rfl (Or.inl rfl) (pe_join pe_str (pe_lst (pa_cons (pe_ix ix_tup (pv 0) pe_int (fun _ _ => rfl)) (pa_cons (pe_ix ix_tup (pv 0) pe_int (fun _ _ => rfl)) (pa_cons (pe_ix ix_tup (pv 0) pe_int (fun _ _ => rfl)) (pa_cons pe_str (pa_cons (pe_ix ix_tup (pv 0) pe_int (fun _ _ => rfl)) pa_nil))))))))
    (pss_one (ps_ret (pe_op op_add_str (pv 1) (pe_ifExp (pt_cmpR op_gt (pe_callB call_len (by rfl) T.b_len PySem.boot_len (pa_cons (pe_ix ix_tup (pv 0) pe_int (fun _ _ => rfl)) pa_nil)) pe_int (nomark _)) (pe_op op_add_str pe_str (pe_join pe_str (pe_ix ix_tup (pv 0) pe_int (fun _ _ => rfl)))) pe_str))))), ?_⟩
    obtain ⟨s1, s2, s3, s4, s5, s6⟩ := sm
    have c1 : (Str.ofString " ").length = 1 := by decide +kernel
    have c2 : (Str.ofString ", ").length = 2 := by decide +kernel
    have c3 : (Str.ofString ": ").length = 2 := by decide +kernel
    have c4 : (Str.ofString "->").length = 2 := by decide +kernel
    refine ⟨⟨_, rfl⟩, _, rfl, p, _, _, _, rfl, rfl, .inl (.inl hp), atI_nat (j := 0) rfl, _, rfl, p, _, _, _, rfl, rfl, .inl (.inl hp), atI_nat (j := 1) rfl, _, rfl, p, _, _, _, rfl, rfl, .inl (.inl hp), atI_nat (j := 2) rfl,
      _, rfl, p, _, _, _, rfl, rfl, .inl (.inl hp), atI_nat (j := 3) rfl, (by show 5 ≤ sizeLine; decide), fun l hl => ?_⟩
    refine ⟨_, l, [R.st, R.ev, R.gd, Str.ofString "->", R.th], rfl, rfl, .inl (.inl (.inl upd_same)), ?_, ?_⟩
    · simp only [List.map_cons, List.map_nil, List.sum_cons, List.sum_nil, List.length_cons, List.length_nil, c1, c4]
      omega
    have s0 := Same.upd_new (o := .lst [V.str R.st, V.str R.ev, V.str R.gd, V.str (Str.ofString "->"), V.str R.th]) hl
    have hp1 := s0 _ _ hp
    have hq1 := s0 _ _ hq
    refine ⟨_, rfl, ?_⟩
    have hh : (Txt.join (Str.ofString " ") [R.st, R.ev, R.gd, Str.ofString "->", R.th]).length ≤ 500 := by
      rw [join_len]
      simp only [List.map_cons, List.map_nil, List.sum_cons, List.sum_nil, List.length_cons, List.length_nil, c1, c4]
      omega
    have sl := sum_le s6
    have hd := deedsTxt_small s5 s6
    have lt := lawTxt_eq R
    refine ⟨_, rfl, p, _, _, _, rfl, rfl, .inl (.inl hp1), atI_nat (j := 4) rfl, _, (R.ds.map V.str).length, rfl, .inl ⟨_, .inl (.inl hq1), rfl⟩, _, _, rfl, rfl, _, rfl, ?_⟩
    unfold deedsTxt at lt hd
    refine ite_bool (fun e => ?_) (fun e => ?_)
    · have ne : (!(R.ds.map V.str).isEmpty) = true := by
        cases h : R.ds with
        | nil => rw [h] at e; cases e
        | cons _ _ => rfl
      rw [if_pos ne] at lt hd
      refine ⟨⟨_, rfl⟩, _, rfl, p, _, _, _, rfl, rfl, .inl (.inl hp1), atI_nat (j := 4) rfl, _, q, R.ds, rfl, rfl, .inl (.inl (.inl hq1)), ?_, _, _, rfl, rfl, big_ok (by rw [app_len] at hd; omega), _, _, rfl, rfl, ?_, ?_⟩
      · rw [c2]
        omega
      · exact big_ok (by omega)
      · rw [lt]
        exact k _ s0
    · have ne : ¬ (!(R.ds.map V.str).isEmpty) = true := by
        cases h : R.ds with
        | nil => exact fun z => by cases z
        | cons a b =>
          rw [h, List.map_cons, List.length_cons] at e
          have := of_decide_eq_false e
          omega
      rw [if_neg ne] at lt hd
      refine ⟨_, _, rfl, rfl, big_ok (by omega), ?_⟩
      rw [lt]
      exact k _ s0
end L2.Wk
namespace L2.Wk
open PySem PySem.Spec PyProof.Rows
abbrev s_Machine_len : Stmt := inClass (top 26) 4
abbrev N_Machine_len : List Str := ["self"]
theorem sc_Machine_len : FnScope N_Machine_len ["self"] (defScope s_Machine_len) := ⟨rfl, rfl, rfl, by decide +kernel, rfl, by decide +kernel, by decide +kernel⟩
abbrev s_Machine_getitem : Stmt := inClass (top 26) 5
abbrev N_Machine_getitem : List Str := ["self", "at"]
theorem sc_Machine_getitem : FnScope N_Machine_getitem ["self", "at"] (defScope s_Machine_getitem) := ⟨rfl, rfl, rfl, by decide +kernel, rfl, by decide +kernel, by decide +kernel⟩
abbrev s_Machine_eq : Stmt := inClass (top 26) 8
abbrev N_Machine_eq : List Str := ["self", "other"]
theorem sc_Machine_eq : FnScope N_Machine_eq ["self", "other"] (defScope s_Machine_eq) := ⟨rfl, rfl, rfl, by decide +kernel, rfl, by decide +kernel, by decide +kernel⟩
abbrev s_Machine_str : Stmt := inClass (top 26) 9
abbrev N_Machine_str : List Str := ["self", "rule"]
theorem sc_Machine_str : FnScope N_Machine_str ["self"] (defScope s_Machine_str) := ⟨rfl, rfl, rfl, by decide +kernel, rfl, by decide +kernel, by decide +kernel⟩
def headTxt (M : MachD) : Str := Str.ofString "first " ++ M.first
def machTxt (M : MachD) : Str := Txt.join (Str.ofString "\n") (headTxt M :: M.rules.map ruleTxt)
structure MTs where
  Machine_str : Addr
  Machine_eq : Addr
  Machine_len : Addr
  Machine_item : Addr
structure TxtMT (K : PySem.W.Frag) (mg : Str → Option Value) (a : Ws) (r : Rs) (q : RTs) (c : Cs) (n : Ns) (m : MTs) : Prop extends TxtMa K mg a r q c n where
  a_Machine_str : PySem.W.findIn K (.ref c.Machine) "__str__" = some (some (.ref m.Machine_str))
  i_Machine_str : PySem.W.isFn K (.ref m.Machine_str) = true
  a_Machine_eq : PySem.W.findIn K (.ref c.Machine) "__eq__" = some (some (.ref m.Machine_eq))
  i_Machine_eq : PySem.W.isFn K (.ref m.Machine_eq) = true
  a_Machine_len : PySem.W.findIn K (.ref c.Machine) "__len__" = some (some (.ref m.Machine_len))
  i_Machine_len : PySem.W.isFn K (.ref m.Machine_len) = true
  a_Machine_item : PySem.W.findIn K (.ref c.Machine) "__getitem__" = some (some (.ref m.Machine_item))
  i_Machine_item : PySem.W.isFn K (.ref m.Machine_item) = true
  f_Machine_item : PySem.W.fnIn K m.Machine_item = true
  kit_Machine : PySem.W.kitOne K (.ref c.Machine) (.ref c.Machine) = some true
  sis_Machine : SlX.SIsi K c.Machine
  mr_Machine : PySem.W.mroIn K c.Machine (.type "object") = some true
  ne_Machine : PySem.W.findIn K (.ref c.Machine) "__ne__" = some (some (.builtin "object.__ne__"))
def spStrM (K : PySem.W.Frag) (r : Rs) (c : Cs) : Sp := fun vs H Q _ => ∃ (p : Addr) (M : MachD), vs = [.ref p] ∧ MaAt K r c H p M ∧ MachSmall M ∧ ∀ H', Same H H' → Q (.str (machTxt M)) H'
/-- == of two machines of the same rules -/
def spEqM (K : PySem.W.Frag) (r : Rs) (c : Cs) : Sp := fun vs H Q _ => ∃ (p q : Addr) (M : MachD), vs = [.ref p, .ref q] ∧ MaAt K r c H p M ∧ MaAt K r c H q M ∧ MachSmall M ∧ ∀ H', Same H H' → Q (.bl true) H'
def spLenM (K : PySem.W.Frag) (r : Rs) (c : Cs) : Sp := fun vs H Q _ => ∃ (p : Addr) (M : MachD), vs = [.ref p] ∧ MaAt K r c H p M ∧ MachSmall M ∧ ∀ H', Same H H' → Q (.int (M.rules.length : Nat)) H'
def spItemM (K : PySem.W.Frag) (r : Rs) (c : Cs) : Sp := fun vs H Q _ => ∃ (p : Addr) (M : MachD) (i : Nat) (R : RuleD), vs = [.ref p, .int (i : Nat)] ∧ MaAt K r c H p M ∧ MachSmall M ∧ M.rules[i]? = some R ∧ ∀ (v : V) H', RuleV K r H' v R → Same H H' → Q v H'
theorem mach_fld {first : Str} {tr ts ta tf : Addr} : (machF first tr ts ta tf).lookup (Str.ofString "first") = some (V.str first) ∧ (machF first tr ts ta tf).lookup (Str.ofString "rules") = some (V.ref tr) ∧ (machF first tr ts ta tf).lookup (Str.ofString "states") = some (V.ref ts) ∧
    (machF first tr ts ta tf).lookup (Str.ofString "areas") = some (V.ref ta) ∧ (machF first tr ts ta tf).lookup (Str.ofString "fences") = some (V.ref tf) := by
  unfold machF
  simp only [lookup_putF]
  refine ⟨?_, ?_, ?_, ?_, ?_⟩
  · rw [if_neg (by decide +kernel), if_neg (by decide +kernel), if_neg (by decide +kernel), if_neg (by decide +kernel), if_pos True.intro]
  · rw [if_neg (by decide +kernel), if_neg (by decide +kernel), if_neg (by decide +kernel), if_pos True.intro]
  · rw [if_neg (by decide +kernel), if_neg (by decide +kernel), if_pos True.intro]
  · rw [if_neg (by decide +kernel), if_pos True.intro]
  · rw [if_pos True.intro]
theorem empty_app (z : Str) : Str.empty ++ z = z := TL.ext_tl (by rw [TL.tl_append]; rfl)
theorem ruleTxt_len {R : RuleD} (h : RuleSmall R) : (ruleTxt R).length ≤ 12000 := by
  have c1 : (Str.ofString " ").length = 1 := by decide +kernel
  have c4 : (Str.ofString " -> ").length = 4 := by decide +kernel
  have c0 : Str.empty.length = 0 := by decide +kernel
  have hd := deedsTxt_small h.dn h.ds
  obtain ⟨s1, s2, s3, s4, _, _⟩ := h
  unfold ruleTxt
  simp only [app_len, c0, c1, c4]
  omega
theorem mach_sum {M : MachD} (sm : MachSmall M) : ((headTxt M :: M.rules.map ruleTxt).map fun x => x.length).sum + (headTxt M :: M.rules.map ruleTxt).length * (Str.ofString "\n").length ≤ 16777216 := by
  have cn : (Str.ofString "\n").length = 1 := by decide +kernel
  have c1 : (Str.ofString "first ").length = 6 := by decide +kernel
  have fl := sm.first
  have rl := sm.len
  have hs : ∀ L : List RuleD, (∀ R ∈ L, RuleSmall R) → ((L.map ruleTxt).map fun x => x.length).sum ≤ 12000 * L.length := by
    intro L
    induction L with
    | nil => intro _; exact Nat.le_refl _
    | cons R L ih =>
      intro h
      have h1 := ih fun x hx => h x (List.mem_cons_of_mem _ hx)
      have h2 := ruleTxt_len (h R (List.mem_cons_self ..))
      rw [List.map_cons, List.map_cons, List.sum_cons, List.length_cons]
      omega
  have h1 := hs M.rules sm.rules
  have hh : (headTxt M).length = 6 + M.first.length := by
    unfold headTxt
    rw [app_len, c1]
  rw [List.map_cons, List.sum_cons, List.length_cons, List.length_map, cn, hh]
  omega
theorem iteTh {b : Bool} {A B : Prop} (h : b = true) (ha : A) : if b = true then A else B := by
  subst h
  exact iteT ha
theorem iteFh {b : Bool} {A B : Prop} (h : b = false) (hb : B) : if b = true then A else B := by
  subst h
  exact iteF hb
section
variable {P : Program} {w : World} {K : PySem.W.Frag} {mg : Str → Option Value} {base : Heap} {a : Ws} {r : Rs} {q : RTs} {c : Cs} {n : Ns} {m : MTs} {f : Addr} {fd : FuncData}
theorem ok_Machine_str {fd1 : FuncData} (F : Fun K "__str__" "Machine.__str__" s_Machine_str f fd) (T : TxtMT K mg a r q c n m) (G_Rule_str : FnOk P w K mg base CX0 2 q.Rule_str fd1 ["self"] (spStrR K r)) (b_Rule_str : Binds K fd1 ["self"] []) :
    FnOk P w K mg base CX0 5 f fd ["self"] (spStrM K r c) := by
  refine F.ok sc_Machine_str (fun vs H Q E h => ?_) (fun cdv A outer s H vs Q E hr h => ?_)
  · obtain ⟨_, _, rfl, _⟩ := h
    rfl
  · obtain ⟨p, M, rfl, hM, sm, k⟩ := h
    refine ⟨_, (pss_one (ps_ret (pe_join pe_str (pe_lst (pa_cons (pe_joined (.cons pe_str (.cons (pe_fmt (pe_fld (pv 0) rfl)) .nil))) (StX.pa_star (pe_lc (own := [("rule", 1)]) (g := gName 1) (tt := tYes) rfl sc_Machine_str.nd (pi_tup (pe_fld (pv 0) rfl)) (blkOk_by (N := N_Machine_str) (sc := defScope s_Machine_str) (by decide +kernel)) (fun _ _ _ _ _ => (pg_name (i := 1) sc_Machine_str.nd rfl (Or.inl rfl))) (fun _ _ _ _ _ => pts_nil) (fun _ _ _ _ _ => (pe_callTy (call_strOwn (E := E0) T.a_Rule_str T.i_Rule_str G_Rule_str b_Rule_str (hr.mono (by decide)) pass0) (by rfl) T.b_str (by decide +kernel) (pa_cons (pv 1) pa_nil)))) pa_nil)))))), ?_⟩
    obtain ⟨dx, tr, ts, ta, tf, vs, ss, as, fs, hp, htr, hall, hts, hss, hta, has, htf, hfs⟩ := hM.ex
    obtain ⟨l1, l2, l3, l4, l5⟩ := mach_fld (first := M.first) (tr := tr) (ts := ts) (ta := ta) (tf := tf)
    have c1 : (Str.ofString "first ").length = 6 := by decide +kernel
    have c0 : Str.empty.length = 0 := by decide +kernel
    have fl := sm.first
    refine ⟨⟨_, rfl⟩, _, rfl, ?_, _, rfl, p, c.Machine, dx, _, _, rfl, hp, T.clM, T.m_first, l1, .inl ⟨_, rfl, len1000 (by omega), _, rfl, ?_, ?_⟩⟩
    · simp only [app_len, c0, c1]
      exact len1000 (by omega)
    · simp only [app_len, c0, c1]
      exact len1000 (by omega)
    refine ⟨_, rfl, p, c.Machine, dx, _, _, rfl, hp, T.clM, T.m_rules, l2, tr, rfl, ⟨vs, htr⟩, fun D hD => ?_⟩
    refine lc_tup (K := K) (a := tr) (xs := vs) (fun i H' => Same H H' ∧ H' D = some (.lst (((M.rules.take i).map ruleTxt).map V.str))) ⟨Same.upd_new hD, upd_same⟩ (fun i H' _ h => Same.sqT h.1 htr) ?_ ?_
    · rintro i x H' hx ⟨t1, d1⟩
      obtain ⟨R, hR, p', rfl, hpR⟩ := hall.get hx
      have hi : i < M.rules.length := (List.getElem?_eq_some_iff.mp hR).1
      have rl := sm.len
      obtain ⟨dy, ty, hy, _⟩ := RuleAt.same t1 hpR
      refine ⟨rfl, _, rfl, p', dy, _, rfl, hy, p', R, rfl, RuleAt.same t1 hpR, sm.rules R (List.mem_of_getElem? hR), fun H2 s2 => ⟨_, rfl, _, s2 _ _ d1, ?_, fun b o e => ?_, ?_⟩⟩
      · rw [List.length_map, List.length_map, List.length_take]
        exact small1000 (by omega)
      · rw [upd_ne (ne_of_none e hD)]
        exact s2 _ _ (t1 b o e)
      · rw [take_succ_map _ hR, List.map_append]
        exact upd_same
    · rintro H2 ⟨t1, d1⟩
      rw [hall.len, List.take_length] at d1
      have rl := sm.len
      have e1 : [V.str (Str.empty ++ Str.ofString "first " ++ M.first)] ++ ((M.rules.map ruleTxt).map V.str ++ []) = (headTxt M :: M.rules.map ruleTxt).map V.str := by
        rw [List.append_nil, empty_app]
        rfl
      refine ⟨D, _, rfl, .inr (.inl (.inl d1)), ?_, fun ls hls => ?_⟩
      · show ([V.str (Str.empty ++ Str.ofString "first " ++ M.first)] ++ ((M.rules.map ruleTxt).map V.str ++ [])).length ≤ sizeLine
        rw [e1, List.length_map, List.length_cons, List.length_map]
        exact len1000 (by omega)
      refine ⟨_, ls, headTxt M :: M.rules.map ruleTxt, rfl, rfl, .inl (.inl (.inl (Eq.trans upd_same (by rw [← e1]; rfl)))), mach_sum sm, k _ (t1.trans (Same.upd_new hls))⟩
theorem ok_Machine_len (F : Fun K "__len__" "Machine.__len__" s_Machine_len f fd) (T : TxtMT K mg a r q c n m) : FnOk P w K mg base CX0 1 f fd ["self"] (spLenM K r c) := by
  refine F.ok sc_Machine_len (fun vs H Q E h => ?_) (fun cdv A outer s H vs Q E hr h => ?_)
  · obtain ⟨_, _, rfl, _⟩ := h
    rfl
  · obtain ⟨p, M, rfl, hM, sm, k⟩ := h
    refine ⟨_, (pss_one (ps_ret (pe_callB call_len (by rfl) T.b_len PySem.boot_len (pa_cons (pe_fld (pv 0) rfl) pa_nil)))), ?_⟩
    obtain ⟨dx, tr, ts, ta, tf, vs, ss, as, fs, hp, htr, hall, hts, hss, hta, has, htf, hfs⟩ := hM.ex
    obtain ⟨l1, l2, l3, l4, l5⟩ := mach_fld (first := M.first) (tr := tr) (ts := ts) (ta := ta) (tf := tf)
    exact ⟨_, rfl, p, c.Machine, dx, _, _, rfl, hp, T.clM, T.m_rules, l2, _, M.rules.length, rfl, .inr ⟨_, htr, hall.len.symm⟩, k _ (Same.refl _)⟩
theorem ok_Machine_eq {fd1 : FuncData} (F : Fun K "__eq__" "Machine.__eq__" s_Machine_eq f fd) (T : TxtMT K mg a r q c n m) (G_Rule_eq : FnOk P w K mg base CX0 5 q.Rule_eq fd1 ["self", "other"] (spEqR K r)) (b_Rule_eq : Binds K fd1 ["self", "other"] []) :
    FnOk P w K mg base CX0 7 f fd ["self", "other"] (spEqM K r c) := by
  refine F.ok sc_Machine_eq (fun vs H Q E h => ?_) (fun cdv A outer s H vs Q E hr h => ?_)
  · obtain ⟨_, _, _, rfl, _⟩ := h
    rfl
  · obtain ⟨p, p', M, rfl, hM, hM', sm, k⟩ := h
    refine ⟨_, (pss_one (ps_ret (pe_and (pe_callB call_isi (by rfl) T.b_isinstance (by decide +kernel) (pa_cons (pv 1) (pa_cons (pe_gr rfl T.g_Machine) pa_nil))) (pe_and (pe_cmpR op_eq (pe_fld (pv 0) rfl) (pe_fld (pv 1) rfl) (nomark _)) (pe_one (pe_cmpR (op_tupEq (eqItem_own T.a_Rule_eq T.i_Rule_eq G_Rule_eq b_Rule_eq pass0) (hr.mono (by decide))) (pe_fld (pv 0) rfl) (pe_fld (pv 1) rfl) (nomark _))))))), ?_⟩
    obtain ⟨dx, tr, ts, ta, tf, vs, ss, as, fs, hp, htr, hall, hts, hss, hta, has, htf, hfs⟩ := hM.ex
    obtain ⟨dx', tr', ts', ta', tf', vs', ss', as', fs', hp', htr', hall', hts', hss', hta', has', htf', hfs'⟩ := hM'.ex
    obtain ⟨l1, l2, l3, l4, l5⟩ := mach_fld (first := M.first) (tr := tr) (ts := ts) (ta := ta) (tf := tf)
    obtain ⟨l1', l2', l3', l4', l5'⟩ := mach_fld (first := M.first) (tr := tr') (ts := ts') (ta := ta') (tf := tf')
    refine ⟨_, rfl, _, _, _, _, true, rfl, .own c.Machine, .base (.ins hp' T.clM T.sis_Machine.ca T.sis_Machine.cn T.sis_Machine.ct T.sis_Machine.cm), T.kit_Machine, _, rfl, iteT ?_⟩
    refine ⟨_, rfl, p, c.Machine, dx, _, _, rfl, hp, T.clM, T.m_first, l1, _, rfl, p', c.Machine, dx', _, _, rfl, hp', T.clM, T.m_first, l1', rfl, _, rfl, ?_⟩
    refine iteTh (decide_eq_true rfl) ?_
    refine ⟨_, rfl, p, c.Machine, dx, _, _, rfl, hp, T.clM, T.m_rules, l2, _, rfl, p', c.Machine, dx', _, _, rfl, hp', T.clM, T.m_rules, l2', tr, tr', vs, vs', (fun _ => true), rfl, rfl, htr, htr', ?_, fun H' s' => ?_⟩
    · intro i x y hx hy H' s'
      obtain ⟨R, hR, px, rfl, hpx⟩ := hall.get hx
      obtain ⟨R', hR', py, rfl, hpy⟩ := hall'.get hy
      rw [hR] at hR'
      cases hR'
      have sR := sm.rules R (List.mem_of_getElem? hR)
      replace hpx := RuleAt.same s' hpx
      replace hpy := RuleAt.same s' hpy
      obtain ⟨d1, t1, h1, _⟩ := id hpx
      obtain ⟨d2, t2, h2, _⟩ := id hpy
      exact ⟨px, py, d1, _, d2, _, rfl, rfl, h1, h2, fun _ => rfl, px, _, R, rfl, hpx, sR, .inl ⟨py, R, rfl, hpy, sR, fun H2 s2 => ⟨by rw [decide_eq_true rfl], s2⟩⟩⟩
    · have e : (false != (allE (fun _ => true) (min vs.length vs'.length) && vs.length == vs'.length)) = true := by
        rw [allE_true fun _ _ => rfl, hall.len, hall'.len]
        simp
      rw [e]
      exact k _ s'
theorem ok_Machine_item (F : Fun K "__getitem__" "Machine.__getitem__" s_Machine_getitem f fd) (T : TxtMT K mg a r q c n m) : FnOk P w K mg base CX0 1 f fd ["self", "at"] (spItemM K r c) := by
  refine F.ok sc_Machine_getitem (fun vs H Q E h => ?_) (fun cdv A outer s H vs Q E hr h => ?_)
  · obtain ⟨_, _, _, _, rfl, _⟩ := h
    rfl
  · obtain ⟨p, M, i, R, rfl, hM, sm, hR, k⟩ := h
    refine ⟨_, (pss_cons (ps_if (pt_not (pt_chain op_le op_lt pe_int (pv 1) (pe_callB call_len (by rfl) T.b_len PySem.boot_len (pa_cons (pe_fld (pv 0) rfl) pa_nil)))) (pss_one ps_never) pss_nil)
    (pss_one (ps_ret (pe_ix ix_tup (pe_fld (pv 0) rfl) (pv 1) (fun _ _ => rfl))))), ?_⟩
    obtain ⟨dx, tr, ts, ta, tf, vs, ss, as, fs, hp, htr, hall, hts, hss, hta, has, htf, hfs⟩ := hM.ex
    obtain ⟨l1, l2, l3, l4, l5⟩ := mach_fld (first := M.first) (tr := tr) (ts := ts) (ta := ta) (tf := tf)
    have hi : i < M.rules.length := (List.getElem?_eq_some_iff.mp hR).1
    have hl := hall.len
    refine ⟨_, rfl, _, _, rfl, rfl, _, rfl, ?_⟩
    refine iteTh (decide_eq_true (by omega)) ?_
    refine ⟨_, rfl, p, c.Machine, dx, _, _, rfl, hp, T.clM, T.m_rules, l2, _, M.rules.length, rfl, .inr ⟨_, htr, hl.symm⟩, _, _, rfl, rfl, _, rfl, ?_⟩
    refine iteFh (by rw [decide_eq_true (by omega)]; rfl) ?_
    have hv : vs[i]? = some (vs[i]'(by omega)) := List.getElem?_eq_getElem _
    obtain ⟨R', hR', px, ex, hpx⟩ := hall.get hv
    rw [hR] at hR'
    cases hR'
    exact ⟨_, rfl, p, c.Machine, dx, _, _, rfl, hp, T.clM, T.m_rules, l2, _, rfl, tr, vs, _, _, rfl, rfl, htr, atI_nat (j := i) hv, k _ _ ⟨px, ex, hpx⟩ (Same.refl _)⟩
end
end L2.Wk
namespace L2.Wk
open PySem PySem.Spec PyProof.Rows
/-! ### a text by its words between blanks -/
theorem sp_tl : TL.tl (Str.ofString " ") = [32] := by decide +kernel
theorem parts_ex : ∀ l : List Nat, ∃ ps : List Str, ps ≠ [] ∧ (∀ p ∈ ps, 32 ∉ TL.tl p) ∧ TL.joinL [32] (ps.map TL.tl) = l
  | [] => ⟨[Str.empty], by simp, fun p hp => by rw [List.mem_singleton.mp hp]; decide +kernel, by decide +kernel⟩
  | c :: l => by
    obtain ⟨ps, h1, h2, h3⟩ := parts_ex l
    cases ps with
    | nil => exact absurd rfl h1
    | cons p ps =>
      by_cases hc : c = 32
      · subst hc
        refine ⟨Str.empty :: p :: ps, by simp, fun q hq => ?_, ?_⟩
        · rcases List.mem_cons.mp hq with rfl | hq
          · decide +kernel
          · exact h2 q hq
        · rw [← h3]
          show TL.tl Str.empty ++ ([32] ++ TL.joinL [32] ((p :: ps).map TL.tl)) = _
          rw [show TL.tl Str.empty = [] by decide +kernel]
          rfl
      · refine ⟨⟨(c :: TL.tl p).toArray⟩ :: ps, by simp, fun q hq => ?_, ?_⟩
        · rcases List.mem_cons.mp hq with rfl | hq
          · rw [TL.tl_mk]
            intro h
            rcases List.mem_cons.mp h with h | h
            · exact hc h.symm
            · exact h2 p (List.mem_cons_self ..) h
          · exact h2 q (List.mem_cons_of_mem _ hq)
        · rw [← h3, List.map_cons, TL.tl_mk, List.map_cons]
          cases ps with
          | nil => rfl
          | cons q r => rfl
theorem parts_of (z : Str) : ∃ ps : List Str, ps ≠ [] ∧ (∀ p ∈ ps, 32 ∉ TL.tl p) ∧ z = Str.join (Str.ofString " ") ps ∧ Txt.split z (Str.ofString " ") = ps := by
  obtain ⟨ps, h1, h2, h3⟩ := parts_ex (TL.tl z)
  have e : z = Str.join (Str.ofString " ") ps := TL.ext_tl (by rw [TL.tl_join, sp_tl, h3])
  refine ⟨ps, h1, h2, e, ?_⟩
  rw [e, ← TL.join_eq]
  exact TL.split_join sp_tl (by decide +kernel) h1 h2
theorem inV_strs (z : Str) (ys : List Str) : inV (.str z) (ys.map V.str) = decide (z ∈ ys) := by
  unfold inV
  induction ys with
  | nil => rfl
  | cons y ys ih =>
    rw [List.map_cons, List.any_cons, ih]
    show ((y == z) || decide (z ∈ ys)) = _
    by_cases h : z = y
    · subst h
      simp
    · have h' : ¬ y = z := fun e => h e.symm
      simp [h, h']
theorem no_blank {w : Str} (h : 32 ∈ TL.tl w) : isName w = false := by
  unfold isName
  have : (w.cps.toList.map fun c => decide (c ∈ lettersS.cps.toList)).all id = false := by
    refine List.all_eq_false.mpr ⟨false, List.mem_map.mpr ⟨32, h, ?_⟩, by simp⟩
    decide +kernel
  rw [this, Bool.and_false, Bool.and_false]
theorem join_two (p q : Str) (r : List Str) : Str.join (Str.ofString " ") (p :: q :: r) = p ++ Str.ofString " " ++ Str.join (Str.ofString " ") (q :: r) := by
  refine TL.ext_tl ?_
  rw [TL.tl_join, TL.tl_append, TL.tl_append, TL.tl_join]
  show TL.tl p ++ (TL.tl (Str.ofString " ") ++ TL.joinL _ (List.map TL.tl (q :: r))) = _
  rw [List.append_assoc]
theorem join_one (p : Str) : Str.join (Str.ofString " ") [p] = p := by
  refine TL.ext_tl ?_
  rw [TL.tl_join]
  rfl
theorem has_blank {p q : Str} {r : List Str} : 32 ∈ TL.tl (Str.join (Str.ofString " ") (p :: q :: r)) := by
  rw [join_two, TL.tl_append, TL.tl_append, sp_tl]
  simp
theorem join_mem {p : Str} : ∀ {ps : List Str}, p ∈ ps → ∀ c ∈ TL.tl p, c ∈ TL.tl (Str.join (Str.ofString " ") ps)
  | [], h, _, _ => by cases h
  | [q], h, c, hc => by rw [join_one, ← List.mem_singleton.mp h]; exact hc
  | q :: q2 :: r, h, c, hc => by
    rw [join_two, TL.tl_append, TL.tl_append]
    rcases List.mem_cons.mp h with rfl | h
    · exact List.mem_append_left _ (List.mem_append_left _ hc)
    · exact List.mem_append_right _ (join_mem h c hc)
theorem part_ok {z p : Str} {ps : List Str} (e : z = Str.join (Str.ofString " ") ps) (h : p ∈ ps) (hz : PyData.strOk z = true) : PyData.strOk p = true := by
  unfold PyData.strOk at *
  refine Array.all_eq_true_iff_forall_mem.mpr fun c hc => ?_
  refine Array.all_eq_true_iff_forall_mem.mp hz c ?_
  have := join_mem h c (by simpa [TL.tl] using hc)
  rw [← e] at this
  simpa [TL.tl] using this
/-- the words of a text tell whether it is a phrase -/
theorem phrase_words (z : Str) (as bs : List Str) (ha : ∀ y ∈ as, 32 ∉ TL.tl y) : ∃ ps : List Str, Txt.split z (Str.ofString " ") = ps ∧ ps.length ≤ z.length + 1 ∧ (∀ p ∈ ps, p.length ≤ z.length) ∧ (PyData.strOk z = true → ∀ p ∈ ps, PyData.strOk p = true) ∧
    isPhrase z as bs = (inV (.str z) (as.map V.str) || match ps with
      | [p, q] => inV (.str p) (bs.map V.str) && isName q
      | _ => false) := by
  obtain ⟨ps, h1, h2, h3, h4⟩ := parts_of z
  have hl : ∀ ps : List Str, ps ≠ [] → ps.length ≤ (Str.join (Str.ofString " ") ps).length + 1 ∧ ∀ p ∈ ps, p.length ≤ (Str.join (Str.ofString " ") ps).length := by
    intro ps
    induction ps with
    | nil => intro h; exact absurd rfl h
    | cons p ps ih =>
      intro _
      cases ps with
      | nil =>
        rw [join_one]
        exact ⟨by simp, fun x hx => by rw [List.mem_singleton.mp hx]; exact Nat.le_refl _⟩
      | cons q r =>
        obtain ⟨i1, i2⟩ := ih (by simp)
        have e : (Str.join (Str.ofString " ") (p :: q :: r)).length = p.length + 1 + (Str.join (Str.ofString " ") (q :: r)).length := by
          rw [join_two]
          show (p ++ Str.ofString " " ++ Str.join (Str.ofString " ") (q :: r)).cps.size = _
          rw [Str.cps_append, Str.cps_append, Array.size_append, Array.size_append]
          rfl
        rw [e]
        refine ⟨?_, fun x hx => ?_⟩
        · rw [List.length_cons]
          omega
        · rcases List.mem_cons.mp hx with rfl | hx
          · omega
          · have := i2 x hx
            omega
  obtain ⟨l1, l2⟩ := hl ps h1
  rw [← h3] at l1 l2
  refine ⟨ps, h4, l1, l2, fun hz p hp => part_ok h3 hp hz, ?_⟩
  have e0 : ((Str.empty.length : Int) != 0) = false := by decide +kernel
  have e1 : (((Str.ofString " ").length : Int) != 0) = true := by decide +kernel
  cases ps with
  | nil => exact absurd rfl h1
  | cons p ps =>
    have hp := h2 p (List.mem_cons_self ..)
    cases ps with
    | nil =>
      rw [join_one] at h3
      subst h3
      have := TL.partition_none sp_tl hp
      unfold isPhrase
      have e : Txt.partition z " " = (z, Str.empty, Str.empty) := this
      rw [e]
      show (if ((Str.empty.length : Int) != 0) = true then _ else inV (.str z) (as.map V.str)) = _
      rw [e0]
      simp
    | cons q r =>
      have hb : inV (.str z) (as.map V.str) = false := by
        rw [inV_strs]
        refine decide_eq_false fun hm => ha z hm ?_
        rw [h3]
        exact has_blank
      rw [hb, Bool.false_or]
      have e : Txt.partition z " " = (p, Str.ofString " ", Str.join (Str.ofString " ") (q :: r)) := by
        rw [h3, join_two]
        exact TL.partition_app sp_tl hp
      unfold isPhrase
      rw [e]
      show (if (((Str.ofString " ").length : Int) != 0) = true then inV (.str p) (bs.map V.str) && isName (Str.join (Str.ofString " ") (q :: r)) else _) = _
      rw [if_pos e1]
      cases r with
      | nil => rw [join_one]
      | cons r0 r =>
        rw [no_blank has_blank, Bool.and_false]
end L2.Wk
namespace L2.Wk
open PySem PySem.Spec PyProof.Rows
theorem app_assoc (x y z : Str) : x ++ y ++ z = x ++ (y ++ z) := TL.ext_tl (by simp only [TL.tl_append, List.append_assoc])
/-! ### the signs of names, events, deeds -/
theorem name_sig {z : Str} (h : isName z = true) : ∀ c ∈ TL.tl z, c ∈ lettersS.cps.toList := fun c hc => by
  unfold isName at h
  obtain ⟨_, h⟩ := Bool.and_eq_true_iff.mp h
  obtain ⟨_, h⟩ := Bool.and_eq_true_iff.mp h
  have := (List.all_eq_true.mp h) (decide (c ∈ lettersS.cps.toList)) (List.mem_map.mpr ⟨c, hc, rfl⟩)
  exact of_decide_eq_true this
theorem letters_no : ∀ c ∈ [32, 44, 45, 58, 10, 62], c ∉ lettersS.cps.toList := by decide +kernel
theorem name_no {z : Str} (h : isName z = true) {c : Nat} (hc : c ∈ [32, 44, 45, 58, 10, 62]) : c ∉ TL.tl z := fun hm => letters_no c hc (name_sig h c hm)
theorem inV_mem {z : Str} {ys : List Str} (h : inV (.str z) (ys.map V.str) = true) : z ∈ ys := by
  rw [inV_strs] at h
  exact of_decide_eq_true h
theorem phrase_sig {z : Str} {as bs : List Str} (ha : ∀ y ∈ as, ∀ c ∈ TL.tl y, c ∈ lettersS.cps.toList) (hb : ∀ y ∈ bs, ∀ c ∈ TL.tl y, c ∈ lettersS.cps.toList) (h : isPhrase z as bs = true) : ∀ c ∈ TL.tl z, c = 32 ∨ c ∈ lettersS.cps.toList := by
  obtain ⟨ps, _, _, _, _, e⟩ := phrase_words z as bs fun y hy hm => letters_no 32 (by simp) (ha y hy 32 hm)
  obtain ⟨ps', p1, p2, p3, p4⟩ := parts_of z
  rw [‹Txt.split z (Str.ofString " ") = ps›] at p4
  subst p4
  rw [h] at e
  intro c hc
  cases q : inV (.str z) (as.map V.str) with
  | true => exact .inr (ha z (inV_mem q) c hc)
  | false =>
    rw [q, Bool.false_or] at e
    match ps, e, p3 with
    | [], e, _ => cases e
    | [p], e, _ => cases e
    | p :: x :: y :: r, e, _ => cases e
    | [p, x], e, p3 =>
      obtain ⟨e1, e2⟩ := Bool.and_eq_true_iff.mp e.symm
      rw [p3, join_two, join_one, TL.tl_append, TL.tl_append] at hc
      rcases List.mem_append.mp hc with hc | hc
      · rcases List.mem_append.mp hc with hc | hc
        · exact .inr (hb p (inV_mem e1) c hc)
        · rw [sp_tl] at hc
          exact .inl (List.mem_singleton.mp hc)
      · exact .inr (name_sig e2 c hc)
theorem lists_sig : ∀ l ∈ [plainE, areaE, plainD, fenceD ++ areaD, guardsV], ∀ y ∈ l, ∀ c ∈ TL.tl y, c ∈ lettersS.cps.toList := by decide +kernel
theorem event_sig {z : Str} (h : isEvent z = true) : ∀ c ∈ TL.tl z, c = 32 ∨ c ∈ lettersS.cps.toList := phrase_sig (lists_sig _ (by simp)) (lists_sig _ (by simp)) h
theorem deed_sig {z : Str} (h : isDeed z = true) : ∀ c ∈ TL.tl z, c = 32 ∨ c ∈ lettersS.cps.toList := phrase_sig (lists_sig _ (by simp)) (lists_sig _ (by simp)) h
theorem sig_no {z : Str} (h : ∀ c ∈ TL.tl z, c = 32 ∨ c ∈ lettersS.cps.toList) {c : Nat} (hc : c ∈ [44, 45, 58, 10, 62]) : c ∉ TL.tl z := fun hm => by
  rcases h c hm with rfl | h
  · revert hc
    decide
  · exact letters_no c (by simp at hc ⊢; omega) h
/-! ### an arrow in a text -/
theorem arrow_tl : TL.tl (Str.ofString " -> ") = [32, 45, 62, 32] := by decide +kernel
theorem part_arrow {a b : Str} (h : 45 ∉ TL.tl a) : Txt.partition (a ++ Str.ofString " -> " ++ b) (Str.ofString " -> ") = (a, Str.ofString " -> ", b) := by
  have eL : TL.tl (a ++ Str.ofString " -> " ++ b) = TL.tl a ++ ([32, 45, 62, 32] ++ TL.tl b) := by rw [TL.tl_append, TL.tl_append, arrow_tl, List.append_assoc]
  have no : ∀ k, 0 ≤ k → k < 0 + (TL.tl a).length → TL.pre [32, 45, 62, 32] ((TL.tl a ++ ([32, 45, 62, 32] ++ TL.tl b)).drop k) = false := by
    intro k _ hk
    cases hp : TL.pre [32, 45, 62, 32] ((TL.tl a ++ ([32, 45, 62, 32] ++ TL.tl b)).drop k) with
    | false => rfl
    | true =>
      exfalso
      have e : ((TL.tl a ++ ([32, 45, 62, 32] ++ TL.tl b)).drop k).take 4 = [32, 45, 62, 32] := eq_of_beq hp
      have e1 : ((TL.tl a ++ ([32, 45, 62, 32] ++ TL.tl b)).drop k)[1]? = some 45 := by
        have := congrArg (fun l => l[1]?) e
        simpa [List.getElem?_take] using this
      rw [List.getElem?_drop] at e1
      by_cases hk1 : k + 1 < (TL.tl a).length
      · rw [List.getElem?_append_left hk1] at e1
        exact h (List.mem_of_getElem? e1)
      · have ek : k + 1 = (TL.tl a).length := by omega
        rw [List.getElem?_append_right (by omega), ek] at e1
        simp at e1
  have run := TL.par_run [32, 45, 62, 32] (TL.tl a ++ ([32, 45, 62, 32] ++ TL.tl b)) (TL.tl a).length 0 [] (by rw [List.length_append]; omega) no
  have at_ := TL.par_at (S := [32, 45, 62, 32]) (L := TL.tl a ++ ([32, 45, 62, 32] ++ TL.tl b)) (by simp) (c := (TL.tl a).length) (acc := TL.tl a) (by rw [List.drop_left]; exact TL.pre_self _ _)
  rw [TL.partition_par _ _ (by rw [arrow_tl]; simp), eL, arrow_tl]
  rw [List.drop_zero, Nat.zero_add, List.nil_append, List.take_left, at_] at run
  rw [run]
  have e2 : (TL.tl a ++ ([32, 45, 62, 32] ++ TL.tl b)).drop ((TL.tl a).length + [32, 45, 62, 32].length) = TL.tl b := by
    rw [← List.append_assoc, List.drop_append_of_le_length (by rw [List.length_append]; exact Nat.le_refl _)]
    simp
  show ((⟨(TL.tl a).toArray⟩ : Str), Str.ofString " -> ", (⟨((TL.tl a ++ ([32, 45, 62, 32] ++ TL.tl b)).drop ((TL.tl a).length + [32, 45, 62, 32].length)).toArray⟩ : Str)) = _
  rw [e2, TL.mk_tl, TL.mk_tl]
theorem join_snoc (q : Str) : ∀ (p : Str) (ps : List Str), Str.join (Str.ofString " ") (p :: ps ++ [q]) = Str.join (Str.ofString " ") (p :: ps) ++ Str.ofString " " ++ q
  | p, [] => by
    show Str.join (Str.ofString " ") [p, q] = _
    rw [join_two, join_one, join_one]
  | p, p2 :: ps => by
    show Str.join (Str.ofString " ") (p :: p2 :: (ps ++ [q])) = _
    have ih := join_snoc q p2 ps
    rw [join_two, join_two]
    have e : p2 :: (ps ++ [q]) = p2 :: ps ++ [q] := rfl
    rw [e, ih]
    simp only [app_assoc]
/-- a rule's text, in pieces -/
def headOf (R : RuleD) : Str := R.st ++ Str.ofString " " ++ R.ev ++ Str.ofString " " ++ R.gd
def tailOf (R : RuleD) : Str := R.th ++ deedsTxt R.ds
theorem rule_pieces (R : RuleD) : ruleTxt R = headOf R ++ Str.ofString " -> " ++ tailOf R := by
  unfold ruleTxt headOf tailOf
  rw [empty_app]
  simp only [app_assoc]
structure RuleRd (R : RuleD) : Prop where
  small : RuleSmall R
  err : ruleErr R.st R.ev R.gd R.th R.ds = none
structure RuleOks (R : RuleD) : Prop where
  st : isName R.st = true
  ev : isEvent R.ev = true
  gd : R.gd ∈ guardsV
  th : isName R.th = true
  ds : ∀ z ∈ R.ds, isDeed z = true
theorem RuleRd.oks {R : RuleD} (h : RuleRd R) : RuleOks R := by
  have e := h.err
  unfold ruleErr at e
  cases e1 : isName R.st with
  | false => rw [e1] at e; cases e
  | true =>
  cases e2 : isEvent R.ev with
  | false => rw [e1, e2] at e; cases e
  | true =>
  cases e3 : inV (.str R.gd) (guardsV.map V.str) with
  | false => rw [e1, e2, e3] at e; cases e
  | true =>
  cases e4 : isName R.th with
  | false => rw [e1, e2, e3, e4] at e; cases e
  | true =>
  cases e5 : (R.ds.map (mayDo R.ev)).all id with
  | false => rw [e1, e2, e3, e4, e5] at e; cases e
  | true =>
    refine ⟨e1, e2, inV_mem e3, e4, fun z hz => ?_⟩
    have := (List.all_eq_true.mp e5) (mayDo R.ev z) (List.mem_map.mpr ⟨z, hz, rfl⟩)
    unfold mayDo at this
    exact (Bool.and_eq_true_iff.mp this).1
/-- how it is read -/
theorem rule_read {R : RuleD} (h : RuleOks R) : ∃ p ps, Txt.partition (ruleTxt R) (Str.ofString " -> ") = (headOf R, Str.ofString " -> ", tailOf R) ∧ Txt.split (headOf R) (Str.ofString " ") = R.st :: (p :: ps ++ [R.gd]) ∧ Txt.join (Str.ofString " ") (p :: ps) = R.ev ∧ (p :: ps).length ≤ R.ev.length + 1 ∧
    Txt.partition (tailOf R) (Str.ofString ": ") = (R.th, if R.ds = [] then (Str.empty, Str.empty) else (Str.ofString ": ", Txt.join (Str.ofString ", ") R.ds)) ∧ (R.ds ≠ [] → Txt.split (Txt.join (Str.ofString ", ") R.ds) (Str.ofString ", ") = R.ds) := by
  obtain ⟨pp, h1, h2, h3, h4⟩ := parts_of R.ev
  obtain ⟨_, h5, h6, _⟩ := phrase_words R.ev plainE areaE fun y hy hm => letters_no 32 (by simp) (lists_sig plainE (by simp) y hy 32 hm)
  rw [h4] at h5
  subst h5
  cases pp with
  | nil => exact absurd rfl h1
  | cons p ps =>
  have g32 : 32 ∉ TL.tl R.gd := fun hm => letters_no 32 (by simp) (lists_sig guardsV (by simp) _ h.gd 32 hm)
  have g45 : 45 ∉ TL.tl R.gd := fun hm => letters_no 45 (by simp) (lists_sig guardsV (by simp) _ h.gd 45 hm)
  refine ⟨p, ps, ?_, ?_, ?_, h6, ?_, ?_⟩
  · rw [rule_pieces]
    refine part_arrow ?_
    unfold headOf
    simp only [TL.tl_append, sp_tl, List.mem_append, not_or]
    exact ⟨⟨⟨⟨name_no h.st (by simp), by simp⟩, sig_no (event_sig h.ev) (by simp)⟩, by simp⟩, g45⟩
  · have e : headOf R = Txt.join (Str.ofString " ") (R.st :: (p :: ps ++ [R.gd])) := by
      rw [TL.join_eq, show R.st :: (p :: ps ++ [R.gd]) = R.st :: p :: (ps ++ [R.gd]) from rfl, join_two]
      have := join_snoc R.gd p ps
      rw [show p :: (ps ++ [R.gd]) = p :: ps ++ [R.gd] from rfl, this, ← h3]
      unfold headOf
      simp only [app_assoc]
    rw [e]
    refine TL.split_join sp_tl (by decide +kernel) (by simp) fun x hx => ?_
    rcases List.mem_cons.mp hx with rfl | hx
    · exact name_no h.st (by simp)
    · rcases List.mem_append.mp hx with hx | hx
      · exact h2 x hx
      · rw [List.mem_singleton.mp hx]
        exact g32
  · rw [TL.join_eq]
    exact h3.symm
  · have t58 : 58 ∉ TL.tl R.th := name_no h.th (by simp)
    unfold tailOf deedsTxt
    cases e : R.ds with
    | nil =>
      rw [if_neg (by simp), if_pos rfl]
      have : R.th ++ Str.ofString "" = R.th := TL.ext_tl (by rw [TL.tl_append]; simp [show TL.tl (Str.ofString "") = [] by decide +kernel])
      rw [this]
      exact TL.partition_none (y := Str.ofString ": ") (s := 58) (S := [32]) (by decide +kernel) t58
    | cons z zs =>
      rw [if_pos (by simp), if_neg (by simp), ← app_assoc]
      exact TL.partition_app (y := Str.ofString ": ") (s := 58) (S := [32]) (by decide +kernel) t58
  · intro hne
    exact TL.split_join (y := Str.ofString ", ") (s := 44) (S := [32]) (by decide +kernel) (by decide +kernel) hne fun z hz => sig_no (deed_sig (h.ds z hz)) (by simp)
end L2.Wk
namespace L2.Wk
open PySem PySem.Spec PyProof.Rows
abbrev s_read_rule : Stmt := top 30
abbrev N_read_rule : List Str := ["line", "head", "_", "tail", "words", "then", "colon", "deeds"]
theorem sc_read_rule : FnScope N_read_rule ["line"] (defScope s_read_rule) := ⟨rfl, rfl, rfl, by decide +kernel, rfl, by decide +kernel, by decide +kernel⟩
theorem pt_truthK {X : Cx} {K : PySem.W.Frag} {a : Expr} {ta : TE} (h : X.K = K) (ha : PE X a ta) (he : ∀ whole, isTrue a X.env whole = (do let v ← whole; standAt a.pos; holding [v] (truthy v))) :
    PT X a (fun σ H Q => ta σ H fun x H' => ∃ k, TruV K x H' k ∧ Q k H') := h ▸ pt_truth ha he
theorem pe_joinK {X : Cx} {K : PySem.W.Frag} {o e : Expr} {to te : TE} {apos pos : Pos} (h : X.K = K) (ho : PE X o to) (he : PE X e te) (hs : starEach [e] X.env = [(false, eval e X.env)] := by rfl) (hbase : attributeBase o "join" X.env (eval o X.env) = eval o X.env := by rfl) (hline : (apos.endLine == pos.line) = true := by rfl) :
    PE X (.Call (.Attribute o "join" apos) [e] [] pos) (tM1 (fun x xs H Q => ∃ a p, ∃ ys : List Str, x = .str a ∧ xs = [.ref p] ∧ (SqL K H p (ys.map V.str) ∨ SqT K H p (ys.map V.str)) ∧
      (ys.map (·.length)).sum + ys.length * a.length ≤ 16777216 ∧ Q (.str (Txt.join a ys)) H) to te) := h ▸ pe_join ho he hs hbase hline
structure TxtRR (K : PySem.W.Frag) (mg : Str → Option Value) (a : Ws) (r : Rs) (q : RTs) (c : Cs) (n : Ns) (m : MTs) (rr : Addr) : Prop extends TxtMT K mg a r q c n m where
  g__read_rule : mg "_read_rule" = some (.ref rr)
  k__read_rule : PySem.W.keepIn K (.ref rr) = true
/-- a line that tells a rule -/
def spReadR (K : PySem.W.Frag) (r : Rs) : Sp := fun vs H Q _ => ∃ R : RuleD, vs = [.str (ruleTxt R)] ∧ RuleRd R ∧ ∀ v H', RuleV K r H' v R → Same H H' → Q v H'
theorem headOf_len {R : RuleD} (h : RuleSmall R) : (headOf R).length ≤ 400 ∧ (tailOf R).length ≤ 10400 := by
  have c1 : (Str.ofString " ").length = 1 := by decide +kernel
  have hd := deedsTxt_small h.dn h.ds
  obtain ⟨s1, s2, s3, s4, _, _⟩ := h
  unfold headOf tailOf
  simp only [app_len, c1]
  omega
theorem cut_in (x : V) (xs : List V) (y : V) : cutV (x :: (xs ++ [y])) (some 1) (some (-1)) = xs := by
  unfold cutV
  have e1 : HT.sIx (x :: (xs ++ [y])).length 0 (some 1) = 1 := by
    have := HT.sIx_nat (x :: (xs ++ [y])).length 0 1
    rw [List.length_cons] at this ⊢
    have e : min 1 ((xs ++ [y]).length + 1) = 1 := Nat.min_eq_left (Nat.le_add_left _ _)
    rw [e] at this
    exact this
  have e2 : HT.sIx (x :: (xs ++ [y])).length (x :: (xs ++ [y])).length (some (-1)) = xs.length + 1 := by
    show (if (-1 : Int) < 0 then ((-1 : Int) + ((x :: (xs ++ [y])).length : Int)).toNat else min (-1 : Int).toNat (x :: (xs ++ [y])).length) = _
    rw [if_pos (by decide), List.length_cons, List.length_append]
    simp only [List.length_cons, List.length_nil]
    omega
  rw [e1, e2, List.drop_one, List.tail_cons]
  show List.take (xs.length + 1 - 1) (xs ++ [y]) = xs
  rw [Nat.add_sub_cancel, List.take_left]
theorem at_last (x : V) (xs : List V) (y : V) : atI (x :: (xs ++ [y])) (-1) = some y := by
  unfold atI ixN
  have hl : (x :: (xs ++ [y])).length = xs.length + 2 := by
    rw [List.length_cons, List.length_append]
    rfl
  rw [hl, if_neg (by decide), if_pos (by omega)]
  have e : ((-1 : Int) + ((xs.length + 2 : Nat) : Int)).toNat = xs.length + 1 := by omega
  rw [e]
  show (x :: (xs ++ [y]))[xs.length + 1]? = some y
  rw [List.getElem?_cons_succ, List.getElem?_append_right (Nat.le_refl _)]
  simp
section
variable {P : Program} {w : World} {K : PySem.W.Frag} {mg : Str → Option Value} {base : Heap} {a : Ws} {r : Rs} {q : RTs} {c : Cs} {n : Ns} {m : MTs} {rr : Addr} {f : Addr} {fd : FuncData}
theorem ok_read_rule {f1 : FuncData} (F : Fun K "_read_rule" "_read_rule" s_read_rule f fd) (T : TxtRR K mg a r q c n m rr)
    (G_Rule : FnOk P w K mg base (L2.CX P w) 5 r.fRule f1 ["self", "state", "event", "guard", "then", "deeds"] (spRule K r)) (b_Rule : Binds K f1 ["self", "state", "event", "guard", "then", "deeds"] []) :
    FnOk P w K mg base CX0 7 f fd ["line"] (spReadR K r) := by
  have M_Rule := T.M
  refine F.ok sc_read_rule (fun vs H Q E h => ?_) (fun cdv A outer s H vs Q E hr h => ?_)
  · obtain ⟨_, rfl, _⟩ := h
    rfl
  · obtain ⟨R, rfl, hR, k⟩ := h
    refine ⟨_, (pss_cons (ps_asg (pe_partition (pv 0) pe_str) (pg_tup rfl (pgs_cons (pg_name (i := 1) sc_read_rule.nd rfl (Or.inl rfl)) (pgs_cons (pg_name (i := 2) sc_read_rule.nd rfl (Or.inl rfl)) (pgs_cons (pg_name (i := 3) sc_read_rule.nd rfl (Or.inl rfl)) pgs_nil)))))
    (pss_cons (ps_set (i := 4) sc_read_rule.nd rfl (Or.inl rfl) (pe_split (pv 1) pe_str))
    (pss_cons (ps_asg (pe_partition (pv 3) pe_str) (pg_tup rfl (pgs_cons (pg_name (i := 5) sc_read_rule.nd rfl (Or.inl rfl)) (pgs_cons (pg_name (i := 6) sc_read_rule.nd rfl (Or.inl rfl)) (pgs_cons (pg_name (i := 7) sc_read_rule.nd rfl (Or.inl rfl)) pgs_nil)))))
    (pss_one (ps_try_only rfl rfl ⟨rfl, by decide, Or.inl T.low_InvalidMachine.gC⟩ takes0
      (fun W pn xe tk _ => (pss_one (ps_ret (pe_makeS M_Rule G_Rule (hr.mono (by decide)) rfl T.g_Rule b_Rule .nil (fun σ => passAt tk σ) (pa_cons (pe_ix (ix_listK (K := K) rfl) (pv 4) pe_int (fun _ _ => rfl)) (pa_cons (pe_joinK (K := K) rfl pe_str (pe_slice (sl_listK (K := K) rfl) (pv 4) (po_some pe_int) (po_some (pe_un un_neg pe_int)))) (pa_cons (pe_ix (ix_listK (K := K) rfl) (pv 4) (pe_un un_neg pe_int) (fun _ _ => rfl)) (pa_cons (pv 5) (pa_cons (pe_ifExp (pt_truthK (K := K) rfl (pv 6) (by intro _; rfl)) (pe_split (pv 7) pe_str) (pe_tup pa_nil)) pa_nil)))))))))
      (fun ae oe cls d pn hz hf => (pss_one (ps_ret pe_non)))))))), ?_⟩
    have sm := hR.small
    obtain ⟨hl1, hl2⟩ := headOf_len sm
    have hl3 := ruleTxt_len sm
    obtain ⟨p, ps, e1, e2, e3, e4, e5, e6⟩ := rule_read hR.oks
    refine ⟨_, rfl, ⟨_, rfl⟩, _, _, rfl, rfl, rfl, big_ok (by omega), fun t1 ht1 => ?_⟩
    rw [e1]
    refine ⟨t1, _, rfl, .inl (.inl upd_same), rfl, _, _, rfl, _, _, rfl, _, _, rfl, rfl, ?_⟩
    have s1 := Same.upd_new (o := .tup [.str (headOf R), .str (Str.ofString " -> "), .str (tailOf R)]) ht1
    refine ⟨_, rfl, ⟨_, rfl⟩, _, Str.ofString " ", rfl, rfl, by decide +kernel, big_ok (show (headOf R).length + 2 ≤ 60000 by omega), fun pw hpw => ?_⟩
    rw [e2]
    have s2 := s1.trans (Same.upd_new (o := .lst ((R.st :: (p :: ps ++ [R.gd])).map V.str)) hpw)
    refine ⟨_, rfl, ⟨_, rfl⟩, _, _, rfl, rfl, rfl, big_ok (show (tailOf R).length ≤ 60000 by omega), fun t2 ht2 => ?_⟩
    obtain ⟨col, dd, e7, hcd⟩ : ∃ col dd : Str, Txt.partition (tailOf R) (Str.ofString ": ") = (R.th, col, dd) ∧ ((R.ds = [] ∧ col = Str.empty) ∨ (R.ds ≠ [] ∧ col = Str.ofString ": " ∧ dd = Txt.join (Str.ofString ", ") R.ds)) := by
      by_cases hd : R.ds = []
      · rw [if_pos hd] at e5
        exact ⟨_, _, e5, .inl ⟨hd, rfl⟩⟩
      · rw [if_neg hd] at e5
        exact ⟨_, _, e5, .inr ⟨hd, rfl, rfl⟩⟩
    rw [e7]
    refine ⟨t2, _, rfl, .inl (.inl upd_same), rfl, _, _, rfl, _, _, rfl, _, _, rfl, rfl, ?_⟩
    have s3 := Same.upd_new (o := .tup [.str R.th, .str col, .str dd]) ht2
    generalize upd (upd (upd H t1 _) pw _) t2 _ = Hz at s3 ⊢
    have hW := s3 _ _ (upd_same (a := pw) (o := .lst ((R.st :: (p :: ps ++ [R.gd])).map V.str)))
    have s23 := s2.trans s3
    have eW : (R.st :: (p :: ps ++ [R.gd])).map V.str = V.str R.st :: ((p :: ps).map V.str ++ [V.str R.gd]) := by rw [List.map_cons, List.map_append]; rfl
    rw [eW] at hW
    clear s2 s3 hpw ht1 ht2 s1 e1 e2 e5 e7
    refine ⟨_, rfl, pw, _, _, _, rfl, rfl, .inl (.inl hW), atI_nat (j := 0) rfl, ⟨_, rfl⟩, _, rfl, _, rfl, 1, rfl, _, rfl, pw, _, rfl, .inl (.inl hW), fun pc hpc => ?_⟩
    rw [cut_in]
    have s4 := Same.upd_new (o := .lst ((p :: ps).map V.str)) hpc
    have jl := congrArg Str.length e3
    rw [join_len] at jl
    have c1 : (Str.ofString " ").length = 1 := by decide +kernel
    refine ⟨_, pc, p :: ps, rfl, rfl, .inl (.inl (.inl upd_same)), (by have := sm.ev; rw [c1] at jl ⊢; omega), ?_⟩
    rw [e3]
    have hW4 := s4 _ _ hW
    have s24 := s23.trans s4
    refine ⟨_, rfl, 1, rfl, pw, _, _, _, rfl, rfl, .inl (.inl hW4), at_last _ _ _, _, rfl, _, rfl, _, ⟨?_, rfl⟩, ?_⟩
    · rcases hcd with ⟨_, rfl⟩ | ⟨_, rfl, _⟩
      · exact big_ok (show Str.empty.length ≤ 60000 by decide +kernel)
      · exact big_ok (show (Str.ofString ": ").length ≤ 60000 by decide +kernel)
    rcases hcd with ⟨hd, rfl⟩ | ⟨hd, rfl, rfl⟩
    · refine iteFh (show ((Str.empty.length : Int) != 0) = false by decide +kernel) ⟨(by show 0 ≤ sizeLine; decide), fun tq htq => ?_⟩
      have h0 : R.ds.map V.str = [] := by rw [hd]; rfl
      exact fun y dy ny nd ne => ⟨y, dy, tq, R.st, R.ev, R.gd, R.th, R.ds, rfl, upd_same, Same.sq (made_same ny nd) (.inr (.inl (.inl (by rw [h0]; exact upd_same)))), Nat.le_trans sm.st (by decide), Nat.le_trans sm.ev (by decide), Nat.le_trans sm.th (by decide), Nat.le_trans sm.dn (by decide), fun z hz => Nat.le_trans (sm.ds z hz) (by decide), fun _ H' t q1 q2 q3 => ⟨rfl, k _ _ ⟨y, rfl, dy, t, q2, q1⟩ ((s24.trans (Same.upd_new htq)).trans (made_keep ny nd q3))⟩, fun m em => by
        rw [hR.err] at em
        cases em⟩
    · refine iteTh (show (((Str.ofString ": ").length : Int) != 0) = true by decide +kernel) ⟨_, rfl, ⟨_, rfl⟩, _, Str.ofString ", ", rfl, rfl, by decide +kernel, ?_, fun tq htq => ?_⟩
      · have hd2 := deedsTxt_small sm.dn sm.ds
        have c2 : (Str.ofString ", ").length = 2 := by decide +kernel
        have hs := sum_le sm.ds
        have dn := sm.dn
        show (Txt.join (Str.ofString ", ") R.ds).length + 2 ≤ sizeLine
        rw [join_len, c2]
        exact big_ok (by omega)
      · rw [e6 hd]
        exact fun y dy ny nd ne => ⟨y, dy, tq, R.st, R.ev, R.gd, R.th, R.ds, rfl, upd_same, Same.sq (made_same ny nd) (.inl (.inl (.inl upd_same))), Nat.le_trans sm.st (by decide), Nat.le_trans sm.ev (by decide), Nat.le_trans sm.th (by decide), Nat.le_trans sm.dn (by decide), fun z hz => Nat.le_trans (sm.ds z hz) (by decide), fun _ H' t q1 q2 q3 => ⟨rfl, k _ _ ⟨y, rfl, dy, t, q2, q1⟩ ((s24.trans (Same.upd_new htq)).trans (made_keep ny nd q3))⟩, fun m em => by
        rw [hR.err] at em
        cases em⟩
end
end L2.Wk
namespace L2.Wk
open PySem PySem.Spec PyProof.Rows
abbrev s_Machine_read : Stmt := inClass (top 26) 1
abbrev N_Machine_read : List Str := ["cls", "text", "lines", "word", "_", "first", "rules", "at", "line", "rule"]
theorem sc_Machine_read : FnScope N_Machine_read ["cls", "text"] (defScope s_Machine_read) := ⟨rfl, rfl, rfl, by decide +kernel, rfl, by decide +kernel, by decide +kernel⟩
structure TxtRM (K : PySem.W.Frag) (mg : Str → Option Value) (a : Ws) (r : Rs) (q : RTs) (c : Cs) (n : Ns) (m : MTs) (rr : Addr) : Prop extends TxtRR K mg a r q c n m rr where
  b_enumerate : mg "enumerate" = none
structure MachRd (M : MachD) : Prop where
  small : MachSmall M
  first : isName M.first = true
  rules : ∀ R ∈ M.rules, RuleRd R
theorem joinL_mem {S : List Nat} {c : Nat} : ∀ {L : List (List Nat)}, c ∈ TL.joinL S L → c ∈ S ∨ ∃ p ∈ L, c ∈ p
  | [], h => by cases h
  | [p], h => .inr ⟨p, List.mem_cons_self .., h⟩
  | p :: q :: r, h => by
    rcases List.mem_append.mp (show c ∈ p ++ (S ++ TL.joinL S (q :: r)) from h) with h | h
    · exact .inr ⟨p, List.mem_cons_self .., h⟩
    · rcases List.mem_append.mp h with h | h
      · exact .inl h
      · rcases joinL_mem h with h | ⟨x, hx, h⟩
        · exact .inl h
        · exact .inr ⟨x, List.mem_cons_of_mem _ hx, h⟩
theorem deeds_no10 {ds : List Str} (h : ∀ z ∈ ds, isDeed z = true) : 10 ∉ TL.tl (deedsTxt ds) := by
  unfold deedsTxt
  split
  · rw [TL.tl_append, TL.join_eq, TL.tl_join]
    intro hm
    rcases List.mem_append.mp hm with hm | hm
    · revert hm
      decide +kernel
    · rcases joinL_mem hm with hm | ⟨x, hx, hm⟩
      · revert hm
        decide +kernel
      · obtain ⟨z, hz, rfl⟩ := List.mem_map.mp hx
        exact sig_no (deed_sig (h z hz)) (c := 10) (by simp) hm
  · decide +kernel
theorem rule_no10 {R : RuleD} (h : RuleOks R) : 10 ∉ TL.tl (ruleTxt R) := by
  rw [rule_pieces]
  unfold headOf tailOf
  simp only [TL.tl_append, sp_tl, arrow_tl, List.mem_append, not_or]
  exact ⟨⟨⟨⟨⟨⟨name_no h.st (by simp), by simp⟩, sig_no (event_sig h.ev) (by simp)⟩, by simp⟩, fun hm => letters_no 10 (by simp) (lists_sig guardsV (by simp) _ h.gd 10 hm)⟩, by simp⟩, name_no h.th (by simp), deeds_no10 h.ds⟩
theorem mach_split {M : MachD} (h : MachRd M) : Txt.split (machTxt M) (Str.ofString "\n") = headTxt M :: M.rules.map ruleTxt := by
  refine TL.split_join (y := Str.ofString "\n") (s := 10) (S := []) (by decide +kernel) (by decide +kernel) (by simp) fun z hz => ?_
  rcases List.mem_cons.mp hz with rfl | hz
  · unfold headTxt
    rw [TL.tl_append]
    intro hm
    rcases List.mem_append.mp hm with hm | hm
    · revert hm
      decide +kernel
    · exact name_no h.first (c := 10) (by simp) hm
  · obtain ⟨R, hR, rfl⟩ := List.mem_map.mp hz
    exact rule_no10 (h.rules R hR).oks
theorem head_part (M : MachD) : Txt.partition (headTxt M) (Str.ofString " ") = (Str.ofString "first", Str.ofString " ", M.first) := by
  have e : headTxt M = Str.ofString "first" ++ Str.ofString " " ++ M.first := by
    unfold headTxt
    rw [show Str.ofString "first " = Str.ofString "first" ++ Str.ofString " " by decide +kernel]
  rw [e]
  exact TL.partition_app sp_tl (by decide +kernel)
theorem mach_len {M : MachD} (sm : MachSmall M) : (machTxt M).length + 2 ≤ 16777000 := by
  have h := mach_sum sm
  unfold machTxt
  rw [join_len]
  have cn : (Str.ofString "\n").length = 1 := by decide +kernel
  have c1 : (Str.ofString "first ").length = 6 := by decide +kernel
  have fl := sm.first
  have rl := sm.len
  have hs : ∀ L : List RuleD, (∀ R ∈ L, RuleSmall R) → ((L.map ruleTxt).map fun x => x.length).sum ≤ 12000 * L.length := by
    intro L
    induction L with
    | nil => intro _; exact Nat.le_refl _
    | cons R L ih =>
      intro h
      have h1 := ih fun x hx => h x (List.mem_cons_of_mem _ hx)
      have h2 := ruleTxt_len (h R (List.mem_cons_self ..))
      rw [List.map_cons, List.map_cons, List.sum_cons, List.length_cons]
      omega
  have h1 := hs M.rules sm.rules
  have hh : (headTxt M).length = 6 + M.first.length := by
    unfold headTxt
    rw [app_len, c1]
  rw [List.map_cons, List.sum_cons, List.length_cons, List.length_map, cn, hh]
  omega
def spReadM (K : PySem.W.Frag) (r : Rs) (c : Cs) : Sp := fun vs H Q _ => ∃ M : MachD, vs = [.ref c.Machine, .str (machTxt M)] ∧ MachRd M ∧ ∀ p H', MaAt K r c H' p M → Same H H' → Q (.ref p) H'
section
variable {P : Program} {w : World} {K : PySem.W.Frag} {mg : Str → Option Value} {base : Heap} {a : Ws} {r : Rs} {q : RTs} {c : Cs} {n : Ns} {m : MTs} {rr : Addr} {f : Addr} {fd : FuncData}
theorem ok_read {f1 f2 f3 : FuncData} (F : Fun K "read" "Machine.read" s_Machine_read f fd) (T : TxtRM K mg a r q c n m rr)
    (G_is_name : FnOk P w K mg base CX0 1 a.is_name f1 ["value"] (spTxt isName)) (b_is_name : Binds K f1 ["value"] [])
    (G__read_rule : FnOk P w K mg base CX0 7 rr f2 ["line"] (spReadR K r)) (b__read_rule : Binds K f2 ["line"] [])
    (G_Machine : FnOk P w K mg base CX0 3 c.fMachine f3 ["self", "first", "rules"] (spMach K r c)) (b_Machine : Binds K f3 ["self", "first", "rules"] []) :
    FnOk P w K mg base CX0 8 f fd ["cls", "text"] (spReadM K r c) := by
  have M_Machine := T.MM
  refine F.ok sc_Machine_read (fun vs H Q E h => ?_) (fun cdv A outer s H vs Q E hr h => ?_)
  · obtain ⟨_, rfl, _⟩ := h
    rfl
  · obtain ⟨M, rfl, hM, k⟩ := h
    refine ⟨_, (pss_cons (ps_set (i := 2) sc_Machine_read.nd rfl (Or.inl rfl) (pe_split (pv 1) pe_str))
    (pss_cons (ps_asg (pe_partition (pe_ix ix_list (pv 2) pe_int (fun _ _ => rfl)) pe_str) (pg_tup rfl (pgs_cons (pg_name (i := 3) sc_Machine_read.nd rfl (Or.inl rfl)) (pgs_cons (pg_name (i := 4) sc_Machine_read.nd rfl (Or.inl rfl)) (pgs_cons (pg_name (i := 5) sc_Machine_read.nd rfl (Or.inl rfl)) pgs_nil)))))
    (pss_cons (ps_if (PW.pt (pw_or (pt_cmpR op_ne (pv 3) pe_str (nomark _)) (pw_or1 (pt_not (pt_val (pe_call G_is_name (hr.mono (by decide)) rfl T.g_is_name T.k_is_name b_is_name .nil pass0 (pa_cons (pv 5) pa_nil))))))) (pss_one ps_never) pss_nil)
    (pss_cons (ps_set (i := 6) sc_Machine_read.nd rfl (Or.inl rfl) (pe_lst pa_nil))
    (pss_cons (ps_for PassesOwn.never rfl (pi_enumK (by rfl) T.b_enumerate (pa_cons (pe_slice sl_list (pv 2) (po_some pe_int) po_none) pa_nil) pe_int) (pg_tup rfl (pgs_cons (pg_name (i := 7) sc_Machine_read.nd rfl (Or.inl rfl)) (pgs_cons (pg_name (i := 8) sc_Machine_read.nd rfl (Or.inl rfl)) pgs_nil)))
      (pss_cons (ps_set (i := 9) sc_Machine_read.nd rfl (Or.inl rfl) (pe_call G__read_rule (hr.mono (by decide)) rfl T.g__read_rule T.k__read_rule b__read_rule .nil pass0 (pa_cons (pv 8) pa_nil)))
      (pss_cons (ps_if (pt_cmpR op_isN (pv 9) pe_non (nomark _)) (pss_one ps_never) pss_nil)
      (pss_one (ps_expr (pe_bm PySem.F.plainAttrs_list PySem.F.slot_list_append PySem.F.type_list_append mt_append (pv 6) (pa_cons (pv 9) pa_nil)))))))
    (pss_one (ps_ret (pe_makeL (i := 0) M_Machine G_Machine (hr.mono (by decide)) rfl (Or.inl rfl) b_Machine .nil (E := fun _ => E0) at0 (pa_cons (pv 5) (pa_cons (pv 6) pa_nil)))))))))), ?_⟩
    have sm := hM.small
    have ml := mach_len sm
    have rl := sm.len
    have fl := sm.first
    refine ⟨_, rfl, ⟨_, rfl⟩, _, Str.ofString "\n", rfl, rfl, by decide +kernel, (by rw [sizeLine_eq]; omega), fun pl hpl => ?_⟩
    rw [mach_split hM]
    have s1 := Same.upd_new (o := .lst ((headTxt M :: M.rules.map ruleTxt).map V.str)) hpl
    have hl1 : (upd H pl (.lst ((headTxt M :: M.rules.map ruleTxt).map V.str))) pl = some (.lst ((headTxt M :: M.rules.map ruleTxt).map V.str)) := upd_same
    generalize upd H pl _ = H1 at s1 hl1 ⊢
    refine ⟨_, rfl, pl, _, _, _, rfl, rfl, .inl (.inl hl1), atI_nat (j := 0) rfl, ⟨_, rfl⟩, _, _, rfl, rfl, rfl, ?_, fun t1 ht1 => ?_⟩
    · unfold headTxt
      have c1 : (Str.ofString "first ").length = 6 := by decide +kernel
      rw [app_len, c1]
      exact len1000 (by omega)
    rw [head_part]
    refine ⟨t1, _, rfl, .inl (.inl upd_same), rfl, _, _, rfl, _, _, rfl, _, _, rfl, rfl, ?_⟩
    have s2 := Same.upd_new (o := .tup [.str (Str.ofString "first"), .str (Str.ofString " "), .str M.first]) ht1
    generalize upd H1 t1 _ = H2 at s2 ⊢
    refine ⟨_, rfl, rfl, _, rfl, ?_⟩
    refine iteFh (by simp) ⟨_, rfl, M.first, rfl, by omega, fun H3 s3 => ⟨_, rfl, ?_⟩⟩
    rw [hM.first]
    refine iteF ⟨(by show 0 ≤ sizeLine; decide), fun pr hpr => ?_⟩
    have s4 := Same.upd_new (o := .lst []) hpr
    have hl4 := s4 _ _ (s3 _ _ (s2 _ _ hl1))
    have hr4 : (upd H3 pr (.lst [])) pr = some (.lst []) := upd_same
    have sA := ((s1.trans s2).trans s3).trans s4
    generalize upd H3 pr _ = H4 at s4 hl4 hr4 sA ⊢
    refine ⟨_, rfl, _, rfl, pl, _, rfl, .inl (.inl hl4), fun ps hps => ?_⟩
    have ec : cutV ((headTxt M :: M.rules.map ruleTxt).map V.str) (some 1) none = (M.rules.map ruleTxt).map V.str := by
      rw [show (1 : Int) = ((1 : Nat) : Int) from rfl, cut_from]
      rfl
    rw [ec]
    have s5 := Same.upd_new (o := .lst ((M.rules.map ruleTxt).map V.str)) hps
    have hl5 : (upd H4 ps (.lst ((M.rules.map ruleTxt).map V.str))) ps = some (.lst ((M.rules.map ruleTxt).map V.str)) := upd_same
    have hr5 := s5 _ _ hr4
    have psr : ps ≠ pr := (ne_of_none hr4 hps).symm
    replace sA := sA.trans s5
    have prH : H pr = none := by
      cases e : H pr with
      | none => rfl
      | some o => rw [s3 _ _ (s2 _ _ (s1 _ _ e))] at hpr; cases hpr
    generalize upd H4 ps _ = H5 at s5 hl5 hr5 sA ⊢
    refine ⟨ps, (M.rules.map ruleTxt).map V.str, 1, rfl, rfl, by decide, by decide, .inl (.inl hl5), for_enumK (fun i σ H' => ∃ (v7 v8 v9 : Option V) (us : List V), σ = [some (.ref c.Machine), some (.str (machTxt M)), some (.ref pl), some (.str (Str.ofString "first")), some (.str (Str.ofString " ")), some (.str M.first), some (.ref pr), v7, v8, v9] ∧
      (∀ b o, H5 b = some o → b ≠ pr → H' b = some o) ∧ H' pr = some (.lst us) ∧ AllAt (RuleV K r H') us (M.rules.take i)) ⟨_, _, _, [], rfl, fun _ _ e _ => e, hr5, True.intro⟩ (fun i σ H' _ ⟨_, _, _, _, _, h, _⟩ => .inl (.inl (h _ _ hl5 psr))) ?_ ?_⟩
    · rintro i x σ H6 Tp hx ⟨v7, v8, v9, us, rfl, kp, hus, hall⟩ hTp
      rw [List.map_map, List.getElem?_map] at hx
      obtain ⟨R, hR, rfl⟩ : ∃ R, M.rules[i]? = some R ∧ x = V.str (ruleTxt R) := by
        cases e : M.rules[i]? with
        | none => rw [e] at hx; cases hx
        | some R => rw [e] at hx; exact ⟨R, rfl, (Option.some.inj hx).symm⟩
      have hi : i < M.rules.length := (List.getElem?_eq_some_iff.mp hR).1
      have sT := Same.upd_new (o := .tup [.int (1 + (i : Nat)), .str (ruleTxt R)]) hTp
      refine ⟨Tp, _, rfl, .inl (.inl upd_same), rfl, _, _, rfl, _, _, rfl, rfl, ?_⟩
      refine ⟨_, rfl, R, rfl, hM.rules R (List.mem_of_getElem? hR), fun v H7 hv s7 => ?_⟩
      have sU := sT.trans s7
      obtain ⟨p', rfl, hp'⟩ := id hv
      refine ⟨_, rfl, rfl, _, rfl, ?_⟩
      refine iteFh (by simp) ?_
      refine ⟨_, rfl, .inl ⟨rfl, _, .inl (.inl (sU _ _ hus))⟩, _, rfl, pr, _, _, rfl, rfl, sU _ _ hus, ?_, ?_⟩
      · rw [hall.len, List.length_take]
        exact small1000 (by omega)
      · refine ⟨_, _, _, us ++ [.ref p'], rfl, fun b o e hb => ?_, upd_same, ?_⟩
        · rw [upd_ne hb]
          exact sU _ _ (kp b o e hb)
        · have up : ∀ v R, RuleV K r H7 v R → RuleV K r (upd H7 pr (.lst (us ++ [.ref p']))) v R := fun v R ⟨p, e, h⟩ => ⟨p, e, RuleAt.upd_lst (sU _ _ hus) h⟩
          rw [List.take_add_one, hR, Option.toList_some]
          exact (hall.imp fun v R h => up v R (RuleV.same sU v R h)).app ⟨up _ _ hv, True.intro⟩
    · rintro σ H6 ⟨v7, v8, v9, us, rfl, kp, hus, hall⟩
      rw [List.length_map, List.length_map, List.take_length] at hall
      refine ⟨rfl, _, rfl, _, rfl, fun y dy ny nd ne => ?_⟩
      have s0 : Same H6 (upd (upd H6 dy (.own y)) y (.ins c.Machine dy [])) := made_same ny nd
      refine ⟨y, dy, pr, us, M, rfl, upd_same, .inl (.inl (.inl (s0 _ _ hus))), hall.imp (RuleV.same s0), sm, hM.first, fun H7 hM7 hk => ⟨rfl, ?_⟩⟩
      refine k y H7 hM7 fun b o e => ?_
      have hb : b ≠ pr := ne_of_none e prH
      exact made_keep ny nd hk _ _ (kp _ _ (sA _ _ e) hb)
end
end L2.Wk
namespace L2.Wk
open PySem PySem.Spec PyProof.Rows
/-! ### any line, read -/
theorem part_mid (x y : Str) : (Txt.partition x y).2.1 = y ∨ ((Txt.partition x y).2.1 = Str.empty ∧ (Txt.partition x y).1 = x ∧ (Txt.partition x y).2.2 = Str.empty) := by
  unfold Txt.partition
  cases Builtin.Str.occurrences x y 0 x.length 1 with
  | nil => exact .inr ⟨rfl, rfl, rfl⟩
  | cons i r => exact .inl rfl
theorem split_ne (x y : Str) (h : y ≠ Str.empty ∨ True) : Txt.split x y ≠ [] ∨ x = Str.empty := by
  by_cases e : Txt.split x y = []
  · right
    have q := StrLaws.join_split x y
    rw [e] at q
    exact q.symm.trans rfl
  · exact .inl e
def lineWords (z : Str) : List Str := Txt.split (Txt.partition z (Str.ofString " -> ")).1 (Str.ofString " ")
def lineTail (z : Str) : Str × Str × Str := Txt.partition (Txt.partition z (Str.ofString " -> ")).2.2 (Str.ofString ": ")
def lineR (z : Str) : RuleD :=
  ⟨(lineWords z).headD Str.empty, Str.join (Str.ofString " ") ((lineWords z).tail.dropLast), (lineWords z).getLastD Str.empty, (lineTail z).1, if (lineTail z).2.1 = Str.empty then [] else Txt.split (lineTail z).2.2 (Str.ofString ", ")⟩
theorem words_three {ws : List Str} (h : ws.tail.dropLast ≠ []) : ∃ a b m c, ws = a :: (b :: m ++ [c]) ∧ ws.headD Str.empty = a ∧ ws.tail.dropLast = b :: m ∧ ws.getLastD Str.empty = c := by
  cases ws with
  | nil => exact absurd rfl h
  | cons a t =>
    rcases List.eq_nil_or_concat t with e | ⟨m, c, e⟩
    · subst e
      exact absurd rfl h
    · rw [List.concat_eq_append] at e
      subst e
      rw [List.tail_cons, List.dropLast_concat] at h
      cases m with
      | nil => exact absurd rfl h
      | cons b m =>
        refine ⟨a, b, m, c, rfl, rfl, by rw [List.tail_cons, List.dropLast_concat], ?_⟩
        show ((a :: b :: m) ++ [c]).getLastD Str.empty = c
        rw [List.getLastD_concat]
theorem no_arrow {a rest : List Nat} (h : 45 ∉ a) : ∀ i, i < a.length → TL.pre [32, 45, 62, 32] ((a ++ rest).drop i) = false ∨ (i + 1 = a.length ∧ rest[0]? = some 45) := fun k hk => by
  cases hp : TL.pre [32, 45, 62, 32] ((a ++ rest).drop k) with
  | false => exact .inl rfl
  | true =>
    right
    have e : ((a ++ rest).drop k).take 4 = [32, 45, 62, 32] := eq_of_beq hp
    have e1 : ((a ++ rest).drop k)[1]? = some 45 := by
      have := congrArg (fun l => l[1]?) e
      simpa [List.getElem?_take] using this
    rw [List.getElem?_drop] at e1
    by_cases hk1 : k + 1 < a.length
    · rw [List.getElem?_append_left hk1] at e1
      exact absurd (List.mem_of_getElem? e1) h
    · have ek : k + 1 = a.length := by omega
      rw [List.getElem?_append_right (by omega), ek, Nat.sub_self] at e1
      exact ⟨ek, e1⟩
/-- a text with one arrow, split -/
theorem split_arrow {a b : Str} (ha : 45 ∉ TL.tl a) (hb : 45 ∉ TL.tl b) : Txt.split (a ++ Str.ofString " -> " ++ b) (Str.ofString " -> ") = [a, b] := by
  refine TL.map_tl_inj ?_
  rw [TL.split_spl _ _ (by rw [arrow_tl]; simp) (TL.kind_ok (by decide +kernel)), TL.tl_append, TL.tl_append, arrow_tl, List.append_assoc]
  rw [TL.spl_part (by simp) (fun i hi => ?_), TL.spl_last (fun i hi => ?_)]
  · rfl
  · have q := no_arrow (rest := []) hb i hi
    rw [List.append_nil] at q
    rcases q with q | ⟨_, q⟩
    · exact q
    · cases q
  · rcases no_arrow (rest := [32, 45, 62, 32] ++ TL.tl b) ha i hi with q | ⟨_, q⟩
    · exact q
    · simp at q
/-- what is read from a line, if it is a rule, has this text -/
theorem line_text {z : Str} (h : RuleOks (lineR z)) : ruleTxt (lineR z) = z := by
  have ne : (lineWords z).tail.dropLast ≠ [] := fun e => by
    have q := h.ev
    have e2 : (lineR z).ev = Str.empty := by
      show Str.join _ _ = _
      rw [e]
      rfl
    rw [e2] at q
    exact absurd q (by decide +kernel)
  obtain ⟨a, b, m, c, e1, e2, e3, e4⟩ := words_three ne
  have hj : (Txt.partition z (Str.ofString " -> ")).1 = a ++ Str.ofString " " ++ Str.join (Str.ofString " ") (b :: m) ++ Str.ofString " " ++ c := by
    have q := StrLaws.join_split (Txt.partition z (Str.ofString " -> ")).1 (Str.ofString " ")
    rw [show Txt.split (Txt.partition z (Str.ofString " -> ")).1 (Str.ofString " ") = lineWords z from rfl, e1] at q
    rw [← q, show a :: (b :: m ++ [c]) = a :: b :: (m ++ [c]) from rfl, join_two]
    have s := join_snoc c b m
    rw [show b :: (m ++ [c]) = b :: m ++ [c] from rfl, s]
    simp only [app_assoc]
  have hz := StrLaws.partition_sum z (Str.ofString " -> ")
  have hm : (Txt.partition z (Str.ofString " -> ")).2.1 = Str.ofString " -> " := by
    rcases part_mid z (Str.ofString " -> ") with q | ⟨_, _, q⟩
    · exact q
    · exfalso
      have t := h.th
      have e5 : (lineR z).th = Str.empty := by
        show (Txt.partition (Txt.partition z (Str.ofString " -> ")).2.2 (Str.ofString ": ")).1 = _
        rw [q]
        decide +kernel
      rw [e5] at t
      exact absurd t (by decide +kernel)
  have ht := StrLaws.partition_sum (Txt.partition z (Str.ofString " -> ")).2.2 (Str.ofString ": ")
  have hd : (lineTail z).1 ++ deedsTxt (lineR z).ds = (Txt.partition z (Str.ofString " -> ")).2.2 := by
    rcases part_mid (Txt.partition z (Str.ofString " -> ")).2.2 (Str.ofString ": ") with q | ⟨q1, q2, q3⟩
    · have n1 : (lineTail z).2.1 ≠ Str.empty := by
        show (Txt.partition _ _).2.1 ≠ _
        rw [q]
        decide +kernel
      have e6 : (lineR z).ds = Txt.split (lineTail z).2.2 (Str.ofString ", ") := if_neg n1
      have n2 : (lineR z).ds ≠ [] := fun e => by
        rw [e6] at e
        have q5 := StrLaws.join_split (lineTail z).2.2 (Str.ofString ", ")
        rw [e] at q5
        have q6 : (lineTail z).2.2 = Str.empty := q5.symm.trans rfl
        rw [q6] at e
        exact absurd e (by decide +kernel)
      have e7 : deedsTxt (lineR z).ds = Str.ofString ": " ++ (lineTail z).2.2 := by
        unfold deedsTxt
        have n3 : (!((lineR z).ds.map V.str).isEmpty) = true := by
          cases ed : (lineR z).ds with
          | nil => exact absurd ed n2
          | cons _ _ => rfl
        rw [if_pos n3, e6]
        have q7 := StrLaws.join_split (lineTail z).2.2 (Str.ofString ", ")
        rw [TL.join_eq, q7]
      rw [e7]
      have q8 : (lineTail z).1 ++ (lineTail z).2.1 ++ (lineTail z).2.2 = (Txt.partition z (Str.ofString " -> ")).2.2 := ht
      rw [show (lineTail z).2.1 = Str.ofString ": " from q] at q8
      rw [← q8, app_assoc]
    · have e6 : (lineR z).ds = [] := if_pos q1
      rw [e6]
      have e7 : deedsTxt [] = Str.empty := by decide +kernel
      rw [e7, show (lineTail z).1 = (Txt.partition z (Str.ofString " -> ")).2.2 from q2]
      exact TL.ext_tl (by rw [TL.tl_append, show TL.tl Str.empty = [] by decide +kernel, List.append_nil])
  have key : ruleTxt (lineR z) = (a ++ Str.ofString " " ++ Str.join (Str.ofString " ") (b :: m) ++ Str.ofString " " ++ c) ++ Str.ofString " -> " ++ ((lineTail z).1 ++ deedsTxt (lineR z).ds) := by
    unfold ruleTxt
    have s1 : (lineR z).st = a := e2
    have s2 : (lineR z).ev = Str.join (Str.ofString " ") (b :: m) := by show Str.join _ _ = _; rw [e3]
    have s3 : (lineR z).gd = c := e4
    have s4 : (lineR z).th = (lineTail z).1 := rfl
    rw [s1, s2, s3, s4, empty_app]
    simp only [app_assoc]
  rw [key, hd, ← hj]
  rw [hm] at hz
  exact hz
/-- the law's own reader of a line -/
def lawR (z : Str) : Option RuleD :=
  match Txt.split z (Str.ofString " -> ") with
  | [p0, p1] =>
    if 2 < (Txt.split p1 (Str.ofString ": ")).length ∨ (Txt.split p0 (Str.ofString " ")).length < 3 then none
    else some ⟨(Txt.split p0 (Str.ofString " ")).headD Str.empty, Str.join (Str.ofString " ") ((Txt.split p0 (Str.ofString " ")).tail.dropLast), (Txt.split p0 (Str.ofString " ")).getLastD Str.empty, (Txt.split p1 (Str.ofString ": ")).headD Str.empty,
      if (Txt.split p1 (Str.ofString ": ")).length = 2 then Txt.split ((Txt.split p1 (Str.ofString ": ")).tail.headD Str.empty) (Str.ofString ", ") else []⟩
  | _ => none
theorem head_45 {R : RuleD} (h : RuleOks R) : 45 ∉ TL.tl (headOf R) := by
  have g45 : 45 ∉ TL.tl R.gd := fun hm => letters_no 45 (by simp) (lists_sig guardsV (by simp) _ h.gd 45 hm)
  unfold headOf
  simp only [TL.tl_append, sp_tl, List.mem_append, not_or]
  exact ⟨⟨⟨⟨name_no h.st (by simp), by simp⟩, sig_no (event_sig h.ev) (by simp)⟩, by simp⟩, g45⟩
theorem deeds_45 {ds : List Str} (h : ∀ z ∈ ds, isDeed z = true) : 45 ∉ TL.tl (Txt.join (Str.ofString ", ") ds) := by
  rw [TL.join_eq, TL.tl_join]
  intro hm
  rcases joinL_mem hm with q | ⟨p, hp, q⟩
  · revert q
    decide +kernel
  · obtain ⟨z, hz, rfl⟩ := List.mem_map.mp hp
    exact sig_no (deed_sig (h z hz)) (c := 45) (by simp) q
theorem deeds_58 {ds : List Str} (h : ∀ z ∈ ds, isDeed z = true) : 58 ∉ TL.tl (Txt.join (Str.ofString ", ") ds) := by
  rw [TL.join_eq, TL.tl_join]
  intro hm
  rcases joinL_mem hm with q | ⟨p, hp, q⟩
  · revert q
    decide +kernel
  · obtain ⟨z, hz, rfl⟩ := List.mem_map.mp hp
    exact sig_no (deed_sig (h z hz)) (c := 58) (by simp) q
theorem colon_tl : TL.tl (Str.ofString ": ") = [58, 32] := by decide +kernel
theorem law_line_1 {z : Str} (h : RuleOks (lineR z)) : lawR z = some (lineR z) := by
  have hz := line_text h
  obtain ⟨p, ps, r1, r2, r3, _, r5, r6⟩ := rule_read h
  have t45 : 45 ∉ TL.tl (tailOf (lineR z)) := by
    unfold tailOf
    rw [TL.tl_append, List.mem_append, not_or]
    refine ⟨name_no h.th (by simp), ?_⟩
    unfold deedsTxt
    split
    · rw [TL.tl_append, List.mem_append, not_or]
      exact ⟨by decide +kernel, deeds_45 h.ds⟩
    · decide +kernel
  have hs : Txt.split z (Str.ofString " -> ") = [headOf (lineR z), tailOf (lineR z)] := by
    have q := split_arrow (head_45 h) t45
    rw [← rule_pieces, hz] at q
    exact q
  rw [hz] at r1
  have hw : lineWords z = Txt.split (headOf (lineR z)) (Str.ofString " ") := by
    show Txt.split (Txt.partition z (Str.ofString " -> ")).1 _ = _
    rw [r1]
  have hl : lineTail z = Txt.partition (tailOf (lineR z)) (Str.ofString ": ") := by
    show Txt.partition (Txt.partition z (Str.ofString " -> ")).2.2 _ = _
    rw [r1]
  have ht : Txt.split (tailOf (lineR z)) (Str.ofString ": ") = (lineR z).th :: (if (lineR z).ds = [] then [] else [Txt.join (Str.ofString ", ") (lineR z).ds]) := by
    by_cases e : (lineR z).ds = []
    · rw [if_pos e]
      have e2 : tailOf (lineR z) = Txt.join (Str.ofString ": ") [(lineR z).th] := by
        unfold tailOf
        rw [e, show deedsTxt [] = Str.empty by decide +kernel, TL.join_eq]
        exact TL.ext_tl (by rw [TL.tl_append, show TL.tl Str.empty = [] by decide +kernel, List.append_nil]; rfl)
      rw [e2]
      exact TL.split_join colon_tl (by decide +kernel) (by simp) fun x hx => by
        rw [List.mem_singleton.mp hx]
        exact name_no h.th (by simp)
    · rw [if_neg e]
      have e2 : tailOf (lineR z) = Txt.join (Str.ofString ": ") [(lineR z).th, Txt.join (Str.ofString ", ") (lineR z).ds] := by
        unfold tailOf deedsTxt
        have n3 : (!((lineR z).ds.map V.str).isEmpty) = true := by
          cases ed : (lineR z).ds with
          | nil => exact absurd ed e
          | cons _ _ => rfl
        rw [if_pos n3]
        rw [TL.join_eq (Str.ofString ": ")]
        show _ = (lineR z).th ++ Str.ofString ": " ++ _
        rw [app_assoc]
        rfl
      rw [e2]
      exact TL.split_join colon_tl (by decide +kernel) (by simp) fun x hx => by
        simp only [List.mem_cons, List.not_mem_nil, or_false] at hx
        rcases hx with rfl | rfl
        · exact name_no h.th (by simp)
        · exact deeds_58 h.ds
  unfold lawR
  rw [hs]
  show (if _ then none else some _) = _
  have n1 : ¬ (2 < (Txt.split (tailOf (lineR z)) (Str.ofString ": ")).length ∨ (Txt.split (headOf (lineR z)) (Str.ofString " ")).length < 3) := by
    rw [ht, r2]
    rw [not_or]
    refine ⟨?_, ?_⟩
    · split <;> simp
    · simp only [List.length_cons, List.length_append, List.length_nil]
      omega
  rw [if_neg n1, ← hw, ht]
  have ed : (if ((lineR z).th :: (if (lineR z).ds = [] then [] else [Txt.join (Str.ofString ", ") (lineR z).ds])).length = 2 then Txt.split (((lineR z).th :: (if (lineR z).ds = [] then [] else [Txt.join (Str.ofString ", ") (lineR z).ds])).tail.headD Str.empty) (Str.ofString ", ") else []) = (lineR z).ds := by
    by_cases e : (lineR z).ds = []
    · rw [if_pos e, if_neg (by simp), e]
    · rw [if_neg e, if_pos (by simp)]
      exact r6 e
  rw [ed]
  rfl
theorem law_line_2 {z : Str} {R : RuleD} (h : lawR z = some R) (hR : RuleOks R) : lineR z = R := by
  unfold lawR at h
  split at h
  · rename_i p0 p1 hs
    split at h
    · cases h
    · rename_i hn
      rw [not_or] at hn
      obtain ⟨n1, n2⟩ := hn
      injection h with h
      have hz : z = p0 ++ Str.ofString " -> " ++ p1 := by
        have q := StrLaws.join_split z (Str.ofString " -> ")
        rw [hs] at q
        exact q.symm
      have j0 := StrLaws.join_split p0 (Str.ofString " ")
      have j1 := StrLaws.join_split p1 (Str.ofString ": ")
      generalize hw0 : Txt.split p0 (Str.ofString " ") = ws at h n2 j0
      generalize hts : Txt.split p1 (Str.ofString ": ") = ts at h n1 j1
      have ne : ws.tail.dropLast ≠ [] := fun e => by
        have q := congrArg List.length e
        rw [List.length_dropLast, List.length_tail, List.length_nil] at q
        omega
      obtain ⟨a, b, m, c, e1, e2, e3, e4⟩ := words_three ne
      subst h
      have st : isName a = true := by have q := hR.st; rwa [show (RuleD.st _) = ws.headD Str.empty from rfl, e2] at q
      have ev : isEvent (Str.join (Str.ofString " ") (b :: m)) = true := by have q := hR.ev; rwa [show (RuleD.ev _) = Str.join (Str.ofString " ") ws.tail.dropLast from rfl, e3] at q
      have gd : c ∈ guardsV := by have q := hR.gd; rwa [show (RuleD.gd _) = ws.getLastD Str.empty from rfl, e4] at q
      have th : isName (ts.headD Str.empty) = true := hR.th
      have hp0 : p0 = a ++ Str.ofString " " ++ Str.join (Str.ofString " ") (b :: m) ++ Str.ofString " " ++ c := by
        rw [← j0, e1, show a :: (b :: m ++ [c]) = a :: b :: (m ++ [c]) from rfl, join_two]
        have s := join_snoc c b m
        rw [show b :: (m ++ [c]) = b :: m ++ [c] from rfl, s]
        simp only [app_assoc]
      have h45 : 45 ∉ TL.tl p0 := by
        have g45 : 45 ∉ TL.tl c := fun hm => letters_no 45 (by simp) (lists_sig guardsV (by simp) _ gd 45 hm)
        rw [hp0]
        simp only [TL.tl_append, sp_tl, List.mem_append, not_or]
        exact ⟨⟨⟨⟨name_no st (by simp), by simp⟩, sig_no (event_sig ev) (by simp)⟩, by simp⟩, g45⟩
      have hp := part_arrow (b := p1) h45
      rw [← hz] at hp
      have hw : lineWords z = ws := by
        show Txt.split (Txt.partition z (Str.ofString " -> ")).1 _ = _
        rw [hp, hw0]
      have hl : lineTail z = Txt.partition p1 (Str.ofString ": ") := by
        show Txt.partition (Txt.partition z (Str.ofString " -> ")).2.2 _ = _
        rw [hp]
      unfold lineR
      rw [hw]
      match ts, hts, n1, j1, th with
      | [], _, _, _, th => exact absurd th (by decide +kernel)
      | [t0], _, _, j1, th =>
        have e0 : p1 = t0 := j1.symm
        have hn : 58 ∉ TL.tl p1 := by rw [e0]; exact name_no th (by simp)
        rw [hl, TL.partition_none colon_tl hn, e0]
        rfl
      | [t0, t1], _, _, j1, th =>
        have e0 : p1 = t0 ++ Str.ofString ": " ++ t1 := j1.symm
        have hn : 58 ∉ TL.tl t0 := name_no th (by simp)
        rw [hl, e0, TL.partition_app colon_tl hn]
        have nc : Str.ofString ": " ≠ Str.empty := by decide +kernel
        show RuleD.mk _ _ _ _ (if Str.ofString ": " = Str.empty then [] else _) = _
        rw [if_neg nc]
        rfl
      | _ :: _ :: _ :: _, _, n1, _, _ => exact absurd (by simp) n1
  · cases h
end L2.Wk
namespace L2.Wk
open PySem PySem.Spec PyProof.Rows
theorem join_bound {y : Str} (hy : 1 ≤ y.length) : ∀ ps : List Str, ps.length ≤ (Str.join y ps).length + 1 ∧ ∀ p ∈ ps, p.length ≤ (Str.join y ps).length
  | [] => ⟨Nat.zero_le _, fun _ h => by cases h⟩
  | [p] => ⟨by simp, fun q h => by rw [List.mem_singleton.mp h]; exact Nat.le_refl _⟩
  | p :: q :: r => by
    obtain ⟨i1, i2⟩ := join_bound hy (q :: r)
    have e : Str.join y (p :: q :: r) = p ++ y ++ Str.join y (q :: r) := rfl
    rw [e, app_len, app_len]
    refine ⟨by rw [List.length_cons]; omega, fun x hx => ?_⟩
    rcases List.mem_cons.mp hx with rfl | hx
    · omega
    · have := i2 x hx
      omega
theorem split_bound {x y : Str} (hy : 1 ≤ y.length) : (Txt.split x y).length ≤ x.length + 1 ∧ ∀ p ∈ Txt.split x y, p.length ≤ x.length := by
  have q := join_bound hy (Txt.split x y)
  rw [StrLaws.join_split] at q
  exact q
theorem part_bound (x y : Str) : (Txt.partition x y).1.length ≤ x.length ∧ (Txt.partition x y).2.2.length ≤ x.length := by
  have q := congrArg Str.length (StrLaws.partition_sum x y)
  rw [app_len, app_len] at q
  omega
theorem words_ends {ws : List Str} (h : ws ≠ []) : atI (ws.map V.str) 0 = some (.str (ws.headD Str.empty)) ∧ cutV (ws.map V.str) (some 1) (some (-1)) = (ws.tail.dropLast).map V.str ∧ atI (ws.map V.str) (-1) = some (.str (ws.getLastD Str.empty)) := by
  cases ws with
  | nil => exact absurd rfl h
  | cons a t =>
    rcases List.eq_nil_or_concat t with e | ⟨m, c, e⟩
    · subst e
      exact ⟨atI_nat (j := 0) rfl, rfl, rfl⟩
    · rw [List.concat_eq_append] at e
      subst e
      have e2 : (a :: (m ++ [c])).map V.str = V.str a :: (m.map V.str ++ [V.str c]) := by rw [List.map_cons, List.map_append]; rfl
      rw [e2]
      refine ⟨atI_nat (j := 0) rfl, ?_, ?_⟩
      · rw [cut_in, List.tail_cons, List.dropLast_concat]
      · rw [at_last]
        show _ = some (V.str (((a :: m) ++ [c]).getLastD Str.empty))
        rw [List.getLastD_concat]
theorem ev_len (ws : List Str) : (Str.join (Str.ofString " ") ws.tail.dropLast).length ≤ (Str.join (Str.ofString " ") ws).length := by
  by_cases h : ws.tail.dropLast = []
  · rw [h]
    show Str.empty.length ≤ _
    rw [show Str.empty.length = 0 by decide +kernel]
    exact Nat.zero_le _
  · obtain ⟨a, b, m, c, e1, _, e3, _⟩ := words_three h
    rw [e3, e1, show a :: (b :: m ++ [c]) = a :: b :: (m ++ [c]) from rfl, join_two]
    have s := join_snoc c b m
    rw [show b :: (m ++ [c]) = b :: m ++ [c] from rfl, s]
    simp only [app_len]
    omega
theorem sum_900 : ∀ {ys : List Str}, (∀ y ∈ ys, y.length ≤ 900) → (ys.map (·.length)).sum ≤ 900 * ys.length
  | [], _ => Nat.zero_le _
  | y :: ys, h => by
    have i := sum_900 (ys := ys) fun x hx => h x (List.mem_cons_of_mem _ hx)
    have h1 := h y (List.mem_cons_self ..)
    rw [List.map_cons, List.sum_cons, List.length_cons]
    omega
/-- any line: a rule, or None -/
def spReadAny (K : PySem.W.Frag) (r : Rs) : Sp := fun vs H Q _ => ∃ z : Str, vs = [.str z] ∧ z.length ≤ 900 ∧ (ruleErr (lineR z).st (lineR z).ev (lineR z).gd (lineR z).th (lineR z).ds = none → ∀ v H', RuleV K r H' v (lineR z) → Same H H' → Q v H') ∧
  ((∃ m, ruleErr (lineR z).st (lineR z).ev (lineR z).gd (lineR z).th (lineR z).ds = some m) → ∀ H', Same H H' → Q .non H')
section
variable {P : Program} {w : World} {K : PySem.W.Frag} {mg : Str → Option Value} {base : Heap} {a : Ws} {r : Rs} {q : RTs} {c : Cs} {n : Ns} {m : MTs} {rr : Addr} {f : Addr} {fd : FuncData}
theorem ok_read_any {f1 : FuncData} (F : Fun K "_read_rule" "_read_rule" s_read_rule f fd) (T : TxtRR K mg a r q c n m rr)
    (G_Rule : FnOk P w K mg base (L2.CX P w) 5 r.fRule f1 ["self", "state", "event", "guard", "then", "deeds"] (spRule K r)) (b_Rule : Binds K f1 ["self", "state", "event", "guard", "then", "deeds"] []) :
    FnOk P w K mg base CX0 7 f fd ["line"] (spReadAny K r) := by
  have M_Rule := T.M
  refine F.ok sc_read_rule (fun vs H Q E h => ?_) (fun cdv A outer s H vs Q E hr h => ?_)
  · obtain ⟨_, rfl, _⟩ := h
    rfl
  · obtain ⟨z, rfl, hz, k1, k2⟩ := h
    refine ⟨_, (pss_cons (ps_asg (pe_partition (pv 0) pe_str) (pg_tup rfl (pgs_cons (pg_name (i := 1) sc_read_rule.nd rfl (Or.inl rfl)) (pgs_cons (pg_name (i := 2) sc_read_rule.nd rfl (Or.inl rfl)) (pgs_cons (pg_name (i := 3) sc_read_rule.nd rfl (Or.inl rfl)) pgs_nil)))))
    (pss_cons (ps_set (i := 4) sc_read_rule.nd rfl (Or.inl rfl) (pe_split (pv 1) pe_str))
    (pss_cons (ps_asg (pe_partition (pv 3) pe_str) (pg_tup rfl (pgs_cons (pg_name (i := 5) sc_read_rule.nd rfl (Or.inl rfl)) (pgs_cons (pg_name (i := 6) sc_read_rule.nd rfl (Or.inl rfl)) (pgs_cons (pg_name (i := 7) sc_read_rule.nd rfl (Or.inl rfl)) pgs_nil)))))
    (pss_one (ps_try_only rfl rfl ⟨rfl, by decide, Or.inl T.low_InvalidMachine.gC⟩ takes0
      (fun W pn xe tk _ => (pss_one (ps_ret (pe_makeS M_Rule G_Rule (hr.mono (by decide)) rfl T.g_Rule b_Rule .nil (fun σ => passAt tk σ) (pa_cons (pe_ix (ix_listK (K := K) rfl) (pv 4) pe_int (fun _ _ => rfl)) (pa_cons (pe_joinK (K := K) rfl pe_str (pe_slice (sl_listK (K := K) rfl) (pv 4) (po_some pe_int) (po_some (pe_un un_neg pe_int)))) (pa_cons (pe_ix (ix_listK (K := K) rfl) (pv 4) (pe_un un_neg pe_int) (fun _ _ => rfl)) (pa_cons (pv 5) (pa_cons (pe_ifExp (pt_truthK (K := K) rfl (pv 6) (by intro _; rfl)) (pe_split (pv 7) pe_str) (pe_tup pa_nil)) pa_nil)))))))))
      (fun ae oe cls d pn hz hf => (pss_one (ps_ret pe_non)))))))), ?_⟩
    obtain ⟨pb1, pb2⟩ := part_bound z (Str.ofString " -> ")
    have c1 : (Str.ofString " ").length = 1 := by decide +kernel
    have c2 : (Str.ofString ", ").length = 2 := by decide +kernel
    obtain ⟨wb1, wb2⟩ := split_bound (x := (Txt.partition z (Str.ofString " -> ")).1) (y := Str.ofString " ") (by rw [c1]; exact Nat.le_refl _)
    obtain ⟨tb1, tb2⟩ := part_bound (Txt.partition z (Str.ofString " -> ")).2.2 (Str.ofString ": ")
    obtain ⟨db1, db2⟩ := split_bound (x := (lineTail z).2.2) (y := Str.ofString ", ") (by rw [c2]; decide)
    have wne : lineWords z ≠ [] := by
      obtain ⟨ps, h1, _, _, h4⟩ := parts_of (Txt.partition z (Str.ofString " -> ")).1
      show Txt.split _ _ ≠ []
      rw [h4]
      exact h1
    obtain ⟨we1, we2, we3⟩ := words_ends wne
    refine ⟨_, rfl, ⟨_, rfl⟩, _, _, rfl, rfl, rfl, big_ok (by omega), fun t1 ht1 => ?_⟩
    refine ⟨t1, _, rfl, .inl (.inl upd_same), rfl, _, _, rfl, _, _, rfl, _, _, rfl, rfl, ?_⟩
    have s1 := Same.upd_new (o := .tup [.str (Txt.partition z (Str.ofString " -> ")).1, .str (Txt.partition z (Str.ofString " -> ")).2.1, .str (Txt.partition z (Str.ofString " -> ")).2.2]) ht1
    refine ⟨_, rfl, ⟨_, rfl⟩, _, Str.ofString " ", rfl, rfl, by decide +kernel, big_ok (show (Txt.partition z (Str.ofString " -> ")).1.length + 2 ≤ 60000 by omega), fun pw hpw => ?_⟩
    have s2 := s1.trans (Same.upd_new (o := .lst ((Txt.split (Txt.partition z (Str.ofString " -> ")).1 (Str.ofString " ")).map V.str)) hpw)
    refine ⟨_, rfl, ⟨_, rfl⟩, _, _, rfl, rfl, rfl, big_ok (show (Txt.partition z (Str.ofString " -> ")).2.2.length ≤ 60000 by omega), fun t2 ht2 => ?_⟩
    refine ⟨t2, _, rfl, .inl (.inl upd_same), rfl, _, _, rfl, _, _, rfl, _, _, rfl, rfl, ?_⟩
    have s3 := Same.upd_new (o := .tup [.str (Txt.partition (Txt.partition z (Str.ofString " -> ")).2.2 (Str.ofString ": ")).1, .str (Txt.partition (Txt.partition z (Str.ofString " -> ")).2.2 (Str.ofString ": ")).2.1, .str (Txt.partition (Txt.partition z (Str.ofString " -> ")).2.2 (Str.ofString ": ")).2.2]) ht2
    generalize upd (upd (upd H t1 _) pw _) t2 _ = Hz at s3 ⊢
    have hW : Hz pw = some (.lst ((lineWords z).map V.str)) := s3 _ _ upd_same
    have s23 := s2.trans s3
    clear s2 s3 hpw ht1 ht2 s1
    have wl : ∀ p ∈ lineWords z, p.length ≤ 900 := fun p hp => Nat.le_trans (wb2 p hp) (by omega)
    have wn : (lineWords z).length ≤ 901 := Nat.le_trans wb1 (by omega)
    have dl : ∀ p ∈ (lineWords z).tail.dropLast, p.length ≤ 900 := fun p hp => wl p (List.mem_of_mem_tail (List.dropLast_subset _ hp))
    have dn : (lineWords z).tail.dropLast.length ≤ 901 := by rw [List.length_dropLast, List.length_tail]; omega
    have evl : (lineR z).ev.length ≤ 1000 := by
      have q := ev_len (lineWords z)
      have q2 := StrLaws.join_split (Txt.partition z (Str.ofString " -> ")).1 (Str.ofString " ")
      rw [show Str.join (Str.ofString " ") (lineWords z) = (Txt.partition z (Str.ofString " -> ")).1 from q2] at q
      show (Str.join _ _).length ≤ 1000
      omega
    have stl : (lineR z).st.length ≤ 1000 := by
      cases ew : lineWords z with
      | nil => exact absurd ew wne
      | cons w0 wt =>
        have e : (lineR z).st = w0 := by show (lineWords z).headD _ = _; rw [ew]; rfl
        rw [e]
        exact Nat.le_trans (wl w0 (by rw [ew]; exact List.mem_cons_self ..)) (by decide)
    have thl : (lineR z).th.length ≤ 1000 := by
      show (lineTail z).1.length ≤ 1000
      have : (lineTail z).1.length ≤ (Txt.partition z (Str.ofString " -> ")).2.2.length := tb1
      omega
    refine ⟨_, rfl, pw, _, _, _, rfl, rfl, .inl (.inl hW), we1, ⟨_, rfl⟩, _, rfl, _, rfl, 1, rfl, _, rfl, pw, _, rfl, .inl (.inl hW), fun pc hpc => ?_⟩
    rw [we2]
    have s4 := Same.upd_new (o := .lst (((lineWords z).tail.dropLast).map V.str)) hpc
    refine ⟨_, pc, (lineWords z).tail.dropLast, rfl, rfl, .inl (.inl (.inl upd_same)), (by have := sum_900 dl; rw [c1]; omega), ?_⟩
    rw [TL.join_eq]
    have hW4 := s4 _ _ hW
    have s24 := s23.trans s4
    generalize upd Hz pc _ = Hy at s24 hW4 ⊢
    have mid := part_mid (Txt.partition z (Str.ofString " -> ")).2.2 (Str.ofString ": ")
    refine ⟨_, rfl, 1, rfl, pw, _, _, _, rfl, rfl, .inl (.inl hW4), we3, _, rfl, _, rfl, _, ⟨?_, rfl⟩, ?_⟩
    · show (lineTail z).2.1.length ≤ _
      rcases mid with q | ⟨q, _⟩
      · rw [show (lineTail z).2.1 = _ from q]
        exact big_ok (by decide +kernel)
      · rw [show (lineTail z).2.1 = _ from q]
        exact big_ok (by decide +kernel)
    rcases mid with q | ⟨q, _⟩
    · have q' : (lineTail z).2.1 = Str.ofString ": " := q
      have ed : (lineR z).ds = Txt.split (lineTail z).2.2 (Str.ofString ", ") := if_neg (by rw [q']; decide +kernel)
      refine iteTh (show ((((lineTail z).2.1).length : Int) != 0) = true by rw [q']; decide +kernel) ⟨_, rfl, ⟨_, rfl⟩, _, Str.ofString ", ", rfl, rfl, by decide +kernel, ?_, fun tq htq => ?_⟩
      · show (lineTail z).2.2.length + 2 ≤ sizeLine
        exact big_ok (by have : (lineTail z).2.2.length ≤ (Txt.partition z (Str.ofString " -> ")).2.2.length := tb2; omega)
      · have b2 : (lineTail z).2.2.length ≤ (Txt.partition z (Str.ofString " -> ")).2.2.length := tb2
        refine fun y dy ny nd ne => ⟨y, dy, tq, (lineR z).st, (lineR z).ev, (lineR z).gd, (lineR z).th, (lineR z).ds, rfl, upd_same, Same.sq (made_same ny nd) (.inl (.inl (.inl (by rw [ed]; exact upd_same)))), stl, evl, thl, (by rw [ed]; omega), (fun x hx => by rw [ed] at hx; have := db2 x hx; omega), fun e H' t q1 q2 q3 => ⟨rfl, k1 e _ _ ⟨y, rfl, dy, t, q2, q1⟩ ((s24.trans (Same.upd_new htq)).trans (made_keep ny nd q3))⟩, fun m em d H' s' hd => ?_⟩
        refine ⟨true, T.low_InvalidMachine.te, ?_, fun q => Bool.noConfusion q⟩
        intros
        exact k2 ⟨m, em⟩ _ (((s24.trans (Same.upd_new htq)).trans (made_same ny nd)).trans s')
    · have q' : (lineTail z).2.1 = Str.empty := q
      have ed : (lineR z).ds = [] := if_pos q'
      refine iteFh (show ((((lineTail z).2.1).length : Int) != 0) = false by rw [q']; decide +kernel) ⟨(by show 0 ≤ sizeLine; decide), fun tq htq => ?_⟩
      · refine fun y dy ny nd ne => ⟨y, dy, tq, (lineR z).st, (lineR z).ev, (lineR z).gd, (lineR z).th, (lineR z).ds, rfl, upd_same, Same.sq (made_same ny nd) (.inr (.inl (.inl (by rw [ed]; exact upd_same)))), stl, evl, thl, (by rw [ed]; exact Nat.zero_le _), (fun x hx => by rw [ed] at hx; cases hx), fun e H' t q1 q2 q3 => ⟨rfl, k1 e _ _ ⟨y, rfl, dy, t, q2, q1⟩ ((s24.trans (Same.upd_new htq)).trans (made_keep ny nd q3))⟩, fun m em d H' s' hd => ?_⟩
        refine ⟨true, T.low_InvalidMachine.te, ?_, fun q => Bool.noConfusion q⟩
        intros
        exact k2 ⟨m, em⟩ _ (((s24.trans (Same.upd_new htq)).trans (made_same ny nd)).trans s')
end
end L2.Wk
namespace L2.Wk
open PySem PySem.Spec PyProof.Rows
abbrev s_law_machine_text : Stmt := top 63
abbrev N_law_machine_text : List Str := ["_law_machine_here", "_law_rule"]
theorem sc_law_machine_text : FnScope N_law_machine_text ["_law_machine_here"] (defScope s_law_machine_text) := ⟨rfl, rfl, rfl, by decide +kernel, rfl, by decide +kernel, by decide +kernel⟩
theorem call_tupSK {X : Cx} {K : PySem.W.Frag} (h : X.K = K) : CallR X (.type "tuple") (rTup K) := h ▸ call_tupS
structure TxtLM (K : PySem.W.Frag) (mg : Str → Option Value) (lr lm : Addr) : Prop extends TxtLR K mg lr where
  g__law_machine_text : mg "_law_machine_text" = some (.ref lm)
  k__law_machine_text : PySem.W.keepIn K (.ref lm) = true
def spLMT : Sp := fun vs H Q _ => ∃ (d l : Addr) (u : V) (M : MachD), vs = [u] ∧ MachAt d l H u M ∧ MachSmall M ∧ ∀ H', Same H H' → Q (.str (machTxt M)) H'
theorem BlkGood.le {B : Blk} {m s m' : Nat} (h : BlkGood B m s) (hm : m ≤ m') : BlkGood B m' s := ⟨h.cpos, Nat.le_trans h.clen hm, h.elen, h.cname, h.ename⟩
theorem mach_rd {B : Blk} {M : MachD} {m s n : Nat} (g : BlkGood B m s) (hm : m ≤ 10) (hs : s ≤ 10) (h : MachGood B M n) (hn : n ≤ 30) : MachRd M :=
  ⟨mach_small g hm hs h hn, (nm_len h.first).2, fun R hR => ⟨((h.rules R hR).fine g).small, ((h.rules R hR).fine g).err⟩⟩
theorem mach_strs {B : Blk} {M : MachD} {m s n : Nat} (g : BlkGood B m s) (h : MachGood B M n) : (∀ z ∈ statesL M, PyData.strOk z = true) ∧ (∀ z ∈ areasL M, PyData.strOk z = true) ∧ ∀ z ∈ fencesL M, PyData.strOk z = true := by
  refine ⟨fun z hz => ?_, fun x hx => ?_, fun x hx => ?_⟩
  · rcases List.mem_cons.mp hz with rfl | hz
    · exact nm_ok h.first
    · rcases List.mem_append.mp hz with hz | hz
      · obtain ⟨R, hR, rfl⟩ := List.mem_map.mp hz
        exact ((h.rules R hR).fine g).ok.1
      · obtain ⟨R, hR, rfl⟩ := List.mem_map.mp hz
        exact ((h.rules R hR).fine g).ok.2.2.2.1
  · unfold areasL behind at hx
    obtain ⟨z, hz, rfl⟩ := List.mem_map.mp hx
    obtain ⟨hz1, hz2⟩ := List.mem_filter.mp hz
    obtain ⟨ce, hce, e⟩ := (phr_cases (phr_drawn h.rules z hz1)).1 hz2
    rw [← e]
    exact nm_ok (g.cname ce hce).2.1
  · unfold fencesL behind at hx
    obtain ⟨z, hz, rfl⟩ := List.mem_map.mp hx
    obtain ⟨hz1, hz2⟩ := List.mem_filter.mp hz
    obtain ⟨ed, hed, e⟩ := (phr_cases (phr_drawn h.rules z hz1)).2 hz2
    exact nm_ok ((g.ename ed hed).2.1 _ e)
theorem prs_rules {K : PySem.W.Frag} {r : Rs} {H : Hp} {vs ws : List V} {Rs : List RuleD} (sm : ∀ R ∈ Rs, RuleSmall R) (h1 : AllAt (RuleV K r H) vs Rs) (h2 : AllAt (RuleV K r H) ws Rs) : PrsD (DOwn r.Rule (spEqR K r) E0) (fun _ => true) vs ws H := by
  intro i x y hx hy H' s'
  obtain ⟨R, hR, px, rfl, hpx⟩ := h1.get hx
  obtain ⟨R', hR', py, rfl, hpy⟩ := h2.get hy
  rw [hR] at hR'
  cases hR'
  have sR := sm R (List.mem_of_getElem? hR)
  replace hpx := RuleAt.same s' hpx
  replace hpy := RuleAt.same s' hpy
  obtain ⟨d1, t1, q1, _⟩ := id hpx
  obtain ⟨d2, t2, q2, _⟩ := id hpy
  exact ⟨px, py, d1, _, d2, _, rfl, rfl, q1, q2, fun _ => rfl, px, _, R, rfl, hpx, sR, .inl ⟨py, R, rfl, hpy, sR, fun H2 s2 => ⟨by rw [decide_eq_true rfl], s2⟩⟩⟩
def ruleDataL (R : RuleD) : PyData := .tuple [.str R.st, .str R.ev, .str R.gd, .str R.th, .list (R.ds.map PyData.str)]
theorem ruleL_shaped {R : RuleD} (f : RuleFine R) : SeqAt.shaped (ruleDataL R) = true := by
  obtain ⟨o1, o2, o3, o4, o5⟩ := f.ok
  obtain ⟨h1, h2⟩ := lay_strs o5
  unfold SeqAt.shaped ruleDataL
  simp [PyData.canLay0, PyData.canLayAll0, PyData.depth, PyData.depthAll, h1, h2, o1, o2, o3, o4]
theorem three_shaped {a b c : List Str} (ha : ∀ z ∈ a, PyData.strOk z = true) (hb : ∀ z ∈ b, PyData.strOk z = true) (hc : ∀ z ∈ c, PyData.strOk z = true) : SeqAt.shaped (.tuple [.tuple (a.map PyData.str), .tuple (b.map PyData.str), .tuple (c.map PyData.str)]) = true := by
  obtain ⟨a1, a2⟩ := lay_strs ha
  obtain ⟨b1, b2⟩ := lay_strs hb
  obtain ⟨c1, c2⟩ := lay_strs hc
  unfold SeqAt.shaped
  simp [PyData.canLay0, PyData.canLayAll0, PyData.depth, PyData.depthAll, a1, a2, b1, b2, c1, c2]
theorem zz_ok : MachRd ⟨Str.ofString "zz", []⟩ := ⟨⟨(by decide +kernel), (fun _ h => by cases h), Nat.zero_le _, ⟨[], (fun x hx => by cases hx), by decide⟩, ⟨[], (fun x hx => by cases hx), by decide⟩⟩, by decide +kernel, fun _ h => by cases h⟩
theorem x_small : MachSmall ⟨Str.ofString "x", []⟩ := ⟨(by decide +kernel), (fun _ h => by cases h), Nat.zero_le _, ⟨[], (fun x hx => by cases hx), by decide⟩, ⟨[], (fun x hx => by cases hx), by decide⟩⟩
theorem zz_txt : machTxt ⟨Str.ofString "zz", []⟩ = Str.ofString "first zz" := by decide +kernel
theorem x_txt : machTxt ⟨Str.ofString "x", []⟩ = Str.ofString "first x" := by decide +kernel
section
variable {P : Program} {w : World} {K : PySem.W.Frag} {mg : Str → Option Value} {base : Heap} {lr lm : Addr} {f : Addr} {fd : FuncData}
theorem ok_law_machine_text {f1 : FuncData} (F : Fun K "_law_machine_text" "_law_machine_text" s_law_machine_text f fd) (T : TxtLM K mg lr lm)
    (G__law_rule_text : FnOk P w K mg base CX0 1 lr f1 ["_law_rule"] (spLRT K)) (b__law_rule_text : Binds K f1 ["_law_rule"] []) :
    FnOk P w K mg base CX0 2 f fd ["_law_machine_here"] spLMT := by
  refine F.ok sc_law_machine_text (fun vs H Q E h => ?_) (fun cdv A outer s H vs Q E hr h => ?_)
  · obtain ⟨_, _, _, _, rfl, _⟩ := h
    rfl
  · obtain ⟨d, l, u, M, rfl, hM, sm, k⟩ := h
    refine ⟨_, (pss_one (ps_ret (pe_join pe_str (pe_op op_cat (pe_lst (pa_cons (pe_op op_add_str pe_str (pe_ix ix_tup (pv 0) pe_int (fun _ _ => rfl))) pa_nil)) (pe_lc (own := [("_law_rule", 1)]) (g := gName 1) (tt := tYes) rfl sc_law_machine_text.nd (pi_list (pe_ix ix_tup (pv 0) pe_int (fun _ _ => rfl))) (blkOk_by (N := N_law_machine_text) (sc := defScope s_law_machine_text) (by decide +kernel)) (fun _ _ _ _ _ => (pg_name (i := 1) sc_law_machine_text.nd rfl (Or.inl rfl))) (fun _ _ _ _ _ => pts_nil) (fun _ _ _ _ _ => (pe_call G__law_rule_text (hr.mono (by decide)) rfl T.g__law_rule_text T.k__law_rule_text b__law_rule_text .nil pass0 (pa_cons (pv 1) pa_nil)))))))), ?_⟩
    obtain ⟨pm, pl, vs, rfl, hpm, hpl, pld, pll, hA⟩ := hM
    have c1 : (Str.ofString "first ").length = 6 := by decide +kernel
    have fl := sm.first
    have rl := sm.len
    have hvl := hA.len
    refine ⟨⟨_, rfl⟩, _, rfl, pm, _, _, _, rfl, rfl, .inl (.inl hpm), atI_nat (j := 0) rfl, _, _, rfl, rfl, ?_, (by show 1 ≤ sizeLine; decide), fun p1 hp1 => ?_⟩
    · rw [c1]
      exact len1000 (by omega)
    have s1 := Same.upd_new (o := .lst [V.str (Str.ofString "first " ++ M.first)]) hp1
    refine ⟨_, rfl, pm, _, _, _, rfl, rfl, .inl (.inl (s1 _ _ hpm)), atI_nat (j := 1) rfl, pl, rfl, ⟨_, .inl (.inl (s1 _ _ hpl))⟩, fun D hD => ?_⟩
    have hp1' : (upd H p1 (.lst [V.str (Str.ofString "first " ++ M.first)])) p1 = some (.lst [V.str (Str.ofString "first " ++ M.first)]) := upd_same
    generalize upd H p1 _ = H1 at s1 hD hp1' ⊢
    refine lc_list (K := K) (a := pl) (xs := vs) (fun i H' => Same H1 H' ∧ H' D = some (.lst (((M.rules.take i).map ruleTxt).map V.str))) ⟨Same.upd_new hD, upd_same⟩ (fun i H' _ h => .inl (.inl (h.1 _ _ (s1 _ _ hpl)))) ?_ ?_
    · rintro j y H' hy ⟨t1, d1⟩
      obtain ⟨R, hRj, hrow⟩ := hA.get hy
      have hj : j < M.rules.length := (List.getElem?_eq_some_iff.mp hRj).1
      obtain ⟨p, pq, rfl, hp, hq, _, _⟩ := RuleRowAt.same (s1.trans t1) _ _ hrow
      refine ⟨rfl, _, rfl, p, pq, R, rfl, hp, hq, sm.rules R (List.mem_of_getElem? hRj), fun H2 s2 => ⟨_, s2 _ _ d1, ?_, fun b o e => ?_, ?_⟩⟩
      · rw [List.length_map, List.length_map, List.length_take]
        exact small1000 (by omega)
      · rw [upd_ne (ne_of_none e hD)]
        exact s2 _ _ (t1 b o e)
      · rw [take_succ_map _ hRj, List.map_append]
        exact upd_same
    · rintro H2 ⟨t1, d1⟩
      rw [hvl, List.take_length] at d1
      have e1 : [V.str (Str.ofString "first " ++ M.first)] ++ (M.rules.map ruleTxt).map V.str = (headTxt M :: M.rules.map ruleTxt).map V.str := rfl
      refine ⟨p1, D, _, _, rfl, rfl, t1 _ _ hp1', d1, ?_, fun p3 hp3 => ?_⟩
      · rw [List.length_map, List.length_map]
        exact len1000 (by show 1 + _ ≤ 1000; omega)
      · refine ⟨_, p3, headTxt M :: M.rules.map ruleTxt, rfl, rfl, .inl (.inl (.inl (Eq.trans upd_same (by rw [← e1])))), mach_sum sm, k _ ((s1.trans t1).trans (Same.upd_new hp3))⟩
end
end L2.Wk
namespace L2.Wk
open PySem PySem.Spec PyProof.Rows
abbrev s_law_is_name : Stmt := top 32
abbrev N_law_is_name : List Str := ["_law_value", "_law_barred", "_law_sign"]
theorem sc_law_is_name : FnScope N_law_is_name ["_law_value"] (defScope s_law_is_name) := ⟨rfl, rfl, rfl, by decide +kernel, rfl, by decide +kernel, by decide +kernel⟩
abbrev s_law_is_told : Stmt := top 33
abbrev N_law_is_told : List Str := ["_law_value", "_law_plain", "_law_others", "_law_words"]
theorem sc_law_is_told : FnScope N_law_is_told ["_law_value", "_law_plain", "_law_others"] (defScope s_law_is_told) := ⟨rfl, rfl, rfl, by decide +kernel, rfl, by decide +kernel, by decide +kernel⟩
abbrev s_law_is_event : Stmt := top 34
abbrev N_law_is_event : List Str := ["_law_value"]
theorem sc_law_is_event : FnScope N_law_is_event ["_law_value"] (defScope s_law_is_event) := ⟨rfl, rfl, rfl, by decide +kernel, rfl, by decide +kernel, by decide +kernel⟩
abbrev s_law_is_deed : Stmt := top 35
abbrev N_law_is_deed : List Str := ["_law_value", "_law_some"]
theorem sc_law_is_deed : FnScope N_law_is_deed ["_law_value"] (defScope s_law_is_deed) := ⟨rfl, rfl, rfl, by decide +kernel, rfl, by decide +kernel, by decide +kernel⟩
abbrev s_law_wrong : Stmt := top 36
abbrev N_law_wrong : List Str := ["_law_rule", "_law_deed_here"]
theorem sc_law_wrong : FnScope N_law_wrong ["_law_rule"] (defScope s_law_wrong) := ⟨rfl, rfl, rfl, by decide +kernel, rfl, by decide +kernel, by decide +kernel⟩
structure Ts where
  is_name : Addr
  is_told : Addr
  is_event : Addr
  is_deed : Addr
  wrong : Addr
structure TxtT (K : PySem.W.Frag) (mg : Str → Option Value) (x : Ws) (r : Rs) (t : Ts) : Prop extends TR K mg x r where
  g__law_is_name : mg "_law_is_name" = some (.ref t.is_name)
  k__law_is_name : PySem.W.keepIn K (.ref t.is_name) = true
  g__law_is_told : mg "_law_is_told" = some (.ref t.is_told)
  k__law_is_told : PySem.W.keepIn K (.ref t.is_told) = true
  g__law_is_event : mg "_law_is_event" = some (.ref t.is_event)
  k__law_is_event : PySem.W.keepIn K (.ref t.is_event) = true
  g__law_is_deed : mg "_law_is_deed" = some (.ref t.is_deed)
  k__law_is_deed : PySem.W.keepIn K (.ref t.is_deed) = true
  g__law_wrong : mg "_law_wrong" = some (.ref t.wrong)
  k__law_wrong : PySem.W.keepIn K (.ref t.wrong) = true
def toldV : Option Str → V
  | none => .non
  | some m => .str m
def oddS (z : Str) (n : Nat) : List Str := ((z.cps.toList.take n).filter fun c => !decide (c ∈ lettersS.cps.toList)).map fun c => ⟨#[c]⟩
theorem odd_ok1 {z : Str} (h : PyData.strOk z = true) (n : Nat) : ∀ s ∈ oddS z n, PyData.strOk s = true := fun s hs => by
  obtain ⟨c, hc, rfl⟩ := List.mem_map.mp hs
  have hz : c ∈ z.cps.toList := List.mem_of_mem_take (List.mem_filter.mp hc).1
  unfold PyData.strOk at *
  have := Array.all_eq_true_iff_forall_mem.mp h c (by simpa using hz)
  simpa using this
theorem odd_nil (l : List Nat) (L : List Nat) : ((l.filter fun c => !decide (c ∈ L)).map fun c => (⟨#[c]⟩ : Str)).isEmpty = (l.map fun c => decide (c ∈ L)).all id := by
  induction l with
  | nil => rfl
  | cons c l ih =>
    by_cases h : c ∈ L
    · rw [List.filter_cons_of_neg (by simp [h]), List.map_cons, List.all_cons, ← ih]
      simp [h]
    · rw [List.filter_cons_of_pos (by simp [h]), List.map_cons, List.map_cons, List.all_cons]
      simp [h]
theorem odd_succ {z : Str} {i c : Nat} (h : z.cps[i]? = some c) : oddS z (i + 1) = if (!decide (c ∈ lettersS.cps.toList)) = true then oddS z i ++ [⟨#[c]⟩] else oddS z i := by
  unfold oddS
  rw [List.take_add_one, arr_list h, Option.toList_some, List.filter_append, List.map_append]
  cases hb : (!decide (c ∈ lettersS.cps.toList)) with
  | true =>
    rw [if_pos rfl, show List.filter (fun c => !decide (c ∈ lettersS.cps.toList)) [c] = [c] by rw [List.filter_cons, if_pos hb]; rfl]
    rfl
  | false =>
    rw [if_neg Bool.false_ne_true, show List.filter (fun c => !decide (c ∈ lettersS.cps.toList)) [c] = [] by rw [List.filter_cons, if_neg (by rw [hb]; exact Bool.false_ne_true)]; rfl, List.map_nil, List.append_nil]
theorem odd_len (z : Str) (i : Nat) : (oddS z i).length ≤ z.length := by
  unfold oddS
  rw [List.length_map]
  refine Nat.le_trans (List.length_filter_le _ _) ?_
  rw [List.length_take]
  exact Nat.le_trans (Nat.min_le_right _ _) (by show z.cps.toList.length ≤ z.cps.size; simp)
/-- a text that can be laid -/
def spTxtO (f : Str → Bool) : Sp := fun vs H Q _ => ∃ z : Str, vs = [.str z] ∧ z.length ≤ 1000 ∧ PyData.strOk z = true ∧ ∀ H', Same H H' → Q (.bl (f z)) H'
def spPhO (K : PySem.W.Frag) : Sp := fun vs H Q _ => ∃ (z : Str) (a b : Addr) (as bs : List Str), vs = [.str z, .ref a, .ref b] ∧ z.length ≤ 1000 ∧ PyData.strOk z = true ∧ SqT K H a (as.map V.str) ∧ SqT K H b (bs.map V.str) ∧ (∀ y ∈ as, 32 ∉ TL.tl y) ∧ ∀ H', Same H H' → Q (.bl (isPhrase z as bs)) H'
/-- [state, event, guard, then, deeds] -/
def spRow5 : Sp := fun vs H Q _ => ∃ (p q : Addr) (R : RuleD), vs = [.ref p] ∧ H p = some (.lst [.str R.st, .str R.ev, .str R.gd, .str R.th, .ref q]) ∧ H q = some (.lst (R.ds.map V.str)) ∧
  (R.st.length ≤ 1000 ∧ R.ev.length ≤ 1000 ∧ R.th.length ≤ 1000 ∧ R.ds.length ≤ 1000 ∧ ∀ z ∈ R.ds, z.length ≤ 1000) ∧ (PyData.strOk R.st = true ∧ PyData.strOk R.ev = true ∧ PyData.strOk R.th = true ∧ ∀ z ∈ R.ds, PyData.strOk z = true) ∧
  ∀ H', Same H H' → Q (toldV (ruleErr R.st R.ev R.gd R.th R.ds)) H'
theorem deeds_bad {ev : Str} {ds : List Str} (h : ds.filter (fun z => !isDeed z) ≠ []) : (ds.map (mayDo ev)).all id = false := by
  cases e : ds.filter (fun z => !isDeed z) with
  | nil => exact absurd e h
  | cons z zs =>
    have hz : z ∈ ds.filter (fun z => !isDeed z) := by rw [e]; exact List.mem_cons_self ..
    obtain ⟨h1, h2⟩ := List.mem_filter.mp hz
    refine List.all_eq_false.mpr ⟨mayDo ev z, List.mem_map.mpr ⟨z, h1, rfl⟩, ?_⟩
    have hn : isDeed z = false := by simpa using h2
    show ¬ id (mayDo ev z) = true
    unfold mayDo
    rw [hn]
    simp
theorem deeds_fine {ev : Str} {ds : List Str} (h : ds.filter (fun z => !isDeed z) = []) : (ds.map (mayDo ev)).all id = !(!decide (V.str ev = V.str "ask") && inV (.str "note") (ds.map V.str)) := by
  have hz : ∀ z ∈ ds, isDeed z = true := fun z hz => by
    cases e : isDeed z with
    | true => rfl
    | false =>
      have : z ∈ ds.filter (fun z => !isDeed z) := List.mem_filter.mpr ⟨hz, by rw [e]; rfl⟩
      rw [h] at this
      cases this
  clear h
  rw [inV_strs]
  induction ds with
  | nil => simp
  | cons z zs ih =>
    rw [List.map_cons, List.all_cons, ih fun y hy => hz y (List.mem_cons_of_mem _ hy)]
    show (mayDo ev z && _) = _
    unfold mayDo
    rw [hz z (List.mem_cons_self ..), Bool.true_and]
    cases e1 : decide (V.str ev = V.str "ask") with
    | true => simp
    | false =>
      by_cases e2 : z = "note"
      · subst e2
        simp
      · have e3 : ¬ ("note" : Str) = z := fun e => e2 e.symm
        simp [e2, e3]
section
variable {P : Program} {w : World} {K : PySem.W.Frag} {mg : Str → Option Value} {base : Heap} {x : Ws} {r : Rs} {t : Ts} {f : Addr} {fd : FuncData}
theorem ok_lname (F : Fun K "_law_is_name" "_law_is_name" s_law_is_name f fd) (T : TxtT K mg x r t) : FnOk P w K mg base CX0 1 f fd ["_law_value"] (spTxtO isName) := by
  refine F.ok sc_law_is_name (fun vs H Q E h => ?_) (fun cdv A outer s H vs Q E hr h => ?_)
  · obtain ⟨_, rfl, _⟩ := h
    rfl
  · obtain ⟨z, rfl, hz, hzo, k⟩ := h
    refine ⟨_, (pss_cons (ps_set (i := 1) sc_law_is_name.nd rfl (Or.inl rfl) (pe_tup (pa_cons pe_str (pa_cons pe_str (pa_cons pe_str (pa_cons pe_str (pa_cons pe_str (pa_cons pe_str (pa_cons pe_str (pa_cons pe_str (pa_cons pe_str (pa_cons pe_str pa_nil))))))))))))
    (pss_cons (ps_if (pt_not (pt_val (pe_callB call_isi (by rfl) T.b_isinstance (by decide +kernel) (pa_cons (pv 0) (pa_cons (pe_tyB (T := "str") (by rfl) T.b_str (by decide +kernel)) pa_nil))))) (pss_one (ps_ret pe_bl)) pss_nil)
    (pss_cons (ps_if (pt_not (pt_chain op_lt op_lt pe_int (pe_callB call_len (by rfl) T.b_len PySem.boot_len (pa_cons (pv 0) pa_nil)) pe_int)) (pss_one (ps_ret pe_bl)) pss_nil)
    (pss_cons (ps_if (pt_cmpR op_in_seq (pv 0) (pv 1) (by rfl)) (pss_one (ps_ret pe_bl)) pss_nil)
    (pss_one (ps_ret (pe_cmpR (op_eqD hr.units) (pe_lc (own := [("_law_sign", 2)]) (g := gName 2) rfl sc_law_is_name.nd (pi_str (pv 0)) (blkOk_by (N := N_law_is_name) (sc := defScope s_law_is_name) (by decide +kernel)) (fun _ _ _ _ _ => (pg_name (i := 2) sc_law_is_name.nd rfl (Or.inl rfl))) (fun _ _ _ _ _ => (pts_one (pt_cmpR op_notIn_sign (pv 2) pe_str (by rfl)))) (fun _ _ _ _ _ => (pv 2))) (pe_lst pa_nil) (nomark _)))))))), ?_⟩
    refine ⟨(by show 10 ≤ sizeLine; decide), fun tb htb => ?_⟩
    have s1 := Same.upd_new (o := .tup (resV.map V.str)) htb
    refine ⟨_, rfl, _, _, _, _, true, rfl, .ty "str", .base (.str z), kit_ty (by decide +kernel), true, rfl, ?_⟩
    refine iteF ?_
    have kz : ∀ H', Same H H' → Q (.bl (isName z)) H' := k
    clear k
    refine ⟨_, rfl, _, _, rfl, ⟨len1000 hz, rfl⟩, _, _, rfl, rfl, _, rfl, ?_⟩
    by_cases h1 : (0 : Int) < z.length
    · rw [decide_eq_true h1]
      refine iteT ?_
      refine ⟨_, _, rfl, rfl, _, rfl, ?_⟩
      by_cases h2 : (z.length : Int) < 5
      · rw [decide_eq_true h2]
        refine iteF ?_
        refine ⟨_, rfl, _, rfl, _, _, rfl, .inr (.inl (.inl (show _ = some (HO.tup (resV.map V.str)) from upd_same))), rfl, flat_txts _, _, rfl, ?_⟩
        show if inV (V.str z) (resV.map V.str) = true then _ else _
        cases e1 : inV (V.str z) (resV.map V.str) with
        | true =>
          refine iteT ?_
          have : isName z = false := by unfold isName; rw [e1]; rfl
          rw [← this]
          exact kz _ s1
        | false =>
          refine iteF ?_
          refine ⟨_, rfl, z, rfl, fun D hD => ?_⟩
          refine lc_str (fun i H' => Same (upd H tb (.tup (resV.map V.str))) H' ∧ H' D = some (.lst ((oddS z i).map V.str))) ⟨Same.upd_new hD, upd_same⟩ ?_ ?_
          · rintro i c H' hc ⟨t1, d1⟩
            refine ⟨rfl, _, rfl, c, _, rfl, rfl, _, rfl, ?_⟩
            show if (!decide (c ∈ lettersS.cps.toList)) = true then _ else _
            cases ec : (!decide (c ∈ lettersS.cps.toList)) with
            | true =>
              refine iteT ⟨_, rfl, _, d1, ?_, ?_, ?_⟩
              · rw [List.length_map]
                exact Nat.lt_of_le_of_lt (odd_len z i) (small1000 hz)
              · intro b o e
                have := t1 b o e
                rw [upd_ne (ne_of_none e hD)]
                exact this
              · rw [odd_succ hc, ec, if_pos rfl, List.map_append]
                exact upd_same
            | false =>
              refine iteF ⟨t1, ?_⟩
              rw [odd_succ hc, ec, if_neg Bool.false_ne_true]
              exact d1
          · rintro H' ⟨t1, d1⟩
            refine ⟨(by show 0 ≤ sizeLine; decide), fun tz htz => ?_⟩
            have t2 := Same.upd_new (o := .lst []) htz
            refine ⟨_, _, .lst (.inl (.inl (t2 _ _ d1))) (dp_strs _), .lst (.inl (.inl upd_same)) .nil, shaped_strs (odd_ok1 hzo _), (by decide +kernel), ?_⟩
            have e5 : PyData.eqv (.list ((oddS z z.cps.size).map PyData.str)) (.list []) = isName z := by
              have e6 : oddS z z.cps.size = (z.cps.toList.filter fun c => !decide (c ∈ lettersS.cps.toList)).map fun c => ⟨#[c]⟩ := by
                unfold oddS
                rw [List.take_of_length_le (by simp)]
              unfold isName
              rw [e1, show decide ((1 : Int) ≤ z.length) = true from decide_eq_true (by omega), show decide ((z.length : Int) ≤ 4) = true from decide_eq_true (by omega), ← odd_nil, ← e6]
              cases oddS z z.cps.size with
              | nil => simp [PyData.eqv, PyData.eqvAll]
              | cons _ _ => simp [PyData.eqv, PyData.eqvAll]
            rw [e5]
            exact kz _ ((s1.trans t1).trans t2)
      · rw [decide_eq_false h2]
        refine iteT ?_
        have : isName z = false := by
          unfold isName
          rw [show decide ((z.length : Int) ≤ 4) = false from decide_eq_false (by omega)]
          simp
        rw [← this]
        exact kz _ s1
    · rw [decide_eq_false h1]
      refine iteF ⟨_, rfl, iteT ?_⟩
      have : isName z = false := by
        unfold isName
        rw [show decide ((1 : Int) ≤ z.length) = false from decide_eq_false (by omega)]
        simp
      rw [← this]
      exact kz _ s1
theorem ok_ltold {f1 : FuncData} (F : Fun K "_law_is_told" "_law_is_told" s_law_is_told f fd) (T : TxtT K mg x r t) (G__law_is_name : FnOk P w K mg base CX0 1 t.is_name f1 ["_law_value"] (spTxtO isName)) (b__law_is_name : Binds K f1 ["_law_value"] []) :
    FnOk P w K mg base CX0 2 f fd ["_law_value", "_law_plain", "_law_others"] (spPhO K) := by
  refine F.ok sc_law_is_told (fun vs H Q E h => ?_) (fun cdv A outer s H vs Q E hr h => ?_)
  · obtain ⟨_, _, _, _, _, rfl, _⟩ := h
    rfl
  · obtain ⟨z, a, b, as, bs, rfl, hz, hzo, ha, hb, nb, k⟩ := h
    refine ⟨_, (pss_cons (ps_if (pt_not (pt_val (pe_callB call_isi (by rfl) T.b_isinstance (by decide +kernel) (pa_cons (pv 0) (pa_cons (pe_tyB (T := "str") (by rfl) T.b_str (by decide +kernel)) pa_nil))))) (pss_one (ps_ret pe_bl)) pss_nil)
    (pss_cons (ps_set (i := 3) sc_law_is_told.nd rfl (Or.inl rfl) (pe_split (pv 0) pe_str))
    (pss_one (ps_ret (pe_or (pe_cmpR op_in_seq (pv 0) (pv 1) (by rfl)) (pe_one (pe_and (pe_cmpR op_eq (pe_callB call_len (by rfl) T.b_len PySem.boot_len (pa_cons (pv 3) pa_nil)) pe_int (nomark _)) (pe_and (pe_cmpR op_in_seq (pe_ix ix_list (pv 3) pe_int (fun _ _ => rfl)) (pv 2) (by rfl)) (pe_one (pe_call G__law_is_name (hr.mono (by decide)) rfl T.g__law_is_name T.k__law_is_name b__law_is_name .nil pass0 (pa_cons (pe_ix ix_list (pv 3) pe_int (fun _ _ => rfl)) pa_nil))))))))))), ?_⟩
    refine ⟨_, rfl, _, _, _, _, true, rfl, .ty "str", .base (.str z), kit_ty (by decide +kernel), true, rfl, ?_⟩
    refine iteF ?_
    obtain ⟨ps, p1, p2, p3, p5, p4⟩ := phrase_words z as bs nb
    have kz : ∀ H', Same H H' → Q (.bl (isPhrase z as bs)) H' := k
    clear k
    rw [p4] at kz
    refine ⟨_, rfl, ⟨_, rfl⟩, z, Str.ofString " ", rfl, rfl, by decide +kernel, (by rw [sizeLine_eq]; omega), fun pw hpw => ?_⟩
    rw [p1]
    have s1 := Same.upd_new (o := .lst (ps.map V.str)) hpw
    refine ⟨_, rfl, _, rfl, _, _, rfl, .inr (Same.sqT s1 ha), rfl, flat_txts _, _, rfl, ?_⟩
    show if inV (V.str z) (as.map V.str) = true then _ else _
    cases e1 : inV (V.str z) (as.map V.str) with
    | true =>
      rw [e1, Bool.true_or] at kz
      exact iteT (kz _ s1)
    | false =>
    rw [e1, Bool.false_or] at kz
    refine iteF ?_
    refine ⟨_, rfl, _, ps.length, rfl, .inl ⟨_, .inl (.inl upd_same), by rw [List.length_map]⟩, rfl, _, rfl, ?_⟩
    have no2 : ps.length ≠ 2 → decide (V.int (ps.length : Nat) = V.int 2) = false := fun h => decide_eq_false fun e => h (by injection e with e; omega)
    match ps, no2, kz, p3, p5 hzo with
    | [], no2, kz, _, _ => exact iteFh (no2 (by simp)) (kz _ s1)
    | [p], no2, kz, _, _ => exact iteFh (no2 (by simp)) (kz _ s1)
    | p :: q :: o :: rest, no2, kz, _, _ => exact iteFh (no2 (by simp)) (kz _ s1)
    | [p, q], no2, kz, p3, p5 =>
      refine iteTh (decide_eq_true rfl) ?_
      refine ⟨_, rfl, pw, _, 0, _, rfl, rfl, .inl (.inl upd_same), atI_nat (j := 0) rfl, _, rfl, _, _, rfl, .inr (Same.sqT s1 hb), rfl, flat_txts _, _, rfl, ?_⟩
      show if inV (V.str p) (bs.map V.str) = true then _ else _
      have kz : ∀ H', Same H H' → Q (.bl (inV (V.str p) (bs.map V.str) && isName q)) H' := kz
      cases e2 : inV (V.str p) (bs.map V.str) with
      | false =>
        rw [e2, Bool.false_and] at kz
        exact iteF (kz _ s1)
      | true =>
        rw [e2, Bool.true_and] at kz
        refine iteT ⟨_, rfl, pw, _, 1, _, rfl, rfl, .inl (.inl upd_same), atI_nat (j := 1) rfl, ?_⟩
        exact ⟨q, rfl, Nat.le_trans (p3 q (by simp)) hz, p5 q (by simp), fun H2 s2 => kz _ (s1.trans s2)⟩
theorem ok_levent {f1 : FuncData} (F : Fun K "_law_is_event" "_law_is_event" s_law_is_event f fd) (T : TxtT K mg x r t) (G__law_is_told : FnOk P w K mg base CX0 2 t.is_told f1 ["_law_value", "_law_plain", "_law_others"] (spPhO K)) (b__law_is_told : Binds K f1 ["_law_value", "_law_plain", "_law_others"] []) :
    FnOk P w K mg base CX0 3 f fd ["_law_value"] (spTxtO isEvent) := by
  refine F.ok sc_law_is_event (fun vs H Q E h => ?_) (fun cdv A outer s H vs Q E hr h => ?_)
  · obtain ⟨_, rfl, _⟩ := h
    rfl
  · obtain ⟨z, rfl, hz, hzo, k⟩ := h
    refine ⟨_, (pss_one (ps_ret (pe_call G__law_is_told (hr.mono (by decide)) rfl T.g__law_is_told T.k__law_is_told b__law_is_told .nil pass0 (pa_cons (pv 0) (pa_cons (pe_tup (pa_cons pe_str (pa_cons pe_str (pa_cons pe_str pa_nil)))) (pa_cons (pe_tup (pa_cons pe_str (pa_cons pe_str pa_nil))) pa_nil)))))), ?_⟩
    refine ⟨_, rfl, (by show 3 ≤ sizeLine; decide), fun t1 ht1 => ⟨(by show 2 ≤ sizeLine; decide), fun t2 ht2 => ?_⟩⟩
    have s1 := Same.upd_new (o := .tup (plainE.map V.str)) ht1
    have s2 := Same.upd_new (o := .tup (areaE.map V.str)) ht2
    exact ⟨z, t1, t2, plainE, areaE, rfl, hz, hzo, .inl (.inl (s2 _ _ upd_same)), .inl (.inl upd_same), by decide +kernel, fun H' s => k H' ((s1.trans s2).trans s)⟩
theorem ok_ldeed {f1 : FuncData} (F : Fun K "_law_is_deed" "_law_is_deed" s_law_is_deed f fd) (T : TxtT K mg x r t) (G__law_is_told : FnOk P w K mg base CX0 2 t.is_told f1 ["_law_value", "_law_plain", "_law_others"] (spPhO K)) (b__law_is_told : Binds K f1 ["_law_value", "_law_plain", "_law_others"] []) :
    FnOk P w K mg base CX0 3 f fd ["_law_value"] (spTxtO isDeed) := by
  refine F.ok sc_law_is_deed (fun vs H Q E h => ?_) (fun cdv A outer s H vs Q E hr h => ?_)
  · obtain ⟨_, rfl, _⟩ := h
    rfl
  · obtain ⟨z, rfl, hz, hzo, k⟩ := h
    refine ⟨_, (pss_cons (ps_set (i := 1) sc_law_is_deed.nd rfl (Or.inl rfl) (pe_tup (pa_cons pe_str (pa_cons pe_str (pa_cons pe_str (pa_cons pe_str (pa_cons pe_str (pa_cons pe_str (pa_cons pe_str pa_nil)))))))))
    (pss_one (ps_ret (pe_call G__law_is_told (hr.mono (by decide)) rfl T.g__law_is_told T.k__law_is_told b__law_is_told .nil pass0 (pa_cons (pv 0) (pa_cons (pe_tup (pa_cons pe_str (pa_cons pe_str (pa_cons pe_str (pa_cons pe_str (pa_cons pe_str pa_nil)))))) (pa_cons (pv 1) pa_nil))))))), ?_⟩
    refine ⟨(by show 7 ≤ sizeLine; decide), fun t1 ht1 => ⟨_, rfl, (by show 5 ≤ sizeLine; decide), fun t2 ht2 => ⟨_, rfl, ?_⟩⟩⟩
    have s1 := Same.upd_new (o := .tup ((fenceD ++ areaD).map V.str)) ht1
    have s2 := Same.upd_new (o := .tup (plainD.map V.str)) ht2
    exact ⟨z, t2, t1, plainD, fenceD ++ areaD, rfl, hz, hzo, .inl (.inl upd_same), .inl (.inl (s2 _ _ upd_same)), by decide +kernel, fun H' s => k H' ((s1.trans s2).trans s)⟩
theorem ok_wrong {f1 f2 f3 : FuncData} (F : Fun K "_law_wrong" "_law_wrong" s_law_wrong f fd) (T : TxtT K mg x r t)
    (G__law_is_name : FnOk P w K mg base CX0 1 t.is_name f1 ["_law_value"] (spTxtO isName)) (b__law_is_name : Binds K f1 ["_law_value"] [])
    (G__law_is_event : FnOk P w K mg base CX0 3 t.is_event f2 ["_law_value"] (spTxtO isEvent)) (b__law_is_event : Binds K f2 ["_law_value"] [])
    (G__law_is_deed : FnOk P w K mg base CX0 3 t.is_deed f3 ["_law_value"] (spTxtO isDeed)) (b__law_is_deed : Binds K f3 ["_law_value"] []) :
    FnOk P w K mg base CX0 4 f fd ["_law_rule"] spRow5 := by
  refine F.ok sc_law_wrong (fun vs H Q E h => ?_) (fun cdv A outer s H vs Q E hr h => ?_)
  · obtain ⟨_, _, _, rfl, _⟩ := h
    rfl
  · obtain ⟨p, q, R, rfl, hp, hq, ⟨l1, l2, l3, l4, l5⟩, ⟨o1, o2, o3, o4⟩, k⟩ := h
    refine ⟨_, (pss_cons (ps_if (pt_not (pt_val (pe_call G__law_is_name (hr.mono (by decide)) rfl T.g__law_is_name T.k__law_is_name b__law_is_name .nil pass0 (pa_cons (pe_ix ix_list (pv 0) pe_int (fun _ _ => rfl)) pa_nil)))) (pss_one (ps_ret pe_str)) pss_nil)
    (pss_cons (ps_if (pt_not (pt_val (pe_call G__law_is_event (hr.mono (by decide)) rfl T.g__law_is_event T.k__law_is_event b__law_is_event .nil pass0 (pa_cons (pe_ix ix_list (pv 0) pe_int (fun _ _ => rfl)) pa_nil)))) (pss_one (ps_ret pe_str)) pss_nil)
    (pss_cons (ps_if (PW.pt (pw_or (pt_not (pt_val (pe_callB call_isi (by rfl) T.b_isinstance (by decide +kernel) (pa_cons (pe_ix ix_list (pv 0) pe_int (fun _ _ => rfl)) (pa_cons (pe_tyB (T := "str") (by rfl) T.b_str (by decide +kernel)) pa_nil))))) (pw_or1 (pt_cmpR op_notIn_seq (pe_ix ix_list (pv 0) pe_int (fun _ _ => rfl)) (pe_tup (pa_cons pe_str (pa_cons pe_str (pa_cons pe_str pa_nil)))) (by rfl))))) (pss_one (ps_ret pe_str)) pss_nil)
    (pss_cons (ps_if (pt_not (pt_val (pe_call G__law_is_name (hr.mono (by decide)) rfl T.g__law_is_name T.k__law_is_name b__law_is_name .nil pass0 (pa_cons (pe_ix ix_list (pv 0) pe_int (fun _ _ => rfl)) pa_nil)))) (pss_one (ps_ret pe_str)) pss_nil)
    (pss_cons (ps_if (PW.pt (pw_or (pt_not (pt_val (pe_callB call_isiT (by rfl) T.b_isinstance (by decide +kernel) (pa_cons (pe_ix ix_list (pv 0) pe_int (fun _ _ => rfl)) (pa_cons (pe_tup (pa_cons (pe_tyB (T := "list") (by rfl) T.b_list (by decide +kernel)) (pa_cons (pe_tyB (T := "tuple") (by rfl) T.b_tuple (by decide +kernel)) pa_nil))) pa_nil))))) (pw_or1 (pt_cmpR (op_neD hr.units) (pe_lc (own := [("_law_deed_here", 1)]) (g := gName 1) rfl sc_law_wrong.nd (pi_list (pe_ix ix_list (pv 0) pe_int (fun _ _ => rfl))) (blkOk_by (N := N_law_wrong) (sc := defScope s_law_wrong) (by decide +kernel)) (fun _ _ _ _ _ => (pg_name (i := 1) sc_law_wrong.nd rfl (Or.inl rfl))) (fun _ _ _ _ _ => (pts_one (pt_not (pt_val (pe_call G__law_is_deed (hr.mono (by decide)) rfl T.g__law_is_deed T.k__law_is_deed b__law_is_deed .nil pass0 (pa_cons (pv 1) pa_nil)))))) (fun _ _ _ _ _ => (pv 1))) (pe_lst pa_nil) (nomark _))))) (pss_one (ps_ret pe_str)) pss_nil)
    (pss_one (ps_ret (pe_ifExp (PW.pt (pw_and (pt_cmpR op_ne (pe_ix ix_list (pv 0) pe_int (fun _ _ => rfl)) pe_str (nomark _)) (pw_and1 (pt_cmpR op_in_seq pe_str (pe_ix ix_list (pv 0) pe_int (fun _ _ => rfl)) (by rfl))))) pe_str pe_non)))))))), ?_⟩
    unfold ruleErr at k
    refine ⟨_, rfl, p, _, _, _, rfl, rfl, .inl (.inl hp), atI_nat (j := 0) rfl, R.st, rfl, l1, o1, fun H1 s1 => ⟨_, rfl, ?_⟩⟩
    cases e0 : isName R.st with
    | false =>
      rw [e0] at k
      exact iteT (k _ s1)
    | true =>
    rw [e0] at k
    refine iteF ?_
    refine ⟨_, rfl, p, _, _, _, rfl, rfl, .inl (.inl (s1 _ _ hp)), atI_nat (j := 1) rfl, R.ev, rfl, l2, o2, fun H2 s2 => ⟨_, rfl, ?_⟩⟩
    replace s2 := s1.trans s2
    cases e1 : isEvent R.ev with
    | false =>
      rw [e1] at k
      exact iteT (k _ s2)
    | true =>
    rw [e1] at k
    refine iteF ?_
    refine ⟨_, rfl, p, _, _, _, rfl, rfl, .inl (.inl (s2 _ _ hp)), atI_nat (j := 2) rfl, _, _, _, _, true, rfl, .ty "str", .base (.str R.gd), kit_ty (by decide +kernel), true, rfl, ?_⟩
    refine iteF ⟨_, rfl, p, _, _, _, rfl, rfl, .inl (.inl (s2 _ _ hp)), atI_nat (j := 2) rfl, (by show 3 ≤ sizeLine; decide), fun tg htg => ?_⟩
    have s3 := s2.trans (Same.upd_new (o := .tup (guardsV.map V.str)) htg)
    refine ⟨_, _, rfl, .inr (.inl (.inl (show _ = some (HO.tup (guardsV.map V.str)) from upd_same))), rfl, flat_txts _, _, rfl, ?_⟩
    show if (!inV (V.str R.gd) (guardsV.map V.str)) = true then _ else _
    cases e2 : inV (V.str R.gd) (guardsV.map V.str) with
    | false =>
      rw [e2] at k
      exact iteT (k _ s3)
    | true =>
    rw [e2] at k
    refine iteF ?_
    refine ⟨_, rfl, p, _, _, _, rfl, rfl, .inl (.inl (s3 _ _ hp)), atI_nat (j := 3) rfl, R.th, rfl, l3, o3, fun H4 s4 => ⟨_, rfl, ?_⟩⟩
    replace s4 := s3.trans s4
    cases e3 : isName R.th with
    | false =>
      rw [e3] at k
      exact iteT (k _ s4)
    | true =>
    rw [e3] at k
    refine iteF ?_
    refine ⟨_, rfl, p, _, _, _, rfl, rfl, .inl (.inl (s4 _ _ hp)), atI_nat (j := 4) rfl, (by show 2 ≤ sizeLine; decide), fun tp htp => ?_⟩
    replace s4 := s4.trans (Same.upd_new (o := .tup [V.ty "list", .ty "tuple"]) htp)
    refine ⟨_, tp, _, _, [.type "list", .type "tuple"], true, rfl, upd_same, .cons (.ty _) (.cons (.ty _) .nil), .base (.lst (s4 _ _ hq)), kit_list, _, rfl, ?_⟩
    refine iteF ?_
    have hq4 := s4 _ _ hq
    refine ⟨_, rfl, p, _, _, _, rfl, rfl, .inl (.inl (s4 _ _ hp)), atI_nat (j := 4) rfl, q, rfl, ⟨_, .inl (.inl hq4)⟩, fun D hD => ?_⟩
    refine lc_list (K := K) (a := q) (xs := R.ds.map V.str) (fun i H' => Same (upd H4 tp (.tup [V.ty "list", .ty "tuple"])) H' ∧ H' D = some (.lst (((R.ds.take i).filter fun z => !isDeed z).map V.str))) ⟨Same.upd_new hD, upd_same⟩ (fun i H' _ h => .inl (.inl (h.1 _ _ hq4))) ?_ ?_
    · rintro i y H' hy ⟨t1, d1⟩
      obtain ⟨z, hzm, hz, rfl⟩ := get_map_str hy
      have hi : i < R.ds.length := (List.getElem?_eq_some_iff.mp hz).1
      refine ⟨rfl, _, rfl, z, rfl, l5 z hzm, o4 z hzm, fun H5 s5 => ⟨_, rfl, ?_⟩⟩
      have tk : R.ds.take (i + 1) = R.ds.take i ++ [z] := by rw [List.take_add_one, hz]; rfl
      cases eb : isDeed z with
      | true =>
        refine iteF ⟨t1.trans s5, ?_⟩
        rw [tk, List.filter_append, List.filter_cons_of_neg (by rw [eb]; decide), List.filter_nil, List.append_nil]
        exact s5 _ _ d1
      | false =>
        refine iteT ⟨_, rfl, _, s5 _ _ d1, ?_, fun b o e => ?_, ?_⟩
        · rw [List.length_map]
          refine Nat.lt_of_le_of_lt (List.length_filter_le _ _) ?_
          rw [List.length_take]
          exact small1000 (by omega)
        · rw [upd_ne (ne_of_none e hD)]
          exact s5 _ _ (t1 b o e)
        · rw [tk, List.filter_append, List.filter_cons_of_pos (by rw [eb]; rfl), List.filter_nil, List.map_append]
          exact upd_same
    · rintro H5 ⟨t1, d1⟩
      rw [List.length_map, List.take_length] at d1
      have s5 := s4.trans t1
      refine ⟨(by show 0 ≤ sizeLine; decide), fun tz htz => ?_⟩
      have t2 := Same.upd_new (o := .lst []) htz
      replace s5 := s5.trans t2
      refine ne_nil (.inl (.inl (t2 _ _ d1))) (dp_strs _) (shaped_strs fun z hz => o4 z (List.mem_filter.mp hz).1) upd_same ⟨_, rfl, ?_⟩
      cases ef : R.ds.filter (fun z => !isDeed z) with
      | cons z zs =>
        rw [deeds_bad (by rw [ef]; intro e; cases e)] at k
        exact iteT (k _ s5)
      | nil =>
      refine iteF ?_
      rw [deeds_fine ef] at k
      refine ⟨_, rfl, p, _, _, _, rfl, rfl, .inl (.inl (s5 _ _ hp)), atI_nat (j := 1) rfl, rfl, _, rfl, ?_⟩
      cases ea : decide (V.str R.ev = V.str "ask") with
      | true =>
        rw [ea] at k
        exact iteF (k _ s5)
      | false =>
      rw [ea] at k
      refine iteT ⟨_, rfl, p, _, _, _, rfl, rfl, .inl (.inl (s5 _ _ hp)), atI_nat (j := 4) rfl, _, _, rfl, .inl (.inl (.inl (s5 _ _ hq))), rfl, flat_txts _, _, rfl, ?_⟩
      show if inV (V.str "note") (R.ds.map V.str) = true then _ else _
      cases en : inV (V.str "note") (R.ds.map V.str) with
      | true =>
        rw [en] at k
        exact iteT (k _ s5)
      | false =>
        rw [en] at k
        exact iteF (k _ s5)
end
end L2.Wk
namespace PySem
namespace LowX_InvalidText
open PySem.W PySem.Calls PyProof.Rows PySem.HandSPX
/-! ### the text of __init__ -/
def iA (p1 p2 : Pos) : Arguments := { posonlyargs := [], args := [{ arg := "self", annotation := none, pos := p1 }, { arg := "at", annotation := none, pos := p2 }], vararg := none, kwonlyargs := [], kw_defaults := [], kwarg := none, defaults := [] }
def iB (q1 q2 q3 q4 : Pos) : List Stmt := [.Assign [.Attribute (.Name "self" q1) "at" q2] (.Name "at" q3) q4]
def iS : Scope := { kind := .function, names := [(PySem.Str.ofString "self", .local), (PySem.Str.ofString "at", .local)], isGenerator := false, isCoroutine := false, more := [] }
/-- what the written part says of Low, at C, and of its __init__, at fI -/
structure LowTxt_InvalidText (K : Frag) (mg : Str → Option Value) (C fI : Addr) : Prop where
  gC : mg "InvalidText" = some (.ref C)
  cls : ∃ nm q N bs bm sn sub ab col dd k0 k1 k2 k3 k5, K.lookup C = some (excClassObj nm q C N bs bm true sn sub ab col dd k0 k1 k2 k3 k5 "ValueError.__new__") ∧ refsVE bm = true
  sa : findIn K (.ref C) "__setattr__" = some (some (.builtin "object.__setattr__"))
  ga : findIn K (.ref C) "__getattribute__" = some (some (.builtin "BaseException.__getattribute__"))
  gg : findIn K (.ref C) "__getattr__" = some none
  noN : findIn K (.ref C) "at" = some none
  iC : findIn K (.ref C) "__init__" = some (some (.ref fI))
  tC : typeIn K (.ref fI) = some (.type "function")
  kC : keepIn K (.ref C) = true
  exC : subIn K (.ref C) (.type "BaseException") = some true
  tyC : typeIn K (.ref C) = some (.type "type")
  hdC : hasDictIn K C = true
  te : exmOne K (.ref C) (.ref C) = some true
  fn : ∃ (oc : Value) (od : Option Addr) (doc pm : Value) (an : Option Addr) (cdv ct : Value) (osl : Array (Option Value)) (p1 p2 q1 q2 q3 q4 : Pos),
    K.lookup fI = some ⟨oc, od, .func (fnOf "__init__" "InvalidText.__init__" (iA p1 p2) (iB q1 q2 q3 q4) iS .none .none doc pm an cdv ct), osl⟩ ∧ codeIn K cdv "InvalidText.__init__" = true
theorem one_size_InvalidText (v : Value) : [v].length ≤ sizeLine := by
  rw [sizeLine_eq]
  exact (by decide : 1 ≤ 16777216)
theorem kept_but_InvalidText {K : Frag} {h h' : Heap} {x : Addr} (X : K.In h) (hx : K.lookup x = none) (k : ∀ b o, b ≠ x → h.get? b = some o → h'.get? b = some o) : K.In h' := fun a o e =>
  k a o (fun z => by rw [z, hx] at e; cases e) (X a o e)
theorem ldC_InvalidText {M : Model} {s : Shared} {name : Str} {scope : Scope} {L a : Addr} {cd : Value} {m : Str → Option Value} {x : Str} {pos : Pos} {v : Value} {Q : Value → Shared → Prop} {A : Around} {E : Value → Shared → Prop} (hn : s.heap.Ns L m) (hv : m x = some v) (h : Q v s)
    (hk : scope.kind = .function := by rfl) (hl : (envOfC name scope L a cd).kindOf x = some .local := by rfl) (hd : (x == ("__debug__" : Str)) = false := by decide) :
    wpAny M A (eval (.Name x pos) (envOfC name scope L a cd)) Q E s := wpAny_Name (wpAny_loadName_local hk hl hn hv h) hd
/-- what __init__ leaves of a fresh exception at x -/
structure InitEnd_InvalidText (h h' : Heap) (x C dx t1 : Addr) (v : Value) : Prop where
  keep : ∀ b o, b ≠ x → h.get? b = some o → h'.get? b = some o
  obj : h'.get? x = some { cls := .ref C, dict := some dx, data := .fields #[.ref t1, .none, .none, .none, .bool false, .none] }
  dbig : h.objs.size ≤ dx
  dne : dx ≠ x
  ns : h'.Ns1 dx (fun y => if y = "at" then some v else none)
structure OwnMade_InvalidText (h h' : Heap) (e C d : Addr) (v : Value) : Prop where
  keep : ∀ b o, h.get? b = some o → h'.get? b = some o
  new : h.objs.size ≤ e
  obj : ∃ oe vs, h'.get? e = some oe ∧ oe.cls = .ref C ∧ oe.dict = some d ∧ oe.data = .fields vs ∧ vs[1]? = some .none
  dbig : h.objs.size ≤ d
  dne : d ≠ e
  ns : h'.Ns1 d (fun y => if y = "at" then some v else none)
section
variable {prog : Program} {w : World} {A : Around} {E : Value → Shared → Prop} {R : Result → Shared → Prop} {s : Shared} {K : Frag} {mg : Str → Option Value} {C fI : Addr}
theorem low_init_InvalidText (T : LowTxt_InvalidText K mg C fI) {x t0 : Addr} {v : Value} (X : K.In s.heap) (hlim : s.heap.NoLimit) (hx : s.heap.get? x = some (excO C t0)) (hnx : K.lookup x = none) (hroom : A.depth < recursionLimit)
    (hq : ∀ h' tk dx, InitEnd_InvalidText s.heap h' x C dx t0 v → R (.ok (.ret .none)) { s with heap := h', toks := tk }) :
    codeAny (model prog w) A (.call (.ref fI) ⟨[.ref x, v], []⟩) R s := by
  obtain ⟨oc, od, doc, pm, an, cdv, ct, osl, p1, p2, q1, q2, q3, q4, ho, hcd⟩ := T.fn
  obtain ⟨nm, q, N, bs, bm, sn, sub, ab, col, dd, k0, k1, k2, k3, k5, hC, hbm⟩ := T.cls
  have hcl : clsIn K C = some { name := nm, bases := bs, mro := .ref C :: bm, ns := N, qualname := q, hasDict := true, slotNames := sn, subclasses := sub, abstract := ab, collection := col, hasDel := false } := by unfold clsIn; rw [hC] <;> rfl
  refine Att.call_fn (binds := [("self", .ref x), ("at", v)]) X hlim ho hcd hroom (BindsTo.of_eq (by first | rfl | with_unfolding_all rfl)) (by first | rfl | decide | with_unfolding_all rfl) (fun s₁ IC => ?_) rfl rfl rfl
  obtain ⟨h₁, tk₁, rfl⟩ := IC.toInCall.same
  have k : ∀ b o, s.heap.get? b = some o → h₁.get? b = some o := IC.toInCall.keep
  have hn := IC.toInCall.ns
  have hxL : s.heap.objs.size ≠ x := Nat.ne_of_gt (Heap.lt_size hx)
  have X₁ : K.In h₁ := X.keeps k
  have hx₁ := k _ _ hx
  -- self.by = by
  show wpAny _ _ (execs _ _) _ _ _
  refine wpAny_execs_cons (plainObj_wpAny_Assign_Attribute ?_)
  refine ldC_InvalidText (v := v) hn (by first | rfl | with_unfolding_all rfl | kernel_rfl) (ldC_InvalidText (v := .ref x) hn (by first | rfl | with_unfolding_all rfl | kernel_rfl) ?_)
  refine set_plain X₁ (ox := excO C t0) (od := none) ⟨hx₁, rfl, rfl, trivial⟩ T.sa ?_
  refine exc_osa X₁ hx₁ hcl (show refsVE (.ref C :: bm) = true from hbm) rfl T.noN (fun h₃ tk₃ dx k₃ dn dne hx₃ hn₃ => ?_)
  show wpAny _ _ (execs _ _) _ _ _
  have z : s.heap.objs.size < h₁.objs.size := hn.lt
  exact wpAny_execs_nil (hq h₃ tk₃ dx ⟨fun b o hb e => k₃ b o hb (k b o e), hx₃, Nat.le_of_lt (Nat.lt_of_lt_of_le z dn), dne, hn₃⟩)
theorem low_made_InvalidText (T : LowTxt_InvalidText K mg C fI) {v : Value} (X : K.In s.heap) (hlim : s.heap.NoLimit) (hroom : A.depth + 1 < recursionLimit)
    (hq : ∀ h' tk e d, OwnMade_InvalidText s.heap h' e C d v → R (.ok (.ret (.ref e))) { s with heap := h', toks := tk }) :
    codeAny (model prog w) A (.call (.ref C) ⟨[v], []⟩) R s := by
  obtain ⟨nm, q, N, bs, bm, sn, sub, ab, col, dd, k0, k1, k2, k3, k5, hC, hbm⟩ := T.cls
  obtain ⟨hp, g, dr, tk, os⟩ := s
  have k : ∀ b o, hp.get? b = some o → ((hp.push (kdv_tup [v])).push (excO C hp.objs.size)).get? b = some o := fun b o e => Heap.get?_push_of_some _ (Heap.get?_push_of_some _ e)
  have hget : ((hp.push (kdv_tup [v])).push (excO C hp.objs.size)).get? (hp.objs.size + 1) = some (excO C hp.objs.size) := by heap_get
  have hnx : K.lookup (hp.objs.size + 1) = none := by
    cases e : K.lookup (hp.objs.size + 1) with
    | none => rfl
    | some o =>
      have z : hp.get? (hp.objs.size + 1) = some o := X _ _ e
      exact absurd (Nat.lt_of_succ_lt (Heap.lt_size z)) (Nat.lt_irrefl _)
  refine call_own F.excBase_ValueError (fun X => refsVE_contains X bm hbm) (X _ _ hC) (looks_findIn X T.iC) (fun self => bind_fn X self T.tC) (one_size_InvalidText v) ?_
  refine low_init_InvalidText (s := ⟨(hp.push (kdv_tup [v])).push (excO C hp.objs.size), g, dr, tk, os⟩) T (X.keeps k) (hlim.keeps k) hget hnx ?_ fun h' tk' dx ⟨k', hx, dn, dne, hns⟩ => ?_
  · show A.depth + 1 < recursionLimit
    exact hroom
  · have old : ∀ b o, hp.get? b = some o → h'.get? b = some o := fun b o e => k' b o (Nat.ne_of_lt (Nat.lt_succ_of_lt (Heap.lt_size e))) (k b o e)
    have z : hp.objs.size + 1 + 1 ≤ dx := by
      first
        | (simpa only [Heap.size_push] using dn)
        | exact dn
        | (have q := dn; rw [Heap.size_push, Heap.size_push] at q; exact q)
    exact ⟨rfl, hq h' tk' (hp.objs.size + 1) dx ⟨old, Nat.le_succ _, ⟨_, _, hx, rfl, rfl, rfl, rfl⟩, Nat.le_trans (Nat.le_trans (Nat.le_succ _) (Nat.le_succ _)) z, dne, hns⟩⟩
end
end LowX_InvalidText
end PySem
namespace L2
open PySem PySem.Spec PyProof.Rows
theorem relO_low_InvalidText {v : V} {v' : Value} (r : RelV v v') (f : Str) : RelO (List.lookup f [(("at" : Str), v)]) (if f = "at" then some v' else none) := by
  by_cases hw : f = "at"
  · subst hw
    rw [if_pos rfl]
    have q : List.lookup ("at" : Str) [(("at" : Str), v)] = some v := by simp [List.lookup]
    rw [q]
    exact r
  · rw [if_neg hw]
    have qw : (f == ("at" : Str)) = false := by simpa using hw
    have q2 : List.lookup f [(("at" : Str), v)] = none := by simp [List.lookup, qw]
    rw [q2]
    trivial
section
variable {X : Cx} {C fI : Addr}
/-- Low(e) -/
def tMkLow_InvalidText (C : Addr) (ta : TA) : St → Hp → XK → Prop := fun σ H Q => ta σ H fun vs H1 => ∃ v, vs = [v] ∧ ∀ d, H1 d = none → Q (.ref C) (some d) (upd H1 d (.xd [(("at" : Str), v)]))
theorem pmk_low_InvalidText {a : Expr} {ta : TA} {p pos : Pos} {k : Nat} (T : PySem.LowX_InvalidText.LowTxt_InvalidText X.K X.mg C fI) (hr : Room k X.A) (ha : PA X [a] ta) (hg : Gl X "InvalidText" := by rfl)
    (he : starEach (a :: []) X.env = (false, eval a X.env) :: starEach [] X.env := by rfl) (hpl : (backTo pos (starEach [] X.env)).any (·.1) = false := by rfl) :
    PMk X (.Call (.Name "InvalidText" p) [a] [] pos) (tMkLow_InvalidText C ta) := by
  intro pins s σ H Q I h
  refine wpAny_Call_Name_kw (ld_glob I hg T.gC ?_)
  refine PySem.W.callWith_K (h₀ := X.base) I.ok.mod.kin T.kC (thn (ha.run pos pins s σ H _ I h) fun us s1 hh => ?_) he hpl
  obtain ⟨vs, H1, I1, r1, v, ev, q1⟩ := hh
  subst ev
  refine ⟨I1.kIn, ?_⟩
  cases r1 with
  | cons rv rn =>
    rename_i v' us'
    cases rn
    show wpAny _ _ (call (.ref C) [v']) _ _ _
    have hlim := I1.nolimit
    obtain ⟨hp, g, dr, tk, os⟩ := s1
    refine wpAny_call (PySem.LowX_InvalidText.low_made_InvalidText T I1.kIn hlim (by have := hr.dp; omega) fun h' tk' e d M => ?_)
    show MkP X pins σ Q (.ref e) ⟨h', g, dr, tk', os⟩
    obtain ⟨oe, fv, hoe, hc, hd, hdat, h1⟩ := M.obj
    have hns := M.ns
    obtain ⟨G', g1, g2⟩ := restrict h' fun b => decide (b ≠ e)
    have gk : ∀ b, b ≠ e → G'.get? b = h'.get? b := fun b hb => g1 b (decide_eq_true hb)
    have ge : G'.get? e = none := g2 e (by simp)
    have old : ∀ b o, hp.get? b = some o → G'.get? b = some o := fun b o q => (gk b (Nat.ne_of_lt (Nat.lt_of_lt_of_le (Heap.lt_size q) M.new))).trans (M.keep b o q)
    have ob : ObjOk X.prog X.w (upd H1 d (.xd [(("at" : Str), v)])) G' d (.xd [(("at" : Str), v)]) :=
      ⟨_, hns.at (fun o q => (gk d M.dne).trans q), fun f => relO_low_InvalidText rv f⟩
    have J : Inv X pins σ (upd H1 d (.xd [(("at" : Str), v)])) ⟨G', g, dr, tk', os⟩ := I1.laid (t' := tk') old M.dbig ob
    refine ⟨e, oe, fv, ⟨G', g, dr, tk', os⟩, _, .ref C, some d, rfl, J, fun b o q => ?_, ge, hoe, ⟨hc, hd⟩, hdat, h1, ?_, rfl, I1.bare, raises_own T.exC T.tyC, q1 d (I1.hok.fresh M.dbig)⟩
    · by_cases hb : b = e
      · have q' : G'.get? b = some o := q
        rw [hb, ge] at q'; cases q'
      · exact (gk b hb).symm.trans q
    · rw [upd_ne (Ne.symm M.dne)]
      exact I1.hok.fresh M.new
/-- raise Low(e) -/
def tRaiseLow_InvalidText (C : Addr) (W : WX) (ta : TA) : TS := fun _ σ H => tMkLow_InvalidText C ta σ H fun cls d H' => W cls d σ H'
theorem ps_raiseLow_InvalidText {a : Expr} {ta : TA} {W : WX} {p pos pos2 : Pos} {k : Nat} (hc : X.calm = true) (T : PySem.LowX_InvalidText.LowTxt_InvalidText X.K X.mg C fI) (hr : Room k X.A) (tk : Takes X W) (ha : PA X [a] ta) (hg : Gl X "InvalidText" := by rfl)
    (he : starEach (a :: []) X.env = (false, eval a X.env) :: starEach [] X.env := by rfl) (hpl : (backTo pos (starEach [] X.env)).any (·.1) = false := by rfl) :
    PS X (.Raise (some (.Call (.Name "InvalidText" p) [a] [] pos)) none pos2) (tRaiseLow_InvalidText C W ta) := ps_raise hc tk (pmk_low_InvalidText T hr ha hg he hpl)
/-- low.by, low the exception that the suite holds (at a; its class cls, its dict d) -/
def tByLow_InvalidText (C : Addr) (a : Addr) (cls : Value) (d : Option Addr) (te : TE) : TE := fun σ H Q => te σ H fun x H1 => x = .ref a ∧ cls = .ref C ∧ ∃ (dd : Addr) (v : V), d = some dd ∧ H1 dd = some (.xd [(("at" : Str), v)]) ∧ Q v H1
theorem pe_byLow_InvalidText {a : Addr} {oe : Obj} {cls : Value} {d : Option Addr} {pn : List (Addr × Obj)} {e : Expr} {te : TE} {pos : Pos} (T : PySem.LowX_InvalidText.LowTxt_InvalidText X.K X.mg C fI) (hz : Zc cls d oe) (hf : ∃ vs, oe.data = .fields vs) (he : PE (X.suite a ((a, oe) :: pn)) e te)
    (hb : attributeBase e "at" X.env (eval e X.env) = eval e X.env := by rfl) :
    PE (X.suite a ((a, oe) :: pn)) (.Attribute e "at" pos) (tByLow_InvalidText C a cls d te) := by
  refine ⟨fun pins s σ H Q I h => ?_⟩
  refine attr_of hb (thn (he.run pins s σ H _ I h) fun u s1 hh => ?_)
  obtain ⟨x, H1, I1, rx, ex, ec, dd, v, ed, ea, q⟩ := hh
  subst ex
  obtain rfl : u = Value.ref a := rx
  subst ec
  subst ed
  obtain ⟨ha, _⟩ := I1.pin (a, oe) (List.mem_append_left _ List.mem_cons_self)
  obtain ⟨vs, hd⟩ := hf
  have hx : ObjOk X.prog X.w H1 s1.heap dd (.xd [(("at" : Str), v)]) := I1.hok dd _ ea
  obtain ⟨mA, hns, hr⟩ := hx
  obtain ⟨od, ho, hl⟩ := lookIn_ns hns
  have l : List.lookup ("at" : Str) [(("at" : Str), v)] = some v := by simp [List.lookup]
  obtain ⟨u, hu, ru⟩ := RelO.some_of (v := v) (o := mA "at") (by rw [← l]; exact hr "at")
  have J : PySem.W.InstAt s1.heap a oe C (some od) := ⟨ha, hz.1, by unfold PySem.W.notCls; rw [hd] <;> rfl, by rw [hz.2]; exact ho⟩
  exact HandSPX.exc_get I1.kIn J T.ga T.gg T.exC (PySem.W.findObj_own T.hdC T.noN rfl (by rw [hl, hu])) (handed_of ru) ⟨v, H1, I1.tok _, ru, q⟩
end
end L2


namespace L2.Wk
open PySem PySem.Spec PyProof.Rows
/-! ### Machine.read over any text -/
def linesOf (z : Str) : List Str := Txt.split z (Str.ofString "\n")
def headP (z : Str) : Str × Str × Str := Txt.partition z (Str.ofString " ")
def headOk (z : Str) : Bool := decide ((headP z).1 = Str.ofString "first") && isName (headP z).2.2
def lineOk (z : Str) : Bool := (ruleErr (lineR z).st (lineR z).ev (lineR z).gd (lineR z).th (lineR z).ds).isNone
/-- the number of the first line that is wrong, lines counted from i -/
def badFrom : Nat → List Str → Option Nat
  | _, [] => none
  | i, z :: zs => if lineOk z = true then badFrom (i + 1) zs else some i
def badLine (ls : List Str) : Option Nat :=
  match ls with
  | [] => some 0
  | z :: zs => if headOk z = true then badFrom 1 zs else some 0
def machOf (ls : List Str) : MachD := ⟨(headP (ls.headD Str.empty)).2.2, ls.tail.map lineR⟩
/-- what is asked of the text: few lines, short; if it is right, it makes a small machine -/
structure TextOk (z : Str) : Prop where
  len : z.length ≤ 50000
  few : (linesOf z).length ≤ 30
  short : ∀ y ∈ linesOf z, y.length ≤ 900
  small : badLine (linesOf z) = none → MachSmall (machOf (linesOf z))
def spReadT (K : PySem.W.Frag) (r : Rs) (c : Cs) (IT : Addr) : Sp := fun vs H Q E => ∃ z : Str, vs = [.ref c.Machine, .str z] ∧ TextOk z ∧
  (badLine (linesOf z) = none → ∀ p H', MaAt K r c H' p (machOf (linesOf z)) → Same H H' → Q (.ref p) H') ∧
  (∀ n, badLine (linesOf z) = some n → ∀ (d : Addr) (H' : Hp), Same H H' → H' d = some (.xd [("at", .int (n : Nat))]) → E (.ref IT) (some d) H')
theorem badFrom_snoc : ∀ (ls : List Str) (i : Nat) (z : Str), badFrom i ls = none → badFrom i (ls ++ [z]) = if lineOk z = true then none else some (i + ls.length)
  | [], i, z, _ => by
    show (if lineOk z = true then badFrom (i + 1) [] else some i) = _
    rfl
  | y :: ls, i, z, h => by
    unfold badFrom at h
    cases e : lineOk y with
    | false =>
      rw [e, if_neg (by decide)] at h
      cases h
    | true =>
      rw [e, if_pos rfl] at h
      show (if lineOk y = true then badFrom (i + 1) (ls ++ [z]) else some i) = _
      rw [e, if_pos rfl, badFrom_snoc ls (i + 1) z h, List.length_cons]
      congr 2
      omega
theorem badFrom_pre : ∀ (ls ms : List Str) (i n : Nat), badFrom i ls = some n → badFrom i (ls ++ ms) = some n
  | [], ms, i, n, h => by cases h
  | y :: ls, ms, i, n, h => by
    unfold badFrom at h
    show (if lineOk y = true then badFrom (i + 1) (ls ++ ms) else some i) = some n
    cases e : lineOk y with
    | false =>
      rw [e, if_neg (by decide)] at h
      rw [if_neg (by decide)]
      exact h
    | true =>
      rw [e, if_pos rfl] at h
      rw [if_pos rfl]
      exact badFrom_pre ls ms (i + 1) n h
theorem badFrom_none : ∀ (ls : List Str) (i : Nat), badFrom i ls = none ↔ ∀ z ∈ ls, lineOk z = true
  | [], i => ⟨(fun _ z h => by cases h), fun _ => rfl⟩
  | y :: ls, i => by
    have q := badFrom_none ls (i + 1)
    constructor
    · intro h z hz
      unfold badFrom at h
      cases e : lineOk y with
      | false =>
        rw [e, if_neg (by decide)] at h
        cases h
      | true =>
        rw [e, if_pos rfl] at h
        rcases List.mem_cons.mp hz with rfl | hz
        · exact e
        · exact q.mp h z hz
    · intro h
      unfold badFrom
      rw [h y (List.mem_cons_self ..), if_pos rfl]
      exact q.mpr fun z hz => h z (List.mem_cons_of_mem _ hz)
section
variable {P : Program} {w : World} {K : PySem.W.Frag} {mg : Str → Option Value} {base : Heap} {a : Ws} {r : Rs} {q : RTs} {c : Cs} {n : Ns} {m : MTs} {rr : Addr} {f : Addr} {fd : FuncData}
structure TxtRT2 (K : PySem.W.Frag) (mg : Str → Option Value) (a : Ws) (r : Rs) (q : RTs) (c : Cs) (n : Ns) (m : MTs) (rr IT fIT : Addr) : Prop extends TxtRM K mg a r q c n m rr where
  low_InvalidText : PySem.LowX_InvalidText.LowTxt_InvalidText K mg IT fIT
theorem ok_readT {IT fIT : Addr} {f1 f2 f3 : FuncData} (F : Fun K "read" "Machine.read" s_Machine_read f fd) (T : TxtRT2 K mg a r q c n m rr IT fIT)
    (G_is_name : FnOk P w K mg base CX0 1 a.is_name f1 ["value"] (spTxt isName)) (b_is_name : Binds K f1 ["value"] [])
    (G__read_rule : FnOk P w K mg base CX0 7 rr f2 ["line"] (spReadAny K r)) (b__read_rule : Binds K f2 ["line"] [])
    (G_Machine : FnOk P w K mg base CX0 3 c.fMachine f3 ["self", "first", "rules"] (spMach K r c)) (b_Machine : Binds K f3 ["self", "first", "rules"] []) :
    FnOk P w K mg base (L2.CX P w) 8 f fd ["cls", "text"] (spReadT K r c IT) := by
  have M_Machine := T.MM
  refine F.okX sc_Machine_read (fun vs H Q E h => ?_) (fun cdv A outer s H vs Q E hr h => ?_)
  · obtain ⟨_, rfl, _⟩ := h
    rfl
  · obtain ⟨z, rfl, ok, k, kE⟩ := h
    refine ⟨_, (pss_cons (ps_set (i := 2) sc_Machine_read.nd rfl (Or.inl rfl) (pe_split (pv 1) pe_str))
    (pss_cons (ps_asg (pe_partition (pe_ix ix_list (pv 2) pe_int (fun _ _ => rfl)) pe_str) (pg_tup rfl (pgs_cons (pg_name (i := 3) sc_Machine_read.nd rfl (Or.inl rfl)) (pgs_cons (pg_name (i := 4) sc_Machine_read.nd rfl (Or.inl rfl)) (pgs_cons (pg_name (i := 5) sc_Machine_read.nd rfl (Or.inl rfl)) pgs_nil)))))
    (pss_cons (ps_if (PW.pt (pw_or (pt_cmpR op_ne (pv 3) pe_str (nomark _)) (pw_or1 (pt_not (pt_val (pe_call G_is_name (hr.mono (by decide)) rfl T.g_is_name T.k_is_name b_is_name .nil pass0 (pa_cons (pv 5) pa_nil))))))) (pss_one (ps_raiseLow_InvalidText rfl T.low_InvalidText hr (takes_of rfl rfl rfl rfl) (pa_cons pe_int pa_nil))) pss_nil)
    (pss_cons (ps_set (i := 6) sc_Machine_read.nd rfl (Or.inl rfl) (pe_lst pa_nil))
    (pss_cons (ps_for (passes_of rfl) rfl (pi_enumK (by rfl) T.b_enumerate (pa_cons (pe_slice sl_list (pv 2) (po_some pe_int) po_none) pa_nil) pe_int) (pg_tup rfl (pgs_cons (pg_name (i := 7) sc_Machine_read.nd rfl (Or.inl rfl)) (pgs_cons (pg_name (i := 8) sc_Machine_read.nd rfl (Or.inl rfl)) pgs_nil)))
      (pss_cons (ps_set (i := 9) sc_Machine_read.nd rfl (Or.inl rfl) (pe_call G__read_rule (hr.mono (by decide)) rfl T.g__read_rule T.k__read_rule b__read_rule .nil pass0 (pa_cons (pv 8) pa_nil)))
      (pss_cons (ps_if (pt_cmpR op_isN (pv 9) pe_non (nomark _)) (pss_one (ps_raiseLow_InvalidText rfl T.low_InvalidText hr (takes_of rfl rfl rfl rfl) (pa_cons (pv 7) pa_nil))) pss_nil)
      (pss_one (ps_expr (pe_bm PySem.F.plainAttrs_list PySem.F.slot_list_append PySem.F.type_list_append mt_append (pv 6) (pa_cons (pv 9) pa_nil)))))))
    (pss_one (ps_ret (pe_makeL (i := 0) M_Machine G_Machine (hr.mono (by decide)) rfl (Or.inl rfl) b_Machine .nil (E := fun _ => E0) at0 (pa_cons (pv 5) (pa_cons (pv 6) pa_nil)))))))))), ?_⟩
    refine ⟨_, rfl, ⟨_, rfl⟩, _, Str.ofString "\n", rfl, rfl, by decide +kernel, big_ok (by have := ok.len; omega), fun pl hpl => ?_⟩
    have s1 := Same.upd_new (o := .lst ((linesOf z).map V.str)) hpl
    have hl1 : (upd H pl (.lst ((linesOf z).map V.str))) pl = some (.lst ((linesOf z).map V.str)) := upd_same
    have few := ok.few
    have short := ok.short
    have small := ok.small
    have ne : linesOf z ≠ [] := fun e => by
      rcases split_ne z (Str.ofString "\n") (.inr True.intro) with q | q
      · exact q e
      · have e' : Txt.split z (Str.ofString "\n") = [] := e
        rw [q] at e'
        exact absurd e' (by decide +kernel)
    obtain ⟨y, ys, el⟩ : ∃ y ys, linesOf z = y :: ys := by
      cases e : linesOf z with
      | nil => exact absurd e ne
      | cons y ys => exact ⟨y, ys, rfl⟩
    rw [el] at short few small k kE hl1 s1
    rw [show Txt.split z (Str.ofString "\n") = y :: ys from el]
    clear ne
    generalize upd H pl _ = H1 at s1 hl1 ⊢
    have hy := short y (List.mem_cons_self ..)
    obtain ⟨pb1, pb2⟩ := part_bound y (Str.ofString " ")
    refine ⟨_, rfl, pl, _, _, _, rfl, rfl, .inl (.inl hl1), atI_nat (j := 0) rfl, ⟨_, rfl⟩, _, _, rfl, rfl, rfl, big_ok (by omega), fun t1 ht1 => ?_⟩
    refine ⟨t1, _, rfl, .inl (.inl upd_same), rfl, _, _, rfl, _, _, rfl, _, _, rfl, rfl, ?_⟩
    have s2 := s1.trans (Same.upd_new (o := .tup [.str (Txt.partition y (Str.ofString " ")).1, .str (Txt.partition y (Str.ofString " ")).2.1, .str (Txt.partition y (Str.ofString " ")).2.2]) ht1)
    have hl2 := (Same.upd_new (o := .tup [.str (Txt.partition y (Str.ofString " ")).1, .str (Txt.partition y (Str.ofString " ")).2.1, .str (Txt.partition y (Str.ofString " ")).2.2]) ht1) _ _ hl1
    generalize upd H1 t1 _ = H2 at s2 hl2 ⊢
    have bad0 : headOk y = false → badLine (y :: ys) = some 0 := fun e => by
      unfold badLine
      dsimp only
      rw [e, if_neg (by decide)]
    have hk : headOk y = (decide ((headP y).1 = Str.ofString "first") && isName (headP y).2.2) := rfl
    refine ⟨_, rfl, rfl, _, rfl, ?_⟩
    cases e1 : decide ((headP y).1 = Str.ofString "first") with
    | false =>
      have en : (!decide (V.str (Txt.partition y (Str.ofString " ")).1 = V.str (Str.ofString "first"))) = true := by
        have : ¬ (Txt.partition y (Str.ofString " ")).1 = Str.ofString "first" := of_decide_eq_false e1
        simp [this]
      exact iteTh en ⟨_, rfl, fun d hd => kE 0 (bad0 (by rw [hk, e1]; rfl)) d _ (s2.trans (Same.upd_new hd)) upd_same⟩
    | true =>
    have en : (!decide (V.str (Txt.partition y (Str.ofString " ")).1 = V.str (Str.ofString "first"))) = false := by
      have : (Txt.partition y (Str.ofString " ")).1 = Str.ofString "first" := of_decide_eq_true e1
      simp [this]
    refine iteFh en ⟨_, rfl, _, rfl, by omega, fun H3 s3 => ⟨_, rfl, ?_⟩⟩
    have s3' := s2.trans s3
    cases e2 : isName (headP y).2.2 with
    | false =>
      refine iteTh (by rw [show isName (Txt.partition y (Str.ofString " ")).2.2 = false from e2]; rfl) ?_
      exact ⟨_, rfl, fun d hd => kE 0 (bad0 (by rw [hk, e1, e2]; rfl)) d _ (s3'.trans (Same.upd_new hd)) upd_same⟩
    | true =>
    refine iteFh (by rw [show isName (Txt.partition y (Str.ofString " ")).2.2 = true from e2]; rfl) ?_
    refine ⟨(by show 0 ≤ sizeLine; decide), fun pr hpr => ?_⟩
    have bn : badLine (y :: ys) = badFrom 1 ys := by
      unfold badLine
      dsimp only
      rw [hk, e1, e2]
      rfl
    rw [bn] at k kE small
    have s4 := s3'.trans (Same.upd_new (o := .lst []) hpr)
    have hl4 := (Same.upd_new (o := .lst []) hpr) _ _ (s3 _ _ hl2)
    have hr4 : (upd H3 pr (.lst [])) pr = some (.lst []) := upd_same
    generalize upd H3 pr _ = H4 at s4 hl4 hr4 ⊢
    refine ⟨_, rfl, _, rfl, pl, _, rfl, .inl (.inl hl4), fun ps hps => ?_⟩
    have ec : cutV ((y :: ys).map V.str) (some 1) none = ys.map V.str := by
      rw [show (1 : Int) = ((1 : Nat) : Int) from rfl, cut_from]
      rfl
    rw [ec]
    have s5 := s4.trans (Same.upd_new (o := .lst (ys.map V.str)) hps)
    have hl5 : (upd H4 ps (.lst (ys.map V.str))) ps = some (.lst (ys.map V.str)) := upd_same
    have hr5 := (Same.upd_new (o := .lst (ys.map V.str)) hps) _ _ hr4
    have psr : ps ≠ pr := (ne_of_none hr4 hps).symm
    have prH : H pr = none := s3'.free hpr
    generalize upd H4 ps _ = H5 at s5 hl5 hr5 ⊢
    have few' : ys.length ≤ 29 := by rw [List.length_cons] at few; omega
    refine ⟨ps, ys.map V.str, 1, rfl, rfl, by decide, by decide, .inl (.inl hl5), for_enumK (fun i σ H' => ∃ (v7 v8 v9 : Option V) (us : List V), σ = [some (.ref c.Machine), some (.str z), some (.ref pl), some (.str (headP y).1), some (.str (headP y).2.1), some (.str (headP y).2.2), some (.ref pr), v7, v8, v9] ∧
      (∀ b o, H5 b = some o → b ≠ pr → H' b = some o) ∧ H' pr = some (.lst us) ∧ AllAt (RuleV K r H') us ((ys.take i).map lineR) ∧ badFrom 1 (ys.take i) = none) ⟨_, _, _, [], rfl, fun _ _ e _ => e, hr5, True.intro, rfl⟩ (fun i σ H' _ ⟨_, _, _, _, _, h, _⟩ => .inl (.inl (h _ _ hl5 psr))) ?_ ?_⟩
    · rintro i x σ H6 Tp hx ⟨v7, v8, v9, us, rfl, kp, hus, hall, hbad⟩ hTp
      obtain ⟨u, hum, hu, rfl⟩ := get_map_str hx
      have hi : i < ys.length := (List.getElem?_eq_some_iff.mp hu).1
      have sT := Same.upd_new (o := .tup [.int (1 + (i : Nat)), .str u]) hTp
      have tk : ys.take (i + 1) = ys.take i ++ [u] := by rw [List.take_add_one, hu]; rfl
      have bs := badFrom_snoc (ys.take i) 1 u hbad
      rw [← tk] at bs
      have ti : (ys.take i).length = i := by rw [List.length_take]; omega
      rw [ti] at bs
      refine ⟨Tp, _, rfl, .inl (.inl upd_same), rfl, _, _, rfl, _, _, rfl, rfl, ?_⟩
      refine ⟨_, rfl, u, rfl, short u (List.mem_cons_of_mem _ hum), fun he v H7 hv s7 => ?_, fun he H7 s7 => ?_⟩
      · have sU := sT.trans s7
        have lo : lineOk u = true := by unfold lineOk; rw [he]; rfl
        rw [lo, if_pos rfl] at bs
        obtain ⟨p', rfl, hp'⟩ := id hv
        refine ⟨_, rfl, rfl, _, rfl, ?_⟩
        refine iteFh (by simp) ?_
        refine ⟨_, rfl, .inl ⟨rfl, _, .inl (.inl (sU _ _ hus))⟩, _, rfl, pr, _, _, rfl, rfl, sU _ _ hus, ?_, ?_⟩
        · rw [hall.len, List.length_map, List.length_take]
          exact small1000 (by omega)
        · refine ⟨_, _, _, us ++ [.ref p'], rfl, fun b o e hb => ?_, upd_same, ?_, bs⟩
          · rw [upd_ne hb]
            exact sU _ _ (kp b o e hb)
          · have up : ∀ v R, RuleV K r H7 v R → RuleV K r (upd H7 pr (.lst (us ++ [.ref p']))) v R := fun v R ⟨p, e, h⟩ => ⟨p, e, RuleAt.upd_lst (sU _ _ hus) h⟩
            rw [tk, List.map_append]
            exact (hall.imp fun v R h => up v R (RuleV.same sU v R h)).app ⟨up _ _ hv, True.intro⟩
      · have sU := sT.trans s7
        obtain ⟨me, he⟩ := he
        have lo : lineOk u = false := by unfold lineOk; rw [he]; rfl
        rw [lo, if_neg (by decide)] at bs
        have bb : badFrom 1 ys = some (1 + i) := by
          have := badFrom_pre (ys.take (i + 1)) (ys.drop (i + 1)) 1 (1 + i) bs
          rw [List.take_append_drop] at this
          exact this
        refine ⟨_, rfl, rfl, _, rfl, iteTh (by decide) ?_⟩
        refine ⟨_, rfl, _, rfl, fun d hd => ?_⟩
        refine kE (1 + i) bb d _ (fun b o e => ?_) ?_
        · rw [upd_ne (ne_of_none (sU _ _ (kp b o (s5 _ _ e) (ne_of_none e prH))) hd)]
          exact sU _ _ (kp b o (s5 _ _ e) (ne_of_none e prH))
        · rw [upd_same]
          rfl
    · rintro σ H6 ⟨v7, v8, v9, us, rfl, kp, hus, hall, hbad⟩
      rw [List.length_map, List.take_length] at hall hbad
      have sm := small hbad
      refine ⟨rfl, _, rfl, _, rfl, fun yy dy ny nd ne => ?_⟩
      have s0 : Same H6 (upd (upd H6 dy (.own yy)) yy (.ins c.Machine dy [])) := made_same ny nd
      refine ⟨yy, dy, pr, us, machOf (y :: ys), rfl, upd_same, .inl (.inl (.inl (s0 _ _ hus))), hall.imp (RuleV.same s0), sm, e2, fun H7 hM7 hk' => ⟨rfl, ?_⟩⟩
      refine k hbad yy H7 hM7 fun b o e => ?_
      have hb : b ≠ pr := ne_of_none e prH
      exact made_keep ny nd hk' _ _ (kp _ _ (s5 _ _ e) hb)
end
end L2.Wk
namespace L2.Wk
open PySem PySem.Spec PyProof.Rows
abbrev s_law_rule_of : Stmt := top 37
abbrev N_law_rule_of : List Str := ["_law_line", "_law_pieces", "_law_words", "_law_tail"]
theorem sc_law_rule_of : FnScope N_law_rule_of ["_law_line"] (defScope s_law_rule_of) := ⟨rfl, rfl, rfl, by decide +kernel, rfl, by decide +kernel, by decide +kernel⟩
abbrev s_law_wrong_line : Stmt := top 38
abbrev N_law_wrong_line : List Str := ["_law_lines", "_law_words", "_law_at", "_law_line", "_law_rule"]
theorem sc_law_wrong_line : FnScope N_law_wrong_line ["_law_lines"] (defScope s_law_wrong_line) := ⟨rfl, rfl, rfl, by decide +kernel, rfl, by decide +kernel, by decide +kernel⟩
abbrev s_law_told : Stmt := top 39
abbrev N_law_told : List Str := ["_law_text", "_law_found", "e"]
theorem sc_law_told : FnScope N_law_told ["_law_text"] (defScope s_law_told) := ⟨rfl, rfl, rfl, by decide +kernel, rfl, by decide +kernel, by decide +kernel⟩
/-! ### texts: what is asked of them, by both readers -/
theorem oks_of_err {R : RuleD} (e : ruleErr R.st R.ev R.gd R.th R.ds = none) : RuleOks R := by
  unfold ruleErr at e
  cases e1 : isName R.st with
  | false => rw [e1] at e; cases e
  | true =>
  cases e2 : isEvent R.ev with
  | false => rw [e1, e2] at e; cases e
  | true =>
  cases e3 : inV (.str R.gd) (guardsV.map V.str) with
  | false => rw [e1, e2, e3] at e; cases e
  | true =>
  cases e4 : isName R.th with
  | false => rw [e1, e2, e3, e4] at e; cases e
  | true =>
  cases e5 : (R.ds.map (mayDo R.ev)).all id with
  | false => rw [e1, e2, e3, e4, e5] at e; cases e
  | true =>
    refine ⟨e1, e2, inV_mem e3, e4, fun z hz => ?_⟩
    have := (List.all_eq_true.mp e5) (mayDo R.ev z) (List.mem_map.mpr ⟨z, hz, rfl⟩)
    unfold mayDo at this
    exact (Bool.and_eq_true_iff.mp this).1
theorem lineOk_oks {z : Str} (h : lineOk z = true) : RuleOks (lineR z) := oks_of_err (by
  unfold lineOk at h
  cases e : ruleErr (lineR z).st (lineR z).ev (lineR z).gd (lineR z).th (lineR z).ds with
  | none => rfl
  | some m => rw [e] at h; cases h)
/-- the law's reader says the same of a line -/
theorem law_lineOk (z : Str) : lineOk z = match lawR z with | none => false | some R => (ruleErr R.st R.ev R.gd R.th R.ds).isNone := by
  cases e : lineOk z with
  | true =>
    rw [law_line_1 (lineOk_oks e)]
    exact e.symm
  | false =>
    cases el : lawR z with
    | none => rfl
    | some R =>
      show false = (ruleErr R.st R.ev R.gd R.th R.ds).isNone
      cases er : ruleErr R.st R.ev R.gd R.th R.ds with
      | some m => rfl
      | none =>
        have q := law_line_2 el (oks_of_err er)
        unfold lineOk at e
        rw [q, er] at e
        cases e
theorem tl_ok {z : Str} : PyData.strOk z = true ↔ ∀ c ∈ TL.tl z, c < 0x110000 := by
  unfold PyData.strOk
  rw [Array.all_eq_true_iff_forall_mem]
  constructor
  · intro h c hc
    exact of_decide_eq_true (h c (by simpa [TL.tl] using hc))
  · intro h c hc
    exact decide_eq_true (h c (by simpa [TL.tl] using hc))
theorem joinL_of {S : List Nat} {c : Nat} : ∀ {L : List (List Nat)} {p : List Nat}, p ∈ L → c ∈ p → c ∈ TL.joinL S L
  | [], p, h, _ => by cases h
  | [q], p, h, hc => by rw [← List.mem_singleton.mp h]; exact hc
  | q :: q2 :: r, p, h, hc => by
    show c ∈ q ++ (S ++ TL.joinL S (q2 :: r))
    rcases List.mem_cons.mp h with rfl | h
    · exact List.mem_append_left _ hc
    · exact List.mem_append_right _ (List.mem_append_right _ (joinL_of h hc))
theorem split_ok {z y p : Str} (hz : PyData.strOk z = true) (h : p ∈ Txt.split z y) : PyData.strOk p = true := by
  rw [tl_ok] at *
  intro c hc
  refine hz c ?_
  have q := congrArg TL.tl (StrLaws.join_split z y)
  rw [TL.tl_join] at q
  rw [← q]
  exact joinL_of (List.mem_map.mpr ⟨p, h, rfl⟩) hc
theorem join_ok {y : Str} {ps : List Str} (hy : PyData.strOk y = true) (h : ∀ p ∈ ps, PyData.strOk p = true) : PyData.strOk (Str.join y ps) = true := by
  rw [tl_ok] at *
  intro c hc
  rw [TL.tl_join] at hc
  rcases joinL_mem hc with hc | ⟨l, hl, hc⟩
  · exact hy c hc
  · obtain ⟨p, hp, rfl⟩ := List.mem_map.mp hl
    exact (tl_ok.mp (h p hp)) c hc
theorem headD_mem {ws : List Str} (h : ws ≠ []) : ws.headD Str.empty ∈ ws := by
  cases ws with
  | nil => exact absurd rfl h
  | cons a t => exact List.mem_cons_self ..
theorem getLastD_mem {ws : List Str} (h : ws ≠ []) : ws.getLastD Str.empty ∈ ws := by
  rcases List.eq_nil_or_concat ws with e | ⟨m, c, e⟩
  · exact absurd e h
  · rw [e, List.concat_eq_append, List.getLastD_concat]
    exact List.mem_append_right _ (List.mem_singleton.mpr rfl)
/-- the values that the law reads off a line are no longer than the line -/
theorem lawR_small {z : Str} {R : RuleD} (h : lawR z = some R) (hz : z.length ≤ 900) (ho : PyData.strOk z = true) :
    (R.st.length ≤ 1000 ∧ R.ev.length ≤ 1000 ∧ R.th.length ≤ 1000 ∧ R.ds.length ≤ 1000 ∧ ∀ z ∈ R.ds, z.length ≤ 1000) ∧ (PyData.strOk R.st = true ∧ PyData.strOk R.ev = true ∧ PyData.strOk R.th = true ∧ ∀ z ∈ R.ds, PyData.strOk z = true) := by
  unfold lawR at h
  split at h
  · rename_i p0 p1 hs
    split at h
    · cases h
    · rename_i hn
      rw [not_or] at hn
      obtain ⟨n1, n2⟩ := hn
      injection h with h
      subst h
      have c1 : (Str.ofString " ").length = 1 := by decide +kernel
      have c2 : (Str.ofString ", ").length = 2 := by decide +kernel
      have c3 : (Str.ofString ": ").length = 2 := by decide +kernel
      have c4 : (Str.ofString " -> ").length = 4 := by decide +kernel
      obtain ⟨_, b0⟩ := split_bound (x := z) (y := Str.ofString " -> ") (by rw [c4]; decide)
      have l0 : p0.length ≤ z.length := b0 p0 (by rw [hs]; simp)
      have l1 : p1.length ≤ z.length := b0 p1 (by rw [hs]; simp)
      have k0 : PyData.strOk p0 = true := split_ok ho (by rw [hs]; simp)
      have k1 : PyData.strOk p1 = true := split_ok ho (by rw [hs]; simp)
      obtain ⟨m1, m2⟩ := split_bound (x := p0) (y := Str.ofString " ") (by rw [c1]; decide)
      obtain ⟨t1, t2⟩ := split_bound (x := p1) (y := Str.ofString ": ") (by rw [c3]; decide)
      have w0 : Txt.split p0 (Str.ofString " ") ≠ [] := fun e => by rw [e] at n2; simp at n2
      have w1 : Txt.split p1 (Str.ofString ": ") ≠ [] := fun e => by
        rcases split_ne p1 (Str.ofString ": ") (.inr True.intro) with q | q
        · exact q e
        · rw [q] at e
          exact absurd e (by decide +kernel)
      have ev := ev_len (Txt.split p0 (Str.ofString " "))
      rw [StrLaws.join_split] at ev
      have dsq : ∀ (b : Bool), (∀ x ∈ (if (Txt.split p1 (Str.ofString ": ")).length = 2 then Txt.split ((Txt.split p1 (Str.ofString ": ")).tail.headD Str.empty) (Str.ofString ", ") else []), x.length ≤ z.length ∧ PyData.strOk x = true) ∧ (if (Txt.split p1 (Str.ofString ": ")).length = 2 then Txt.split ((Txt.split p1 (Str.ofString ": ")).tail.headD Str.empty) (Str.ofString ", ") else []).length ≤ z.length + 1 := fun _ => by
        split
        · rename_i e2
          have tm : (Txt.split p1 (Str.ofString ": ")).tail.headD Str.empty ∈ Txt.split p1 (Str.ofString ": ") := by
            cases es : Txt.split p1 (Str.ofString ": ") with
            | nil => rw [es] at e2; cases e2
            | cons a t =>
              cases t with
              | nil => rw [es] at e2; cases e2
              | cons b t => exact List.mem_cons_of_mem _ (List.mem_cons_self ..)
          have tl := t2 _ tm
          have tk := split_ok k1 tm
          obtain ⟨d1, d2⟩ := split_bound (x := (Txt.split p1 (Str.ofString ": ")).tail.headD Str.empty) (y := Str.ofString ", ") (by rw [c2]; decide)
          exact ⟨fun x hx => ⟨Nat.le_trans (d2 x hx) (by omega), split_ok tk hx⟩, by omega⟩
        · exact ⟨(fun x hx => by cases hx), (by show 0 ≤ _; omega)⟩
      obtain ⟨q1, q2⟩ := dsq true
      refine ⟨⟨?_, ?_, ?_, ?_, fun x hx => ?_⟩, split_ok k0 (headD_mem w0), ?_, split_ok k1 (headD_mem w1), fun x hx => (q1 x hx).2⟩
      · exact Nat.le_trans (m2 _ (headD_mem w0)) (by omega)
      · show (Str.join _ _).length ≤ 1000
        omega
      · exact Nat.le_trans (t2 _ (headD_mem w1)) (by omega)
      · show (if _ then _ else _ : List Str).length ≤ 1000
        omega
      · have := (q1 x hx).1
        omega
      · exact join_ok (by decide +kernel) fun p hp => split_ok k0 (List.mem_of_mem_tail (List.dropLast_subset _ hp))
  · cases h
theorem head_law (z : Str) : headOk z = match Txt.split z (Str.ofString " ") with | [p, q] => decide (p = Str.ofString "first") && isName q | _ => false := by
  obtain ⟨ps, p1, _, _, _, p5⟩ := phrase_words z [] (txts ["first"]) (fun y hy => by cases hy)
  rw [p1]
  have e : headOk z = isPhrase z [] (txts ["first"]) := by
    unfold isPhrase headOk headP
    rcases part_mid z (Str.ofString " ") with q | ⟨q1, q2, q3⟩
    · have c : (((Txt.partition z (Str.ofString " ")).2.1.length : Int) != 0) = true := by rw [q]; decide +kernel
      rw [if_pos c, inV_strs]
      congr 1
      by_cases h : (Txt.partition z (Str.ofString " ")).1 = Str.ofString "first"
      · rw [decide_eq_true h, h]
        decide +kernel
      · rw [decide_eq_false h, decide_eq_false fun m => h (by simpa [txts] using m)]
    · have c : ¬ (((Txt.partition z (Str.ofString " ")).2.1.length : Int) != 0) = true := by rw [q1]; decide +kernel
      rw [if_neg c, q3]
      have n : isName Str.empty = false := by decide +kernel
      rw [n, Bool.and_false]
      rfl
  rw [e, p5]
  show (false || _) = _
  rw [Bool.false_or]
  match ps with
  | [] => rfl
  | [p] => rfl
  | [p, q] =>
    show (inV (.str p) ((txts ["first"]).map V.str) && isName q) = _
    rw [inV_strs]
    congr 1
    by_cases h : p = Str.ofString "first"
    · rw [decide_eq_true h, h]
      decide +kernel
    · rw [decide_eq_false h, decide_eq_false fun m => h (by simpa [txts] using m)]
  | _ :: _ :: _ :: _ => rfl
/-- a right text is that of its machine -/
theorem mach_text {z : Str} (h : badLine (linesOf z) = none) : machTxt (machOf (linesOf z)) = z := by
  cases el : linesOf z with
  | nil => rw [el] at h; cases h
  | cons y ys =>
    rw [el] at h
    unfold badLine at h
    dsimp only at h
    cases e1 : headOk y with
    | false => rw [e1, if_neg (by decide)] at h; cases h
    | true =>
      rw [e1, if_pos rfl] at h
      have all := (badFrom_none ys 1).mp h
      unfold headOk at e1
      obtain ⟨a1, a2⟩ := Bool.and_eq_true_iff.mp e1
      have a1' : (headP y).1 = Str.ofString "first" := of_decide_eq_true a1
      have hm : (headP y).2.1 = Str.ofString " " := by
        rcases part_mid y (Str.ofString " ") with q | ⟨_, _, q⟩
        · exact q
        · exfalso
          rw [show (headP y).2.2 = Str.empty from q] at a2
          exact absurd a2 (by decide +kernel)
      have hy : headTxt (machOf (y :: ys)) = y := by
        have q := StrLaws.partition_sum y (Str.ofString " ")
        have q' : (headP y).1 ++ (headP y).2.1 ++ (headP y).2.2 = y := q
        rw [a1', hm] at q'
        show Str.ofString "first " ++ (headP y).2.2 = y
        rw [show Str.ofString "first " = Str.ofString "first" ++ Str.ofString " " by decide +kernel]
        exact q'
      have hr : (machOf (y :: ys)).rules.map ruleTxt = ys := by
        show (ys.map lineR).map ruleTxt = ys
        rw [List.map_map]
        have : ∀ l : List Str, (∀ x ∈ l, lineOk x = true) → l.map (ruleTxt ∘ lineR) = l := by
          intro l
          induction l with
          | nil => intro _; rfl
          | cons x l ih =>
            intro hl
            rw [List.map_cons, ih fun q hq => hl q (List.mem_cons_of_mem _ hq)]
            show ruleTxt (lineR x) :: l = x :: l
            rw [line_text (lineOk_oks (hl x (List.mem_cons_self ..)))]
        exact this ys all
      unfold machTxt
      rw [hy, hr, TL.join_eq, ← el]
      exact StrLaws.join_split z (Str.ofString "\n")
end L2.Wk
namespace L2.Wk
open PySem PySem.Spec PyProof.Rows
structure Us where
  rule_of : Addr
  wrong_line : Addr
  told : Addr
  read : Addr
structure TxtU (K : PySem.W.Frag) (mg : Str → Option Value) (x : Ws) (r : Rs) (t : Ts) (u : Us) : Prop extends TxtT K mg x r t where
  g__law_rule_of : mg "_law_rule_of" = some (.ref u.rule_of)
  k__law_rule_of : PySem.W.keepIn K (.ref u.rule_of) = true
  g__law_wrong_line : mg "_law_wrong_line" = some (.ref u.wrong_line)
  k__law_wrong_line : PySem.W.keepIn K (.ref u.wrong_line) = true
  b_enumerate : mg "enumerate" = none
def spRuleOf : Sp := fun vs H Q _ => ∃ z : Str, vs = [.str z] ∧ z.length ≤ 900 ∧ (lawR z = none → ∀ H', Same H H' → Q .non H') ∧
  (∀ R, lawR z = some R → ∀ (p q : Addr) H', Same H H' → H' p = some (.lst [.str R.st, .str R.ev, .str R.gd, .str R.th, .ref q]) → H' q = some (.lst (R.ds.map V.str)) → Q (.ref p) H')
section
variable {P : Program} {w : World} {K : PySem.W.Frag} {mg : Str → Option Value} {base : Heap} {x : Ws} {r : Rs} {t : Ts} {u : Us} {f : Addr} {fd : FuncData}
theorem ok_rule_of (F : Fun K "_law_rule_of" "_law_rule_of" s_law_rule_of f fd) (T : TxtU K mg x r t u) : FnOk P w K mg base CX0 1 f fd ["_law_line"] spRuleOf := by
  refine F.ok sc_law_rule_of (fun vs H Q E h => ?_) (fun cdv A outer s H vs Q E hr h => ?_)
  · obtain ⟨_, rfl, _⟩ := h
    rfl
  · obtain ⟨z, rfl, hz, k1, k2⟩ := h
    have c1 : (Str.ofString " ").length = 1 := by decide +kernel
    have c2 : (Str.ofString ", ").length = 2 := by decide +kernel
    have c3 : (Str.ofString ": ").length = 2 := by decide +kernel
    have c4 : (Str.ofString " -> ").length = 4 := by decide +kernel
    refine ⟨_, (pss_cons (ps_set (i := 1) sc_law_rule_of.nd rfl (Or.inl rfl) (pe_split (pv 0) pe_str))
    (pss_cons (ps_if (pt_cmpR op_ne (pe_callB call_len (by rfl) T.b_len PySem.boot_len (pa_cons (pv 1) pa_nil)) pe_int (nomark _)) (pss_one (ps_ret pe_non)) pss_nil)
    (pss_cons (ps_par (i := 2) (j := 3) rfl sc_law_rule_of.nd rfl rfl (by decide) rfl rfl (pa_cons (pe_split (pe_ix (ix_listK (K := K) rfl) (pv 1) pe_int (fun _ _ => rfl)) pe_str) (pa_cons (pe_split (pe_ix (ix_listK (K := K) rfl) (pv 1) pe_int (fun _ _ => rfl)) pe_str) pa_nil)) rfl)
    (pss_cons (ps_if (PW.pt (pw_or (pt_cmpR op_gt (pe_callB call_len (by rfl) T.b_len PySem.boot_len (pa_cons (pv 3) pa_nil)) pe_int (nomark _)) (pw_or1 (pt_cmpR op_lt (pe_callB call_len (by rfl) T.b_len PySem.boot_len (pa_cons (pv 2) pa_nil)) pe_int (nomark _))))) (pss_one (ps_ret pe_non)) pss_nil)
    (pss_one (ps_ret (pe_lst (pa_cons (pe_ix (ix_listK (K := K) rfl) (pv 2) pe_int (fun _ _ => rfl)) (pa_cons (pe_joinK (K := K) rfl pe_str (pe_slice (sl_listK (K := K) rfl) (pv 2) (po_some pe_int) (po_some (pe_un un_neg pe_int)))) (pa_cons (pe_ix (ix_listK (K := K) rfl) (pv 2) (pe_un un_neg pe_int) (fun _ _ => rfl)) (pa_cons (pe_ix (ix_listK (K := K) rfl) (pv 3) pe_int (fun _ _ => rfl)) (pa_cons (pe_ifExp (pt_cmpR op_eq (pe_callB call_len (by rfl) T.b_len PySem.boot_len (pa_cons (pv 3) pa_nil)) pe_int (nomark _)) (pe_split (pe_ix (ix_listK (K := K) rfl) (pv 3) pe_int (fun _ _ => rfl)) pe_str) (pe_lst pa_nil)) pa_nil)))))))))))), ?_⟩
    obtain ⟨b1, b2⟩ := split_bound (x := z) (y := Str.ofString " -> ") (by rw [c4]; decide)
    refine ⟨_, rfl, ⟨_, rfl⟩, z, Str.ofString " -> ", rfl, rfl, by decide +kernel, big_ok (by omega), fun pl hpl => ?_⟩
    unfold lawR at k1 k2
    have s1 := Same.upd_new (o := .lst ((Txt.split z (Str.ofString " -> ")).map V.str)) hpl
    have hl1 : (upd H pl (.lst ((Txt.split z (Str.ofString " -> ")).map V.str))) pl = some (.lst ((Txt.split z (Str.ofString " -> ")).map V.str)) := upd_same
    generalize upd H pl _ = H1 at s1 hl1 ⊢
    generalize Txt.split z (Str.ofString " -> ") = ps at *
    refine ⟨_, rfl, _, ps.length, rfl, .inl ⟨_, .inl (.inl hl1), by rw [List.length_map]⟩, rfl, _, rfl, ?_⟩
    have no2 : ps.length ≠ 2 → (!decide (V.int (ps.length : Nat) = V.int 2)) = true := fun h => by
      have : V.int (ps.length : Nat) ≠ V.int 2 := fun e => h (by injection e with e; omega)
      simp [this]
    match ps, no2 with
    | [], no2 => exact iteTh (no2 (by simp)) (k1 rfl _ s1)
    | [p], no2 => exact iteTh (no2 (by simp)) (k1 rfl _ s1)
    | p :: q :: o :: rest, no2 => exact iteTh (no2 (by simp)) (k1 rfl _ s1)
    | [p0, p1], _ =>
    refine iteFh rfl ?_
    have l0 : p0.length ≤ z.length := b2 p0 (by simp)
    have l1 : p1.length ≤ z.length := b2 p1 (by simp)
    dsimp only at k1 k2
    obtain ⟨w1, w2⟩ := split_bound (x := p0) (y := Str.ofString " ") (by rw [c1]; decide)
    obtain ⟨t1, t2⟩ := split_bound (x := p1) (y := Str.ofString ": ") (by rw [c3]; decide)
    refine ⟨_, rfl, pl, _, 0, _, rfl, rfl, .inl (.inl hl1), atI_nat (j := 0) rfl, ⟨_, rfl⟩, p0, Str.ofString " ", rfl, rfl, by decide +kernel, big_ok (by omega), fun pw hpw => ?_⟩
    have s2 := s1.trans (Same.upd_new (o := .lst ((Txt.split p0 (Str.ofString " ")).map V.str)) hpw)
    have hl2 := (Same.upd_new (o := .lst ((Txt.split p0 (Str.ofString " ")).map V.str)) hpw) _ _ hl1
    have hw2 : (upd H1 pw (.lst ((Txt.split p0 (Str.ofString " ")).map V.str))) pw = some (.lst ((Txt.split p0 (Str.ofString " ")).map V.str)) := upd_same
    generalize upd H1 pw _ = H2 at s2 hl2 hw2 ⊢
    refine ⟨_, rfl, pl, _, 1, _, rfl, rfl, .inl (.inl hl2), atI_nat (j := 1) rfl, ⟨_, rfl⟩, p1, Str.ofString ": ", rfl, rfl, by decide +kernel, big_ok (by omega), fun pt hpt => ?_⟩
    have s3 := s2.trans (Same.upd_new (o := .lst ((Txt.split p1 (Str.ofString ": ")).map V.str)) hpt)
    have hw3 := (Same.upd_new (o := .lst ((Txt.split p1 (Str.ofString ": ")).map V.str)) hpt) _ _ hw2
    have ht3 : (upd H2 pt (.lst ((Txt.split p1 (Str.ofString ": ")).map V.str))) pt = some (.lst ((Txt.split p1 (Str.ofString ": ")).map V.str)) := upd_same
    generalize upd H2 pt _ = H3 at s3 hw3 ht3 ⊢
    have wne : Txt.split p0 (Str.ofString " ") ≠ [] := by
      obtain ⟨ps, h1, _, _, h4⟩ := parts_of p0
      rw [h4]
      exact h1
    have tne : Txt.split p1 (Str.ofString ": ") ≠ [] := fun e => by
      rcases split_ne p1 (Str.ofString ": ") (.inr True.intro) with q | q
      · exact q e
      · rw [q] at e
        exact absurd e (by decide +kernel)
    have dwe := split_bound (x := p0) (y := Str.ofString " ") (by rw [c1]; decide)
    have ev0 := ev_len (Txt.split p0 (Str.ofString " "))
    rw [StrLaws.join_split] at ev0
    have wl : ∀ p ∈ Txt.split p0 (Str.ofString " "), p.length ≤ 900 := fun p hp => Nat.le_trans (w2 p hp) (by omega)
    have tl : ∀ p ∈ Txt.split p1 (Str.ofString ": "), p.length ≤ 900 := fun p hp => Nat.le_trans (t2 p hp) (by omega)
    generalize Txt.split p0 (Str.ofString " ") = ws at *
    generalize Txt.split p1 (Str.ofString ": ") = ts at *
    refine ⟨_, _, rfl, ?_⟩
    refine ⟨_, rfl, _, ts.length, rfl, .inl ⟨_, .inl (.inl ht3), by rw [List.length_map]⟩, _, _, rfl, rfl, _, rfl, ?_⟩
    by_cases e1 : 2 < ts.length
    · refine iteTh (decide_eq_true (by omega)) (iteT ?_)
      exact k1 (if_pos (.inl e1)) _ s3
    refine iteFh (decide_eq_false (by omega)) ?_
    refine ⟨_, rfl, _, ws.length, rfl, .inl ⟨_, .inl (.inl hw3), by rw [List.length_map]⟩, _, _, rfl, rfl, _, rfl, ?_⟩
    by_cases e2 : ws.length < 3
    · refine iteTh (decide_eq_true (by omega)) ?_
      exact k1 (if_pos (.inr e2)) _ s3
    refine iteFh (decide_eq_false (by omega)) ?_
    rw [if_neg (by omega)] at k2
    replace k2 := k2 _ rfl
    obtain ⟨we1, we2, we3⟩ := words_ends wne
    have te1 := (words_ends tne).1
    refine ⟨_, rfl, pw, _, _, _, rfl, rfl, .inl (.inl hw3), we1, ?_⟩
    refine ⟨⟨_, rfl⟩, _, rfl, _, rfl, 1, rfl, _, rfl, pw, _, rfl, .inl (.inl hw3), fun pc hpc => ?_⟩
    rw [we2]
    have dl : ∀ p ∈ ws.tail.dropLast, p.length ≤ 900 := fun p hp => wl p (List.mem_of_mem_tail (List.dropLast_subset _ hp))
    have dn : ws.tail.dropLast.length ≤ 901 := by rw [List.length_dropLast, List.length_tail]; omega
    have s4 := s3.trans (Same.upd_new (o := .lst ((ws.tail.dropLast).map V.str)) hpc)
    have hw4 := (Same.upd_new (o := .lst ((ws.tail.dropLast).map V.str)) hpc) _ _ hw3
    have ht4 := (Same.upd_new (o := .lst ((ws.tail.dropLast).map V.str)) hpc) _ _ ht3
    refine ⟨_, pc, ws.tail.dropLast, rfl, rfl, .inl (.inl (.inl upd_same)), (by have := sum_900 dl; rw [c1]; omega), ?_⟩
    rw [TL.join_eq]
    generalize upd H3 pc _ = H4 at s4 hw4 ht4 ⊢
    refine ⟨_, rfl, _, rfl, pw, _, _, _, rfl, rfl, .inl (.inl hw4), we3, ?_⟩
    refine ⟨_, rfl, pt, _, _, _, rfl, rfl, .inl (.inl ht4), te1, ?_⟩
    refine ⟨_, rfl, _, ts.length, rfl, .inl ⟨_, .inl (.inl ht4), by rw [List.length_map]⟩, rfl, _, rfl, ?_⟩
    by_cases e3 : ts.length = 2
    · refine iteTh (by rw [e3]; rfl) ?_
      rw [if_pos e3] at k2
      match ts, e3 with
      | [ta, tb], _ =>
      have lb := tl tb (by simp)
      refine ⟨_, rfl, pt, _, 1, _, rfl, rfl, .inl (.inl ht4), atI_nat (j := 1) rfl, ⟨_, rfl⟩, tb, Str.ofString ", ", rfl, rfl, by decide +kernel, big_ok (by omega), fun pd hpd => ?_⟩
      refine ⟨(by show 5 ≤ sizeLine; decide), fun p hp => ?_⟩
      exact k2 p pd _ ((s4.trans (Same.upd_new hpd)).trans (Same.upd_new hp)) upd_same ((Same.upd_new hp) _ _ upd_same)
    · refine iteFh (decide_eq_false fun e => e3 (by injection e with e; omega)) ?_
      rw [if_neg e3] at k2
      refine ⟨(by show 0 ≤ sizeLine; decide), fun pd hpd => ?_⟩
      refine ⟨(by show 5 ≤ sizeLine; decide), fun p hp => ?_⟩
      exact k2 p pd _ ((s4.trans (Same.upd_new hpd)).trans (Same.upd_new hp)) upd_same ((Same.upd_new hp) _ _ upd_same)
def badV : Option Nat → V
  | none => .non
  | some n => .int (n : Nat)
def spWrongLine : Sp := fun vs H Q _ => ∃ (pl : Addr) (ls : List Str), vs = [.ref pl] ∧ H pl = some (.lst (ls.map V.str)) ∧ ls ≠ [] ∧ ls.length ≤ 900 ∧ (∀ y ∈ ls, y.length ≤ 900 ∧ PyData.strOk y = true) ∧ ∀ H', Same H H' → Q (badV (badLine ls)) H'
theorem ok_wrong_line {f1 f2 f3 : FuncData} (F : Fun K "_law_wrong_line" "_law_wrong_line" s_law_wrong_line f fd) (T : TxtU K mg x r t u)
    (G__law_is_name : FnOk P w K mg base CX0 1 t.is_name f1 ["_law_value"] (spTxtO isName)) (b__law_is_name : Binds K f1 ["_law_value"] [])
    (G__law_rule_of : FnOk P w K mg base CX0 1 u.rule_of f2 ["_law_line"] spRuleOf) (b__law_rule_of : Binds K f2 ["_law_line"] [])
    (G__law_wrong : FnOk P w K mg base CX0 4 t.wrong f3 ["_law_rule"] spRow5) (b__law_wrong : Binds K f3 ["_law_rule"] []) :
    FnOk P w K mg base CX0 5 f fd ["_law_lines"] spWrongLine := by
  refine F.ok sc_law_wrong_line (fun vs H Q E h => ?_) (fun cdv A outer s H vs Q E hr h => ?_)
  · obtain ⟨_, _, rfl, _⟩ := h
    rfl
  · obtain ⟨pl, ls, rfl, hl, ne, few, short, k⟩ := h
    refine ⟨_, (pss_cons (ps_set (i := 1) sc_law_wrong_line.nd rfl (Or.inl rfl) (pe_split (pe_ix (ix_listK (K := K) rfl) (pv 0) pe_int (fun _ _ => rfl)) pe_str))
    (pss_cons (ps_if (PW.pt (pw_or (pt_cmpR op_ne (pe_callB call_len (by rfl) T.b_len PySem.boot_len (pa_cons (pv 1) pa_nil)) pe_int (nomark _)) (pw_or (pt_cmpR op_ne (pe_ix (ix_listK (K := K) rfl) (pv 1) pe_int (fun _ _ => rfl)) pe_str (nomark _)) (pw_or1 (pt_not (pt_val (pe_call G__law_is_name (hr.mono (by decide)) rfl T.g__law_is_name T.k__law_is_name b__law_is_name .nil pass0 (pa_cons (pe_ix (ix_listK (K := K) rfl) (pv 1) pe_int (fun _ _ => rfl)) pa_nil)))))))) (pss_one (ps_ret pe_int)) pss_nil)
    (pss_cons (ps_for PassesOwn.never rfl (pi_enum (by rfl) T.b_enumerate (pa_cons (pv 0) pa_nil)) (pg_tup rfl (pgs_cons (pg_name (i := 2) sc_law_wrong_line.nd rfl (Or.inl rfl)) (pgs_cons (pg_name (i := 3) sc_law_wrong_line.nd rfl (Or.inl rfl)) pgs_nil)))
      (pss_cons (ps_set (i := 4) sc_law_wrong_line.nd rfl (Or.inl rfl) (pe_ifExp (pt_cmpR op_gt (pv 2) pe_int (nomark _)) (pe_call G__law_rule_of (hr.mono (by decide)) rfl T.g__law_rule_of T.k__law_rule_of b__law_rule_of .nil pass0 (pa_cons (pv 3) pa_nil)) pe_non))
      (pss_one (ps_if (PW.pt (pw_and (pt_cmpR op_gt (pv 2) pe_int (nomark _)) (pw_and1 (PW.pt (pw_or (pt_cmpR op_isN (pv 4) pe_non (nomark _)) (pw_or1 (pt_cmpR op_notN (pe_call G__law_wrong (hr.mono (by decide)) rfl T.g__law_wrong T.k__law_wrong b__law_wrong .nil pass0 (pa_cons (pv 4) pa_nil)) pe_non (nomark _)))))))) (pss_one (ps_ret (pv 2))) pss_nil))))
    (pss_one (ps_ret pe_non))))), ?_⟩
    obtain ⟨y, ys, rfl⟩ : ∃ y ys, ls = y :: ys := by
      cases ls with
      | nil => exact absurd rfl ne
      | cons y ys => exact ⟨y, ys, rfl⟩
    obtain ⟨hy, hyo⟩ := short y (List.mem_cons_self ..)
    have c1 : (Str.ofString " ").length = 1 := by decide +kernel
    obtain ⟨w1, w2⟩ := split_bound (x := y) (y := Str.ofString " ") (by rw [c1]; decide)
    refine ⟨_, rfl, pl, _, 0, _, rfl, rfl, .inl (.inl hl), atI_nat (j := 0) rfl, ⟨_, rfl⟩, y, Str.ofString " ", rfl, rfl, by decide +kernel, big_ok (by omega), fun pw hpw => ?_⟩
    have s1 := Same.upd_new (o := .lst ((Txt.split y (Str.ofString " ")).map V.str)) hpw
    have hw1 : (upd H pw (.lst ((Txt.split y (Str.ofString " ")).map V.str))) pw = some (.lst ((Txt.split y (Str.ofString " ")).map V.str)) := upd_same
    generalize upd H pw _ = H1 at s1 hw1 ⊢
    have hk := head_law y
    have wo : ∀ p ∈ Txt.split y (Str.ofString " "), PyData.strOk p = true := fun p hp => split_ok hyo hp
    generalize Txt.split y (Str.ofString " ") = ws at *
    refine ⟨_, rfl, _, ws.length, rfl, .inl ⟨_, .inl (.inl hw1), by rw [List.length_map]⟩, rfl, _, rfl, ?_⟩
    have no2 : ws.length ≠ 2 → (!decide (V.int (ws.length : Nat) = V.int 2)) = true := fun h => by
      have : V.int (ws.length : Nat) ≠ V.int 2 := fun e => h (by injection e with e; omega)
      simp [this]
    have bad0 : headOk y = false → badLine (y :: ys) = some 0 := fun e => by
      unfold badLine
      dsimp only
      rw [e, if_neg (by decide)]
    match ws, no2 with
    | [], no2 =>
      refine iteTh (no2 (by simp)) (iteT ?_)
      rw [bad0 hk] at k
      exact k _ s1
    | [p], no2 =>
      refine iteTh (no2 (by simp)) (iteT ?_)
      rw [bad0 hk] at k
      exact k _ s1
    | p :: q :: o :: rest, no2 =>
      refine iteTh (no2 (by simp)) (iteT ?_)
      rw [bad0 hk] at k
      exact k _ s1
    | [p, q], _ =>
    refine iteFh rfl ?_
    have hk : headOk y = (decide (p = Str.ofString "first") && isName q) := hk
    refine ⟨_, rfl, pw, _, 0, _, rfl, rfl, .inl (.inl hw1), atI_nat (j := 0) rfl, rfl, _, rfl, ?_⟩
    cases e1 : decide (p = Str.ofString "first") with
    | false =>
      have en : (!decide (V.str p = V.str (Str.ofString "first"))) = true := by
        have : ¬ p = Str.ofString "first" := of_decide_eq_false e1
        simp [this]
      refine iteTh en (iteT ?_)
      rw [bad0 (by rw [hk, e1]; rfl)] at k
      exact k _ s1
    | true =>
    have en : (!decide (V.str p = V.str (Str.ofString "first"))) = false := by
      have : p = Str.ofString "first" := of_decide_eq_true e1
      simp [this]
    refine iteFh en ?_
    have hq : q.length ≤ 900 := Nat.le_trans (w2 q (by simp)) hy
    refine ⟨_, rfl, pw, _, 1, _, rfl, rfl, .inl (.inl hw1), atI_nat (j := 1) rfl, q, rfl, by omega, wo q (by simp), fun H2 s2 => ⟨_, rfl, ?_⟩⟩
    replace s2 := s1.trans s2
    cases e2 : isName q with
    | false =>
      refine iteT ?_
      rw [bad0 (by rw [hk, e1, e2]; rfl)] at k
      exact k _ s2
    | true =>
    refine iteF ?_
    have bn : badLine (y :: ys) = badFrom 1 ys := by
      unfold badLine
      dsimp only
      rw [hk, e1, e2]
      rfl
    rw [bn] at k
    have hl2 := s2 _ _ hl
    refine ⟨_, rfl, pl, _, rfl, .inl (.inl hl2), ?_⟩
    refine for_enumL (fun i σ H' => ∃ v2 v3 v4 : Option V, σ = [some (.ref pl), some (.ref pw), v2, v3, v4] ∧ Same H H' ∧ badFrom 1 (ys.take (i - 1)) = none) ⟨_, _, _, rfl, s2, rfl⟩ (fun i σ H' _ ⟨_, _, _, _, h, _⟩ => .inl (.inl (h _ _ hl))) ?_ ?_
    · rintro i x σ H3 Tp hx ⟨v2, v3, v4, rfl, s3, hno⟩ hTp
      obtain ⟨z, hzm, hz, rfl⟩ := get_map_str hx
      obtain ⟨hz1, hz2⟩ := short z hzm
      have sT := s3.trans (Same.upd_new (o := .tup [.int (i : Nat), .str z]) hTp)
      refine ⟨Tp, _, rfl, .inl (.inl upd_same), rfl, _, _, rfl, _, _, rfl, rfl, ?_⟩
      generalize upd H3 Tp _ = H4 at sT ⊢
      refine ⟨_, rfl, _, _, rfl, rfl, _, rfl, ?_⟩
      by_cases i0 : i = 0
      · subst i0
        refine iteFh rfl ?_
        refine ⟨_, rfl, _, _, rfl, rfl, _, rfl, ?_⟩
        refine iteFh rfl (iteF ?_)
        exact ⟨_, _, _, rfl, sT, rfl⟩
      refine iteTh (decide_eq_true (by omega)) ?_
      obtain ⟨j, rfl⟩ : ∃ j, i = j + 1 := ⟨i - 1, by omega⟩
      rw [Nat.add_sub_cancel] at hno
      have hzy : ys[j]? = some z := by simpa using hz
      have hj : j < ys.length := (List.getElem?_eq_some_iff.mp hzy).1
      have tk : ys.take (j + 1) = ys.take j ++ [z] := by rw [List.take_add_one, hzy]; rfl
      have bs := badFrom_snoc (ys.take j) 1 z hno
      rw [← tk] at bs
      have tj : (ys.take j).length = j := by rw [List.length_take]; omega
      rw [tj] at bs
      have lo := law_lineOk z
      have bbad : lineOk z = false → badFrom 1 ys = some (j + 1) := fun e => by
        rw [e, if_neg (by decide), Nat.add_comm 1 j] at bs
        have := badFrom_pre (ys.take (j + 1)) (ys.drop (j + 1)) 1 (j + 1) bs
        rw [List.take_append_drop] at this
        exact this
      refine ⟨_, rfl, z, rfl, hz1, fun el H5 s5 => ?_, fun R el pr qr H5 s5 hpr hqr => ?_⟩
      · rw [el] at lo
        dsimp only at lo
        replace s5 := sT.trans s5
        refine ⟨_, rfl, _, _, rfl, rfl, _, rfl, ?_⟩
        refine iteTh (decide_eq_true (by omega)) ?_
        refine ⟨_, rfl, rfl, _, rfl, ?_⟩
        refine iteTh rfl (iteT ?_)
        have q := k _ s5
        rw [bbad lo] at q
        exact ⟨_, rfl, q⟩
      · rw [el] at lo
        dsimp only at lo
        replace s5 := sT.trans s5
        obtain ⟨rs1, rs2⟩ := lawR_small el hz1 hz2
        refine ⟨_, rfl, _, _, rfl, rfl, _, rfl, ?_⟩
        refine iteTh (decide_eq_true (by omega)) ?_
        refine ⟨_, rfl, rfl, _, rfl, ?_⟩
        refine iteFh rfl ?_
        refine ⟨_, rfl, pr, qr, R, rfl, hpr, hqr, rs1, rs2, fun H6 s6 => ?_⟩
        replace s6 := s5.trans s6
        cases er : ruleErr R.st R.ev R.gd R.th R.ds with
        | none =>
          refine ⟨rfl, _, rfl, iteFh rfl ?_⟩
          rw [er] at lo
          have lo' : lineOk z = true := lo
          rw [lo', if_pos rfl] at bs
          exact ⟨_, _, _, rfl, s6, bs⟩
        | some m =>
          refine ⟨rfl, _, rfl, iteTh rfl ?_⟩
          rw [er] at lo
          have q := k _ s6
          rw [bbad lo] at q
          exact ⟨_, rfl, q⟩
    · rintro σ H3 ⟨v2, v3, v4, rfl, s3, hno⟩
      have q := k _ s3
      rw [List.length_map, List.length_cons, Nat.add_sub_cancel, List.take_length] at hno
      rw [hno] at q
      exact q
end
end L2.Wk
namespace L2.Wk
open PySem PySem.Spec PyProof.Rows
structure TxtV (K : PySem.W.Frag) (mg : Str → Option Value) (x : Ws) (r : Rs) (q : RTs) (c : Cs) (n : Ns) (m : MTs) (rr IT fIT : Addr) (t : Ts) (u : Us) (we pm : Addr) : Prop extends TxtRT2 K mg x r q c n m rr IT fIT, TxtU K mg x r t u where
  g__law_told : mg "_law_told" = some (.ref u.told)
  k__law_told : PySem.W.keepIn K (.ref u.told) = true
  g_WakeError : mg "WakeError" = some (.ref we)
  g_InvalidMachine : mg "InvalidMachine" = some (.ref r.IM)
  xc_InvalidText : ExcC K IT
  kit_TW : PySem.W.kitOne K (.ref IT) (.ref we) = some true
  kit_TI : PySem.W.kitOne K (.ref IT) (.ref r.IM) = some false
  cr_Machine : ClX.CRead K c.Machine (.type "type")
  cm_Machine_read : ClX.CMet K c.Machine (.type "type") "read" pm u.read
def ansV (z : Str) : V := match badLine (linesOf z) with
  | none => .str z
  | some n => .int (n : Nat)
def spToldT : Sp := fun vs H Q _ => ∃ z : Str, vs = [.str z] ∧ TextOk z ∧ ∀ H', Same H H' → Q (ansV z) H'
section
variable {P : Program} {w : World} {K : PySem.W.Frag} {mg : Str → Option Value} {base : Heap} {x : Ws} {r : Rs} {q : RTs} {c : Cs} {n : Ns} {m : MTs} {rr IT fIT : Addr} {t : Ts} {u : Us} {we pm : Addr} {f : Addr} {fd : FuncData}
theorem ok_told_x {f1 : FuncData} (F : Fun K "_law_told" "_law_told" s_law_told f fd) (T : TxtV K mg x r q c n m rr IT fIT t u we pm)
    (G_Machine_str : FnOk P w K mg base CX0 5 m.Machine_str f1 ["self"] (spStrM K r c)) (b_Machine_str : Binds K f1 ["self"] [])
    (R_Machine_read : FnR P w K mg base (L2.CX P w) 8 u.read (spReadT K r c IT)) :
    FnOk P w K mg base CX0 9 f fd ["_law_text"] spToldT := by
  refine F.ok sc_law_told (fun vs H Q E h => ?_) (fun cdv A outer s H vs Q E hr h => ?_)
  · obtain ⟨_, rfl, _⟩ := h
    rfl
  · obtain ⟨z, rfl, ok, k⟩ := h
    refine ⟨_, (pss_cons (ps_set (i := 1) sc_law_told.nd rfl (Or.inl rfl) pe_str)
    (pss_cons (ps_try_as (i := 2) rfl rfl sc_law_told.nd rfl rfl ⟨rfl, by decide, Or.inl T.low_InvalidText.gC⟩ takes0
      (fun W pn xe tk _ => (pss_one (ps_set (i := 1) sc_law_told.nd rfl (Or.inl rfl) (pe_callTy (call_strOwn (E := E0) T.a_Machine_str T.i_Machine_str G_Machine_str b_Machine_str (hr.mono (by decide)) pass0) (by rfl) T.b_str (by decide +kernel) (pa_cons (pe_cmethS (pe_gr rfl T.g_Machine) T.cr_Machine T.cm_Machine_read R_Machine_read (hr.mono (by decide)) (fun σ => passAt tk σ) (pa_cons (pv 0) pa_nil)) pa_nil)))))
      (fun ae oe cls d pn hz hf => (pss_one (ps_set (i := 1) sc_law_told.nd rfl (Or.inl rfl) (pe_ifExp (PW.pt (pw_and (pt_val (pe_callB (call_isX T.xc_InvalidText hz hf) (by rfl) T.b_isinstance (by decide +kernel) (pa_cons (pv 2) (pa_cons (pe_gr rfl T.g_WakeError) pa_nil)))) (pw_and1 (pt_not (pt_val (pe_callB (call_isX T.xc_InvalidText hz hf) (by rfl) T.b_isinstance (by decide +kernel) (pa_cons (pv 2) (pa_cons (pe_gr rfl T.g_InvalidMachine) pa_nil)))))))) (pe_byLow_InvalidText T.low_InvalidText hz hf (pv 2)) pe_str)))))
    (pss_one (ps_ret (pv 1))))), ?_⟩
    have kz : ∀ H', Same H H' → Q (match badLine (linesOf z) with | none => .str z | some n => .int (n : Nat)) H' := k
    refine ⟨rfl, _, rfl, z, rfl, ok, fun hb p H1 hM s1 => ?_, fun n hn d H1 s1 hd => ?_⟩
    · rw [hb] at kz
      have ht := mach_text hb
      have hM' := hM.ex
      obtain ⟨dx, tr, ts, ta, tf, ws, l1, l2, l3, hp, _⟩ := hM'
      refine ⟨p, _, _, rfl, hp, p, _, rfl, hM, ok.small hb, fun H2 s2 => ?_⟩
      refine ⟨_, rfl, ?_⟩
      have kz' := kz _ (s1.trans s2)
      rw [ht]
      exact ⟨_, rfl, kz'⟩
    · rw [hn] at kz
      refine ⟨true, T.low_InvalidText.te, fun _ ea _ => ?_, fun q => Bool.noConfusion q⟩
      refine ⟨_, rfl, rfl, _, _, true, d, _, rfl, .own we, rfl, hd, T.kit_TW, true, rfl, iteT ?_⟩
      refine ⟨_, rfl, rfl, _, _, false, d, _, rfl, .own r.IM, rfl, hd, T.kit_TI, false, rfl, ?_⟩
      refine iteTh rfl ?_
      refine ⟨_, rfl, rfl, rfl, d, _, rfl, hd, ?_⟩
      exact ⟨_, rfl, kz _ s1⟩
end
end L2.Wk
namespace L2.Wk
open PySem PySem.Spec PyProof.Rows
/-! ### bent texts: how long, how many names -/
theorem name_14 {z : Str} (h : isName z = true) : 1 ≤ z.length ∧ z.length ≤ 4 := by
  unfold isName at h
  rw [Bool.and_eq_true_iff, Bool.and_eq_true_iff, Bool.and_eq_true_iff] at h
  obtain ⟨_, ⟨h1, h2⟩, _⟩ := h
  have h1 := of_decide_eq_true h1
  have h2 := of_decide_eq_true h2
  omega
theorem phrase_bounds {z : Str} {as bs : List Str} {lo : Nat} (ha : ∀ y ∈ as, (lo ≤ y.length ∧ y.length ≤ 10) ∧ 32 ∉ TL.tl y) (hb : ∀ y ∈ bs, 1 ≤ y.length ∧ y.length ≤ 5) (hl : lo ≤ 3) (h : isPhrase z as bs = true) : lo ≤ z.length ∧ z.length ≤ 10 := by
  obtain ⟨ps, p1, _, _, _, p5⟩ := phrase_words z as bs fun y hy => (ha y hy).2
  rw [p5] at h
  have c1 : (Str.ofString " ").length = 1 := by decide +kernel
  rcases Bool.or_eq_true_iff.mp h with h | h
  · exact (ha z (inV_mem h)).1
  · have ej := StrLaws.join_split z (Str.ofString " ")
    rw [p1] at ej
    match ps, h, ej with
    | [p, q], h, ej =>
      obtain ⟨h1, h2⟩ := Bool.and_eq_true_iff.mp h
      obtain ⟨b1, b2⟩ := hb p (inV_mem h1)
      obtain ⟨n1, n2⟩ := name_14 h2
      rw [join_two, join_one] at ej
      rw [← ej, app_len, app_len, c1]
      omega
    | [], h, _ => cases h
    | [_], h, _ => cases h
    | _ :: _ :: _ :: _, h, _ => cases h
theorem deed_210 {z : Str} (h : isDeed z = true) : 2 ≤ z.length ∧ z.length ≤ 10 := phrase_bounds (by decide +kernel) (by decide +kernel) (by decide) h
theorem event_310 {z : Str} (h : isEvent z = true) : 3 ≤ z.length ∧ z.length ≤ 10 := phrase_bounds (by decide +kernel) (by decide +kernel) (by decide) h
theorem guard_35 : ∀ z ∈ guardsV, 3 ≤ z.length ∧ z.length ≤ 5 := by decide +kernel
theorem rule_len (R : RuleD) : (ruleTxt R).length = R.st.length + R.ev.length + R.gd.length + R.th.length + 6 + (deedsTxt R.ds).length := by
  have c1 : (Str.ofString " ").length = 1 := by decide +kernel
  have c4 : (Str.ofString " -> ").length = 4 := by decide +kernel
  rw [rule_pieces]
  unfold headOf tailOf
  simp only [app_len, c1, c4]
  omega
theorem sum_ge {c : Nat} : ∀ {l : List Str}, (∀ z ∈ l, c ≤ z.length) → c * l.length ≤ (l.map fun z => z.length).sum
  | [], _ => by simp
  | z :: l, h => by
    have := sum_ge fun y hy => h y (List.mem_cons_of_mem _ hy)
    have h0 := h z (List.mem_cons_self ..)
    rw [List.map_cons, List.sum_cons, List.length_cons, Nat.mul_add, Nat.mul_one]
    omega
theorem rule_lens {R : RuleD} (h : RuleOks R) : 14 + 4 * R.ds.length ≤ (ruleTxt R).length ∧ (ruleTxt R).length ≤ 29 + 12 * R.ds.length := by
  rw [rule_len, deedsTxt_len]
  obtain ⟨a1, a2⟩ := name_14 h.st
  obtain ⟨b1, b2⟩ := event_310 h.ev
  obtain ⟨c1, c2⟩ := guard_35 _ h.gd
  obtain ⟨d1, d2⟩ := name_14 h.th
  have s1 := sum_ge (c := 2) fun z hz => (deed_210 (h.ds z hz)).1
  have s2 := sum_le (c := 10) fun z hz => (deed_210 (h.ds z hz)).2
  split
  · rename_i e
    rw [e, List.length_nil]
    omega
  · omega
theorem line_lens {y : Str} (h : lineOk y = true) : 14 + 4 * (lineR y).ds.length ≤ y.length := by
  have o := lineOk_oks h
  have := (rule_lens o).1
  rw [line_text o] at this
  exact this
theorem line_small {y : Str} (h : lineOk y = true) (hy : y.length ≤ 300) : RuleSmall (lineR y) := by
  have o := lineOk_oks h
  have l := line_lens h
  exact ⟨Nat.le_trans (name_14 o.st).2 (by decide), Nat.le_trans (event_310 o.ev).2 (by decide), Nat.le_trans (guard_35 _ o.gd).2 (by decide), Nat.le_trans (name_14 o.th).2 (by decide), by omega, fun z hz => Nat.le_trans (deed_210 (o.ds z hz)).2 (by decide)⟩
theorem behind_mem {Rs : List RuleD} {kinds : List Str} {x : Str} (h : x ∈ behind Rs kinds) : ∃ R ∈ Rs, x ∈ behind [R] kinds := by
  unfold behind at h
  obtain ⟨z, hz, rfl⟩ := List.mem_map.mp h
  obtain ⟨hz1, hz2⟩ := List.mem_filter.mp hz
  obtain ⟨R, hR, hz⟩ := List.mem_flatMap.mp hz1
  refine ⟨R, hR, List.mem_map.mpr ⟨z, List.mem_filter.mpr ⟨List.mem_flatMap.mpr ⟨R, List.mem_singleton.mpr rfl, hz⟩, hz2⟩, rfl⟩⟩
theorem behind_one (R : RuleD) (kinds : List Str) : (behind [R] kinds).length ≤ 1 + R.ds.length := by
  unfold behind phrasesL
  rw [List.length_map]
  refine Nat.le_trans (List.length_filter_le _ _) ?_
  simp
  omega
theorem behind_sub {R : RuleD} {Rs : List RuleD} {kinds : List Str} (h : R ∈ Rs) {x : Str} (hx : x ∈ behind [R] kinds) : x ∈ behind Rs kinds := by
  unfold behind at *
  obtain ⟨z, hz, rfl⟩ := List.mem_map.mp hx
  obtain ⟨hz1, hz2⟩ := List.mem_filter.mp hz
  obtain ⟨R', hR', hz⟩ := List.mem_flatMap.mp hz1
  rw [List.mem_singleton.mp hR'] at hz
  exact List.mem_map.mpr ⟨z, List.mem_filter.mpr ⟨List.mem_flatMap.mpr ⟨R, h, hz⟩, hz2⟩, rfl⟩
/-! the lines of a text that has been bent some times -/
def fxS : Str := Str.ofString "first x"
structure BT (M : MachD) (k : Nat) (L : List Str) : Prop where
  ne : L ≠ []
  few : L.length ≤ 10 + k
  short : ∀ y ∈ L, y.length ≤ 113 + 7 * k
  good : ∀ y ∈ L, 10 ∉ TL.tl y ∧ PyData.strOk y = true
  from_ : ∃ mods : List Str, mods.length ≤ k ∧ ∀ y ∈ L, y ∈ M.rules.map ruleTxt ∨ y.length ≤ 10 ∨ y ∈ mods
def joinN (L : List Str) : Str := Txt.join (Str.ofString "\n") L
theorem nl_tl : TL.tl (Str.ofString "\n") = [10] := by decide +kernel
theorem lines_join {L : List Str} (ne : L ≠ []) (h : ∀ y ∈ L, 10 ∉ TL.tl y) : linesOf (joinN L) = L := TL.split_join nl_tl (by decide +kernel) ne h
theorem flat_le {α β : Type} (g : α → List β) {c : Nat} : ∀ {l : List α}, (∀ x ∈ l, (g x).length ≤ c) → (l.flatMap g).length ≤ c * l.length
  | [], _ => by simp
  | x :: l, h => by
    have := flat_le g fun y hy => h y (List.mem_cons_of_mem _ hy)
    have h0 := h x (List.mem_cons_self ..)
    rw [List.flatMap_cons, List.length_append, List.length_cons, Nat.mul_add, Nat.mul_one]
    omega
theorem lineR_txt {R : RuleD} (h : RuleOks R) : lineR (ruleTxt R) = R := by
  obtain ⟨p, ps, r1, r2, r3, _, r5, r6⟩ := rule_read h
  have hw : lineWords (ruleTxt R) = R.st :: (p :: ps ++ [R.gd]) := by
    unfold lineWords
    rw [r1]
    exact r2
  have hl : lineTail (ruleTxt R) = (R.th, if R.ds = [] then (Str.empty, Str.empty) else (Str.ofString ": ", Txt.join (Str.ofString ", ") R.ds)) := by
    unfold lineTail
    rw [r1]
    exact r5
  have e2 : Str.join (Str.ofString " ") ((R.st :: (p :: ps ++ [R.gd])).tail.dropLast) = R.ev := by
    rw [List.tail_cons, List.dropLast_concat, ← TL.join_eq]
    exact r3
  have e3 : (R.st :: (p :: ps ++ [R.gd])).getLastD Str.empty = R.gd := by
    rw [← List.cons_append, List.getLastD_concat]
  unfold lineR
  rw [hw, hl, e2, e3]
  obtain ⟨st, ev, gd, th, ds⟩ := R
  dsimp only at *
  by_cases e : ds = []
  · subst e
    rfl
  · rw [if_neg e]
    have n : ¬ Str.ofString ": " = Str.empty := by decide +kernel
    dsimp only
    rw [if_neg n, r6 e]
    rfl
theorem names_of {M : MachD} {L : List Str} {k : Nat} (b : BT M k L) (hk : k ≤ 2) (rd : MachRd M) {kinds ns : List Str} (hn : ∀ x ∈ behind M.rules kinds, x ∈ ns) (hns : ns.length ≤ 5) (ok : ∀ y ∈ L.tail, lineOk y = true) :
    ∃ ds : List Str, (∀ x ∈ behind (L.tail.map lineR) kinds, x ∈ ds) ∧ ds.length < 64 := by
  obtain ⟨mods, hm, hf⟩ := b.from_
  refine ⟨ns ++ mods.flatMap fun y => if y.length ≤ 127 ∧ lineOk y = true then behind [lineR y] kinds else [], fun x hx => ?_, ?_⟩
  · obtain ⟨R, hR, hx⟩ := behind_mem hx
    obtain ⟨y, hy, rfl⟩ := List.mem_map.mp hR
    clear hR
    have hyL := List.mem_of_mem_tail hy
    have lo := ok y hy
    rcases hf y hyL with h | h | h
    · obtain ⟨R, hR, rfl⟩ := List.mem_map.mp h
      have e : lineR (ruleTxt R) = R := lineR_txt (RuleRd.oks (rd.rules R hR))
      rw [e] at hx
      exact List.mem_append_left _ (hn x (behind_sub hR hx))
    · have := line_lens lo
      omega
    · refine List.mem_append_right _ (List.mem_flatMap.mpr ⟨y, h, ?_⟩)
      rw [if_pos ⟨by have := b.short y hyL; omega, lo⟩]
      exact hx
  · rw [List.length_append]
    have := flat_le (fun y : Str => if y.length ≤ 127 ∧ lineOk y = true then behind [lineR y] kinds else []) (c := 29) (l := mods) fun y _ => by
      split
      · rename_i h
        have h1 := line_lens h.2
        have h2 := behind_one (lineR y) kinds
        omega
      · exact Nat.zero_le _
    omega
end L2.Wk
namespace L2.Wk
open PySem PySem.Spec PyProof.Rows
abbrev s_law_bent : Stmt := top 40
abbrev N_law_bent : List Str := ["_law_deal_here", "_law_text", "_law_lines", "_law_at", "_law_form", "_law_odd", "_law_here", "_law_more", "_law_words", "_law_spot", "_law_sign", "_law_cut", "_law_row"]
theorem sc_law_bent : FnScope N_law_bent ["_law_deal_here", "_law_text"] (defScope s_law_bent) := ⟨rfl, rfl, rfl, by decide +kernel, rfl, by decide +kernel, by decide +kernel⟩
theorem BT.step {M : MachD} {k at_ : Nat} {L mid : List Str} {y w : Str} (b : BT M k L) (hy : L[at_]? = some y) (hm : mid.length ≤ 2) (hw : 10 ∉ TL.tl w ∧ PyData.strOk w = true) (hwl : w.length ≤ y.length + 7)
    (h : ∀ x ∈ mid, x = y ∨ (x.length ≤ 10 ∧ 10 ∉ TL.tl x ∧ PyData.strOk x = true) ∨ x = w) (ne : L.take at_ ++ mid ++ L.drop (at_ + 1) ≠ []) : BT M (k + 1) (L.take at_ ++ mid ++ L.drop (at_ + 1)) := by
  have hat := (List.getElem?_eq_some_iff.mp hy).1
  have hyL : y ∈ L := List.mem_of_getElem? hy
  have ysh := b.short y hyL
  obtain ⟨mods, hmods, hf⟩ := b.from_
  have mem : ∀ x ∈ L.take at_ ++ mid ++ L.drop (at_ + 1), x ∈ L ∨ (x.length ≤ 10 ∧ 10 ∉ TL.tl x ∧ PyData.strOk x = true) ∨ x = w := fun x hx => by
    rcases List.mem_append.mp hx with hx | hx
    · rcases List.mem_append.mp hx with hx | hx
      · exact .inl (List.mem_of_mem_take hx)
      · rcases h x hx with rfl | h
        · exact .inl hyL
        · exact .inr h
    · exact .inl (List.mem_of_mem_drop hx)
  refine ⟨ne, ?_, fun x hx => ?_, fun x hx => ?_, w :: mods, by rw [List.length_cons]; omega, fun x hx => ?_⟩
  · have := b.few
    rw [List.length_append, List.length_append, List.length_take, List.length_drop]
    omega
  · rcases mem x hx with h | h | rfl
    · have := b.short x h
      omega
    · omega
    · omega
  · rcases mem x hx with h | h | rfl
    · exact b.good x h
    · exact h.2
    · exact hw
  · rcases mem x hx with h | h | rfl
    · rcases hf x h with h | h | h
      · exact .inl h
      · exact .inr (.inl h)
      · exact .inr (.inr (List.mem_cons_of_mem _ h))
    · exact .inr (.inl h.1)
    · exact .inr (.inr (List.mem_cons_self ..))
theorem BT.textOk {M : MachD} {k : Nat} {L as fs : List Str} (b : BT M k L) (hk : k ≤ 2) (rd : MachRd M) (ha : ∀ x ∈ areasL M, x ∈ as) (la : as.length ≤ 5) (hf : ∀ x ∈ fencesL M, x ∈ fs) (lf : fs.length ≤ 5) : TextOk (joinN L) := by
  have el : linesOf (joinN L) = L := lines_join b.ne fun y hy => (b.good y hy).1
  have few := b.few
  have sh : ∀ y ∈ L, y.length ≤ 127 := fun y hy => by
    have := b.short y hy
    omega
  refine ⟨?_, ?_, ?_, ?_⟩
  · unfold joinN
    rw [join_len, show (Str.ofString "\n").length = 1 by decide +kernel]
    have := sum_le sh
    omega
  · rw [el]
    omega
  · rw [el]
    exact fun y hy => Nat.le_trans (sh y hy) (by decide)
  · rw [el]
    intro hb
    have ne := b.ne
    cases L with
    | nil => exact absurd rfl ne
    | cons y ys =>
      unfold badLine at hb
      dsimp only at hb
      cases e1 : headOk y with
      | false => rw [e1, if_neg (by decide)] at hb; cases hb
      | true =>
      rw [e1, if_pos rfl] at hb
      have ok := (badFrom_none ys 1).mp hb
      have e2 : isName (headP y).2.2 = true := by
        unfold headOk at e1
        exact (Bool.and_eq_true_iff.mp e1).2
      refine ⟨Nat.le_trans (name_14 e2).2 (by decide), fun R hR => ?_, ?_, names_of b hk rd ha la ok, names_of b hk rd hf lf ok⟩
      · obtain ⟨z, hz, rfl⟩ := List.mem_map.mp hR
        exact line_small (ok z hz) (Nat.le_trans (sh z (List.mem_cons_of_mem _ hz)) (by decide))
      · show (ys.map lineR).length ≤ 30
        rw [List.length_map]
        rw [List.length_cons] at few
        omega
theorem sum_erase : ∀ (l : List Str) (k : Nat), ((l.eraseIdx k).map fun z => z.length).sum ≤ (l.map fun z => z.length).sum
  | [], _ => by simp
  | z :: l, 0 => by
    rw [List.eraseIdx_cons_zero, List.map_cons, List.sum_cons]
    omega
  | z :: l, k + 1 => by
    have := sum_erase l k
    rw [List.eraseIdx_cons_succ, List.map_cons, List.sum_cons, List.map_cons, List.sum_cons]
    omega
theorem sum_setw (o : Str) : ∀ (l : List Str) (k : Nat), ((l.set k o).map fun z => z.length).sum ≤ (l.map fun z => z.length).sum + o.length
  | [], _ => by simp
  | z :: l, 0 => by
    rw [List.set_cons_zero, List.map_cons, List.sum_cons, List.map_cons, List.sum_cons]
    omega
  | z :: l, k + 1 => by
    have := sum_setw o l k
    rw [List.set_cons_succ, List.map_cons, List.sum_cons, List.map_cons, List.sum_cons]
    omega
theorem sum_ins (o : Str) (l : List Str) (k : Nat) : ((l.take k ++ [o] ++ l.drop k).map fun z => z.length).sum = (l.map fun z => z.length).sum + o.length := by
  have e := congrArg (fun x : List Str => (x.map fun z => z.length).sum) (List.take_append_drop k l)
  simp only [List.map_append, List.sum_append, List.map_cons, List.map_nil, List.sum_cons, List.sum_nil] at *
  omega
theorem word_good {ws : List Str} (h : ∀ p ∈ ws, 10 ∉ TL.tl p ∧ PyData.strOk p = true) : 10 ∉ TL.tl (Txt.join (Str.ofString " ") ws) ∧ PyData.strOk (Txt.join (Str.ofString " ") ws) = true := by
  rw [TL.join_eq]
  refine ⟨fun hc => ?_, join_ok (by decide +kernel) fun p hp => (h p hp).2⟩
  rw [TL.tl_join] at hc
  rcases joinL_mem hc with hc | ⟨l, hl, hc⟩
  · exact absurd hc (by decide +kernel)
  · obtain ⟨p, hp, rfl⟩ := List.mem_map.mp hl
    exact (h p hp).1 hc
/-- the words of a line -/
theorem words_line (y : Str) (hy : 10 ∉ TL.tl y ∧ PyData.strOk y = true) : ∃ ws : List Str, Txt.split y (Str.ofString " ") = ws ∧ ws ≠ [] ∧ (ws.map fun z => z.length).sum + ws.length = y.length + 1 ∧ ∀ p ∈ ws, 10 ∉ TL.tl p ∧ PyData.strOk p = true := by
  obtain ⟨ps, h1, h2, h3, h4⟩ := parts_of y
  refine ⟨ps, h4, h1, ?_, fun p hp => ⟨fun hc => hy.1 ?_, ?_⟩⟩
  · have e := congrArg Str.length h3
    rw [← TL.join_eq, join_len, show (Str.ofString " ").length = 1 by decide +kernel] at e
    have : 0 < ps.length := List.length_pos_iff.mpr h1
    omega
  · rw [h3]
    exact join_mem hp 10 hc
  · exact part_ok h3 hp hy.2
theorem cutS_to (z : Str) (c : Nat) : TL.tl (L2.cutS z none (some (c : Int))) = (TL.tl z).take c := by
  unfold L2.cutS
  rw [HT.sIx_nat, HT.sIx_none]
  show (_ : Array Nat).toList = _
  simp [List.take_eq_take_iff, Str.length, TL.tl]
theorem cutS_from (z : Str) (c : Nat) : TL.tl (L2.cutS z (some (c : Int)) none) = (TL.tl z).drop c := by
  unfold L2.cutS
  rw [HT.sIx_nat, HT.sIx_none]
  show (_ : Array Nat).toList = _
  simp only [Str.length, TL.tl]
  by_cases h : c ≤ z.cps.size
  · rw [Nat.min_eq_left h, List.take_of_length_le (by simp)]
  · rw [List.drop_eq_nil_of_le (by simp; omega), List.drop_eq_nil_of_le (by simp; omega), List.take_nil]
theorem cutS_le (z : Str) (lo hi : Option Int) : (L2.cutS z lo hi).length ≤ z.length := by
  unfold L2.cutS
  show (_ : Array Nat).size ≤ z.cps.size
  rw [List.size_toArray, List.length_take, List.length_drop, Array.length_toList]
  omega
structure TxtBe (K : PySem.W.Frag) (mg : Str → Option Value) (dr pk : Addr) : Prop where
  b_len : mg "len" = none
  g__law_draw : mg "_law_draw" = some (.ref dr)
  k__law_draw : PySem.W.keepIn K (.ref dr) = true
  g__law_pick : mg "_law_pick" = some (.ref pk)
  k__law_pick : PySem.W.keepIn K (.ref pk) = true
def oddW : List Str := txts ["", "first", "->", "any", "ask", "note", "hold", "go,", "x", "dip", "none", "save a", ":", "x:"]
def signW : List Str := txts [" ", ",", ":", "-", "a", ", go", ": go", "A"]
theorem odd_w : ∀ p ∈ oddW, p.length ≤ 6 ∧ 10 ∉ TL.tl p ∧ PyData.strOk p = true := by decide +kernel
theorem sign_w : ∀ p ∈ signW, p.length ≤ 6 ∧ 10 ∉ TL.tl p ∧ PyData.strOk p = true := by decide +kernel
def spBent : Sp := fun vs H Q _ => ∃ (d l : Addr) (M : MachD) (k : Nat) (L : List Str), vs = [.ref d, .str (joinN L)] ∧ DealAt H d l ∧ BT M k L ∧ k ≤ 2 ∧ ∀ L' H', BT M (k + 1) L' → DealAt H' d l → Keep d l H H' → Q (.str (joinN L')) H'
section
variable {P : Program} {w : World} {K : PySem.W.Frag} {mg : Str → Option Value} {base : Heap} {dr pk : Addr} {f : Addr} {fd : FuncData}
theorem ok_bent {f1 f2 : FuncData} (F : Fun K "_law_bent" "_law_bent" s_law_bent f fd) (T : TxtBe K mg dr pk)
    (G__law_draw : FnOk P w K mg base CX0 1 dr f1 ["_law_deal_here", "_law_many"] spDraw) (b__law_draw : Binds K f1 ["_law_deal_here", "_law_many"] [])
    (G__law_pick : FnOk P w K mg base CX0 2 pk f2 ["_law_deal_here", "_law_some"] (spPick K)) (b__law_pick : Binds K f2 ["_law_deal_here", "_law_some"] []) :
    FnOk P w K mg base CX0 3 f fd ["_law_deal_here", "_law_text"] spBent := by
  refine F.ok sc_law_bent (fun vs H Q E h => ?_) (fun cdv A outer sh H vs Q E hr h => ?_)
  · obtain ⟨_, _, _, _, _, rfl, _⟩ := h
    rfl
  · obtain ⟨d, l, M, k, L, rfl, D, b, hk, kz⟩ := h
    refine ⟨_, (pss_cons (ps_set (i := 2) sc_law_bent.nd rfl (Or.inl rfl) (pe_split (pv 1) pe_str))
    (pss_cons (ps_par (i := 3) (j := 4) rfl sc_law_bent.nd rfl rfl (by decide) rfl rfl (pa_cons (pe_call G__law_draw (hr.mono (by decide)) rfl T.g__law_draw T.k__law_draw b__law_draw .nil pass0 (pa_cons (pv 0) (pa_cons (pe_callB call_len (by rfl) T.b_len PySem.boot_len (pa_cons (pv 2) pa_nil)) pa_nil))) (pa_cons (pe_call G__law_draw (hr.mono (by decide)) rfl T.g__law_draw T.k__law_draw b__law_draw .nil pass0 (pa_cons (pv 0) (pa_cons pe_int pa_nil))) pa_nil)) rfl)
    (pss_cons (ps_set (i := 5) sc_law_bent.nd rfl (Or.inl rfl) (pe_lst (pa_cons pe_str (pa_cons pe_str (pa_cons pe_str (pa_cons pe_str (pa_cons pe_str (pa_cons pe_str (pa_cons pe_str (pa_cons pe_str (pa_cons pe_str (pa_cons pe_str (pa_cons pe_str (pa_cons pe_str (pa_cons pe_str (pa_cons pe_str pa_nil))))))))))))))))
    (pss_cons (ps_if (pt_cmpR op_eq (pv 4) pe_int (nomark _)) (pss_cons (ps_set (i := 6) sc_law_bent.nd rfl (Or.inl rfl) (pe_ix (ix_listK (K := K) rfl) (pv 2) (pv 3) (fun _ _ => rfl)))
    (pss_cons (ps_set (i := 7) sc_law_bent.nd rfl (Or.inl rfl) (pe_call G__law_pick (hr.mono (by decide)) rfl T.g__law_pick T.k__law_pick b__law_pick .nil pass0 (pa_cons (pv 0) (pa_cons (pe_lst (pa_cons (pe_lst pa_nil) (pa_cons (pe_lst (pa_cons (pv 6) (pa_cons (pv 6) pa_nil))) (pa_cons (pe_lst (pa_cons (pv 6) (pa_cons pe_str pa_nil))) (pa_cons (pe_lst (pa_cons pe_str (pa_cons (pv 6) pa_nil))) pa_nil))))) pa_nil))))
    (pss_one (ps_ret (pe_joinK (K := K) rfl pe_str (pe_op op_cat (pe_op op_cat (pe_slice (sl_listK (K := K) rfl) (pv 2) po_none (po_some (pv 3))) (pv 7)) (pe_slice (sl_listK (K := K) rfl) (pv 2) (po_some (pe_op op_add (pv 3) pe_int)) po_none))))))) pss_nil)
    (pss_cons (ps_set (i := 8) sc_law_bent.nd rfl (Or.inl rfl) (pe_split (pe_ix (ix_listK (K := K) rfl) (pv 2) (pv 3) (fun _ _ => rfl)) pe_str))
    (pss_cons (ps_set (i := 9) sc_law_bent.nd rfl (Or.inl rfl) (pe_call G__law_draw (hr.mono (by decide)) rfl T.g__law_draw T.k__law_draw b__law_draw .nil pass0 (pa_cons (pv 0) (pa_cons (pe_callB call_len (by rfl) T.b_len PySem.boot_len (pa_cons (pv 8) pa_nil)) pa_nil))))
    (pss_cons (ps_if (pt_cmpR op_eq (pv 4) pe_int (nomark _)) (pss_one (ps_expr (pe_bm PySem.F.plainAttrs_list PySem.F.slot_list_pop PySem.F.type_list_pop mt_popAt (pv 8) (pa_cons (pv 9) pa_nil)))) (pss_one (ps_if (pt_cmpR op_eq (pv 4) pe_int (nomark _)) (pss_one (ps_expr (pe_bm PySem.F.plainAttrs_list PySem.F.slot_list_insert PySem.F.type_list_insert mt_insert (pv 8) (pa_cons (pv 9) (pa_cons (pe_call G__law_pick (hr.mono (by decide)) rfl T.g__law_pick T.k__law_pick b__law_pick .nil pass0 (pa_cons (pv 0) (pa_cons (pv 5) pa_nil))) pa_nil))))) (pss_one (ps_if (pt_cmpR op_eq (pv 4) pe_int (nomark _)) (pss_one (ps_asg (pe_call G__law_pick (hr.mono (by decide)) rfl T.g__law_pick T.k__law_pick b__law_pick .nil pass0 (pa_cons (pv 0) (pa_cons (pv 5) pa_nil))) (pg_sub (pv 8) (pv 9) set_list))) (pss_cons (ps_set (i := 10) sc_law_bent.nd rfl (Or.inl rfl) (pe_call G__law_pick (hr.mono (by decide)) rfl T.g__law_pick T.k__law_pick b__law_pick .nil pass0 (pa_cons (pv 0) (pa_cons (pe_lst (pa_cons pe_str (pa_cons pe_str (pa_cons pe_str (pa_cons pe_str (pa_cons pe_str (pa_cons pe_str (pa_cons pe_str (pa_cons pe_str pa_nil))))))))) pa_nil))))
    (pss_cons (ps_set (i := 11) sc_law_bent.nd rfl (Or.inl rfl) (pe_call G__law_draw (hr.mono (by decide)) rfl T.g__law_draw T.k__law_draw b__law_draw .nil pass0 (pa_cons (pv 0) (pa_cons (pe_op op_add (pe_callB call_len (by rfl) T.b_len PySem.boot_len (pa_cons (pe_ix (ix_listK (K := K) rfl) (pv 2) (pv 3) (fun _ _ => rfl)) pa_nil)) pe_int) pa_nil))))
    (pss_cons (ps_set (i := 12) sc_law_bent.nd rfl (Or.inl rfl) (pe_op op_add_str (pe_op op_add_str (pe_slice sl_str (pe_ix (ix_listK (K := K) rfl) (pv 2) (pv 3) (fun _ _ => rfl)) po_none (po_some (pv 11))) (pv 10)) (pe_slice sl_str (pe_ix (ix_listK (K := K) rfl) (pv 2) (pv 3) (fun _ _ => rfl)) (po_some (pv 11)) po_none)))
    (pss_one (ps_ret (pe_joinK (K := K) rfl pe_str (pe_op op_cat (pe_op op_cat (pe_slice (sl_listK (K := K) rfl) (pv 2) po_none (po_some (pv 3))) (pe_lst (pa_cons (pv 12) pa_nil))) (pe_slice (sl_listK (K := K) rfl) (pv 2) (po_some (pe_op op_add (pv 3) pe_int)) po_none)))))))))))))
    (pss_one (ps_ret (pe_joinK (K := K) rfl pe_str (pe_op op_cat (pe_op op_cat (pe_slice (sl_listK (K := K) rfl) (pv 2) po_none (po_some (pv 3))) (pe_lst (pa_cons (pe_joinK (K := K) rfl pe_str (pv 8)) pa_nil))) (pe_slice (sl_listK (K := K) rfl) (pv 2) (po_some (pe_op op_add (pv 3) pe_int)) po_none)))))))))))), ?_⟩
    have el : Txt.split (joinN L) (Str.ofString "\n") = L := lines_join b.ne fun y hy => (b.good y hy).1
    have few := b.few
    have sh : ∀ y ∈ L, y.length ≤ 127 := fun y hy => by
      have := b.short y hy
      omega
    have jl : (joinN L).length ≤ 3000 := by
      unfold joinN
      rw [join_len, show (Str.ofString "\n").length = 1 by decide +kernel]
      have := sum_le sh
      omega
    have ne := b.ne
    have hpos : 0 < L.length := List.length_pos_iff.mpr ne
    refine ⟨_, rfl, ⟨_, rfl⟩, joinN L, Str.ofString "\n", rfl, rfl, by decide +kernel, big_ok (by omega), fun pl hpl => ?_⟩
    rw [el]
    have s1 := Same.upd_new (o := .lst (L.map V.str)) hpl
    have hl1 : (upd H pl (.lst (L.map V.str))) pl = some (.lst (L.map V.str)) := upd_same
    have nd := D.nd hpl
    have nl := D.nl hpl
    have D1 := D.same s1
    have k1 : Keep d l H _ := Keep.same s1
    generalize upd H pl _ = H1 at s1 hl1 D1 k1 ⊢
    refine ⟨_, rfl, _, rfl, _, L.length, rfl, .inl ⟨_, .inl (.inl hl1), by rw [List.length_map]⟩, d, l, (L.length : Int), rfl, D1, by omega, by omega, fun r2 H2 r20 r21 D2 kp2 => ?_⟩
    have hl2 := kp2 _ _ hl1 nd nl
    obtain ⟨i, rfl⟩ := Int.eq_ofNat_of_zero_le r20
    have hi : i < L.length := by omega
    refine ⟨_, rfl, d, l, 6, rfl, D2, by decide, by decide, fun r3 H3 r30 r31 D3 kp3 => ⟨_, _, rfl, ?_⟩⟩
    have hl3 := kp3 _ _ hl2 nd nl
    have k3 := (k1.trans kp2).trans kp3
    refine ⟨(by show 14 ≤ sizeLine; decide), fun po hpo => ?_⟩
    have s4 := Same.upd_new (o := .lst (oddW.map V.str)) hpo
    have D4 := D3.same s4
    have k4 := k3.trans (Keep.same s4)
    have hl4 := s4 _ _ hl3
    have ond := D3.nd hpo
    have onl := D3.nl hpo
    have ho4 : (upd H3 po (.lst (oddW.map V.str))) po = some (.lst (oddW.map V.str)) := upd_same
    show tSeq _ _ _ _ (upd H3 po (.lst (oddW.map V.str)))
    generalize upd H3 po _ = H4 at s4 D4 k4 hl4 ho4 ⊢
    have gy : L[i]? = some L[i] := List.getElem?_eq_getElem hi
    have gyV : (L.map V.str)[i]? = some (V.str L[i]) := by rw [List.getElem?_map, gy]; rfl
    have hyL : L[i] ∈ L := List.getElem_mem hi
    generalize L[i] = y at gy gyV hyL
    refine ⟨_, rfl, rfl, _, rfl, ?_⟩
    have e0 : (10 ∉ TL.tl Str.empty ∧ PyData.strOk Str.empty = true) ∧ Str.empty.length = 0 := by decide +kernel
    have efx : ((Str.ofString "first x").length ≤ 10 ∧ 10 ∉ TL.tl (Str.ofString "first x") ∧ PyData.strOk (Str.ofString "first x") = true) := by decide +kernel
    have joinS : ∀ {L' : List Str}, BT M (k + 1) L' → (L'.map fun x => x.length).sum + L'.length * (Str.ofString "\n").length ≤ 16777216 := fun {L'} b' => by
      have f' := b'.few
      have := sum_le (c := 134) (l := L') fun y hy => by
        have := b'.short y hy
        omega
      rw [show (Str.ofString "\n").length = 1 by decide +kernel]
      omega
    refine ite_bool (fun _ => ?_) (fun _ => ?_)
    · refine ⟨_, rfl, _, rfl, pl, _, _, _, rfl, rfl, .inl (.inl hl4), atI_nat gyV, ?_⟩
      refine ⟨_, rfl, (by show 0 ≤ sizeLine; decide), fun q0 hq0 => ?_⟩
      refine ⟨_, rfl, _, rfl, (by show 2 ≤ sizeLine; decide), fun q1 hq1 => ?_⟩
      refine ⟨_, rfl, (by show 2 ≤ sizeLine; decide), fun q2 hq2 => ?_⟩
      refine ⟨_, rfl, (by show 2 ≤ sizeLine; decide), fun q3 hq3 => ?_⟩
      refine ⟨(by show 4 ≤ sizeLine; decide), fun q4 hq4 => ?_⟩
      have t0 := Same.upd_new (o := .lst []) hq0
      have t1 := Same.upd_new (o := .lst [V.str y, V.str y]) hq1
      have t2 := Same.upd_new (o := .lst [V.str y, V.str Str.empty]) hq2
      have t3 := Same.upd_new (o := .lst [V.str (Str.ofString "first x"), V.str y]) hq3
      have t4 := Same.upd_new (o := .lst [V.ref q0, V.ref q1, V.ref q2, V.ref q3]) hq4
      have t34 := t3.trans t4
      have t24 := t2.trans t34
      have t14 := t1.trans t24
      have t04 := t0.trans t14
      have f0 := t14 _ _ (upd_same (H := H4) (a := q0) (o := .lst []))
      have f1' := t24 _ _ (upd_same (a := q1) (o := .lst [V.str y, V.str y]))
      have f2' := t34 _ _ (upd_same (a := q2) (o := .lst [V.str y, V.str Str.empty]))
      have f3' := t4 _ _ (upd_same (a := q3) (o := .lst [V.str (Str.ofString "first x"), V.str y]))
      have D5 := D4.same t04
      have k5 := k4.trans (Keep.same t04)
      have hl5 := t04 _ _ hl4
      have n0 := D4.nd hq0
      have m0 := D4.nl hq0
      have n1 := (D4.same t0).nd hq1
      have m1 := (D4.same t0).nl hq1
      have n2 := (D4.same (t0.trans t1)).nd hq2
      have m2 := (D4.same (t0.trans t1)).nl hq2
      have n3 := (D4.same ((t0.trans t1).trans t2)).nd hq3
      have m3 := (D4.same ((t0.trans t1).trans t2)).nl hq3
      have n4 := (D4.same (((t0.trans t1).trans t2).trans t3)).nd hq4
      have m4 := (D4.same (((t0.trans t1).trans t2).trans t3)).nl hq4
      refine ⟨d, l, q4, _, rfl, D5, upd_same, n4, m4, by simp, by simp, fun v H6 hv D6 kp6 => ?_⟩
      have hl6 := kp6 _ _ hl5 nd nl
      have k6 := k5.trans kp6
      obtain ⟨pm, mid, rfl, hm6, hm2, hmid⟩ : ∃ (pm : Addr) (mid : List Str), v = .ref pm ∧ H6 pm = some (.lst (mid.map V.str)) ∧ mid.length ≤ 2 ∧ ∀ x ∈ mid, x = y ∨ (x.length ≤ 10 ∧ 10 ∉ TL.tl x ∧ PyData.strOk x = true) ∨ x = Str.empty := by
        have g0 := kp6 _ _ f0 n0 m0
        have g1 := kp6 _ _ f1' n1 m1
        have g2 := kp6 _ _ f2' n2 m2
        have g3 := kp6 _ _ f3' n3 m3
        rcases List.mem_cons.mp hv with rfl | hv
        · exact ⟨q0, [], rfl, g0, by simp, fun x hx => by cases hx⟩
        rcases List.mem_cons.mp hv with rfl | hv
        · exact ⟨q1, [y, y], rfl, g1, by simp, fun x hx => .inl (by simpa using hx)⟩
        rcases List.mem_cons.mp hv with rfl | hv
        · refine ⟨q2, [y, Str.empty], rfl, g2, by simp, fun x hx => ?_⟩
          rcases List.mem_cons.mp hx with rfl | hx
          · exact .inl rfl
          · exact .inr (.inr (List.mem_singleton.mp hx))
        rcases List.mem_cons.mp hv with rfl | hv
        · refine ⟨q3, [Str.ofString "first x", y], rfl, g3, by simp, fun x hx => ?_⟩
          rcases List.mem_cons.mp hx with rfl | hx
          · exact .inr (.inl efx)
          · exact .inl (List.mem_singleton.mp hx)
        cases hv
      clear f0 f1' f2' f3' t0 t1 t2 t3 t4 t34 t24 t14 t04 hl5 D5 k5
      refine ⟨⟨_, rfl⟩, _, rfl, _, rfl, _, rfl, pl, _, rfl, .inl (.inl hl6), fun p1 hp1 => ?_⟩
      rw [cut_to, ← List.map_take]
      have s7 := Same.upd_new (o := .lst ((L.take i).map V.str)) hp1
      refine ⟨_, rfl, p1, pm, _, _, rfl, rfl, upd_same, s7 _ _ hm6, ?_, fun p2 hp2 => ?_⟩
      · rw [List.length_map, List.length_map, List.length_take]
        exact len1000 (by omega)
      rw [← List.map_append]
      have s8 := Same.upd_new (o := .lst ((L.take i ++ mid).map V.str)) hp2
      refine ⟨_, rfl, _, rfl, _, _, rfl, rfl, _, rfl, pl, _, rfl, .inl (.inl (s8 _ _ (s7 _ _ hl6))), fun p3 hp3 => ?_⟩
      rw [show (i : Int) + 1 = ((i + 1 : Nat) : Int) by omega, cut_from, ← List.map_drop]
      have s9 := Same.upd_new (o := .lst ((L.drop (i + 1)).map V.str)) hp3
      refine ⟨p2, p3, _, _, rfl, rfl, s9 _ _ upd_same, upd_same, ?_, fun p4 hp4 => ?_⟩
      · rw [List.length_map, List.length_map, List.length_append, List.length_take, List.length_drop]
        exact len1000 (by omega)
      rw [← List.map_append]
      have s10 := Same.upd_new (o := .lst ((L.take i ++ mid ++ L.drop (i + 1)).map V.str)) hp4
      have sX := ((s7.trans s8).trans s9).trans s10
      by_cases nL : L.take i ++ mid ++ L.drop (i + 1) = []
      · have b' : BT M (k + 1) [Str.empty] := ⟨(by simp), (by rw [List.length_singleton]; omega), (fun x hx => by rw [List.mem_singleton.mp hx, e0.2]; omega), (fun x hx => by rw [List.mem_singleton.mp hx]; exact e0.1), [], Nat.zero_le _, fun x hx => .inr (.inl (by rw [List.mem_singleton.mp hx, e0.2]; omega))⟩
        refine ⟨_, p4, L.take i ++ mid ++ L.drop (i + 1), rfl, rfl, .inl (.inl (.inl upd_same)), by rw [nL]; decide, ?_⟩
        have q := kz _ _ b' (D6.same sX) (k6.trans (Keep.same sX))
        rw [show joinN [Str.empty] = Txt.join (Str.ofString "\n") [] by decide +kernel, ← nL] at q
        exact q
      · have b' := b.step gy hm2 e0.1 (by rw [e0.2]; omega) hmid nL
        exact ⟨_, p4, L.take i ++ mid ++ L.drop (i + 1), rfl, rfl, .inl (.inl (.inl upd_same)), joinS b', kz _ _ b' (D6.same sX) (k6.trans (Keep.same sX))⟩
    · obtain ⟨ws, ew, wne, wsum, wgood⟩ := words_line y (b.good y hyL)
      have hy127 := sh y hyL
      have c1 : (Str.ofString " ").length = 1 := by decide +kernel
      have wpos : 0 < ws.length := List.length_pos_iff.mpr wne
      have wl : ∀ ws2 : List Str, (Txt.join (Str.ofString " ") ws2).length + 1 ≤ (ws2.map fun z => z.length).sum + ws2.length ∨ (Txt.join (Str.ofString " ") ws2).length = 0 := fun ws2 => by
        rw [join_len, c1]
        cases ws2 with
        | nil => exact .inr rfl
        | cons a t => exact .inl (by rw [List.length_cons]; omega)
      refine ⟨_, rfl, _, rfl, pl, _, _, _, rfl, rfl, .inl (.inl hl4), atI_nat gyV, ⟨_, rfl⟩, y, Str.ofString " ", rfl, rfl, by decide +kernel, big_ok (by omega), fun pw hpw => ?_⟩
      rw [ew]
      have s5 := Same.upd_new (o := .lst (ws.map V.str)) hpw
      have hw5 : (upd H4 pw (.lst (ws.map V.str))) pw = some (.lst (ws.map V.str)) := upd_same
      have wnd := D4.nd hpw
      have wnl := D4.nl hpw
      have hpw0 : H pw = none := k4.free D D4 hpw
      have D5 := D4.same s5
      have k5 := k4.trans (Keep.same s5)
      have hl5 := s5 _ _ hl4
      have ho5 := s5 _ _ ho4
      have plw : pl ≠ pw := ne_of_none hl4 hpw
      have pow : po ≠ pw := ne_of_none ho4 hpw
      generalize upd H4 pw _ = H5 at s5 hw5 D5 k5 hl5 ho5 ⊢
      refine ⟨_, rfl, _, rfl, _, ws.length, rfl, .inl ⟨_, .inl (.inl hw5), by rw [List.length_map]⟩, d, l, (ws.length : Int), rfl, D5, by omega, by omega, fun r6 H6 r60 r61 D6 kp6 => ?_⟩
      obtain ⟨j, rfl⟩ := Int.eq_ofNat_of_zero_le r60
      have hj : j < ws.length := by omega
      have hw6 := kp6 _ _ hw5 wnd wnl
      have hl6 := kp6 _ _ hl5 nd nl
      have ho6 := kp6 _ _ ho5 ond onl
      have k6 := k5.trans kp6
      clear kp6 hw5 hl5 ho5 k5 D5 s5
      refine ⟨_, rfl, rfl, _, rfl, ?_⟩
      -- the four forms
      refine ite_bool (fun _ => ?_) (fun _ => ?_)
      · have gj : (ws.map V.str)[j]? = some (V.str ws[j]) := by rw [List.getElem?_map, List.getElem?_eq_getElem hj]; rfl
        refine ⟨_, rfl, .inl ⟨rfl, _, .inl (.inl hw6)⟩, _, rfl, pw, _, _, j, _, rfl, rfl, hw6, by omega, by omega, seq_ix (by rw [List.length_map]; exact hj), gj, ?_⟩
        have up : ∀ o : HO, Keep d l H (L2.upd H6 pw o) := fun o p u e h1 h2 => by
          rw [upd_ne (ne_of_none e hpw0)]
          exact k6 p u e h1 h2
        rw [show (ws.map V.str).eraseIdx j = (ws.eraseIdx j).map V.str from by rw [map_erase]]
        have D8 := D6.upd (o := .lst ((ws.eraseIdx j).map V.str)) wnd wnl
        have k8 := up (.lst ((ws.eraseIdx j).map V.str))
        have hw8 : (L2.upd H6 pw (.lst ((ws.eraseIdx j).map V.str))) pw = some (.lst ((ws.eraseIdx j).map V.str)) := upd_same
        have hl8 : (L2.upd H6 pw (.lst ((ws.eraseIdx j).map V.str))) pl = some (.lst (L.map V.str)) := by
          rw [upd_ne plw]
          exact hl6
        have g8 : ∀ p ∈ ws.eraseIdx j, 10 ∉ TL.tl p ∧ PyData.strOk p = true := fun p hp => wgood p (List.mem_of_mem_eraseIdx hp)
        have l8 : ((ws.eraseIdx j).map fun z => z.length).sum + (ws.eraseIdx j).length ≤ y.length + 8 := by
          have := sum_erase ws j
          have := List.length_eraseIdx_le ws j
          omega
        generalize L2.upd H6 pw _ = H8 at D8 k8 hw8 hl8 ⊢
        generalize ws.eraseIdx j = ws2 at hw8 g8 l8 ⊢
        have gg := word_good g8
        have wl8 := wl ws2
        refine ⟨⟨_, rfl⟩, _, rfl, _, rfl, _, rfl, pl, _, rfl, .inl (.inl hl8), fun p1 hp1 => ?_⟩
        rw [cut_to, ← List.map_take]
        have s7 := Same.upd_new (o := .lst ((L.take i).map V.str)) hp1
        refine ⟨⟨_, rfl⟩, _, rfl, _, pw, ws2, rfl, rfl, .inl (.inl (.inl (s7 _ _ hw8))), (by rw [c1]; omega), (by show 1 ≤ sizeLine; decide), fun p0 hp0 => ?_⟩
        have s7' := Same.upd_new (o := .lst ([(Txt.join (Str.ofString " ") ws2)].map V.str)) hp0
        refine ⟨p1, p0, _, [(Txt.join (Str.ofString " ") ws2)].map V.str, rfl, rfl, s7' _ _ upd_same, upd_same, ?_, fun p2 hp2 => ?_⟩
        · rw [List.length_map, List.length_map, List.length_take]
          exact len1000 (by show _ + 1 ≤ _; omega)
        rw [← List.map_append]
        have s8 := Same.upd_new (o := .lst ((L.take i ++ [(Txt.join (Str.ofString " ") ws2)]).map V.str)) hp2
        refine ⟨_, rfl, _, rfl, _, _, rfl, rfl, _, rfl, pl, _, rfl, .inl (.inl (s8 _ _ (s7' _ _ (s7 _ _ hl8)))), fun p3 hp3 => ?_⟩
        rw [show (i : Int) + 1 = ((i + 1 : Nat) : Int) by omega, cut_from, ← List.map_drop]
        have s9 := Same.upd_new (o := .lst ((L.drop (i + 1)).map V.str)) hp3
        refine ⟨p2, p3, _, _, rfl, rfl, s9 _ _ upd_same, upd_same, ?_, fun p4 hp4 => ?_⟩
        · rw [List.length_map, List.length_map, List.length_append, List.length_take, List.length_drop]
          exact len1000 (by show _ + 1 + _ ≤ _; omega)
        rw [← List.map_append]
        have s10 := Same.upd_new (o := .lst ((L.take i ++ [(Txt.join (Str.ofString " ") ws2)] ++ L.drop (i + 1)).map V.str)) hp4
        have sX := (((s7.trans s7').trans s8).trans s9).trans s10
        have b' := b.step gy (mid := [(Txt.join (Str.ofString " ") ws2)]) (by simp) gg (by omega) (fun x hx => .inr (.inr (List.mem_singleton.mp hx))) (by simp)
        exact ⟨_, p4, L.take i ++ [(Txt.join (Str.ofString " ") ws2)] ++ L.drop (i + 1), rfl, rfl, .inl (.inl (.inl upd_same)), joinS b', kz _ _ b' (D8.same sX) (k8.trans (Keep.same sX))⟩
      · refine ⟨_, rfl, rfl, _, rfl, ?_⟩
        refine ite_bool (fun _ => ?_) (fun _ => ?_)
        · refine ⟨_, rfl, .inl ⟨rfl, _, .inl (.inl hw6)⟩, _, rfl, _, rfl, _, rfl, d, l, po, _, rfl, D6, ho6, ond, onl, by decide, by decide, fun v H7 hv D7 kp7 => ?_⟩
          have hw7 := kp7 _ _ hw6 wnd wnl
          have hl7 := kp7 _ _ hl6 nd nl
          have k7 := k6.trans kp7
          obtain ⟨o, ho, rfl⟩ := List.mem_map.mp hv
          obtain ⟨o1, o2⟩ := odd_w o ho
          refine ⟨pw, _, _, _, rfl, rfl, hw7, ?_, by omega, by omega, ?_⟩
          · rw [List.length_map]
            exact small1000 (by omega)
          have up : ∀ o : HO, Keep d l H (L2.upd H7 pw o) := fun o p u e h1 h2 => by
            rw [upd_ne (ne_of_none e hpw0)]
            exact k7 p u e h1 h2
          rw [show (ws.map V.str).take (Int.toNat (j : Int)) ++ [V.str o] ++ (ws.map V.str).drop (Int.toNat (j : Int)) = (ws.take j ++ [o] ++ ws.drop j).map V.str from by simp [List.map_take, List.map_drop]]
          have D8 := D7.upd (o := .lst ((ws.take j ++ [o] ++ ws.drop j).map V.str)) wnd wnl
          have k8 := up (.lst ((ws.take j ++ [o] ++ ws.drop j).map V.str))
          have hw8 : (L2.upd H7 pw (.lst ((ws.take j ++ [o] ++ ws.drop j).map V.str))) pw = some (.lst ((ws.take j ++ [o] ++ ws.drop j).map V.str)) := upd_same
          have hl8 : (L2.upd H7 pw (.lst ((ws.take j ++ [o] ++ ws.drop j).map V.str))) pl = some (.lst (L.map V.str)) := by
            rw [upd_ne plw]
            exact hl7
          have g8 : ∀ p ∈ ws.take j ++ [o] ++ ws.drop j, 10 ∉ TL.tl p ∧ PyData.strOk p = true := fun p hp => by
            rcases List.mem_append.mp hp with hp | hp
            · rcases List.mem_append.mp hp with hp | hp
              · exact wgood p (List.mem_of_mem_take hp)
              · rw [List.mem_singleton.mp hp]
                exact o2
            · exact wgood p (List.mem_of_mem_drop hp)
          have l8 : ((ws.take j ++ [o] ++ ws.drop j).map fun z => z.length).sum + (ws.take j ++ [o] ++ ws.drop j).length ≤ y.length + 8 := by
            have := sum_ins o ws j
            have e : (ws.take j ++ [o] ++ ws.drop j).length = ws.length + 1 := by
              rw [List.length_append, List.length_append, List.length_take, List.length_drop, List.length_singleton]
              omega
            omega
          generalize L2.upd H7 pw _ = H8 at D8 k8 hw8 hl8 ⊢
          generalize ws.take j ++ [o] ++ ws.drop j = ws2 at hw8 g8 l8 ⊢
          have gg := word_good g8
          have wl8 := wl ws2
          refine ⟨⟨_, rfl⟩, _, rfl, _, rfl, _, rfl, pl, _, rfl, .inl (.inl hl8), fun p1 hp1 => ?_⟩
          rw [cut_to, ← List.map_take]
          have s7 := Same.upd_new (o := .lst ((L.take i).map V.str)) hp1
          refine ⟨⟨_, rfl⟩, _, rfl, _, pw, ws2, rfl, rfl, .inl (.inl (.inl (s7 _ _ hw8))), (by rw [c1]; omega), (by show 1 ≤ sizeLine; decide), fun p0 hp0 => ?_⟩
          have s7' := Same.upd_new (o := .lst ([(Txt.join (Str.ofString " ") ws2)].map V.str)) hp0
          refine ⟨p1, p0, _, [(Txt.join (Str.ofString " ") ws2)].map V.str, rfl, rfl, s7' _ _ upd_same, upd_same, ?_, fun p2 hp2 => ?_⟩
          · rw [List.length_map, List.length_map, List.length_take]
            exact len1000 (by show _ + 1 ≤ _; omega)
          rw [← List.map_append]
          have s8 := Same.upd_new (o := .lst ((L.take i ++ [(Txt.join (Str.ofString " ") ws2)]).map V.str)) hp2
          refine ⟨_, rfl, _, rfl, _, _, rfl, rfl, _, rfl, pl, _, rfl, .inl (.inl (s8 _ _ (s7' _ _ (s7 _ _ hl8)))), fun p3 hp3 => ?_⟩
          rw [show (i : Int) + 1 = ((i + 1 : Nat) : Int) by omega, cut_from, ← List.map_drop]
          have s9 := Same.upd_new (o := .lst ((L.drop (i + 1)).map V.str)) hp3
          refine ⟨p2, p3, _, _, rfl, rfl, s9 _ _ upd_same, upd_same, ?_, fun p4 hp4 => ?_⟩
          · rw [List.length_map, List.length_map, List.length_append, List.length_take, List.length_drop]
            exact len1000 (by show _ + 1 + _ ≤ _; omega)
          rw [← List.map_append]
          have s10 := Same.upd_new (o := .lst ((L.take i ++ [(Txt.join (Str.ofString " ") ws2)] ++ L.drop (i + 1)).map V.str)) hp4
          have sX := (((s7.trans s7').trans s8).trans s9).trans s10
          have b' := b.step gy (mid := [(Txt.join (Str.ofString " ") ws2)]) (by simp) gg (by omega) (fun x hx => .inr (.inr (List.mem_singleton.mp hx))) (by simp)
          exact ⟨_, p4, L.take i ++ [(Txt.join (Str.ofString " ") ws2)] ++ L.drop (i + 1), rfl, rfl, .inl (.inl (.inl upd_same)), joinS b', kz _ _ b' (D8.same sX) (k8.trans (Keep.same sX))⟩
        · refine ⟨_, rfl, rfl, _, rfl, ?_⟩
          refine ite_bool (fun _ => ?_) (fun _ => ?_)
          · refine ⟨_, rfl, _, rfl, d, l, po, _, rfl, D6, ho6, ond, onl, by decide, by decide, fun v H7 hv D7 kp7 => ?_⟩
            have hw7 := kp7 _ _ hw6 wnd wnl
            have hl7 := kp7 _ _ hl6 nd nl
            have k7 := k6.trans kp7
            obtain ⟨o, ho, rfl⟩ := List.mem_map.mp hv
            obtain ⟨o1, o2⟩ := odd_w o ho
            refine ⟨_, rfl, _, rfl, pw, _, (j : Int), j, rfl, rfl, hw7, ?_, ?_⟩
            · unfold ixN
              rw [List.length_map, if_pos (by omega), if_pos (by omega)]
              rfl
            have up : ∀ o : HO, Keep d l H (L2.upd H7 pw o) := fun o p u e h1 h2 => by
              rw [upd_ne (ne_of_none e hpw0)]
              exact k7 p u e h1 h2
            rw [show (ws.map V.str).set j (V.str o) = (ws.set j o).map V.str from by rw [List.map_set]]
            have D8 := D7.upd (o := .lst ((ws.set j o).map V.str)) wnd wnl
            have k8 := up (.lst ((ws.set j o).map V.str))
            have hw8 : (L2.upd H7 pw (.lst ((ws.set j o).map V.str))) pw = some (.lst ((ws.set j o).map V.str)) := upd_same
            have hl8 : (L2.upd H7 pw (.lst ((ws.set j o).map V.str))) pl = some (.lst (L.map V.str)) := by
              rw [upd_ne plw]
              exact hl7
            have g8 : ∀ p ∈ ws.set j o, 10 ∉ TL.tl p ∧ PyData.strOk p = true := fun p hp => by
              rcases List.mem_or_eq_of_mem_set hp with hp | hp
              · exact wgood p hp
              · rw [hp]
                exact o2
            have l8 : ((ws.set j o).map fun z => z.length).sum + (ws.set j o).length ≤ y.length + 8 := by
              have := sum_setw o ws j
              rw [List.length_set]
              omega
            generalize L2.upd H7 pw _ = H8 at D8 k8 hw8 hl8 ⊢
            generalize ws.set j o = ws2 at hw8 g8 l8 ⊢
            have gg := word_good g8
            have wl8 := wl ws2
            refine ⟨⟨_, rfl⟩, _, rfl, _, rfl, _, rfl, pl, _, rfl, .inl (.inl hl8), fun p1 hp1 => ?_⟩
            rw [cut_to, ← List.map_take]
            have s7 := Same.upd_new (o := .lst ((L.take i).map V.str)) hp1
            refine ⟨⟨_, rfl⟩, _, rfl, _, pw, ws2, rfl, rfl, .inl (.inl (.inl (s7 _ _ hw8))), (by rw [c1]; omega), (by show 1 ≤ sizeLine; decide), fun p0 hp0 => ?_⟩
            have s7' := Same.upd_new (o := .lst ([(Txt.join (Str.ofString " ") ws2)].map V.str)) hp0
            refine ⟨p1, p0, _, [(Txt.join (Str.ofString " ") ws2)].map V.str, rfl, rfl, s7' _ _ upd_same, upd_same, ?_, fun p2 hp2 => ?_⟩
            · rw [List.length_map, List.length_map, List.length_take]
              exact len1000 (by show _ + 1 ≤ _; omega)
            rw [← List.map_append]
            have s8 := Same.upd_new (o := .lst ((L.take i ++ [(Txt.join (Str.ofString " ") ws2)]).map V.str)) hp2
            refine ⟨_, rfl, _, rfl, _, _, rfl, rfl, _, rfl, pl, _, rfl, .inl (.inl (s8 _ _ (s7' _ _ (s7 _ _ hl8)))), fun p3 hp3 => ?_⟩
            rw [show (i : Int) + 1 = ((i + 1 : Nat) : Int) by omega, cut_from, ← List.map_drop]
            have s9 := Same.upd_new (o := .lst ((L.drop (i + 1)).map V.str)) hp3
            refine ⟨p2, p3, _, _, rfl, rfl, s9 _ _ upd_same, upd_same, ?_, fun p4 hp4 => ?_⟩
            · rw [List.length_map, List.length_map, List.length_append, List.length_take, List.length_drop]
              exact len1000 (by show _ + 1 + _ ≤ _; omega)
            rw [← List.map_append]
            have s10 := Same.upd_new (o := .lst ((L.take i ++ [(Txt.join (Str.ofString " ") ws2)] ++ L.drop (i + 1)).map V.str)) hp4
            have sX := (((s7.trans s7').trans s8).trans s9).trans s10
            have b' := b.step gy (mid := [(Txt.join (Str.ofString " ") ws2)]) (by simp) gg (by omega) (fun x hx => .inr (.inr (List.mem_singleton.mp hx))) (by simp)
            exact ⟨_, p4, L.take i ++ [(Txt.join (Str.ofString " ") ws2)] ++ L.drop (i + 1), rfl, rfl, .inl (.inl (.inl upd_same)), joinS b', kz _ _ b' (D8.same sX) (k8.trans (Keep.same sX))⟩
          · refine ⟨_, rfl, (by show 8 ≤ sizeLine; decide), fun ps hps => ?_⟩
            have t7 := Same.upd_new (o := .lst (signW.map V.str)) hps
            have psd := D6.nd hps
            have psl := D6.nl hps
            have D7 := D6.same t7
            have k7 := k6.trans (Keep.same t7)
            have hl7 := t7 _ _ hl6
            have hs7 : (L2.upd H6 ps (.lst (signW.map V.str))) ps = some (.lst (signW.map V.str)) := upd_same
            generalize hH7 : L2.upd H6 ps (.lst (signW.map V.str)) = H7 at t7 D7 k7 hl7 hs7
            refine ⟨d, l, ps, signW.map V.str, rfl, by rw [← hH7] at D7; exact D7, by rw [← hH7] at hs7; exact hs7, psd, psl, by decide, by decide, fun v H8 hv D8 kp8 => ?_⟩
            replace kp8 : Keep d l H7 H8 := by rw [← hH7]; exact kp8
            have hl8 := kp8 _ _ hl7 nd nl
            have k8 := k7.trans kp8
            obtain ⟨sg, hsg, rfl⟩ := List.mem_map.mp hv
            obtain ⟨g1, g2, g3⟩ := sign_w sg hsg
            refine ⟨_, rfl, _, rfl, _, rfl, pl, _, _, _, rfl, rfl, .inl (.inl hl8), atI_nat gyV, _, y.length, rfl, ⟨big_ok (by omega), rfl⟩, _, _, rfl, rfl, d, l, ((y.length : Int) + 1), rfl, D8, by omega, by omega, fun r9 H9 r90 r91 D9 kp9 => ?_⟩
            obtain ⟨c, rfl⟩ := Int.eq_ofNat_of_zero_le r90
            have hl9 := kp9 _ _ hl8 nd nl
            have k9 := k8.trans kp9
            refine ⟨_, rfl, _, rfl, pl, _, _, _, rfl, rfl, .inl (.inl hl9), atI_nat gyV, ?_⟩
            refine ⟨_, rfl, _, rfl, y, rfl, big_ok (by omega), _, rfl, _, _, rfl, rfl, ?_, ?_⟩
            · exact big_ok (by have := cutS_le y none (some (c : Int)); omega)
            refine ⟨_, rfl, _, rfl, pl, _, _, _, rfl, rfl, .inl (.inl hl9), atI_nat gyV, _, rfl, _, rfl, y, rfl, big_ok (by omega), _, _, rfl, rfl, ?_, ?_⟩
            · exact big_ok (by
                have := cutS_le y none (some (c : Int))
                have := cutS_le y (some (c : Int)) none
                rw [app_len]
                omega)
            have w9 : (L2.cutS y none (some (c : Int)) ++ sg ++ L2.cutS y (some (c : Int)) none).length ≤ y.length + 7 := by
              rw [TL.len_tl, TL.len_tl y, TL.tl_append, TL.tl_append, cutS_to, cutS_from, List.length_append, List.length_append, List.length_take, List.length_drop, ← TL.len_tl sg]
              omega
            have g9 : 10 ∉ TL.tl (L2.cutS y none (some (c : Int)) ++ sg ++ L2.cutS y (some (c : Int)) none) ∧ PyData.strOk (L2.cutS y none (some (c : Int)) ++ sg ++ L2.cutS y (some (c : Int)) none) = true := by
              obtain ⟨y1, y2⟩ := b.good y hyL
              have e : TL.tl (L2.cutS y none (some (c : Int)) ++ sg ++ L2.cutS y (some (c : Int)) none) = (TL.tl y).take c ++ TL.tl sg ++ (TL.tl y).drop c := by
                rw [TL.tl_append, TL.tl_append, cutS_to, cutS_from]
              rw [tl_ok] at *
              rw [e]
              refine ⟨fun hc => ?_, fun q hq => ?_⟩
              · rcases List.mem_append.mp hc with hc | hc
                · rcases List.mem_append.mp hc with hc | hc
                  · exact y1 (List.mem_of_mem_take hc)
                  · exact g2 hc
                · exact y1 (List.mem_of_mem_drop hc)
              · rcases List.mem_append.mp hq with hq | hq
                · rcases List.mem_append.mp hq with hq | hq
                  · exact y2 q (List.mem_of_mem_take hq)
                  · exact g3 q hq
                · exact y2 q (List.mem_of_mem_drop hq)
            generalize L2.cutS y none (some (c : Int)) ++ sg ++ L2.cutS y (some (c : Int)) none = w2 at w9 g9 ⊢
            refine ⟨⟨_, rfl⟩, _, rfl, _, rfl, _, rfl, pl, _, rfl, .inl (.inl hl9), fun p1 hp1 => ?_⟩
            rw [cut_to, ← List.map_take]
            have s7 := Same.upd_new (o := .lst ((L.take i).map V.str)) hp1
            refine ⟨_, rfl, (by show 1 ≤ sizeLine; decide), fun p0 hp0 => ?_⟩
            have s7' := Same.upd_new (o := .lst ([w2].map V.str)) hp0
            refine ⟨p1, p0, _, [w2].map V.str, rfl, rfl, s7' _ _ upd_same, upd_same, ?_, fun p2 hp2 => ?_⟩
            · rw [List.length_map, List.length_map, List.length_take]
              exact len1000 (by show _ + 1 ≤ _; omega)
            rw [← List.map_append]
            have s8 := Same.upd_new (o := .lst ((L.take i ++ [w2]).map V.str)) hp2
            refine ⟨_, rfl, _, rfl, _, _, rfl, rfl, _, rfl, pl, _, rfl, .inl (.inl (s8 _ _ (s7' _ _ (s7 _ _ hl9)))), fun p3 hp3 => ?_⟩
            rw [show (i : Int) + 1 = ((i + 1 : Nat) : Int) by omega, cut_from, ← List.map_drop]
            have s9 := Same.upd_new (o := .lst ((L.drop (i + 1)).map V.str)) hp3
            refine ⟨p2, p3, _, _, rfl, rfl, s9 _ _ upd_same, upd_same, ?_, fun p4 hp4 => ?_⟩
            · rw [List.length_map, List.length_map, List.length_append, List.length_take, List.length_drop]
              exact len1000 (by show _ + 1 + _ ≤ _; omega)
            rw [← List.map_append]
            have s10 := Same.upd_new (o := .lst ((L.take i ++ [w2] ++ L.drop (i + 1)).map V.str)) hp4
            have sX := (((s7.trans s7').trans s8).trans s9).trans s10
            have b' := b.step gy (mid := [w2]) (by simp) g9 w9 (fun x hx => .inr (.inr (List.mem_singleton.mp hx))) (by simp)
            exact ⟨_, p4, L.take i ++ [w2] ++ L.drop (i + 1), rfl, rfl, .inl (.inl (.inl upd_same)), joinS b', kz _ _ b' (D9.same sX) (k9.trans (Keep.same sX))⟩
end
end L2.Wk
namespace L2.Wk
open PySem PySem.Spec PyProof.Rows
abbrev s_law : Stmt := top 64
abbrev N_law : List Str := ["_law_script", "_law_deal_here", "_law_turn", "_law_block_here", "_law_machine_here", "_law_text", "_law_more", "_law_wrong_here", "_law_odd", "_law_good", "_law_rule"]
theorem sc_law : FnScope N_law ["_law_script"] (defScope s_law) := ⟨rfl, rfl, rfl, by decide +kernel, rfl, by decide +kernel, by decide +kernel⟩
theorem app_okS {a b : Str} (ha : PyData.strOk a = true) (hb : PyData.strOk b = true) : PyData.strOk (a ++ b) = true := by
  rw [tl_ok] at *
  intro c hc
  rw [TL.tl_append] at hc
  rcases List.mem_append.mp hc with hc | hc
  · exact ha c hc
  · exact hb c hc
theorem rule_strOk {R : RuleD} (f : RuleFine R) : PyData.strOk (ruleTxt R) = true := by
  obtain ⟨o1, o2, o3, o4, o5⟩ := f.ok
  rw [rule_pieces]
  unfold headOf tailOf
  have sp : PyData.strOk (Str.ofString " ") = true := by decide +kernel
  refine app_okS (app_okS (app_okS (app_okS (app_okS (app_okS o1 sp) o2) sp) o3) (by decide +kernel)) (app_okS o4 ?_)
  unfold deedsTxt
  split
  · refine app_okS (by decide +kernel) ?_
    rw [TL.join_eq]
    exact join_ok (by decide +kernel) o5
  · decide +kernel
def sevR (R : RuleD) : RuleD := ⟨R.st, R.ev, R.gd, R.th, cutL R.ds none (some ((7 : Nat) : Int))⟩
def sevM (M : MachD) : MachD := ⟨M.first, M.rules.map sevR⟩
theorem sev_dr {B : Blk} {R : RuleD} (h : RuleDr B R 10) : RuleDr B (sevR R) 10 ∧ (sevR R).ds.length ≤ 7 := by
  have l : (cutL R.ds none (some ((7 : Nat) : Int))).length ≤ 7 := by rw [cutL_len0]; omega
  exact ⟨⟨⟨h.1.st, h.1.th, h.1.ev, h.1.gd, fun z hz => h.1.ds z (cutL_mem hz)⟩, Nat.le_trans l (by decide)⟩, l⟩
theorem sev_good {B : Blk} {M : MachD} {n : Nat} (h : MachGood B M n) : MachGood B (sevM M) n ∧ ∀ R ∈ (sevM M).rules, R.ds.length ≤ 7 := by
  refine ⟨⟨h.first, fun R hR => ?_, by show (M.rules.map sevR).length ≤ n; rw [List.length_map]; exact h.len⟩, fun R hR => ?_⟩
  · obtain ⟨R', hR', rfl⟩ := List.mem_map.mp hR
    exact (sev_dr (h.rules R' hR')).1
  · obtain ⟨R', hR', rfl⟩ := List.mem_map.mp hR
    exact (sev_dr (h.rules R' hR')).2
theorem areas_in {B : Blk} {M : MachD} {n : Nat} (h : MachGood B M n) : ∀ x ∈ areasL M, x ∈ B.cells.map Cell.area := fun x hx => by
  unfold areasL behind at hx
  obtain ⟨z, hz, rfl⟩ := List.mem_map.mp hx
  obtain ⟨hz1, hz2⟩ := List.mem_filter.mp hz
  obtain ⟨ce, hce, e⟩ := (phr_cases (phr_drawn h.rules z hz1)).1 hz2
  exact List.mem_map.mpr ⟨ce, hce, e⟩
theorem fences_in {B : Blk} {M : MachD} {n : Nat} (h : MachGood B M n) : ∀ x ∈ fencesL M, x ∈ B.edges.filterMap Edge.fence := fun x hx => by
  unfold fencesL behind at hx
  obtain ⟨z, hz, rfl⟩ := List.mem_map.mp hx
  obtain ⟨hz1, hz2⟩ := List.mem_filter.mp hz
  obtain ⟨ed, hed, e⟩ := (phr_cases (phr_drawn h.rules z hz1)).2 hz2
  exact List.mem_filterMap.mpr ⟨ed, hed, e⟩
theorem head_len (M : MachD) : (headTxt M).length = 6 + M.first.length := by
  unfold headTxt
  rw [app_len, show (Str.ofString "first ").length = 6 by decide +kernel]
theorem bt_zero {B : Blk} {M : MachD} {m s n : Nat} (g : BlkGood B m s) (h : MachGood B M n) (hn : n ≤ 6) (h7 : ∀ R ∈ M.rules, R.ds.length ≤ 7) : BT M 0 (headTxt M :: M.rules.map ruleTxt) := by
  obtain ⟨f1, f2⟩ := nm_len h.first
  have hl := head_len M
  have fine : ∀ R ∈ M.rules, RuleFine R := fun R hR => (h.rules R hR).fine g
  have oks : ∀ R ∈ M.rules, RuleOks R := fun R hR => RuleRd.oks ⟨(fine R hR).small, (fine R hR).err⟩
  refine ⟨(by simp), ?_, fun y hy => ?_, fun y hy => ?_, [], Nat.zero_le _, fun y hy => ?_⟩
  · rw [List.length_cons, List.length_map]
    have := h.len
    omega
  · rcases List.mem_cons.mp hy with rfl | hy
    · omega
    · obtain ⟨R, hR, rfl⟩ := List.mem_map.mp hy
      have := (rule_lens (oks R hR)).2
      have := h7 R hR
      omega
  · rcases List.mem_cons.mp hy with rfl | hy
    · refine ⟨?_, app_okS (by decide +kernel) (nm_ok h.first)⟩
      unfold headTxt
      rw [TL.tl_append]
      intro hm
      rcases List.mem_append.mp hm with hm | hm
      · revert hm
        decide +kernel
      · exact name_no f2 (c := 10) (by simp) hm
    · obtain ⟨R, hR, rfl⟩ := List.mem_map.mp hy
      exact ⟨rule_no10 (oks R hR), rule_strOk (fine R hR)⟩
  · rcases List.mem_cons.mp hy with rfl | hy
    · exact .inr (.inl (by omega))
    · exact .inl hy
theorem mach_right {M : MachD} (rd : MachRd M) : badLine (headTxt M :: M.rules.map ruleTxt) = none := by
  have e1 : headOk (headTxt M) = true := by
    unfold headOk headP
    rw [head_part]
    show (decide (Str.ofString "first" = Str.ofString "first") && isName M.first) = true
    rw [rd.first]
    decide +kernel
  unfold badLine
  dsimp only
  rw [e1, if_pos rfl]
  refine (badFrom_none _ 1).mpr fun z hz => ?_
  obtain ⟨R, hR, rfl⟩ := List.mem_map.mp hz
  unfold lineOk
  rw [lineR_txt (rd.rules R hR).oks, (rd.rules R hR).err]
  rfl
/-- a written text of which the first wrong line is known -/
def OddAt (z : Str) (n : Nat) : Prop := TextOk z ∧ ansV z = .int (n : Nat)
theorem odd_at {z : Str} {n : Nat} (h1 : z.length ≤ 50000) (h2 : (linesOf z).length ≤ 30) (h3 : ∀ y ∈ linesOf z, y.length ≤ 900) (h4 : badLine (linesOf z) = some n) : OddAt z n :=
  ⟨⟨h1, h2, h3, fun e => by rw [h4] at e; cases e⟩, by unfold ansV; rw [h4]⟩
theorem o1 : OddAt (Str.ofString "") 0 := odd_at (by decide +kernel) (by decide +kernel) (by decide +kernel) (by decide +kernel)
theorem o2 : OddAt (Str.ofString "first") 0 := odd_at (by decide +kernel) (by decide +kernel) (by decide +kernel) (by decide +kernel)
theorem o3 : OddAt (Str.ofString "first x ") 0 := odd_at (by decide +kernel) (by decide +kernel) (by decide +kernel) (by decide +kernel)
theorem o4 : OddAt (Str.ofString "first none") 0 := odd_at (by decide +kernel) (by decide +kernel) (by decide +kernel) (by decide +kernel)
theorem o5 : OddAt (Str.ofString "x ask any -> x") 0 := odd_at (by decide +kernel) (by decide +kernel) (by decide +kernel) (by decide +kernel)
theorem o6 : OddAt (Str.ofString "first x\n") 1 := odd_at (by decide +kernel) (by decide +kernel) (by decide +kernel) (by decide +kernel)
theorem o7 : OddAt (Str.ofString "first x\nx ask any -> x:") 1 := odd_at (by decide +kernel) (by decide +kernel) (by decide +kernel) (by decide +kernel)
theorem o8 : OddAt (Str.ofString "First x") 0 := odd_at (by decide +kernel) (by decide +kernel) (by decide +kernel) (by decide +kernel)
theorem o9 : OddAt (Str.ofString "first x\nx ask any -> x: go,hold") 1 := odd_at (by decide +kernel) (by decide +kernel) (by decide +kernel) (by decide +kernel)
theorem o10 : OddAt (Str.ofString "first x\nx dip any any -> x: go, go\nx tick waits -> zz") 1 := odd_at (by decide +kernel) (by decide +kernel) (by decide +kernel) (by decide +kernel)
theorem o11 : OddAt (Str.ofString "first x\n\n") 1 := odd_at (by decide +kernel) (by decide +kernel) (by decide +kernel) (by decide +kernel)
structure TxtL (K : PySem.W.Frag) (mg : Str → Option Value) (x : Ws) (r : Rs) (q : RTs) (cc : Cs) (n : Ns) (m : MTs) (rr IT fIT : Addr) (t : Ts) (u : Us) (we pm : Addr) (a : Ds) (b : Ss) (c : Bs) (e : As) (g : Ms) (k : Mk2) (lm be : Addr) : Prop extends TxtV K mg x r q cc n m rr IT fIT t u we pm, TxtN K mg a b c e g k where
  g__law_machine_text : mg "_law_machine_text" = some (.ref lm)
  k__law_machine_text : PySem.W.keepIn K (.ref lm) = true
  g__law_bent : mg "_law_bent" = some (.ref be)
  k__law_bent : PySem.W.keepIn K (.ref be) = true
def spLaw (K : PySem.W.Frag) : Sp := fun vs H Q _ => ∃ (a : Addr) (ns : List Int), vs = [.ref a] ∧ SqL K H a (ns.map V.int) ∧ ns.length ≤ 63 ∧ ∀ H', Q (.bl true) H'
def oddZ : List (Str × Nat) := [(Str.ofString "", 0), (Str.ofString "first", 0), (Str.ofString "first x ", 0), (Str.ofString "first none", 0), (Str.ofString "x ask any -> x", 0), (Str.ofString "first x\n", 1), (Str.ofString "first x\nx ask any -> x:", 1), (Str.ofString "First x", 0)]
theorem odd_z : ∀ e ∈ oddZ, OddAt e.1 e.2 := by
  intro e he
  simp only [oddZ, List.mem_cons, List.not_mem_nil, or_false] at he
  rcases he with rfl | rfl | rfl | rfl | rfl | rfl | rfl | rfl
  · exact o1
  · exact o2
  · exact o3
  · exact o4
  · exact o5
  · exact o6
  · exact o7
  · exact o8
section
variable {P : Program} {w : World} {K : PySem.W.Frag} {mg : Str → Option Value} {base : Heap} {x : Ws} {r : Rs} {q : RTs} {cc : Cs} {n : Ns} {m : MTs} {rr IT fIT : Addr} {t : Ts} {u : Us} {we pm0 : Addr} {a : Ds} {b : Ss} {c : Bs} {e : As} {g : Ms} {kk : Mk2} {lm be : Addr} {f : Addr} {fd : FuncData}
theorem ok_law {f1 f2 f3 f4 f5 f6 f7 f8 : FuncData} (F : Fun K "law" "law" s_law f fd) (T : TxtL K mg x r q cc n m rr IT fIT t u we pm0 a b c e g kk lm be)
    (G__law_deal : FnOk P w K mg base CX0 1 a.deal f1 ["_law_script", "_law_base"] (spDeal K)) (b__law_deal : Binds K f1 ["_law_script", "_law_base"] [])
    (G__law_block : FnOk P w K mg base CX0 6 c.block f2 ["_law_deal_here", "_law_most", "_law_areas", "_law_signals"] spBlock) (b__law_block : Binds K f2 ["_law_deal_here", "_law_most", "_law_areas", "_law_signals"] [])
    (G__law_machine : FnOk P w K mg base CX0 6 kk.machine f3 ["_law_deal_here", "_law_block_here", "_law_most"] (spMachine 3 2)) (b__law_machine : Binds K f3 ["_law_deal_here", "_law_block_here", "_law_most"] [])
    (G__law_machine_text : FnOk P w K mg base CX0 2 lm f4 ["_law_machine_here"] spLMT) (b__law_machine_text : Binds K f4 ["_law_machine_here"] [])
    (G__law_told : FnOk P w K mg base CX0 9 u.told f5 ["_law_text"] spToldT) (b__law_told : Binds K f5 ["_law_text"] [])
    (G__law_draw : FnOk P w K mg base CX0 1 a.draw f6 ["_law_deal_here", "_law_many"] spDraw) (b__law_draw : Binds K f6 ["_law_deal_here", "_law_many"] [])
    (G__law_bent : FnOk P w K mg base CX0 3 be f7 ["_law_deal_here", "_law_text"] spBent) (b__law_bent : Binds K f7 ["_law_deal_here", "_law_text"] [])
    (G__law_wrong_line : FnOk P w K mg base CX0 5 u.wrong_line f8 ["_law_lines"] spWrongLine) (b__law_wrong_line : Binds K f8 ["_law_lines"] []) :
    FnOk P w K mg base CX0 10 f fd ["_law_script"] (spLaw K) := by
  refine F.ok sc_law (fun vs H Q E h => ?_) (fun cdv A outer s H vs Q E hr h => ?_)
  · obtain ⟨_, _, rfl, _⟩ := h
    rfl
  · obtain ⟨sa, ns, rfl, hS, hlen, k⟩ := h
    refine ⟨_, (pss_cons (ps_set (i := 1) sc_law.nd rfl (Or.inl rfl) (pe_call G__law_deal (hr.mono (by decide)) rfl T.g__law_deal T.k__law_deal b__law_deal .nil pass0 (pa_cons (pv 0) (pa_cons pe_int pa_nil))))
    (pss_cons (ps_for PassesOwn.never rfl (pi_range1 rfl T.b_range (pa_cons pe_int pa_nil)) (pg_name (i := 2) sc_law.nd rfl (Or.inl rfl))
      (pss_cons (ps_set (i := 3) sc_law.nd rfl (Or.inl rfl) (pe_call G__law_block (hr.mono (by decide)) rfl T.g__law_block T.k__law_block b__law_block .nil pass0 (pa_cons (pv 1) (pa_cons pe_int (pa_cons pe_int (pa_cons pe_int pa_nil))))))
      (pss_cons (ps_set (i := 4) sc_law.nd rfl (Or.inl rfl) (pe_call G__law_machine (hr.mono (by decide)) rfl T.g__law_machine T.k__law_machine b__law_machine .nil pass0 (pa_cons (pv 1) (pa_cons (pv 3) (pa_cons pe_int pa_nil)))))
      (pss_cons (ps_set (i := 5) sc_law.nd rfl (Or.inl rfl) (pe_call G__law_machine_text (hr.mono (by decide)) rfl T.g__law_machine_text T.k__law_machine_text b__law_machine_text .nil pass0 (pa_cons (pe_tup (pa_cons (pe_ix ix_tup (pv 4) pe_int (fun _ _ => rfl)) (pa_cons (pe_lc (own := [("_law_rule", 10)]) (g := gName 10) (tt := tYes) rfl sc_law.nd (pi_list (pe_ix ix_tup (pv 4) pe_int (fun _ _ => rfl))) (blkOk_by (N := N_law) (sc := defScope s_law) (by decide +kernel)) (fun _ _ _ _ _ => (pg_name (i := 10) sc_law.nd rfl (Or.inl rfl))) (fun _ _ _ _ _ => pts_nil) (fun _ _ _ _ _ => (pe_op (op_catAK (K := K) rfl) (pe_slice (sl_tupK (K := K) rfl) (pv 10) po_none (po_some pe_int)) (pe_tup (pa_cons (pe_slice (sl_listK (K := K) rfl) (pe_ix (ix_tupK (K := K) rfl) (pv 10) pe_int (fun _ _ => rfl)) po_none (po_some pe_int)) pa_nil))))) pa_nil))) pa_nil)))
      (pss_cons (ps_if (pt_cmpR op_ne (pe_call G__law_told (hr.mono (by decide)) rfl T.g__law_told T.k__law_told b__law_told .nil pass0 (pa_cons (pv 5) pa_nil)) (pv 5) (nomark _)) (pss_one (ps_ret pe_bl)) pss_nil)
      (pss_cons (ps_for PassesOwn.never rfl (pi_range1 rfl T.b_range (pa_cons (pe_op op_add pe_int (pe_call G__law_draw (hr.mono (by decide)) rfl T.g__law_draw T.k__law_draw b__law_draw .nil pass0 (pa_cons (pv 1) (pa_cons pe_int pa_nil)))) pa_nil)) (pg_name (i := 6) sc_law.nd rfl (Or.inl rfl))
      (pss_one (ps_set (i := 5) sc_law.nd rfl (Or.inl rfl) (pe_call G__law_bent (hr.mono (by decide)) rfl T.g__law_bent T.k__law_bent b__law_bent .nil pass0 (pa_cons (pv 1) (pa_cons (pv 5) pa_nil))))))
      (pss_cons (ps_set (i := 7) sc_law.nd rfl (Or.inl rfl) (pe_call G__law_wrong_line (hr.mono (by decide)) rfl T.g__law_wrong_line T.k__law_wrong_line b__law_wrong_line .nil pass0 (pa_cons (pe_split (pv 5) pe_str) pa_nil)))
      (pss_one (ps_if (pt_cmpR op_ne (pe_call G__law_told (hr.mono (by decide)) rfl T.g__law_told T.k__law_told b__law_told .nil pass0 (pa_cons (pv 5) pa_nil)) (pe_ifExp (pt_cmpR op_isN (pv 7) pe_non (nomark _)) (pv 5) (pv 7)) (nomark _)) (pss_one (ps_ret pe_bl)) pss_nil)))))))))
    (pss_cons (ps_set (i := 8) sc_law.nd rfl (Or.inl rfl) (pe_lst (pa_cons pe_str (pa_cons pe_str (pa_cons pe_str (pa_cons pe_str (pa_cons pe_str (pa_cons pe_str (pa_cons pe_str (pa_cons pe_str pa_nil))))))))))
    (pss_cons (ps_if (pt_cmpR (op_neD hr.units) (pe_lc (own := [("_law_text", 5)]) (g := gName 5) (tt := tYes) rfl sc_law.nd (pi_list (pv 8)) (blkOk_by (N := N_law) (sc := defScope s_law) (by decide +kernel)) (fun _ _ _ _ _ => (pg_name (i := 5) sc_law.nd rfl (Or.inl rfl))) (fun _ _ _ _ _ => pts_nil) (fun _ _ _ _ _ => (pe_call G__law_told (hr.mono (by decide)) rfl T.g__law_told T.k__law_told b__law_told .nil pass0 (pa_cons (pv 5) pa_nil)))) (pe_lst (pa_cons pe_int (pa_cons pe_int (pa_cons pe_int (pa_cons pe_int (pa_cons pe_int (pa_cons pe_int (pa_cons pe_int (pa_cons pe_int pa_nil))))))))) (nomark _)) (pss_one (ps_ret pe_bl)) pss_nil)
    (pss_cons (ps_set (i := 9) sc_law.nd rfl (Or.inl rfl) pe_str)
    (pss_one (ps_ret (pe_and (pe_cmpR op_eq (pe_call G__law_told (hr.mono (by decide)) rfl T.g__law_told T.k__law_told b__law_told .nil pass0 (pa_cons pe_str pa_nil)) pe_int (nomark _)) (pe_and (pe_cmpR op_eq (pe_call G__law_told (hr.mono (by decide)) rfl T.g__law_told T.k__law_told b__law_told .nil pass0 (pa_cons (pv 9) pa_nil)) pe_int (nomark _)) (pe_one (pe_cmpR op_eq (pe_call G__law_told (hr.mono (by decide)) rfl T.g__law_told T.k__law_told b__law_told .nil pass0 (pa_cons pe_str pa_nil)) pe_int (nomark _)))))))))))), ?_⟩
    refine ⟨_, rfl, sa, ns, rfl, hS, hlen, fun d l H1 hd hl D1 s1 => ?_⟩
    clear hS s1 hd hl
    refine ⟨8, rfl, by decide, by decide, for_range (lo := 0) (n := 8) (fun i σ H' => ∃ v2 v3 v4 v5 v6 v7 v8 v9 v10 : Option V, σ = [some (.ref sa), some (.ref d), v2, v3, v4, v5, v6, v7, v8, v9, v10] ∧ DealAt H' d l) ⟨_, _, _, _, _, _, _, _, _, rfl, D1⟩ ?_ ?_⟩
    · clear D1 H1
      rintro i σ H1 hi ⟨v2, v3, v4, v5, v6, v7, v8, v9, v10, rfl, D1⟩
      refine ⟨_, rfl, d, l, 3, 2, 2, rfl, D1, by decide, by decide, by decide, by decide, by decide, fun v B H2 hB gB D2 kp2 => ?_⟩
      refine ⟨_, rfl, _, rfl, d, l, v, B, 4, rfl, D2, hB, gB, by decide, by decide, by decide, fun uM M H3 hM gM D3 kp3 => ?_⟩
      obtain ⟨gM7, h7⟩ := sev_good gM
      have rd := mach_rd gB (by decide) (by decide) gM7 (by decide)
      have ms := rd.small
      have l6 : M.rules.length ≤ 6 := gM.len
      clear hB kp2 kp3 D2 D1
      obtain ⟨pm, pl, vs, rfl, hpm, hpl, pld, pll, hA⟩ := id hM
      have hvl := hA.len
      -- (first, rules with seven deeds)
      refine ⟨_, rfl, pm, _, _, _, rfl, rfl, .inl (.inl hpm), atI_nat (j := 0) rfl, ?_⟩
      refine ⟨_, rfl, pm, _, _, _, rfl, rfl, .inl (.inl hpm), atI_nat (j := 1) rfl, pl, rfl, ⟨_, .inl (.inl hpl)⟩, fun D0 hD0 => ?_⟩
      have d1d := D3.nd hD0
      have d1l := D3.nl hD0
      refine lc_list (K := K) (a := pl) (xs := vs) (fun j H' => Same H3 H' ∧ ∃ ws, H' D0 = some (.lst ws) ∧ AllAt (RowX d l D0 H') ws ((M.rules.take j).map sevR)) ⟨Same.upd_new hD0, [], upd_same, True.intro⟩ (fun j H' _ h => .inl (.inl (h.1 _ _ hpl))) ?_ ?_
      · rintro j y H' hy ⟨s1, ws, hw, hR⟩
        obtain ⟨R, hRj, hrow⟩ := hA.get hy
        have hj : j < M.rules.length := (List.getElem?_eq_some_iff.mp hRj).1
        obtain ⟨p, q, rfl, hp, hq, qd, ql⟩ := RuleRowAt.same s1 _ _ hrow
        refine ⟨rfl, _, rfl, _, rfl, p, _, rfl, .inl (.inl hp), not4 _ _ _ _ _, fun sl hsl => ?_⟩
        rw [cut4]
        have t2 := Same.upd_new (o := .tup [.str R.st, .str R.ev, .str R.gd, .str R.th]) hsl
        refine ⟨_, rfl, p, _, _, _, rfl, rfl, .inl (.inl (t2 _ _ hp)), atI_nat (j := 4) rfl, _, rfl, q, _, rfl, .inl (.inl (t2 _ _ hq)), fun lq hlq => ?_⟩
        rw [show (7 : Int) = ((7 : Nat) : Int) from rfl, cut_map]
        have t3 := Same.upd_new (o := .lst ((cutL R.ds none (some ((7 : Nat) : Int))).map V.str)) hlq
        refine ⟨(by show 1 ≤ sizeLine; decide), fun t1 ht1 => ?_⟩
        have t4 := Same.upd_new (o := .tup [.ref lq]) ht1
        refine ⟨sl, t1, _, _, rfl, rfl, .inl (.inl (t4 _ _ (t3 _ _ upd_same))), .inl (.inl upd_same), (by show 5 ≤ sizeLine; decide), (fun e => by cases e), (fun _ e => by cases e), fun _ _ tc htc => ?_⟩
        have t5 := Same.upd_new (o := .tup ([.str R.st, .str R.ev, .str R.gd, .str R.th] ++ [.ref lq])) htc
        have sX := ((t2.trans t3).trans t4).trans t5
        have D1k := sX _ _ hw
        have lqD : lq ≠ D0 := (ne_of_none (t2 _ _ hw) hlq).symm
        refine ⟨ws, D1k, ?_, ?_, ws ++ [.ref tc], upd_same, ?_⟩
        · rw [hR.len, List.length_map, List.length_take]
          exact small1000 (by omega)
        · intro b o e
          rw [upd_ne (ne_of_none e hD0)]
          exact sX _ _ (s1 b o e)
        · rw [List.take_add_one, hRj, List.map_append]
          exact AllAt.app ((hR.imp (RowX.same sX)).imp (RowX.upd D1k)) ⟨RowX.upd D1k _ _ ⟨tc, lq, rfl, upd_same, t5 _ _ (t4 _ _ upd_same), (D3.same (s1.trans t2)).nd hlq, (D3.same (s1.trans t2)).nl hlq, lqD⟩, True.intro⟩
      · rintro H4 ⟨s1, ws, hw, hR⟩
        rw [hvl, List.take_length] at hR
        refine ⟨(by show 2 ≤ sizeLine; decide), fun tm htm => ?_⟩
        have s2 := Same.upd_new (o := .tup [.str M.first, .ref D0]) htm
        have hM7 : MachAt d l (upd H4 tm (.tup [.str M.first, .ref D0])) (.ref tm) (sevM M) := ⟨tm, D0, ws, rfl, upd_same, s2 _ _ hw, d1d, d1l, (hR.imp (RowX.same s2)).imp RowX.drop⟩
        refine ⟨d, l, _, sevM M, rfl, hM7, ms, fun H5 s5 => ?_⟩
        have D5 := ((D3.same s1).same s2).same s5
        clear hM7 hM hpm hpl hA hR hw s1 s2 s5 d1d d1l
        have bt := bt_zero gB gM7 (by decide) h7
        have la : (B.cells.map Cell.area).length ≤ 5 := by
          have := gB.clen
          rw [List.length_map]
          omega
        have lf : (B.edges.filterMap Edge.fence).length ≤ 5 := by
          have := gB.elen
          have := List.length_filterMap_le Edge.fence B.edges
          omega
        have ok0 := bt.textOk (by decide) rd (areas_in gM7) la (fences_in gM7) lf
        have an0 : ansV (joinN (headTxt (sevM M) :: (sevM M).rules.map ruleTxt)) = .str (machTxt (sevM M)) := by
          unfold ansV
          rw [lines_join bt.ne (fun y hy => (bt.good y hy).1), mach_right rd]
          rfl
        -- _law_told(text) != text
        refine ⟨_, rfl, machTxt (sevM M), rfl, ok0, fun H6 s6 => ?_⟩
        rw [show ansV (machTxt (sevM M)) = .str (machTxt (sevM M)) from an0]
        refine ⟨_, rfl, rfl, _, rfl, iteFh (by simp) ?_⟩
        have D6 := D5.same s6
        clear D5 s6
        rw [show machTxt (sevM M) = joinN (headTxt (sevM M) :: (sevM M).rules.map ruleTxt) from rfl]
        clear an0 ok0
        generalize headTxt (sevM M) :: (sevM M).rules.map ruleTxt = L0 at bt ⊢
        refine ⟨_, rfl, d, l, 2, rfl, D6, by decide, by decide, fun rn H7 r70 r71 D7 kp7 => ?_⟩
        clear D6 kp7
        refine ⟨_, _, rfl, rfl, 1 + rn, rfl, by omega, by omega, ?_⟩
        have en : (1 + rn).toNat ≤ 2 := by omega
        generalize (1 + rn).toNat = nb at en ⊢
        refine for_range (lo := 0) (n := nb) (fun j σ H' => ∃ (v6 v7 v8 v9 v10 : Option V) (L : List Str), σ = [some (.ref sa), some (.ref d), some (.int (0 + (i : Int))), some v, some (.ref pm), some (.str (joinN L)), v6, v7, v8, v9, v10] ∧ DealAt H' d l ∧ BT (sevM M) j L) ⟨_, _, _, _, _, L0, rfl, D7, bt⟩ ?_ ?_
        · rintro j σ H8 hj ⟨v6, v7, v8, v9, v10, L, rfl, D8, b8⟩
          refine ⟨_, rfl, _, rfl, d, l, sevM M, j, L, rfl, D8, b8, by omega, fun L' H9 b9 D9 _ => ?_⟩
          exact ⟨_, _, _, _, _, L', rfl, D9, b9⟩
        · rintro σ H8 ⟨v6, v7, v8, v9, v10, L, rfl, D8, b8⟩
          have ok8 := b8.textOk en rd (areas_in gM7) la (fences_in gM7) lf
          have el : linesOf (joinN L) = L := lines_join b8.ne fun y hy => (b8.good y hy).1
          have few := b8.few
          have sh := b8.short
          have jl := ok8.len
          refine ⟨_, rfl, ⟨_, rfl⟩, joinN L, Str.ofString "\n", rfl, rfl, by decide +kernel, big_ok (by omega), fun pL hpL => ?_⟩
          rw [show Txt.split (joinN L) (Str.ofString "\n") = L from el]
          have s9 := Same.upd_new (o := .lst (L.map V.str)) hpL
          refine ⟨pL, L, rfl, upd_same, b8.ne, by omega, fun y hy => ⟨(by have := sh y hy; omega), (b8.good y hy).2⟩, fun H9 s9' => ?_⟩
          have D9 := (D8.same s9).same s9'
          refine ⟨_, rfl, joinN L, rfl, ok8, fun HA sA => ?_⟩
          have DA := D9.same sA
          cases eb : badLine L with
          | none =>
            rw [show ansV (joinN L) = .str (joinN L) by unfold ansV; rw [el, eb]]
            refine ⟨_, rfl, rfl, _, rfl, iteTh rfl ?_⟩
            refine ⟨_, rfl, rfl, _, rfl, iteFh (by simp) ?_⟩
            exact ⟨_, _, _, _, _, _, _, _, _, rfl, DA⟩
          | some nb =>
            rw [show ansV (joinN L) = .int (nb : Nat) by unfold ansV; rw [el, eb]]
            refine ⟨_, rfl, rfl, _, rfl, iteFh rfl ?_⟩
            refine ⟨_, rfl, rfl, _, rfl, iteFh (by show (!decide (V.int (nb : Nat) = V.int (nb : Nat))) = false; simp) ?_⟩
            exact ⟨_, _, _, _, _, _, _, _, _, rfl, DA⟩
    · rintro σ H1 ⟨v2, v3, v4, v5, v6, v7, v8, v9, v10, rfl, D1⟩
      clear D1
      refine ⟨(by show 8 ≤ sizeLine; decide), fun po hpo => ?_⟩
      show tSeq _ _ _ _ (upd H1 po (.lst (oddZ.map fun e => V.str e.1)))
      have ho : (upd H1 po (.lst (oddZ.map fun e => V.str e.1))) po = some (.lst (oddZ.map fun e => V.str e.1)) := upd_same
      generalize upd H1 po _ = H2 at ho ⊢
      clear hpo H1
      refine ⟨_, rfl, po, rfl, ⟨_, .inl (.inl ho)⟩, fun D hD => ?_⟩
      refine lc_list (K := K) (a := po) (xs := oddZ.map fun e => V.str e.1) (fun i H' => Same H2 H' ∧ H' D = some (.lst ((oddZ.take i).map fun e => V.int (e.2 : Nat)))) ⟨Same.upd_new hD, upd_same⟩ (fun i H' _ h => .inl (.inl (h.1 _ _ ho))) ?_ ?_
      · rintro i y H' hy ⟨t1, d1⟩
        rw [List.getElem?_map] at hy
        obtain ⟨e, he, rfl⟩ := Option.map_eq_some_iff.mp hy
        obtain ⟨ok, an⟩ := odd_z e (List.mem_of_getElem? he)
        refine ⟨rfl, _, rfl, e.1, rfl, ok, fun H5 s5 => ?_⟩
        rw [an]
        have hi : i < 8 := (List.getElem?_eq_some_iff.mp he).1
        refine ⟨_, s5 _ _ d1, ?_, fun b o e => ?_, ?_⟩
        · rw [List.length_map, List.length_take]
          exact small1000 (by omega)
        · rw [upd_ne (ne_of_none e hD)]
          exact s5 _ _ (t1 b o e)
        · rw [List.take_add_one, he, List.map_append]
          exact upd_same
      · rintro H3 ⟨t1, d1⟩
        rw [show (oddZ.map fun e => V.str e.1).length = 8 from rfl] at d1
        have d1 : H3 D = some (.lst [.int 0, .int 0, .int 0, .int 0, .int 0, .int 1, .int 1, .int 0]) := d1
        refine ⟨(by show 8 ≤ sizeLine; decide), fun p2 hp2 => ?_⟩
        have s2 := Same.upd_new (o := .lst [.int 0, .int 0, .int 0, .int 0, .int 0, .int 1, .int 1, .int 0]) hp2
        have sh : SeqAt.shaped (.list (([0, 0, 0, 0, 0, 1, 1, 0] : List Int).map PyData.int)) = true := by decide +kernel
        refine ⟨_, _, .lst (.inl (.inl (s2 _ _ d1))) (dp_ints [0, 0, 0, 0, 0, 1, 1, 0]), .lst (.inl (.inl upd_same)) (dp_ints [0, 0, 0, 0, 0, 1, 1, 0]), sh, sh, _, rfl, ?_⟩
        rw [SeqAt.eqv_refl _ (SeqAt.canLay_of_shaped sh)]
        refine iteF ?_
        refine ⟨_, rfl, o9.1, fun H5 s5 => ?_⟩
        rw [o9.2]
        refine ⟨rfl, _, rfl, iteTh (by decide) ?_⟩
        refine ⟨_, rfl, _, rfl, o10.1, fun H6 s6 => ?_⟩
        rw [o10.2]
        refine ⟨rfl, _, rfl, iteTh (by decide) ?_⟩
        refine ⟨_, rfl, o11.1, fun H7 s7 => ?_⟩
        rw [o11.2]
        refine ⟨rfl, ?_⟩
        exact k _
end
end L2.Wk
namespace L2.Wk
open PySem PySem.Spec PyProof.Rows
/-- an error of the class at S is what «except S» names -/
theorem exm_self {K : PySem.W.Frag} {S : Addr} (h1 : PySem.W.subIn K (.ref S) (.type "BaseException") = some true) (h2 : PySem.W.isClsIn K S = true) (h3 : PySem.W.typeIn K (.ref S) = some (.type "type")) (h4 : PySem.W.subIn K (.ref S) (.ref S) = some true) :
    PySem.W.exmOne K (.ref S) (.ref S) = some true := by
  have e1 : (PySem.W.subIn K (.ref S) (.type "BaseException") == some true) = true := by rw [h1] <;> rfl
  have e2 : ((PySem.W.clsIn K S).isSome && PySem.W.typeIn K (.ref S) == some (.type "type")) = true := by
    have h2' : (PySem.W.clsIn K S).isSome = true := h2
    rw [h2', h3] <;> rfl
  show (if (PySem.W.subIn K (.ref S) (.type "BaseException") == some true) = true then (if ((PySem.W.clsIn K S).isSome && PySem.W.typeIn K (.ref S) == some (.type "type")) = true then PySem.W.subIn K (.ref S) (.ref S) else none) else none) = some true
  rw [if_pos e1, if_pos e2]
  exact h4
theorem all_mk {P : Program} {w : World} {K : PySem.W.Frag} {h : Heap} {mg : Str → Option Value} {fa : Addr} (X : K.In h) (G : h.Ns mainGlobals mg) (hfa : mg "law" = some (.ref fa))
    {r_RESERVED : Addr} {rd_RESERVED : Option Addr} {ri_RESERVED : Array Value} {rn_RESERVED : Nat} {rs_RESERVED : Array (Option Value)}
    {r_PLAIN_EVENTS : Addr} {rd_PLAIN_EVENTS : Option Addr} {ri_PLAIN_EVENTS : Array Value} {rn_PLAIN_EVENTS : Nat} {rs_PLAIN_EVENTS : Array (Option Value)}
    {r_AREA_EVENTS : Addr} {rd_AREA_EVENTS : Option Addr} {ri_AREA_EVENTS : Array Value} {rn_AREA_EVENTS : Nat} {rs_AREA_EVENTS : Array (Option Value)}
    {r_PLAIN_DEEDS : Addr} {rd_PLAIN_DEEDS : Option Addr} {ri_PLAIN_DEEDS : Array Value} {rn_PLAIN_DEEDS : Nat} {rs_PLAIN_DEEDS : Array (Option Value)}
    {r_FENCE_DEEDS : Addr} {rd_FENCE_DEEDS : Option Addr} {ri_FENCE_DEEDS : Array Value} {rn_FENCE_DEEDS : Nat} {rs_FENCE_DEEDS : Array (Option Value)}
    {r_AREA_DEEDS : Addr} {rd_AREA_DEEDS : Option Addr} {ri_AREA_DEEDS : Array Value} {rn_AREA_DEEDS : Nat} {rs_AREA_DEEDS : Array (Option Value)}
    {t_LONGEST : Tok}
    {t_LETTERS : Tok}
    {f_is_sequence : Addr} {od_is_sequence an_is_sequence : Option Addr} {sl_is_sequence : Array (Option Value)} {oc_is_sequence kV_is_sequence dc_is_sequence pm_is_sequence cd_is_sequence ct_is_sequence : Value}
    {f_is_name : Addr} {od_is_name an_is_name : Option Addr} {sl_is_name : Array (Option Value)} {oc_is_name kV_is_name dc_is_name pm_is_name cd_is_name ct_is_name : Value}
    {f_is_event : Addr} {od_is_event an_is_event : Option Addr} {sl_is_event : Array (Option Value)} {oc_is_event kV_is_event dc_is_event pm_is_event cd_is_event ct_is_event : Value}
    {f_is_deed : Addr} {od_is_deed an_is_deed : Option Addr} {sl_is_deed : Array (Option Value)} {oc_is_deed kV_is_deed dc_is_deed pm_is_deed cd_is_deed ct_is_deed : Value}
    {f_is_phrase : Addr} {od_is_phrase an_is_phrase : Option Addr} {sl_is_phrase : Array (Option Value)} {oc_is_phrase kV_is_phrase dc_is_phrase pm_is_phrase cd_is_phrase ct_is_phrase : Value}
    {f_may_do : Addr} {od_may_do an_may_do : Option Addr} {sl_may_do : Array (Option Value)} {oc_may_do kV_may_do dc_may_do pm_may_do cd_may_do ct_may_do : Value}
    {C_InvalidMachine f_InvalidMachine : Addr} {nm_InvalidMachine q_InvalidMachine : Str} {N_InvalidMachine : Addr} {bs_InvalidMachine : List Value} {sn_InvalidMachine : List Str} {sub_InvalidMachine : List Value} {ab_InvalidMachine : Bool} {col_InvalidMachine : Option Bool} {dd_InvalidMachine : Option Addr} {m0_InvalidMachine m1_InvalidMachine m2_InvalidMachine m3_InvalidMachine m5_InvalidMachine : Option Value} {B0_InvalidMachine : Addr} {od_InvalidMachine an_InvalidMachine : Option Addr} {sl_InvalidMachine : Array (Option Value)} {oc_InvalidMachine dc_InvalidMachine pm_InvalidMachine cd_InvalidMachine ct_InvalidMachine : Value}
    {r_GUARDS : Addr} {rd_GUARDS : Option Addr} {ri_GUARDS : Array Value} {rn_GUARDS : Nat} {rs_GUARDS : Array (Option Value)}
    {C_Rule : Addr}
    {f_init : Addr} {od_init an_init : Option Addr} {sl_init : Array (Option Value)} {oc_init kV_init dc_init pm_init cd_init ct_init : Value}
    {dT_init : Addr} {dd_init : Option Addr} {dn_init : Nat} {ds_init : Array (Option Value)} {dc2_init : Value} {dv_init_0 : Addr}
    {f_deeds_text : Addr} {od_deeds_text an_deeds_text : Option Addr} {sl_deeds_text : Array (Option Value)} {oc_deeds_text kV_deeds_text dc_deeds_text pm_deeds_text cd_deeds_text ct_deeds_text : Value}
    {f_Rule_str : Addr} {od_Rule_str an_Rule_str : Option Addr} {sl_Rule_str : Array (Option Value)} {oc_Rule_str kV_Rule_str dc_Rule_str pm_Rule_str cd_Rule_str ct_Rule_str : Value}
    {f_Rule_eq : Addr} {od_Rule_eq an_Rule_eq : Option Addr} {sl_Rule_eq : Array (Option Value)} {oc_Rule_eq kV_Rule_eq dc_Rule_eq pm_Rule_eq cd_Rule_eq ct_Rule_eq : Value}
    {f_law_deal : Addr} {od_law_deal an_law_deal : Option Addr} {sl_law_deal : Array (Option Value)} {oc_law_deal kV_law_deal dc_law_deal pm_law_deal cd_law_deal ct_law_deal : Value}
    {f_law_draw : Addr} {od_law_draw an_law_draw : Option Addr} {sl_law_draw : Array (Option Value)} {oc_law_draw kV_law_draw dc_law_draw pm_law_draw cd_law_draw ct_law_draw : Value}
    {f_law_pick : Addr} {od_law_pick an_law_pick : Option Addr} {sl_law_pick : Array (Option Value)} {oc_law_pick kV_law_pick dc_law_pick pm_law_pick cd_law_pick ct_law_pick : Value}
    {f_law_names : Addr} {od_law_names an_law_names : Option Addr} {sl_law_names : Array (Option Value)} {oc_law_names kV_law_names dc_law_names pm_law_names cd_law_names ct_law_names : Value}
    {f_law_formula : Addr} {od_law_formula an_law_formula : Option Addr} {sl_law_formula : Array (Option Value)} {oc_law_formula kV_law_formula dc_law_formula pm_law_formula cd_law_formula ct_law_formula : Value}
    {f_law_worth : Addr} {od_law_worth an_law_worth : Option Addr} {sl_law_worth : Array (Option Value)} {oc_law_worth kV_law_worth dc_law_worth pm_law_worth cd_law_worth ct_law_worth : Value}
    {f_law_sets : Addr} {od_law_sets an_law_sets : Option Addr} {sl_law_sets : Array (Option Value)} {oc_law_sets kV_law_sets dc_law_sets pm_law_sets cd_law_sets ct_law_sets : Value}
    {f_law_told_names : Addr} {od_law_told_names an_law_told_names : Option Addr} {sl_law_told_names : Array (Option Value)} {oc_law_told_names kV_law_told_names dc_law_told_names pm_law_told_names cd_law_told_names ct_law_told_names : Value}
    {f_law_needs : Addr} {od_law_needs an_law_needs : Option Addr} {sl_law_needs : Array (Option Value)} {oc_law_needs kV_law_needs dc_law_needs pm_law_needs cd_law_needs ct_law_needs : Value}
    {f_law_block : Addr} {od_law_block an_law_block : Option Addr} {sl_law_block : Array (Option Value)} {oc_law_block kV_law_block dc_law_block pm_law_block cd_law_block ct_law_block : Value}
    {f_law_places : Addr} {od_law_places an_law_places : Option Addr} {sl_law_places : Array (Option Value)} {oc_law_places kV_law_places dc_law_places pm_law_places cd_law_places ct_law_places : Value}
    {f_law_fences : Addr} {od_law_fences an_law_fences : Option Addr} {sl_law_fences : Array (Option Value)} {oc_law_fences kV_law_fences dc_law_fences pm_law_fences cd_law_fences ct_law_fences : Value}
    {f_law_all_events : Addr} {od_law_all_events an_law_all_events : Option Addr} {sl_law_all_events : Array (Option Value)} {oc_law_all_events kV_law_all_events dc_law_all_events pm_law_all_events cd_law_all_events ct_law_all_events : Value}
    {f_law_deed : Addr} {od_law_deed an_law_deed : Option Addr} {sl_law_deed : Array (Option Value)} {oc_law_deed kV_law_deed dc_law_deed pm_law_deed cd_law_deed ct_law_deed : Value}
    {f_law_any_rule : Addr} {od_law_any_rule an_law_any_rule : Option Addr} {sl_law_any_rule : Array (Option Value)} {oc_law_any_rule kV_law_any_rule dc_law_any_rule pm_law_any_rule cd_law_any_rule ct_law_any_rule : Value}
    {f_kind_of : Addr} {od_kind_of an_kind_of : Option Addr} {sl_kind_of : Array (Option Value)} {oc_kind_of kV_kind_of dc_kind_of pm_kind_of cd_kind_of ct_kind_of : Value}
    {f_name_of : Addr} {od_name_of an_name_of : Option Addr} {sl_name_of : Array (Option Value)} {oc_name_of kV_name_of dc_name_of pm_name_of cd_name_of ct_name_of : Value}
    {f_ascending : Addr} {od_ascending an_ascending : Option Addr} {sl_ascending : Array (Option Value)} {oc_ascending kV_ascending dc_ascending pm_ascending cd_ascending ct_ascending : Value}
    {f_names_behind : Addr} {od_names_behind an_names_behind : Option Addr} {sl_names_behind : Array (Option Value)} {oc_names_behind kV_names_behind dc_names_behind pm_names_behind cd_names_behind ct_names_behind : Value}
    {C_Machine : Addr}
    {f_minit : Addr} {od_minit an_minit : Option Addr} {sl_minit : Array (Option Value)} {oc_minit kV_minit dc_minit pm_minit cd_minit ct_minit : Value}
    {dT_minit : Addr} {dd_minit : Option Addr} {dn_minit : Nat} {ds_minit : Array (Option Value)} {dc2_minit : Value} {dv_minit_0 : Addr}
    {f_Machine_str : Addr} {od_Machine_str an_Machine_str : Option Addr} {sl_Machine_str : Array (Option Value)} {oc_Machine_str kV_Machine_str dc_Machine_str pm_Machine_str cd_Machine_str ct_Machine_str : Value}
    {f_Machine_eq : Addr} {od_Machine_eq an_Machine_eq : Option Addr} {sl_Machine_eq : Array (Option Value)} {oc_Machine_eq kV_Machine_eq dc_Machine_eq pm_Machine_eq cd_Machine_eq ct_Machine_eq : Value}
    {f_Machine_len : Addr} {od_Machine_len an_Machine_len : Option Addr} {sl_Machine_len : Array (Option Value)} {oc_Machine_len kV_Machine_len dc_Machine_len pm_Machine_len cd_Machine_len ct_Machine_len : Value}
    {f_Machine_item : Addr} {od_Machine_item an_Machine_item : Option Addr} {sl_Machine_item : Array (Option Value)} {oc_Machine_item kV_Machine_item dc_Machine_item pm_Machine_item cd_Machine_item ct_Machine_item : Value}
    {p_read : Addr} {rest_read : List Value}
    {f_read : Addr} {od_read an_read : Option Addr} {sl_read : Array (Option Value)} {oc_read kV_read dc_read pm_read cd_read ct_read : Value}
    {f_law_mixed : Addr} {od_law_mixed an_law_mixed : Option Addr} {sl_law_mixed : Array (Option Value)} {oc_law_mixed kV_law_mixed dc_law_mixed pm_law_mixed cd_law_mixed ct_law_mixed : Value}
    {f_law_sleep_row : Addr} {od_law_sleep_row an_law_sleep_row : Option Addr} {sl_law_sleep_row : Array (Option Value)} {oc_law_sleep_row kV_law_sleep_row dc_law_sleep_row pm_law_sleep_row cd_law_sleep_row ct_law_sleep_row : Value}
    {f_law_wake_row : Addr} {od_law_wake_row an_law_wake_row : Option Addr} {sl_law_wake_row : Array (Option Value)} {oc_law_wake_row kV_law_wake_row dc_law_wake_row pm_law_wake_row cd_law_wake_row ct_law_wake_row : Value}
    {f_law_spoilt_row : Addr} {od_law_spoilt_row an_law_spoilt_row : Option Addr} {sl_law_spoilt_row : Array (Option Value)} {oc_law_spoilt_row kV_law_spoilt_row dc_law_spoilt_row pm_law_spoilt_row cd_law_spoilt_row ct_law_spoilt_row : Value}
    {f_law_sleeper : Addr} {od_law_sleeper an_law_sleeper : Option Addr} {sl_law_sleeper : Array (Option Value)} {oc_law_sleeper kV_law_sleeper dc_law_sleeper pm_law_sleeper cd_law_sleeper ct_law_sleeper : Value}
    {f_law_machine : Addr} {od_law_machine an_law_machine : Option Addr} {sl_law_machine : Array (Option Value)} {oc_law_machine kV_law_machine dc_law_machine pm_law_machine cd_law_machine ct_law_machine : Value}
    {f_law_rule_text : Addr} {od_law_rule_text an_law_rule_text : Option Addr} {sl_law_rule_text : Array (Option Value)} {oc_law_rule_text kV_law_rule_text dc_law_rule_text pm_law_rule_text cd_law_rule_text ct_law_rule_text : Value}
    {f_law_machine_text : Addr} {od_law_machine_text an_law_machine_text : Option Addr} {sl_law_machine_text : Array (Option Value)} {oc_law_machine_text kV_law_machine_text dc_law_machine_text pm_law_machine_text cd_law_machine_text ct_law_machine_text : Value}
    {f_read_rule : Addr} {od_read_rule an_read_rule : Option Addr} {sl_read_rule : Array (Option Value)} {oc_read_rule kV_read_rule dc_read_rule pm_read_rule cd_read_rule ct_read_rule : Value}
    {f_law_is_name : Addr} {od_law_is_name an_law_is_name : Option Addr} {sl_law_is_name : Array (Option Value)} {oc_law_is_name kV_law_is_name dc_law_is_name pm_law_is_name cd_law_is_name ct_law_is_name : Value}
    {f_law_is_told : Addr} {od_law_is_told an_law_is_told : Option Addr} {sl_law_is_told : Array (Option Value)} {oc_law_is_told kV_law_is_told dc_law_is_told pm_law_is_told cd_law_is_told ct_law_is_told : Value}
    {f_law_is_event : Addr} {od_law_is_event an_law_is_event : Option Addr} {sl_law_is_event : Array (Option Value)} {oc_law_is_event kV_law_is_event dc_law_is_event pm_law_is_event cd_law_is_event ct_law_is_event : Value}
    {f_law_is_deed : Addr} {od_law_is_deed an_law_is_deed : Option Addr} {sl_law_is_deed : Array (Option Value)} {oc_law_is_deed kV_law_is_deed dc_law_is_deed pm_law_is_deed cd_law_is_deed ct_law_is_deed : Value}
    {f_law_wrong : Addr} {od_law_wrong an_law_wrong : Option Addr} {sl_law_wrong : Array (Option Value)} {oc_law_wrong kV_law_wrong dc_law_wrong pm_law_wrong cd_law_wrong ct_law_wrong : Value}
    {f_law_rule_of : Addr} {od_law_rule_of an_law_rule_of : Option Addr} {sl_law_rule_of : Array (Option Value)} {oc_law_rule_of kV_law_rule_of dc_law_rule_of pm_law_rule_of cd_law_rule_of ct_law_rule_of : Value}
    {f_law_wrong_line : Addr} {od_law_wrong_line an_law_wrong_line : Option Addr} {sl_law_wrong_line : Array (Option Value)} {oc_law_wrong_line kV_law_wrong_line dc_law_wrong_line pm_law_wrong_line cd_law_wrong_line ct_law_wrong_line : Value}
    {f_law_told : Addr} {od_law_told an_law_told : Option Addr} {sl_law_told : Array (Option Value)} {oc_law_told kV_law_told dc_law_told pm_law_told cd_law_told ct_law_told : Value}
    {f_law_bent : Addr} {od_law_bent an_law_bent : Option Addr} {sl_law_bent : Array (Option Value)} {oc_law_bent kV_law_bent dc_law_bent pm_law_bent cd_law_bent ct_law_bent : Value}
    {f_law : Addr} {od_law an_law : Option Addr} {sl_law : Array (Option Value)} {oc_law kV_law dc_law pm_law cd_law ct_law : Value}
    {C_InvalidText f_InvalidText : Addr} {nm_InvalidText q_InvalidText : Str} {N_InvalidText : Addr} {bs_InvalidText : List Value} {sn_InvalidText : List Str} {sub_InvalidText : List Value} {ab_InvalidText : Bool} {col_InvalidText : Option Bool} {dd_InvalidText : Option Addr} {m0_InvalidText m1_InvalidText m2_InvalidText m3_InvalidText m5_InvalidText : Option Value} {B0_InvalidText : Addr} {od_InvalidText an_InvalidText : Option Addr} {sl_InvalidText : Array (Option Value)} {oc_InvalidText dc_InvalidText pm_InvalidText cd_InvalidText ct_InvalidText : Value}
    {C_WakeError : Addr}
    (n_RESERVED : PySem.W.nsIn K mainGlobals "RESERVED" = some (some (.ref r_RESERVED)))
    (l_RESERVED : K.lookup r_RESERVED = some ⟨.type "tuple", rd_RESERVED, .seq ri_RESERVED rn_RESERVED, rs_RESERVED⟩)
    (v_RESERVED : Vals ((resV).map V.str) ri_RESERVED.toList)
    (z_RESERVED : ri_RESERVED.size ≤ sizeLine)
    (n_PLAIN_EVENTS : PySem.W.nsIn K mainGlobals "PLAIN_EVENTS" = some (some (.ref r_PLAIN_EVENTS)))
    (l_PLAIN_EVENTS : K.lookup r_PLAIN_EVENTS = some ⟨.type "tuple", rd_PLAIN_EVENTS, .seq ri_PLAIN_EVENTS rn_PLAIN_EVENTS, rs_PLAIN_EVENTS⟩)
    (v_PLAIN_EVENTS : Vals ((plainE).map V.str) ri_PLAIN_EVENTS.toList)
    (z_PLAIN_EVENTS : ri_PLAIN_EVENTS.size ≤ sizeLine)
    (n_AREA_EVENTS : PySem.W.nsIn K mainGlobals "AREA_EVENTS" = some (some (.ref r_AREA_EVENTS)))
    (l_AREA_EVENTS : K.lookup r_AREA_EVENTS = some ⟨.type "tuple", rd_AREA_EVENTS, .seq ri_AREA_EVENTS rn_AREA_EVENTS, rs_AREA_EVENTS⟩)
    (v_AREA_EVENTS : Vals ((areaE).map V.str) ri_AREA_EVENTS.toList)
    (z_AREA_EVENTS : ri_AREA_EVENTS.size ≤ sizeLine)
    (n_PLAIN_DEEDS : PySem.W.nsIn K mainGlobals "PLAIN_DEEDS" = some (some (.ref r_PLAIN_DEEDS)))
    (l_PLAIN_DEEDS : K.lookup r_PLAIN_DEEDS = some ⟨.type "tuple", rd_PLAIN_DEEDS, .seq ri_PLAIN_DEEDS rn_PLAIN_DEEDS, rs_PLAIN_DEEDS⟩)
    (v_PLAIN_DEEDS : Vals ((plainD).map V.str) ri_PLAIN_DEEDS.toList)
    (z_PLAIN_DEEDS : ri_PLAIN_DEEDS.size ≤ sizeLine)
    (n_FENCE_DEEDS : PySem.W.nsIn K mainGlobals "FENCE_DEEDS" = some (some (.ref r_FENCE_DEEDS)))
    (l_FENCE_DEEDS : K.lookup r_FENCE_DEEDS = some ⟨.type "tuple", rd_FENCE_DEEDS, .seq ri_FENCE_DEEDS rn_FENCE_DEEDS, rs_FENCE_DEEDS⟩)
    (v_FENCE_DEEDS : Vals ((fenceD).map V.str) ri_FENCE_DEEDS.toList)
    (z_FENCE_DEEDS : ri_FENCE_DEEDS.size ≤ sizeLine)
    (n_AREA_DEEDS : PySem.W.nsIn K mainGlobals "AREA_DEEDS" = some (some (.ref r_AREA_DEEDS)))
    (l_AREA_DEEDS : K.lookup r_AREA_DEEDS = some ⟨.type "tuple", rd_AREA_DEEDS, .seq ri_AREA_DEEDS rn_AREA_DEEDS, rs_AREA_DEEDS⟩)
    (v_AREA_DEEDS : Vals ((areaD).map V.str) ri_AREA_DEEDS.toList)
    (z_AREA_DEEDS : ri_AREA_DEEDS.size ≤ sizeLine)
    (n_LONGEST : PySem.W.nsIn K mainGlobals "LONGEST" = some (some (.int 4 t_LONGEST)))
    (n_LETTERS : PySem.W.nsIn K mainGlobals "LETTERS" = some (some (.str lettersS t_LETTERS)))
    (a_is_sequence : PySem.W.nsIn K mainGlobals "is_sequence" = some (some (.ref f_is_sequence)))
    (l_is_sequence : K.lookup f_is_sequence = some ⟨oc_is_sequence, od_is_sequence, .func (PySem.W.fnOf "is_sequence" "is_sequence" (defArgs s_is_sequence) (defBody s_is_sequence) (defScope s_is_sequence) .none kV_is_sequence dc_is_sequence pm_is_sequence an_is_sequence cd_is_sequence ct_is_sequence), sl_is_sequence⟩)
    (c_is_sequence : PySem.W.codeIn K cd_is_sequence "is_sequence" = true)
    (k_is_sequence : PySem.W.keepIn K (.ref f_is_sequence) = true)
    (a_is_name : PySem.W.nsIn K mainGlobals "is_name" = some (some (.ref f_is_name)))
    (l_is_name : K.lookup f_is_name = some ⟨oc_is_name, od_is_name, .func (PySem.W.fnOf "is_name" "is_name" (defArgs s_is_name) (defBody s_is_name) (defScope s_is_name) .none kV_is_name dc_is_name pm_is_name an_is_name cd_is_name ct_is_name), sl_is_name⟩)
    (c_is_name : PySem.W.codeIn K cd_is_name "is_name" = true)
    (k_is_name : PySem.W.keepIn K (.ref f_is_name) = true)
    (a_is_event : PySem.W.nsIn K mainGlobals "is_event" = some (some (.ref f_is_event)))
    (l_is_event : K.lookup f_is_event = some ⟨oc_is_event, od_is_event, .func (PySem.W.fnOf "is_event" "is_event" (defArgs s_is_event) (defBody s_is_event) (defScope s_is_event) .none kV_is_event dc_is_event pm_is_event an_is_event cd_is_event ct_is_event), sl_is_event⟩)
    (c_is_event : PySem.W.codeIn K cd_is_event "is_event" = true)
    (k_is_event : PySem.W.keepIn K (.ref f_is_event) = true)
    (a_is_deed : PySem.W.nsIn K mainGlobals "is_deed" = some (some (.ref f_is_deed)))
    (l_is_deed : K.lookup f_is_deed = some ⟨oc_is_deed, od_is_deed, .func (PySem.W.fnOf "is_deed" "is_deed" (defArgs s_is_deed) (defBody s_is_deed) (defScope s_is_deed) .none kV_is_deed dc_is_deed pm_is_deed an_is_deed cd_is_deed ct_is_deed), sl_is_deed⟩)
    (c_is_deed : PySem.W.codeIn K cd_is_deed "is_deed" = true)
    (k_is_deed : PySem.W.keepIn K (.ref f_is_deed) = true)
    (a_is_phrase : PySem.W.nsIn K mainGlobals "_is_phrase" = some (some (.ref f_is_phrase)))
    (l_is_phrase : K.lookup f_is_phrase = some ⟨oc_is_phrase, od_is_phrase, .func (PySem.W.fnOf "_is_phrase" "_is_phrase" (defArgs s_is_phrase) (defBody s_is_phrase) (defScope s_is_phrase) .none kV_is_phrase dc_is_phrase pm_is_phrase an_is_phrase cd_is_phrase ct_is_phrase), sl_is_phrase⟩)
    (c_is_phrase : PySem.W.codeIn K cd_is_phrase "_is_phrase" = true)
    (k_is_phrase : PySem.W.keepIn K (.ref f_is_phrase) = true)
    (a_may_do : PySem.W.nsIn K mainGlobals "_may_do" = some (some (.ref f_may_do)))
    (l_may_do : K.lookup f_may_do = some ⟨oc_may_do, od_may_do, .func (PySem.W.fnOf "_may_do" "_may_do" (defArgs s_may_do) (defBody s_may_do) (defScope s_may_do) .none kV_may_do dc_may_do pm_may_do an_may_do cd_may_do ct_may_do), sl_may_do⟩)
    (c_may_do : PySem.W.codeIn K cd_may_do "_may_do" = true)
    (k_may_do : PySem.W.keepIn K (.ref f_may_do) = true)
    (b_isinstance : PySem.W.nsIn K mainGlobals "isinstance" = some none)
    (b_str : PySem.W.nsIn K mainGlobals "str" = some none)
    (b_list : PySem.W.nsIn K mainGlobals "list" = some none)
    (b_tuple : PySem.W.nsIn K mainGlobals "tuple" = some none)
    (b_len : PySem.W.nsIn K mainGlobals "len" = some none)
    (b_all : PySem.W.nsIn K mainGlobals "all" = some none)
    (n_InvalidMachine : PySem.W.nsIn K mainGlobals "InvalidMachine" = some (some (.ref C_InvalidMachine)))
    (x_InvalidMachine : K.lookup C_InvalidMachine = some (excClassObj nm_InvalidMachine q_InvalidMachine C_InvalidMachine N_InvalidMachine bs_InvalidMachine [.ref B0_InvalidMachine, .type "ValueError", .type "Exception", .type "BaseException", .type "object"] true sn_InvalidMachine sub_InvalidMachine ab_InvalidMachine col_InvalidMachine dd_InvalidMachine m0_InvalidMachine m1_InvalidMachine m2_InvalidMachine m3_InvalidMachine m5_InvalidMachine "ValueError.__new__"))
    (sa_InvalidMachine : PySem.W.findIn K (.ref C_InvalidMachine) "__setattr__" = some (some (.builtin "object.__setattr__")))
    (ga_InvalidMachine : PySem.W.findIn K (.ref C_InvalidMachine) "__getattribute__" = some (some (.builtin "BaseException.__getattribute__")))
    (gg_InvalidMachine : PySem.W.findIn K (.ref C_InvalidMachine) "__getattr__" = some none)
    (nb_InvalidMachine : PySem.W.findIn K (.ref C_InvalidMachine) "word" = some none)
    (a1_InvalidMachine : PySem.W.findIn K (.ref C_InvalidMachine) "__init__" = some (some (.ref f_InvalidMachine)))
    (t1_InvalidMachine : PySem.W.typeIn K (.ref f_InvalidMachine) = some (.type "function"))
    (l1_InvalidMachine : K.lookup f_InvalidMachine = some ⟨oc_InvalidMachine, od_InvalidMachine, .func (PySem.W.fnOf "__init__" "InvalidMachine.__init__" (PySem.LowX_InvalidMachine.iA ⟨9, 17, 9, 21⟩ ⟨9, 23, 9, 27⟩) (PySem.LowX_InvalidMachine.iB ⟨10, 8, 10, 12⟩ ⟨10, 8, 10, 17⟩ ⟨10, 20, 10, 24⟩ ⟨10, 8, 10, 24⟩) PySem.LowX_InvalidMachine.iS .none .none dc_InvalidMachine pm_InvalidMachine an_InvalidMachine cd_InvalidMachine ct_InvalidMachine), sl_InvalidMachine⟩)
    (c1_InvalidMachine : PySem.W.codeIn K cd_InvalidMachine "InvalidMachine.__init__" = true)
    (kC_InvalidMachine : PySem.W.keepIn K (.ref C_InvalidMachine) = true)
    (eC_InvalidMachine : PySem.W.subIn K (.ref C_InvalidMachine) (.type "BaseException") = some true)
    (tC_InvalidMachine : PySem.W.typeIn K (.ref C_InvalidMachine) = some (.type "type"))
    (hC_InvalidMachine : PySem.W.hasDictIn K C_InvalidMachine = true)
    (iC_InvalidMachine : PySem.W.isClsIn K C_InvalidMachine = true)
    (sC_InvalidMachine : PySem.W.subIn K (.ref C_InvalidMachine) (.ref C_InvalidMachine) = some true)
    (n_GUARDS : PySem.W.nsIn K mainGlobals "GUARDS" = some (some (.ref r_GUARDS)))
    (l_GUARDS : K.lookup r_GUARDS = some ⟨.type "tuple", rd_GUARDS, .seq ri_GUARDS rn_GUARDS, rs_GUARDS⟩)
    (v_GUARDS : Vals ((guardsV).map V.str) ri_GUARDS.toList)
    (z_GUARDS : ri_GUARDS.size ≤ sizeLine)
    (n_Rule : PySem.W.nsIn K mainGlobals "Rule" = some (some (.ref C_Rule)))
    (pg_Rule : PySem.W.plainGet K C_Rule Str.empty = true)
    (hd_Rule : PySem.W.hasDictIn K C_Rule = true)
    (po_Rule : PySem.W.plainOver K C_Rule = true)
    (sa_Rule : PySem.W.findIn K (.ref C_Rule) "__setattr__" = some (some (.builtin "object.__setattr__")))
    (mk_Rule : PySem.W.makesIn K C_Rule = true)
    (kc_Rule : PySem.W.keepIn K (.ref C_Rule) = true)
    (no_Rule_state : PySem.W.findIn K (.ref C_Rule) "state" = some none)
    (no_Rule_event : PySem.W.findIn K (.ref C_Rule) "event" = some none)
    (no_Rule_guard : PySem.W.findIn K (.ref C_Rule) "guard" = some none)
    (no_Rule_then : PySem.W.findIn K (.ref C_Rule) "then" = some none)
    (no_Rule_deeds : PySem.W.findIn K (.ref C_Rule) "deeds" = some none)
    (a_init : PySem.W.findIn K (.ref C_Rule) "__init__" = some (some (.ref f_init)))
    (i_init : PySem.W.isFn K (.ref f_init) = true)
    (l_init : K.lookup f_init = some ⟨oc_init, od_init, .func (PySem.W.fnOf "__init__" "Rule.__init__" (defArgs s_Rule_init) (defBody s_Rule_init) (defScope s_Rule_init) (.ref dT_init) kV_init dc_init pm_init an_init cd_init ct_init), sl_init⟩)
    (c_init : PySem.W.codeIn K cd_init "Rule.__init__" = true)
    (k_init : PySem.W.keepIn K (.ref f_init) = true)
    (t_init : K.lookup dT_init = some ⟨dc2_init, dd_init, .seq #[.ref dv_init_0] dn_init, ds_init⟩)
    (a_deeds_text : PySem.W.nsIn K mainGlobals "_deeds_text" = some (some (.ref f_deeds_text)))
    (l_deeds_text : K.lookup f_deeds_text = some ⟨oc_deeds_text, od_deeds_text, .func (PySem.W.fnOf "_deeds_text" "_deeds_text" (defArgs s_deeds_text) (defBody s_deeds_text) (defScope s_deeds_text) .none kV_deeds_text dc_deeds_text pm_deeds_text an_deeds_text cd_deeds_text ct_deeds_text), sl_deeds_text⟩)
    (c_deeds_text : PySem.W.codeIn K cd_deeds_text "_deeds_text" = true)
    (k_deeds_text : PySem.W.keepIn K (.ref f_deeds_text) = true)
    (a_Rule_str : PySem.W.findIn K (.ref C_Rule) "__str__" = some (some (.ref f_Rule_str)))
    (i_Rule_str : PySem.W.isFn K (.ref f_Rule_str) = true)
    (l_Rule_str : K.lookup f_Rule_str = some ⟨oc_Rule_str, od_Rule_str, .func (PySem.W.fnOf "__str__" "Rule.__str__" (defArgs s_Rule_str) (defBody s_Rule_str) (defScope s_Rule_str) .none kV_Rule_str dc_Rule_str pm_Rule_str an_Rule_str cd_Rule_str ct_Rule_str), sl_Rule_str⟩)
    (c_Rule_str : PySem.W.codeIn K cd_Rule_str "Rule.__str__" = true)
    (k_Rule_str : PySem.W.keepIn K (.ref f_Rule_str) = true)
    (a_Rule_eq : PySem.W.findIn K (.ref C_Rule) "__eq__" = some (some (.ref f_Rule_eq)))
    (i_Rule_eq : PySem.W.isFn K (.ref f_Rule_eq) = true)
    (l_Rule_eq : K.lookup f_Rule_eq = some ⟨oc_Rule_eq, od_Rule_eq, .func (PySem.W.fnOf "__eq__" "Rule.__eq__" (defArgs s_Rule_eq) (defBody s_Rule_eq) (defScope s_Rule_eq) .none kV_Rule_eq dc_Rule_eq pm_Rule_eq an_Rule_eq cd_Rule_eq ct_Rule_eq), sl_Rule_eq⟩)
    (c_Rule_eq : PySem.W.codeIn K cd_Rule_eq "Rule.__eq__" = true)
    (k_Rule_eq : PySem.W.keepIn K (.ref f_Rule_eq) = true)
    (kit_Rule : PySem.W.kitOne K (.ref C_Rule) (.ref C_Rule) = some true)
    (ca_Rule : PySem.W.findIn K (.ref C_Rule) "__class__" = some (some (.builtin "object.__class__")))
    (cn_Rule : PySem.W.specialIn K (.builtin "object.__class__") "__get__" = some (some (.builtin "getset_descriptor.__get__")))
    (ct_Rule : PySem.W.takesIn K (.builtin "object.__class__") = some true)
    (cm_Rule : PySem.W.mroIn K C_Rule (.type "object") = some true)
    (a_law_deal : PySem.W.nsIn K mainGlobals "_law_deal" = some (some (.ref f_law_deal)))
    (l_law_deal : K.lookup f_law_deal = some ⟨oc_law_deal, od_law_deal, .func (PySem.W.fnOf "_law_deal" "_law_deal" (defArgs s_law_deal) (defBody s_law_deal) (defScope s_law_deal) .none kV_law_deal dc_law_deal pm_law_deal an_law_deal cd_law_deal ct_law_deal), sl_law_deal⟩)
    (c_law_deal : PySem.W.codeIn K cd_law_deal "_law_deal" = true)
    (k_law_deal : PySem.W.keepIn K (.ref f_law_deal) = true)
    (a_law_draw : PySem.W.nsIn K mainGlobals "_law_draw" = some (some (.ref f_law_draw)))
    (l_law_draw : K.lookup f_law_draw = some ⟨oc_law_draw, od_law_draw, .func (PySem.W.fnOf "_law_draw" "_law_draw" (defArgs s_law_draw) (defBody s_law_draw) (defScope s_law_draw) .none kV_law_draw dc_law_draw pm_law_draw an_law_draw cd_law_draw ct_law_draw), sl_law_draw⟩)
    (c_law_draw : PySem.W.codeIn K cd_law_draw "_law_draw" = true)
    (k_law_draw : PySem.W.keepIn K (.ref f_law_draw) = true)
    (a_law_pick : PySem.W.nsIn K mainGlobals "_law_pick" = some (some (.ref f_law_pick)))
    (l_law_pick : K.lookup f_law_pick = some ⟨oc_law_pick, od_law_pick, .func (PySem.W.fnOf "_law_pick" "_law_pick" (defArgs s_law_pick) (defBody s_law_pick) (defScope s_law_pick) .none kV_law_pick dc_law_pick pm_law_pick an_law_pick cd_law_pick ct_law_pick), sl_law_pick⟩)
    (c_law_pick : PySem.W.codeIn K cd_law_pick "_law_pick" = true)
    (k_law_pick : PySem.W.keepIn K (.ref f_law_pick) = true)
    (a_law_names : PySem.W.nsIn K mainGlobals "_law_names" = some (some (.ref f_law_names)))
    (l_law_names : K.lookup f_law_names = some ⟨oc_law_names, od_law_names, .func (PySem.W.fnOf "_law_names" "_law_names" (defArgs s_law_names) (defBody s_law_names) (defScope s_law_names) .none kV_law_names dc_law_names pm_law_names an_law_names cd_law_names ct_law_names), sl_law_names⟩)
    (c_law_names : PySem.W.codeIn K cd_law_names "_law_names" = true)
    (k_law_names : PySem.W.keepIn K (.ref f_law_names) = true)
    (b_abs : PySem.W.nsIn K mainGlobals "abs" = some none)
    (b_int : PySem.W.nsIn K mainGlobals "int" = some none)
    (b_range : PySem.W.nsIn K mainGlobals "range" = some none)
    (a_law_formula : PySem.W.nsIn K mainGlobals "_law_formula" = some (some (.ref f_law_formula)))
    (l_law_formula : K.lookup f_law_formula = some ⟨oc_law_formula, od_law_formula, .func (PySem.W.fnOf "_law_formula" "_law_formula" (defArgs s_law_formula) (defBody s_law_formula) (defScope s_law_formula) .none kV_law_formula dc_law_formula pm_law_formula an_law_formula cd_law_formula ct_law_formula), sl_law_formula⟩)
    (c_law_formula : PySem.W.codeIn K cd_law_formula "_law_formula" = true)
    (k_law_formula : PySem.W.keepIn K (.ref f_law_formula) = true)
    (a_law_worth : PySem.W.nsIn K mainGlobals "_law_worth" = some (some (.ref f_law_worth)))
    (l_law_worth : K.lookup f_law_worth = some ⟨oc_law_worth, od_law_worth, .func (PySem.W.fnOf "_law_worth" "_law_worth" (defArgs s_law_worth) (defBody s_law_worth) (defScope s_law_worth) .none kV_law_worth dc_law_worth pm_law_worth an_law_worth cd_law_worth ct_law_worth), sl_law_worth⟩)
    (c_law_worth : PySem.W.codeIn K cd_law_worth "_law_worth" = true)
    (k_law_worth : PySem.W.keepIn K (.ref f_law_worth) = true)
    (a_law_sets : PySem.W.nsIn K mainGlobals "_law_sets" = some (some (.ref f_law_sets)))
    (l_law_sets : K.lookup f_law_sets = some ⟨oc_law_sets, od_law_sets, .func (PySem.W.fnOf "_law_sets" "_law_sets" (defArgs s_law_sets) (defBody s_law_sets) (defScope s_law_sets) .none kV_law_sets dc_law_sets pm_law_sets an_law_sets cd_law_sets ct_law_sets), sl_law_sets⟩)
    (c_law_sets : PySem.W.codeIn K cd_law_sets "_law_sets" = true)
    (k_law_sets : PySem.W.keepIn K (.ref f_law_sets) = true)
    (a_law_told_names : PySem.W.nsIn K mainGlobals "_law_told_names" = some (some (.ref f_law_told_names)))
    (l_law_told_names : K.lookup f_law_told_names = some ⟨oc_law_told_names, od_law_told_names, .func (PySem.W.fnOf "_law_told_names" "_law_told_names" (defArgs s_law_told_names) (defBody s_law_told_names) (defScope s_law_told_names) .none kV_law_told_names dc_law_told_names pm_law_told_names an_law_told_names cd_law_told_names ct_law_told_names), sl_law_told_names⟩)
    (c_law_told_names : PySem.W.codeIn K cd_law_told_names "_law_told_names" = true)
    (k_law_told_names : PySem.W.keepIn K (.ref f_law_told_names) = true)
    (a_law_needs : PySem.W.nsIn K mainGlobals "_law_needs" = some (some (.ref f_law_needs)))
    (l_law_needs : K.lookup f_law_needs = some ⟨oc_law_needs, od_law_needs, .func (PySem.W.fnOf "_law_needs" "_law_needs" (defArgs s_law_needs) (defBody s_law_needs) (defScope s_law_needs) .none kV_law_needs dc_law_needs pm_law_needs an_law_needs cd_law_needs ct_law_needs), sl_law_needs⟩)
    (c_law_needs : PySem.W.codeIn K cd_law_needs "_law_needs" = true)
    (k_law_needs : PySem.W.keepIn K (.ref f_law_needs) = true)
    (a_law_block : PySem.W.nsIn K mainGlobals "_law_block" = some (some (.ref f_law_block)))
    (l_law_block : K.lookup f_law_block = some ⟨oc_law_block, od_law_block, .func (PySem.W.fnOf "_law_block" "_law_block" (defArgs s_law_block) (defBody s_law_block) (defScope s_law_block) .none kV_law_block dc_law_block pm_law_block an_law_block cd_law_block ct_law_block), sl_law_block⟩)
    (c_law_block : PySem.W.codeIn K cd_law_block "_law_block" = true)
    (k_law_block : PySem.W.keepIn K (.ref f_law_block) = true)
    (a_law_places : PySem.W.nsIn K mainGlobals "_law_places" = some (some (.ref f_law_places)))
    (l_law_places : K.lookup f_law_places = some ⟨oc_law_places, od_law_places, .func (PySem.W.fnOf "_law_places" "_law_places" (defArgs s_law_places) (defBody s_law_places) (defScope s_law_places) .none kV_law_places dc_law_places pm_law_places an_law_places cd_law_places ct_law_places), sl_law_places⟩)
    (c_law_places : PySem.W.codeIn K cd_law_places "_law_places" = true)
    (k_law_places : PySem.W.keepIn K (.ref f_law_places) = true)
    (a_law_fences : PySem.W.nsIn K mainGlobals "_law_fences" = some (some (.ref f_law_fences)))
    (l_law_fences : K.lookup f_law_fences = some ⟨oc_law_fences, od_law_fences, .func (PySem.W.fnOf "_law_fences" "_law_fences" (defArgs s_law_fences) (defBody s_law_fences) (defScope s_law_fences) .none kV_law_fences dc_law_fences pm_law_fences an_law_fences cd_law_fences ct_law_fences), sl_law_fences⟩)
    (c_law_fences : PySem.W.codeIn K cd_law_fences "_law_fences" = true)
    (k_law_fences : PySem.W.keepIn K (.ref f_law_fences) = true)
    (b_set : PySem.W.nsIn K mainGlobals "set" = some none)
    (b_sorted : PySem.W.nsIn K mainGlobals "sorted" = some none)
    (a_law_all_events : PySem.W.nsIn K mainGlobals "_law_all_events" = some (some (.ref f_law_all_events)))
    (l_law_all_events : K.lookup f_law_all_events = some ⟨oc_law_all_events, od_law_all_events, .func (PySem.W.fnOf "_law_all_events" "_law_all_events" (defArgs s_law_all_events) (defBody s_law_all_events) (defScope s_law_all_events) .none kV_law_all_events dc_law_all_events pm_law_all_events an_law_all_events cd_law_all_events ct_law_all_events), sl_law_all_events⟩)
    (c_law_all_events : PySem.W.codeIn K cd_law_all_events "_law_all_events" = true)
    (k_law_all_events : PySem.W.keepIn K (.ref f_law_all_events) = true)
    (a_law_deed : PySem.W.nsIn K mainGlobals "_law_deed" = some (some (.ref f_law_deed)))
    (l_law_deed : K.lookup f_law_deed = some ⟨oc_law_deed, od_law_deed, .func (PySem.W.fnOf "_law_deed" "_law_deed" (defArgs s_law_deed) (defBody s_law_deed) (defScope s_law_deed) .none kV_law_deed dc_law_deed pm_law_deed an_law_deed cd_law_deed ct_law_deed), sl_law_deed⟩)
    (c_law_deed : PySem.W.codeIn K cd_law_deed "_law_deed" = true)
    (k_law_deed : PySem.W.keepIn K (.ref f_law_deed) = true)
    (a_law_any_rule : PySem.W.nsIn K mainGlobals "_law_any_rule" = some (some (.ref f_law_any_rule)))
    (l_law_any_rule : K.lookup f_law_any_rule = some ⟨oc_law_any_rule, od_law_any_rule, .func (PySem.W.fnOf "_law_any_rule" "_law_any_rule" (defArgs s_law_any_rule) (defBody s_law_any_rule) (defScope s_law_any_rule) .none kV_law_any_rule dc_law_any_rule pm_law_any_rule an_law_any_rule cd_law_any_rule ct_law_any_rule), sl_law_any_rule⟩)
    (c_law_any_rule : PySem.W.codeIn K cd_law_any_rule "_law_any_rule" = true)
    (k_law_any_rule : PySem.W.keepIn K (.ref f_law_any_rule) = true)
    (a_kind_of : PySem.W.nsIn K mainGlobals "kind_of" = some (some (.ref f_kind_of)))
    (l_kind_of : K.lookup f_kind_of = some ⟨oc_kind_of, od_kind_of, .func (PySem.W.fnOf "kind_of" "kind_of" (defArgs s_kind_of) (defBody s_kind_of) (defScope s_kind_of) .none kV_kind_of dc_kind_of pm_kind_of an_kind_of cd_kind_of ct_kind_of), sl_kind_of⟩)
    (c_kind_of : PySem.W.codeIn K cd_kind_of "kind_of" = true)
    (k_kind_of : PySem.W.keepIn K (.ref f_kind_of) = true)
    (a_name_of : PySem.W.nsIn K mainGlobals "name_of" = some (some (.ref f_name_of)))
    (l_name_of : K.lookup f_name_of = some ⟨oc_name_of, od_name_of, .func (PySem.W.fnOf "name_of" "name_of" (defArgs s_name_of) (defBody s_name_of) (defScope s_name_of) .none kV_name_of dc_name_of pm_name_of an_name_of cd_name_of ct_name_of), sl_name_of⟩)
    (c_name_of : PySem.W.codeIn K cd_name_of "name_of" = true)
    (k_name_of : PySem.W.keepIn K (.ref f_name_of) = true)
    (a_ascending : PySem.W.nsIn K mainGlobals "ascending" = some (some (.ref f_ascending)))
    (l_ascending : K.lookup f_ascending = some ⟨oc_ascending, od_ascending, .func (PySem.W.fnOf "ascending" "ascending" (defArgs s_ascending) (defBody s_ascending) (defScope s_ascending) .none kV_ascending dc_ascending pm_ascending an_ascending cd_ascending ct_ascending), sl_ascending⟩)
    (c_ascending : PySem.W.codeIn K cd_ascending "ascending" = true)
    (k_ascending : PySem.W.keepIn K (.ref f_ascending) = true)
    (a_names_behind : PySem.W.nsIn K mainGlobals "_names_behind" = some (some (.ref f_names_behind)))
    (l_names_behind : K.lookup f_names_behind = some ⟨oc_names_behind, od_names_behind, .func (PySem.W.fnOf "_names_behind" "_names_behind" (defArgs s_names_behind) (defBody s_names_behind) (defScope s_names_behind) .none kV_names_behind dc_names_behind pm_names_behind an_names_behind cd_names_behind ct_names_behind), sl_names_behind⟩)
    (c_names_behind : PySem.W.codeIn K cd_names_behind "_names_behind" = true)
    (k_names_behind : PySem.W.keepIn K (.ref f_names_behind) = true)
    (n_Machine : PySem.W.nsIn K mainGlobals "Machine" = some (some (.ref C_Machine)))
    (pg_Machine : PySem.W.plainGet K C_Machine Str.empty = true)
    (hd_Machine : PySem.W.hasDictIn K C_Machine = true)
    (po_Machine : PySem.W.plainOver K C_Machine = true)
    (sa_Machine : PySem.W.findIn K (.ref C_Machine) "__setattr__" = some (some (.builtin "object.__setattr__")))
    (mk_Machine : PySem.W.makesIn K C_Machine = true)
    (kc_Machine : PySem.W.keepIn K (.ref C_Machine) = true)
    (no_Machine_first : PySem.W.findIn K (.ref C_Machine) "first" = some none)
    (no_Machine_rules : PySem.W.findIn K (.ref C_Machine) "rules" = some none)
    (no_Machine_states : PySem.W.findIn K (.ref C_Machine) "states" = some none)
    (no_Machine_areas : PySem.W.findIn K (.ref C_Machine) "areas" = some none)
    (no_Machine_fences : PySem.W.findIn K (.ref C_Machine) "fences" = some none)
    (a_minit : PySem.W.findIn K (.ref C_Machine) "__init__" = some (some (.ref f_minit)))
    (i_minit : PySem.W.isFn K (.ref f_minit) = true)
    (l_minit : K.lookup f_minit = some ⟨oc_minit, od_minit, .func (PySem.W.fnOf "__init__" "Machine.__init__" (defArgs s_Machine_init) (defBody s_Machine_init) (defScope s_Machine_init) (.ref dT_minit) kV_minit dc_minit pm_minit an_minit cd_minit ct_minit), sl_minit⟩)
    (c_minit : PySem.W.codeIn K cd_minit "Machine.__init__" = true)
    (k_minit : PySem.W.keepIn K (.ref f_minit) = true)
    (t_minit : K.lookup dT_minit = some ⟨dc2_minit, dd_minit, .seq #[.ref dv_minit_0] dn_minit, ds_minit⟩)
    (ca_Machine : PySem.W.findIn K (.ref C_Machine) "__class__" = some (some (.builtin "object.__class__")))
    (cm_Machine : PySem.W.mroIn K C_Machine (.type "object") = some true)
    (b_enumerate : PySem.W.nsIn K mainGlobals "enumerate" = some none)
    (a_Machine_str : PySem.W.findIn K (.ref C_Machine) "__str__" = some (some (.ref f_Machine_str)))
    (i_Machine_str : PySem.W.isFn K (.ref f_Machine_str) = true)
    (l_Machine_str : K.lookup f_Machine_str = some ⟨oc_Machine_str, od_Machine_str, .func (PySem.W.fnOf "__str__" "Machine.__str__" (defArgs s_Machine_str) (defBody s_Machine_str) (defScope s_Machine_str) .none kV_Machine_str dc_Machine_str pm_Machine_str an_Machine_str cd_Machine_str ct_Machine_str), sl_Machine_str⟩)
    (c_Machine_str : PySem.W.codeIn K cd_Machine_str "Machine.__str__" = true)
    (k_Machine_str : PySem.W.keepIn K (.ref f_Machine_str) = true)
    (a_Machine_eq : PySem.W.findIn K (.ref C_Machine) "__eq__" = some (some (.ref f_Machine_eq)))
    (i_Machine_eq : PySem.W.isFn K (.ref f_Machine_eq) = true)
    (l_Machine_eq : K.lookup f_Machine_eq = some ⟨oc_Machine_eq, od_Machine_eq, .func (PySem.W.fnOf "__eq__" "Machine.__eq__" (defArgs s_Machine_eq) (defBody s_Machine_eq) (defScope s_Machine_eq) .none kV_Machine_eq dc_Machine_eq pm_Machine_eq an_Machine_eq cd_Machine_eq ct_Machine_eq), sl_Machine_eq⟩)
    (c_Machine_eq : PySem.W.codeIn K cd_Machine_eq "Machine.__eq__" = true)
    (k_Machine_eq : PySem.W.keepIn K (.ref f_Machine_eq) = true)
    (a_Machine_len : PySem.W.findIn K (.ref C_Machine) "__len__" = some (some (.ref f_Machine_len)))
    (i_Machine_len : PySem.W.isFn K (.ref f_Machine_len) = true)
    (l_Machine_len : K.lookup f_Machine_len = some ⟨oc_Machine_len, od_Machine_len, .func (PySem.W.fnOf "__len__" "Machine.__len__" (defArgs s_Machine_len) (defBody s_Machine_len) (defScope s_Machine_len) .none kV_Machine_len dc_Machine_len pm_Machine_len an_Machine_len cd_Machine_len ct_Machine_len), sl_Machine_len⟩)
    (c_Machine_len : PySem.W.codeIn K cd_Machine_len "Machine.__len__" = true)
    (k_Machine_len : PySem.W.keepIn K (.ref f_Machine_len) = true)
    (a_Machine_item : PySem.W.findIn K (.ref C_Machine) "__getitem__" = some (some (.ref f_Machine_item)))
    (i_Machine_item : PySem.W.isFn K (.ref f_Machine_item) = true)
    (l_Machine_item : K.lookup f_Machine_item = some ⟨oc_Machine_item, od_Machine_item, .func (PySem.W.fnOf "__getitem__" "Machine.__getitem__" (defArgs s_Machine_getitem) (defBody s_Machine_getitem) (defScope s_Machine_getitem) .none kV_Machine_item dc_Machine_item pm_Machine_item an_Machine_item cd_Machine_item ct_Machine_item), sl_Machine_item⟩)
    (c_Machine_item : PySem.W.codeIn K cd_Machine_item "Machine.__getitem__" = true)
    (k_Machine_item : PySem.W.keepIn K (.ref f_Machine_item) = true)
    (f_it : PySem.W.fnIn K f_Machine_item = true)
    (kit_Machine : PySem.W.kitOne K (.ref C_Machine) (.ref C_Machine) = some true)
    (ne_Machine : PySem.W.findIn K (.ref C_Machine) "__ne__" = some (some (.builtin "object.__ne__")))
    (at_read : PySem.W.findCls K (.ref C_Machine) (.type "type") "read" = some (.get (.builtin "classmethod.__get__") (.ref p_read) .none (.ref C_Machine)))
    (rc_read : PySem.W.recIn K p_read "classmethod" = some (.ref f_read :: rest_read))
    (l_read : K.lookup f_read = some ⟨oc_read, od_read, .func (PySem.W.fnOf "read" "Machine.read" (defArgs s_Machine_read) (defBody s_Machine_read) (defScope s_Machine_read) .none kV_read dc_read pm_read an_read cd_read ct_read), sl_read⟩)
    (c_read : PySem.W.codeIn K cd_read "Machine.read" = true)
    (k_read : PySem.W.keepIn K (.ref f_read) = true)
    (rd_Machine : PySem.W.readsIn K C_Machine (.type "type") = true)
    (rg_Machine : PySem.W.specialIn K (.ref C_Machine) "__getattribute__" = some (some (.builtin "type.__getattribute__")))
    (fi_read : PySem.W.fnIn K f_read = true)
    (a_law_mixed : PySem.W.nsIn K mainGlobals "_law_mixed" = some (some (.ref f_law_mixed)))
    (l_law_mixed : K.lookup f_law_mixed = some ⟨oc_law_mixed, od_law_mixed, .func (PySem.W.fnOf "_law_mixed" "_law_mixed" (defArgs s_law_mixed) (defBody s_law_mixed) (defScope s_law_mixed) .none kV_law_mixed dc_law_mixed pm_law_mixed an_law_mixed cd_law_mixed ct_law_mixed), sl_law_mixed⟩)
    (c_law_mixed : PySem.W.codeIn K cd_law_mixed "_law_mixed" = true)
    (k_law_mixed : PySem.W.keepIn K (.ref f_law_mixed) = true)
    (a_law_sleep_row : PySem.W.nsIn K mainGlobals "_law_sleep_row" = some (some (.ref f_law_sleep_row)))
    (l_law_sleep_row : K.lookup f_law_sleep_row = some ⟨oc_law_sleep_row, od_law_sleep_row, .func (PySem.W.fnOf "_law_sleep_row" "_law_sleep_row" (defArgs s_law_sleep_row) (defBody s_law_sleep_row) (defScope s_law_sleep_row) .none kV_law_sleep_row dc_law_sleep_row pm_law_sleep_row an_law_sleep_row cd_law_sleep_row ct_law_sleep_row), sl_law_sleep_row⟩)
    (c_law_sleep_row : PySem.W.codeIn K cd_law_sleep_row "_law_sleep_row" = true)
    (k_law_sleep_row : PySem.W.keepIn K (.ref f_law_sleep_row) = true)
    (a_law_wake_row : PySem.W.nsIn K mainGlobals "_law_wake_row" = some (some (.ref f_law_wake_row)))
    (l_law_wake_row : K.lookup f_law_wake_row = some ⟨oc_law_wake_row, od_law_wake_row, .func (PySem.W.fnOf "_law_wake_row" "_law_wake_row" (defArgs s_law_wake_row) (defBody s_law_wake_row) (defScope s_law_wake_row) .none kV_law_wake_row dc_law_wake_row pm_law_wake_row an_law_wake_row cd_law_wake_row ct_law_wake_row), sl_law_wake_row⟩)
    (c_law_wake_row : PySem.W.codeIn K cd_law_wake_row "_law_wake_row" = true)
    (k_law_wake_row : PySem.W.keepIn K (.ref f_law_wake_row) = true)
    (a_law_spoilt_row : PySem.W.nsIn K mainGlobals "_law_spoilt_row" = some (some (.ref f_law_spoilt_row)))
    (l_law_spoilt_row : K.lookup f_law_spoilt_row = some ⟨oc_law_spoilt_row, od_law_spoilt_row, .func (PySem.W.fnOf "_law_spoilt_row" "_law_spoilt_row" (defArgs s_law_spoilt_row) (defBody s_law_spoilt_row) (defScope s_law_spoilt_row) .none kV_law_spoilt_row dc_law_spoilt_row pm_law_spoilt_row an_law_spoilt_row cd_law_spoilt_row ct_law_spoilt_row), sl_law_spoilt_row⟩)
    (c_law_spoilt_row : PySem.W.codeIn K cd_law_spoilt_row "_law_spoilt_row" = true)
    (k_law_spoilt_row : PySem.W.keepIn K (.ref f_law_spoilt_row) = true)
    (a_law_sleeper : PySem.W.nsIn K mainGlobals "_law_sleeper" = some (some (.ref f_law_sleeper)))
    (l_law_sleeper : K.lookup f_law_sleeper = some ⟨oc_law_sleeper, od_law_sleeper, .func (PySem.W.fnOf "_law_sleeper" "_law_sleeper" (defArgs s_law_sleeper) (defBody s_law_sleeper) (defScope s_law_sleeper) .none kV_law_sleeper dc_law_sleeper pm_law_sleeper an_law_sleeper cd_law_sleeper ct_law_sleeper), sl_law_sleeper⟩)
    (c_law_sleeper : PySem.W.codeIn K cd_law_sleeper "_law_sleeper" = true)
    (k_law_sleeper : PySem.W.keepIn K (.ref f_law_sleeper) = true)
    (a_law_machine : PySem.W.nsIn K mainGlobals "_law_machine" = some (some (.ref f_law_machine)))
    (l_law_machine : K.lookup f_law_machine = some ⟨oc_law_machine, od_law_machine, .func (PySem.W.fnOf "_law_machine" "_law_machine" (defArgs s_law_machine) (defBody s_law_machine) (defScope s_law_machine) .none kV_law_machine dc_law_machine pm_law_machine an_law_machine cd_law_machine ct_law_machine), sl_law_machine⟩)
    (c_law_machine : PySem.W.codeIn K cd_law_machine "_law_machine" = true)
    (k_law_machine : PySem.W.keepIn K (.ref f_law_machine) = true)
    (a_law_rule_text : PySem.W.nsIn K mainGlobals "_law_rule_text" = some (some (.ref f_law_rule_text)))
    (l_law_rule_text : K.lookup f_law_rule_text = some ⟨oc_law_rule_text, od_law_rule_text, .func (PySem.W.fnOf "_law_rule_text" "_law_rule_text" (defArgs s_law_rule_text) (defBody s_law_rule_text) (defScope s_law_rule_text) .none kV_law_rule_text dc_law_rule_text pm_law_rule_text an_law_rule_text cd_law_rule_text ct_law_rule_text), sl_law_rule_text⟩)
    (c_law_rule_text : PySem.W.codeIn K cd_law_rule_text "_law_rule_text" = true)
    (k_law_rule_text : PySem.W.keepIn K (.ref f_law_rule_text) = true)
    (a_law_machine_text : PySem.W.nsIn K mainGlobals "_law_machine_text" = some (some (.ref f_law_machine_text)))
    (l_law_machine_text : K.lookup f_law_machine_text = some ⟨oc_law_machine_text, od_law_machine_text, .func (PySem.W.fnOf "_law_machine_text" "_law_machine_text" (defArgs s_law_machine_text) (defBody s_law_machine_text) (defScope s_law_machine_text) .none kV_law_machine_text dc_law_machine_text pm_law_machine_text an_law_machine_text cd_law_machine_text ct_law_machine_text), sl_law_machine_text⟩)
    (c_law_machine_text : PySem.W.codeIn K cd_law_machine_text "_law_machine_text" = true)
    (k_law_machine_text : PySem.W.keepIn K (.ref f_law_machine_text) = true)
    (a_read_rule : PySem.W.nsIn K mainGlobals "_read_rule" = some (some (.ref f_read_rule)))
    (l_read_rule : K.lookup f_read_rule = some ⟨oc_read_rule, od_read_rule, .func (PySem.W.fnOf "_read_rule" "_read_rule" (defArgs s_read_rule) (defBody s_read_rule) (defScope s_read_rule) .none kV_read_rule dc_read_rule pm_read_rule an_read_rule cd_read_rule ct_read_rule), sl_read_rule⟩)
    (c_read_rule : PySem.W.codeIn K cd_read_rule "_read_rule" = true)
    (k_read_rule : PySem.W.keepIn K (.ref f_read_rule) = true)
    (a_law_is_name : PySem.W.nsIn K mainGlobals "_law_is_name" = some (some (.ref f_law_is_name)))
    (l_law_is_name : K.lookup f_law_is_name = some ⟨oc_law_is_name, od_law_is_name, .func (PySem.W.fnOf "_law_is_name" "_law_is_name" (defArgs s_law_is_name) (defBody s_law_is_name) (defScope s_law_is_name) .none kV_law_is_name dc_law_is_name pm_law_is_name an_law_is_name cd_law_is_name ct_law_is_name), sl_law_is_name⟩)
    (c_law_is_name : PySem.W.codeIn K cd_law_is_name "_law_is_name" = true)
    (k_law_is_name : PySem.W.keepIn K (.ref f_law_is_name) = true)
    (a_law_is_told : PySem.W.nsIn K mainGlobals "_law_is_told" = some (some (.ref f_law_is_told)))
    (l_law_is_told : K.lookup f_law_is_told = some ⟨oc_law_is_told, od_law_is_told, .func (PySem.W.fnOf "_law_is_told" "_law_is_told" (defArgs s_law_is_told) (defBody s_law_is_told) (defScope s_law_is_told) .none kV_law_is_told dc_law_is_told pm_law_is_told an_law_is_told cd_law_is_told ct_law_is_told), sl_law_is_told⟩)
    (c_law_is_told : PySem.W.codeIn K cd_law_is_told "_law_is_told" = true)
    (k_law_is_told : PySem.W.keepIn K (.ref f_law_is_told) = true)
    (a_law_is_event : PySem.W.nsIn K mainGlobals "_law_is_event" = some (some (.ref f_law_is_event)))
    (l_law_is_event : K.lookup f_law_is_event = some ⟨oc_law_is_event, od_law_is_event, .func (PySem.W.fnOf "_law_is_event" "_law_is_event" (defArgs s_law_is_event) (defBody s_law_is_event) (defScope s_law_is_event) .none kV_law_is_event dc_law_is_event pm_law_is_event an_law_is_event cd_law_is_event ct_law_is_event), sl_law_is_event⟩)
    (c_law_is_event : PySem.W.codeIn K cd_law_is_event "_law_is_event" = true)
    (k_law_is_event : PySem.W.keepIn K (.ref f_law_is_event) = true)
    (a_law_is_deed : PySem.W.nsIn K mainGlobals "_law_is_deed" = some (some (.ref f_law_is_deed)))
    (l_law_is_deed : K.lookup f_law_is_deed = some ⟨oc_law_is_deed, od_law_is_deed, .func (PySem.W.fnOf "_law_is_deed" "_law_is_deed" (defArgs s_law_is_deed) (defBody s_law_is_deed) (defScope s_law_is_deed) .none kV_law_is_deed dc_law_is_deed pm_law_is_deed an_law_is_deed cd_law_is_deed ct_law_is_deed), sl_law_is_deed⟩)
    (c_law_is_deed : PySem.W.codeIn K cd_law_is_deed "_law_is_deed" = true)
    (k_law_is_deed : PySem.W.keepIn K (.ref f_law_is_deed) = true)
    (a_law_wrong : PySem.W.nsIn K mainGlobals "_law_wrong" = some (some (.ref f_law_wrong)))
    (l_law_wrong : K.lookup f_law_wrong = some ⟨oc_law_wrong, od_law_wrong, .func (PySem.W.fnOf "_law_wrong" "_law_wrong" (defArgs s_law_wrong) (defBody s_law_wrong) (defScope s_law_wrong) .none kV_law_wrong dc_law_wrong pm_law_wrong an_law_wrong cd_law_wrong ct_law_wrong), sl_law_wrong⟩)
    (c_law_wrong : PySem.W.codeIn K cd_law_wrong "_law_wrong" = true)
    (k_law_wrong : PySem.W.keepIn K (.ref f_law_wrong) = true)
    (a_law_rule_of : PySem.W.nsIn K mainGlobals "_law_rule_of" = some (some (.ref f_law_rule_of)))
    (l_law_rule_of : K.lookup f_law_rule_of = some ⟨oc_law_rule_of, od_law_rule_of, .func (PySem.W.fnOf "_law_rule_of" "_law_rule_of" (defArgs s_law_rule_of) (defBody s_law_rule_of) (defScope s_law_rule_of) .none kV_law_rule_of dc_law_rule_of pm_law_rule_of an_law_rule_of cd_law_rule_of ct_law_rule_of), sl_law_rule_of⟩)
    (c_law_rule_of : PySem.W.codeIn K cd_law_rule_of "_law_rule_of" = true)
    (k_law_rule_of : PySem.W.keepIn K (.ref f_law_rule_of) = true)
    (a_law_wrong_line : PySem.W.nsIn K mainGlobals "_law_wrong_line" = some (some (.ref f_law_wrong_line)))
    (l_law_wrong_line : K.lookup f_law_wrong_line = some ⟨oc_law_wrong_line, od_law_wrong_line, .func (PySem.W.fnOf "_law_wrong_line" "_law_wrong_line" (defArgs s_law_wrong_line) (defBody s_law_wrong_line) (defScope s_law_wrong_line) .none kV_law_wrong_line dc_law_wrong_line pm_law_wrong_line an_law_wrong_line cd_law_wrong_line ct_law_wrong_line), sl_law_wrong_line⟩)
    (c_law_wrong_line : PySem.W.codeIn K cd_law_wrong_line "_law_wrong_line" = true)
    (k_law_wrong_line : PySem.W.keepIn K (.ref f_law_wrong_line) = true)
    (a_law_told : PySem.W.nsIn K mainGlobals "_law_told" = some (some (.ref f_law_told)))
    (l_law_told : K.lookup f_law_told = some ⟨oc_law_told, od_law_told, .func (PySem.W.fnOf "_law_told" "_law_told" (defArgs s_law_told) (defBody s_law_told) (defScope s_law_told) .none kV_law_told dc_law_told pm_law_told an_law_told cd_law_told ct_law_told), sl_law_told⟩)
    (c_law_told : PySem.W.codeIn K cd_law_told "_law_told" = true)
    (k_law_told : PySem.W.keepIn K (.ref f_law_told) = true)
    (a_law_bent : PySem.W.nsIn K mainGlobals "_law_bent" = some (some (.ref f_law_bent)))
    (l_law_bent : K.lookup f_law_bent = some ⟨oc_law_bent, od_law_bent, .func (PySem.W.fnOf "_law_bent" "_law_bent" (defArgs s_law_bent) (defBody s_law_bent) (defScope s_law_bent) .none kV_law_bent dc_law_bent pm_law_bent an_law_bent cd_law_bent ct_law_bent), sl_law_bent⟩)
    (c_law_bent : PySem.W.codeIn K cd_law_bent "_law_bent" = true)
    (k_law_bent : PySem.W.keepIn K (.ref f_law_bent) = true)
    (a_law : PySem.W.nsIn K mainGlobals "law" = some (some (.ref f_law)))
    (l_law : K.lookup f_law = some ⟨oc_law, od_law, .func (PySem.W.fnOf "law" "law" (defArgs s_law) (defBody s_law) (defScope s_law) .none kV_law dc_law pm_law an_law cd_law ct_law), sl_law⟩)
    (c_law : PySem.W.codeIn K cd_law "law" = true)
    (k_law : PySem.W.keepIn K (.ref f_law) = true)
    (n_InvalidText : PySem.W.nsIn K mainGlobals "InvalidText" = some (some (.ref C_InvalidText)))
    (x_InvalidText : K.lookup C_InvalidText = some (excClassObj nm_InvalidText q_InvalidText C_InvalidText N_InvalidText bs_InvalidText [.ref B0_InvalidText, .type "ValueError", .type "Exception", .type "BaseException", .type "object"] true sn_InvalidText sub_InvalidText ab_InvalidText col_InvalidText dd_InvalidText m0_InvalidText m1_InvalidText m2_InvalidText m3_InvalidText m5_InvalidText "ValueError.__new__"))
    (sa_InvalidText : PySem.W.findIn K (.ref C_InvalidText) "__setattr__" = some (some (.builtin "object.__setattr__")))
    (ga_InvalidText : PySem.W.findIn K (.ref C_InvalidText) "__getattribute__" = some (some (.builtin "BaseException.__getattribute__")))
    (gg_InvalidText : PySem.W.findIn K (.ref C_InvalidText) "__getattr__" = some none)
    (nb_InvalidText : PySem.W.findIn K (.ref C_InvalidText) "at" = some none)
    (a1_InvalidText : PySem.W.findIn K (.ref C_InvalidText) "__init__" = some (some (.ref f_InvalidText)))
    (t1_InvalidText : PySem.W.typeIn K (.ref f_InvalidText) = some (.type "function"))
    (l1_InvalidText : K.lookup f_InvalidText = some ⟨oc_InvalidText, od_InvalidText, .func (PySem.W.fnOf "__init__" "InvalidText.__init__" (PySem.LowX_InvalidText.iA ⟨13, 17, 13, 21⟩ ⟨13, 23, 13, 25⟩) (PySem.LowX_InvalidText.iB ⟨14, 8, 14, 12⟩ ⟨14, 8, 14, 15⟩ ⟨14, 18, 14, 20⟩ ⟨14, 8, 14, 20⟩) PySem.LowX_InvalidText.iS .none .none dc_InvalidText pm_InvalidText an_InvalidText cd_InvalidText ct_InvalidText), sl_InvalidText⟩)
    (c1_InvalidText : PySem.W.codeIn K cd_InvalidText "InvalidText.__init__" = true)
    (kC_InvalidText : PySem.W.keepIn K (.ref C_InvalidText) = true)
    (eC_InvalidText : PySem.W.subIn K (.ref C_InvalidText) (.type "BaseException") = some true)
    (tC_InvalidText : PySem.W.typeIn K (.ref C_InvalidText) = some (.type "type"))
    (hC_InvalidText : PySem.W.hasDictIn K C_InvalidText = true)
    (iC_InvalidText : PySem.W.isClsIn K C_InvalidText = true)
    (sC_InvalidText : PySem.W.subIn K (.ref C_InvalidText) (.ref C_InvalidText) = some true)
    (n_WakeError : PySem.W.nsIn K mainGlobals "WakeError" = some (some (.ref C_WakeError)))
    (kit_TW : PySem.W.kitOne K (.ref C_InvalidText) (.ref C_WakeError) = some true)
    (kit_TI : PySem.W.kitOne K (.ref C_InvalidText) (.ref C_InvalidMachine) = some false)
    (ca_InvalidText : PySem.W.findIn K (.ref C_InvalidText) "__class__" = some (some (.builtin "object.__class__")))
    (cm_InvalidText : PySem.W.mroIn K C_InvalidText (.type "object") = some true) :
    ∃ fd : FuncData, (∀ (s : Shared) (v : Value), BindsTo s fd ⟨[v], []⟩ [("_law_script", v)]) ∧ ∀ base : Heap, K.In base → base.Ns mainGlobals mg → FnOk P w K mg base CX0 10 fa fd ["_law_script"] (spLaw K) := by
  have e := hfa.symm.trans (PySem.W.mg_of X G a_law)
  cases e
  have low_InvalidMachine : PySem.LowX_InvalidMachine.LowTxt_InvalidMachine K mg C_InvalidMachine f_InvalidMachine :=
    { gC := PySem.W.mg_of X G n_InvalidMachine, cls := ⟨nm_InvalidMachine, q_InvalidMachine, N_InvalidMachine, bs_InvalidMachine, _, sn_InvalidMachine, sub_InvalidMachine, ab_InvalidMachine, col_InvalidMachine, dd_InvalidMachine, m0_InvalidMachine, m1_InvalidMachine, m2_InvalidMachine, m3_InvalidMachine, m5_InvalidMachine, x_InvalidMachine, by rfl⟩, sa := sa_InvalidMachine, ga := ga_InvalidMachine, gg := gg_InvalidMachine, noN := nb_InvalidMachine, iC := a1_InvalidMachine, tC := t1_InvalidMachine, kC := kC_InvalidMachine, exC := eC_InvalidMachine, tyC := tC_InvalidMachine, hdC := hC_InvalidMachine, te := exm_self eC_InvalidMachine iC_InvalidMachine tC_InvalidMachine sC_InvalidMachine,
      fn := ⟨_, _, _, _, _, _, _, _, _, _, _, _, _, _, l1_InvalidMachine, c1_InvalidMachine⟩ }
  have low_InvalidText : PySem.LowX_InvalidText.LowTxt_InvalidText K mg C_InvalidText f_InvalidText :=
    { gC := PySem.W.mg_of X G n_InvalidText, cls := ⟨nm_InvalidText, q_InvalidText, N_InvalidText, bs_InvalidText, _, sn_InvalidText, sub_InvalidText, ab_InvalidText, col_InvalidText, dd_InvalidText, m0_InvalidText, m1_InvalidText, m2_InvalidText, m3_InvalidText, m5_InvalidText, x_InvalidText, by rfl⟩, sa := sa_InvalidText, ga := ga_InvalidText, gg := gg_InvalidText, noN := nb_InvalidText, iC := a1_InvalidText, tC := t1_InvalidText, kC := kC_InvalidText, exC := eC_InvalidText, tyC := tC_InvalidText, hdC := hC_InvalidText, te := exm_self eC_InvalidText iC_InvalidText tC_InvalidText sC_InvalidText,
      fn := ⟨_, _, _, _, _, _, _, _, _, _, _, _, _, _, l1_InvalidText, c1_InvalidText⟩ }
  have F_is_sequence := fun_mk (st := s_is_sequence) l_is_sequence c_is_sequence k_is_sequence
  have F_is_name := fun_mk (st := s_is_name) l_is_name c_is_name k_is_name
  have F_is_event := fun_mk (st := s_is_event) l_is_event c_is_event k_is_event
  have F_is_deed := fun_mk (st := s_is_deed) l_is_deed c_is_deed k_is_deed
  have F_is_phrase := fun_mk (st := s_is_phrase) l_is_phrase c_is_phrase k_is_phrase
  have F_may_do := fun_mk (st := s_may_do) l_may_do c_may_do k_may_do
  have F_deeds_text := fun_mk (st := s_deeds_text) l_deeds_text c_deeds_text k_deeds_text
  have F_Rule_str := fun_mk (st := s_Rule_str) l_Rule_str c_Rule_str k_Rule_str
  have F_Rule_eq := fun_mk (st := s_Rule_eq) l_Rule_eq c_Rule_eq k_Rule_eq
  have F_law_deal := fun_mk (st := s_law_deal) l_law_deal c_law_deal k_law_deal
  have F_law_draw := fun_mk (st := s_law_draw) l_law_draw c_law_draw k_law_draw
  have F_law_pick := fun_mk (st := s_law_pick) l_law_pick c_law_pick k_law_pick
  have F_law_names := fun_mk (st := s_law_names) l_law_names c_law_names k_law_names
  have F_law_formula := fun_mk (st := s_law_formula) l_law_formula c_law_formula k_law_formula
  have F_law_worth := fun_mk (st := s_law_worth) l_law_worth c_law_worth k_law_worth
  have F_law_sets := fun_mk (st := s_law_sets) l_law_sets c_law_sets k_law_sets
  have F_law_told_names := fun_mk (st := s_law_told_names) l_law_told_names c_law_told_names k_law_told_names
  have F_law_needs := fun_mk (st := s_law_needs) l_law_needs c_law_needs k_law_needs
  have F_law_block := fun_mk (st := s_law_block) l_law_block c_law_block k_law_block
  have F_law_places := fun_mk (st := s_law_places) l_law_places c_law_places k_law_places
  have F_law_fences := fun_mk (st := s_law_fences) l_law_fences c_law_fences k_law_fences
  have F_law_all_events := fun_mk (st := s_law_all_events) l_law_all_events c_law_all_events k_law_all_events
  have F_law_deed := fun_mk (st := s_law_deed) l_law_deed c_law_deed k_law_deed
  have F_law_any_rule := fun_mk (st := s_law_any_rule) l_law_any_rule c_law_any_rule k_law_any_rule
  have F_kind_of := fun_mk (st := s_kind_of) l_kind_of c_kind_of k_kind_of
  have F_name_of := fun_mk (st := s_name_of) l_name_of c_name_of k_name_of
  have F_ascending := fun_mk (st := s_ascending) l_ascending c_ascending k_ascending
  have F_names_behind := fun_mk (st := s_names_behind) l_names_behind c_names_behind k_names_behind
  have F_Machine_str := fun_mk (st := s_Machine_str) l_Machine_str c_Machine_str k_Machine_str
  have F_Machine_eq := fun_mk (st := s_Machine_eq) l_Machine_eq c_Machine_eq k_Machine_eq
  have F_Machine_len := fun_mk (st := s_Machine_len) l_Machine_len c_Machine_len k_Machine_len
  have F_Machine_item := fun_mk (st := s_Machine_getitem) l_Machine_item c_Machine_item k_Machine_item
  have F_read := fun_mk (st := s_Machine_read) l_read c_read k_read
  have F_law_mixed := fun_mk (st := s_law_mixed) l_law_mixed c_law_mixed k_law_mixed
  have F_law_sleep_row := fun_mk (st := s_law_sleep_row) l_law_sleep_row c_law_sleep_row k_law_sleep_row
  have F_law_wake_row := fun_mk (st := s_law_wake_row) l_law_wake_row c_law_wake_row k_law_wake_row
  have F_law_spoilt_row := fun_mk (st := s_law_spoilt_row) l_law_spoilt_row c_law_spoilt_row k_law_spoilt_row
  have F_law_sleeper := fun_mk (st := s_law_sleeper) l_law_sleeper c_law_sleeper k_law_sleeper
  have F_law_machine := fun_mk (st := s_law_machine) l_law_machine c_law_machine k_law_machine
  have F_law_rule_text := fun_mk (st := s_law_rule_text) l_law_rule_text c_law_rule_text k_law_rule_text
  have F_law_machine_text := fun_mk (st := s_law_machine_text) l_law_machine_text c_law_machine_text k_law_machine_text
  have F_read_rule := fun_mk (st := s_read_rule) l_read_rule c_read_rule k_read_rule
  have F_law_is_name := fun_mk (st := s_law_is_name) l_law_is_name c_law_is_name k_law_is_name
  have F_law_is_told := fun_mk (st := s_law_is_told) l_law_is_told c_law_is_told k_law_is_told
  have F_law_is_event := fun_mk (st := s_law_is_event) l_law_is_event c_law_is_event k_law_is_event
  have F_law_is_deed := fun_mk (st := s_law_is_deed) l_law_is_deed c_law_is_deed k_law_is_deed
  have F_law_wrong := fun_mk (st := s_law_wrong) l_law_wrong c_law_wrong k_law_wrong
  have F_law_rule_of := fun_mk (st := s_law_rule_of) l_law_rule_of c_law_rule_of k_law_rule_of
  have F_law_wrong_line := fun_mk (st := s_law_wrong_line) l_law_wrong_line c_law_wrong_line k_law_wrong_line
  have F_law_told := fun_mk (st := s_law_told) l_law_told c_law_told k_law_told
  have F_law_bent := fun_mk (st := s_law_bent) l_law_bent c_law_bent k_law_bent
  have F_law := fun_mk (st := s_law) l_law c_law k_law
  have b_is_sequence := F_is_sequence.binds (ps := ["value"]) fun _ _ _ _ _ _ us hl => match us, hl with | [_], _ => rfl
  have b_is_name := F_is_name.binds (ps := ["value"]) fun _ _ _ _ _ _ us hl => match us, hl with | [_], _ => rfl
  have b_is_event := F_is_event.binds (ps := ["value"]) fun _ _ _ _ _ _ us hl => match us, hl with | [_], _ => rfl
  have b_is_deed := F_is_deed.binds (ps := ["value"]) fun _ _ _ _ _ _ us hl => match us, hl with | [_], _ => rfl
  have b_is_phrase := F_is_phrase.binds (ps := ["text", "alone", "named"]) fun _ _ _ _ _ _ us hl => match us, hl with | [_, _, _], _ => rfl
  have b_may_do := F_may_do.binds (ps := ["event", "deed"]) fun _ _ _ _ _ _ us hl => match us, hl with | [_, _], _ => rfl
  have b_deeds_text := F_deeds_text.binds (ps := ["deeds"]) fun _ _ _ _ _ _ us hl => match us, hl with | [_], _ => rfl
  have b_Rule_str := F_Rule_str.binds (ps := ["self"]) fun _ _ _ _ _ _ us hl => match us, hl with | [_], _ => rfl
  have b_Rule_eq := F_Rule_eq.binds (ps := ["self", "other"]) fun _ _ _ _ _ _ us hl => match us, hl with | [_, _], _ => rfl
  have b_law_deal := F_law_deal.binds (ps := ["_law_script", "_law_base"]) fun _ _ _ _ _ _ us hl => match us, hl with | [_, _], _ => rfl
  have b_law_draw := F_law_draw.binds (ps := ["_law_deal_here", "_law_many"]) fun _ _ _ _ _ _ us hl => match us, hl with | [_, _], _ => rfl
  have b_law_pick := F_law_pick.binds (ps := ["_law_deal_here", "_law_some"]) fun _ _ _ _ _ _ us hl => match us, hl with | [_, _], _ => rfl
  have b_law_names := F_law_names.binds (ps := ["_law_deal_here", "_law_many"]) fun _ _ _ _ _ _ us hl => match us, hl with | [_, _], _ => rfl
  have b_law_formula := F_law_formula.binds (ps := ["_law_deal_here", "_law_names_here", "_law_deep"]) fun _ _ _ _ _ _ us hl => match us, hl with | [_, _, _], _ => rfl
  have b_law_worth := F_law_worth.binds (ps := ["_law_one", "_law_held"]) fun _ _ _ _ _ _ us hl => match us, hl with | [_, _], _ => rfl
  have b_law_sets := F_law_sets.binds (ps := ["_law_names_here"]) fun _ _ _ _ _ _ us hl => match us, hl with | [_], _ => rfl
  have b_law_told_names := F_law_told_names.binds (ps := ["_law_one"]) fun _ _ _ _ _ _ us hl => match us, hl with | [_], _ => rfl
  have b_law_needs := F_law_needs.binds (ps := ["_law_one"]) fun _ _ _ _ _ _ us hl => match us, hl with | [_], _ => rfl
  have b_law_block := F_law_block.binds (ps := ["_law_deal_here", "_law_most", "_law_areas", "_law_signals"]) fun _ _ _ _ _ _ us hl => match us, hl with | [_, _, _, _], _ => rfl
  have b_law_places := F_law_places.binds (ps := ["_law_block_here"]) fun _ _ _ _ _ _ us hl => match us, hl with | [_], _ => rfl
  have b_law_fences := F_law_fences.binds (ps := ["_law_block_here"]) fun _ _ _ _ _ _ us hl => match us, hl with | [_], _ => rfl
  have b_law_all_events := F_law_all_events.binds (ps := ["_law_block_here"]) fun _ _ _ _ _ _ us hl => match us, hl with | [_], _ => rfl
  have b_law_deed := F_law_deed.binds (ps := ["_law_deal_here", "_law_block_here", "_law_is_ask"]) fun _ _ _ _ _ _ us hl => match us, hl with | [_, _, _], _ => rfl
  have b_law_any_rule := F_law_any_rule.binds (ps := ["_law_deal_here", "_law_block_here", "_law_states"]) fun _ _ _ _ _ _ us hl => match us, hl with | [_, _, _], _ => rfl
  have b_kind_of := F_kind_of.binds (ps := ["phrase"]) fun _ _ _ _ _ _ us hl => match us, hl with | [_], _ => rfl
  have b_name_of := F_name_of.binds (ps := ["phrase"]) fun _ _ _ _ _ _ us hl => match us, hl with | [_], _ => rfl
  have b_ascending := F_ascending.binds (ps := ["names"]) fun _ _ _ _ _ _ us hl => match us, hl with | [_], _ => rfl
  have b_names_behind := F_names_behind.binds (ps := ["rules", "kinds"]) fun _ _ _ _ _ _ us hl => match us, hl with | [_, _], _ => rfl
  have b_Machine_str := F_Machine_str.binds (ps := ["self"]) fun _ _ _ _ _ _ us hl => match us, hl with | [_], _ => rfl
  have b_Machine_eq := F_Machine_eq.binds (ps := ["self", "other"]) fun _ _ _ _ _ _ us hl => match us, hl with | [_, _], _ => rfl
  have b_Machine_len := F_Machine_len.binds (ps := ["self"]) fun _ _ _ _ _ _ us hl => match us, hl with | [_], _ => rfl
  have b_Machine_item := F_Machine_item.binds (ps := ["self", "at"]) fun _ _ _ _ _ _ us hl => match us, hl with | [_, _], _ => rfl
  have b_read := F_read.binds (ps := ["cls", "text"]) fun _ _ _ _ _ _ us hl => match us, hl with | [_, _], _ => rfl
  have b_law_mixed := F_law_mixed.binds (ps := ["_law_deal_here", "_law_some"]) fun _ _ _ _ _ _ us hl => match us, hl with | [_, _], _ => rfl
  have b_law_sleep_row := F_law_sleep_row.binds (ps := ["_law_deal_here", "_law_block_here"]) fun _ _ _ _ _ _ us hl => match us, hl with | [_, _], _ => rfl
  have b_law_wake_row := F_law_wake_row.binds (ps := ["_law_deal_here", "_law_block_here"]) fun _ _ _ _ _ _ us hl => match us, hl with | [_, _], _ => rfl
  have b_law_spoilt_row := F_law_spoilt_row.binds (ps := ["_law_deal_here", "_law_row"]) fun _ _ _ _ _ _ us hl => match us, hl with | [_, _], _ => rfl
  have b_law_sleeper := F_law_sleeper.binds (ps := ["_law_deal_here", "_law_block_here"]) fun _ _ _ _ _ _ us hl => match us, hl with | [_, _], _ => rfl
  have b_law_machine := F_law_machine.binds (ps := ["_law_deal_here", "_law_block_here", "_law_most"]) fun _ _ _ _ _ _ us hl => match us, hl with | [_, _, _], _ => rfl
  have b_law_rule_text := F_law_rule_text.binds (ps := ["_law_rule"]) fun _ _ _ _ _ _ us hl => match us, hl with | [_], _ => rfl
  have b_law_machine_text := F_law_machine_text.binds (ps := ["_law_machine_here"]) fun _ _ _ _ _ _ us hl => match us, hl with | [_], _ => rfl
  have b_read_rule := F_read_rule.binds (ps := ["line"]) fun _ _ _ _ _ _ us hl => match us, hl with | [_], _ => rfl
  have b_law_is_name := F_law_is_name.binds (ps := ["_law_value"]) fun _ _ _ _ _ _ us hl => match us, hl with | [_], _ => rfl
  have b_law_is_told := F_law_is_told.binds (ps := ["_law_value", "_law_plain", "_law_others"]) fun _ _ _ _ _ _ us hl => match us, hl with | [_, _, _], _ => rfl
  have b_law_is_event := F_law_is_event.binds (ps := ["_law_value"]) fun _ _ _ _ _ _ us hl => match us, hl with | [_], _ => rfl
  have b_law_is_deed := F_law_is_deed.binds (ps := ["_law_value"]) fun _ _ _ _ _ _ us hl => match us, hl with | [_], _ => rfl
  have b_law_wrong := F_law_wrong.binds (ps := ["_law_rule"]) fun _ _ _ _ _ _ us hl => match us, hl with | [_], _ => rfl
  have b_law_rule_of := F_law_rule_of.binds (ps := ["_law_line"]) fun _ _ _ _ _ _ us hl => match us, hl with | [_], _ => rfl
  have b_law_wrong_line := F_law_wrong_line.binds (ps := ["_law_lines"]) fun _ _ _ _ _ _ us hl => match us, hl with | [_], _ => rfl
  have b_law_told := F_law_told.binds (ps := ["_law_text"]) fun _ _ _ _ _ _ us hl => match us, hl with | [_], _ => rfl
  have b_law_bent := F_law_bent.binds (ps := ["_law_deal_here", "_law_text"]) fun _ _ _ _ _ _ us hl => match us, hl with | [_, _], _ => rfl
  have FR : FunD K "__init__" "Rule.__init__" (defArgs s_Rule_init) (defBody s_Rule_init) (defScope s_Rule_init) [V.ref dv_init_0] [] f_init _ :=
    ⟨⟨_, _, _, _, _, _, _, _, _, _, rfl, l_init, c_init, .inr ⟨by simp, _, _, [.ref dv_init_0], _, rfl, t_init, rfl, .cons rfl .nil⟩, .inl rfl⟩, k_init⟩
  obtain ⟨dsR, vR, bR⟩ := FR.binds1 (ps := ["self", "state", "event", "guard", "then", "deeds"]) 6 1 (by simp) rfl (fun _ _ _ _ _ _ _ us its hl hi => match us, hl, its, hi with | [_, _, _, _, _, _], _, [_], _ => ⟨_, rfl, rfl⟩)
  cases vR
  have FM : FunD K "__init__" "Machine.__init__" (defArgs s_Machine_init) (defBody s_Machine_init) (defScope s_Machine_init) [V.ref dv_minit_0] [] f_minit _ :=
    ⟨⟨_, _, _, _, _, _, _, _, _, _, rfl, l_minit, c_minit, .inr ⟨by simp, _, _, [.ref dv_minit_0], _, rfl, t_minit, rfl, .cons rfl .nil⟩, .inl rfl⟩, k_minit⟩
  obtain ⟨dsM, vM, bM⟩ := FM.binds1 (ps := ["self", "first", "rules"]) 3 1 (by simp) rfl (fun _ _ _ _ _ _ _ us its hl hi => match us, hl, its, hi with | [_, _, _], _, [_], _ => ⟨_, rfl, rfl⟩)
  cases vM
  obtain ⟨dsM1, vM1, bM1⟩ := FM.binds1 (ps := ["self", "first", "rules"]) 2 0 (by simp) rfl (fun _ _ _ _ _ _ _ us its hl hi => match us, hl, its, hi with | [_, _], _, [_], _ => ⟨_, rfl, rfl⟩)
  have T : TxtL K mg ⟨r_RESERVED, r_PLAIN_EVENTS, r_AREA_EVENTS, r_PLAIN_DEEDS, r_FENCE_DEEDS, r_AREA_DEEDS, t_LONGEST, t_LETTERS, f_is_sequence, f_is_name, f_is_event, f_is_deed, f_is_phrase, f_may_do⟩ ⟨C_Rule, f_init, C_InvalidMachine, f_InvalidMachine, r_GUARDS⟩ ⟨f_deeds_text, f_Rule_str, f_Rule_eq⟩ ⟨C_Machine, f_minit⟩ ⟨f_kind_of, f_name_of, f_ascending, f_names_behind⟩ ⟨f_Machine_str, f_Machine_eq, f_Machine_len, f_Machine_item⟩ f_read_rule C_InvalidText f_InvalidText ⟨f_law_is_name, f_law_is_told, f_law_is_event, f_law_is_deed, f_law_wrong⟩ ⟨f_law_rule_of, f_law_wrong_line, f_law_told, f_read⟩ C_WakeError p_read ⟨f_law_deal, f_law_draw, f_law_pick, f_law_names⟩ ⟨f_law_formula, f_law_worth, f_law_sets, f_law_told_names, f_law_needs⟩ ⟨f_law_block, f_law_places, f_law_fences⟩ ⟨f_law_all_events, f_law_deed, f_law_any_rule⟩ ⟨f_law_mixed, f_law_sleep_row, f_law_wake_row, f_law_spoilt_row⟩ ⟨f_law_sleeper, f_law_machine⟩ f_law_machine_text f_law_bent := { g_RESERVED := PySem.W.mg_of X G n_RESERVED, s_RESERVED := fun H => .inr ⟨_, _, _, l_RESERVED, rfl, rfl, z_RESERVED, v_RESERVED⟩, g_PLAIN_EVENTS := PySem.W.mg_of X G n_PLAIN_EVENTS, s_PLAIN_EVENTS := fun H => .inr ⟨_, _, _, l_PLAIN_EVENTS, rfl, rfl, z_PLAIN_EVENTS, v_PLAIN_EVENTS⟩, g_AREA_EVENTS := PySem.W.mg_of X G n_AREA_EVENTS, s_AREA_EVENTS := fun H => .inr ⟨_, _, _, l_AREA_EVENTS, rfl, rfl, z_AREA_EVENTS, v_AREA_EVENTS⟩, g_PLAIN_DEEDS := PySem.W.mg_of X G n_PLAIN_DEEDS, s_PLAIN_DEEDS := fun H => .inr ⟨_, _, _, l_PLAIN_DEEDS, rfl, rfl, z_PLAIN_DEEDS, v_PLAIN_DEEDS⟩, g_FENCE_DEEDS := PySem.W.mg_of X G n_FENCE_DEEDS, s_FENCE_DEEDS := fun H => .inr ⟨_, _, _, l_FENCE_DEEDS, rfl, rfl, z_FENCE_DEEDS, v_FENCE_DEEDS⟩, g_AREA_DEEDS := PySem.W.mg_of X G n_AREA_DEEDS, s_AREA_DEEDS := fun H => .inr ⟨_, _, _, l_AREA_DEEDS, rfl, rfl, z_AREA_DEEDS, v_AREA_DEEDS⟩, g_LONGEST := PySem.W.mg_of X G n_LONGEST, g_LETTERS := PySem.W.mg_of X G n_LETTERS, b_isinstance := PySem.W.mg_none_of X G b_isinstance, b_str := PySem.W.mg_none_of X G b_str, b_list := PySem.W.mg_none_of X G b_list, b_tuple := PySem.W.mg_none_of X G b_tuple, b_len := PySem.W.mg_none_of X G b_len, b_all := PySem.W.mg_none_of X G b_all, g_is_sequence := PySem.W.mg_of X G a_is_sequence, k_is_sequence := k_is_sequence, g_is_name := PySem.W.mg_of X G a_is_name, k_is_name := k_is_name, g_is_event := PySem.W.mg_of X G a_is_event, k_is_event := k_is_event, g_is_deed := PySem.W.mg_of X G a_is_deed, k_is_deed := k_is_deed, g__is_phrase := PySem.W.mg_of X G a_is_phrase, k__is_phrase := k_is_phrase, g__may_do := PySem.W.mg_of X G a_may_do, k__may_do := k_may_do, low_InvalidMachine := low_InvalidMachine, cl := ⟨pg_Rule, hd_Rule, po_Rule, sa_Rule⟩, M := ⟨mk_Rule, a_init, i_init, kc_Rule⟩, g_Rule := PySem.W.mg_of X G n_Rule, g_GUARDS := PySem.W.mg_of X G n_GUARDS, s_GUARDS := fun H => .inr ⟨_, _, _, l_GUARDS, rfl, rfl, z_GUARDS, v_GUARDS⟩, n_state := no_Rule_state, n_event := no_Rule_event, n_guard := no_Rule_guard, n_then := no_Rule_then, n_deeds := no_Rule_deeds, g__deeds_text := PySem.W.mg_of X G a_deeds_text, k__deeds_text := k_deeds_text, a_Rule_str := a_Rule_str, i_Rule_str := i_Rule_str, a_Rule_eq := a_Rule_eq, i_Rule_eq := i_Rule_eq, kit_Rule := kit_Rule, sis_Rule := ⟨ca_Rule, cn_Rule, ct_Rule, cm_Rule⟩, b_set := PySem.W.mg_none_of X G b_set, b_sorted := PySem.W.mg_none_of X G b_sorted, g_kind_of := PySem.W.mg_of X G a_kind_of, k_kind_of := k_kind_of, g_name_of := PySem.W.mg_of X G a_name_of, k_name_of := k_name_of, g_ascending := PySem.W.mg_of X G a_ascending, k_ascending := k_ascending, g__names_behind := PySem.W.mg_of X G a_names_behind, k__names_behind := k_names_behind, clM := ⟨pg_Machine, hd_Machine, po_Machine, sa_Machine⟩, MM := ⟨mk_Machine, a_minit, i_minit, kc_Machine⟩, g_Machine := PySem.W.mg_of X G n_Machine, m_first := no_Machine_first, m_rules := no_Machine_rules, m_states := no_Machine_states, m_areas := no_Machine_areas, m_fences := no_Machine_fences, a_Machine_str := a_Machine_str, i_Machine_str := i_Machine_str, a_Machine_eq := a_Machine_eq, i_Machine_eq := i_Machine_eq, a_Machine_len := a_Machine_len, i_Machine_len := i_Machine_len, a_Machine_item := a_Machine_item, i_Machine_item := i_Machine_item, f_Machine_item := f_it, kit_Machine := kit_Machine, sis_Machine := ⟨ca_Machine, cn_Rule, ct_Rule, cm_Machine⟩, mr_Machine := cm_Machine, ne_Machine := ne_Machine, g__read_rule := PySem.W.mg_of X G a_read_rule, k__read_rule := k_read_rule, b_enumerate := PySem.W.mg_none_of X G b_enumerate, low_InvalidText := low_InvalidText, g__law_is_name := PySem.W.mg_of X G a_law_is_name, k__law_is_name := k_law_is_name, g__law_is_told := PySem.W.mg_of X G a_law_is_told, k__law_is_told := k_law_is_told, g__law_is_event := PySem.W.mg_of X G a_law_is_event, k__law_is_event := k_law_is_event, g__law_is_deed := PySem.W.mg_of X G a_law_is_deed, k__law_is_deed := k_law_is_deed, g__law_wrong := PySem.W.mg_of X G a_law_wrong, k__law_wrong := k_law_wrong, g__law_rule_of := PySem.W.mg_of X G a_law_rule_of, k__law_rule_of := k_law_rule_of, g__law_wrong_line := PySem.W.mg_of X G a_law_wrong_line, k__law_wrong_line := k_law_wrong_line, g__law_told := PySem.W.mg_of X G a_law_told, k__law_told := k_law_told, g_WakeError := PySem.W.mg_of X G n_WakeError, g_InvalidMachine := PySem.W.mg_of X G n_InvalidMachine, xc_InvalidText := ⟨ga_InvalidText, gg_InvalidText, eC_InvalidText, hC_InvalidText, ca_InvalidText, cn_Rule, ct_Rule, cm_InvalidText⟩, kit_TW := kit_TW, kit_TI := kit_TI, cr_Machine := ⟨rd_Machine, rg_Machine⟩, cm_Machine_read := ⟨at_read, ⟨_, rc_read⟩, fi_read⟩, b_abs := PySem.W.mg_none_of X G b_abs, b_int := PySem.W.mg_none_of X G b_int, b_range := PySem.W.mg_none_of X G b_range, g__law_deal := PySem.W.mg_of X G a_law_deal, k__law_deal := k_law_deal, g__law_draw := PySem.W.mg_of X G a_law_draw, k__law_draw := k_law_draw, g__law_pick := PySem.W.mg_of X G a_law_pick, k__law_pick := k_law_pick, g__law_names := PySem.W.mg_of X G a_law_names, k__law_names := k_law_names, g__law_formula := PySem.W.mg_of X G a_law_formula, k__law_formula := k_law_formula, g__law_worth := PySem.W.mg_of X G a_law_worth, k__law_worth := k_law_worth, g__law_sets := PySem.W.mg_of X G a_law_sets, k__law_sets := k_law_sets, g__law_told_names := PySem.W.mg_of X G a_law_told_names, k__law_told_names := k_law_told_names, g__law_needs := PySem.W.mg_of X G a_law_needs, k__law_needs := k_law_needs, g__law_block := PySem.W.mg_of X G a_law_block, k__law_block := k_law_block, g__law_places := PySem.W.mg_of X G a_law_places, k__law_places := k_law_places, g__law_fences := PySem.W.mg_of X G a_law_fences, k__law_fences := k_law_fences, g__law_all_events := PySem.W.mg_of X G a_law_all_events, k__law_all_events := k_law_all_events, g__law_deed := PySem.W.mg_of X G a_law_deed, k__law_deed := k_law_deed, g__law_any_rule := PySem.W.mg_of X G a_law_any_rule, k__law_any_rule := k_law_any_rule, g__law_mixed := PySem.W.mg_of X G a_law_mixed, k__law_mixed := k_law_mixed, g__law_sleep_row := PySem.W.mg_of X G a_law_sleep_row, k__law_sleep_row := k_law_sleep_row, g__law_wake_row := PySem.W.mg_of X G a_law_wake_row, k__law_wake_row := k_law_wake_row, g__law_spoilt_row := PySem.W.mg_of X G a_law_spoilt_row, k__law_spoilt_row := k_law_spoilt_row, g__law_sleeper := PySem.W.mg_of X G a_law_sleeper, k__law_sleeper := k_law_sleeper, g__law_machine := PySem.W.mg_of X G a_law_machine, k__law_machine := k_law_machine, g__law_machine_text := PySem.W.mg_of X G a_law_machine_text, k__law_machine_text := k_law_machine_text, g__law_bent := PySem.W.mg_of X G a_law_bent, k__law_bent := k_law_bent }
  have TM : TxtLM K mg f_law_rule_text f_law_machine_text := { b_len := PySem.W.mg_none_of X G b_len, g__law_rule_text := PySem.W.mg_of X G a_law_rule_text, k__law_rule_text := k_law_rule_text, g__law_machine_text := PySem.W.mg_of X G a_law_machine_text, k__law_machine_text := k_law_machine_text }
  have TB : TxtBe K mg f_law_draw f_law_pick := { b_len := PySem.W.mg_none_of X G b_len, g__law_draw := PySem.W.mg_of X G a_law_draw, k__law_draw := k_law_draw, g__law_pick := PySem.W.mg_of X G a_law_pick, k__law_pick := k_law_pick }
  refine ⟨PySem.W.fnOf "law" "law" (defArgs s_law) (defBody s_law) (defScope s_law) .none kV_law dc_law pm_law an_law cd_law ct_law, fun s v => .of_eq rfl, fun base _ _ => ?_⟩
  have G1 := ok_is_name (P := P) (w := w) (base := base) F_is_name T.toTxtW
  have G2 := ok_is_sequence (P := P) (w := w) (base := base) F_is_sequence T.toTxtW
  have G3 := ok_is_phrase (P := P) (w := w) (base := base) F_is_phrase T.toTxtW G1 b_is_name
  have G4 := ok_is_event (P := P) (w := w) (base := base) F_is_event T.toTxtW G3 b_is_phrase
  have G5 := ok_is_deed (P := P) (w := w) (base := base) F_is_deed T.toTxtW G3 b_is_phrase
  have G6 := ok_may_do (P := P) (w := w) (base := base) F_may_do T.toTxtW G5 b_is_deed
  have G7 := ok_Rule (P := P) (w := w) (base := base) FR T.toTR G1 b_is_name G4 b_is_event G2 b_is_sequence G6 b_may_do
  have H1 := ok_deal (P := P) (w := w) (base := base) F_law_deal T.toTxtD
  have H2 := ok_draw (P := P) (w := w) (base := base) F_law_draw T.toTxtD
  have H3 := ok_pick (P := P) (w := w) (base := base) F_law_pick T.toTxtD H2 b_law_draw
  have H5 := ok_names (P := P) (w := w) (base := base) F_law_names T.toTxtD H2 b_law_draw
  have S0 := ok_formula (n := 0) (j := 2) (P := P) (w := w) (base := base) F_law_formula T.toTxtS (Nat.le_refl _) H2 b_law_draw H3 b_law_pick (.inl rfl) no_fn b_law_formula
  have S1 := ok_formula (n := 1) (j := 3) (P := P) (w := w) (base := base) F_law_formula T.toTxtS (by decide) H2 b_law_draw H3 b_law_pick (.inr rfl) S0 b_law_formula
  have S2 := ok_formula (n := 2) (j := 4) (P := P) (w := w) (base := base) F_law_formula T.toTxtS (by decide) H2 b_law_draw H3 b_law_pick (.inr rfl) S1 b_law_formula
  have W0 := ok_worth (n := 0) (j := 0) (P := P) (w := w) (base := base) F_law_worth T.toTxtS (.inl rfl) no_fn b_law_worth
  have W1 := ok_worth (n := 1) (j := 1) (P := P) (w := w) (base := base) F_law_worth T.toTxtS (.inr rfl) W0 b_law_worth
  have W2 := ok_worth (n := 2) (j := 2) (P := P) (w := w) (base := base) F_law_worth T.toTxtS (.inr rfl) W1 b_law_worth
  have W3 := ok_worth (n := 3) (j := 3) (P := P) (w := w) (base := base) F_law_worth T.toTxtS (.inr rfl) W2 b_law_worth
  have N0 := ok_told (n := 0) (j := 0) (P := P) (w := w) (base := base) F_law_told_names T.toTxtS (.inl rfl) no_fn b_law_told_names
  have N1 := ok_told (n := 1) (j := 1) (P := P) (w := w) (base := base) F_law_told_names T.toTxtS (.inr rfl) N0 b_law_told_names
  have N2 := ok_told (n := 2) (j := 2) (P := P) (w := w) (base := base) F_law_told_names T.toTxtS (.inr rfl) N1 b_law_told_names
  have N3 := ok_told (n := 3) (j := 3) (P := P) (w := w) (base := base) F_law_told_names T.toTxtS (.inr rfl) N2 b_law_told_names
  have SE := ok_sets (P := P) (w := w) (base := base) F_law_sets T.toTxtS
  have NE := ok_needs (j := 4) (P := P) (w := w) (base := base) F_law_needs T.toTxtS (by decide) N3 b_law_told_names W3 b_law_worth SE b_law_sets
  have BL := ok_block (j := 5) (P := P) (w := w) (base := base) F_law_block T.toTxtB (by decide) H2 b_law_draw H3 b_law_pick H5 b_law_names S2 b_law_formula NE b_law_needs
  have PL := ok_places (P := P) (w := w) (base := base) F_law_places T.toTxtB
  have FE := ok_fences (P := P) (w := w) (base := base) F_law_fences T.toTxtB
  have AE := ok_all_events (m := 3) (s := 2) (P := P) (w := w) (base := base) F_law_all_events T.toTxtA PL b_law_places
  have DE := ok_deed (m := 3) (s := 2) (P := P) (w := w) (base := base) F_law_deed T.toTxtA PL b_law_places FE b_law_fences H3 b_law_pick
  have AR := ok_any_rule (m := 3) (s := 2) (P := P) (w := w) (base := base) F_law_any_rule T.toTxtA AE b_law_all_events DE b_law_deed H2 b_law_draw H3 b_law_pick
  have KO := ok_kind_of (P := P) (w := w) (base := base) F_kind_of T.toTxtMa
  have NO := ok_name_of (P := P) (w := w) (base := base) F_name_of T.toTxtMa
  have ASC := ok_ascending (P := P) (w := w) (base := base) F_ascending T.toTxtMa
  have NB := ok_names_behind (P := P) (w := w) (base := base) F_names_behind T.toTxtMa KO b_kind_of NO b_name_of ASC b_ascending
  have M1 := ok_Machine (P := P) (w := w) (base := base) FM T.toTxtMa G1 b_is_name G2 b_is_sequence ASC b_ascending NB b_names_behind
  have MX := ok_mixed (P := P) (w := w) (base := base) F_law_mixed T.toTxtD H2 b_law_draw
  have SP := ok_spoilt (n := 60) (P := P) (w := w) (base := base) F_law_spoilt_row T.toTxtM H2 b_law_draw
  have WR := ok_wake_row (m := 3) (s := 2) (P := P) (w := w) (base := base) F_law_wake_row T.toTxtM PL b_law_places FE b_law_fences SP b_law_spoilt_row
  have SR := ok_sleep_row (m := 3) (s := 2) (P := P) (w := w) (base := base) F_law_sleep_row T.toTxtM H2 b_law_draw PL b_law_places FE b_law_fences MX b_law_mixed SP b_law_spoilt_row
  have SL := ok_sleeper (m := 3) (s := 2) (P := P) (w := w) (base := base) F_law_sleeper T.toTxtN H2 b_law_draw H3 b_law_pick H5 b_law_names AR b_law_any_rule SR b_law_sleep_row WR b_law_wake_row
  have MA := ok_machine (m := 3) (s := 2) (P := P) (w := w) (base := base) F_law_machine T.toTxtN H2 b_law_draw H5 b_law_names AR b_law_any_rule SL b_law_sleeper
  have RS := ok_Rule_str (P := P) (w := w) (base := base) F_Rule_str T.toTxtRT (ok_deeds_text (P := P) (w := w) (base := base) F_deeds_text T.toTxtRT) b_deeds_text
  have RE := ok_Rule_eq (P := P) (w := w) (base := base) F_Rule_eq T.toTxtRT RS b_Rule_str
  have MT := ok_Machine_str (P := P) (w := w) (base := base) F_Machine_str T.toTxtMT RS b_Rule_str
  have MC := ok_calm (sp' := spMach K _ _) M1 (fun vs H Q E h => h)
  have R0 := ok_Rule0 G7
  have RA := ok_read_any (P := P) (w := w) (base := base) F_read_rule T.toTxtRR G7 bR
  have RD := ok_readT (P := P) (w := w) (base := base) F_read T.toTxtRT2 G1 b_is_name RA b_read_rule MC bM
  have RM := (FnOk.raw RD b_read .nil).imp (sp' := spReadT K _ _ _) (fun vs H Q E h => by rw [List.append_nil]; exact h)
  have LT := ok_law_rule_text (P := P) (w := w) (base := base) F_law_rule_text TM.toTxtLR
  have LM := ok_law_machine_text (P := P) (w := w) (base := base) F_law_machine_text TM LT b_law_rule_text
  have L1 := ok_lname (P := P) (w := w) (base := base) F_law_is_name T.toTxtT
  have L2 := ok_ltold (P := P) (w := w) (base := base) F_law_is_told T.toTxtT L1 b_law_is_name
  have L3 := ok_levent (P := P) (w := w) (base := base) F_law_is_event T.toTxtT L2 b_law_is_told
  have L4 := ok_ldeed (P := P) (w := w) (base := base) F_law_is_deed T.toTxtT L2 b_law_is_told
  have WG := ok_wrong (P := P) (w := w) (base := base) F_law_wrong T.toTxtT L1 b_law_is_name L3 b_law_is_event L4 b_law_is_deed
  have RO := ok_rule_of (P := P) (w := w) (base := base) F_law_rule_of T.toTxtU
  have WL := ok_wrong_line (P := P) (w := w) (base := base) F_law_wrong_line T.toTxtU L1 b_law_is_name RO b_law_rule_of WG b_law_wrong
  have TO := ok_told_x (P := P) (w := w) (base := base) F_law_told T.toTxtV MT b_Machine_str RM
  have BE := ok_bent (P := P) (w := w) (base := base) F_law_bent TB H2 b_law_draw H3 b_law_pick
  exact ok_law F_law T H1 b_law_deal BL b_law_block MA b_law_machine LM b_law_machine_text TO b_law_told H2 b_law_draw BE b_law_bent WL b_law_wrong_line
theorem walk {l : PySem.W.OpenLaw} {q : Program} {loose : List Str} {XP : (Str → Option Value) → Heap → Prop} {YP : World → Heap → Prop} {d : DefRec} {K : Params → PySem.W.Frag} (hn : l.most = some 63) (hdf : d.params.defaults = [])
    (hY : ∀ (w : World) (h : Heap), YP w h → (K w.params).In h)
    (F : ∀ (w : World) (mg : Str → Option Value) (fa : Addr) (h : Heap), (K w.params).In h → h.Ns mainGlobals mg → mg d.name = some (.ref fa) →
      ∃ fd : FuncData, (∀ (s : Shared) (u : Value), BindsTo s fd ⟨[u], []⟩ [("_law_script", u)]) ∧ ∀ base : Heap, (K w.params).In base → base.Ns mainGlobals mg → FnOk l.prog w (K w.params) mg base CX0 10 fa fd ["_law_script"] (spLaw (K w.params))) :
    PySem.W.WalkO q loose XP YP l.row.toRowW d [] (fun f vs => PySem.call f vs) :=
  L2.walk_of (n := 63) (k := 10) (x := "_law_script") (CX := fun _ => CX0) (sp := fun w => spLaw (K w.params)) hn (by decide) hdf ⟨rfl, by decide, by decide⟩ hY F (fun _ _ a ns hl _ hS => ⟨a, ns, rfl, hS, hl, fun _ => rfl⟩) fun _ _ _ _ _ z => z
end L2.Wk
open PySem PySem.W PyProof.Rows
set_option maxRecDepth 100000 in
set_option maxHeartbeats 0 in
theorem PySem.Challenge.cw_wakesafe_k25_texts_of_no_machine_holds : PySem.Challenge.rw_wakesafe_k25_texts_of_no_machine.Holds := by
  w_on; o_law; k_head; (case hw => w_witness2)
  k_fill
  refine L2.Wk.walk (l := PySem.Challenge.rw_wakesafe_k25_texts_of_no_machine) rfl rfl (fun w h Y => PySem.W.kIn_of Y) ?F
  case F =>
    intro w mg fa h KX G hmg
    refine' L2.Wk.all_mk KX G hmg ?n_RESERVED ?l_RESERVED ?v_RESERVED ?z_RESERVED ?n_PLAIN_EVENTS ?l_PLAIN_EVENTS ?v_PLAIN_EVENTS ?z_PLAIN_EVENTS ?n_AREA_EVENTS ?l_AREA_EVENTS ?v_AREA_EVENTS ?z_AREA_EVENTS ?n_PLAIN_DEEDS ?l_PLAIN_DEEDS ?v_PLAIN_DEEDS ?z_PLAIN_DEEDS ?n_FENCE_DEEDS ?l_FENCE_DEEDS ?v_FENCE_DEEDS ?z_FENCE_DEEDS ?n_AREA_DEEDS ?l_AREA_DEEDS ?v_AREA_DEEDS ?z_AREA_DEEDS ?n_LONGEST ?n_LETTERS ?a_is_sequence ?l_is_sequence ?c_is_sequence ?k_is_sequence ?a_is_name ?l_is_name ?c_is_name ?k_is_name ?a_is_event ?l_is_event ?c_is_event ?k_is_event ?a_is_deed ?l_is_deed ?c_is_deed ?k_is_deed ?a_is_phrase ?l_is_phrase ?c_is_phrase ?k_is_phrase ?a_may_do ?l_may_do ?c_may_do ?k_may_do ?b_isinstance ?b_str ?b_list ?b_tuple ?b_len ?b_all ?n_InvalidMachine ?x_InvalidMachine ?sa_InvalidMachine ?ga_InvalidMachine ?gg_InvalidMachine ?nb_InvalidMachine ?a1_InvalidMachine ?t1_InvalidMachine ?l1_InvalidMachine ?c1_InvalidMachine ?kC_InvalidMachine ?eC_InvalidMachine ?tC_InvalidMachine ?hC_InvalidMachine ?iC_InvalidMachine ?sC_InvalidMachine ?n_GUARDS ?l_GUARDS ?v_GUARDS ?z_GUARDS ?n_Rule ?pg_Rule ?hd_Rule ?po_Rule ?sa_Rule ?mk_Rule ?kc_Rule ?no_Rule_state ?no_Rule_event ?no_Rule_guard ?no_Rule_then ?no_Rule_deeds ?a_init ?i_init ?l_init ?c_init ?k_init ?t_init ?a_deeds_text ?l_deeds_text ?c_deeds_text ?k_deeds_text ?a_Rule_str ?i_Rule_str ?l_Rule_str ?c_Rule_str ?k_Rule_str ?a_Rule_eq ?i_Rule_eq ?l_Rule_eq ?c_Rule_eq ?k_Rule_eq ?kit_Rule ?ca_Rule ?cn_Rule ?ct_Rule ?cm_Rule ?a_law_deal ?l_law_deal ?c_law_deal ?k_law_deal ?a_law_draw ?l_law_draw ?c_law_draw ?k_law_draw ?a_law_pick ?l_law_pick ?c_law_pick ?k_law_pick ?a_law_names ?l_law_names ?c_law_names ?k_law_names ?b_abs ?b_int ?b_range ?a_law_formula ?l_law_formula ?c_law_formula ?k_law_formula ?a_law_worth ?l_law_worth ?c_law_worth ?k_law_worth ?a_law_sets ?l_law_sets ?c_law_sets ?k_law_sets ?a_law_told_names ?l_law_told_names ?c_law_told_names ?k_law_told_names ?a_law_needs ?l_law_needs ?c_law_needs ?k_law_needs ?a_law_block ?l_law_block ?c_law_block ?k_law_block ?a_law_places ?l_law_places ?c_law_places ?k_law_places ?a_law_fences ?l_law_fences ?c_law_fences ?k_law_fences ?b_set ?b_sorted ?a_law_all_events ?l_law_all_events ?c_law_all_events ?k_law_all_events ?a_law_deed ?l_law_deed ?c_law_deed ?k_law_deed ?a_law_any_rule ?l_law_any_rule ?c_law_any_rule ?k_law_any_rule ?a_kind_of ?l_kind_of ?c_kind_of ?k_kind_of ?a_name_of ?l_name_of ?c_name_of ?k_name_of ?a_ascending ?l_ascending ?c_ascending ?k_ascending ?a_names_behind ?l_names_behind ?c_names_behind ?k_names_behind ?n_Machine ?pg_Machine ?hd_Machine ?po_Machine ?sa_Machine ?mk_Machine ?kc_Machine ?no_Machine_first ?no_Machine_rules ?no_Machine_states ?no_Machine_areas ?no_Machine_fences ?a_minit ?i_minit ?l_minit ?c_minit ?k_minit ?t_minit ?ca_Machine ?cm_Machine ?b_enumerate ?a_Machine_str ?i_Machine_str ?l_Machine_str ?c_Machine_str ?k_Machine_str ?a_Machine_eq ?i_Machine_eq ?l_Machine_eq ?c_Machine_eq ?k_Machine_eq ?a_Machine_len ?i_Machine_len ?l_Machine_len ?c_Machine_len ?k_Machine_len ?a_Machine_item ?i_Machine_item ?l_Machine_item ?c_Machine_item ?k_Machine_item ?f_it ?kit_Machine ?ne_Machine ?at_read ?rc_read ?l_read ?c_read ?k_read ?rd_Machine ?rg_Machine ?fi_read ?a_law_mixed ?l_law_mixed ?c_law_mixed ?k_law_mixed ?a_law_sleep_row ?l_law_sleep_row ?c_law_sleep_row ?k_law_sleep_row ?a_law_wake_row ?l_law_wake_row ?c_law_wake_row ?k_law_wake_row ?a_law_spoilt_row ?l_law_spoilt_row ?c_law_spoilt_row ?k_law_spoilt_row ?a_law_sleeper ?l_law_sleeper ?c_law_sleeper ?k_law_sleeper ?a_law_machine ?l_law_machine ?c_law_machine ?k_law_machine ?a_law_rule_text ?l_law_rule_text ?c_law_rule_text ?k_law_rule_text ?a_law_machine_text ?l_law_machine_text ?c_law_machine_text ?k_law_machine_text ?a_read_rule ?l_read_rule ?c_read_rule ?k_read_rule ?a_law_is_name ?l_law_is_name ?c_law_is_name ?k_law_is_name ?a_law_is_told ?l_law_is_told ?c_law_is_told ?k_law_is_told ?a_law_is_event ?l_law_is_event ?c_law_is_event ?k_law_is_event ?a_law_is_deed ?l_law_is_deed ?c_law_is_deed ?k_law_is_deed ?a_law_wrong ?l_law_wrong ?c_law_wrong ?k_law_wrong ?a_law_rule_of ?l_law_rule_of ?c_law_rule_of ?k_law_rule_of ?a_law_wrong_line ?l_law_wrong_line ?c_law_wrong_line ?k_law_wrong_line ?a_law_told ?l_law_told ?c_law_told ?k_law_told ?a_law_bent ?l_law_bent ?c_law_bent ?k_law_bent ?a_law ?l_law ?c_law ?k_law ?n_InvalidText ?x_InvalidText ?sa_InvalidText ?ga_InvalidText ?gg_InvalidText ?nb_InvalidText ?a1_InvalidText ?t1_InvalidText ?l1_InvalidText ?c1_InvalidText ?kC_InvalidText ?eC_InvalidText ?tC_InvalidText ?hC_InvalidText ?iC_InvalidText ?sC_InvalidText ?n_WakeError ?kit_TW ?kit_TI ?ca_InvalidText ?cm_InvalidText
    (case n_RESERVED => k_is)
    (case l_RESERVED => k_is)
    (case v_RESERVED => exact (.cons ⟨_, rfl⟩ (.cons ⟨_, rfl⟩ (.cons ⟨_, rfl⟩ (.cons ⟨_, rfl⟩ (.cons ⟨_, rfl⟩ (.cons ⟨_, rfl⟩ (.cons ⟨_, rfl⟩ (.cons ⟨_, rfl⟩ (.cons ⟨_, rfl⟩ (.cons ⟨_, rfl⟩ (.nil))))))))))))
    (case z_RESERVED => decide)
    (case n_PLAIN_EVENTS => k_is)
    (case l_PLAIN_EVENTS => k_is)
    (case v_PLAIN_EVENTS => exact (.cons ⟨_, rfl⟩ (.cons ⟨_, rfl⟩ (.cons ⟨_, rfl⟩ (.nil)))))
    (case z_PLAIN_EVENTS => decide)
    (case n_AREA_EVENTS => k_is)
    (case l_AREA_EVENTS => k_is)
    (case v_AREA_EVENTS => exact (.cons ⟨_, rfl⟩ (.cons ⟨_, rfl⟩ (.nil))))
    (case z_AREA_EVENTS => decide)
    (case n_PLAIN_DEEDS => k_is)
    (case l_PLAIN_DEEDS => k_is)
    (case v_PLAIN_DEEDS => exact (.cons ⟨_, rfl⟩ (.cons ⟨_, rfl⟩ (.cons ⟨_, rfl⟩ (.cons ⟨_, rfl⟩ (.cons ⟨_, rfl⟩ (.nil)))))))
    (case z_PLAIN_DEEDS => decide)
    (case n_FENCE_DEEDS => k_is)
    (case l_FENCE_DEEDS => k_is)
    (case v_FENCE_DEEDS => exact (.cons ⟨_, rfl⟩ (.cons ⟨_, rfl⟩ (.nil))))
    (case z_FENCE_DEEDS => decide)
    (case n_AREA_DEEDS => k_is)
    (case l_AREA_DEEDS => k_is)
    (case v_AREA_DEEDS => exact (.cons ⟨_, rfl⟩ (.cons ⟨_, rfl⟩ (.cons ⟨_, rfl⟩ (.cons ⟨_, rfl⟩ (.cons ⟨_, rfl⟩ (.nil)))))))
    (case z_AREA_DEEDS => decide)
    (case n_LONGEST => k_is)
    (case n_LETTERS => k_is)
    (case a_is_sequence => k_is)
    (case l_is_sequence => k_is)
    (case c_is_sequence => k_is)
    (case k_is_sequence => k_is)
    (case a_is_name => k_is)
    (case l_is_name => k_is)
    (case c_is_name => k_is)
    (case k_is_name => k_is)
    (case a_is_event => k_is)
    (case l_is_event => k_is)
    (case c_is_event => k_is)
    (case k_is_event => k_is)
    (case a_is_deed => k_is)
    (case l_is_deed => k_is)
    (case c_is_deed => k_is)
    (case k_is_deed => k_is)
    (case a_is_phrase => k_is)
    (case l_is_phrase => k_is)
    (case c_is_phrase => k_is)
    (case k_is_phrase => k_is)
    (case a_may_do => k_is)
    (case l_may_do => k_is)
    (case c_may_do => k_is)
    (case k_may_do => k_is)
    (case b_isinstance => k_is)
    (case b_str => k_is)
    (case b_list => k_is)
    (case b_tuple => k_is)
    (case b_len => k_is)
    (case b_all => k_is)
    (case n_InvalidMachine => k_is)
    (case x_InvalidMachine => k_is)
    (case sa_InvalidMachine => k_is)
    (case ga_InvalidMachine => k_is)
    (case gg_InvalidMachine => k_is)
    (case nb_InvalidMachine => k_is)
    (case a1_InvalidMachine => k_is)
    (case t1_InvalidMachine => k_is)
    (case l1_InvalidMachine => k_is)
    (case c1_InvalidMachine => k_is)
    (case kC_InvalidMachine => k_is)
    (case eC_InvalidMachine => k_is)
    (case tC_InvalidMachine => k_is)
    (case hC_InvalidMachine => k_is)
    (case iC_InvalidMachine => k_is)
    (case sC_InvalidMachine => first | rfl | k_is)
    (case n_GUARDS => k_is)
    (case l_GUARDS => k_is)
    (case v_GUARDS => exact (.cons ⟨_, rfl⟩ (.cons ⟨_, rfl⟩ (.cons ⟨_, rfl⟩ (.nil)))))
    (case z_GUARDS => decide)
    (case n_Rule => k_is)
    (case pg_Rule => k_is)
    (case hd_Rule => k_is)
    (case po_Rule => k_is)
    (case sa_Rule => k_is)
    (case mk_Rule => k_is)
    (case kc_Rule => k_is)
    (case no_Rule_state => k_is)
    (case no_Rule_event => k_is)
    (case no_Rule_guard => k_is)
    (case no_Rule_then => k_is)
    (case no_Rule_deeds => k_is)
    (case a_init => k_is)
    (case i_init => k_is)
    (case l_init => k_is)
    (case c_init => k_is)
    (case k_init => k_is)
    (case t_init => k_is)
    (case a_deeds_text => k_is)
    (case l_deeds_text => k_is)
    (case c_deeds_text => k_is)
    (case k_deeds_text => k_is)
    (case a_Rule_str => k_is)
    (case i_Rule_str => k_is)
    (case l_Rule_str => k_is)
    (case c_Rule_str => k_is)
    (case k_Rule_str => k_is)
    (case a_Rule_eq => k_is)
    (case i_Rule_eq => k_is)
    (case l_Rule_eq => k_is)
    (case c_Rule_eq => k_is)
    (case k_Rule_eq => k_is)
    (case kit_Rule => first | rfl | k_is)
    (case ca_Rule => k_is)
    (case cn_Rule => k_is)
    (case ct_Rule => k_is)
    (case cm_Rule => k_is)
    (case a_law_deal => k_is)
    (case l_law_deal => k_is)
    (case c_law_deal => k_is)
    (case k_law_deal => k_is)
    (case a_law_draw => k_is)
    (case l_law_draw => k_is)
    (case c_law_draw => k_is)
    (case k_law_draw => k_is)
    (case a_law_pick => k_is)
    (case l_law_pick => k_is)
    (case c_law_pick => k_is)
    (case k_law_pick => k_is)
    (case a_law_names => k_is)
    (case l_law_names => k_is)
    (case c_law_names => k_is)
    (case k_law_names => k_is)
    (case b_abs => k_is)
    (case b_int => k_is)
    (case b_range => k_is)
    (case a_law_formula => k_is)
    (case l_law_formula => k_is)
    (case c_law_formula => k_is)
    (case k_law_formula => k_is)
    (case a_law_worth => k_is)
    (case l_law_worth => k_is)
    (case c_law_worth => k_is)
    (case k_law_worth => k_is)
    (case a_law_sets => k_is)
    (case l_law_sets => k_is)
    (case c_law_sets => k_is)
    (case k_law_sets => k_is)
    (case a_law_told_names => k_is)
    (case l_law_told_names => k_is)
    (case c_law_told_names => k_is)
    (case k_law_told_names => k_is)
    (case a_law_needs => k_is)
    (case l_law_needs => k_is)
    (case c_law_needs => k_is)
    (case k_law_needs => k_is)
    (case a_law_block => k_is)
    (case l_law_block => k_is)
    (case c_law_block => k_is)
    (case k_law_block => k_is)
    (case a_law_places => k_is)
    (case l_law_places => k_is)
    (case c_law_places => k_is)
    (case k_law_places => k_is)
    (case a_law_fences => k_is)
    (case l_law_fences => k_is)
    (case c_law_fences => k_is)
    (case k_law_fences => k_is)
    (case b_set => k_is)
    (case b_sorted => k_is)
    (case a_law_all_events => k_is)
    (case l_law_all_events => k_is)
    (case c_law_all_events => k_is)
    (case k_law_all_events => k_is)
    (case a_law_deed => k_is)
    (case l_law_deed => k_is)
    (case c_law_deed => k_is)
    (case k_law_deed => k_is)
    (case a_law_any_rule => k_is)
    (case l_law_any_rule => k_is)
    (case c_law_any_rule => k_is)
    (case k_law_any_rule => k_is)
    (case a_kind_of => k_is)
    (case l_kind_of => k_is)
    (case c_kind_of => k_is)
    (case k_kind_of => k_is)
    (case a_name_of => k_is)
    (case l_name_of => k_is)
    (case c_name_of => k_is)
    (case k_name_of => k_is)
    (case a_ascending => k_is)
    (case l_ascending => k_is)
    (case c_ascending => k_is)
    (case k_ascending => k_is)
    (case a_names_behind => k_is)
    (case l_names_behind => k_is)
    (case c_names_behind => k_is)
    (case k_names_behind => k_is)
    (case n_Machine => k_is)
    (case pg_Machine => k_is)
    (case hd_Machine => k_is)
    (case po_Machine => k_is)
    (case sa_Machine => k_is)
    (case mk_Machine => k_is)
    (case kc_Machine => k_is)
    (case no_Machine_first => k_is)
    (case no_Machine_rules => k_is)
    (case no_Machine_states => k_is)
    (case no_Machine_areas => k_is)
    (case no_Machine_fences => k_is)
    (case a_minit => k_is)
    (case i_minit => k_is)
    (case l_minit => k_is)
    (case c_minit => k_is)
    (case k_minit => k_is)
    (case t_minit => k_is)
    (case ca_Machine => k_is)
    (case cm_Machine => k_is)
    (case b_enumerate => k_is)
    (case a_Machine_str => k_is)
    (case i_Machine_str => k_is)
    (case l_Machine_str => k_is)
    (case c_Machine_str => k_is)
    (case k_Machine_str => k_is)
    (case a_Machine_eq => k_is)
    (case i_Machine_eq => k_is)
    (case l_Machine_eq => k_is)
    (case c_Machine_eq => k_is)
    (case k_Machine_eq => k_is)
    (case a_Machine_len => k_is)
    (case i_Machine_len => k_is)
    (case l_Machine_len => k_is)
    (case c_Machine_len => k_is)
    (case k_Machine_len => k_is)
    (case a_Machine_item => k_is)
    (case i_Machine_item => k_is)
    (case l_Machine_item => k_is)
    (case c_Machine_item => k_is)
    (case k_Machine_item => k_is)
    (case f_it => first | rfl | k_is)
    (case kit_Machine => first | rfl | k_is)
    (case ne_Machine => k_is)
    (case at_read => first | rfl | k_is)
    (case rc_read => first | rfl | k_is)
    (case l_read => k_is)
    (case c_read => k_is)
    (case k_read => k_is)
    (case rd_Machine => first | rfl | k_is)
    (case rg_Machine => first | rfl | k_is)
    (case fi_read => first | rfl | k_is)
    (case a_law_mixed => k_is)
    (case l_law_mixed => k_is)
    (case c_law_mixed => k_is)
    (case k_law_mixed => k_is)
    (case a_law_sleep_row => k_is)
    (case l_law_sleep_row => k_is)
    (case c_law_sleep_row => k_is)
    (case k_law_sleep_row => k_is)
    (case a_law_wake_row => k_is)
    (case l_law_wake_row => k_is)
    (case c_law_wake_row => k_is)
    (case k_law_wake_row => k_is)
    (case a_law_spoilt_row => k_is)
    (case l_law_spoilt_row => k_is)
    (case c_law_spoilt_row => k_is)
    (case k_law_spoilt_row => k_is)
    (case a_law_sleeper => k_is)
    (case l_law_sleeper => k_is)
    (case c_law_sleeper => k_is)
    (case k_law_sleeper => k_is)
    (case a_law_machine => k_is)
    (case l_law_machine => k_is)
    (case c_law_machine => k_is)
    (case k_law_machine => k_is)
    (case a_law_rule_text => k_is)
    (case l_law_rule_text => k_is)
    (case c_law_rule_text => k_is)
    (case k_law_rule_text => k_is)
    (case a_law_machine_text => k_is)
    (case l_law_machine_text => k_is)
    (case c_law_machine_text => k_is)
    (case k_law_machine_text => k_is)
    (case a_read_rule => k_is)
    (case l_read_rule => k_is)
    (case c_read_rule => k_is)
    (case k_read_rule => k_is)
    (case a_law_is_name => k_is)
    (case l_law_is_name => k_is)
    (case c_law_is_name => k_is)
    (case k_law_is_name => k_is)
    (case a_law_is_told => k_is)
    (case l_law_is_told => k_is)
    (case c_law_is_told => k_is)
    (case k_law_is_told => k_is)
    (case a_law_is_event => k_is)
    (case l_law_is_event => k_is)
    (case c_law_is_event => k_is)
    (case k_law_is_event => k_is)
    (case a_law_is_deed => k_is)
    (case l_law_is_deed => k_is)
    (case c_law_is_deed => k_is)
    (case k_law_is_deed => k_is)
    (case a_law_wrong => k_is)
    (case l_law_wrong => k_is)
    (case c_law_wrong => k_is)
    (case k_law_wrong => k_is)
    (case a_law_rule_of => k_is)
    (case l_law_rule_of => k_is)
    (case c_law_rule_of => k_is)
    (case k_law_rule_of => k_is)
    (case a_law_wrong_line => k_is)
    (case l_law_wrong_line => k_is)
    (case c_law_wrong_line => k_is)
    (case k_law_wrong_line => k_is)
    (case a_law_told => k_is)
    (case l_law_told => k_is)
    (case c_law_told => k_is)
    (case k_law_told => k_is)
    (case a_law_bent => k_is)
    (case l_law_bent => k_is)
    (case c_law_bent => k_is)
    (case k_law_bent => k_is)
    (case a_law => k_is)
    (case l_law => k_is)
    (case c_law => k_is)
    (case k_law => k_is)
    (case n_InvalidText => k_is)
    (case x_InvalidText => k_is)
    (case sa_InvalidText => k_is)
    (case ga_InvalidText => k_is)
    (case gg_InvalidText => k_is)
    (case nb_InvalidText => k_is)
    (case a1_InvalidText => k_is)
    (case t1_InvalidText => k_is)
    (case l1_InvalidText => k_is)
    (case c1_InvalidText => k_is)
    (case kC_InvalidText => k_is)
    (case eC_InvalidText => k_is)
    (case tC_InvalidText => k_is)
    (case hC_InvalidText => k_is)
    (case iC_InvalidText => k_is)
    (case sC_InvalidText => first | rfl | k_is)
    (case n_WakeError => k_is)
    (case kit_TW => first | rfl | k_is)
    (case kit_TI => first | rfl | k_is)
    (case ca_InvalidText => k_is)
    (case cm_InvalidText => k_is)
