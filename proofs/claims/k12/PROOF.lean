import PyProof.Rows.All
import Wide.All
import OpenK.AllK
import Wide.FinOn
import PyProof.EqAt
import PyProof.EqKinds
import PyProof.TupleCall
import HandS.ForMost
import HandS.ForExc
import HandS.Style
import HandS.IsInst
import HandS.TupAny
import HandS.TupMul
import HandS.Defaults
import HandS.Wide
import HandS.Set
import HandS.Strs
import HandS.SetFor
import HandS.RaiseMore
import HandS.FStr
import HandS.SlotsOwn
import HandS.NoneIn
import PyProof.Rows.Range3
import HandS.OwnEq
import HandS.More
import HandS.Star
import KE.KIsAll
import KE.KTryMore
import HandS.ExcIs
import HandS.CallLocal
import HandS.ClsMeth
import HandS.TryOnly
import KE.GoesEnumKw
import KE.GoesZip
import KE.KExcInit
import KE.KOpsOwn
import HandS.ExcOwn
import HandS.WrittenGet
import HandS.Small
import HandS.Dict
import HandS.DictSub
import PySem.Challenge.RW_wakesafe_k12_bits_and_signals_refused
set_option Elab.async false
set_option linter.all false
set_option maxRecDepth 100000
set_option maxHeartbeats 4000000
namespace L2.Wk
open PySem PySem.Spec PyProof.Rows
/-! ### heaps -/
theorem Same.upd_new {H : Hp} {p : Addr} {o : HO} (h : H p = none) : Same H (upd H p o) := fun b u e => by
  rw [upd_ne (ne_of_none e h)]; exact e
theorem Same.of_upd {H H' : Hp} {p : Addr} {o : HO} (h : Same (upd H p o) H') (hp : H p = none) : Same H H' := fun b u e => h b u (Same.upd_new hp b u e)
theorem Same.sqT {K : PySem.W.Frag} {H H' : Hp} {a : Addr} {xs : List V} (e : Same H H') (h : SqT K H a xs) : SqT K H' a xs := by
  rcases h with (h | ⟨o, h⟩) | h
  · exact .inl (.inl (e _ _ h))
  · exact .inl (.inr ⟨o, e _ _ h⟩)
  · exact .inr h
/-- a comprehension over the signs of a text -/
theorem lc_str {z : Str} {g : TG} {tt : TT} {te : TE} {vs : List Nat} {σ : St} {H1 : Hp} {D : Addr} {Qd : Hp → Prop} (Pv : Nat → Hp → Prop) (h0 : Pv 0 (upd H1 D (.lst [])))
    (hs : ∀ i c H, z.cps[i]? = some c → Pv i H → g (.str ⟨#[c]⟩) (wipe σ vs) H fun σ2 H2 => wipe σ2 vs = wipe σ vs ∧ tt σ2 H2 fun b H3 =>
      if b = true then te σ2 H3 fun y H4 => ∃ acc, H4 D = some (.lst acc) ∧ acc.length < sizeLine ∧ Pv (i + 1) (upd H4 D (.lst (acc ++ [y]))) else Pv (i + 1) H3) (hd : ∀ H, Pv z.cps.size H → Qd H) :
    ∃ W : Nat → Nat → Hp → Prop, (∃ m, W 0 m (upd H1 D (.lst []))) ∧ ∀ i m H, W i m H →
      ((Its z).stop i H ∧ Qd H) ∨ ((Its z).go i H ∧ ∃ Nx : Hp → Prop, (∀ H', Nx H' → ∃ m', m' < m ∧ W (i + 1) m' H') ∧ ∀ x H', (Its z).yld i H x H' → g x (wipe σ vs) H' fun σ2 H2 => wipe σ2 vs = wipe σ vs ∧ tt σ2 H2 fun b H3 =>
        if b = true then te σ2 H3 fun y H4 => ∃ acc, H4 D = some (.lst acc) ∧ acc.length < sizeLine ∧ Nx (upd H4 D (.lst (acc ++ [y]))) else Nx H3) := by
  refine ⟨fun i m H => m = z.cps.size - i ∧ i ≤ z.cps.size ∧ Pv i H, ⟨z.cps.size, by simp, Nat.zero_le _, h0⟩, ?_⟩
  rintro i m H ⟨rfl, hi, p⟩
  by_cases hlt : i < z.cps.size
  · refine .inr ⟨hlt, Pv (i + 1), fun H' p' => ⟨z.cps.size - (i + 1), by omega, rfl, hlt, p'⟩, fun x H' y => ?_⟩
    obtain ⟨e, c, hc, ex⟩ := y
    subst e
    subst ex
    exact hs i c _ hc p
  · have e : i = z.cps.size := by omega
    subst e
    exact .inl ⟨Nat.le_refl _, hd H p⟩
theorem take_succ_map {α β : Type} {l : List α} {i : Nat} {x : α} (f : α → β) (h : l[i]? = some x) : (l.take (i + 1)).map f = (l.take i).map f ++ [f x] := by
  rw [List.take_add_one, h]
  simp
theorem arr_list {c : Nat} {a : Array Nat} {i : Nat} (h : a[i]? = some c) : a.toList[i]? = some c := by simpa using h
/-! ### names of the module, by kind -/
section
variable {X : Cx} {x : Str} {pos : Pos}
theorem pe_gr {a : Addr} (hg : Gl X x) (hm : X.mg x = some (.ref a)) (hd : (x == ("__debug__" : Str)) = false := by decide) : PE X (.Name x pos) (tC (.ref a)) := pe_glob hg hm rfl hd
theorem pe_gs {z : Str} {t : Tok} (hg : Gl X x) (hm : X.mg x = some (.str z t)) (hd : (x == ("__debug__" : Str)) = false := by decide) : PE X (.Name x pos) (tC (.str z)) := pe_glob hg hm ⟨_, rfl⟩ hd
theorem pe_gi {z : Int} {t : Tok} (hg : Gl X x) (hm : X.mg x = some (.int z t)) (hd : (x == ("__debug__" : Str)) = false := by decide) : PE X (.Name x pos) (tC (.int z)) := pe_glob hg hm ⟨_, rfl⟩ hd
theorem pe_tyB {T : String} (hg : Gl X x) (hm : X.mg x = none) (hv : bootBuiltins x = some (.type T)) (hn : x ≠ "__name__" := by decide) (hd : (x == ("__debug__" : Str)) = false := by decide) : PE X (.Name x pos) (tC (.ty T)) := pe_bltn hg hm hv rfl hn hd
end
/-! ### within a comprehension: K named -/
section
variable {X : Cx} {K : PySem.W.Frag}
theorem ix_listK (h : X.K = K) : IxR X (rIxL K) := h ▸ ix_list
theorem op_in_seqK (h : X.K = K) : OpR X (compareOp .In) (rIn K false) := h ▸ op_in_seq
theorem op_notIn_seqK (h : X.K = K) : OpR X (compareOp .NotIn) (rIn K true) := h ▸ op_notIn_seq
theorem call_lenK (h : X.K = K) : CallR X (.builtin "len") (fun xs H Q => ∃ x n, xs = [x] ∧ LenV K x H n ∧ Q (.int n) H) := h ▸ call_len
theorem sl_listK (h : X.K = K) : SlR X (rSlL K) := h ▸ sl_list
end
/-! ### C(..) in a try: what is raised is wished for at the slots -/
section
variable {X : Cx} {CX : CXT} {k : Nat} {f C : Addr} {fd : FuncData} {ps : List Str} {sp : Sp} {dvs : List V} {ds : List Value} {E : St → XK} {x m : Str} {p pos apos : Pos} {e o : Expr} {es : List Expr} {ta : TE} {t : TA}
def tMakeS (C : Addr) (sp : Sp) (dvs : List V) (E : St → XK) (t : TA) : TE := fun σ H Q => t σ H fun vs H1 => ∀ x dx, H1 x = none → H1 dx = none → dx ≠ x →
  sp (.ref x :: (vs ++ dvs)) (upd (upd H1 dx (.own x)) x (.ins C dx [])) (fun v H2 => v = .non ∧ Q (.ref x) H2) (E σ)
theorem run_makeS {pins : List (Addr × Obj)} {σ : St} {H : Hp} {s : Shared} {Q : VK} {us : List Value} {vs : List V} (M : Mk X.K C f) (F : FnOk X.prog X.w X.K X.mg X.base CX k f fd ps sp) (hr : Room (k + 1) X.A) (hb : Binds X.K fd ps ds) (hd : Vals dvs ds)
    (hx : PassesAt CX X σ (E σ)) (I : Inv X pins σ H s) (r : Vals vs us)
    (h : ∀ x dx, H x = none → H dx = none → dx ≠ x → sp (.ref x :: (vs ++ dvs)) (upd (upd H dx (.own x)) x (.ins C dx [])) (fun v H2 => v = .non ∧ Q (.ref x) H2) (E σ)) :
    wpAny (model X.prog X.w) X.A (call (.ref C) us) (EP X pins σ Q) X.xe s := by
  have hq := h (s.heap.objs.size + 1) s.heap.objs.size (I.hok.fresh (Nat.le_succ _)) (I.hok.fresh (Nat.le_refl _)) (Nat.ne_of_lt (Nat.lt_succ_self _))
  have I2 := Inv.made (C := C) I
  have r2 : Vals (V.ref (s.heap.objs.size + 1) :: (vs ++ dvs)) (Value.ref (s.heap.objs.size + 1) :: (us ++ ds)) := .cons rfl (r.append hd)
  have hl : (Value.ref (s.heap.objs.size + 1) :: us ++ ds).length = ps.length := by
    have e := r2.length
    rw [F.len _ _ _ _ hq] at e
    exact e.symm
  refine wpAny_call (make_map (f := f) I.kIn M.makes M.init (beq_iff_eq.mp M.fn) (codeAny_mono (F.run _ X.stack _ _ ⟨Value.ref (s.heap.objs.size + 1) :: us, []⟩ (Value.ref (s.heap.objs.size + 1) :: (us ++ ds)) _ _ (E σ) (hr.make C us [])
    (I2.env0.make C us []) (hb _ (Value.ref (s.heap.objs.size + 1) :: us) I2.kIn hl) r2 hq) fun r s' hq' => ?_))
  cases r with
  | error e => exact hx pins _ _ e s' I2 hq'
  | ok fl =>
    cases fl with
    | ret u =>
      obtain ⟨v, H', I3, rv, ev, q3⟩ := I2.after hq'
      subst ev
      exact ⟨rv, ⟨V.ref (s.heap.objs.size + 1), H', I3, rfl, q3⟩⟩
    | next => exact False.elim hq'
    | brk => exact False.elim hq'
    | cont => exact False.elim hq'
theorem pe_makeS (M : Mk X.K C f) (F : FnOk X.prog X.w X.K X.mg X.base CX k f fd ps sp) (hr : Room (k + 1) X.A) (hg : Gl X x) (hm : X.mg x = some (.ref C)) (hb : Binds X.K fd ps ds) (hd : Vals dvs ds) (hx : ∀ σ, PassesAt CX X σ (E σ))
    (ha : PA X (e :: es) t) (hdb : (x == ("__debug__" : Str)) = false := by decide) (he : starEach (e :: es) X.env = (false, eval e X.env) :: starEach es X.env := by rfl) (hpl : (backTo pos (starEach es X.env)).any (·.1) = false := by rfl) :
    PE X (.Call (.Name x p) (e :: es) [] pos) (tMakeS C sp dvs E t) := by
  refine ⟨fun pins s σ H Q I h => ?_⟩
  refine wpAny_Call_Name_kw (ld_glob I hg hm ?_ hdb)
  refine PySem.W.callWith_K (h₀ := X.base) I.ok.mod.kin M.kp (thn (ha.run pos pins s σ H _ I h) fun us s1 ⟨vs, H1, I1, r, q⟩ => ⟨I1.kIn, ?_⟩) he hpl
  exact run_makeS M F hr hb hd (hx σ) I1 r q
end
/-! ### the draws: a list of what is left of the great cells, and a number that is stirred -/
structure DealAt (H : Hp) (d l : Addr) : Prop where
  ex : ∃ (cs : List Int) (b : Int), H d = some (.lst [.ref l, .int b]) ∧ H l = some (.lst (cs.map V.int)) ∧ (∀ c ∈ cs, 0 ≤ c) ∧ cs.length ≤ 63 ∧ 0 ≤ b ∧ b < 2147483647
/-- all but the deal stands as before -/
def Keep (d l : Addr) (H H' : Hp) : Prop := ∀ p o, H p = some o → p ≠ d → p ≠ l → H' p = some o
theorem Keep.refl (d l : Addr) (H : Hp) : Keep d l H H := fun _ _ e _ _ => e
theorem Keep.trans {d l : Addr} {H H1 H2 : Hp} (a : Keep d l H H1) (b : Keep d l H1 H2) : Keep d l H H2 := fun p o e h1 h2 => b p o (a p o e h1 h2) h1 h2
theorem Keep.same {d l : Addr} {H H' : Hp} (s : Same H H') : Keep d l H H' := fun p o e _ _ => s p o e
theorem DealAt.same {d l : Addr} {H H' : Hp} (D : DealAt H d l) (s : Same H H') : DealAt H' d l := by
  obtain ⟨cs, b, h1, h2, h3⟩ := D.ex
  exact ⟨⟨cs, b, s _ _ h1, s _ _ h2, h3⟩⟩
theorem DealAt.ne {d l : Addr} {H : Hp} (D : DealAt H d l) : d ≠ l := by
  obtain ⟨cs, b, h1, h2, _⟩ := D.ex
  refine ne_of h1 h2 fun e => ?_
  cases cs with
  | nil => cases e
  | cons c cs => cases e
theorem DealAt.nd {d l p : Addr} {H : Hp} (D : DealAt H d l) (h : H p = none) : p ≠ d := by
  obtain ⟨cs, b, h1, h2, _⟩ := D.ex
  exact (ne_of_none h1 h).symm
theorem DealAt.nl {d l p : Addr} {H : Hp} (D : DealAt H d l) (h : H p = none) : p ≠ l := by
  obtain ⟨cs, b, h1, h2, _⟩ := D.ex
  exact (ne_of_none h2 h).symm
/-- no tracked address is lost -/
theorem Keep.free {d l p : Addr} {H H' : Hp} (k : Keep d l H H') (D : DealAt H d l) (D' : DealAt H' d l) (h : H' p = none) : H p = none := by
  cases q : H p with
  | none => rfl
  | some o =>
    have e1 : p ≠ d := D'.nd h
    have e2 : p ≠ l := D'.nl h
    rw [k p o q e1 e2] at h
    cases h
end L2.Wk
namespace L2.Wk
open PySem PySem.Spec PyProof.Rows
/-! ### what a set of ints is -/
def keyS (e : Int × Value) : Str := match e.2 with | .str k _ => k | _ => Str.empty
def GoodS (w : World) (e : Int × Value) : Prop := ∃ k tk, e.2 = Value.str k tk ∧ e.1 = hashStr w k

/-- the set of ints at a: S its members, n their number; its table rises and can be walked -/
def SetS (w : World) (h : Heap) (a : Addr) (S : Str → Bool) (n : Nat) : Prop :=
  ∃ o es ep t, h.get? a = some o ∧ o.ExactSet ∧ o.data = .set es ep t ∧ (∀ e ∈ es.toList, GoodS w e) ∧ (es.toList.map keyS).Nodup ∧ (∀ k, S k = true ↔ k ∈ es.toList.map keyS) ∧
    es.size < scanBound ∧ t.fits es.size = true ∧ es.size = n ∧ Ris t.place.toList ∧ (w.params.followText "set-order" = true ∨ t.led = true)

section
variable {P : Program} {w : World} {h h' : Heap} {a : Addr} {S : Str → Bool} {n : Nat}

theorem SetS.at (R : SetS w h a S n) (k : ∀ o, h.get? a = some o → h'.get? a = some o) : SetS w h' a S n := by
  obtain ⟨o, es, ep, t, ho, r⟩ := R
  exact ⟨o, es, ep, t, k o ho, r⟩
theorem SetS.lt (R : SetS w h a S n) : a < h.objs.size := by
  obtain ⟨o, es, ep, t, ho, r⟩ := R
  exact Heap.lt_size ho
theorem SetS.congr {S' : Str → Bool} (R : SetS w h a S n) (e : ∀ k, S' k = S k) : SetS w h a S' n := by
  have q : S' = S := funext e
  rw [q]; exact R
theorem goodS_elems {l : List (Int × Value)} (g : ∀ e ∈ l, GoodS w e) : ElemsOf (PySem.strKind P w) l := fun e he => by
  obtain ⟨k, tk, h1, h2⟩ := g e he
  exact ⟨⟨k, by rw [h1]; exact PySem.strKind_is P w k tk, h2⟩, by rw [h1] <;> rfl⟩
theorem goodS_is {e : Int × Value} (g : GoodS w e) (k : Str) : (PySem.strKind P w).is k e.2 = true ↔ keyS e = k := by
  obtain ⟨k0, tk, h1, _⟩ := g
  unfold keyS
  rw [h1]
  show ((k0 == k) = true) ↔ k0 = k
  exact beq_iff_eq
theorem goodS_mem {l : List (Int × Value)} (g : ∀ e ∈ l, GoodS w e) (k : Str) : k ∈ l.map keyS ↔ ∃ e ∈ l, (PySem.strKind P w).is k e.2 = true := by
  rw [List.mem_map]
  constructor
  · rintro ⟨e, he, q⟩
    exact ⟨e, he, (goodS_is (g e he) k).2 q⟩
  · rintro ⟨e, he, q⟩
    exact ⟨e, he, (goodS_is (g e he) k).1 q⟩
theorem SetS.setOf (R : SetS w h a S n) : h.SetOf (PySem.strKind P w) a S n := by
  obtain ⟨o, es, ep, t, ho, hx, hd, g, nd, hm, hb, hf, hn, _⟩ := R
  exact ⟨o, es, ep, t, ho, hx, hd, goodS_elems g, fun k => (hm k).trans (goodS_mem g k), hb, hf, hn⟩
end

section
variable {P : Program} {w : World} {A : Around} {E : Value → Shared → Prop} {s : Shared} {a : Addr} {S : Str → Bool} {n : Nat}

/-! ### add -/
theorem setS_add_tail {g : Bool → Sem Unit} (hg : ∀ (b : Bool) (s₁ : Shared) (Q' : Unit → Shared → Prop), Q' () s₁ → wpAny (model P w) A (g b) Q' E s₁)
    {o : Obj} {es : Array (Int × Value)} {ep : Nat} {t : SetTable} (ho : s.heap.get? a = some o) (hex : o.ExactSet) (hd : o.data = .set es ep t)
    {es1 : Array (Int × Value)} {t2 : SetTable} {S' : Str → Bool} (g1 : ∀ e ∈ es1.toList, GoodS w e) (nd1 : (es1.toList.map keyS).Nodup) (m1 : ∀ k, S' k = true ↔ k ∈ es1.toList.map keyS)
    (hb1 : es1.size < scanBound) (hf2 : t2.fits es1.size = true) (hr : Ris t2.place.toList) (hl : w.params.followText "set-order" = true ∨ t2.led = true) {wasDummy : Bool} {R : Option Bool → Shared → Prop}
    (hR : ∀ h', Heap.SameBut a s.heap h' → SetS w h' a S' es1.size → R (some true) { s with heap := h' }) :
    wpAny (model P w) A (do
        storeSet a es1 t2
        if (!wasDummy && t2.tooFull) = true then do
            g (relayAll t2 es1 (SetTable.grown es1.size)).2.2
            storeSet a (relayAll t2 es1 (SetTable.grown es1.size)).1 (relayAll t2 es1 (SetTable.grown es1.size)).2.1
            pure (some true)
          else pure (some true)) R E s := by
  refine wpAny_bind (wpAny_storeSet_of ho hd ?_ (fits_of_scanBound hb1))
  have ho1 := store_at (es' := es1) (t' := t2) ho hd
  have sb1 := Heap.SameBut.update s.heap a (Obj.putSet es1 t2)
  split
  · have pm := relayAll_perm t2 es1 (SetTable.grown es1.size)
    have hf3 := relayAll_fits t2 es1 (SetTable.grown es1.size)
    have hr3 := relayAll_ris t2 es1 (SetTable.grown es1.size)
    have hl3 := relayAll_led t2 es1 (SetTable.grown es1.size)
    generalize relayAll t2 es1 (SetTable.grown es1.size) = Z at pm hf3 hr3 hl3 ⊢
    obtain ⟨es2, t3, gave⟩ := Z
    dsimp only at pm hf3 hr3 hl3 ⊢
    have hsz : es2.size = es1.size := by rw [← Array.length_toList, pm.length_eq, Array.length_toList]
    have hb2 : es2.size < scanBound := by rw [hsz]; exact hb1
    refine wpAny_bind (hg _ _ _ ?_)
    refine wpAny_bind (wpAny_storeSet_of ho1 rfl ?_ (fits_of_scanBound hb2))
    have ho2 := store_at (es' := es2) (t' := t3) ho1 rfl
    refine wpAny_pure (hR _ (sb1.trans (Heap.SameBut.update _ a _)) ?_)
    exact ⟨_, es2, _, t3, ho2, hex, rfl, fun e he => g1 e (pm.mem_iff.mp he), (pm.map keyS).nodup_iff.mpr nd1, fun k => (m1 k).trans (pm.map keyS).mem_iff.symm, hb2, hf3, hsz, hr3,
      hl.imp id fun z => by rw [hl3]; exact z⟩
  · exact wpAny_pure (hR _ sb1 ⟨_, es1, _, t2, ho1, hex, rfl, g1, nd1, m1, hb1, hf2, rfl, hr, hl⟩)

theorem setS_add_hashed {k : Str} {tk : Tok} {Q : Bool → Shared → Prop} (R : SetS w s.heap a S n) (room : n + 1 < scanBound)
    (hQ : ∀ h', Heap.SameBut a s.heap h' → SetS w h' a (fun j => S j || decide (j = k)) (if S k = true then n else n + 1) → Q (!S k) { s with heap := h' }) :
    wpAny (model P w) A (setAddHashed a (.str k tk) ((PySem.strKind P w).hash k)) Q E s := by
  obtain ⟨o, es, ep, t, ho, hex, hd, g, nd, hm, hb, hf, hn, hr, hl⟩ := R
  have hkey : (PySem.strKind P w).is k (.str k tk) = true := PySem.strKind_is P w k tk
  have hsc : (Value.str k tk).scannable = true := rfl
  have hel : ElemsOf (PySem.strKind P w) es.toList := goodS_elems g
  unfold setAddHashed setAddHashedIn
  refine wpAny_holding (wpAny_bind (wpAny_setState_of ho hd hf ?_))
  dsimp only
  rw [byScan_of hsc hb hel]
  simp only [↓reduceIte]
  unfold setAddByScan
  refine wpAny_bind ?_
  refine wpAny_bind (wpAny_rule ?_)
  refine wpAny_bind (wpAny_setScan_of hkey ho hd hf hel ?_)
  cases hfi : List.findIdx? (fun e => (PySem.strKind P w).is k e.2) es.toList with
  | some j =>
    dsimp only
    obtain ⟨hj, pj, _⟩ := List.findIdx?_eq_some_iff_getElem.mp hfi
    have hSk : S k = true := (hm k).2 ((goodS_mem (P := P) (w := w) g k).2 ⟨es.toList[j], List.getElem_mem hj, pj⟩)
    refine wpAny_pure (wpAny_pure ?_)
    have q := hQ s.heap (Heap.SameBut.refl a s.heap) ⟨o, es, ep, t, ho, hex, hd, g, nd, fun i => by
      rw [Bool.or_eq_true, decide_eq_true_eq, ← hm i]
      exact ⟨fun z => z.elim id (fun e => e ▸ hSk), .inl⟩, hb, hf, by rw [if_pos hSk]; exact hn, hr, hl⟩
    rw [hSk] at q
    exact q
  | none =>
    dsimp only
    have hnk : k ∉ es.toList.map keyS := fun z => by
      obtain ⟨e, he, q⟩ := (goodS_mem (P := P) (w := w) g k).1 z
      have c := List.findIdx?_eq_none_iff.mp hfi e he
      rw [q] at c
      cases c
    have hSk : S k = false := by
      cases q : S k with
      | false => rfl
      | true => exact absurd ((hm k).1 q) hnk
    have hgw : ∀ (b : Bool) {s₁ : Shared} {Q' : Unit → Shared → Prop}, Q' () s₁ → wpAny (model P w) A (match b with | true => rule "set.scan.the-table-gave-way" | false => pure ()) Q' E s₁ :=
      fun b s₁ Q' q => by cases b <;> first | exact wpAny_pure q | exact wpAny_rule q
    have pm := layNew_perm t es ((PySem.strKind P w).hash k) (.str k tk)
    have hf1 := layNew_fits t es ((PySem.strKind P w).hash k) (.str k tk)
    have hr1 := layNew_ris t es ((PySem.strKind P w).hash k) (.str k tk) hr
    have hl1 := layNew_led t es ((PySem.strKind P w).hash k) (.str k tk)
    generalize layNew t es ((PySem.strKind P w).hash k) (.str k tk) = Z at pm hf1 hr1 hl1 ⊢
    obtain ⟨es1, t1, wasDummy, gave⟩ := Z
    dsimp only at pm hf1 hr1 hl1 ⊢
    rw [Array.toList_push] at pm
    have pc : es1.toList.Perm (((PySem.strKind P w).hash k, Value.str k tk) :: es.toList) := pm.trans (List.perm_append_singleton _ _)
    have pk : (es1.toList.map keyS).Perm (k :: es.toList.map keyS) := pc.map keyS
    have g1 : ∀ e ∈ es1.toList, GoodS w e := fun e he => by
      rcases List.mem_cons.mp (pc.mem_iff.mp he) with z | z
      · rw [z]; exact ⟨k, tk, rfl, rfl⟩
      · exact g e z
    have nd1 : (es1.toList.map keyS).Nodup := pk.nodup_iff.mpr (List.nodup_cons.mpr ⟨hnk, nd⟩)
    have m1 : ∀ i, (S i || decide (i = k)) = true ↔ i ∈ es1.toList.map keyS := fun i => by
      rw [Bool.or_eq_true, decide_eq_true_eq, hm i, pk.mem_iff, List.mem_cons]
      exact Or.comm
    have hsz : es1.size = n + 1 := by rw [← Array.length_toList, pc.length_eq, List.length_cons, Array.length_toList, hn]
    have hb1 : es1.size < scanBound := by rw [hsz]; exact room
    have hled : w.params.followText "set-order" = true ∨ t1.led = true := hl.imp id fun z => by rw [hl1]; exact z
    have fin : ∀ h', Heap.SameBut a s.heap h' → SetS w h' a (fun j => S j || decide (j = k)) es1.size → Q true { s with heap := h' } := fun h' sb r => by
      have q := hQ h' sb
      rw [hSk] at q
      rw [hsz] at r
      exact q r
    refine wpAny_bind (hgw _ ?_)
    split
    · refine wpAny_bind ?_
      rw [hashByValue_scannable 8 hsc]
      refine wpAny_pure ?_
      refine setS_add_tail ?_ ho hex hd g1 nd1 m1 hb1 ?_ ?_ ?_ ?_
      · intro b s₁ Q' q; cases b <;> first | exact wpAny_pure q | exact wpAny_rule q
      · first | (split <;> first | exact hf1 | exact SetTable.fits_plain_off hf1) | exact hf1
      · first | (split <;> exact hr1) | exact hr1
      · first | (split <;> exact hled) | exact hled
      · intro h' sb r; dsimp only; exact wpAny_pure (fin h' sb r)
    · refine wpAny_bind (wpAny_pure ?_)
      simp only [↓reduceIte]
      refine setS_add_tail ?_ ho hex hd g1 nd1 m1 hb1 hf1 hr1 hled ?_
      · intro b s₁ Q' q; cases b <;> first | exact wpAny_pure q | exact wpAny_rule q
      · intro h' sb r; dsimp only; exact wpAny_pure (fin h' sb r)

end
/-! ### set(t) of a tuple of ints -/
theorem setS_new_at {w : World} {h : Heap} {a : Addr} {ns : List Str} (ho : h.get? a = some { cls := .type "set", dict := none, data := .set #[] 0 (.fresh 0 0 (!w.params.followText "set-order")) }) : SetS w h a (fun j => decide (j ∈ ns.take 0)) 0 :=
  ⟨_, #[], 0, _, ho, ⟨rfl, rfl, rfl⟩, rfl, (fun e he => by simp at he), (by simp), (fun k => by simp), (by decide), (by rfl), rfl, List.Pairwise.nil, by
    show _ ∨ (!w.params.followText "set-order") = true
    cases w.params.followText "set-order"
    · exact .inr rfl
    · exact .inl rfl⟩
section
variable {P : Program} {w : World} {A : Around} {E : Value → Shared → Prop} {s : Shared}
theorem set_update_strs {I : Addr} {fp wr : List Addr} {G : Array GenState → Array GenState → Prop} {n : Nat} {Pv : Nat → Value → Prop} {St : Nat → Shared → Prop} {R : Result → Shared → Prop}
    (W : WalksS P w A.in1 I fp wr G n Pv St) (S : Addr) (hSf : S ∉ fp) (ns : List Str) (hn : n = ns.length) (hb : ns.length + 1 < scanBound) (hval : ∀ i v, Pv i v → ∃ k t, ns[i]? = some k ∧ v = .str k t) :
    ∀ (k i : Nat) (s : Shared), n - i = k → i ≤ n → St i s → (∃ c, c ≤ i ∧ SetS w s.heap S (fun j => decide (j ∈ ns.take i)) c) →
      (∀ s' c, Moved (S :: wr) G s s' → c ≤ n → SetS w s'.heap S (fun j => decide (j ∈ ns)) c → R (.ok (.ret .none)) s') →
      codeAny (model P w) A (.builtin "set.update.loop" ⟨[.ref S, .ref I], []⟩) R s := by
  have hSw : S ∉ wr := fun h => hSf (W.sub _ h)
  have hsub : ∀ b ∈ wr, b ∈ S :: wr := fun b hb => List.mem_cons_of_mem _ hb
  intro k
  induction k with
  | zero =>
    intro i s hk' hi hst ⟨c, hc, hS⟩ hR
    have hin : i = n := by omega
    subst hin
    refine codeAny_builtin F.entry_set_update_loop ?_
    rw [Around.under_plainId F.plain_set_update_loop _]
    show wpAny _ A.in1 (pyNext (.ref I) >>= _) _ _ s
    refine wpAny_bind (W.done s _ _ hst fun s' hm => ?_)
    show wpAny _ A.in1 (ret Value.none) _ _ s'
    have e : ns.take i = ns := List.take_of_length_le (by omega)
    rw [e] at hS
    exact wpAny_pure (hR s' c (hm.mono hsub) hc (hS.at fun o e => hm.heap S o hSw e))
  | succ k ih =>
    intro i s hk' hi hst ⟨c, hc, hS⟩ hR
    have hlt : i < n := by omega
    refine codeAny_builtin F.entry_set_update_loop ?_
    rw [Around.under_plainId F.plain_set_update_loop _]
    show wpAny _ A.in1 (pyNext (.ref I) >>= _) _ _ s
    refine wpAny_bind (W.item i s _ _ hlt hst fun v s' hP hst' hm => ?_)
    obtain ⟨z, t, hz, rfl⟩ := hval i v hP
    have hS' : SetS w s'.heap S (fun j => decide (j ∈ ns.take i)) c := hS.at fun o e => hm.heap S o hSw e
    show wpAny _ A.in1 (holding [Value.str z t] (setAdd S (.str z t)) >>= _) _ _ s'
    refine wpAny_bind (wpAny_holding ?_)
    unfold setAdd
    refine wpAny_holding ?_
    refine wpAny_bind ((PySem.strKind P w).pyHash (k := z) (PySem.strKind_is _ _ _ _) ?_)
    refine setS_add_hashed (s := { s' with toks := s'.toks + 1 }) hS' (by omega) fun h' hsb hS2 => ?_
    have hS3 : SetS w h' S (fun j => decide (j ∈ ns.take (i + 1))) (if decide (z ∈ ns.take i) = true then c else c + 1) := hS2.congr fun j => by
      rw [List.take_add_one, hz]
      simp [List.mem_append]
    have hc3 : (if decide (z ∈ ns.take i) = true then c else c + 1) ≤ i + 1 := by
      split <;> omega
    refine wpAny_pure ⟨plainId_quiet F.plain_set_update_loop _, ih (i + 1) _ (by omega) hlt (W.frame _ s' _ _ hst' (Nat.le_succ _) fun b hb o e => ?_) ⟨_, hc3, hS3⟩ fun s'' c2 hm'' hc'' hS'' => ?_⟩
    · rw [hsb.2 b (fun h : b = S => hSf (by rw [← h]; exact hb))]; exact e
    · refine hR s'' c2 (Moved.trans W.gtrans ((hm.mono hsub).then_heap (Nat.le_succ _) fun b o hb e => ?_) hm'') hc'' hS''
      rw [hsb.2 b (fun h : b = S => hb (by rw [h]; exact List.mem_cons_self))]; exact e

set_option maxRecDepth 100000 in
set_option maxHeartbeats 3200000 in
theorem call_set_lstS {l : Addr} {items : Array Value} (ns : List Str) {Q : Value → Shared → Prop} (hh : A.handled = none) (hl : s.heap.IsList l items) (hit : StrsAre items.toList ns) (hb : ns.length + 1 < scanBound)
    (h : ∀ (h' : Heap) (tk c : Nat), SetS w h' s.heap.objs.size (fun j => decide (j ∈ ns)) c → c ≤ ns.length → (∀ b o, s.heap.get? b = some o → h'.get? b = some o) → Q (.ref s.heap.objs.size) { s with heap := h', toks := tk }) :
    wpAny (model P w) A (call (.type "set") [.ref l]) Q E s := by
  have hisz : items.size = ns.length := by
    have q := StrsAre.length hit
    rw [Array.length_toList] at q
    exact q
  obtain ⟨c, tl, hmro⟩ := F.called_set.mro
  have hmade := F.called_set.made
  have hsub := F.called_set.sub
  refine wpAny_call (codeAny_of_tree ?_)
  show wpAny _ _ (callAny (.type "set") _) _ _ _
  refine wpAny_pure ⟨Code.quiet_builtin _ (by decide +kernel), codeAny_builtin F.entry_type_call ?_⟩
  rw [Around.under_plain (weight_type_call_type "set" [.ref l] []) rfl]
  have h1 := F.called_set.notType
  have h2 := F.called_set.canCreate
  have hct := F.typeCall_set_1 (.ref l)
  repeat (any_goals (first | assumption | wp_step))

  refine codeAny_mono (code_set_led1 (.ref l) (E := E) (Q₁ := fun obj s₁ => obj = .ref s.heap.objs.size ∧ s₁ = { s with heap := s.heap.push { cls := .type "set", dict := none, data := .set #[] 0 (.fresh 0 0 (!w.params.followText "set-order")) } }) ⟨rfl, rfl⟩) fun r s₁ hr => ?_
  cases r with
  | error e => exact hr
  | ok fl =>
    cases fl with
    | ret obj =>
      obtain ⟨rfl, rfl⟩ := hr
      have hS : (s.heap.push { cls := .type "set", dict := none, data := .set #[] 0 (.fresh 0 0 (!w.params.followText "set-order")) }).get? s.heap.objs.size = some { cls := .type "set", dict := none, data := .set #[] 0 (.fresh 0 0 (!w.params.followText "set-order")) } := Heap.get?_push_size _ rfl
      have hT : Shared.TypeIs { s with heap := s.heap.push { cls := .type "set", dict := none, data := .set #[] 0 (.fresh 0 0 (!w.params.followText "set-order")) } } (.ref s.heap.objs.size) "set" := ⟨_, hS, rfl⟩
      have hli := F.called_set.init.lookup
      have hbi := F.called_set.init.bind (.ref s.heap.objs.size)
      repeat (any_goals (first | assumption | wp_step))

      refine codeAny_mono (codeAny_call_builtin (R := wants (fun r s₂ => r = .none ∧ ∃ h' tk c, s₂ = { s with heap := h', toks := tk } ∧ SetS w h' s.heap.objs.size (fun j => decide (j ∈ ns)) c ∧ c ≤ ns.length ∧
          (∀ b o, s.heap.get? b = some o → h'.get? b = some o)) E) F.called_set.init.plain F.entry_set_init (check_set_init_1 hT ?_)) fun r₂ s₂ hr₂ => ?_
      · obtain ⟨ol, hol, hcl, nl, hdl⟩ := hl
        obtain ⟨ocls, odict, odata, oslots⟩ := ol
        simp only at hcl hdl
        subst hcl; subst hdl
        have hol' : (s.heap.push { cls := .type "set", dict := none, data := .set #[] 0 (.fresh 0 0 (!w.params.followText "set-order")) }).get? l = some { cls := .type "list", dict := odict, data := .seq items nl, slots := oslots } := Heap.get?_push_of_some _ hol
        have hsls := F.sub_list_set
        have hslf := F.sub_list_frozenset
        have hne : (Value.type "list" == Value.type "dict") = false := by decide
        have hl1 : (s.heap.push { cls := .type "set", dict := none, data := .set #[] 0 (.fresh 0 0 (!w.params.followText "set-order")) }).IsList l items := ⟨_, hol', rfl, nl, rfl⟩
        unfold Builtin.«set.__init__» noKeywords Builtin.Frozenset.updateFrom
        generalize hPI : pyIter = PI
        wp_walk
        subst hPI

        refine wpAny_pyIter_list hl1 ?_
        refine wpAny_bind (wpAny_runValue ?_)
        have hlS : l < s.heap.objs.size := Heap.lt_size hol
        have hh3 : A.in1.in1.in1.handled = none := by simp [hh]
        have hz1 : (s.heap.push { cls := .type "set", dict := none, data := .set #[] 0 (.fresh 0 0 (!w.params.followText "set-order")) }).objs.size = s.heap.objs.size + 1 := Heap.size_push ..
        have hneI : l ≠ (s.heap.push { cls := .type "set", dict := none, data := .set #[] 0 (.fresh 0 0 (!w.params.followText "set-order")) }).objs.size := by
          rw [Heap.size_push]; exact Nat.ne_of_lt (Nat.lt_succ_of_lt hlS)
        have hSf : s.heap.objs.size ∉ [(s.heap.push { cls := .type "set", dict := none, data := .set #[] 0 (.fresh 0 0 (!w.params.followText "set-order")) }).objs.size, l] := by
          rw [Heap.size_push]; simp only [List.mem_cons, List.mem_singleton, List.not_mem_nil, or_false, not_or]
          exact ⟨Nat.ne_of_lt (Nat.lt_succ_self _), Nat.ne_of_gt hlS⟩
        have hval : ∀ (i : Nat) (v : Value), items[i]? = some v → ∃ k t, ns[i]? = some k ∧ v = .str k t := fun i v hv => by
          have hi : i < ns.length := by rw [← hisz]; exact (Array.getElem?_eq_some_iff.mp hv).1
          obtain ⟨t, e⟩ := SS.strs_at hit i v (by rw [Array.getElem?_toList]; exact hv)
          refine ⟨ns[i], t, List.getElem?_eq_getElem hi, ?_⟩
          rw [e, List.getD_eq_getElem?_getD, List.getElem?_eq_getElem hi] <;> rfl
        refine set_update_strs ((Walks.list hh3 _ l hneI items).toS) s.heap.objs.size
          hSf ns hisz hb hval (items.size - 0) 0 _ (by omega) (Nat.zero_le _)
          ⟨⟨_, Heap.get?_push_size _ rfl, rfl, rfl⟩, (hl1.push _)⟩ ?hS0 ?hR
        case hS0 =>
          have hget : ((s.heap.push { cls := .type "set", dict := none, data := .set #[] 0 (.fresh 0 0 (!w.params.followText "set-order")) }).push { cls := .type "list_iterator", data := .fields #[.ref l, .int 0 0] }).get? s.heap.objs.size
              = some { cls := .type "set", dict := none, data := .set #[] 0 (.fresh 0 0 (!w.params.followText "set-order")) } := Heap.get?_push_of_some _ hS
          exact ⟨0, Nat.le_refl 0, setS_new_at hget⟩
        case hR =>
          intro s' c' hm hc' hS'
          obtain ⟨h', g2, d', tk', os'⟩ := s'
          have eg : g2 = s.gens := hm.gens
          have ed : d' = s.drawn := hm.drawn
          have eo : os' = s.os := hm.os
          subst eg; subst ed; subst eo
          show wpAny _ _ _ _ _ _
          refine wpAny_pure ?_
          show wpAny _ _ (ret Value.none) _ _ _
          rw [hisz] at hc'
          refine wpAny_pure ⟨rfl, h', tk', c', rfl, hS', hc', fun b o e => ?_⟩
          have hb0 : b < s.heap.objs.size := Heap.lt_size e
          have hb1 : b ≠ s.heap.objs.size := Nat.ne_of_lt hb0
          have hb2 : b ≠ (s.heap.push { cls := .type "set", dict := none, data := .set #[] 0 (.fresh 0 0 (!w.params.followText "set-order")) }).objs.size := by
            rw [Heap.size_push]; exact Nat.ne_of_lt (Nat.lt_succ_of_lt hb0)
          exact hm.heap b o (by simp only [List.mem_cons, List.mem_singleton, List.not_mem_nil, or_false, not_or]; exact ⟨hb1, hb2⟩) (Heap.get?_push_of_some _ (Heap.get?_push_of_some _ e))

      · cases r₂ with
        | error e => exact hr₂
        | ok fl₂ =>
          cases fl₂ with
          | ret r =>
            obtain ⟨rfl, h', tk, c', rfl, hS', hc', hk'⟩ := hr₂
            repeat (any_goals (first | assumption | wp_step))
            exact h _ _ _ hS' hc' hk'
          | _ => exact hr₂.elim
    | _ => exact hr.elim

end

section
variable {P : Program} {w : World} {A : Around} {E : Value → Shared → Prop} {s : Shared} {a : Addr} {S : Str → Bool} {n : Nat}
theorem strs_of : ∀ (l : List Value), (∀ v ∈ l, ∃ k tk, v = Value.str k tk) → StrsAre l (l.map strOf) := fun l h => strsAre_map l h
/-- sorted(set of texts), fewer than 64: its members, each once, ascending -/
theorem sorted_setS {Q : Value → Shared → Prop} (R : SetS w s.heap a S n) (hh : A.handled = none) (h64 : n < 64)
    (hQ : ∀ s' p (out : Array Value) (c : Nat) (ys : List Str), (∀ b o, s.heap.get? b = some o → s'.heap.get? b = some o) → s'.gens = s.gens → s'.os = s.os → s.heap.objs.size ≤ p →
      s'.heap.get? p = some (seqObj "list" out c) → StrsAre out.toList ys → sortedS ys = true → ys.Nodup → (∀ k, k ∈ ys ↔ S k = true) → ys.length = n → Q (.ref p) s') :
    wpAny (model P w) A (call (.builtin "sorted") [.ref a]) Q E s := by
  obtain ⟨o, es, ep, t, ho, hex, hd, g, nd, hm, hb, hf, hn, hr, hl⟩ := R
  refine Calls.call_function_entry kind_sorted plain_sorted entry_sorted (args_sorted1 _) ?_
  unfold Builtin.«sorted»
  refine wpAny_bind (m := checkCount "sorted" 1 1 _) (wpAny_pure ?_)
  refine wpAny_bind (collect_set (A := A.in1) hh ⟨o, ho, hex.1, hd⟩ hf hb hr hl fun s1 vs k1 hz g1 o1 pm => ?_)
  have hvl : vs.length = n := by rw [pm.length_eq, List.length_map, Array.length_toList]; exact hn
  have hI : StrsAre vs (vs.map strOf) := strs_of vs fun v hv => by
    obtain ⟨e, he, q⟩ := List.mem_map.mp (pm.mem_iff.mp hv)
    obtain ⟨k, tk, h1, _⟩ := g e he
    exact ⟨k, tk, by rw [← q]; exact h1⟩
  have pk : (vs.map strOf).Perm (es.toList.map keyS) := by
    have q := pm.map strOf
    rw [List.map_map] at q
    refine q.trans (List.Perm.of_eq (List.map_congr_left fun e he => ?_))
    obtain ⟨k, tk, h1, _⟩ := g e he
    show strOf e.2 = keyS e
    unfold keyS
    rw [h1]
    rfl
  refine wpAny_bind (wpAny_newList ?_ (by rw [hvl, sizeLine_eq]; omega))
  have hoL : (s1.heap.push (seqObj "list" vs.toArray 0)).get? s1.heap.objs.size = some (seqObj "list" vs.toArray 0) := Heap.get?_push_size _ rfl
  refine wpAny_bind (wpAny_holding (wpAny_call_entry slot_list_sort ⟨_, hoL, rfl⟩ entry_list_sort (list_sort_treeK strKind_oneLt hoL hI.keysOf (fun v₁ v₂ rest e => keyKind_strs (by rw [← e]; exact hI)) (by rw [hvl]; exact h64) fun st' b1 b2 => ⟨_, rfl, ?_⟩) (args_list_sort _)))
  obtain ⟨ys, a1, a2, a3⟩ := sorted_out_str hI b1 b2
  obtain ⟨c, hc⟩ := sortedHeap_at (vs := vs) (out := (arrOf st').map (·.2)) hoL
  have pn : ys.Perm (es.toList.map keyS) := a2.trans pk
  refine wpAny_pure ⟨_, rfl, hQ _ s1.heap.objs.size _ c ys (fun b u e => ?_) g1 o1 hz hc a1 a3 (pn.nodup_iff.mpr nd) (fun k => by rw [pn.mem_iff, ← hm k]) ?_⟩
  · have q := k1 b u e
    have hlt := Heap.lt_size q
    show (sortedHeap (s1.heap.push (seqObj "list" vs.toArray 0)) s1.heap.objs.size vs ((arrOf st').map (·.2))).get? b = some u
    rw [sortedHeap_old (Nat.ne_of_lt hlt) (by rw [size_push']; exact Nat.lt_succ_of_lt hlt)]
    exact Heap.get?_push_of_some _ q
  · rw [pn.length_eq, List.length_map, Array.length_toList]; exact hn
end
/-! ### over the layer -/
def SetT (w : World) (a : Addr) (S : Str → Bool) (n : Nat) : HO := .ext fun h => SetS w h a S n
section
variable {X : Cx}
/-- set(a list of texts) -/
def rSetL (K : PySem.W.Frag) (w : World) : List V → Hp → VK → Prop := fun vs H Q => ∃ (l : Addr) (xs : List Str), vs = [V.ref l] ∧ SqL K H l (xs.map V.str) ∧ xs.length ≤ 63 ∧
  ∀ (p : Addr) (n : Nat), n ≤ xs.length → H p = none → Q (.ref p) (upd H p (SetT w p (fun k => decide (k ∈ xs)) n))
theorem cr_setL (hc : X.calm = true) : CallR X (.type "set") (rSetL X.K X.w) := by
  intro pins s σ H vs us Q I r h
  obtain ⟨l, xs, rfl, hs, h64, q⟩ := h
  obtain ⟨its, rv, hl, _⟩ := I.list hs
  rw [Vals.ref1 r]
  refine call_set_lstS xs (I.ok.hd hc) hl.isList (by simpa using strsAre_of rv) (by unfold scanBound; omega) fun h' tk c hS hn hk => ?_
  have ob : ObjOk X.prog X.w (upd H s.heap.objs.size (SetT X.w s.heap.objs.size (fun k => decide (k ∈ xs)) c)) h' s.heap.objs.size (SetT X.w s.heap.objs.size (fun k => decide (k ∈ xs)) c) := by
    obtain ⟨o, _, _, _, ho, _⟩ := id hS
    exact ⟨hS, ⟨o, ho⟩, fun h1 h2 p k => SetS.at p k⟩
  exact ⟨.ref _, _, I.laid (t' := tk) hk (Nat.le_refl _) ob, rfl, q _ c hn (I.hok.fresh (Nat.le_refl _))⟩
/-- sorted(a set of texts) -/
def rSortT (w : World) : List V → Hp → VK → Prop := fun vs H Q => ∃ (a : Addr) (S : Str → Bool) (n : Nat), vs = [V.ref a] ∧ H a = some (SetT w a S n) ∧ n < 64 ∧
  ∀ (ys : List Str) (p : Addr), sortedS ys = true → ys.Nodup → (∀ k, k ∈ ys ↔ S k = true) → ys.length = n → H p = none → Q (.ref p) (upd H p (.lst (ys.map V.str)))
theorem cr_sortT (hc : X.calm = true) : CallR X (.builtin "sorted") (rSortT X.w) := by
  intro pins s σ H vs us Q I r h
  obtain ⟨a, S, n, rfl, ha, h64, q⟩ := h
  have R : SetS X.w s.heap a S n := (I.hok a _ ha).1
  rw [Vals.ref1 r]
  refine sorted_setS R (I.ok.hd hc) h64 fun s' p out c ys k g o hp hg hi hs nd hm hl => ?_
  have hlen : (ys.map V.str).length ≤ sizeLine := by rw [List.length_map, hl, sizeLine_eq]; omega
  have hn : H p = none := I.hok.fresh hp
  have J : Inv X pins σ (upd H p (.lst (ys.map V.str))) { s with heap := s'.heap, gens := s'.gens, drawn := s'.drawn, toks := s'.toks } :=
    I.call (ch := []) (Un.laid k hp hn) (I.hok.laid k hp ⟨hlen, out.toList, c, vals_of_strs hi, hg⟩) (by rw [g]; exact I.bare) (fun _ z => nomatch z)
  have e : s' = { s with heap := s'.heap, gens := s'.gens, drawn := s'.drawn, toks := s'.toks } := by
    cases s'
    cases s
    cases o
    rfl
  rw [e]
  exact ⟨.ref p, _, J, rfl, q ys p hs nd hm hl hn⟩
end
end L2.Wk
namespace L2.Wk
open PySem PySem.Spec PyProof.Rows
section
variable {X : Cx} {K : PySem.W.Frag}
theorem ix_tupK (h : X.K = K) : IxR X (rIxT K) := h ▸ ix_tup
end
theorem ite_bool {b : Bool} {A B : Prop} (h1 : b = true → A) (h2 : b = false → B) : if b = true then A else B := by
  cases b with
  | true => exact iteT (h1 rfl)
  | false => exact iteF (h2 rfl)
theorem get_map_str {zs : List Str} {i : Nat} {x : V} (h : (zs.map V.str)[i]? = some x) : ∃ z, z ∈ zs ∧ zs[i]? = some z ∧ x = V.str z := by
  rw [List.getElem?_map] at h
  cases e : zs[i]? with
  | none => rw [e] at h; cases h
  | some z => rw [e] at h; exact ⟨z, List.mem_of_getElem? e, rfl, (Option.some.inj h).symm⟩
theorem get_map_ref {zs : List Addr} {i : Nat} {x : V} (h : (zs.map V.ref)[i]? = some x) : ∃ z, zs[i]? = some z ∧ x = V.ref z := by
  rw [List.getElem?_map] at h
  cases e : zs[i]? with
  | none => rw [e] at h; cases h
  | some z => rw [e] at h; exact ⟨z, rfl, (Option.some.inj h).symm⟩
/-- xs[i:j] within the list -/
theorem cut_mid (xs : List V) (i j : Nat) : cutV xs (some (i : Int)) (some (j : Int)) = (xs.drop (min i xs.length)).take (min j xs.length - min i xs.length) := by
  unfold cutV
  rw [HT.sIx_nat, HT.sIx_nat]
theorem cut_from (xs : List V) (i : Nat) : cutV xs (some (i : Int)) none = xs.drop i := by
  unfold cutV
  rw [HT.sIx_nat, HT.sIx_none]
  by_cases h : i ≤ xs.length
  · have e : min i xs.length = i := by omega
    rw [e, List.take_of_length_le (by rw [List.length_drop]; omega)]
  · have e : min i xs.length = xs.length := by omega
    rw [e, List.drop_of_length_le (by omega), List.drop_of_length_le (by omega)]
    simp
theorem cut_to (xs : List V) (j : Nat) : cutV xs none (some (j : Int)) = xs.take j := by
  unfold cutV
  rw [HT.sIx_nat, HT.sIx_none]
  simp [List.take_eq_take_iff]
theorem cut_mem {xs : List V} {lo hi : Option Int} {x : V} (h : x ∈ cutV xs lo hi) : x ∈ xs := List.mem_of_mem_drop (List.mem_of_mem_take h)
theorem app_len (a b : Str) : (a ++ b).length = a.length + b.length := by
  show (Str.append a b).cps.size = a.cps.size + b.cps.size
  exact Array.size_append
theorem snoc_ind {α : Type} {P : List α → Prop} (h0 : P []) (h1 : ∀ xs x, P xs → P (xs ++ [x])) : ∀ l, P l := fun l => by
  have : ∀ (n : Nat) (l : List α), l.length = n → P l := by
    intro n
    induction n with
    | zero => intro l hl; rw [List.eq_nil_of_length_eq_zero hl]; exact h0
    | succ n ih =>
      intro l hl
      have hne : l ≠ [] := by intro e; rw [e] at hl; cases hl
      have e := List.dropLast_concat_getLast hne
      rw [← e]
      exact h1 _ _ (ih _ (by rw [List.length_dropLast]; omega))
  exact this l.length l rfl
/-- a slice, of any items -/
def cutL {α : Type} (xs : List α) (lo hi : Option Int) : List α := (xs.drop (HT.sIx xs.length 0 lo)).take (HT.sIx xs.length xs.length hi - HT.sIx xs.length 0 lo)
theorem cut_map {α : Type} (f : α → V) (xs : List α) (lo hi : Option Int) : cutV (xs.map f) lo hi = (cutL xs lo hi).map f := by
  unfold cutV cutL
  rw [List.length_map, List.map_take, List.map_drop]
theorem cutL_mem {α : Type} {xs : List α} {lo hi : Option Int} {x : α} (h : x ∈ cutL xs lo hi) : x ∈ xs := List.mem_of_mem_drop (List.mem_of_mem_take h)
theorem cutL_len {α : Type} (xs : List α) (i j : Nat) : (cutL xs (some (i : Int)) (some (j : Int))).length = min j xs.length - min i xs.length := by
  unfold cutL
  rw [HT.sIx_nat, HT.sIx_nat, List.length_take, List.length_drop]
  omega
theorem cutL_len0 {α : Type} (xs : List α) (j : Nat) : (cutL xs none (some (j : Int))).length = min j xs.length := by
  unfold cutL
  rw [HT.sIx_nat, HT.sIx_none, List.length_take, List.length_drop]
  omega
/-- pairs of what stands and what it says -/
def AllAt {α : Type} (R : V → α → Prop) : List V → List α → Prop
  | [], [] => True
  | v :: vs, x :: xs => R v x ∧ AllAt R vs xs
  | [], _ :: _ => False
  | _ :: _, [] => False
theorem AllAt.len {α : Type} {R : V → α → Prop} : ∀ {vs : List V} {xs : List α}, AllAt R vs xs → vs.length = xs.length
  | [], [], _ => rfl
  | _ :: _, _ :: _, h => congrArg Nat.succ (AllAt.len h.2)
  | [], _ :: _, h => h.elim
  | _ :: _, [], h => h.elim
theorem AllAt.imp {α : Type} {R S : V → α → Prop} (f : ∀ v x, R v x → S v x) : ∀ {vs : List V} {xs : List α}, AllAt R vs xs → AllAt S vs xs
  | [], [], _ => True.intro
  | _ :: _, _ :: _, h => ⟨f _ _ h.1, AllAt.imp f h.2⟩
  | [], _ :: _, h => h.elim
  | _ :: _, [], h => h.elim
theorem AllAt.app {α : Type} {R : V → α → Prop} : ∀ {vs ws : List V} {xs ys : List α}, AllAt R vs xs → AllAt R ws ys → AllAt R (vs ++ ws) (xs ++ ys)
  | [], _, [], _, _, h => h
  | _ :: _, _, _ :: _, _, h, h' => ⟨h.1, AllAt.app h.2 h'⟩
  | [], _, _ :: _, _, h, _ => h.elim
  | _ :: _, _, [], _, h, _ => h.elim
theorem AllAt.get {α : Type} {R : V → α → Prop} : ∀ {vs : List V} {xs : List α} {i : Nat} {v : V}, AllAt R vs xs → vs[i]? = some v → ∃ x, xs[i]? = some x ∧ R v x
  | _ :: _, _ :: _, 0, _, h, e => by
    cases (Option.some.inj e)
    exact ⟨_, rfl, h.1⟩
  | _ :: _, _ :: _, i + 1, _, h, e => AllAt.get (i := i) h.2 e
  | [], _, _, _, _, e => by cases e
  | _ :: _, [], _, _, h, _ => h.elim
end L2.Wk
namespace L2.Wk
open PySem PySem.Spec PyProof.Rows
section
variable {prog : Program} {w : World} {A : Around} {E : Value → Shared → Prop} {s : Shared} {K : PySem.W.Frag} {x C f : Addr} {ox : Obj} {odd : Option Obj}
theorem str_from {Q : Value → Shared → Prop} (hu : A.units < cLine) (X : K.In s.heap) (I : PySem.W.InstAt s.heap x ox C odd) (hs : PySem.W.findIn K (.ref C) "__str__" = some (some (.ref f))) (hf : PySem.W.isFn K (.ref f) = true)
    (h : wpAny (model prog w) A (call (.ref f) [.ref x]) (fun r s₁ => ∃ z t, r = Value.str z t ∧ Q r s₁) E s) : wpAny (model prog w) A (Builtin.Str.strOf (.ref x)) Q E s := by
  unfold Builtin.Str.strOf
  refine PySem.W.KFB.if_not rfl ?_
  refine wpAny_bind (wpAny_cRoomFor hu ?_)
  refine wpAny_bind (m := callSpecial? (.ref x) (Str.ofString "__str__")) (PySem.W.special_fn X I hs (beq_iff_eq.mp hf) (wpAny_mono h (fun r s' hr => ?_) fun _ _ y => y))
  obtain ⟨z, t, rfl, hq⟩ := hr
  exact wpAny_pure hq
theorem str_own {Q : Value → Shared → Prop} (hu : A.in1.in1.units < cLine) (X : K.In s.heap) (I : PySem.W.InstAt s.heap x ox C odd) (hs : PySem.W.findIn K (.ref C) "__str__" = some (some (.ref f))) (hf : PySem.W.isFn K (.ref f) = true)
    (h : wpAny (model prog w) A.in1.in1 (call (.ref f) [.ref x]) (fun r s₁ => ∃ z t, r = Value.str z t ∧ Q r s₁) E s) : wpAny (model prog w) A (call (.type "str") [.ref x]) Q E s := by
  refine callType_newIn (S := fun A' R s' => wpAny (model prog w) A'.in1 (Builtin.Str.strOf (.ref x)) (fun r s'' => R (.ok (.ret r)) s'') (fun e s'' => R (.error e) s'') s') F.called_str (by decide) (F.typeCall_str_1 _) (F.newCall_str_1 _) (fun obj => F.args_object_init_2 obj _) F.entry_str_new (.of_wp fun A' R s' h' => ?_) ?_
  · rw [str_new_tree]
    refine wpAny_bind (wpAny_pure ?_)
    refine wpAny_bind (wpAny_of_eq isSubtype_str_str ?_)
    exact wpAny_bind (wpAny_mono h' (fun r s' h' => wpAny_pure ⟨_, rfl, h'⟩) fun _ _ e => e)
  · refine str_from hu X I hs hf (wpAny_mono h (fun r s₁ hr => ?_) fun _ _ y => y)
    obtain ⟨z, t, rfl, hq⟩ := hr
    exact ⟨z, t, rfl, typeIs_str _ _ _, hq⟩
end
section
variable {X : Cx} {CX : CXT} {pins : List (Addr × Obj)} {σ : L2.St} {H : Hp} {s : Shared} {C f : Addr} {fd : FuncData} {ps : List Str} {n : Nat} {sp : Sp} {E : XK}
/-- the callee runs below the running body -/
theorem run_ok {A : Around} {Q : VK} {us : List Value} {ws : List V} (F : FnOk X.prog X.w X.K X.mg X.base CX n f fd ps sp) (hb : Binds X.K fd ps []) (hr : Room n A) (e0 : Env0 X.prog X.w X.K X.mg X.base A X.stack s H) (hx : Passes CX X E) (I : Inv X pins σ H s) (r : Vals ws us) (h : sp ws H Q E) :
    codeAny (model X.prog X.w) A (.call (.ref f) ⟨us, []⟩) (fun r s' => match r with | .ok (.ret v) => EP X pins σ Q v s' | .ok _ => False | .error e => X.xe e s') s := by
  have hl := F.len _ _ _ _ h
  refine codeAny_mono (F.run A X.stack s H ⟨us, []⟩ us ws Q E hr e0 (by
    have := hb s us I.kIn (by rw [List.append_nil, ← r.length]; exact hl)
    simpa using this) r h) fun r s' hq => ?_
  cases r with
  | error e => exact hx pins σ H s e s' I hq
  | ok fl =>
    cases fl with
    | ret u => exact I.after hq
    | next => exact False.elim hq
    | brk => exact False.elim hq
    | cont => exact False.elim hq
/-- str(x) of an instance by its own __str__ -/
def rStrOwn (C : Addr) (sp : Sp) (E : XK) : List V → Hp → VK → Prop := fun xs H Q => ∃ a dx fs, xs = [V.ref a] ∧ H a = some (.ins C dx fs) ∧ sp [.ref a] H (fun z H' => ∃ y, z = .str y ∧ Q z H') E
theorem call_strOwn (hs : PySem.W.findIn X.K (.ref C) "__str__" = some (some (.ref f))) (hf : PySem.W.isFn X.K (.ref f) = true) (F : FnOk X.prog X.w X.K X.mg X.base CX n f fd ps sp) (hb : Binds X.K fd ps []) (hr : Room (n + 2) X.A) (hx : Passes CX X E) : CallR X (.type "str") (rStrOwn C sp E) := by
  intro pins s σ H xs us Q I r h
  obtain ⟨a, dx, fs, rfl, ha, q⟩ := h
  obtain ⟨u, rfl, ru⟩ := r.one
  cases (show u = Value.ref a from ru)
  obtain ⟨mA, J, _⟩ := ins_get I.hok ha
  obtain ⟨od, J, _⟩ := J.look
  have hr2 : Room n X.A.in1.in1 := (show Room (n + 1) X.A.in1 from Room.in1 hr).in1
  refine str_own hr2.units0 I.kIn J hs hf (wpAny_mono (wpAny_call (run_ok (us := [.ref a]) (ws := [.ref a]) F hb hr2 I.env0.in1.in1 hx I (.cons rfl .nil) q)) (fun w s' z => ?_) fun _ _ x => x)
  obtain ⟨z', H', I', rz, i, ei, qz⟩ := z
  subst ei
  obtain ⟨t, e⟩ := (show ∃ t, w = Value.str i t from rz)
  cases e
  exact ⟨i, t, rfl, .str i, H', I', ⟨t, rfl⟩, qz⟩
/-- what stands on the right of an own ==, and its type -/
inductive RgtOf (K : PySem.W.Frag) (H : Hp) (C : Addr) : V → Value → Prop where
  | str (z : Str) : RgtOf K H C (.str z) (.type "str")
  | non : RgtOf K H C .non (.type "NoneType")
  | int (i : Int) : RgtOf K H C (.int i) (.type "int")
  | ins {a D dx : Addr} {fs : List (Str × V)} (e : H a = some (.ins D dx fs)) : RgtOf K H C (.ref a) (.ref D)
  | lst {a : Addr} {xs : List V} (e : H a = some (.lst xs)) : RgtOf K H C (.ref a) (.type "list")
  | tup {a : Addr} {xs : List V} (e : H a = some (.tup xs)) : RgtOf K H C (.ref a) (.type "tuple")
  | bl (b : Bool) : RgtOf K H C (.bl b) (.type "bool")
  | fTup {a : Addr} {o : Obj} {xs : List V} (e : H a = some (.frz o (.tup xs))) : RgtOf K H C (.ref a) (.type "tuple")
  | kTup {a : Addr} {o : Obj} (e : K.lookup a = some o) (c : o.cls = .type "tuple") : RgtOf K H C (.ref a) (.type "tuple")
/-- x == y, x an instance of the class at C by its own == at f -/
def rEqOwn (K : PySem.W.Frag) (C : Addr) (sp : Sp) (E : XK) : R2 := fun x y H Q => ∃ a dx fs tb, x = .ref a ∧ H a = some (.ins C dx fs) ∧ RgtOf K H C y tb ∧ PySem.W.notFirst K C tb = true ∧ sp [.ref a, y] H Q E
theorem op_eqOwn (hs : PySem.W.findIn X.K (.ref C) "__eq__" = some (some (.ref f))) (hf : PySem.W.isFn X.K (.ref f) = true) (F : FnOk X.prog X.w X.K X.mg X.base CX n f fd ps sp) (hb : Binds X.K fd ps []) (hr : Room n X.A) (hx : Passes CX X E) :
    OpR X (compareOp .Eq) (rEqOwn X.K C sp E) := by
  intro pins s σ H x y v u Q I rx ry h
  obtain ⟨a, dx, fs, tb, rfl, ha, hy, hn, q⟩ := h
  cases (show v = Value.ref a from rx)
  obtain ⟨mA, J, _⟩ := ins_get I.hok ha
  obtain ⟨od, J, _⟩ := J.look
  obtain ⟨m, hF⟩ := I.fr
  have lk : PySem.W.Looks (model X.prog X.w) s.heap (typeOf u) tb := by
    cases hy with
    | str z => obtain ⟨t, e⟩ := (show ∃ t, u = Value.str z t from ry); cases e; exact PySem.W.Looks.of_pure rfl
    | non => cases (show u = Value.none from ry); exact PySem.W.Looks.of_pure rfl
    | int i => obtain ⟨t, e⟩ := (show ∃ t, u = Value.int i t from ry); cases e; exact PySem.W.Looks.of_pure rfl
    | bl b => cases (show u = Value.bool b from ry); exact PySem.W.Looks.of_pure rfl
    | @ins b D dy gs e =>
      cases (show u = Value.ref b from ry)
      obtain ⟨mB, J', _⟩ := ins_get I.hok e
      obtain ⟨od', J', _⟩ := J'.look
      exact J'.type
    | @lst b xs e =>
      cases (show u = Value.ref b from ry)
      obtain ⟨_, _, n, _, h1⟩ := (show ObjOk X.prog X.w H s.heap b (.lst xs) from I.hok b _ e)
      exact (PySem.W.Looks.ld h1).andThen .now
    | @tup b xs e =>
      cases (show u = Value.ref b from ry)
      obtain ⟨_, _, _, o, h1, h2, _⟩ := (show ObjOk X.prog X.w H s.heap b (.tup xs) from I.hok b _ e)
      exact h2 ▸ (PySem.W.Looks.ld h1).andThen .now
    | @kTup b o e c =>
      cases (show u = Value.ref b from ry)
      exact c ▸ (PySem.W.Looks.ld (I.kIn _ _ e)).andThen .now
    | @fTup b ob xs e =>
      cases (show u = Value.ref b from ry)
      obtain ⟨_, _, _, _, o, h1, h2, _⟩ := (show ObjOk X.prog X.w H s.heap b (.frz ob (.tup xs)) from I.hok b _ e)
      exact h2 ▸ (PySem.W.Looks.ld h1).andThen .now
  show wpAny (model X.prog X.w) X.A (richCompare .Eq (.ref a) u) (EP X pins σ Q) X.xe s
  refine PySem.W.cmp_K (op := .Eq) (tb := tb) hr.units0 hF I.ok.mod.kin J lk hn hs hf ?_
  refine wpAny_mono (wpAny_call (run_ok (us := [.ref a, u]) (ws := [.ref a, y]) F hb hr I.env0 hx I (.cons rfl (.cons ry .nil)) q)) (fun w s' z => ?_) fun _ _ x => x
  obtain ⟨z', H', I', rz, qz⟩ := z
  exact SlX.cmpback rz ⟨z', H', I', rz, qz⟩
/-- a walk over what is a list or a tuple -/
def iSeq (K : PySem.W.Frag) (tl : TE) : TI := fun σ H R => tl σ H fun x H1 => ∃ a, x = .ref a ∧ (((∃ xs, SqL K H1 a xs) ∧ R (Itl K a) H1) ∨ ((∃ xs, SqT K H1 a xs) ∧ R (Itt K a) H1))
theorem pi_seq {tg l : Expr} {tl : TE} (hl : PE X l tl) : PI X tg l (iSeq X.K tl) := by
  refine ⟨fun pins s σ H R I h => ?_⟩
  refine thn (hl.run pins s σ H _ I h) fun v s1 ⟨x, H1, I1, r1, q1⟩ => ?_
  obtain ⟨a, e, ⟨⟨xs, hq⟩, q⟩ | ⟨⟨xs, hq⟩, q⟩⟩ := q1
  · subst e
    cases r1
    obtain ⟨its, rv, p, hz⟩ := I1.list hq
    refine wpAny_pyIter_list p.isList ?_
    refine ⟨s1.heap.objs.size, [s1.heap.objs.size], _, _, H1, rfl, I1.kept (t' := s1.toks) fun b o e => Heap.get?_push_of_some _ e, turn_list a _, ⟨_, Heap.get?_push_size _ rfl, rfl, rfl⟩, fun b hb => ?_, q⟩
    have e : b = s1.heap.objs.size := by simpa using hb
    subst e
    exact I1.fpOk (Nat.le_refl _) (I1.hok.fresh (Nat.le_refl _))
  · subst e
    cases r1
    obtain ⟨its, rv, p, hz⟩ := I1.tuple hq
    refine wpAny_pyIter_tuple (show s1.heap.IsTuple a its.toArray from p) ?_
    refine ⟨s1.heap.objs.size, [s1.heap.objs.size], _, _, H1, rfl, I1.kept (t' := s1.toks) fun b o e => Heap.get?_push_of_some _ e, turn_tuple a _, ⟨_, Heap.get?_push_size _ rfl, rfl, rfl⟩, fun b hb => ?_, q⟩
    have e : b = s1.heap.objs.size := by simpa using hb
    subst e
    exact I1.fpOk (Nat.le_refl _) (I1.hok.fresh (Nat.le_refl _))
end
/-! ### a list or a tuple -/
section
variable {K : PySem.W.Frag} {H H' : Hp} {a : Addr} {xs : List V}
def Sq (K : PySem.W.Frag) (H : Hp) (a : Addr) (xs : List V) : Prop := SqL K H a xs ∨ SqT K H a xs
theorem Same.sqL (s : Same H H') (h : SqL K H a xs) : SqL K H' a xs := by
  rcases h with (h | ⟨o, h⟩) | h
  · exact .inl (.inl (s _ _ h))
  · exact .inl (.inr ⟨o, s _ _ h⟩)
  · exact .inr h
theorem Same.sq (s : Same H H') (h : Sq K H a xs) : Sq K H' a xs := h.elim (fun h => .inl (Same.sqL s h)) fun h => .inr (Same.sqT s h)
theorem tyx_L (h : SqL K H a xs) : TyX K H (.ref a) (.type "list") := by
  rcases h with (h | ⟨o, h⟩) | ⟨o, its, n, e, c, _⟩
  · exact .base (.lst h)
  · exact .base (.frz h)
  · exact .kList e c
theorem tyx_T (h : SqT K H a xs) : TyX K H (.ref a) (.type "tuple") := by
  rcases h with (h | ⟨o, h⟩) | ⟨o, its, n, e, c, _⟩
  · exact .base (.tup h)
  · exact .fTuple h
  · exact .kTuple e c
theorem rgt_T {C : Addr} (h : SqT K H a xs) : RgtOf K H C (.ref a) (.type "tuple") := by
  rcases h with (h | ⟨o, h⟩) | ⟨o, its, n, e, c, _⟩
  · exact .tup h
  · exact .fTup h
  · exact .kTup e c
/-- tuple(xs) -/
theorem tup_of {Q : VK} (h : Sq K H a xs) (k : ∀ t H1, SqT K H1 t xs → Same H H1 → Q (.ref t) H1) : (SqL K H a xs ∧ ∀ l, H l = none → Q (.ref l) (upd H l (.tup xs))) ∨ (SqT K H a xs ∧ Q (.ref a) H) :=
  h.elim (fun h => .inl ⟨h, fun l hl => k l _ (.inl (.inl upd_same)) (Same.upd_new hl)⟩) fun h => .inr ⟨h, k a H h (Same.refl _)⟩
def rTup (K : PySem.W.Frag) : List V → Hp → VK → Prop := fun xs H Q => ∃ p ys, xs = [.ref p] ∧ ((SqL K H p ys ∧ ∀ l, H l = none → Q (.ref l) (upd H l (.tup ys))) ∨ (SqT K H p ys ∧ Q (.ref p) H))
theorem call_tupS {X : Cx} : CallR X (.type "tuple") (rTup X.K) := call_tuple_of
theorem rTup_of {Q : VK} (h : Sq K H a xs) (k : ∀ t H1, SqT K H1 t xs → Same H H1 → Q (.ref t) H1) : rTup K [.ref a] H Q := ⟨a, xs, rfl, tup_of h k⟩
/-- a block over a list or a tuple that was there ahead -/
theorem seq_lc {g : TG} {tt : TT} {te : TE} {vs : List Nat} {σ : L2.St} {Qd : Addr → Hp → Prop} (h : Sq K H a xs) (hs : ∀ D, H D = none → ∃ Pv : Nat → Hp → Prop, Pv 0 (upd H D (.lst [])) ∧ (∀ i H', i ≤ xs.length → Pv i H' → ∀ o, H a = some o → H' a = some o) ∧
      (∀ i x H', xs[i]? = some x → Pv i H' → g x (wipe σ vs) H' fun σ2 H2 => wipe σ2 vs = wipe σ vs ∧ tt σ2 H2 fun b H3 =>
        if b = true then te σ2 H3 fun y H4 => ∃ acc, H4 D = some (.lst acc) ∧ acc.length < sizeLine ∧ Pv (i + 1) (upd H4 D (.lst (acc ++ [y]))) else Pv (i + 1) H3) ∧ ∀ H', Pv xs.length H' → Qd D H') :
    ((∃ xs, SqL K H a xs) ∧ ∀ D, H D = none → ∃ W : Nat → Nat → Hp → Prop, (∃ m, W 0 m (upd H D (.lst []))) ∧ ∀ i m H, W i m H →
      ((Itl K a).stop i H ∧ Qd D H) ∨ ((Itl K a).go i H ∧ ∃ Nx : Hp → Prop, (∀ H', Nx H' → ∃ m', m' < m ∧ W (i + 1) m' H') ∧ ∀ x H', (Itl K a).yld i H x H' → g x (wipe σ vs) H' fun σ2 H2 => wipe σ2 vs = wipe σ vs ∧ tt σ2 H2 fun b H3 =>
        if b = true then te σ2 H3 fun y H4 => ∃ acc, H4 D = some (.lst acc) ∧ acc.length < sizeLine ∧ Nx (upd H4 D (.lst (acc ++ [y]))) else Nx H3)) ∨
    ((∃ xs, SqT K H a xs) ∧ ∀ D, H D = none → ∃ W : Nat → Nat → Hp → Prop, (∃ m, W 0 m (upd H D (.lst []))) ∧ ∀ i m H, W i m H →
      ((Itt K a).stop i H ∧ Qd D H) ∨ ((Itt K a).go i H ∧ ∃ Nx : Hp → Prop, (∀ H', Nx H' → ∃ m', m' < m ∧ W (i + 1) m' H') ∧ ∀ x H', (Itt K a).yld i H x H' → g x (wipe σ vs) H' fun σ2 H2 => wipe σ2 vs = wipe σ vs ∧ tt σ2 H2 fun b H3 =>
        if b = true then te σ2 H3 fun y H4 => ∃ acc, H4 D = some (.lst acc) ∧ acc.length < sizeLine ∧ Nx (upd H4 D (.lst (acc ++ [y]))) else Nx H3)) := by
  rcases id h with hL | hT
  · refine .inl ⟨⟨_, hL⟩, fun D hD => ?_⟩
    obtain ⟨Pv, p0, pk, ps, pd⟩ := hs D hD
    refine lc_list (K := K) (a := a) (xs := xs) Pv p0 (fun i H' hi p => ?_) ps pd
    rcases hL with (h | ⟨o, h⟩) | h
    · exact .inl (.inl (pk i H' hi p _ h))
    · exact .inl (.inr ⟨o, pk i H' hi p _ h⟩)
    · exact .inr h
  · refine .inr ⟨⟨_, hT⟩, fun D hD => ?_⟩
    obtain ⟨Pv, p0, pk, ps, pd⟩ := hs D hD
    refine lc_tup (K := K) (a := a) (xs := xs) Pv p0 (fun i H' hi p => ?_) ps pd
    rcases hT with (h | ⟨o, h⟩) | h
    · exact .inl (.inl (pk i H' hi p _ h))
    · exact .inl (.inr ⟨o, pk i H' hi p _ h⟩)
    · exact .inr h
/-- a block that goes over texts in a list, each to a text -/
theorem lc_map {p D : Addr} {ys : List Str} {f : Str → Str} {i : Nat} {te : TE} {σ : L2.St} {Qd : Hp → Prop} (hp : H p = some (.lst (ys.map V.str))) (hn : ys.length ≤ 1000) (hD : H D = none)
    (hw : ∀ y : V, wipe ((wipe σ [i]).set i (some y)) [i] = wipe σ [i])
    (hte : ∀ y ∈ ys, ∀ (H' : Hp) (R : VK), R (.str (f y)) H' → te ((wipe σ [i]).set i (some (.str y))) H' R)
    (hd : ∀ H', Same H H' → H' D = some (.lst ((ys.map f).map V.str)) → Qd H') :
    ∃ W : Nat → Nat → Hp → Prop, (∃ m, W 0 m (upd H D (.lst []))) ∧ ∀ k m H, W k m H →
      ((Itl K p).stop k H ∧ Qd H) ∨ ((Itl K p).go k H ∧ ∃ Nx : Hp → Prop, (∀ H', Nx H' → ∃ m', m' < m ∧ W (k + 1) m' H') ∧ ∀ x H', (Itl K p).yld k H x H' → gName i x (wipe σ [i]) H' fun σ2 H2 => wipe σ2 [i] = wipe σ [i] ∧ tYes σ2 H2 fun b H3 =>
        if b = true then te σ2 H3 fun y H4 => ∃ acc, H4 D = some (.lst acc) ∧ acc.length < sizeLine ∧ Nx (upd H4 D (.lst (acc ++ [y]))) else Nx H3) := by
  refine lc_list (K := K) (a := p) (xs := ys.map V.str) (fun j H' => Same H H' ∧ H' D = some (.lst (((ys.take j).map f).map V.str))) ⟨Same.upd_new hD, upd_same⟩ (fun j H' _ h => .inl (.inl (h.1 _ _ hp))) ?_ ?_
  · rintro j x H' hx ⟨t1, t2⟩
    obtain ⟨y, hy, hyi, rfl⟩ := get_map_str hx
    have hj : j < ys.length := (List.getElem?_eq_some_iff.mp hyi).1
    refine ⟨hw _, ?_⟩
    refine hte y hy H' _ ⟨_, t2, ?_, fun b o e => ?_, ?_⟩
    · rw [List.length_map, List.length_map, List.length_take]
      exact small1000 (by omega)
    · rw [upd_ne (ne_of_none e hD)]
      exact t1 b o e
    · rw [take_succ_map _ hyi, List.map_append]
      exact upd_same
  · rintro H' ⟨t1, t2⟩
    rw [List.length_map, List.take_length] at t2
    exact hd H' t1 t2
end
section
variable {X : Cx} {K : PySem.W.Frag}
theorem call_isiN (h : X.K = K) : CallR X (.builtin "isinstance") (rIsi K) := h ▸ call_isi
theorem pe_fldK {e : Expr} {f : Str} {pos : Pos} {ta : TE} (h : X.K = K) (he : PE X e ta) (hb : attributeBase e f X.env (eval e X.env) = eval e X.env) : PE X (.Attribute e f pos) (tFld K ta f) := h ▸ pe_fld he hb
theorem sl_tupK (h : X.K = K) : SlR X (rSlT K) := h ▸ sl_tup
theorem op_catAK (h : X.K = K) : OpR X (binaryOp .Add) (rCatA K) := h ▸ op_catA
end
section
variable {K : PySem.W.Frag} {H : Hp} {a : Addr} {xs : List V}
/-- a loop over a list or a tuple that was there ahead -/
theorem seq_for {g : TG} {tb : TS} {D : Ends} {σ : L2.St} {H0 : Hp} (h : Sq K H0 a xs) (Pv : Nat → L2.St → Hp → Prop) (h0 : Pv 0 σ H) (hk : ∀ i σ' H', i ≤ xs.length → Pv i σ' H' → ∀ o, H0 a = some o → H' a = some o)
    (hs : ∀ i x σ H, xs[i]? = some x → Pv i σ H → g x σ H fun σ2 H2 => tb { D with nx := Pv (i + 1), ct := Pv (i + 1), bk := D.nx } σ2 H2) (hd : ∀ σ H, Pv xs.length σ H → D.nx σ H) :
    ((∃ xs, SqL K H a xs) ∧ ∃ W : Nat → Nat → L2.St → Hp → Prop, (∃ m, W 0 m σ H) ∧ ∀ i m σ H, W i m σ H →
      ((Itl K a).stop i H ∧ D.nx σ H) ∨ ((Itl K a).go i H ∧ ∃ N : L2.St → Hp → Prop, (∀ σ' H', N σ' H' → ∃ m', m' < m ∧ W (i + 1) m' σ' H') ∧ ∀ x H', (Itl K a).yld i H x H' → g x σ H' fun σ2 H2 => tb { D with nx := N, ct := N, bk := D.nx } σ2 H2)) ∨
    ((∃ xs, SqT K H a xs) ∧ ∃ W : Nat → Nat → L2.St → Hp → Prop, (∃ m, W 0 m σ H) ∧ ∀ i m σ H, W i m σ H →
      ((Itt K a).stop i H ∧ D.nx σ H) ∨ ((Itt K a).go i H ∧ ∃ N : L2.St → Hp → Prop, (∀ σ' H', N σ' H' → ∃ m', m' < m ∧ W (i + 1) m' σ' H') ∧ ∀ x H', (Itt K a).yld i H x H' → g x σ H' fun σ2 H2 => tb { D with nx := N, ct := N, bk := D.nx } σ2 H2)) := by
  rcases id h with hL | hT
  · have hL2 : ∀ i σ' H', i ≤ xs.length → Pv i σ' H' → SqL K H' a xs := fun i σ' H' hi p => by
      rcases hL with (h | ⟨o, h⟩) | h
      · exact .inl (.inl (hk i σ' H' hi p _ h))
      · exact .inl (.inr ⟨o, hk i σ' H' hi p _ h⟩)
      · exact .inr h
    exact .inl ⟨⟨_, hL2 0 σ H (Nat.zero_le _) h0⟩, for_list (K := K) (a := a) (xs := xs) Pv h0 hL2 hs hd⟩
  · have hT2 : ∀ i σ' H', i ≤ xs.length → Pv i σ' H' → SqT K H' a xs := fun i σ' H' hi p => by
      rcases hT with (h | ⟨o, h⟩) | h
      · exact .inl (.inl (hk i σ' H' hi p _ h))
      · exact .inl (.inr ⟨o, hk i σ' H' hi p _ h⟩)
      · exact .inr h
    exact .inr ⟨⟨_, hT2 0 σ H (Nat.zero_le _) h0⟩, for_tup (K := K) (a := a) (xs := xs) Pv h0 hT2 hs hd⟩
end
end L2.Wk
namespace WkGQ
open PySem PySem.SeqAt
open AutoSeq1 (wpAny_loadPart')
open MeetsSeq MeetsSeq2 MeetsSeq3 SeqRoads2
section
variable {prog : Program} {w : World} {A : Around} {R : Result → Shared → Prop}
/-- ==, != of two tuples, item by item, till two differ -/
theorem tuple_eqS (l b : Addr) (items items2 : Array Value) (n n2 : Nat) (dd dd2 : Option Addr) (sl sl2 : Array (Option Value)) (e : Nat → Bool) (I : Nat → Shared → Prop) (J : Shared → Prop)
    (turn : ∀ i (h1 : i < items.size) (h2 : i < items2.size) s, I i s → wpAny (model prog w) A.in1 (eqBool items[i] items2[i]) (fun r s' => r = e i ∧ (e i = true → I (i + 1) s') ∧ (e i = false → J s')) (fun e s' => R (.error e) s') s)
    (finF : ∀ s, J s → R (.ok (.ret (.bool false))) s) (finT : ∀ s, I (min items.size items2.size) s → R (.ok (.ret (.bool (items.size == items2.size)))) s)
    {s : Shared} (hl1 : s.heap.get? l = some { cls := .type "tuple", dict := dd, data := .seq items n, slots := sl }) (hb1 : s.heap.get? b = some { cls := .type "tuple", dict := dd2, data := .seq items2 n2, slots := sl2 }) (h : I 0 s) :
    wpAny (model prog w) A.in1 (Builtin.«tuple.__eq__» ⟨[.ref l, .ref b], []⟩) (GQ.FinOf prog w A R) (fun e s' => R (.error e) s') s := by
  have f2 := AutoSeq1.sub_tuple_tuple
  have hZ : (items.toList.zip items2.toList).length = min items.size items2.size := by simp
  have h0 := h
  obtain ⟨hp, g, d, tk, os⟩ := s
  wp_walk using wpAny_loadPart' hl1, wpAny_loadPart' hb1, wpAny_forIn_list _ (fun rest b s' => b.1 = none ∧ ∃ i, rest = (items.toList.zip items2.toList).drop i ∧ i ≤ min items.size items2.size ∧ I i s') _
  case turn =>
    rintro ⟨y, x⟩ rest b s' ⟨hb', i, hz, hi, hI⟩
    have hlt : i < (items.toList.zip items2.toList).length := by
      rcases Nat.lt_or_ge i (items.toList.zip items2.toList).length with h' | h'
      · exact h'
      · rw [List.drop_of_length_le h'] at hz; cases hz
    have hm : i < min items.size items2.size := hZ ▸ hlt
    have h1 : i < items.size := Nat.lt_of_lt_of_le hm (Nat.min_le_left _ _)
    have h2 : i < items2.size := Nat.lt_of_lt_of_le hm (Nat.min_le_right _ _)
    rw [List.drop_eq_getElem_cons hlt] at hz
    injection hz with hyx hrest
    have hy : y = items[i] := by have := congrArg Prod.fst hyx; simpa using this
    have hx : x = items2[i] := by have := congrArg Prod.snd hyx; simpa using this
    subst hy hx
    refine wpAny_bind (wpAny_mono (turn i h1 h2 s' hI) (fun r s2 q2 => ?_) fun _ _ x => x)
    obtain ⟨hr, q2, q3⟩ := q2
    cases hei : e i with
    | true =>
      rw [hei] at hr
      subst hr
      wp_walk
      exact ⟨rfl, i + 1, hrest, hm, q2 hei⟩
    | false =>
      rw [hei] at hr
      subst hr
      have hF := finF s2 (q3 hei)
      wp_walk
      first | exact hF | exact ⟨_, rfl, hF⟩
  case fin =>
    rintro ⟨b1, b2⟩ s' ⟨hb', i, hz, hi, hI⟩
    simp only at hb'
    subst hb'
    have hge : min items.size items2.size ≤ i := by
      rcases Nat.lt_or_ge i (items.toList.zip items2.toList).length with h' | h'
      · rw [List.drop_eq_getElem_cons h'] at hz; cases hz
      · exact hZ ▸ h'
    have hi' : i = min items.size items2.size := by omega
    have hR := finT s' (hi' ▸ hI)
    wp_walk
    simpa [Builtin.Tuple.tupleCompareSizes] using hR
  case h =>
    exact ⟨rfl, 0, rfl, Nat.zero_le _, h0⟩

theorem tuple_neS (l b : Addr) (items items2 : Array Value) (n n2 : Nat) (dd dd2 : Option Addr) (sl sl2 : Array (Option Value)) (e : Nat → Bool) (I : Nat → Shared → Prop) (J : Shared → Prop)
    (turn : ∀ i (h1 : i < items.size) (h2 : i < items2.size) s, I i s → wpAny (model prog w) A.in1 (eqBool items[i] items2[i]) (fun r s' => r = e i ∧ (e i = true → I (i + 1) s') ∧ (e i = false → J s')) (fun e s' => R (.error e) s') s)
    (finF : ∀ s, J s → R (.ok (.ret (.bool true))) s) (finT : ∀ s, I (min items.size items2.size) s → R (.ok (.ret (.bool (!(items.size == items2.size))))) s)
    {s : Shared} (hl1 : s.heap.get? l = some { cls := .type "tuple", dict := dd, data := .seq items n, slots := sl }) (hb1 : s.heap.get? b = some { cls := .type "tuple", dict := dd2, data := .seq items2 n2, slots := sl2 }) (h : I 0 s) :
    wpAny (model prog w) A.in1 (Builtin.«tuple.__ne__» ⟨[.ref l, .ref b], []⟩) (GQ.FinOf prog w A R) (fun e s' => R (.error e) s') s := by
  have f2 := AutoSeq1.sub_tuple_tuple
  have hZ : (items.toList.zip items2.toList).length = min items.size items2.size := by simp
  have h0 := h
  obtain ⟨hp, g, d, tk, os⟩ := s
  wp_walk using wpAny_loadPart' hl1, wpAny_loadPart' hb1, wpAny_forIn_list _ (fun rest b s' => b.1 = none ∧ ∃ i, rest = (items.toList.zip items2.toList).drop i ∧ i ≤ min items.size items2.size ∧ I i s') _
  case turn =>
    rintro ⟨y, x⟩ rest b s' ⟨hb', i, hz, hi, hI⟩
    have hlt : i < (items.toList.zip items2.toList).length := by
      rcases Nat.lt_or_ge i (items.toList.zip items2.toList).length with h' | h'
      · exact h'
      · rw [List.drop_of_length_le h'] at hz; cases hz
    have hm : i < min items.size items2.size := hZ ▸ hlt
    have h1 : i < items.size := Nat.lt_of_lt_of_le hm (Nat.min_le_left _ _)
    have h2 : i < items2.size := Nat.lt_of_lt_of_le hm (Nat.min_le_right _ _)
    rw [List.drop_eq_getElem_cons hlt] at hz
    injection hz with hyx hrest
    have hy : y = items[i] := by have := congrArg Prod.fst hyx; simpa using this
    have hx : x = items2[i] := by have := congrArg Prod.snd hyx; simpa using this
    subst hy hx
    refine wpAny_bind (wpAny_mono (turn i h1 h2 s' hI) (fun r s2 q2 => ?_) fun _ _ x => x)
    obtain ⟨hr, q2, q3⟩ := q2
    cases hei : e i with
    | true =>
      rw [hei] at hr
      subst hr
      wp_walk
      exact ⟨rfl, i + 1, hrest, hm, q2 hei⟩
    | false =>
      rw [hei] at hr
      subst hr
      have hF := finF s2 (q3 hei)
      wp_walk
      first | exact hF | exact ⟨_, rfl, hF⟩
  case fin =>
    rintro ⟨b1, b2⟩ s' ⟨hb', i, hz, hi, hI⟩
    simp only at hb'
    subst hb'
    have hge : min items.size items2.size ≤ i := by
      rcases Nat.lt_or_ge i (items.toList.zip items2.toList).length with h' | h'
      · rw [List.drop_eq_getElem_cons h'] at hz; cases hz
      · exact hZ ▸ h'
    have hi' : i = min items.size items2.size := by omega
    have hR := finT s' (hi' ▸ hI)
    wp_walk
    simpa [Builtin.Tuple.tupleCompareSizes, bne] using hR
  case h =>
    exact ⟨rfl, 0, rfl, Nat.zero_le _, h0⟩
theorem rc_tup_eqS {E : Value → Shared → Prop} {s : Shared} {l b : Addr} {items items2 : Array Value} {Q : Value → Shared → Prop} (e : Nat → Bool) (hu : A.units < cLine) (I : Nat → Shared → Prop) (J : Shared → Prop)
    (hl : s.heap.IsTuple l items) (hb : s.heap.IsTuple b items2)
    (turn : ∀ i (h1 : i < items.size) (h2 : i < items2.size) s, I i s → wpAny (model prog w) A.in1 (eqBool items[i] items2[i]) (fun r s' => r = e i ∧ (e i = true → I (i + 1) s') ∧ (e i = false → J s')) E s)
    (finF : ∀ s, J s → Q (.bool false) s) (finT : ∀ s, I (min items.size items2.size) s → Q (.bool (items.size == items2.size)) s) (h : I 0 s) : wpAny (model prog w) A (richCompare .Eq (.ref l) (.ref b)) Q E s := by
  obtain ⟨⟨cls, dd, data, sl⟩, ho, hc, n, hd⟩ := id hl
  obtain ⟨⟨cls2, dd2, data2, sl2⟩, ho2, hc2, n2, hd2⟩ := id hb
  simp only at hc hd hc2 hd2
  subst hc hd hc2 hd2
  refine wpAny_richCompare_same_room (op := .Eq) ⟨_, ho, rfl⟩ ⟨_, ho2, rfl⟩ F.slot_tuple_eq (GQ.call_here F.slot_tuple_eq ⟨_, ho, rfl⟩ F.entry_tuple_eq (F.args_tuple_eq_2 _ _) ?_) hu
  exact tuple_eqS (R := wants (fun v s' => v ≠ .notImplemented ∧ Q v s') E) l b items items2 n n2 dd dd2 sl sl2 e I J turn (fun s' q => ⟨(fun x => nomatch x), finF s' q⟩) (fun s' q => ⟨(fun x => nomatch x), finT s' q⟩) ho ho2 h
theorem rc_tup_neS {E : Value → Shared → Prop} {s : Shared} {l b : Addr} {items items2 : Array Value} {Q : Value → Shared → Prop} (e : Nat → Bool) (hu : A.units < cLine) (I : Nat → Shared → Prop) (J : Shared → Prop)
    (hl : s.heap.IsTuple l items) (hb : s.heap.IsTuple b items2)
    (turn : ∀ i (h1 : i < items.size) (h2 : i < items2.size) s, I i s → wpAny (model prog w) A.in1 (eqBool items[i] items2[i]) (fun r s' => r = e i ∧ (e i = true → I (i + 1) s') ∧ (e i = false → J s')) E s)
    (finF : ∀ s, J s → Q (.bool true) s) (finT : ∀ s, I (min items.size items2.size) s → Q (.bool (!(items.size == items2.size))) s) (h : I 0 s) : wpAny (model prog w) A (richCompare .NotEq (.ref l) (.ref b)) Q E s := by
  obtain ⟨⟨cls, dd, data, sl⟩, ho, hc, n, hd⟩ := id hl
  obtain ⟨⟨cls2, dd2, data2, sl2⟩, ho2, hc2, n2, hd2⟩ := id hb
  simp only at hc hd hc2 hd2
  subst hc hd hc2 hd2
  refine wpAny_richCompare_same_room (op := .NotEq) ⟨_, ho, rfl⟩ ⟨_, ho2, rfl⟩ F.slot_tuple_ne (GQ.call_here F.slot_tuple_ne ⟨_, ho, rfl⟩ F.entry_tuple_ne (F.args_tuple_ne_2 _ _) ?_) hu
  exact tuple_neS (R := wants (fun v s' => v ≠ .notImplemented ∧ Q v s') E) l b items items2 n n2 dd dd2 sl sl2 e I J turn (fun s' q => ⟨(fun x => nomatch x), finF s' q⟩) (fun s' q => ⟨(fun x => nomatch x), finT s' q⟩) ho ho2 h
/-- != by the class's own ==, at the library's level -/
theorem objNe_K {E : Value → Shared → Prop} {s : Shared} {K : PySem.W.Frag} {x C f : Addr} {ox : Obj} {od : Option Obj} {y : Value} (hu : A.units < cLine) (X : K.In s.heap) (I : PySem.W.InstAt s.heap x ox C od) (hs : PySem.W.findIn K (.ref C) "__eq__" = some (some (.ref f))) (hf : PySem.W.isFn K (.ref f) = true) {Q : Fin → Shared → Prop}
    (h : wpAny (model prog w) A (call (.ref f) [.ref x, y]) (fun v s' => ∃ b, v = .bool b ∧ Q (.done (.ret (.bool (!b)))) s') E s) : wpAny (model prog w) A (Builtin.«object.__ne__» ⟨[.ref x, y], []⟩) Q E s := by
  unfold Builtin.«object.__ne__»
  repeat (first
    | with_reducible refine wpAny_cRoomFor hu ?_
    | (refine wpAny_bind (m := callSpecialIfBound? (.ref x) (Str.ofString "__eq__") [y])
        (PySem.W.ifBound_K X I hs hf (wpAny_mono h (fun r s' hr => by
          obtain ⟨b, rfl, hq⟩ := hr
          repeat (first | exact hq | exact wpAny_pure hq | exact wpAny_truthy_bool hq | (refine wpAny_bind (m := truthy (.bool _)) (wpAny_truthy_bool ?_)) | wp_step)) fun _ _ e => e)))
    | wp_step)
theorem call_objNe {E : Value → Shared → Prop} {s : Shared} {K : PySem.W.Frag} {x C f : Addr} {ox : Obj} {od : Option Obj} {y : Value} (hu : A.in1.units < cLine) (X : K.In s.heap) (I : PySem.W.InstAt s.heap x ox C od) (hm : PySem.W.mroIn K C (.type "object") = some true) (hs : PySem.W.findIn K (.ref C) "__eq__" = some (some (.ref f))) (hf : PySem.W.isFn K (.ref f) = true) {Q : Value → Shared → Prop}
    (h : wpAny (model prog w) A.in1 (call (.ref f) [.ref x, y]) (fun v s' => ∃ b, v = .bool b ∧ Q (.bool (!b)) s') E s) : wpAny (model prog w) A (call (.builtin "object.__ne__") [.ref x, y]) Q E s :=
  wpAny_call (codeAny_call_builtin F.cmp_object.ne.plain F.cmpEntry_ne (PySem.W.check_slot F.cmpKind_ne F.cmpSplit_ne (I.type.andThen (PySem.W.looks_mroIn X hm)) (F.cmpArgs_ne _ _) (objNe_K hu X I hs hf h)))
theorem ifBound_objNe {M : Model} {E : Value → Shared → Prop} {s : Shared} {K : PySem.W.Frag} {x C : Addr} {ox : Obj} {od : Option Obj} {args : List Value} {Q : Option Value → Shared → Prop} (X : K.In s.heap) (I : PySem.W.InstAt s.heap x ox C od) (hs : PySem.W.findIn K (.ref C) "__ne__" = some (some (.builtin "object.__ne__")))
    (h : wpAny M A (call (.builtin "object.__ne__") (.ref x :: args)) (fun v => Q (some v)) E s) : wpAny M A (callSpecialIfBound? (.ref x) "__ne__" args) Q E s := by
  simp only [callSpecialIfBound?, bindSpecialIfBound?]
  refine wpAny_holding (wpAny_bind (wpAny_bind (wpAny_bind (I.type.here ((PySem.W.looks_findIn X hs).here ?_)))))
  refine wpAny_bind (wpAny_askSetting (wpAny_ite ?_))
  have fin : wpAny M A (call (.builtin "object.__ne__") ([.ref x] ++ args) >>= fun v => pure (some v)) Q E s := wpAny_bind (wpAny_mono h (fun v s' h' => wpAny_pure h') fun _ _ h' => h')
  split
  · exact wpAny_bind (wpAny_of_eq (F.cmp_object.ne.bind _) (wpAny_pure (by exact fin)))
  · exact wpAny_tryCatch (wpAny_bind (wpAny_of_eq (F.cmp_object.ne.bind _) (wpAny_pure (by exact fin))))
theorem ne_K {E : Value → Shared → Prop} {s : Shared} {K : PySem.W.Frag} {x C f : Addr} {ox od : Obj} {y tb : Value} {Q : Value → Shared → Prop} (hu : A.units < cLine) (hu1 : A.in1.units < cLine) (X : K.In s.heap) (I : PySem.W.InstAt s.heap x ox C od) (hb : PySem.W.Looks (model prog w) s.heap (typeOf y) tb) (hn : PySem.W.notFirst K C tb = true)
    (hm : PySem.W.mroIn K C (.type "object") = some true) (h1 : PySem.W.findIn K (.ref C) "__ne__" = some (some (.builtin "object.__ne__"))) (hs : PySem.W.findIn K (.ref C) "__eq__" = some (some (.ref f))) (hf : PySem.W.isFn K (.ref f) = true)
    (h : wpAny (model prog w) A.in1 (call (.ref f) [.ref x, y]) (fun v s' => ∃ b, v = .bool b ∧ Q (.bool (!b)) s') E s) : wpAny (model prog w) A (richCompare .NotEq (.ref x) y) Q E s := by
  have one : wpAny (model prog w) A (tryCompare (.ref x) (cmpInfo .NotEq).2.1 y) (fun r s' => ∃ v, r = some v ∧ Q v s') E s := by
    unfold tryCompare
    refine wpAny_bind (ifBound_objNe X I h1 (call_objNe hu1 X I hm hs hf (wpAny_mono h (fun v s' hv => ?_) fun _ _ e => e)))
    obtain ⟨b, rfl, hq⟩ := hv
    exact ⟨b, rfl, wpAny_pure ⟨_, rfl, hq⟩⟩
  unfold richCompare
  simp only [oneThing_ref]
  refine wpAny_holding (wpAny_bind (wpAny_cRoomFor hu ?_))
  refine wpAny_bind (I.type.here (wpAny_bind (hb.here ?_)))
  split
  · rename_i q
    have e : PySem.W.subIn K tb (.ref C) = some false := by
      rcases Bool.or_eq_true_iff.mp hn with e | e
      · rw [beq_iff_eq.mp e] at q; simp at q
      · exact beq_iff_eq.mp e
    refine wpAny_bind ((PySem.W.looks_subIn X e).here ?_)
    simp only [Bool.false_eq_true, if_false]
    refine wpAny_bind (wpAny_mono one (fun r s' z => ?_) fun _ _ e => e)
    obtain ⟨v, rfl, hq⟩ := z
    exact wpAny_pure hq
  · refine wpAny_bind (wpAny_pure ?_)
    simp only [Bool.false_eq_true, if_false]
    refine wpAny_bind (wpAny_mono one (fun r s' z => ?_) fun _ _ e => e)
    obtain ⟨v, rfl, hq⟩ := z
    exact wpAny_pure hq
end
end WkGQ
namespace L2.Wk
open PySem PySem.Spec PyProof.Rows
section
variable {X : Cx} {CX : CXT} {C f : Addr} {fd : FuncData} {ps : List Str} {n : Nat} {sp : Sp} {E : XK}
theorem looks_rgt {pins : List (Addr × Obj)} {σ : L2.St} {H : Hp} {s : Shared} {y : V} {u tb : Value} (I : Inv X pins σ H s) (ry : RelV y u) (hy : RgtOf X.K H C y tb) : PySem.W.Looks (model X.prog X.w) s.heap (typeOf u) tb := by
  cases hy with
  | str z => obtain ⟨t, e⟩ := (show ∃ t, u = Value.str z t from ry); cases e; exact PySem.W.Looks.of_pure rfl
  | non => cases (show u = Value.none from ry); exact PySem.W.Looks.of_pure rfl
  | int i => obtain ⟨t, e⟩ := (show ∃ t, u = Value.int i t from ry); cases e; exact PySem.W.Looks.of_pure rfl
  | bl b => cases (show u = Value.bool b from ry); exact PySem.W.Looks.of_pure rfl
  | @ins b D dy gs e =>
    cases (show u = Value.ref b from ry)
    obtain ⟨mB, J', _⟩ := ins_get I.hok e
    obtain ⟨od', J', _⟩ := J'.look
    exact J'.type
  | @lst b xs e =>
    cases (show u = Value.ref b from ry)
    obtain ⟨_, _, n, _, h1⟩ := (show ObjOk X.prog X.w H s.heap b (.lst xs) from I.hok b _ e)
    exact (PySem.W.Looks.ld h1).andThen .now
  | @tup b xs e =>
    cases (show u = Value.ref b from ry)
    obtain ⟨_, _, _, o, h1, h2, _⟩ := (show ObjOk X.prog X.w H s.heap b (.tup xs) from I.hok b _ e)
    exact h2 ▸ (PySem.W.Looks.ld h1).andThen .now
  | @kTup b o e c =>
    cases (show u = Value.ref b from ry)
    exact c ▸ (PySem.W.Looks.ld (I.kIn _ _ e)).andThen .now
  | @fTup b ob xs e =>
    cases (show u = Value.ref b from ry)
    obtain ⟨_, _, _, _, o, h1, h2, _⟩ := (show ObjOk X.prog X.w H s.heap b (.frz ob (.tup xs)) from I.hok b _ e)
    exact h2 ▸ (PySem.W.Looks.ld h1).andThen .now
/-- x != y, x an instance of the class at C by its own == at f -/
def rNeOwn (K : PySem.W.Frag) (C : Addr) (sp : Sp) (E : XK) : R2 := fun x y H Q => ∃ a dx fs tb, x = .ref a ∧ H a = some (.ins C dx fs) ∧ RgtOf K H C y tb ∧ PySem.W.notFirst K C tb = true ∧ sp [.ref a, y] H (fun z H' => ∃ b, z = .bl b ∧ Q (.bl (!b)) H') E
theorem op_neOwn (hm : PySem.W.mroIn X.K C (.type "object") = some true) (h1 : PySem.W.findIn X.K (.ref C) "__ne__" = some (some (.builtin "object.__ne__"))) (hs : PySem.W.findIn X.K (.ref C) "__eq__" = some (some (.ref f))) (hf : PySem.W.isFn X.K (.ref f) = true) (F : FnOk X.prog X.w X.K X.mg X.base CX n f fd ps sp) (hb : Binds X.K fd ps []) (hr : Room (n + 1) X.A) (hx : Passes CX X E) :
    OpR X (compareOp .NotEq) (rNeOwn X.K C sp E) := by
  intro pins s σ H x y v u Q I rx ry h
  obtain ⟨a, dx, fs, tb, rfl, ha, hy, hn, q⟩ := h
  cases (show v = Value.ref a from rx)
  obtain ⟨mA, J, _⟩ := ins_get I.hok ha
  obtain ⟨od, J, _⟩ := J.look
  show wpAny (model X.prog X.w) X.A (richCompare .NotEq (.ref a) u) (EP X pins σ Q) X.xe s
  refine WkGQ.ne_K hr.units0 hr.in1.units0 I.kIn J (looks_rgt I ry hy) hn hm h1 hs hf ?_
  refine wpAny_mono (wpAny_call (run_ok (us := [.ref a, u]) (ws := [.ref a, y]) F hb hr.in1 I.env0.in1 hx I (.cons rfl (.cons ry .nil)) q)) (fun w s' z => ?_) fun _ _ x => x
  obtain ⟨z', H', I', rz, b, eb, qz⟩ := z
  subst eb
  cases (show w = Value.bool b from rz)
  exact ⟨b, rfl, .bl (!b), H', I', rfl, qz⟩
/-! ### items that are compared, with either answer -/
abbrev EqD := V → V → Hp → Bool → Prop
def EqItem (X : Cx) (n : Nat) (D : EqD) : Prop := ∀ (A : Around) (pins : List (Addr × Obj)) (s : Shared) (σ : St) (H : Hp) (x y : V) (u v : Value) (b : Bool), Sub X n A → Inv X pins σ H s → RelV x u → RelV y v → D x y H b →
    wpAny (model X.prog X.w) A (eqBool u v) (fun r s' => r = b ∧ ∃ H', Inv X pins σ H' s' ∧ Same H H') X.xe s
def DOwn (C : Addr) (sp : Sp) (E : XK) : EqD := fun x y H b => ∃ p q dx fs dy gs, x = .ref p ∧ y = .ref q ∧ H p = some (.ins C dx fs) ∧ H q = some (.ins C dy gs) ∧ (p = q → b = true) ∧ sp [.ref p, .ref q] H (fun z H' => z = .bl b ∧ Same H H') E
theorem notFirst_self {K : PySem.W.Frag} : PySem.W.notFirst K C (.ref C) = true := by
  unfold PySem.W.notFirst
  rw [beq_self_eq_true]
  rfl
theorem eqItem_own (hs : PySem.W.findIn X.K (.ref C) "__eq__" = some (some (.ref f))) (hf : PySem.W.isFn X.K (.ref f) = true) (F : FnOk X.prog X.w X.K X.mg X.base CX n f fd ps sp) (hb : Binds X.K fd ps []) (hx : Passes CX X E) : EqItem X n (DOwn C sp E) := by
  intro A pins s σ H x y u v b sb I rx ry d
  obtain ⟨p, q, dx, fs, dy, gs, rfl, rfl, hp, hq, hpq, hsp⟩ := d
  cases (show u = Value.ref p from rx)
  cases (show v = Value.ref q from ry)
  by_cases e : p = q
  · subst e
    rw [hpq rfl]
    exact SeqAt.EqAt.same (A := A) (s := s) (.ref p) X.prog X.w X.xe _ ⟨rfl, H, I, Same.refl _⟩
  · obtain ⟨mA, J, _⟩ := ins_get I.hok hp
    obtain ⟨mB, J', _⟩ := ins_get I.hok hq
    obtain ⟨od, J, _⟩ := J.look
    obtain ⟨od', J', _⟩ := J'.look
    obtain ⟨m, hF⟩ := I.fr
    have e0 : Env0 X.prog X.w X.K X.mg X.base A X.stack s H := by
      have e := I.env0
      exact ⟨by rw [sb.fr]; exact e.frames, e.mod, e.bs, e.bsz, e.funs, e.frf, e.hok, e.bare⟩
    refine GQ.eqBool_refG e (PySem.W.cmp_K (op := .Eq) (tb := .ref C) sb.room.units0 hF I.ok.mod.kin J J'.type notFirst_self hs hf ?_)
    refine wpAny_mono (wpAny_call (run_ok (us := [.ref p, .ref q]) (ws := [.ref p, .ref q]) F hb sb.room e0 hx I (.cons rfl (.cons rfl .nil)) hsp)) (fun w s' z => ?_) fun _ _ x => x
    obtain ⟨z', H', I', rz, ez, sz⟩ := z
    subst ez
    cases (show w = Value.bool b from rz)
    exact ⟨b, rfl, rfl, H', I', sz⟩
/-- what the loop over the items keeps -/
def LoopS (X : Cx) (pins : List (Addr × Obj)) (σ : St) (H : Hp) (e : Nat → Bool) (i : Nat) (s' : Shared) : Prop := (∀ j, j < i → e j = true) ∧ ∃ H', Inv X pins σ H' s' ∧ Same H H'
def LoopJ (X : Cx) (pins : List (Addr × Obj)) (σ : St) (H : Hp) (e : Nat → Bool) (m : Nat) (s' : Shared) : Prop := (∃ j, j < m ∧ e j = false) ∧ ∃ H', Inv X pins σ H' s' ∧ Same H H'
def PrsD (D : EqD) (e : Nat → Bool) (xs ys : List V) (H : Hp) : Prop := ∀ (i : Nat) x y, xs[i]? = some x → ys[i]? = some y → ∀ H', Same H H' → D x y H' (e i)
theorem turnS {D : EqD} (h : EqItem X n D) {A : Around} (sb : Sub X (n + 1) A) {pins : List (Addr × Obj)} {σ : St} {H : Hp} {e : Nat → Bool} {xs ys : List V} {its its2 : List Value} (p : PrsD D e xs ys H) (r : Vals xs its) (r2 : Vals ys its2)
    (i : Nat) (h1 : i < its.toArray.size) (h2 : i < its2.toArray.size) (s' : Shared) (l : LoopS X pins σ H e i s') :
    wpAny (model X.prog X.w) A.in1 (eqBool its.toArray[i] its2.toArray[i]) (fun r s2 => r = e i ∧ (e i = true → LoopS X pins σ H e (i + 1) s2) ∧ (e i = false → LoopJ X pins σ H e (min its.toArray.size its2.toArray.size) s2)) X.xe s' := by
  obtain ⟨l0, H1, I1, e1⟩ := l
  have g1 : its[i]? = some its.toArray[i] := by
    have h1' : i < its.length := by simpa using h1
    rw [List.getElem?_eq_getElem h1'] <;> simp
  have g2 : its2[i]? = some its2.toArray[i] := by
    have h2' : i < its2.length := by simpa using h2
    rw [List.getElem?_eq_getElem h2'] <;> simp
  have k1 : i < xs.length := by rw [r.length]; simpa using h1
  have k2 : i < ys.length := by rw [r2.length]; simpa using h2
  obtain ⟨u, hu, ru⟩ := r.get (List.getElem?_eq_getElem k1)
  obtain ⟨v, hv, rv⟩ := r2.get (List.getElem?_eq_getElem k2)
  rw [g1] at hu
  rw [g2] at hv
  rw [Option.some.inj hu, Option.some.inj hv]
  refine wpAny_mono (h A.in1 pins s' σ H1 _ _ u v _ sb.in1 I1 ru rv (p i _ _ (List.getElem?_eq_getElem k1) (List.getElem?_eq_getElem k2) _ e1)) (fun r s2 q => ?_) fun _ _ x => x
  obtain ⟨hr, H2, I2, e2⟩ := q
  refine ⟨hr, fun et => ⟨fun j hj => ?_, H2, I2, e1.trans e2⟩, fun ef => ⟨⟨i, by omega, ef⟩, H2, I2, e1.trans e2⟩⟩
  by_cases hji : j < i
  · exact l0 j hji
  · have : j = i := by omega
    rw [this]
    exact et
def allE (e : Nat → Bool) (m : Nat) : Bool := (List.range m).all e
theorem allE_true {e : Nat → Bool} {m : Nat} (h : ∀ j, j < m → e j = true) : allE e m = true := by
  unfold allE
  rw [List.all_eq_true]
  exact fun j hj => h j (List.mem_range.mp hj)
theorem allE_false {e : Nat → Bool} {m : Nat} (h : ∃ j, j < m ∧ e j = false) : allE e m = false := by
  obtain ⟨j, hj, he⟩ := h
  unfold allE
  rw [List.all_eq_false]
  exact ⟨j, List.mem_range.mpr hj, by rw [he]; decide⟩
def rTupEq (K : PySem.W.Frag) (D : EqD) (neg : Bool) : R2 := fun x y H Q => ∃ a b xs ys e, x = .ref a ∧ y = .ref b ∧ SqT K H a xs ∧ SqT K H b ys ∧ PrsD D e xs ys H ∧ ∀ H', Same H H' → Q (.bl (neg != (allE e (min xs.length ys.length) && xs.length == ys.length))) H'
theorem op_tupEq {D : EqD} (h : EqItem X n D) (hr : Room (n + 1) X.A) : OpR X (compareOp .Eq) (rTupEq X.K D false) := by
  intro pins s σ H x y v u Q I rx ry hq
  obtain ⟨a, b, xs, ys, e, rfl, rfl, ha, hb, hp, q⟩ := hq
  cases (show v = Value.ref a from rx)
  cases (show u = Value.ref b from ry)
  obtain ⟨its, r, e1, z⟩ := I.tuple ha
  obtain ⟨its2, r2, e2, z2⟩ := I.tuple hb
  have l1 : its.toArray.size = xs.length := by rw [List.size_toArray, ← r.length]
  have l2 : its2.toArray.size = ys.length := by rw [List.size_toArray, ← r2.length]
  show wpAny (model X.prog X.w) X.A (richCompare .Eq (.ref a) (.ref b)) (EP X pins σ Q) X.xe s
  refine WkGQ.rc_tup_eqS e hr.units0 (fun i s' => LoopS X pins σ H e i s') (fun s' => LoopJ X pins σ H e (min its.toArray.size its2.toArray.size) s') e1 e2 (fun i h1 h2 s' l => turnS h ⟨hr, rfl⟩ hp r r2 i h1 h2 s' l) (fun s' j => ?_) (fun s' j => ?_) ⟨fun _ h => absurd h (Nat.not_lt_zero _), H, I, Same.refl _⟩
  · obtain ⟨j0, H', I', s1⟩ := j
    rw [l1, l2] at j0
    have := q H' s1
    rw [allE_false j0] at this
    exact ⟨.bl false, H', I', rfl, this⟩
  · obtain ⟨j0, H', I', s1⟩ := j
    rw [l1, l2] at j0
    have := q H' s1
    rw [allE_true j0] at this
    rw [l1, l2]
    refine ⟨.bl (xs.length == ys.length), H', I', rfl, ?_⟩
    simpa using this
theorem op_tupNe {D : EqD} (h : EqItem X n D) (hr : Room (n + 1) X.A) : OpR X (compareOp .NotEq) (rTupEq X.K D true) := by
  intro pins s σ H x y v u Q I rx ry hq
  obtain ⟨a, b, xs, ys, e, rfl, rfl, ha, hb, hp, q⟩ := hq
  cases (show v = Value.ref a from rx)
  cases (show u = Value.ref b from ry)
  obtain ⟨its, r, e1, z⟩ := I.tuple ha
  obtain ⟨its2, r2, e2, z2⟩ := I.tuple hb
  have l1 : its.toArray.size = xs.length := by rw [List.size_toArray, ← r.length]
  have l2 : its2.toArray.size = ys.length := by rw [List.size_toArray, ← r2.length]
  show wpAny (model X.prog X.w) X.A (richCompare .NotEq (.ref a) (.ref b)) (EP X pins σ Q) X.xe s
  refine WkGQ.rc_tup_neS e hr.units0 (fun i s' => LoopS X pins σ H e i s') (fun s' => LoopJ X pins σ H e (min its.toArray.size its2.toArray.size) s') e1 e2 (fun i h1 h2 s' l => turnS h ⟨hr, rfl⟩ hp r r2 i h1 h2 s' l) (fun s' j => ?_) (fun s' j => ?_) ⟨fun _ h => absurd h (Nat.not_lt_zero _), H, I, Same.refl _⟩
  · obtain ⟨j0, H', I', s1⟩ := j
    rw [l1, l2] at j0
    have := q H' s1
    rw [allE_false j0] at this
    exact ⟨.bl true, H', I', rfl, this⟩
  · obtain ⟨j0, H', I', s1⟩ := j
    rw [l1, l2] at j0
    have := q H' s1
    rw [allE_true j0] at this
    rw [l1, l2]
    refine ⟨.bl (!(xs.length == ys.length)), H', I', rfl, ?_⟩
    simpa using this
end
end L2.Wk
namespace L2.Wk
open PySem PySem.Spec PyProof.Rows
section
variable {X : Cx}
/-- set(a list of texts), of any length below 4000: how many there are -/
def rSetB (K : PySem.W.Frag) (w : World) : List V → Hp → VK → Prop := fun vs H Q => ∃ (l : Addr) (xs : List Str), vs = [V.ref l] ∧ SqL K H l (xs.map V.str) ∧ xs.length ≤ 4000 ∧
  ∀ (p : Addr) (ks : List Str), ks.Nodup → (∀ k, k ∈ ks ↔ k ∈ xs) → H p = none → Q (.ref p) (upd H p (SetT w p (fun k => decide (k ∈ xs)) ks.length))
theorem cr_setB (hc : X.calm = true) : CallR X (.type "set") (rSetB X.K X.w) := by
  intro pins s σ H vs us Q I r h
  obtain ⟨l, xs, rfl, hs, h64, q⟩ := h
  obtain ⟨its, rv, hl, _⟩ := I.list hs
  rw [Vals.ref1 r]
  refine call_set_lstS xs (I.ok.hd hc) hl.isList (by simpa using strsAre_of rv) (by unfold scanBound; omega) fun h' tk c hS hn hk => ?_
  have ob : ObjOk X.prog X.w (upd H s.heap.objs.size (SetT X.w s.heap.objs.size (fun k => decide (k ∈ xs)) c)) h' s.heap.objs.size (SetT X.w s.heap.objs.size (fun k => decide (k ∈ xs)) c) := by
    obtain ⟨o, _, _, _, ho, _⟩ := id hS
    exact ⟨hS, ⟨o, ho⟩, fun h1 h2 p k => SetS.at p k⟩
  obtain ⟨o, es, ep, t, _, _, _, _, nd, hm, _, _, hsz, _⟩ := id hS
  have e : c = (es.toList.map keyS).length := by rw [List.length_map, Array.length_toList, hsz]
  have q2 := q s.heap.objs.size (es.toList.map keyS) nd (fun k => by rw [← hm k, decide_eq_true_eq]) (I.hok.fresh (Nat.le_refl _))
  rw [← e] at q2
  exact ⟨.ref _, _, I.laid (t' := tk) hk (Nat.le_refl _) ob, rfl, q2⟩
end
theorem few_len : ∀ {ks ds : List Str}, ks.Nodup → (∀ k, k ∈ ks → k ∈ ds) → ks.length ≤ ds.length
  | [], _, _, _ => Nat.zero_le _
  | k :: ks, ds, nd, h => by
    obtain ⟨n1, n2⟩ := List.nodup_cons.mp nd
    have hk := h k (List.mem_cons_self ..)
    have ih := few_len (ks := ks) (ds := ds.filter fun x => !decide (x = k)) n2 fun x hx => by
      rw [List.mem_filter]
      refine ⟨h x (List.mem_cons_of_mem _ hx), ?_⟩
      have : x ≠ k := fun e => n1 (e ▸ hx)
      simp [this]
    have lt : (ds.filter fun x => !decide (x = k)).length < ds.length := by
      rcases Nat.lt_or_ge (ds.filter fun x => !decide (x = k)).length ds.length with h' | h'
      · exact h'
      · have e := List.length_filter_eq_length_iff.mp (Nat.le_antisymm (List.length_filter_le _ _) h')
        have := e k hk
        simp at this
    rw [List.length_cons]
    omega
/-- ascending, each once, the same as in xs -/
structure Asc (ys xs : List Str) : Prop where
  up : sortedS ys = true
  nd : ys.Nodup
  mem : ∀ k, k ∈ ys ↔ k ∈ xs
theorem not_lt_le {a b : Str} (h : ltCps b.cps.toList a.cps.toList = false) : a.cps.toList ≤ b.cps.toList := by
  rw [ltCps_eq] at h
  exact List.not_lt.mp (of_decide_eq_false h)
theorem rising_le : ∀ {p : Str} {l : List Str}, risingS p l = true → ∀ x ∈ l, p.cps.toList ≤ x.cps.toList
  | _, [], _, _, h => by cases h
  | p, y :: r, h, x, hx => by
    unfold risingS at h
    obtain ⟨h1, h2⟩ := Bool.and_eq_true_iff.mp h
    have l1 : p.cps.toList ≤ y.cps.toList := not_lt_le (by simpa using h1)
    rcases List.mem_cons.mp hx with rfl | hx
    · exact l1
    · exact List.le_trans l1 (rising_le h2 x hx)
theorem rising_sorted : ∀ {p : Str} {l : List Str}, risingS p l = true → sortedS l = true
  | _, [], _ => rfl
  | p, y :: r, h => by
    unfold risingS at h
    exact (Bool.and_eq_true_iff.mp h).2
theorem str_le_antisymm {a b : Str} (h1 : a.cps.toList ≤ b.cps.toList) (h2 : b.cps.toList ≤ a.cps.toList) : a = b := TL.ext_tl (List.le_antisymm h1 h2)
theorem asc_eq : ∀ {ys zs : List Str}, sortedS ys = true → ys.Nodup → sortedS zs = true → zs.Nodup → (∀ k, k ∈ ys ↔ k ∈ zs) → ys = zs
  | [], [], _, _, _, _, _ => rfl
  | [], z :: zs, _, _, _, _, h => by
    have := (h z).mpr (List.mem_cons_self ..)
    cases this
  | y :: ys, [], _, _, _, _, h => by
    have := (h y).mp (List.mem_cons_self ..)
    cases this
  | y :: ys, z :: zs, h1, n1, h2, n2, h => by
    have r1 : risingS y ys = true := h1
    have r2 : risingS z zs = true := h2
    have e : y = z := by
      rcases List.mem_cons.mp ((h y).mp (List.mem_cons_self ..)) with e | hy
      · exact e
      · rcases List.mem_cons.mp ((h z).mpr (List.mem_cons_self ..)) with e | hz
        · exact e.symm
        · exact str_le_antisymm (rising_le r1 z hz) (rising_le r2 y hy)
    subst e
    obtain ⟨a1, a2⟩ := List.nodup_cons.mp n1
    obtain ⟨b1, b2⟩ := List.nodup_cons.mp n2
    rw [asc_eq (rising_sorted r1) a2 (rising_sorted r2) b2 fun k => ⟨fun hk => ?_, fun hk => ?_⟩]
    · rcases List.mem_cons.mp ((h k).mp (List.mem_cons_of_mem _ hk)) with e | hk'
      · exact absurd (e ▸ hk) a1
      · exact hk'
    · rcases List.mem_cons.mp ((h k).mpr (List.mem_cons_of_mem _ hk)) with e | hk'
      · exact absurd (e ▸ hk) b1
      · exact hk'
theorem Asc.eq {ys zs xs : List Str} (a : Asc ys xs) (b : Asc zs xs) : ys = zs := asc_eq a.up a.nd b.up b.nd fun k => (a.mem k).trans (b.mem k).symm
end L2.Wk
namespace PySem.W
open PySem PySem.Spec PySem.Calls PyProof.Rows
section
variable {prog : Program} {w : World} {A : Around} {E : Value → Shared → Prop} {s : Shared} {K : Frag} {x D : Addr} {ox : Obj}
theorem wk_classE {Q : Option Value → Shared → Prop} (hga : findIn K (.ref D) "__getattribute__" = some (some (.builtin "BaseException.__getattribute__"))) (hgt : findIn K (.ref D) "__getattr__" = some none) (hsub : subIn K (.ref D) (.type "BaseException") = some true)
    (hdct : hasDictIn K D = true) (ha : findIn K (.ref D) "__class__" = some (some (.builtin "object.__class__")))
    (hn : specialIn K (.builtin "object.__class__") "__get__" = some (some (.builtin "getset_descriptor.__get__"))) (htk : takesIn K (.builtin "object.__class__") = some true) (hm : mroIn K D (.type "object") = some true)
    (X : K.In s.heap) {od0 : Obj} (I : InstAt s.heap x ox D (some od0)) (h : Q (some (.ref D)) { s with toks := s.toks + 1 }) : wpAny (model prog w) A (getAttr? (.ref x) "__class__") Q E s := by
  have hf : findObj K D (some od0) "__class__" = some (.bind (.builtin "getset_descriptor.__get__") (.builtin "object.__class__")) := findObj_data (by obtain ⟨cd, hc, _⟩ := any_some hdct; show (clsIn K D).isSome = true; rw [hc]; rfl) ha hn htk
  obtain ⟨hp, g, d, t, os⟩ := s
  have L0 := I.type (M := model prog w)
  have L1 := looks_findIn (M := model prog w) X hga
  have L2 := looks_findIn (M := model prog w) X hgt
  have L3 := looks_find (M := model prog w) X I hf
  have sub : Looks (model prog w) hp (isInstance (.ref x) (.type "BaseException")) true := L0.andThen (looks_subIn X hsub)
  have hx0 : (false && onTheHeap (Value.builtin "BaseException.__getattribute__")) = false := rfl
  have hx2 : (Value.builtin "BaseException.__getattribute__" == Value.builtin "object.__getattribute__") = false := by decide +kernel
  have hx1 : (onTheHeap (Value.ref D) && Value.builtin "BaseException.__getattribute__" == Value.builtin "object.__getattribute__") = false := by rw [hx2]; rfl
  unfold getAttr? getAttrBy? getAttrBy
  refine wpAny_bind (wpAny_mkText (wpAny_bind (wpAny_attempt (wpAny_holding (wpAny_bind (L0.at (wpAny_bind (L1.at ?_))))))))
  show wpAny _ _ (if (onTheHeap (Value.ref D) && Value.builtin "BaseException.__getattribute__" == Value.builtin "object.__getattribute__") = true then _ else _) _ _ _
  rw [hx1, if_neg Bool.false_ne_true]
  unfold getAttrByItsOwn hookBefore
  refine wpAny_bind ?_
  rw [if_pos (show onTheHeap (Value.ref D) = true from rfl)]
  refine L2.at ?_
  refine wpAny_bind (wpAny_attempt (wpAny_holding ?_))
  unfold callGetattribute
  rw [hx0, if_neg Bool.false_ne_true]
  unfold boundAndCalled
  rw [PySem.F.excAttr_ValueError.ga.bind (.ref x)]
  refine wpAny_bind (wpAny_pure ?_)
  show wpAny _ _ (call (.builtin "BaseException.__getattribute__") [.ref x, .str "__class__" t]) _ _ _
  refine wpAny_call (codeAny_call_builtin PySem.F.excAttr_ValueError.ga.plain PySem.F.entry_bexc_ga ?_)
  refine @check_slot (model prog w) _ _ ⟨hp, g, d, t + 1, os⟩ "BaseException.__getattribute__" "BaseException" "__getattribute__" (.ref x) [.str "__class__" t] [] _ (by decide +kernel) (by decide +kernel) sub (PySem.F.args_bexc_ga (.ref x) (.str "__class__" t)) ?_
  unfold Builtin.«object.__getattribute__»
  refine wpAny_bind (wpAny_of_eq (a := ((Value.ref x : Value), [Value.str "__class__" t])) (by first | rfl | (simp only [slotArgs]; rfl)) ?_)
  refine wpAny_bind (wpAny_pure (wpAny_bind (L0.at (wpAny_bind (L3.at ?_)))))
  show wpAny _ _ (holding [Value.builtin "object.__class__"] (call (.builtin "getset_descriptor.__get__") [.builtin "object.__class__", .ref x, .ref D]) >>= ret) _ _ _
  refine wpAny_bind (wpAny_holding (wpAny_call (class_get (s := ⟨hp, g, d, t + 1, os⟩) (ox := ox) (od := some od0) X I hm ?_)))
  refine wpAny_pure ?_
  show wpAny _ _ (handedOut (.ref D)) _ _ _
  rw [handedOut_of (v := .ref D) rfl]
  first
    | exact wpAny_pure (wpAny_pure h)
    | exact wpAny_pure h
    | exact wpAny_pure (wpAny_bind (wpAny_pure (wpAny_pure h)))
theorem wk_kitx_exc (hga : findIn K (.ref D) "__getattribute__" = some (some (.builtin "BaseException.__getattribute__"))) (hgt : findIn K (.ref D) "__getattr__" = some none) (hsub : subIn K (.ref D) (.type "BaseException") = some true) (hdct : hasDictIn K D = true) (ha : findIn K (.ref D) "__class__" = some (some (.builtin "object.__class__")))
    (hn : specialIn K (.builtin "object.__class__") "__get__" = some (some (.builtin "getset_descriptor.__get__"))) (htk : takesIn K (.builtin "object.__class__") = some true) (hm : mroIn K D (.type "object") = some true) :
    KitX K (.ref x) (.ref D) (fun h => ∃ od0, InstAt h x ox D (some od0)) where
  ty := fun _ _ _ ⟨_, I⟩ => I.type
  it := fun _ _ X _ => by
    obtain ⟨cdD, hcD, _⟩ := any_some hdct
    unfold clsIn at hcD
    split at hcD
    · rename_i c' d' cd' sl' ho
      intro A' Q' E' s' k q
      unfold isType loadHead
      exact wpAny_bind (wpAny_loadPart (k _ _ (X _ _ ho)) (wpAny_pure q))
    · cases hcD
  ne := fun h tp dd its n sl X htp => by
    obtain ⟨cdD, hcD, _⟩ := any_some hdct
    refine Bool.eq_false_iff.mpr fun q => ?_
    have e : D = tp := Value.ref.inj (beq_iff_eq.mp q)
    subst e
    unfold clsIn at hcD
    split at hcD
    · rename_i c' d' cd' sl' ho
      have z := (X _ _ ho).symm.trans htp
      cases z
    · cases hcD
  ca := fun X ⟨_, I⟩ k => wk_classE hga hgt hsub hdct ha hn htk hm X I k
end
end PySem.W
namespace L2.Wk
open PySem PySem.Spec PyProof.Rows
/-- isinstance(e, c), e the caught error of an own class with a dict of one entry -/
def rIsX (K : PySem.W.Frag) (D a : Addr) (d : Option Addr) : List V → Hp → VK → Prop := fun xs H Q => ∃ (c : V) (cv : Value) (b : Bool) (dd : Addr) (fs : List (Str × V)), xs = [.ref a, c] ∧ ClsV c cv ∧ d = some dd ∧ H dd = some (.xd fs) ∧ PySem.W.kitOne K (.ref D) cv = some b ∧ Q (.bl b) H
theorem call_isX {X : Cx} {a D : Addr} {oe : Obj} {d : Option Addr} {cls : Value} {pn : List (Addr × Obj)} (C : ExcC X.K D) (hz : Zc cls d oe) (hf : ∃ vs, oe.data = .fields vs) : CallR (X.suite a ((a, oe) :: pn)) (.builtin "isinstance") (fun xs H Q => cls = .ref D ∧ rIsX X.K D a d xs H Q) := by
  intro pins s σ H xs us Q I r h
  obtain ⟨ecl, c, cv, b, dd, fs, rfl, hcv, ed, ea, e, q⟩ := h
  subst ecl
  cases r with
  | cons rx rr =>
    cases rr with
    | cons rt rr =>
      cases rr
      cases rx
      have ec := hcv.eq rt
      subst ec
      subst ed
      obtain ⟨hget, _⟩ := I.pin (a, oe) (List.mem_append.mpr (.inl List.mem_cons_self))
      obtain ⟨vs, hv⟩ := hf
      have hx : ObjOk X.prog X.w H s.heap dd (.xd fs) := I.hok dd _ ea
      obtain ⟨mA, hns, hr⟩ := hx
      obtain ⟨od, ho, hl⟩ := lookIn_ns hns
      have J : PySem.W.InstAt s.heap a oe D (some od) := ⟨hget, hz.1, by unfold PySem.W.notCls; rw [hv] <;> rfl, by rw [hz.2]; exact ho⟩
      exact PySem.W.kia_one (PySem.W.wk_kitx_exc C.hg C.hk C.hs C.hd C.ha C.hn C.ht C.hm) I.kIn ⟨od, J⟩ e (fun z => nomatch z) fun tk => ⟨.bl b, H, I.kept (t' := tk) fun _ _ z => z, rfl, q⟩
/-- a promise by two -/
theorem fn_or {P : Program} {w : World} {K : PySem.W.Frag} {mg : Str → Option Value} {base : Heap} {CX : CXT} {k : Nat} {f : Addr} {fd : FuncData} {ps : List Str} {sp sp' : Sp} (F : FnOk P w K mg base CX k f fd ps sp) (G : FnOk P w K mg base CX k f fd ps sp') :
    FnOk P w K mg base CX k f fd ps (fun vs H Q E => sp vs H Q E ∨ sp' vs H Q E) :=
  ⟨fun vs H Q E h => h.elim (F.len vs H Q E) (G.len vs H Q E), fun A outer s H args us vs Q E hr he hb hv h => h.elim (F.run A outer s H args us vs Q E hr he hb hv) (G.run A outer s H args us vs Q E hr he hb hv)⟩
/-- a statement that is never come to -/
theorem ps_never {X : Cx} {s : Stmt} : PS X s (fun _ _ _ => False) := ⟨fun _ _ _ _ _ _ h => h.elim⟩
end L2.Wk
namespace L2.Wk
open PySem PySem.Spec PyProof.Rows
/-! ### enumerate(xs, start=c) -/
/-- the list at a, which holds xs throughout; each item in a new pair, counted from c -/
def Itk (K : PySem.W.Frag) (a : Addr) (c : Int) (xs : List V) : It :=
  ⟨fun i H => SqL K H a xs ∧ i < xs.length, fun i H v H' => ∃ T x, v = .ref T ∧ H T = none ∧ H' = upd H T (.tup [.int (c + (i : Nat)), x]) ∧ xs[i]? = some x, fun i H => SqL K H a xs ∧ i = xs.length⟩
theorem turn_enumC {P : Program} {w : World} {K : PySem.W.Frag} {elts : List Expr} {kk : Nat} {tpos : Pos} (a e it : Addr) (c : Int) (xs : List V) :
    Turn P w K (.Tuple elts kk tpos) (Itk K a c xs) [e, it] e (fun i h => (∃ old, IsEnum h e it (c + ((i : Nat) : Int)) old) ∧ h.IsListIter it a i ∧ e ≠ it ∧ a ≠ it ∧ a ≠ e) where
  mem := by simp
  obj := fun i h st b hb => by
    obtain ⟨⟨old, he⟩, ⟨o, ho, hc, hd⟩, _⟩ := st
    have e' : b = e ∨ b = it := by simpa using hb
    rcases e' with z | z
    · rw [z]; exact ⟨_, he, fun v q => nomatch q⟩
    · rw [z]; exact ⟨o, ho, fun v q => by rw [hd] at q; cases q⟩
  keep := fun i h h' st k => let ⟨⟨old, he⟩, hi, hne⟩ := st; ⟨⟨old, k e (by simp) _ he⟩, hi.at fun o q => k it (by simp) o q, hne⟩
  item := by
    intro X hP hw hK hc i pins s σ H E I hf st hg
    subst hP hw hK
    obtain ⟨⟨old, he⟩, hit, hne, hai, hae⟩ := st
    obtain ⟨hq, hi⟩ := hg
    obtain ⟨its, rv, p, hz⟩ := I.list hq
    have hl := rv.length
    have hel : e < s.heap.objs.size := Heap.lt_size he
    have hil : it < s.heap.objs.size := by obtain ⟨_, q, _⟩ := hit; exact Heap.lt_size q
    have hh : X.A.handled = none := I.ok.hd hc
    refine wpAny_pyNext_enum_itemC (Draws.list (A := X.A.in1) hh it a hai its.toArray) he ⟨hit, p.isList⟩ (by simp; omega) hne (by simp [hne, Ne.symm hae]) fun u h' tk hu ho hst hT hsz hk => ?_
    obtain ⟨x, hx, ru⟩ : ∃ x, xs[i]? = some x ∧ RelV x u := by
      obtain ⟨u', hu', ru⟩ := rv.get (i := i) (x := xs[i]) (List.getElem?_eq_getElem hi)
      have hu2 : its[i]? = some u := by simpa using hu
      rw [hu2] at hu'
      cases hu'
      exact ⟨_, List.getElem?_eq_getElem hi, ru⟩
    obtain ⟨hit', _⟩ := hst
    refine ⟨_, rfl, wpAny_letOwnedTupleGo_enum (s := { s with heap := h', toks := tk + 1 }) ho fun h'' he' sb => ?_⟩
    have hT2 : h''.get? s.heap.objs.size = some { cls := .type "tuple", data := .seq #[.int (c + (i : Int)) tk, u] } := (sb.2 _ (Nat.ne_of_gt hel)).trans hT
    have new : ObjOk X.prog X.w (upd H s.heap.objs.size (.tup [.int (c + (i : Nat)), x])) h'' s.heap.objs.size (.tup [.int (c + (i : Nat)), x]) :=
      ⟨by show 2 ≤ sizeLine; decide, [.int (c + (i : Int)) tk, u], .cons ⟨_, rfl⟩ (.cons ru .nil), ⟨_, hT2, rfl, _, rfl⟩⟩
    have I1 : Inv X pins σ (upd H s.heap.objs.size (.tup [.int (c + (i : Nat)), x])) { s with heap := h'', toks := tk + 1 } :=
      I.turnedNew (ch := [e, it]) (fun b ob hb q => (sb.2 b (fun z => hb (by simp [z]))).trans (hk b ob (fun z => hb (by simp [z])) (fun z => hb (by simp [z])) q)) hf (Nat.le_refl _) new
    refine ⟨.ref s.heap.objs.size, _, I1, rfl, ⟨_, x, rfl, I.hok.fresh (Nat.le_refl _), rfl, hx⟩, ⟨⟨u, ?_⟩, hit'.at fun o q => (sb.2 it (Ne.symm hne)).trans q, hne, hai, hae⟩, fun b hb => ?_⟩
    · have e1 : c + ((i + 1 : Nat) : Int) = c + (i : Int) + 1 := by omega
      rw [e1]; exact he'
    · have hb' : b < s.heap.objs.size := by
        have e' : b = e ∨ b = it := by simpa using hb
        rcases e' with z | z
        · rw [z]; exact hel
        · rw [z]; exact hil
      rw [upd_ne (Nat.ne_of_lt hb')]
      exact (hf b hb).1
  done := by
    intro X hP hw hK hc i pins s σ H E I hf st hg
    subst hP hw hK
    obtain ⟨⟨old, he⟩, hit, hne, hai, hae⟩ := st
    obtain ⟨hq, hx⟩ := hg
    obtain ⟨its, rv, p, hz⟩ := I.list hq
    obtain ⟨f0, f1, f2, f3, f4, f5⟩ := hf it (by simp)
    have hl := rv.length
    have hh : X.A.handled = none := I.ok.hd hc
    have hi : i = its.toArray.size := by simp; omega
    exact wpAny_pyNext_enum_endD (Draws.list (A := X.A.in1) hh it a hai its.toArray) he ⟨by rw [← hi]; exact hit, p.isList⟩ fun h' eb => ⟨rfl, I.turned (t' := s.toks) (fun b o hb q => eb b o hb q) f0 f1 f3 f4 f5⟩
  self := fun A i s Q E st h => let ⟨⟨_, he⟩, _⟩ := st; wpAny_pyIter_enum he h
theorem evalArgs_typeKw {M : Model} {A : Around} {E : Value → Shared → Prop} {s : Shared} {pos : Pos} {T : String} {args : List (Bool × Sem Value)} {keywords : List (Option Str × Sem Value)} {Q : Value → Shared → Prop}
    (hplain : args.any (·.1) = false) (hkw : keywords.any (·.1.isNone) = false)
    (h : wpAny M A (evalArgs (.type T) true args keywords) (fun a s₁ => wpAny M A (call (.type T) ([] ++ a.pos) a.kw) Q E s₁) E s) :
    wpAny M A (callWith pos (.type T) [] args keywords) Q E s := by
  unfold callWith
  refine wpAny_bind (wpAny_holding (wpAny_mono h (fun a s₁ h₁ => wpAny_bind (wpAny_standAt ?_)) fun _ _ x => x))
  simp only [hplain, hkw, Bool.or_false]
  refine wpAny_bind (wpAny_pure ?_)
  exact wpAny_bind (wpAny_mono h₁ (fun r s₂ hr => wpAny_bind (wpAny_holding (wpAny_point (wpAny_pure hr)))) fun _ _ x => x)
def iEnumK (K : PySem.W.Frag) (ta : TA) (te : TE) : TI := fun σ H R => ta σ H fun vs H1 => te σ H1 fun y H2 => ∃ a xs c, vs = [.ref a] ∧ y = .int c ∧ -(2 ^ 62) ≤ c ∧ c < 2 ^ 62 ∧ SqL K H2 a xs ∧ R (Itk K a c xs) H2
theorem pi_enumK {X : Cx} {e ek : Expr} {ta : TA} {te : TE} {p pos tpos kp : Pos} {elts : List Expr} {kk : Nat} (hg : Gl X "enumerate") (hm : X.mg "enumerate" = none) (ha : PA X [e] ta) (hk : PE X ek te) (hs : starEach [e] X.env = [(false, eval e X.env)] := by rfl) :
    PI X (.Tuple elts kk tpos) (.Call (.Name "enumerate" p) [e] [⟨some "start", ek, kp⟩] pos) (iEnumK X.K ta te) := by
  refine ⟨fun pins s σ H R I h => ?_⟩
  refine wpAny_Call_Name_kw (ld_blt I hg hm boot_enumerate (evalArgs_typeKw (by rw [hs]; rfl) (by rfl) ?_))
  have h0 := ha.run pos pins s σ H _ I h
  rw [hs] at h0 ⊢
  refine evalArgs_kwB (rest := []) (by rfl) (wpAny_mono h0 (fun us s1 hu => ?_) fun _ _ z => z)
  obtain ⟨vs, H1, I1, r1, q1⟩ := hu
  refine kws_cons (wpAny_mono (hk.run pins s1 σ H1 _ I1 q1) (fun u s2 hu2 => kws_nil ?_) fun _ _ z => z)
  obtain ⟨y, H2, I2, r2, a, xs, c, rfl, rfl, c0, c1, hq, q⟩ := hu2
  cases r1 with
  | cons r rr =>
    cases rr
    cases r
    obtain ⟨t, rfl⟩ := r2
    obtain ⟨its, rv, p', hz⟩ := I2.list hq
    have hal : a < s2.heap.objs.size := by obtain ⟨_, q, _⟩ := p'.isList; exact Heap.lt_size q
    refine enum_begins_start (begins_list a its.toArray) p'.isList (by omega) (by omega) fun h' he hit hsz hk => wpAny_pyIter_enum he ?_
    have I3 : Inv X pins σ H2 { s2 with heap := h' } := I2.kept (t' := s2.toks) hk
    refine ⟨s2.heap.objs.size + 1, [s2.heap.objs.size + 1, s2.heap.objs.size], _, _, H2, rfl, I3, turn_enumC a (s2.heap.objs.size + 1) s2.heap.objs.size c xs, ⟨⟨.none, by simpa using he⟩, ⟨_, hit, rfl, rfl⟩, Nat.succ_ne_self _, Nat.ne_of_lt hal, Nat.ne_of_lt (Nat.lt_succ_of_lt hal)⟩, fun b hb => ?_, q⟩
    have e' : b = s2.heap.objs.size + 1 ∨ b = s2.heap.objs.size := by simpa using hb
    have hle : s2.heap.objs.size ≤ b := by
      rcases e' with z | z
      · rw [z]; exact Nat.le_add_right _ _
      · rw [z]; exact Nat.le_refl _
    exact I2.fpOk hle (I2.hok.fresh hle)
theorem for_enumK {K : PySem.W.Frag} {a : Addr} {c : Int} {xs : List V} {g : TG} {tb : TS} {D : Ends} {σ : L2.St} {H : Hp} (Pv : Nat → L2.St → Hp → Prop) (h0 : Pv 0 σ H) (hl : ∀ i σ H, i ≤ xs.length → Pv i σ H → SqL K H a xs)
    (hs : ∀ i x σ H T, xs[i]? = some x → Pv i σ H → H T = none → g (.ref T) σ (upd H T (.tup [.int (c + (i : Nat)), x])) fun σ2 H2 => tb { D with nx := Pv (i + 1), ct := Pv (i + 1), bk := D.nx } σ2 H2) (hd : ∀ σ H, Pv xs.length σ H → D.nx σ H) :
    ∃ W : Nat → Nat → L2.St → Hp → Prop, (∃ m, W 0 m σ H) ∧ ∀ i m σ H, W i m σ H →
      ((Itk K a c xs).stop i H ∧ D.nx σ H) ∨ ((Itk K a c xs).go i H ∧ ∃ N : L2.St → Hp → Prop, (∀ σ' H', N σ' H' → ∃ m', m' < m ∧ W (i + 1) m' σ' H') ∧ ∀ x H', (Itk K a c xs).yld i H x H' → g x σ H' fun σ2 H2 => tb { D with nx := N, ct := N, bk := D.nx } σ2 H2) := by
  refine ⟨fun i m σ H => m = xs.length - i ∧ i ≤ xs.length ∧ Pv i σ H, ⟨xs.length, by simp, Nat.zero_le _, h0⟩, ?_⟩
  rintro i m σ H ⟨rfl, hi, p⟩
  by_cases hlt : i < xs.length
  · refine .inr ⟨⟨hl i σ H hi p, hlt⟩, Pv (i + 1), fun σ' H' p' => ⟨xs.length - (i + 1), by omega, rfl, hlt, p'⟩, fun x H' y => ?_⟩
    obtain ⟨T, x, rfl, hT, rfl, hx⟩ := y
    exact hs i x σ H T hx p hT
  · have e : i = xs.length := by omega
    exact .inl ⟨⟨hl i σ H hi p, e⟩, hd _ _ (e ▸ p)⟩
/-! ### zip(tuple, list) -/
def Itm (K : PySem.W.Frag) (a b : Addr) (xs ys : List V) : It :=
  ⟨fun i H => SqT K H a xs ∧ SqL K H b ys ∧ i < xs.length ∧ i < ys.length, fun i H v H' => ∃ T x y, v = .ref T ∧ H T = none ∧ H' = upd H T (.tup [x, y]) ∧ xs[i]? = some x ∧ ys[i]? = some y,
    fun i H => SqT K H a xs ∧ SqL K H b ys ∧ i ≤ xs.length ∧ i ≤ ys.length ∧ (i = xs.length ∨ i = ys.length)⟩
theorem val_at {xs : List V} {its : List Value} {i : Nat} {u : Value} (rv : Vals xs its) (h : its.toArray[i]? = some u) : ∃ x, xs[i]? = some x ∧ RelV x u := by
  have hu : its[i]? = some u := by simpa using h
  have hl := rv.length
  have hi : i < xs.length := by
    have := (List.getElem?_eq_some_iff.mp hu).1
    omega
  obtain ⟨u', hu', ru⟩ := rv.get (i := i) (x := xs[i]) (List.getElem?_eq_getElem hi)
  rw [hu] at hu'
  cases hu'
  exact ⟨_, List.getElem?_eq_getElem hi, ru⟩
theorem turn_zipM {P : Program} {w : World} {K : PySem.W.Frag} {elts : List Expr} {kk : Nat} {tpos : Pos} {a b z TI TO i1 i2 : Addr} (xs ys : List V) (S : ZipSep2 z TI TO i1 i2 [i1, a] [i2, b]) (ha : a ≠ i1) (hb : b ≠ i2) :
    Turn P w K (.Tuple elts kk tpos) (Itm K a b xs ys) [z, TI, TO, i1, i2] z (fun i h => IsZip h z TI TO .none ∧ IsTupOf2 h TI (.ref i1) (.ref i2) ∧ (∃ x y, IsTupOf2 h TO x y) ∧ h.IsTupleIter i1 a i ∧ h.IsListIter i2 b i) where
  mem := by simp
  obj := fun i h st c hc => by
    obtain ⟨hz, hTI, ⟨x, y, hTO⟩, ⟨o1, e1, _, d1⟩, ⟨o2, e2, _, d2⟩⟩ := st
    have e' : c = z ∨ c = TI ∨ c = TO ∨ c = i1 ∨ c = i2 := by simpa using hc
    rcases e' with q | q | q | q | q
    · rw [q]; exact ⟨_, hz, fun v q => nomatch q⟩
    · rw [q]; exact ⟨_, hTI, fun v q => nomatch q⟩
    · rw [q]; exact ⟨_, hTO, fun v q => nomatch q⟩
    · rw [q]; exact ⟨o1, e1, fun v q => by rw [d1] at q; cases q⟩
    · rw [q]; exact ⟨o2, e2, fun v q => by rw [d2] at q; cases q⟩
  keep := fun i h h' st k => by
    obtain ⟨hz, hTI, ⟨x, y, hTO⟩, h1, h2⟩ := st
    exact ⟨k z (by simp) _ hz, k TI (by simp) _ hTI, ⟨x, y, k TO (by simp) _ hTO⟩, h1.at fun o q => k i1 (by simp) o q, h2.at fun o q => k i2 (by simp) o q⟩
  item := by
    intro X hP hw hK hc i pins s σ H E I hf st hg
    subst hP hw hK
    obtain ⟨hz, hTI, ⟨x0, y0, hTO⟩, h1, h2⟩ := st
    obtain ⟨hqx, hqy, hx, hy⟩ := hg
    obtain ⟨its, rv, p, _⟩ := I.tuple hqx
    obtain ⟨its2, rv2, p2, _⟩ := I.list hqy
    have l1 := rv.length
    have l2 := rv2.length
    have hh : X.A.handled = none := I.ok.hd hc
    have hzl : z < s.heap.objs.size := Heap.lt_size hz
    refine wpAny_pyNext_zipD2_item S (Draws.tuple (A := X.A.in1) hh i1 a ha its.toArray) (Draws.list (A := X.A.in1) hh i2 b hb its2.toArray) hz hTI hTO ⟨h1, p⟩ ⟨h2, p2.isList⟩ (by simp; omega) (by simp; omega) fun u u2 h' tk hu hu2 z' TO' st1 st2 hT hsz hk => ?_
    obtain ⟨x, hx, ru⟩ := val_at rv hu
    obtain ⟨y, hy, ru2⟩ := val_at rv2 hu2
    refine ⟨_, rfl, wpAny_letOwnedTupleGo_zip (s := { s with heap := h', toks := tk }) z' fun h'' z'' sb => ?_⟩
    have hT2 : h''.get? s.heap.objs.size = some { cls := .type "tuple", data := .seq #[u, u2] } := (sb.2 _ (Nat.ne_of_gt hzl)).trans hT
    have new : ObjOk X.prog X.w (upd H s.heap.objs.size (.tup [x, y])) h'' s.heap.objs.size (.tup [x, y]) :=
      ⟨by show 2 ≤ sizeLine; decide, [u, u2], .cons ru (.cons ru2 .nil), ⟨_, hT2, rfl, _, rfl⟩⟩
    have I1 : Inv X pins σ (upd H s.heap.objs.size (.tup [x, y])) { s with heap := h'', toks := tk } :=
      I.turnedNew (ch := [z, TI, TO, i1, i2]) (fun c o hb q => (sb.2 c (fun q' => hb (by simp [q']))).trans (hk c o (fun q' => hb (by simp [q'])) (fun q' => hb (by simp [q'])) (fun q' => hb (by simp [q'])) (fun q' => hb (by simp [q'])) q)) hf (Nat.le_refl _) new
    refine ⟨.ref s.heap.objs.size, _, I1, rfl, ⟨_, x, y, rfl, I.hok.fresh (Nat.le_refl _), rfl, hx, hy⟩, ⟨z'', ?_, ⟨u, u2, ?_⟩, ?_, ?_⟩, fun c hcm => ?_⟩
    · exact (sb.2 _ S.TIz).trans (hk _ _ S.TIz S.TITO S.TIi1 S.TIi2 hTI)
    · exact (sb.2 _ S.TOz).trans TO'
    · exact st1.1.at fun o q => (sb.2 _ (Ne.symm S.zi1)).trans q
    · exact st2.1.at fun o q => (sb.2 _ (Ne.symm S.zi2)).trans q
    · have hlt : c < s.heap.objs.size := by
        have e' : c = z ∨ c = TI ∨ c = TO ∨ c = i1 ∨ c = i2 := by simpa using hcm
        rcases e' with q | q | q | q | q
        · rw [q]; exact hzl
        · rw [q]; exact Heap.lt_size hTI
        · rw [q]; exact Heap.lt_size hTO
        · rw [q]; obtain ⟨_, e1, _⟩ := h1; exact Heap.lt_size e1
        · rw [q]; obtain ⟨_, e2, _⟩ := h2; exact Heap.lt_size e2
      rw [upd_ne (Nat.ne_of_lt hlt)]
      exact (hf c hcm).1
  done := by
    intro X hP hw hK hc i pins s σ H E I hf st hg
    subst hP hw hK
    obtain ⟨hz, hTI, ⟨x0, y0, hTO⟩, h1, h2⟩ := st
    obtain ⟨hqx, hqy, hx, hy, hend⟩ := hg
    obtain ⟨its, rv, p, _⟩ := I.tuple hqx
    obtain ⟨its2, rv2, p2, _⟩ := I.list hqy
    have l1 := rv.length
    have l2 := rv2.length
    have hh : X.A.handled = none := I.ok.hd hc
    exact wpAny_pyNext_zipD2_end S (Draws.tuple (A := X.A.in1) hh i1 a ha its.toArray) (Draws.list (A := X.A.in1) hh i2 b hb its2.toArray) hz hTI hTO ⟨h1, p⟩ ⟨h2, p2.isList⟩ (by simp; omega) (by simp; omega) (by simp; omega) fun h' tk hk => ⟨rfl, I.turnedL (t' := tk) (ch := [z, TI, TO, i1, i2]) (fun c o hb q =>
      hk c o (fun q' => hb (by simp [q'])) (fun q' => hb (by simp [q'])) (fun q' => hb (by simp [q'])) (fun q' => hb (by simp [q'])) q) hf⟩
  self := fun A i s Q E st h => wpAny_pyIter_zip st.1 h
def iZipM (K : PySem.W.Frag) (ta : TA) : TI := fun σ H R => ta σ H fun vs H1 => ∃ a b xs ys, vs = [.ref a, .ref b] ∧ SqT K H1 a xs ∧ SqL K H1 b ys ∧ R (Itm K a b xs ys) H1
theorem pi_zipM {X : Cx} {e e2 : Expr} {ta : TA} {p pos tpos : Pos} {elts : List Expr} {kk : Nat} (hg : Gl X "zip") (hm : X.mg "zip" = none) (ha : PA X [e, e2] ta)
    (hs : starEach [e, e2] X.env = (false, eval e X.env) :: starEach [e2] X.env := by rfl) (hpl : (backTo pos (starEach [e2] X.env)).any (·.1) = false := by rfl) :
    PI X (.Tuple elts kk tpos) (.Call (.Name "zip" p) [e, e2] [] pos) (iZipM X.K ta) := by
  refine ⟨fun pins s σ H R I h => ?_⟩
  refine Call_ (ld_blt I hg hm PyProof.Rows.boot_zip (PyProof.Rows.callWith_type1 (thn (ha.run pos pins s σ H _ I h) fun us s1 ⟨vs, H1, I1, r1, q1⟩ => ?_) hs hpl))
  obtain ⟨a, b, xs, ys, ex, hqx, hqy, q⟩ := q1
  subst ex
  cases r1 with
  | cons r rr =>
    cases rr with
    | cons r' rr =>
      cases rr
      cases r
      cases r'
      have fresh5 : ∀ c, c ∈ [s1.heap.objs.size + 4, s1.heap.objs.size + 2, s1.heap.objs.size + 3, s1.heap.objs.size, s1.heap.objs.size + 1] → FpOk X pins H1 c := fun c hcm => by
        have e' : c = s1.heap.objs.size + 4 ∨ c = s1.heap.objs.size + 2 ∨ c = s1.heap.objs.size + 3 ∨ c = s1.heap.objs.size ∨ c = s1.heap.objs.size + 1 := by simpa using hcm
        have hle : s1.heap.objs.size ≤ c := by
          rcases e' with z | z | z | z | z
          · rw [z]; exact Nat.le_add_right _ _
          · rw [z]; exact Nat.le_add_right _ _
          · rw [z]; exact Nat.le_add_right _ _
          · rw [z]; exact Nat.le_refl _
          · rw [z]; exact Nat.le_add_right _ _
        exact I1.fpOk hle (I1.hok.fresh hle)
      obtain ⟨its, rv, p1, _⟩ := I1.tuple hqx
      obtain ⟨its2, rv2, p2, _⟩ := I1.list hqy
      have al : a < s1.heap.objs.size := by obtain ⟨_, q, _⟩ := id p1; exact Heap.lt_size q
      have bl : b < s1.heap.objs.size := by obtain ⟨_, q, _⟩ := p2.isList; exact Heap.lt_size q
      refine zip_begins2 (begins_tuple a its.toArray) (begins_list b its2.toArray) p1 p2.isList fun h' hz hTI hTO h1 h2 hsz hk => wpAny_pyIter_zip hz ?_
      have I2 : Inv X pins σ H1 { s1 with heap := h' } := I1.kept (t' := s1.toks) hk
      have n1 : ∀ k, s1.heap.objs.size + k ≠ a := fun k => by
        intro e
        have : s1.heap.objs.size ≤ a := by rw [← e]; exact Nat.le_add_right _ _
        exact Nat.lt_irrefl _ (Nat.lt_of_lt_of_le al this)
      have n2 : ∀ k, s1.heap.objs.size + k ≠ b := fun k => by
        intro e
        have : s1.heap.objs.size ≤ b := by rw [← e]; exact Nat.le_add_right _ _
        exact Nat.lt_irrefl _ (Nat.lt_of_lt_of_le bl this)
      have nn : ∀ j k : Nat, j ≠ k → s1.heap.objs.size + j ≠ s1.heap.objs.size + k := fun j k h e => h (Nat.add_left_cancel e)
      exact ⟨s1.heap.objs.size + 4, [s1.heap.objs.size + 4, s1.heap.objs.size + 2, s1.heap.objs.size + 3, s1.heap.objs.size, s1.heap.objs.size + 1], _, _, H1, rfl, I2,
        turn_zipM xs ys ⟨nn 2 4 (by decide), nn 3 4 (by decide), nn 2 3 (by decide), nn 2 0 (by decide), by simp, by simp [n1 4, nn 4 0 (by decide)], by simp [n1 3, nn 3 0 (by decide)], nn 2 1 (by decide), by simp, by simp [n2 4, nn 4 1 (by decide)], by simp [n2 3, nn 3 1 (by decide)], by simp [Nat.ne_of_gt bl], by simp [n1 1, nn 1 0 (by decide)]⟩ (Ne.symm (n1 0)) (Ne.symm (n2 1)),
        ⟨hz, hTI, ⟨_, _, hTO⟩, ⟨_, h1, rfl, rfl⟩, ⟨_, h2, rfl, rfl⟩⟩, fresh5, q⟩
theorem for_zipM {K : PySem.W.Frag} {a b : Addr} {xs ys : List V} {g : TG} {tb : TS} {D : Ends} {σ : L2.St} {H : Hp} (hlen : xs.length = ys.length) (Pv : Nat → L2.St → Hp → Prop) (h0 : Pv 0 σ H) (hl : ∀ i σ H, i ≤ xs.length → Pv i σ H → SqT K H a xs ∧ SqL K H b ys)
    (hs : ∀ i x y σ H T, xs[i]? = some x → ys[i]? = some y → Pv i σ H → H T = none → g (.ref T) σ (upd H T (.tup [x, y])) fun σ2 H2 => tb { D with nx := Pv (i + 1), ct := Pv (i + 1), bk := D.nx } σ2 H2) (hd : ∀ σ H, Pv xs.length σ H → D.nx σ H) :
    ∃ W : Nat → Nat → L2.St → Hp → Prop, (∃ m, W 0 m σ H) ∧ ∀ i m σ H, W i m σ H →
      ((Itm K a b xs ys).stop i H ∧ D.nx σ H) ∨ ((Itm K a b xs ys).go i H ∧ ∃ N : L2.St → Hp → Prop, (∀ σ' H', N σ' H' → ∃ m', m' < m ∧ W (i + 1) m' σ' H') ∧ ∀ x H', (Itm K a b xs ys).yld i H x H' → g x σ H' fun σ2 H2 => tb { D with nx := N, ct := N, bk := D.nx } σ2 H2) := by
  refine ⟨fun i m σ H => m = xs.length - i ∧ i ≤ xs.length ∧ Pv i σ H, ⟨xs.length, by simp, Nat.zero_le _, h0⟩, ?_⟩
  rintro i m σ H ⟨rfl, hi, p⟩
  obtain ⟨q1, q2⟩ := hl i σ H hi p
  by_cases hlt : i < xs.length
  · refine .inr ⟨⟨q1, q2, hlt, by omega⟩, Pv (i + 1), fun σ' H' p' => ⟨xs.length - (i + 1), by omega, rfl, hlt, p'⟩, fun x H' y => ?_⟩
    obtain ⟨T, x, y, rfl, hT, rfl, hx, hy⟩ := y
    exact hs i x y σ H T hx hy p hT
  · have e : i = xs.length := by omega
    exact .inl ⟨⟨q1, q2, by omega, by omega, .inl e⟩, hd _ _ (e ▸ p)⟩
/-! ### C(..), C in a local -/
section
variable {X : Cx} {CX : CXT} {k i : Nat} {f C : Addr} {fd : FuncData} {ps : List Str} {sp : Sp} {dvs : List V} {ds : List Value} {E : L2.St → XK} {x : Str} {p pos : Pos} {e : Expr} {es : List Expr} {t : TA}
theorem at0 {X : Cx} (σ : L2.St) : PassesAt CX0 X σ E0 := fun _ _ _ _ _ _ h => h.elim
def tMakeL (i : Nat) (C : Addr) (sp : Sp) (dvs : List V) (E : L2.St → XK) (t : TA) : TE := fun σ H Q => σ[i]? = some (some (.ref C)) ∧ t σ H fun vs H1 => ∀ x dx, H1 x = none → H1 dx = none → dx ≠ x →
  sp (.ref x :: (vs ++ dvs)) (upd (upd H1 dx (.own x)) x (.ins C dx [])) (fun v H2 => v = .non ∧ Q (.ref x) H2) (E σ)
theorem pe_makeL (M : Mk X.K C f) (F : FnOk X.prog X.w X.K X.mg X.base CX k f fd ps sp) (hr : Room (k + 1) X.A) (hN : X.N[i]? = some x) (hv : Vis X.env.scope x) (hb : Binds X.K fd ps ds) (hd : Vals dvs ds) (hx : ∀ σ, PassesAt CX X σ (E σ))
    (ha : PA X (e :: es) t) (hdb : (x == ("__debug__" : Str)) = false := by decide) (hcd : (x == ("__classdict__" : Str)) = false := by decide)
    (he : starEach (e :: es) X.env = (false, eval e X.env) :: starEach es X.env := by rfl) (hpl : (backTo pos (starEach es X.env)).any (·.1) = false := by rfl) :
    PE X (.Call (.Name x p) (e :: es) [] pos) (tMakeL i C sp dvs E t) := by
  refine ⟨fun pins s σ H Q I h => ?_⟩
  obtain ⟨hs, ht⟩ := h
  refine wpAny_Call_Name_kw (thn ((pe_var (pos := p) hN hv hdb hcd).run pins s σ H (fun v H1 => v = .ref C ∧ H1 = H) I ⟨.ref C, hs, rfl, rfl⟩) fun u s1 ⟨v, H1, I1, r1, q1⟩ => ?_)
  obtain ⟨rfl, rfl⟩ := q1
  cases r1
  refine PySem.W.callWith_K (h₀ := X.base) I.ok.mod.kin M.kp (thn (ha.run pos pins s1 σ _ _ I1 ht) fun us s2 ⟨vs, H2, I2, r, q⟩ => ⟨I2.kIn, ?_⟩) he hpl
  exact run_makeS M F hr hb hd (hx σ) I2 r q
end
/-! ### len(o), o[i] by own methods -/
section
variable {X : Cx} {CX : CXT} {C f : Addr} {fd : FuncData} {ps : List Str} {n : Nat} {sp : Sp} {E : XK}
def rLenOwn (C : Addr) (sp : Sp) (E : XK) : List V → Hp → VK → Prop := fun xs H Q => ∃ a dx fs, xs = [V.ref a] ∧ H a = some (.ins C dx fs) ∧ sp [.ref a] H (fun z H' => ∃ i : Int, z = .int i ∧ 0 ≤ i ∧ i < 1000000 ∧ Q (.int i) H') E
theorem call_lenOwn (hs : PySem.W.findIn X.K (.ref C) "__len__" = some (some (.ref f))) (hf : PySem.W.isFn X.K (.ref f) = true) (F : FnOk X.prog X.w X.K X.mg X.base CX n f fd ps sp) (hb : Binds X.K fd ps []) (hr : Room (n + 1) X.A) (hx : Passes CX X E) : CallR X (.builtin "len") (rLenOwn C sp E) := by
  intro pins s σ H xs us Q I r h
  obtain ⟨a, dx, fs, rfl, ha, q⟩ := h
  obtain ⟨u, rfl, ru⟩ := r.one
  cases (show u = Value.ref a from ru)
  obtain ⟨mA, J, _⟩ := ins_get I.hok ha
  obtain ⟨od, J, _⟩ := J.look
  refine Calls.call_function_entry kind_len plain_len entry_len (args_len1 _) ?_
  unfold Builtin.«len»
  refine wpAny_bind (m := oneArg "len" _) (wpAny_pure ?_)
  refine wpAny_bind (m := callSpecial? (.ref a) (Str.ofString "__len__")) (PySem.W.special_fn I.kIn J hs (beq_iff_eq.mp hf) (wpAny_mono (wpAny_call (run_ok (us := [.ref a]) (ws := [.ref a]) F hb (Room.in1 hr) I.env0.in1 hx I (.cons rfl .nil) q)) (fun w s' z => ?_) fun _ _ y => y))
  obtain ⟨z', H', I', rz, i, ei, i0, i1, qz⟩ := z
  subst ei
  obtain ⟨t, e⟩ := (show ∃ t, w = Value.int i t from rz)
  cases e
  refine wpAny_bind (wpAny_holding (wpAny_pure ?_))
  refine wpAny_bind (wpAny_letGo ?_)
  show wpAny _ _ (if i < 0 then _ else _) _ _ _
  rw [if_neg (by omega)]
  show wpAny _ _ (if i ≥ 2 ^ 63 then _ else _) _ _ _
  rw [if_neg (by omega)]
  exact wpAny_bind (wpAny_mkInt (wpAny_pure ⟨_, rfl, .int i, H', I'.tok _, ⟨_, rfl⟩, qz⟩))
def tIxOwn (C : Addr) (sp : Sp) (E : XK) (ta tb : TE) : TE := fun σ H Q => ta σ H fun x H1 => tb σ H1 fun y H2 => ∃ a dx fs, x = .ref a ∧ H2 a = some (.ins C dx fs) ∧ sp [.ref a, y] H2 Q E
theorem pe_ixOwn {a b : Expr} {pos : Pos} {ta tb : TE} (hs : PySem.W.findIn X.K (.ref C) "__getitem__" = some (some (.ref f))) (hf : PySem.W.isFn X.K (.ref f) = true) (hfn : PySem.W.fnIn X.K f = true) (F : FnOk X.prog X.w X.K X.mg X.base CX n f fd ps sp) (hb : Binds X.K fd ps []) (hr : Room (n + 1) X.A) (hx : Passes CX X E)
    (ha : PE X a ta) (hb2 : PE X b tb) (hsl : ∀ v u, subscripted b true v u = runValue (.builtin "lifetime.subscript" ⟨[v, u], []⟩) := by intro _ _; rfl) : PE X (.Subscript a b pos) (tIxOwn C sp E ta tb) := by
  refine ⟨fun pins s σ H Q I h => ?_⟩
  refine Subscript_ (thn (ha.run pins s σ H _ I h) fun v s1 ⟨x, H1, I1, rx, q1⟩ => thn (hb2.run pins s1 σ H1 _ I1 q1) fun u s2 ⟨y, H2, I2, ry, o, dx, fs, ex, ho, q⟩ => ?_)
  subst ex
  cases (show v = Value.ref o from rx)
  obtain ⟨mA, J, _⟩ := ins_get I2.hok ho
  obtain ⟨od, J, _⟩ := J.look
  obtain ⟨m, hF⟩ := I2.fr
  exact PySem.W.sub_K hF I2.ok.mod.kin J hs hfn hf (wpAny_call (run_ok (us := [.ref o, u]) (ws := [.ref o, y]) F hb (Room.in1 hr) I2.env0.in1 hx I2 (.cons rfl (.cons ry .nil)) q)) (hsl _ _)
end
end L2.Wk
namespace L2.Wk
open PySem PySem.Spec PyProof.Rows
/-- repr of a number, or of None -/
def reprV : V → Str
  | .int i => toString i
  | _ => Str.ofString "None"
theorem call_reprIN {X : Cx} : CallR X (.builtin "repr") (fun xs H Q => ∃ v, xs = [v] ∧ ((∃ i : Int, v = .int i ∧ i.natAbs.log2 < 1920) ∨ v = .non) ∧ Q (.str (reprV v)) H) := by
  intro pins s σ H xs us Q I r h
  obtain ⟨v, rfl, hv, q⟩ := h
  rcases hv with ⟨i, rfl, hz⟩ | rfl
  · obtain ⟨u, rfl, t, rfl⟩ := vals1 r
    exact PySem.P.repr_of_int hz ⟨.str _, H, I.tok _, ⟨_, rfl⟩, q⟩
  · obtain ⟨u, rfl, e⟩ := vals1 r
    cases (show u = Value.none from e)
    exact PySem.P.repr_of_none ⟨.str _, H, I.tok _, ⟨_, rfl⟩, q⟩
/-! ### enumerate(tuple) -/
def Itq (K : PySem.W.Frag) (a : Addr) (xs : List V) : It :=
  ⟨fun i H => SqT K H a xs ∧ i < xs.length, fun i H v H' => ∃ T x, v = .ref T ∧ H T = none ∧ H' = upd H T (.tup [.int (i : Nat), x]) ∧ xs[i]? = some x, fun i H => SqT K H a xs ∧ i = xs.length⟩
theorem turn_enumT {P : Program} {w : World} {K : PySem.W.Frag} {elts : List Expr} {kk : Nat} {tpos : Pos} (a e it : Addr) (xs : List V) :
    Turn P w K (.Tuple elts kk tpos) (Itq K a xs) [e, it] e (fun i h => (∃ old, IsEnum h e it (((i : Nat) : Int)) old) ∧ h.IsTupleIter it a i ∧ e ≠ it ∧ a ≠ it ∧ a ≠ e) where
  mem := by simp
  obj := fun i h st b hb => by
    obtain ⟨⟨old, he⟩, ⟨o, ho, hc, hd⟩, _⟩ := st
    have e' : b = e ∨ b = it := by simpa using hb
    rcases e' with z | z
    · rw [z]; exact ⟨_, he, fun v q => nomatch q⟩
    · rw [z]; exact ⟨o, ho, fun v q => by rw [hd] at q; cases q⟩
  keep := fun i h h' st k => let ⟨⟨old, he⟩, hi, hne⟩ := st; ⟨⟨old, k e (by simp) _ he⟩, hi.at fun o q => k it (by simp) o q, hne⟩
  item := by
    intro X hP hw hK hc i pins s σ H E I hf st hg
    subst hP hw hK
    obtain ⟨⟨old, he⟩, hit, hne, hai, hae⟩ := st
    obtain ⟨hq, hi⟩ := hg
    obtain ⟨its, rv, p, hz⟩ := I.tuple hq
    have hl := rv.length
    have hel : e < s.heap.objs.size := Heap.lt_size he
    have hil : it < s.heap.objs.size := by obtain ⟨_, q, _⟩ := hit; exact Heap.lt_size q
    have hh : X.A.handled = none := I.ok.hd hc
    refine wpAny_pyNext_enum_itemC (Draws.tuple (A := X.A.in1) hh it a hai its.toArray) he ⟨hit, p⟩ (by simp; omega) hne (by simp [hne, Ne.symm hae]) fun u h' tk hu ho hst hT hsz hk => ?_
    obtain ⟨x, hx, ru⟩ := val_at rv hu
    obtain ⟨hit', _⟩ := hst
    refine ⟨_, rfl, wpAny_letOwnedTupleGo_enum (s := { s with heap := h', toks := tk + 1 }) ho fun h'' he' sb => ?_⟩
    have hT2 : h''.get? s.heap.objs.size = some { cls := .type "tuple", data := .seq #[.int (i : Int) tk, u] } := (sb.2 _ (Nat.ne_of_gt hel)).trans hT
    have new : ObjOk X.prog X.w (upd H s.heap.objs.size (.tup [.int (i : Nat), x])) h'' s.heap.objs.size (.tup [.int (i : Nat), x]) :=
      ⟨by show 2 ≤ sizeLine; decide, [.int (i : Int) tk, u], .cons ⟨_, rfl⟩ (.cons ru .nil), ⟨_, hT2, rfl, _, rfl⟩⟩
    have I1 : Inv X pins σ (upd H s.heap.objs.size (.tup [.int (i : Nat), x])) { s with heap := h'', toks := tk + 1 } :=
      I.turnedNew (ch := [e, it]) (fun b ob hb q => (sb.2 b (fun z => hb (by simp [z]))).trans (hk b ob (fun z => hb (by simp [z])) (fun z => hb (by simp [z])) q)) hf (Nat.le_refl _) new
    refine ⟨.ref s.heap.objs.size, _, I1, rfl, ⟨_, x, rfl, I.hok.fresh (Nat.le_refl _), rfl, hx⟩, ⟨⟨u, ?_⟩, hit'.at fun o q => (sb.2 it (Ne.symm hne)).trans q, hne, hai, hae⟩, fun b hb => ?_⟩
    · have e1 : ((i + 1 : Nat) : Int) = (i : Int) + 1 := by omega
      rw [e1]; exact he'
    · have hb' : b < s.heap.objs.size := by
        have e' : b = e ∨ b = it := by simpa using hb
        rcases e' with z | z
        · rw [z]; exact hel
        · rw [z]; exact hil
      rw [upd_ne (Nat.ne_of_lt hb')]
      exact (hf b hb).1
  done := by
    intro X hP hw hK hc i pins s σ H E I hf st hg
    subst hP hw hK
    obtain ⟨⟨old, he⟩, hit, hne, hai, hae⟩ := st
    obtain ⟨hq, hx⟩ := hg
    obtain ⟨its, rv, p, hz⟩ := I.tuple hq
    obtain ⟨f0, f1, f2, f3, f4, f5⟩ := hf it (by simp)
    have hl := rv.length
    have hh : X.A.handled = none := I.ok.hd hc
    have hi : i = its.toArray.size := by simp; omega
    exact wpAny_pyNext_enum_endD (Draws.tuple (A := X.A.in1) hh it a hai its.toArray) he ⟨by rw [← hi]; exact hit, p⟩ fun h' eb => ⟨rfl, I.turned (t' := s.toks) (fun b o hb q => eb b o hb q) f0 f1 f3 f4 f5⟩
  self := fun A i s Q E st h => let ⟨⟨_, he⟩, _⟩ := st; wpAny_pyIter_enum he h
set_option maxHeartbeats 4000000 in
theorem meets_enum0 {v : Value} {o : Obj} {H : Heap → Prop} (B : Begins v o H) :
    Meets (Builtin.«enumerate.__new__» ⟨[.type "enumerate", v], []⟩) (fun _ R s => H s.heap ∧
      R (.ok (.ret (.ref (s.heap.push o).objs.size))) { s with heap := (s.heap.push o).push { cls := .type "enumerate", data := .fields #[.none, .bool false, .ref s.heap.objs.size, rawInt 0, .none, .none] } }) :=
  .of_wp fun prog w A R s h => by
    obtain ⟨hp, g, d, tk, os⟩ := s; obtain ⟨h1, h⟩ := h
    have hsub := sub_enumerate
    have q1 : ∀ {A' : Around} {E : Value → Shared → Prop} {Q : Value → Shared → Prop}, Q (.ref hp.objs.size) ⟨hp.push o, g, d, tk, os⟩ → wpAny (model prog w) A' (pyIter v) Q E ⟨hp, g, d, tk, os⟩ :=
      fun q => B.iter prog w _ _ ⟨hp, g, d, tk, os⟩ _ h1 q
    wp_walk using q1
    refine wpAny_stack_any fun st => wpAny_pure ?_
    split
    · rename_i c _ _ _ _ _
      cases (c == Value.type "enumerate")
      · wp_walk using q1
        exact ⟨_, rfl, h⟩
      · wp_walk using q1
        exact ⟨_, rfl, h⟩
    · wp_walk using q1
      exact ⟨_, rfl, h⟩
theorem enum_begins0 {prog : Program} {w : World} {A : Around} {E : Value → Shared → Prop} {s : Shared} {v : Value} {o : Obj} {H : Heap → Prop} {Q : Value → Shared → Prop} (B : Begins v o H) (h1 : H s.heap)
    (h : ∀ h', IsEnum h' (s.heap.objs.size + 1) s.heap.objs.size 0 .none → h'.get? s.heap.objs.size = some o → h'.objs.size = s.heap.objs.size + 2 →
      (∀ b o, s.heap.get? b = some o → h'.get? b = some o) → Q (.ref (s.heap.objs.size + 1)) { s with heap := h' }) :
    wpAny (model prog w) A (call (.type "enumerate") [v]) Q E s := by
  refine callType_new F.called_enumerate (by decide) (F.typeCall_enumerate_1 _) (F.newCall_enumerate_1 _) (fun obj => F.args_object_init_2 obj _) F.entry_enumerate_new
    (meets_enum0 B) ⟨h1, ?_⟩
  have hz : (s.heap.push o).objs.size = s.heap.objs.size + 1 := Heap.size_push ..
  show _ ∧ _
  rw [hz]
  have he : IsEnum ((s.heap.push o).push { cls := .type "enumerate", data := .fields #[.none, .bool false, .ref s.heap.objs.size, rawInt 0, .none, .none] }) (s.heap.objs.size + 1) s.heap.objs.size 0 .none := by
    have := Heap.get?_push_size (s.heap.push o) (o := { cls := .type "enumerate", data := .fields #[.none, .bool false, .ref s.heap.objs.size, rawInt 0, .none, .none] }) rfl
    rw [hz] at this; exact this
  refine ⟨⟨_, he, rfl⟩, h _ he (Heap.get?_push_of_some _ (Heap.get?_push_size _ B.free)) (by rw [Heap.size_push, hz]) fun b o x => Heap.get?_push_of_some _ (Heap.get?_push_of_some _ x)⟩
def iEnumT (K : PySem.W.Frag) (ta : TA) : TI := fun σ H R => ta σ H fun vs H1 => ∃ a xs, vs = [.ref a] ∧ SqT K H1 a xs ∧ R (Itq K a xs) H1
theorem pi_enumT {X : Cx} {e : Expr} {ta : TA} {p pos tpos : Pos} {elts : List Expr} {kk : Nat} (hg : Gl X "enumerate") (hm : X.mg "enumerate" = none) (ha : PA X [e] ta) (hs : starEach [e] X.env = [(false, eval e X.env)] := by rfl) :
    PI X (.Tuple elts kk tpos) (.Call (.Name "enumerate" p) [e] [] pos) (iEnumT X.K ta) := by
  refine ⟨fun pins s σ H R I h => ?_⟩
  refine Call_ (ld_blt I hg hm boot_enumerate (PyProof.Rows.callWith_type1 (thn (ha.run pos pins s σ H _ I h) fun us s1 ⟨vs, H1, I1, r1, q1⟩ => ?_) hs rfl))
  obtain ⟨a, xs, ex, hq, q⟩ := q1
  subst ex
  cases r1 with
  | cons r rr =>
    cases rr
    cases r
    obtain ⟨its, rv, p', hz⟩ := I1.tuple hq
    have hal : a < s1.heap.objs.size := by obtain ⟨_, q, _⟩ := id p'; exact Heap.lt_size q
    refine enum_begins0 (begins_tuple a its.toArray) p' fun h' he hit hsz hk => wpAny_pyIter_enum he ?_
    have I2 : Inv X pins σ H1 { s1 with heap := h' } := I1.kept (t' := s1.toks) hk
    refine ⟨s1.heap.objs.size + 1, [s1.heap.objs.size + 1, s1.heap.objs.size], _, _, H1, rfl, I2, turn_enumT a (s1.heap.objs.size + 1) s1.heap.objs.size xs, ⟨⟨.none, he⟩, ⟨_, hit, rfl, rfl⟩, Nat.succ_ne_self _, Nat.ne_of_lt hal, Nat.ne_of_lt (Nat.lt_succ_of_lt hal)⟩, fun b hb => ?_, q⟩
    have e' : b = s1.heap.objs.size + 1 ∨ b = s1.heap.objs.size := by simpa using hb
    have hle : s1.heap.objs.size ≤ b := by
      rcases e' with z | z
      · rw [z]; exact Nat.le_add_right _ _
      · rw [z]; exact Nat.le_refl _
    exact I1.fpOk hle (I1.hok.fresh hle)
theorem for_enumT {K : PySem.W.Frag} {a : Addr} {xs : List V} {g : TG} {tb : TS} {D : Ends} {σ : L2.St} {H : Hp} (Pv : Nat → L2.St → Hp → Prop) (h0 : Pv 0 σ H) (hl : ∀ i σ H, i ≤ xs.length → Pv i σ H → SqT K H a xs)
    (hs : ∀ i x σ H T, xs[i]? = some x → Pv i σ H → H T = none → g (.ref T) σ (upd H T (.tup [.int (i : Nat), x])) fun σ2 H2 => tb { D with nx := Pv (i + 1), ct := Pv (i + 1), bk := D.nx } σ2 H2) (hd : ∀ σ H, Pv xs.length σ H → D.nx σ H) :
    ∃ W : Nat → Nat → L2.St → Hp → Prop, (∃ m, W 0 m σ H) ∧ ∀ i m σ H, W i m σ H →
      ((Itq K a xs).stop i H ∧ D.nx σ H) ∨ ((Itq K a xs).go i H ∧ ∃ N : L2.St → Hp → Prop, (∀ σ' H', N σ' H' → ∃ m', m' < m ∧ W (i + 1) m' σ' H') ∧ ∀ x H', (Itq K a xs).yld i H x H' → g x σ H' fun σ2 H2 => tb { D with nx := N, ct := N, bk := D.nx } σ2 H2) := by
  refine ⟨fun i m σ H => m = xs.length - i ∧ i ≤ xs.length ∧ Pv i σ H, ⟨xs.length, by simp, Nat.zero_le _, h0⟩, ?_⟩
  rintro i m σ H ⟨rfl, hi, p⟩
  by_cases hlt : i < xs.length
  · refine .inr ⟨⟨hl i σ H hi p, hlt⟩, Pv (i + 1), fun σ' H' p' => ⟨xs.length - (i + 1), by omega, rfl, hlt, p'⟩, fun x H' y => ?_⟩
    obtain ⟨T, x, rfl, hT, rfl, hx⟩ := y
    exact hs i x σ H T hx p hT
  · have e : i = xs.length := by omega
    exact .inl ⟨⟨hl i σ H hi p, e⟩, hd _ _ (e ▸ p)⟩
theorem for_enumL {K : PySem.W.Frag} {a : Addr} {xs : List V} {g : TG} {tb : TS} {D : Ends} {σ : L2.St} {H : Hp} (Pv : Nat → L2.St → Hp → Prop) (h0 : Pv 0 σ H) (hl : ∀ i σ H, i ≤ xs.length → Pv i σ H → SqL K H a xs)
    (hs : ∀ i x σ H T, xs[i]? = some x → Pv i σ H → H T = none → g (.ref T) σ (upd H T (.tup [.int (i : Nat), x])) fun σ2 H2 => tb { D with nx := Pv (i + 1), ct := Pv (i + 1), bk := D.nx } σ2 H2) (hd : ∀ σ H, Pv xs.length σ H → D.nx σ H) :
    ∃ W : Nat → Nat → L2.St → Hp → Prop, (∃ m, W 0 m σ H) ∧ ∀ i m σ H, W i m σ H →
      ((Ite K a).stop i H ∧ D.nx σ H) ∨ ((Ite K a).go i H ∧ ∃ N : L2.St → Hp → Prop, (∀ σ' H', N σ' H' → ∃ m', m' < m ∧ W (i + 1) m' σ' H') ∧ ∀ x H', (Ite K a).yld i H x H' → g x σ H' fun σ2 H2 => tb { D with nx := N, ct := N, bk := D.nx } σ2 H2) := by
  refine ⟨fun i m σ H => m = xs.length - i ∧ i ≤ xs.length ∧ Pv i σ H, ⟨xs.length, by simp, Nat.zero_le _, h0⟩, ?_⟩
  rintro i m σ H ⟨rfl, hi, p⟩
  have q := hl i σ H hi p
  by_cases hlt : i < xs.length
  · refine .inr ⟨⟨xs, _, q, List.getElem?_eq_getElem hlt⟩, Pv (i + 1), fun σ' H' p' => ⟨xs.length - (i + 1), by omega, rfl, hlt, p'⟩, fun x H' y => ?_⟩
    obtain ⟨T, x, rfl, hT, rfl, hx⟩ := y
    exact hs i x σ H T (hx xs q) p hT
  · have e : i = xs.length := by omega
    exact .inl ⟨⟨xs, q, by omega⟩, hd _ _ (e ▸ p)⟩
/-! ### x + y by an own __add__, both of one class -/
section
variable {X : Cx} {CX : CXT} {C f : Addr} {fd : FuncData} {ps : List Str} {n : Nat} {sp : Sp} {E : XK}
def rAddOwn (C : Addr) (sp : Sp) (E : XK) : R2 := fun x y H Q => ∃ a b dx fs dy gs, x = .ref a ∧ y = .ref b ∧ H a = some (.ins C dx fs) ∧ H b = some (.ins C dy gs) ∧ sp [.ref a, .ref b] H Q E
theorem op_addOwn (hs : PySem.W.findIn X.K (.ref C) "__add__" = some (some (.ref f))) (hf : PySem.W.isFn X.K (.ref f) = true) (hc : PySem.W.selfFirst X.K C = true) (F : FnOk X.prog X.w X.K X.mg X.base CX n f fd ps sp) (hb : Binds X.K fd ps []) (hr : Room n X.A) (hx : Passes CX X E) :
    OpR X (binaryOp .Add) (rAddOwn C sp E) := by
  intro pins s σ H x y v u Q I rx ry h
  obtain ⟨a, b, dx, fs, dy, gs, rfl, rfl, ha, hb2, q⟩ := h
  cases (show v = Value.ref a from rx)
  cases (show u = Value.ref b from ry)
  obtain ⟨mA, J, _⟩ := ins_get I.hok ha
  obtain ⟨od, J, _⟩ := J.look
  obtain ⟨mB, J', _⟩ := ins_get I.hok hb2
  obtain ⟨od', J', _⟩ := J'.look
  obtain ⟨m, hF⟩ := I.fr
  refine PySem.W.binop_K hF I.ok.mod.kin J J'.type hc hs hf (wpAny_mono (wpAny_call (run_ok (us := [.ref a, .ref b]) (ws := [.ref a, .ref b]) F hb hr I.env0 hx I (.cons rfl (.cons rfl .nil)) q)) (fun r s' z => ?_) fun _ _ y => y)
  obtain ⟨z', H', I', rz, qz⟩ := z
  have ok : PySem.W.CmpBack (EP X pins σ Q) r s' := by
    cases r <;> first | exact ⟨z', H', I', rz, qz⟩ | (exfalso; cases z' <;> first | (obtain ⟨_, e⟩ := rz; cases e; done) | (cases rz; done))
  exact ok
end
end L2.Wk
/-! an own error over IndexError: its first field; x += y by an own __add__ -/
namespace PySem.LowI
open PySem PySem.Spec PySem.W Builtin Builtin.ObjectAttr
def tailI : List Value := [.type "IndexError", .type "LookupError", .type "Exception", .type "BaseException", .type "object"]
section
variable {prog : Program} {w : World} {A : Around} {E : Value → Shared → Prop} {R : Result → Shared → Prop} {hp : Heap} {g : Array GenState} {d : Drawn} {t : Nat} {os : OsState}
theorem exc_osaI {K : W.Frag} {name : Str} {tk : Tok} {v : Value} {x C : Addr} {fv : Array Value} {cd : ClassData}
    (X : K.In hp) (hx : hp.get? x = some { cls := .ref C, data := .fields fv }) (hcd : W.clsIn K C = some cd) (hm : cd.mro = .ref C :: tailI) (hh : cd.hasDict = true) (ha : W.findIn K (.ref C) name = some none)
    (hq : ∀ h' tk' dx, (∀ b o, b ≠ x → hp.get? b = some o → h'.get? b = some o) → hp.objs.size ≤ dx → dx ≠ x → h'.get? x = some { cls := .ref C, dict := some dx, data := .fields fv } →
      h'.Ns1 dx (fun y => if y = name then some v else none) → R (.ok (.ret .none)) ⟨h', g, d, tk', os⟩) :
    codeAny (model prog w) A (.call (.builtin "object.__setattr__") ⟨[.ref x, .str name tk, v], []⟩) R ⟨hp, g, d, t, os⟩ := by
  have I : W.InstAt hp x { cls := .ref C, data := .fields fv } C none := ⟨hx, rfl, rfl, trivial⟩
  have hxs : x ≠ hp.objs.size := Nat.ne_of_lt (Heap.lt_size hx)
  have ov : W.excOver K C tailI = true := by
    unfold W.excOver
    rw [hcd, Option.any_some, hm]
    show (C == C && W.excTail tailI tailI) = true
    rw [beq_self_eq_true, Bool.true_and]
    decide +kernel
  have tkr : W.takerIn K C name = some none := by
    unfold W.takerIn
    rw [ha]
    rfl
  refine W.osa_openX (C := C) (s := ⟨hp, g, d, t, os⟩) (bmB := tailI) F.store_IndexError X I ov tkr fun bb => ?_
  show wpAny _ _ (storeInOwnDict (.ref x) (.ref C) (.str name tk) name v bb) _ _ _
  have hcls : W.Looks (model prog w) hp (classData C) cd := W.looks_clsIn X hcd
  obtain ⟨nm, bs, mro, ns, qn, hd, sn, sb, ab, col, del⟩ := cd
  dsimp only at hh
  subst hh
  unfold storeInOwnDict ownDictForStores
  repeat (first | with_reducible refine PX.store_in_new ?_ ?_ | with_reducible refine wpAny_loadPart_at hx ?_ | with_reducible refine hcls.at ?_ | wp_step)
  · exact ⟨_, #[], _, (Heap.get?_update_ne _ _ _ _ hxs.symm).trans (Heap.get?_push_at rfl rfl), rfl, fun e he => absurd he (by simp), fun _ => rfl⟩
  · intro h' tk' hn' hs
    have hx1 : (hp.push { cls := .type "dict", data := .dict #[] }).get? x = some { cls := .ref C, data := .fields fv } := Heap.get?_push_of_some _ hx
    refine hq h' tk' hp.objs.size (fun b o hb ho => ?_) (Nat.le_refl _) hxs.symm ?_ hn'
    · exact (hs.2 b (Nat.ne_of_lt (Heap.lt_size ho))).trans ((Heap.get?_update_ne _ _ _ _ hb).trans (Heap.get?_push_of_some _ ho))
    · exact (hs.2 x hxs).trans (Heap.get?_update_self _ hx1 rfl)
end
end PySem.LowI
namespace PySem.W
section
variable {prog : Program} {w : World} {A : Around} {E : Value → Shared → Prop} {s : Shared} {K : Frag} {x C f : Addr} {ox : Obj} {od : Option Obj}
theorem noIadd {h : Heap} {cd : ClassData} (X : K.In h) (hcd : clsIn K C = some cd) (hm : cd.mro = [.ref C, .type "object"]) (h1 : findIn K (.ref C) "__iadd__" = some none) (h2 : findIn K (.type "object") "__iadd__" = some none) :
    Looks (model prog w) h (fillsInplaceSlot (.ref C) "add" true) false := by
  intro A Q E s k q
  have Lm : Looks (model prog w) h (mroOf (.ref C)) cd.mro := (looks_clsIn X hcd).andThen (f := fun cd => pure cd.mro) .now
  have Lm' := Lm.keeps k
  obtain ⟨hh, g, d, tt, os⟩ := s
  have X' : K.In hh := X.keeps k
  have L1 : Looks (model prog w) hh (typeLookup (.ref C) (dunderI "add")) none := looks_findIn X' h1
  have L2 : Looks (model prog w) hh (typeLookup (.type "object") (dunderI "add")) none := looks_findIn X' h2
  unfold fillsInplaceSlot
  refine wpAny_bind (Lm'.at ?_)
  rw [hm, List.anyM_cons]
  refine wpAny_bind ?_
  repeat lk
  exact q
theorem inplaceAdd_K {b : Value} {cd : ClassData} {Q : Value → Shared → Prop} (X : K.In s.heap) (I : InstAt s.heap x ox C od) (hb : Looks (model prog w) s.heap (typeOf b) (.ref C)) (hcd : clsIn K C = some cd) (hm : cd.mro = [.ref C, .type "object"]) (h1 : findIn K (.ref C) "__iadd__" = some none) (h2 : findIn K (.type "object") "__iadd__" = some none)
    (hs : findIn K (.ref C) "__add__" = some (some (.ref f))) (hf : isFn K (.ref f) = true)
    (h : wpAny (model prog w) A (call (.ref f) [.ref x, b]) (CmpBack Q) E s) : wpAny (model prog w) A (inplaceOp .Add (.ref x) b) Q E s := by
  have one := ksp_try X I hs hf h
  obtain ⟨hh, g, d, tt, os⟩ := s
  have L1 : Looks (model prog w) hh (typeOf (.ref x)) (.ref C) := I.type
  have L2 : Looks (model prog w) hh (fillsInplaceSlot (.ref C) "add" true) false := noIadd X hcd hm h1 h2
  have L3 : Looks (model prog w) hh (fillsNumberSlot (.ref C) "add") true := fills_K X hcd hm hs
  unfold inplaceOp
  refine wpAny_holding ?_
  simp only [show (Operator.Add).info.2 = "add" from rfl, show (Operator.Add == Operator.Add) = true from rfl]
  ksp_lk
  simp only [beq_self_eq_true, if_true]
  ksp_lk
  refine wpAny_mono one (fun r s' hr' => ?_) fun _ _ e => e
  obtain ⟨v, rfl, hq⟩ := hr'
  ksp_lk
  exact hq
end
end PySem.W
namespace L2.Wk
open PySem PySem.Spec PyProof.Rows
section
variable {X : Cx} {CX : CXT} {C f : Addr} {fd : FuncData} {ps : List Str} {n : Nat} {sp : Sp} {E : XK} {cd : ClassData}
theorem ip_addOwn (hcd : PySem.W.clsIn X.K C = some cd) (hm : cd.mro = [.ref C, .type "object"]) (h1 : PySem.W.findIn X.K (.ref C) "__iadd__" = some none) (hs : PySem.W.findIn X.K (.ref C) "__add__" = some (some (.ref f))) (hf : PySem.W.isFn X.K (.ref f) = true) (F : FnOk X.prog X.w X.K X.mg X.base CX n f fd ps sp) (hb : Binds X.K fd ps []) (hr : Room n X.A) (hx : Passes CX X E) :
    PIp X .Add (rAddOwn C sp E) := by
  intro pins s σ H x y v u Q I rx ry h
  obtain ⟨a, b, dx, fs, dy, gs, rfl, rfl, ha, hb2, q⟩ := h
  cases (show v = Value.ref a from rx)
  cases (show u = Value.ref b from ry)
  obtain ⟨mA, J, _⟩ := ins_get I.hok ha
  obtain ⟨od, J, _⟩ := J.look
  obtain ⟨mB, J', _⟩ := ins_get I.hok hb2
  obtain ⟨od', J', _⟩ := J'.look
  have h2 : PySem.W.findIn X.K (.type "object") "__iadd__" = some none := by kernel_rfl
  refine PySem.W.inplaceAdd_K I.kIn J J'.type hcd hm h1 h2 hs hf (wpAny_mono (wpAny_call (run_ok (us := [.ref a, .ref b]) (ws := [.ref a, .ref b]) F hb hr I.env0 hx I (.cons rfl (.cons rfl .nil)) q)) (fun r s' z => ?_) fun _ _ y => y)
  obtain ⟨z', H', I', rz, qz⟩ := z
  have ok : PySem.W.CmpBack (EP X pins σ Q) r s' := by
    cases r <;> first | exact ⟨z', H', I', rz, qz⟩ | (exfalso; cases z' <;> first | (obtain ⟨_, e⟩ := rz; cases e; done) | (cases rz; done))
  exact ok
end
section
variable {X : Cx} {CX : CXT} {C f : Addr} {fd : FuncData} {ps : List Str} {n : Nat} {sp : Sp} {E : L2.St → XK}
/-- run_ok, where what is let out is met at the slots -/
theorem run_okS {pins : List (Addr × Obj)} {σ : L2.St} {H : Hp} {s : Shared} {A : Around} {Q : VK} {us : List Value} {ws : List V} (F : FnOk X.prog X.w X.K X.mg X.base CX n f fd ps sp) (hb : Binds X.K fd ps []) (hr : Room n A) (e0 : Env0 X.prog X.w X.K X.mg X.base A X.stack s H) (hx : PassesAt CX X σ (E σ)) (I : Inv X pins σ H s) (r : Vals ws us) (h : sp ws H Q (E σ)) :
    codeAny (model X.prog X.w) A (.call (.ref f) ⟨us, []⟩) (fun r s' => match r with | .ok (.ret v) => EP X pins σ Q v s' | .ok _ => False | .error e => X.xe e s') s := by
  have hl := F.len _ _ _ _ h
  have b := hb s us I.kIn (by rw [List.append_nil, ← r.length]; exact hl)
  rw [List.append_nil] at b
  refine codeAny_mono (F.run A X.stack s H ⟨us, []⟩ us ws Q (E σ) hr e0 b r h) fun r s' hq => ?_
  rcases r with e | fl
  · exact hx pins H s e s' I hq
  cases fl <;> first | exact I.after hq | exact False.elim hq
def tMethS (C : Addr) (m : Str) (sp : Sp) (E : L2.St → XK) (ta : TE) (t : TA) : TE := fun σ H Q => ta σ H fun x H1 => ∃ a dx fs, x = .ref a ∧ H1 a = some (.ins C dx fs) ∧ fs.lookup m = none ∧ t σ H1 fun vs H2 => sp (x :: vs) H2 Q (E σ)
theorem pe_methE {m : Str} {o e : Expr} {es : List Expr} {ta : TE} {t : TA} {pos apos : Pos} {pl : Sem Bool} (he : PE X o ta) (c : Cls X.K C) (hm : Meth X.K C m f) (F : FnOk X.prog X.w X.K X.mg X.base CX n f fd ps sp) (hr : Room n X.A) (hb : Binds X.K fd ps []) (hx : ∀ σ, PassesAt CX X σ (E σ)) (ha : PA X (e :: es) t)
    (hst : starEach (e :: es) X.env = (false, eval e X.env) :: starEach es X.env := by rfl) (hpl : (backTo pos (starEach es X.env)).any (·.1) = false := by rfl)
    (ht : eval (.Call (.Attribute o m apos) (e :: es) [] pos) X.env = (do
      let ov ← eval o X.env
      standAt apos.atName
      let (f, first) ← holding [ov] (getMethod ov m pl)
      callWith pos f first (backTo pos (starEach (e :: es) X.env)) (backToKw pos (keywordEach [] X.env))) := by rfl) :
    PE X (.Call (.Attribute o m apos) (e :: es) [] pos) (tMethS C m sp E ta t) := by
  refine ⟨fun pins s σ H Q I h => ?_⟩
  refine PySem.W.methodCall_KW (pl := pl) (thn (he.run pins s σ H _ I h) fun u s1 ⟨x, H1, I1, rx, a, dx, fs, ex, ea, l, q⟩ => ?_) ht
  subst ex
  cases (show u = Value.ref a from rx)
  refine getmeth_ok I1 ea c hm l (PySem.W.callWith_K (first := [.ref a]) (h₀ := X.base) I.ok.mod.kin hm.kp (thn (ha.run pos pins s1 σ H1 _ I1 q) fun us s2 ⟨vs, H2, I2, r, q2⟩ => ⟨I2.kIn, ?_⟩) hst hpl)
  exact run_fnS (us := .ref a :: us) (vs := .ref a :: vs) F hr hb (hx σ) I2 (.cons rfl r) q2
def tIxOwnS (C : Addr) (sp : Sp) (E : L2.St → XK) (ta tb : TE) : TE := fun σ H Q => ta σ H fun x H1 => tb σ H1 fun y H2 => ∃ a dx fs, x = .ref a ∧ H2 a = some (.ins C dx fs) ∧ sp [.ref a, y] H2 Q (E σ)
theorem pe_ixOwnE {a b : Expr} {pos : Pos} {ta tb : TE} (hs : PySem.W.findIn X.K (.ref C) "__getitem__" = some (some (.ref f))) (hf : PySem.W.isFn X.K (.ref f) = true) (hfn : PySem.W.fnIn X.K f = true) (F : FnOk X.prog X.w X.K X.mg X.base CX n f fd ps sp) (hb : Binds X.K fd ps []) (hr : Room (n + 1) X.A) (hx : ∀ σ, PassesAt CX X σ (E σ))
    (ha : PE X a ta) (hb2 : PE X b tb) (hsl : ∀ v u, subscripted b true v u = runValue (.builtin "lifetime.subscript" ⟨[v, u], []⟩) := by intro _ _; rfl) : PE X (.Subscript a b pos) (tIxOwnS C sp E ta tb) := by
  refine ⟨fun pins s σ H Q I h => ?_⟩
  refine Subscript_ (thn (ha.run pins s σ H _ I h) fun v s1 ⟨x, H1, I1, rx, q1⟩ => thn (hb2.run pins s1 σ H1 _ I1 q1) fun u s2 ⟨y, H2, I2, ry, o, dx, fs, ex, ho, q⟩ => ?_)
  subst ex
  cases (show v = Value.ref o from rx)
  obtain ⟨mA, J, _⟩ := ins_get I2.hok ho
  obtain ⟨od, J, _⟩ := J.look
  obtain ⟨m, hF⟩ := I2.fr
  exact PySem.W.sub_K hF I2.ok.mod.kin J hs hfn hf (wpAny_call (run_okS (us := [.ref o, u]) (ws := [.ref o, y]) F hb (Room.in1 hr) I2.env0.in1 (hx σ) I2 (.cons rfl (.cons ry .nil)) q)) (hsl _ _)
end
end L2.Wk
/-! two sets of the same texts are equal -/
namespace L2.Wk
open PySem PySem.Spec PyProof.Rows
theorem entry_set_ne : entryFor table "set.__ne__" = some Builtin.«frozenset.__ne__» := entryFor_alias (id' := "frozenset.__ne__") (by kernel_rfl) rfl (by decide +kernel) (by kernel_rfl)
section
variable {prog : Program} {w : World} {A : Around} {E : Value → Shared → Prop} {s : Shared} {a b : Addr} {S : Str → Bool} {n : Nat}
theorem set_ne_body {R : Result → Shared → Prop} (ha : SetS w s.heap a S n) (hb : SetS w s.heap b S n) (k : R (.ok (.ret (.bool false))) s) :
    wpAny (model prog w) A.in1 (Builtin.«frozenset.__ne__» ⟨[.ref a, .ref b], []⟩) (GQ.FinOf prog w A R) (fun e s' => R (.error e) s') s := by
  obtain ⟨o, es, ep, t, ho, hex, hd, g, nd, hm, hbn, hf, hn, hr, hl⟩ := id ha
  obtain ⟨o2, es2, ep2, t2, ho2, hex2, hd2, g2, nd2, hm2, hbn2, hf2, hn2, hr2, hl2⟩ := id hb
  have f1 : isSubtype (.type "set") (.type "set") = pure true := by rw [isSubtype_type]; kernel_rfl
  have f2 : isSubtype (.type "set") (.type "frozenset") = pure false := by rw [isSubtype_type]; kernel_rfl
  have TA : s.TypeIs (.ref a) "set" := ⟨o, ho, hex.1⟩
  have TB : s.TypeIs (.ref b) "set" := ⟨o2, ho2, hex2.1⟩
  refine wpAny_bind (m := Builtin.Frozenset.slot1 "__ne__" ⟨[.ref a, .ref b], []⟩) ?_
  unfold Builtin.Frozenset.slot1
  obtain ⟨hp, gg, dd, tk, os⟩ := s
  dsimp only at ho ho2
  have hS2 := SetS.setOf (P := prog) hb
  wp_walk using wpAny_setState_of ho hd hf, wpAny_setState_of ho2 hd2 hf2, wpAny_loadPart' ho, wpAny_loadPart' ho2, wpAny_forIn_list _ (fun (rest : List (Int × Value)) (b : Option (List (Int × Value)) × Unit) s' => b = (none, ()) ∧ s' = ⟨hp, gg, dd, tk, os⟩ ∧ ∀ e ∈ rest, GoodS w e) _, wpAny_forIn_list _ (fun (rest : List (Int × Value)) (b : Option Bool × Unit) s' => b = (none, ()) ∧ s' = ⟨hp, gg, dd, tk, os⟩ ∧ ∀ e ∈ rest, GoodS w e ∧ S (keyS e) = true) _
  case turn =>
    rintro ⟨h0, x0⟩ rest b1 s1 ⟨rfl, rfl, hg⟩
    obtain ⟨k0, tk0, e1, e2⟩ := hg (h0, x0) (List.mem_cons_self ..)
    dsimp only at e1 e2
    subst e1
    refine wpAny_bind (m := Builtin.Frozenset.quietEq (Value.str k0 tk0)) (wpAny_pure ?_)
    exact wpAny_pure ⟨rfl, rfl, fun e he => hg e (List.mem_cons_of_mem _ he)⟩
  case h =>
    refine ⟨rfl, rfl, fun e he => ?_⟩
    rcases List.mem_append.mp he with he | he
    · exact g e he
    · exact g2 e he
  case fin =>
    rintro b1 s1 ⟨rfl, rfl, -⟩
    refine wpAny_pure ?_
    refine wpAny_bind ?_
    refine wpAny_forIn_list _ (fun (rest : List (Int × Value)) (b : Option Bool × Unit) s' => b = (none, ()) ∧ s' = ⟨hp, gg, dd, tk, os⟩ ∧ ∀ e ∈ rest, GoodS w e ∧ S (keyS e) = true) _ ?_ ?_ _ _ ⟨rfl, rfl, fun e he => ⟨g e he, (hm _).mpr (List.mem_map_of_mem he)⟩⟩
    · rintro ⟨h0, x0⟩ rest b1 s1 ⟨rfl, rfl, hg⟩
      obtain ⟨⟨k0, tk0, e1, e2⟩, hk⟩ := hg (h0, x0) (List.mem_cons_self ..)
      dsimp only at e1 e2
      subst e1
      subst e2
      have hk0 : S k0 = true := hk
      refine wpAny_bind (wpAny_holding (wpAny_setFind_of (knd := PySem.strKind prog w) (k := k0) (PySem.strKind_is prog w k0 tk0) rfl hS2 fun r hr => ?_))
      obtain ⟨i, rfl⟩ : ∃ i, r = some i := Option.isSome_iff_exists.mp (hr.trans hk0)
      wp_walk using wpAny_setState_of ho hd hf
      exact ⟨rfl, rfl, fun e he => hg e (List.mem_cons_of_mem _ he)⟩
    · rintro b1 s1 ⟨rfl, rfl, -⟩
      wp_walk
      exact k
theorem rc_set_ne {Q : Value → Shared → Prop} (hu : A.units < cLine) (ha : SetS w s.heap a S n) (hb : SetS w s.heap b S n) (k : Q (.bool false) s) : wpAny (model prog w) A (richCompare .NotEq (.ref a) (.ref b)) Q E s := by
  obtain ⟨o, es, ep, t, ho, hex, hd, _⟩ := id ha
  obtain ⟨o2, es2, ep2, t2, ho2, hex2, hd2, _⟩ := id hb
  refine wpAny_richCompare_same_room (op := .NotEq) ⟨_, ho, hex.1⟩ ⟨_, ho2, hex2.1⟩ F.slot_set_ne (GQ.call_here F.slot_set_ne ⟨_, ho, hex.1⟩ entry_set_ne (F.args_set_ne_2 _ _) ?_) hu
  exact set_ne_body (R := wants (fun v s' => v ≠ .notImplemented ∧ Q v s') E) ha hb ⟨(fun x => nomatch x), k⟩
theorem SetS.card {h : Heap} {S' : Str → Bool} {n' : Nat} (ha : SetS w h a S n) (hb : SetS w h b S' n') (e : ∀ k, S k = S' k) : n = n' := by
  obtain ⟨o, es, ep, t, ho, hex, hd, g, nd, hm, hbn, hf, hn, _⟩ := ha
  obtain ⟨o2, es2, ep2, t2, ho2, hex2, hd2, g2, nd2, hm2, hbn2, hf2, hn2, _⟩ := hb
  have l1 := few_len nd fun k hk => (hm2 k).mp (by rw [← e]; exact (hm k).mpr hk)
  have l2 := few_len nd2 fun k hk => (hm k).mp (by rw [e]; exact (hm2 k).mpr hk)
  rw [List.length_map, List.length_map, Array.length_toList, Array.length_toList] at l1 l2
  omega
end
section
variable {X : Cx}
def rSetNe (w : World) : R2 := fun x y H Q => ∃ (a b : Addr) (S S' : Str → Bool) (n n' : Nat), x = .ref a ∧ y = .ref b ∧ H a = some (SetT w a S n) ∧ H b = some (SetT w b S' n') ∧ (∀ k, S k = S' k) ∧ Q (.bl false) H
theorem op_setNe (hu : X.A.units < cLine) : OpR X (compareOp .NotEq) (rSetNe X.w) := by
  intro pins s σ H x y v u Q I rx ry hq
  obtain ⟨a, b, S, S', n, n', rfl, rfl, ha, hb, e, q⟩ := hq
  cases (show v = Value.ref a from rx)
  cases (show u = Value.ref b from ry)
  have R1 : SetS X.w s.heap a S n := (I.hok a _ ha).1
  have R2 : SetS X.w s.heap b S' n' := (I.hok b _ hb).1
  have en := SetS.card R1 R2 e
  subst en
  exact rc_set_ne hu R1 (R2.congr e) ⟨.bl false, H, I, rfl, q⟩
end
end L2.Wk
namespace L2.Wk
open PySem PySem.Spec PyProof.Rows
/-! ### a classmethod called off its class in a try -/
section
variable {X : Cx} {CX : CXT} {k : Nat} {C p g : Addr} {mc : Value} {sp : Sp} {E : L2.St → XK} {o e : Expr} {es : List Expr} {m : Str} {pos apos : Pos} {ta : TE} {t : TA} {pl : Sem Bool}
theorem run_fnRS {pins : List (Addr × Obj)} {σ : L2.St} {H : Hp} {s : Shared} {f : Addr} {Q : VK} {us : List Value} {vs : List V} (F : FnR X.prog X.w X.K X.mg X.base CX k f sp) (hr : Room k X.A) (hx : PassesAt CX X σ (E σ)) (I : Inv X pins σ H s) (r : Vals vs us) (h : sp vs H Q (E σ)) :
    codeAny (model X.prog X.w) X.A (.call (.ref f) ⟨us, []⟩) (fun r s' => match r with | .ok (.ret v) => EP X pins σ Q v s' | .ok _ => False | .error e => X.xe e s') s := by
  refine codeAny_mono (F X.A X.stack s H us vs Q (E σ) hr I.env0 r h) fun r s' hq => ?_
  cases r with
  | error e => exact hx pins H s e s' I hq
  | ok fl =>
    cases fl with
    | ret u => exact I.after hq
    | next => exact False.elim hq
    | brk => exact False.elim hq
    | cont => exact False.elim hq
theorem run_cmS {pins : List (Addr × Obj)} {σ : L2.St} {H : Hp} {s : Shared} {q : Addr} {Q : VK} {us : List Value} {vs : List V} (F : FnR X.prog X.w X.K X.mg X.base CX k g sp) (hr : Room k X.A) (hx : PassesAt CX X σ (E σ)) (I : Inv X ((q, PySem.W.methodObj (.ref g) (.ref C)) :: pins) σ H s)
    (r : Vals vs us) (h : sp (.ref C :: vs) H Q (E σ)) : wpAny (model X.prog X.w) X.A (call (.ref q) us) (EP X pins σ Q) X.xe s := by
  have z : wpAny (model X.prog X.w) X.A (call (.ref q) us) (EP X ((q, PySem.W.methodObj (.ref g) (.ref C)) :: pins) σ Q) X.xe s :=
    wpAny_call (PySem.W.method_call (ClX.pin_at I) (run_fnRS (us := .ref C :: us) (vs := .ref C :: vs) F hr hx I (.cons rfl r) h))
  exact thn z fun _ _ y => ClX.unpinE y
def tCMethS (C : Addr) (sp : Sp) (E : L2.St → XK) (ta : TE) (t : TA) : TE := fun σ H Q => ta σ H fun x H1 => x = .ref C ∧ t σ H1 fun vs H2 => sp (.ref C :: vs) H2 Q (E σ)
theorem pe_cmethS (he : PE X o ta) (r : ClX.CRead X.K C mc) (c : ClX.CMet X.K C mc m p g) (F : FnR X.prog X.w X.K X.mg X.base CX k g sp) (hr : Room k X.A) (hx : ∀ σ, PassesAt CX X σ (E σ)) (ha : PA X (e :: es) t)
    (hst : starEach (e :: es) X.env = (false, eval e X.env) :: starEach es X.env := by rfl) (hpl : (backTo pos (starEach es X.env)).any (·.1) = false := by rfl)
    (ht : eval (.Call (.Attribute o m apos) (e :: es) [] pos) X.env = (do
      let ov ← eval o X.env
      standAt apos.atName
      let (f, first) ← holding [ov] (getMethod ov m pl)
      callWith pos f first (backTo pos (starEach (e :: es) X.env)) (backToKw pos (keywordEach [] X.env))) := by rfl) :
    PE X (.Call (.Attribute o m apos) (e :: es) [] pos) (tCMethS C sp E ta t) := by
  refine ⟨fun pins s σ H Q I h => ?_⟩
  refine PySem.W.methodCall_KW (pl := pl) (thn (he.run pins s σ H _ I h) fun u s1 ⟨x, H1, I1, rx, ex, q⟩ => ?_) ht
  subst ex
  obtain rfl : u = Value.ref C := rx
  refine ClX.getmethcm_ok I1 r c fun s2 I2 => ?_
  refine ClX.callwith_cm I2 (ClX.base_none I1 (Nat.le_refl _)) c.fi (thn (ha.run pos _ s2 σ H1 _ I2 q) fun us s3 ⟨vs, H2, I3, rv, q2⟩ => ⟨⟨ClX.pin_at I3, I3.kIn⟩, ?_⟩) hst hpl
  exact run_cmS F hr (hx σ) I3 rv q2
end
/-! ### a written dict with text keys, asked within a comprehension -/
theorem op_notIn_kdK {X : Cx} {K : PySem.W.Frag} {w : World} {d : Addr} {es : Array DictEntry} {n : Nat} (h : X.K = K) (hw : X.w = w) (D : KDict K w d es n) : OpR X (compareOp .NotIn) (fun x y H Q => ∃ (z : Str) (r : Option Value), x = .str z ∧ y = .ref d ∧ PySem.W.nsIn K d z = some r ∧ Q (.bl (!r.isSome)) H) := by
  subst h
  subst hw
  exact op_notIn_kd D
theorem op_in_kdK {X : Cx} {K : PySem.W.Frag} {w : World} {d : Addr} {es : Array DictEntry} {n : Nat} (h : X.K = K) (hw : X.w = w) (D : KDict K w d es n) : OpR X (compareOp .In) (fun x y H Q => ∃ (z : Str) (r : Option Value), x = .str z ∧ y = .ref d ∧ PySem.W.nsIn K d z = some r ∧ Q (.bl r.isSome) H) := by
  subst h
  subst hw
  exact op_in_kd D
/-- what a written dict says of a text, read off its keys -/
theorem ns_miss {K : PySem.W.Frag} {d : Addr} {c : Value} {dd : Option Addr} {es : Array DictEntry} {n : Nat} {sl : Array (Option Value)} {ks : List (Str × Tok)} {z : Str} (hl : K.lookup d = some ⟨c, dd, .dict es n, sl⟩) (hk : es.toList.map (·.key) = ks.map fun p => Value.str p.1 p.2) (hz : z ∉ ks.map (·.1)) :
    PySem.W.nsIn K d z = some none := by
  have q : ∀ (l : List DictEntry) (ks : List (Str × Tok)), l.map (·.key) = ks.map (fun p => Value.str p.1 p.2) → z ∉ ks.map (·.1) → l.find? (·.key.isStr z) = none ∧ l.any (·.refKey) = false := by
    intro l
    induction l with
    | nil => intro ks _ _; exact ⟨rfl, rfl⟩
    | cons e l ih =>
      intro ks h hz
      cases ks with
      | nil => cases h
      | cons p ks =>
        rw [List.map_cons, List.map_cons] at h
        have h1 := (List.cons.inj h).1
        have h2 := (List.cons.inj h).2
        rw [List.map_cons] at hz
        have hz1 : z ≠ p.1 := fun e => hz (by rw [e]; exact List.mem_cons_self ..)
        obtain ⟨i1, i2⟩ := ih ks h2 fun m => hz (List.mem_cons_of_mem _ m)
        have e1 : e.key.isStr z = false := by
          rw [h1]
          cases hb : (Value.str p.1 p.2).isStr z with
          | false => rfl
          | true =>
            exfalso
            refine hz1 ?_
            have := hb
            unfold Value.isStr at this
            first
              | exact (beq_iff_eq.mp this).symm
              | exact beq_iff_eq.mp this
              | exact (of_decide_eq_true this).symm
              | exact of_decide_eq_true this
        have e2 : e.refKey = false := by
          unfold DictEntry.refKey
          rw [h1]
        refine ⟨by rw [List.find?_cons, e1]; exact i1, by rw [List.any_cons, e2, i2]; rfl⟩
  obtain ⟨q1, q2⟩ := q _ _ hk hz
  unfold PySem.W.nsIn
  rw [hl]
  dsimp only
  rw [q1]
  dsimp only
  rw [q2]
  rfl
end L2.Wk
namespace L2.Wk
open PySem PySem.Spec PyProof.Rows
/-- x is True, x is False: x any plain value or object -/
inductive Plain : V → Prop
  | non : Plain .non
  | bl (b : Bool) : Plain (.bl b)
  | int (i : Int) : Plain (.int i)
  | str (z : Str) : Plain (.str z)
  | ref (a : Addr) : Plain (.ref a)
def rIsBA : R2 := fun x y H Q => ∃ b : Bool, y = .bl b ∧ Plain x ∧ Q (.bl (decide (x = .bl b))) H
theorem op_isBlA {X : Cx} : OpR X (compareOp .Is) rIsBA := by
  intro pins s σ H x y v u Q I rx ry h
  obtain ⟨b, rfl, p, q⟩ := h
  cases (show u = Value.bool b from ry)
  cases p with
  | bl a =>
    cases (show v = Value.bool a from rx)
    by_cases e : a = b
    · subst e
      exact wpAny_is_self rfl ⟨.bl true, H, I, rfl, by simpa using q⟩
    · exact wpAny_is_other rfl (fun z => e (Value.bool.inj z)) ⟨.bl false, H, I, rfl, by simpa [e] using q⟩
  | non =>
    cases (show v = Value.none from rx)
    exact wpAny_is_other rfl (fun z => nomatch z) ⟨.bl false, H, I, rfl, by simpa using q⟩
  | int i =>
    obtain ⟨t, e⟩ := (show ∃ t, v = Value.int i t from rx)
    subst e
    exact wpAny_is_other rfl (fun z => nomatch z) ⟨.bl false, H, I, rfl, by simpa using q⟩
  | str z =>
    obtain ⟨t, e⟩ := (show ∃ t, v = Value.str z t from rx)
    subst e
    exact wpAny_is_other rfl (fun z => nomatch z) ⟨.bl false, H, I, rfl, by simpa using q⟩
  | ref a =>
    cases (show v = Value.ref a from rx)
    exact wpAny_is_other rfl (fun z => nomatch z) ⟨.bl false, H, I, rfl, by simpa using q⟩
/-- a comprehension over zip of two lists of one length -/
theorem lc_zipL {K : PySem.W.Frag} {a b : Addr} {xs ys : List V} {g : TG} {tt : TT} {te : TE} {vs : List Nat} {σ : L2.St} {H1 : Hp} {D : Addr} {Qd : Hp → Prop} (hl : xs.length = ys.length) (Pv : Nat → Hp → Prop) (h0 : Pv 0 (upd H1 D (.lst []))) (hq : ∀ i H, Pv i H → SqL K H a xs ∧ SqL K H b ys)
    (hs : ∀ i x y T H, xs[i]? = some x → ys[i]? = some y → Pv i H → H T = none → g (.ref T) (wipe σ vs) (upd H T (.tup [x, y])) fun σ2 H2 => wipe σ2 vs = wipe σ vs ∧ tt σ2 H2 fun b H3 =>
      if b = true then te σ2 H3 fun y H4 => ∃ acc, H4 D = some (.lst acc) ∧ acc.length < sizeLine ∧ Pv (i + 1) (upd H4 D (.lst (acc ++ [y]))) else Pv (i + 1) H3) (hd : ∀ H, Pv xs.length H → Qd H) :
    ∃ W : Nat → Nat → Hp → Prop, (∃ m, W 0 m (upd H1 D (.lst []))) ∧ ∀ i m H, W i m H →
      ((Itz K a b).stop i H ∧ Qd H) ∨ ((Itz K a b).go i H ∧ ∃ Nx : Hp → Prop, (∀ H', Nx H' → ∃ m', m' < m ∧ W (i + 1) m' H') ∧ ∀ x H', (Itz K a b).yld i H x H' → g x (wipe σ vs) H' fun σ2 H2 => wipe σ2 vs = wipe σ vs ∧ tt σ2 H2 fun b H3 =>
        if b = true then te σ2 H3 fun y H4 => ∃ acc, H4 D = some (.lst acc) ∧ acc.length < sizeLine ∧ Nx (upd H4 D (.lst (acc ++ [y]))) else Nx H3) := by
  refine ⟨fun i m H => m = xs.length - i ∧ i ≤ xs.length ∧ Pv i H, ⟨xs.length, by simp, Nat.zero_le _, h0⟩, ?_⟩
  rintro i m H ⟨rfl, hi, p⟩
  obtain ⟨qx, qy⟩ := hq i H p
  by_cases hlt : i < xs.length
  · have hx : xs[i]? = some xs[i] := List.getElem?_eq_getElem hlt
    have hlt2 : i < ys.length := by omega
    have hy : ys[i]? = some ys[i] := List.getElem?_eq_getElem hlt2
    refine .inr ⟨⟨xs, ys, _, _, qx, qy, hx, hy⟩, Pv (i + 1), fun H' p' => ⟨xs.length - (i + 1), by omega, rfl, hlt, p'⟩, fun v H' y => ?_⟩
    obtain ⟨T, x', y', rfl, hT, rfl, f1, f2⟩ := y
    exact hs i x' y' T H (f1 xs qx) (f2 ys qy) p hT
  · have e : i = xs.length := by omega
    subst e
    exact .inl ⟨⟨xs, ys, qx, qy, Or.inl (Nat.le_refl _)⟩, hd H p⟩
theorem fn_weak' {P : Program} {w : World} {K : PySem.W.Frag} {mg : Str → Option Value} {base : Heap} {CX : CXT} {k : Nat} {f : Addr} {fd : FuncData} {ps : List Str} {sp sp' : Sp} (F : FnOk P w K mg base CX k f fd ps sp) (h : ∀ vs H Q E, sp' vs H Q E → sp vs H Q E) : FnOk P w K mg base CX k f fd ps sp' :=
  ⟨fun vs H Q E q => F.len vs H Q E (h _ _ _ _ q), fun A outer s H args us vs Q E hr he hb hv q => F.run A outer s H args us vs Q E hr he hb hv (h _ _ _ _ q)⟩
end L2.Wk
namespace L2.Wk
open PySem PySem.Spec PyProof.Rows
def top (i : Nat) : Stmt := PySem.Challenge.pw_wakesafe_k12_bits_and_signals_refused.main.body.getD i (.Pass ⟨0, 0, 0, 0⟩)
abbrev s_is_name : Stmt := top 11
abbrev N_is_name : List Str := ["value", "letter"]
theorem sc_is_name : FnScope N_is_name ["value"] (defScope s_is_name) := ⟨rfl, rfl, rfl, by decide +kernel, rfl, by decide +kernel, by decide +kernel⟩
abbrev s_ascending : Stmt := top 12
abbrev N_ascending : List Str := ["names"]
theorem sc_ascending : FnScope N_ascending ["names"] (defScope s_ascending) := ⟨rfl, rfl, rfl, by decide +kernel, rfl, by decide +kernel, by decide +kernel⟩
def txts (l : List String) : List Str := l.map Str.ofString
def resV : List Str := txts ["any", "none", "ask", "idle", "tick", "dip", "kept", "go", "hold", "note"]
def lettersS : Str := "abcdefghijklmnopqrstuvwxyz"
def isName (z : Str) : Bool := !(inV (.str z) (resV.map V.str)) && (decide ((1 : Int) ≤ z.length) && decide ((z.length : Int) ≤ 4) && (z.cps.toList.map fun c => decide (c ∈ lettersS.cps.toList)).all id)
theorem flat_txts (l : List Str) : (l.map V.str).all flatV = true := by
  induction l with
  | nil => rfl
  | cons a l ih =>
    rw [List.map_cons, List.all_cons, ih]
    rfl
theorem len1000 {n : Nat} (h : n ≤ 1000) : n ≤ sizeLine := Nat.le_of_lt (small1000 h)
def spTxt (f : Str → Bool) : Sp := fun vs H Q _ => ∃ z : Str, vs = [.str z] ∧ z.length ≤ 1000 ∧ ∀ H', Same H H' → Q (.bl (f z)) H'
/-- what is no text is no name -/
def spNonStr (K : PySem.W.Frag) : Sp := fun vs H Q _ => ∃ (v : V) (t : Value), vs = [v] ∧ TyX K H v t ∧ PySem.W.kitOne K t (.type "str") = some false ∧ Q (.bl false) H
def spStrF (g : Str → Str) : Sp := fun vs H Q _ => ∃ z : Str, vs = [.str z] ∧ z.length ≤ 1000 ∧ ∀ H', Same H H' → Q (.str (g z)) H'
def spAsc (K : PySem.W.Frag) : Sp := fun vs H Q _ => ∃ (l : Addr) (xs : List Str), vs = [.ref l] ∧ SqL K H l (xs.map V.str) ∧ xs.length ≤ 4000 ∧ (∃ ds : List Str, (∀ x ∈ xs, x ∈ ds) ∧ ds.length < 64) ∧
  ∀ (t : Addr) (ys : List Str) (H' : Hp), SqT K H' t (ys.map V.str) → Asc ys xs → Same H H' → Q (.ref t) H'
structure Wf where
  RESERVED : Addr
  tLONGEST : Tok
  tLETTERS : Tok
  is_name : Addr
  ascending : Addr
structure TxtW (K : PySem.W.Frag) (mg : Str → Option Value) (a : Wf) : Prop where
  g_RESERVED : mg "RESERVED" = some (.ref a.RESERVED)
  s_RESERVED : ∀ H, SqT K H a.RESERVED (resV.map V.str)
  g_LONGEST : mg "LONGEST" = some (.int 4 a.tLONGEST)
  g_LETTERS : mg "LETTERS" = some (.str lettersS a.tLETTERS)
  b_isinstance : mg "isinstance" = none
  b_str : mg "str" = none
  b_len : mg "len" = none
  b_all : mg "all" = none
  b_tuple : mg "tuple" = none
  b_set : mg "set" = none
  b_sorted : mg "sorted" = none
  g_is_name : mg "is_name" = some (.ref a.is_name)
  k_is_name : PySem.W.keepIn K (.ref a.is_name) = true
  g_ascending : mg "ascending" = some (.ref a.ascending)
  k_ascending : PySem.W.keepIn K (.ref a.ascending) = true
section
variable {P : Program} {w : World} {K : PySem.W.Frag} {mg : Str → Option Value} {base : Heap} {a : Wf} {f : Addr} {fd : FuncData}
theorem ok_is_name (F : Fun K "is_name" "is_name" s_is_name f fd) (T : TxtW K mg a) : FnOk P w K mg base CX0 1 f fd ["value"] (spTxt isName) := by
  refine F.ok sc_is_name (fun vs H Q E h => ?_) (fun cdv A outer s H vs Q E hr h => ?_)
  · obtain ⟨z, rfl, _⟩ := h
    rfl
  · obtain ⟨z, rfl, hz, k⟩ := h
    refine ⟨_, (pss_cons (ps_if (PW.pt (pw_or (pt_not (pt_val (pe_callB call_isi (by rfl) T.b_isinstance (by decide +kernel) (pa_cons (pv 0) (pa_cons (pe_tyB (T := "str") (by rfl) T.b_str (by decide +kernel)) pa_nil))))) (pw_or1 (pt_cmpR op_in_seq (pv 0) (pe_gr rfl T.g_RESERVED) (by rfl))))) (pss_one (ps_ret pe_bl)) pss_nil)
    (pss_one (ps_ret (pe_and (pe_chain op_le op_le pe_int (pe_callB call_len (by rfl) T.b_len PySem.boot_len (pa_cons (pv 0) pa_nil)) (pe_gi rfl T.g_LONGEST)) (pe_one (pe_callB (cr_all rfl) (by rfl) T.b_all (by decide +kernel) (pa_cons (pe_lc (own := [("letter", 1)]) (g := gName 1) (tt := tYes) rfl sc_is_name.nd (pi_str (pv 0)) (blkOk_by (N := N_is_name) (sc := defScope s_is_name) (by decide +kernel)) (fun _ _ _ _ _ => (pg_name (i := 1) sc_is_name.nd rfl (Or.inl rfl))) (fun _ _ _ _ _ => pts_nil) (fun _ _ _ _ _ => (pe_cmpR op_in_sign (pv 1) (pe_gs rfl T.g_LETTERS) (by rfl)))) pa_nil))))))), ?_⟩
    refine ⟨_, rfl, _, _, _, _, true, rfl, .ty "str", .base (.str z), kit_ty (by decide +kernel), true, rfl, iteF ?_⟩
    refine ⟨_, rfl, _, _, rfl, .inr (T.s_RESERVED _), rfl, flat_txts _, _, rfl, ?_⟩
    show if inV (V.str z) (resV.map V.str) = true then _ else _
    cases e1 : inV (V.str z) (resV.map V.str) with
    | true =>
      refine iteT ?_
      have : isName z = false := by unfold isName; rw [e1]; rfl
      rw [← this]
      exact k _ (Same.refl _)
    | false =>
      refine iteF ?_
      refine ⟨_, rfl, _, _, rfl, ⟨len1000 hz, rfl⟩, _, _, rfl, rfl, _, rfl, ?_⟩
      by_cases h1 : (1 : Int) ≤ z.length
      · rw [decide_eq_true h1]
        refine iteT ?_
        refine ⟨_, _, rfl, rfl, _, rfl, ?_⟩
        by_cases h2 : (z.length : Int) ≤ 4
        · rw [decide_eq_true h2]
          refine iteT ?_
          refine ⟨_, rfl, z, rfl, fun D hD => ?_⟩
          refine lc_str (fun i H' => Same H H' ∧ H' D = some (.lst ((z.cps.toList.take i).map fun c => V.bl (decide (c ∈ lettersS.cps.toList))))) ⟨Same.upd_new hD, upd_same⟩ ?_ ?_
          · rintro i c H' hc ⟨s1, d1⟩
            refine ⟨rfl, ⟨_, rfl, _, _, rfl, rfl, _, d1, ?_, ?_, ?_⟩⟩
            · rw [List.length_map, List.length_take]
              exact Nat.lt_of_le_of_lt (Nat.min_le_left _ _) (Nat.lt_of_lt_of_le (by have := (Array.getElem?_eq_some_iff.mp hc).1; have e : z.length = z.cps.size := rfl; omega) (len1000 (Nat.le_refl 1000)))
            · intro b o e
              have := s1 b o e
              rw [upd_ne (ne_of_none e hD)]
              exact this
            · rw [take_succ_map _ (arr_list hc)]
              exact upd_same
          · rintro H' ⟨s1, d1⟩
            refine ⟨D, z.cps.toList.map fun c => decide (c ∈ lettersS.cps.toList), rfl, .inl (.inl ?_), ?_⟩
            · rw [d1, List.map_map]
              have e : z.cps.toList.take z.cps.size = z.cps.toList := by
                rw [List.take_of_length_le (by simp)]
              rw [e]
              rfl
            · have : isName z = (z.cps.toList.map fun c => decide (c ∈ lettersS.cps.toList)).all id := by
                unfold isName
                rw [e1, decide_eq_true h1, decide_eq_true h2]
                simp only [Bool.not_false, Bool.true_and]
              rw [← this]
              exact k _ s1
        · rw [decide_eq_false h2]
          refine iteF ?_
          have : isName z = false := by unfold isName; rw [decide_eq_false h2]; simp
          rw [← this]
          exact k _ (Same.refl _)
      · rw [decide_eq_false h1]
        refine iteF ⟨_, rfl, iteF ?_⟩
        have : isName z = false := by unfold isName; rw [decide_eq_false h1]; simp
        rw [← this]
        exact k _ (Same.refl _)
theorem ok_is_name_non (F : Fun K "is_name" "is_name" s_is_name f fd) (T : TxtW K mg a) : FnOk P w K mg base CX0 1 f fd ["value"] (spNonStr K) := by
  refine F.ok sc_is_name (fun vs H Q E h => ?_) (fun cdv A outer s H vs Q E hr h => ?_)
  · obtain ⟨_, _, rfl, _⟩ := h
    rfl
  · obtain ⟨v, t, rfl, ht, hk, k⟩ := h
    refine ⟨_, (pss_cons (ps_if (PW.pt (pw_or (pt_not (pt_val (pe_callB call_isi (by rfl) T.b_isinstance (by decide +kernel) (pa_cons (pv 0) (pa_cons (pe_tyB (T := "str") (by rfl) T.b_str (by decide +kernel)) pa_nil))))) (pw_or1 (pt_cmpR op_in_seq (pv 0) (pe_gr rfl T.g_RESERVED) (by rfl))))) (pss_one (ps_ret pe_bl)) pss_nil)
    (pss_one (ps_ret (pe_and (pe_chain op_le op_le pe_int (pe_callB call_len (by rfl) T.b_len PySem.boot_len (pa_cons (pv 0) pa_nil)) (pe_gi rfl T.g_LONGEST)) (pe_one (pe_callB (cr_all rfl) (by rfl) T.b_all (by decide +kernel) (pa_cons (pe_lc (own := [("letter", 1)]) (g := gName 1) (tt := tYes) rfl sc_is_name.nd (pi_str (pv 0)) (blkOk_by (N := N_is_name) (sc := defScope s_is_name) (by decide +kernel)) (fun _ _ _ _ _ => (pg_name (i := 1) sc_is_name.nd rfl (Or.inl rfl))) (fun _ _ _ _ _ => pts_nil) (fun _ _ _ _ _ => (pe_cmpR op_in_sign (pv 1) (pe_gs rfl T.g_LETTERS) (by rfl)))) pa_nil))))))), ?_⟩
    exact ⟨_, rfl, _, _, _, _, false, rfl, .ty "str", ht, hk, false, rfl, iteT k⟩
theorem ok_ascending (F : Fun K "ascending" "ascending" s_ascending f fd) (T : TxtW K mg a) : FnOk P w K mg base CX0 1 f fd ["names"] (spAsc K) := by
  refine F.ok sc_ascending (fun vs H Q E h => ?_) (fun cdv A outer s H vs Q E hr h => ?_)
  · obtain ⟨_, _, rfl, _⟩ := h
    rfl
  · obtain ⟨l, xs, rfl, hl, hx, ⟨ds, hds, hd64⟩, k⟩ := h
    refine ⟨_, (pss_one (ps_ret (pe_callTy call_tupS (by rfl) T.b_tuple (by decide +kernel) (pa_cons (pe_callB (cr_sortT rfl) (by rfl) T.b_sorted (by decide +kernel) (pa_cons (pe_callTy (cr_setB rfl) (by rfl) T.b_set (by decide +kernel) (pa_cons (pv 0) pa_nil)) pa_nil)) pa_nil)))), ?_⟩
    refine ⟨_, rfl, l, xs, rfl, hl, hx, fun p ks nd hk hp => ?_⟩
    have kl : ks.length < 64 := Nat.lt_of_le_of_lt (few_len nd fun x hx => hds x ((hk x).mp hx)) hd64
    refine ⟨p, _, _, rfl, upd_same, kl, fun ys o up nd2 hm hl2 ho => ?_⟩
    have s2 := (Same.upd_new (o := SetT w p (fun k => decide (k ∈ xs)) ks.length) hp).trans (Same.upd_new (o := .lst (ys.map V.str)) ho)
    refine ⟨o, _, rfl, .inl ⟨.inl (.inl upd_same), fun t ht => ?_⟩⟩
    refine k t ys _ (.inl (.inl upd_same)) ⟨up, nd2, fun z => ?_⟩ (s2.trans (Same.upd_new ht))
    rw [hm z, decide_eq_true_eq]
end
end L2.Wk
namespace L2.Wk
open PySem PySem.Spec PyProof.Rows
/-! ### the dealer of the laws of formulas and blocks: a dict -/
abbrev s_law_source : Stmt := top 38
abbrev N_law_source : List Str := ["_law_script", "_law_base", "_law_cells", "_law_stirred", "_law_cell"]
theorem sc_law_source : FnScope N_law_source ["_law_script", "_law_base"] (defScope s_law_source) := ⟨rfl, rfl, rfl, by decide +kernel, rfl, by decide +kernel, by decide +kernel⟩
abbrev s_law_draw : Stmt := top 39
abbrev N_law_draw : List Str := ["_law_deal", "_law_wide", "_law_great", "_law_cell"]
theorem sc_law_draw : FnScope N_law_draw ["_law_deal", "_law_wide"] (defScope s_law_draw) := ⟨rfl, rfl, rfl, by decide +kernel, rfl, by decide +kernel, by decide +kernel⟩
abbrev s_law_pick : Stmt := top 40
abbrev N_law_pick : List Str := ["_law_deal", "_law_some"]
theorem sc_law_pick : FnScope N_law_pick ["_law_deal", "_law_some"] (defScope s_law_pick) := ⟨rfl, rfl, rfl, by decide +kernel, rfl, by decide +kernel, by decide +kernel⟩
theorem dp_ints {K : PySem.W.Frag} {H : Hp} : ∀ ns : List Int, DpAll K H (ns.map V.int) (ns.map PyData.int)
  | [] => .nil
  | n :: ns => .cons (.int n) (dp_ints ns)
/-- xs != [] -/
theorem ne_nil {K : PySem.W.Frag} {H : Hp} {a p : Addr} {xs : List V} {ds : List PyData} {Q : VK} (h : SqL K H a xs) (hd : DpAll K H xs ds) (sh : SeqAt.shaped (.list ds) = true) (hp : H p = some (.lst [])) (q : Q (.bl (!xs.isEmpty)) H) :
    rNeD K (.ref a) (.ref p) H Q := by
  refine ⟨_, _, .lst h hd, .lst (.inl (.inl hp)) .nil, sh, (by decide +kernel), ?_⟩
  have e : (!PyData.eqv (.list ds) (.list [])) = !xs.isEmpty := by
    cases hd with
    | nil => simp [PyData.eqv, PyData.eqvAll]
    | cons _ _ => simp [PyData.eqv, PyData.eqvAll]
  rw [e]
  exact q
theorem get_map_int {ns : List Int} {i : Nat} {x : V} (h : (ns.map V.int)[i]? = some x) : ∃ n, ns[i]? = some n ∧ x = V.int n := by
  rw [List.getElem?_map] at h
  cases e : ns[i]? with
  | none => rw [e] at h; cases h
  | some z => rw [e] at h; exact ⟨z, rfl, (Option.some.inj h).symm⟩
theorem snoc {α : Type} (c : α) (cs : List α) : ∃ xs y, c :: cs = xs ++ [y] := ⟨(c :: cs).dropLast, (c :: cs).getLast (by simp), (List.dropLast_concat_getLast (by simp)).symm⟩
theorem Keep.upd_l {d l : Addr} {H : Hp} {o : HO} : Keep d l H (upd H l o) := fun p u e _ h2 => by rw [upd_ne h2]; exact e
theorem Keep.upd_d {d l : Addr} {H : Hp} {o : HO} : Keep d l H (upd H d o) := fun p u e h1 _ => by rw [upd_ne h1]; exact e
def gK : Key := .inr (Str.ofString "great")
def sK : Key := .inr (Str.ofString "stirred")
def dkA (l : Addr) (b : Int) : List (Key × V) := [(gK, .ref l), (sK, .int b)]
theorem gs_ne : ¬ gK = sK := by decide +kernel
theorem dkA_great (l : Addr) (b : Int) : valV (dkA l b) gK = some (.ref l) := valV_pos rfl
theorem dkA_stirred (l : Addr) (b : Int) : valV (dkA l b) sK = some (.int b) := by
  unfold dkA
  rw [valV_neg gs_ne]
  exact valV_pos rfl
theorem dkA_put (l : Addr) (b c : Int) : putK (dkA l b) sK (.int c) = dkA l c := by
  unfold putK dkA
  have e1 : decide (gK = sK) = false := decide_eq_false gs_ne
  simp [gs_ne]
structure DealA (H : Hp) (d l : Addr) : Prop where
  ex : ∃ (cs : List Int) (b : Int), H d = some (.dK (dkA l b)) ∧ H l = some (.lst (cs.map V.int)) ∧ (∀ c ∈ cs, 0 ≤ c) ∧ cs.length ≤ 63 ∧ 0 ≤ b ∧ b < 2147483647
theorem DealA.ne {H : Hp} {d l : Addr} (D : DealA H d l) : d ≠ l := by
  obtain ⟨cs, b, h1, h2, _⟩ := D.ex
  intro e
  rw [e, h2] at h1
  cases h1
theorem DealA.same {H H' : Hp} {d l : Addr} (D : DealA H d l) (s : Same H H') : DealA H' d l := by
  obtain ⟨cs, b, h1, h2, h⟩ := D.ex
  exact ⟨cs, b, s _ _ h1, s _ _ h2, h⟩
def spDrawA : Sp := fun vs H Q _ => ∃ (d l : Addr) (n : Int), vs = [.ref d, .int n] ∧ DealA H d l ∧ 0 < n ∧ n ≤ 1000 ∧ ∀ (r : Int) (H' : Hp), 0 ≤ r → r < n → DealA H' d l → Keep d l H H' → Q (.int r) H'
def DrawA (d l : Addr) (n b0 : Int) (H : Hp) (m : Nat) (σ : L2.St) (H' : Hp) : Prop := ∃ (cs : List Int), σ = [some (.ref d), some (.int n), some (.ref l), none] ∧ H' d = some (.dK (dkA l b0)) ∧ H' l = some (.lst (cs.map V.int)) ∧ (∀ c ∈ cs, 0 ≤ c) ∧ cs.length ≤ 63 ∧ m = cs.length ∧ Keep d l H H'
structure TxtDA (K : PySem.W.Frag) (mg : Str → Option Value) : Prop where
  b_int : mg "int" = none
section
variable {P : Program} {w : World} {K : PySem.W.Frag} {mg : Str → Option Value} {base : Heap} {f : Addr} {fd : FuncData}
theorem ok_drawA (F : Fun K "_law_draw" "_law_draw" s_law_draw f fd) (T : TxtDA K mg) : FnOk P w K mg base CX0 1 f fd ["_law_deal", "_law_wide"] spDrawA := by
  refine F.ok sc_law_draw (fun vs H Q E h => ?_) (fun cdv A outer s H vs Q E hr h => ?_)
  · obtain ⟨_, _, _, rfl, _⟩ := h
    rfl
  · obtain ⟨d, l, n, rfl, D, n1, n2, k⟩ := h
    obtain ⟨cs0, b0, hd0, hl0, c0, c1, q0, q1⟩ := D.ex
    have ndl : d ≠ l := D.ne
    have rest : ∃ t, PSs (cxOf CX0 P w K mg base N_law_draw "_law_draw" (defScope s_law_draw) f cdv A outer s H E).nox ((defBody s_law_draw).drop 2) t ∧
        ∀ (cs : List Int) (H1 : Hp), H1 d = some (.dK (dkA l b0)) → H1 l = some (.lst (cs.map V.int)) → (∀ c ∈ cs, 0 ≤ c) → cs.length ≤ 63 → Keep d l H H1 → t { nx := fun _ H' => Q .non H', rt := Q } [some (.ref d), some (.int n), some (.ref l), none] H1 := by
      refine ⟨_, (pss_cons (ps_if (pt_cmpR (op_neD hr.units) (pv 2) (pe_lst pa_nil) (nomark _)) (pss_cons (ps_set (i := 3) sc_law_draw.nd rfl (Or.inl rfl) (pe_bm0 PySem.F.plainAttrs_list PySem.F.slot_list_pop PySem.F.type_list_pop mt_pop (pv 2)))
    (pss_cons (ps_expr (pe_bm PySem.F.plainAttrs_list PySem.F.slot_list_append PySem.F.type_list_append mt_append (pv 2) (pa_cons (pe_op op_fdivN (pv 3) (pv 1)) pa_nil)))
    (pss_one (ps_ret (pe_op op_mod (pe_callTy call_int1 (by rfl) T.b_int (by decide +kernel) (pa_cons (pv 3) pa_nil)) (pv 1)))))) pss_nil)
    (pss_cons (ps_asg (pe_op op_mod (pe_callTy call_int1 (by rfl) T.b_int (by decide +kernel) (pa_cons (pe_op op_add (pe_op op_mul (pe_dget (Nat.lt_of_le_of_lt (Nat.add_le_add_left (by decide : 1 ≤ 64) _) hr.units) (pv 0) pe_str (fun _ _ => rfl)) pe_int) pe_int) pa_nil)) pe_int) (pg_sub (pv 0) pe_str (set_dict (Nat.lt_of_le_of_lt (Nat.add_le_add_left (by decide : 1 ≤ 64) _) hr.units))))
    (pss_one (ps_ret (pe_op op_mod (pe_callTy call_int1 (by rfl) T.b_int (by decide +kernel) (pa_cons (pe_op op_fdiv (pe_dget (Nat.lt_of_le_of_lt (Nat.add_le_add_left (by decide : 1 ≤ 64) _) hr.units) (pv 0) pe_str (fun _ _ => rfl)) pe_int) pa_nil)) (pv 1)))))), ?_⟩
      intro cs H1 hd hl c2 c3 kp
      refine ⟨_, rfl, by decide, fun p hp => ?_⟩
      have s2 : Same H1 (upd H1 p (.lst [])) := Same.upd_new hp
      refine ne_nil (.inl (.inl (s2 _ _ hl))) (dp_ints cs) (PySem.W.ke_shaped_ints cs) upd_same ⟨_, rfl, ?_⟩
      replace hd := s2 _ _ hd
      replace hl := s2 _ _ hl
      replace kp := kp.trans (Keep.same (d := d) (l := l) s2)
      generalize upd H1 p (.lst []) = H2 at hd hl kp
      cases cs with
      | nil =>
        refine iteF ?_
        have hS : ∀ {Hx : Hp} {b : Int}, Hx d = some (.dK (dkA l b)) → DGet Hx d (kV sK) (some (.int b)) := fun {Hx b} h => dkA_stirred l b ▸ DGet.k (k := sK) h
        refine ⟨_, rfl, d, .int b0, rfl, hS hd, _, _, rfl, rfl, .inl ⟨by omega, by omega⟩, _, _, rfl, rfl, .inl ⟨_, rfl, _, _, rfl, rfl, (by show (0 : Int) < 2147483647; decide), _, rfl, d, _, rfl, DPut.k (k := sK) hd (by show 2 < sizeLine; decide), ?_⟩⟩
        rw [dkA_put]
        refine ⟨_, rfl, d, .int _, rfl, hS upd_same, _, _, rfl, rfl, ⟨by decide, by decide⟩, .inl ⟨_, rfl, _, rfl, _, _, rfl, rfl, n1, ?_⟩⟩
        refine k _ _ (Int.emod_nonneg _ (by omega)) (Int.emod_lt_of_pos _ n1) ⟨⟨[], (b0 * 69621 + 31) % 2147483647, upd_same, ?_, c2, c3, Int.emod_nonneg _ (by decide), Int.emod_lt_of_pos _ (by decide)⟩⟩ (kp.trans Keep.upd_d)
        rw [upd_ne ndl.symm]
        exact hl
      | cons c cs =>
        refine iteT ?_
        obtain ⟨xs, y, e⟩ := snoc c cs
        rw [e] at hl c2 c3
        rw [List.map_append] at hl
        have hy0 : 0 ≤ y := c2 y (by simp)
        refine ⟨_, rfl, .inl ⟨rfl, _, .inl (.inl hl)⟩, l, _, .int y, rfl, rfl, hl, ?_, ?_⟩
        · rw [List.length_append, List.map_cons, List.map_nil]
          simp
        rw [List.map_cons, List.map_nil, List.dropLast_concat]
        have hd3 : (upd H2 l (.lst (xs.map V.int))) d = some (.dK (dkA l b0)) := by
          rw [upd_ne ndl]
          exact hd
        refine ⟨_, rfl, .inl ⟨rfl, _, .inl (.inl upd_same)⟩, _, rfl, _, rfl, _, _, rfl, rfl, ⟨by omega, by omega⟩, l, _, _, rfl, rfl, upd_same, ?_, ?_⟩
        · rw [List.length_map]
          rw [List.length_append] at c3
          exact small1000 (by omega)
        refine ⟨_, rfl, .inl ⟨_, rfl, _, rfl, _, _, rfl, rfl, n1, ?_⟩⟩
        refine k _ _ (Int.emod_nonneg _ (by omega)) (Int.emod_lt_of_pos _ n1) ⟨⟨xs ++ [y.fdiv n], b0, ?_, ?_, ?_, ?_, q0, q1⟩⟩ ((kp.trans Keep.upd_l).trans Keep.upd_l)
        · rw [upd_ne ndl]
          exact hd3
        · rw [List.map_append]
          exact upd_same
        · intro c hc
          rcases List.mem_append.mp hc with hc | hc
          · exact c2 c (List.mem_append_left _ hc)
          · rw [List.mem_singleton.mp hc, Int.fdiv_eq_ediv_of_nonneg _ (by omega)]
            exact Int.ediv_nonneg hy0 (by omega)
        · rw [List.length_append] at c3 ⊢
          exact c3
    obtain ⟨tr, hrest, krest⟩ := rest
    refine ⟨_, pss_cons (ps_set (i := 2) sc_law_draw.nd rfl (Or.inl rfl) (pe_dget (Nat.lt_of_le_of_lt (Nat.add_le_add_left (by decide : 1 ≤ 64) _) hr.units) (pv 0) pe_str (fun _ _ => rfl))) (pss_cons (ps_while PassesOwn.never (PW.pt (pw_and (pt_cmpR (op_neD hr.units) (pv 2) (pe_lst pa_nil) (nomark _)) (pw_and1 (pt_cmpR op_eq (pe_ix ix_list (pv 2) (pe_un un_neg pe_int) (fun _ _ => rfl)) pe_int (nomark _))))) (pss_one (ps_expr (pe_bm0 PySem.F.plainAttrs_list PySem.F.slot_list_pop PySem.F.type_list_pop mt_pop (pv 2))))) hrest), ?_⟩
    refine ⟨_, rfl, d, _, rfl, dkA_great l b0 ▸ DGet.k (k := gK) hd0, ?_⟩
    refine ⟨DrawA d l n b0 H, ⟨_, cs0, rfl, hd0, hl0, c0, c1, rfl, Keep.refl d l H⟩, ?_⟩
    rintro m σ H1 ⟨cs, rfl, hd, hl, c2, c3, rfl, kp⟩
    refine ⟨_, rfl, by decide, fun p hp => ?_⟩
    have s2 : Same H1 (upd H1 p (.lst [])) := Same.upd_new hp
    refine ne_nil (.inl (.inl (s2 _ _ hl))) (dp_ints cs) (PySem.W.ke_shaped_ints cs) upd_same ⟨_, rfl, ?_⟩
    replace hd := s2 _ _ hd
    replace hl := s2 _ _ hl
    replace kp := kp.trans (Keep.same (d := d) (l := l) s2)
    generalize upd H1 p (.lst []) = H2 at hd hl kp
    cases cs with
    | nil => exact iteF (iteF (krest [] H2 hd hl c2 c3 kp))
    | cons c cs =>
      refine iteT ?_
      obtain ⟨xs, y, e⟩ := snoc c cs
      rw [e] at hl c2 c3
      rw [List.map_append] at hl
      refine ⟨_, rfl, _, rfl, l, _, _, _, rfl, rfl, .inl (.inl hl), atI_last _ _, rfl, _, rfl, ?_⟩
      by_cases hy : V.int y = V.int 0
      · rw [decide_eq_true hy]
        refine iteT ⟨DrawA d l n b0 H xs.length, fun σ' H' w => ⟨_, ?_, w⟩, ?_⟩
        · rw [e, List.length_append]
          simp
        · refine ⟨_, rfl, .inl ⟨rfl, _, .inl (.inl hl)⟩, l, _, .int y, rfl, rfl, hl, ?_, xs, rfl, ?_, ?_, ?_, ?_, rfl, ?_⟩
          · rw [List.length_append, List.map_cons, List.map_nil]
            simp
          · rw [upd_ne ndl]
            exact hd
          · rw [List.map_cons, List.map_nil, List.dropLast_concat]
            exact upd_same
          · intro c hc
            exact c2 c (List.mem_append_left _ hc)
          · rw [List.length_append] at c3
            omega
          · exact kp.trans Keep.upd_l
      · rw [decide_eq_false hy]
        refine iteF (krest (xs ++ [y]) H2 hd (by rw [List.map_append]; exact hl) c2 c3 kp)
end
def spPickA (K : PySem.W.Frag) : Sp := fun vs H Q _ => ∃ (d l s : Addr) (xs : List V), vs = [.ref d, .ref s] ∧ DealA H d l ∧ H s = some (.lst xs) ∧ s ≠ d ∧ s ≠ l ∧ xs ≠ [] ∧ xs.length ≤ 1000 ∧ ∀ (v : V) (H' : Hp), v ∈ xs → DealA H' d l → Keep d l H H' → Q v H'
def spSourceA (K : PySem.W.Frag) : Sp := fun vs H Q _ => ∃ (s : Addr) (ns : List Int), vs = [.ref s, .int 0] ∧ SqL K H s (ns.map V.int) ∧ ns.length ≤ 63 ∧ ∀ (d l : Addr) (H' : Hp), H d = none → H l = none → DealA H' d l → Same H H' → Q (.ref d) H'
structure TxtDA2 (K : PySem.W.Frag) (mg : Str → Option Value) (dr : Addr) : Prop extends TxtDA K mg where
  b_len : mg "len" = none
  b_abs : mg "abs" = none
  g__law_draw : mg "_law_draw" = some (.ref dr)
  k__law_draw : PySem.W.keepIn K (.ref dr) = true
def absI (i : Int) : Int := if i < 0 then -i else i
theorem absI_nn (i : Int) : 0 ≤ absI i := by
  unfold absI
  split <;> omega
theorem dkA_merge (l : Addr) (b : Int) : mergeK [] [(gK, V.ref l), (sK, V.int b)] = dkA l b := by
  show putK (putK [] gK (V.ref l)) sK (V.int b) = _
  have e1 : putK ([] : List (Key × V)) gK (V.ref l) = [(gK, V.ref l)] := rfl
  rw [e1]
  unfold putK dkA
  simp [gs_ne]
theorem cut_62 {xs : List V} : cutV xs (some 0) (some 62) = xs.take 62 := by
  unfold cutV
  have e1 : HT.sIx xs.length 0 (some 0) = 0 := by
    have := HT.sIx_nat xs.length 0 0
    simpa using this
  have e2 : HT.sIx xs.length xs.length (some 62) = min 62 xs.length := HT.sIx_nat xs.length xs.length 62
  rw [e1, e2, List.drop_zero, Nat.sub_zero]
  exact List.take_eq_take_iff.mpr (by omega)
section
variable {P : Program} {w : World} {K : PySem.W.Frag} {mg : Str → Option Value} {base : Heap} {dr : Addr} {f : Addr} {fd : FuncData}
theorem ok_pickA {f1 : FuncData} (F : Fun K "_law_pick" "_law_pick" s_law_pick f fd) (T : TxtDA2 K mg dr) (G__law_draw : FnOk P w K mg base CX0 1 dr f1 ["_law_deal", "_law_wide"] spDrawA) (b__law_draw : Binds K f1 ["_law_deal", "_law_wide"] []) :
    FnOk P w K mg base CX0 2 f fd ["_law_deal", "_law_some"] (spPickA K) := by
  refine F.ok sc_law_pick (fun vs H Q E h => ?_) (fun cdv A outer s H vs Q E hr h => ?_)
  · obtain ⟨_, _, _, _, rfl, _⟩ := h
    rfl
  · obtain ⟨d, l, sa, xs, rfl, D, hs, e1, e2, hne, hlen, k⟩ := h
    refine ⟨_, (pss_one (ps_ret (pe_ix ix_list (pv 1) (pe_call G__law_draw (hr.mono (by decide)) rfl T.g__law_draw T.k__law_draw b__law_draw .nil pass0 (pa_cons (pv 0) (pa_cons (pe_callB call_len (by rfl) T.b_len PySem.boot_len (pa_cons (pv 1) pa_nil)) pa_nil))) (fun _ _ => rfl)))), ?_⟩
    have hl : 0 < xs.length := List.length_pos_iff.mpr hne
    refine ⟨_, rfl, _, rfl, _, rfl, _, xs.length, rfl, .inl ⟨_, .inl (.inl hs), rfl⟩, d, l, (xs.length : Int), rfl, D, by omega, by omega, fun r H' r1 r2 D' kp => ?_⟩
    obtain ⟨j, rfl⟩ := Int.eq_ofNat_of_zero_le r1
    have hj : j < xs.length := by omega
    refine ⟨_, _, _, xs[j], rfl, rfl, .inl (.inl (kp _ _ hs e1 e2)), atI_nat (List.getElem?_eq_getElem hj), ?_⟩
    exact k _ _ (List.getElem_mem hj) D' kp
theorem ok_sourceA (F : Fun K "_law_source" "_law_source" s_law_source f fd) (T : TxtDA2 K mg dr) : FnOk P w K mg base CX0 1 f fd ["_law_script", "_law_base"] (spSourceA K) := by
  refine F.ok sc_law_source (fun vs H Q E h => ?_) (fun cdv A outer s H vs Q E hr h => ?_)
  · obtain ⟨_, _, rfl, _⟩ := h
    rfl
  · obtain ⟨sa, ns0, rfl, hS, hlen, k⟩ := h
    refine ⟨_, (pss_cons (ps_setLc (i := 2) (own := [("_law_cell", 4)]) (g := gName 4) (tt := tYes) rfl sc_law_source.nd rfl rfl (sw_true rfl rfl rfl (by decide +kernel)) (pi_list (pe_slice sl_list (pv 0) (po_some (pv 1)) (po_some pe_int))) (blkOk_by (N := N_law_source) (sc := defScope s_law_source) (by decide +kernel)) (fun _ _ _ _ _ => (pg_name (i := 4) sc_law_source.nd rfl (Or.inl rfl))) (fun _ _ _ _ _ => pts_nil) (fun _ _ _ _ _ => (pe_callB call_abs (by rfl) T.b_abs (by decide +kernel) (pa_cons (pe_callTy call_int1 (by rfl) T.b_int (by decide +kernel) (pa_cons (pv 4) pa_nil)) pa_nil))))
    (pss_cons (ps_set (i := 3) sc_law_source.nd rfl (Or.inl rfl) (pe_op op_add pe_int (pe_op op_mul pe_int (pv 1))))
    (pss_cons (ps_for PassesOwn.never rfl (pi_list (pv 2)) (pg_name (i := 4) sc_law_source.nd rfl (Or.inl rfl))
      (pss_one (ps_set (i := 3) sc_law_source.nd rfl (Or.inl rfl) (pe_op op_mod (pe_callTy call_int1 (by rfl) T.b_int (by decide +kernel) (pa_cons (pe_op op_add (pe_op op_add (pe_op op_mul (pv 3) pe_int) (pe_op op_mod (pe_callTy call_int1 (by rfl) T.b_int (by decide +kernel) (pa_cons (pv 4) pa_nil)) pe_int)) pe_int) pa_nil)) pe_int))))
    (pss_one (ps_ret (pe_disp (pps_cons pe_str (pe_revL (pe_lc (own := [("_law_cell", 4)]) (g := gName 4) rfl sc_law_source.nd (pi_list (pv 2)) (blkOk_by (N := N_law_source) (sc := defScope s_law_source) (by decide +kernel)) (fun _ _ _ _ _ => (pg_name (i := 4) sc_law_source.nd rfl (Or.inl rfl))) (fun _ _ _ _ _ => (pts_one (pt_cmpR op_ge (pv 4) (pe_op op_pow pe_int pe_int) (nomark _)))) (fun _ _ _ _ _ => (pv 4)))) (pps_cons pe_str (pv 3) pps_nil)) rfl rfl (by simp) (by decide))))))), ?_⟩
    refine ⟨_, rfl, _, rfl, _, rfl, _, rfl, sa, _, rfl, hS, fun p hp => ?_⟩
    refine ⟨p, rfl, ⟨_, .inl (.inl upd_same)⟩, fun D hD => ?_⟩
    rw [cut_62, ← List.map_take] at hD ⊢
    generalize ens : ns0.take 62 = ns at hD ⊢
    have hlen' : ns.length ≤ 62 := by rw [← ens, List.length_take]; omega
    have s1 : Same H (upd H p (.lst (ns.map V.int))) := Same.upd_new hp
    have p1 : (upd H p (.lst (ns.map V.int))) p = some (.lst (ns.map V.int)) := upd_same
    generalize upd H p (.lst (ns.map V.int)) = H1 at s1 p1 hD ⊢
    refine lc_list (K := K) (a := p) (xs := ns.map V.int) (fun i H' => Same H1 H' ∧ H' D = some (.lst (((ns.take i).map absI).map V.int))) ⟨Same.upd_new hD, upd_same⟩ (fun i H' _ h => .inl (.inl (h.1 _ _ p1))) ?_ ?_
    · rintro i x H' hx ⟨t1, t2⟩
      obtain ⟨z, hz, rfl⟩ := get_map_int hx
      refine ⟨rfl, _, rfl, .inl ⟨_, rfl, _, rfl, _, t2, ?_, fun b o e => ?_, ?_⟩⟩
      · rw [List.length_map, List.length_map, List.length_take]
        exact small1000 (by omega)
      · rw [upd_ne (ne_of_none e hD)]
        exact t1 b o e
      · rw [take_succ_map _ hz, List.map_append]
        exact upd_same
    · rintro H2 ⟨t1, t2⟩
      rw [List.length_map, List.take_length] at t2
      replace s1 := s1.trans t1
      refine ⟨_, rfl, _, _, rfl, rfl, .inl ⟨by decide, by decide⟩, _, _, rfl, rfl, ?_⟩
      refine ⟨_, rfl, D, rfl, ⟨_, .inl (.inl t2)⟩, ?_⟩
      refine for_list (K := K) (a := D) (xs := (ns.map absI).map V.int) (fun i σ H' => ∃ (b : Int) (v : Option V), σ = [some (.ref sa), some (.int 0), some (.ref D), some (.int b), v] ∧ 0 ≤ b ∧ b < 2147483647 ∧ H' = H2) ⟨_, _, rfl, by decide, by decide, rfl⟩
        (fun i σ H' _ ⟨_, _, _, _, _, e⟩ => by rw [e]; exact .inl (.inl t2)) ?_ ?_
      · rintro i x σ H' hx ⟨b, v, rfl, b0, b1, rfl⟩
        obtain ⟨z, hz, rfl⟩ := get_map_int hx
        refine ⟨_, rfl, _, _, rfl, rfl, .inl ⟨by omega, by omega⟩, _, rfl, .inl ⟨_, rfl, _, _, rfl, rfl, (by show (0 : Int) < 2147483543; decide), _, _, rfl, rfl, _, _, rfl, rfl, .inl ⟨_, rfl, _, _, rfl, rfl, (by show (0 : Int) < 2147483647; decide), ?_⟩⟩⟩
        exact ⟨_, _, rfl, Int.emod_nonneg _ (by decide), Int.emod_lt_of_pos _ (by decide), rfl⟩
      · rintro σ H' ⟨b, v, rfl, b0, b1, rfl⟩
        refine fun pd hpd => ?_
        have sP := Same.upd_new (o := .dK []) hpd
        have hP : (upd H' pd (.dK [])) pd = some (.dK []) := upd_same
        have hpH : H pd = none := s1.free hpd
        generalize upd H' pd (.dK []) = HP at sP hP ⊢
        replace t2 := sP _ _ t2
        refine ⟨_, rfl, D, rfl, ⟨_, .inl (.inl t2)⟩, fun D2 hD2 => ?_⟩
        refine lc_list (K := K) (a := D) (xs := (ns.map absI).map V.int) (fun i H3 => Same HP H3 ∧ ∃ acc : List Int, H3 D2 = some (.lst (acc.map V.int)) ∧ (∀ c ∈ acc, 0 ≤ c) ∧ acc.length ≤ i) ⟨Same.upd_new hD2, [], upd_same, (fun _ h => by cases h), Nat.le_refl _⟩
          (fun i H3 _ h => .inl (.inl (h.1 _ _ t2))) ?_ ?_
        · rintro i x H3 hx ⟨u1, acc, u2, u3, u4⟩
          obtain ⟨z, hz, rfl⟩ := get_map_int hx
          have z0 : 0 ≤ z := by
            have := List.mem_of_getElem? hz
            obtain ⟨y, _, rfl⟩ := List.mem_map.mp this
            exact absI_nn y
          have hi : i < ns.length := by
            have := (List.getElem?_eq_some_iff.mp hz).1
            rw [List.length_map] at this
            exact this
          refine ⟨rfl, _, rfl, _, _, rfl, rfl, ⟨by decide, by decide, by decide⟩, _, _, rfl, rfl, _, rfl, ?_⟩
          refine ite2 (fun c => ?_) (fun c => ⟨u1, acc, u2, u3, by omega⟩)
          refine ⟨_, rfl, _, u2, ?_, ?_, acc ++ [z], ?_, ?_, ?_⟩
          · rw [List.length_map]
            exact small1000 (by omega)
          · intro b2 o e
            rw [upd_ne (ne_of_none e hD2)]
            exact u1 b2 o e
          · rw [List.map_append]
            exact upd_same
          · intro c hc
            rcases List.mem_append.mp hc with hc | hc
            · exact u3 c hc
            · rw [List.mem_singleton.mp hc]
              exact z0
          · rw [List.length_append]
            simp only [List.length_cons, List.length_nil]
            omega
        · rintro H3 ⟨u1, acc, u2, u3, u4⟩
          rw [List.length_map, List.length_map] at u4
          refine ⟨D2, _, rfl, .inl (.inl u2), fun l hl => ⟨_, rfl, ?_⟩⟩
          have hP3 := u1 _ _ hP
          have hlp : l ≠ pd := (ne_of_none hP3 hl).symm
          refine ⟨by rw [upd_ne hlp.symm]; exact hP3, [(gK, .ref l), (sK, .int b)], rfl, (by show 2 ≤ 15; decide), ?_⟩
          rw [dkA_merge]
          have sH : Same H H3 := (s1.trans sP).trans u1
          refine k pd l _ hpH (sH.free hl) ⟨⟨acc.reverse, b, upd_same, ?_, ?_, ?_, b0, b1⟩⟩ (fun a o e => ?_)
          · rw [upd_ne hlp, upd_same, List.map_reverse]
          · intro c hc
            exact u3 c (List.mem_reverse.mp hc)
          · rw [List.length_reverse]
            omega
          · rw [upd_ne (ne_of_none e hpH)]
            exact (Same.upd_new hl) _ _ (sH _ _ e)
end
end L2.Wk
namespace PySem
namespace LowX_InvalidFormula
open PySem.W PySem.Calls PyProof.Rows PySem.HandSPX
/-! ### the text of __init__ -/
def iA (p1 p2 : Pos) : Arguments := { posonlyargs := [], args := [{ arg := "self", annotation := none, pos := p1 }, { arg := "word", annotation := none, pos := p2 }], vararg := none, kwonlyargs := [], kw_defaults := [], kwarg := none, defaults := [] }
def iB (q1 q2 q3 q4 : Pos) : List Stmt := [.Assign [.Attribute (.Name "self" q1) "word" q2] (.Name "word" q3) q4]
def iS : Scope := { kind := .function, names := [(PySem.Str.ofString "self", .local), (PySem.Str.ofString "word", .local)], isGenerator := false, isCoroutine := false, more := [] }
/-- what the written part says of Low, at C, and of its __init__, at fI -/
structure LowTxt_InvalidFormula (K : Frag) (mg : Str → Option Value) (C fI : Addr) : Prop where
  gC : mg "InvalidFormula" = some (.ref C)
  cls : ∃ nm q N bs bm sn sub ab col dd k0 k1 k2 k3 k5, K.lookup C = some (excClassObj nm q C N bs bm true sn sub ab col dd k0 k1 k2 k3 k5 "ValueError.__new__") ∧ refsVE bm = true
  sa : findIn K (.ref C) "__setattr__" = some (some (.builtin "object.__setattr__"))
  ga : findIn K (.ref C) "__getattribute__" = some (some (.builtin "BaseException.__getattribute__"))
  gg : findIn K (.ref C) "__getattr__" = some none
  noN : findIn K (.ref C) "word" = some none
  iC : findIn K (.ref C) "__init__" = some (some (.ref fI))
  tC : typeIn K (.ref fI) = some (.type "function")
  kC : keepIn K (.ref C) = true
  exC : subIn K (.ref C) (.type "BaseException") = some true
  tyC : typeIn K (.ref C) = some (.type "type")
  hdC : hasDictIn K C = true
  te : exmOne K (.ref C) (.ref C) = some true
  fn : ∃ (oc : Value) (od : Option Addr) (doc pm : Value) (an : Option Addr) (cdv ct : Value) (osl : Array (Option Value)) (p1 p2 q1 q2 q3 q4 : Pos),
    K.lookup fI = some ⟨oc, od, .func (fnOf "__init__" "InvalidFormula.__init__" (iA p1 p2) (iB q1 q2 q3 q4) iS .none .none doc pm an cdv ct), osl⟩ ∧ codeIn K cdv "InvalidFormula.__init__" = true
theorem one_size_InvalidFormula (v : Value) : [v].length ≤ sizeLine := by
  rw [sizeLine_eq]
  exact (by decide : 1 ≤ 16777216)
theorem kept_but_InvalidFormula {K : Frag} {h h' : Heap} {x : Addr} (X : K.In h) (hx : K.lookup x = none) (k : ∀ b o, b ≠ x → h.get? b = some o → h'.get? b = some o) : K.In h' := fun a o e =>
  k a o (fun z => by rw [z, hx] at e; cases e) (X a o e)
theorem ldC_InvalidFormula {M : Model} {s : Shared} {name : Str} {scope : Scope} {L a : Addr} {cd : Value} {m : Str → Option Value} {x : Str} {pos : Pos} {v : Value} {Q : Value → Shared → Prop} {A : Around} {E : Value → Shared → Prop} (hn : s.heap.Ns L m) (hv : m x = some v) (h : Q v s)
    (hk : scope.kind = .function := by rfl) (hl : (envOfC name scope L a cd).kindOf x = some .local := by rfl) (hd : (x == ("__debug__" : Str)) = false := by decide) :
    wpAny M A (eval (.Name x pos) (envOfC name scope L a cd)) Q E s := wpAny_Name (wpAny_loadName_local hk hl hn hv h) hd
/-- what __init__ leaves of a fresh exception at x -/
structure InitEnd_InvalidFormula (h h' : Heap) (x C dx t1 : Addr) (v : Value) : Prop where
  keep : ∀ b o, b ≠ x → h.get? b = some o → h'.get? b = some o
  obj : h'.get? x = some { cls := .ref C, dict := some dx, data := .fields #[.ref t1, .none, .none, .none, .bool false, .none] }
  dbig : h.objs.size ≤ dx
  dne : dx ≠ x
  ns : h'.Ns1 dx (fun y => if y = "word" then some v else none)
structure OwnMade_InvalidFormula (h h' : Heap) (e C d : Addr) (v : Value) : Prop where
  keep : ∀ b o, h.get? b = some o → h'.get? b = some o
  new : h.objs.size ≤ e
  obj : ∃ oe vs, h'.get? e = some oe ∧ oe.cls = .ref C ∧ oe.dict = some d ∧ oe.data = .fields vs ∧ vs[1]? = some .none
  dbig : h.objs.size ≤ d
  dne : d ≠ e
  ns : h'.Ns1 d (fun y => if y = "word" then some v else none)
section
variable {prog : Program} {w : World} {A : Around} {E : Value → Shared → Prop} {R : Result → Shared → Prop} {s : Shared} {K : Frag} {mg : Str → Option Value} {C fI : Addr}
theorem low_init_InvalidFormula (T : LowTxt_InvalidFormula K mg C fI) {x t0 : Addr} {v : Value} (X : K.In s.heap) (hlim : s.heap.NoLimit) (hx : s.heap.get? x = some (excO C t0)) (hnx : K.lookup x = none) (hroom : A.depth < recursionLimit)
    (hq : ∀ h' tk dx, InitEnd_InvalidFormula s.heap h' x C dx t0 v → R (.ok (.ret .none)) { s with heap := h', toks := tk }) :
    codeAny (model prog w) A (.call (.ref fI) ⟨[.ref x, v], []⟩) R s := by
  obtain ⟨oc, od, doc, pm, an, cdv, ct, osl, p1, p2, q1, q2, q3, q4, ho, hcd⟩ := T.fn
  obtain ⟨nm, q, N, bs, bm, sn, sub, ab, col, dd, k0, k1, k2, k3, k5, hC, hbm⟩ := T.cls
  have hcl : clsIn K C = some { name := nm, bases := bs, mro := .ref C :: bm, ns := N, qualname := q, hasDict := true, slotNames := sn, subclasses := sub, abstract := ab, collection := col, hasDel := false } := by unfold clsIn; rw [hC] <;> rfl
  refine Att.call_fn (binds := [("self", .ref x), ("word", v)]) X hlim ho hcd hroom (BindsTo.of_eq (by first | rfl | with_unfolding_all rfl)) (by first | rfl | decide | with_unfolding_all rfl) (fun s₁ IC => ?_) rfl rfl rfl
  obtain ⟨h₁, tk₁, rfl⟩ := IC.toInCall.same
  have k : ∀ b o, s.heap.get? b = some o → h₁.get? b = some o := IC.toInCall.keep
  have hn := IC.toInCall.ns
  have hxL : s.heap.objs.size ≠ x := Nat.ne_of_gt (Heap.lt_size hx)
  have X₁ : K.In h₁ := X.keeps k
  have hx₁ := k _ _ hx
  -- self.by = by
  show wpAny _ _ (execs _ _) _ _ _
  refine wpAny_execs_cons (plainObj_wpAny_Assign_Attribute ?_)
  refine ldC_InvalidFormula (v := v) hn (by first | rfl | with_unfolding_all rfl | kernel_rfl) (ldC_InvalidFormula (v := .ref x) hn (by first | rfl | with_unfolding_all rfl | kernel_rfl) ?_)
  refine set_plain X₁ (ox := excO C t0) (od := none) ⟨hx₁, rfl, rfl, trivial⟩ T.sa ?_
  refine exc_osa X₁ hx₁ hcl (show refsVE (.ref C :: bm) = true from hbm) rfl T.noN (fun h₃ tk₃ dx k₃ dn dne hx₃ hn₃ => ?_)
  show wpAny _ _ (execs _ _) _ _ _
  have z : s.heap.objs.size < h₁.objs.size := hn.lt
  exact wpAny_execs_nil (hq h₃ tk₃ dx ⟨fun b o hb e => k₃ b o hb (k b o e), hx₃, Nat.le_of_lt (Nat.lt_of_lt_of_le z dn), dne, hn₃⟩)
theorem low_made_InvalidFormula (T : LowTxt_InvalidFormula K mg C fI) {v : Value} (X : K.In s.heap) (hlim : s.heap.NoLimit) (hroom : A.depth + 1 < recursionLimit)
    (hq : ∀ h' tk e d, OwnMade_InvalidFormula s.heap h' e C d v → R (.ok (.ret (.ref e))) { s with heap := h', toks := tk }) :
    codeAny (model prog w) A (.call (.ref C) ⟨[v], []⟩) R s := by
  obtain ⟨nm, q, N, bs, bm, sn, sub, ab, col, dd, k0, k1, k2, k3, k5, hC, hbm⟩ := T.cls
  obtain ⟨hp, g, dr, tk, os⟩ := s
  have k : ∀ b o, hp.get? b = some o → ((hp.push (kdv_tup [v])).push (excO C hp.objs.size)).get? b = some o := fun b o e => Heap.get?_push_of_some _ (Heap.get?_push_of_some _ e)
  have hget : ((hp.push (kdv_tup [v])).push (excO C hp.objs.size)).get? (hp.objs.size + 1) = some (excO C hp.objs.size) := by heap_get
  have hnx : K.lookup (hp.objs.size + 1) = none := by
    cases e : K.lookup (hp.objs.size + 1) with
    | none => rfl
    | some o =>
      have z : hp.get? (hp.objs.size + 1) = some o := X _ _ e
      exact absurd (Nat.lt_of_succ_lt (Heap.lt_size z)) (Nat.lt_irrefl _)
  refine call_own F.excBase_ValueError (fun X => refsVE_contains X bm hbm) (X _ _ hC) (looks_findIn X T.iC) (fun self => bind_fn X self T.tC) (one_size_InvalidFormula v) ?_
  refine low_init_InvalidFormula (s := ⟨(hp.push (kdv_tup [v])).push (excO C hp.objs.size), g, dr, tk, os⟩) T (X.keeps k) (hlim.keeps k) hget hnx ?_ fun h' tk' dx ⟨k', hx, dn, dne, hns⟩ => ?_
  · show A.depth + 1 < recursionLimit
    exact hroom
  · have old : ∀ b o, hp.get? b = some o → h'.get? b = some o := fun b o e => k' b o (Nat.ne_of_lt (Nat.lt_succ_of_lt (Heap.lt_size e))) (k b o e)
    have z : hp.objs.size + 1 + 1 ≤ dx := by
      first
        | (simpa only [Heap.size_push] using dn)
        | exact dn
        | (have q := dn; rw [Heap.size_push, Heap.size_push] at q; exact q)
    exact ⟨rfl, hq h' tk' (hp.objs.size + 1) dx ⟨old, Nat.le_succ _, ⟨_, _, hx, rfl, rfl, rfl, rfl⟩, Nat.le_trans (Nat.le_trans (Nat.le_succ _) (Nat.le_succ _)) z, dne, hns⟩⟩
end
end LowX_InvalidFormula
end PySem
namespace L2
open PySem PySem.Spec PyProof.Rows
theorem relO_low_InvalidFormula {v : V} {v' : Value} (r : RelV v v') (f : Str) : RelO (List.lookup f [(("word" : Str), v)]) (if f = "word" then some v' else none) := by
  by_cases hw : f = "word"
  · subst hw
    rw [if_pos rfl]
    have q : List.lookup ("word" : Str) [(("word" : Str), v)] = some v := by simp [List.lookup]
    rw [q]
    exact r
  · rw [if_neg hw]
    have qw : (f == ("word" : Str)) = false := by simpa using hw
    have q2 : List.lookup f [(("word" : Str), v)] = none := by simp [List.lookup, qw]
    rw [q2]
    trivial
section
variable {X : Cx} {C fI : Addr}
/-- Low(e) -/
def tMkLow_InvalidFormula (C : Addr) (ta : TA) : St → Hp → XK → Prop := fun σ H Q => ta σ H fun vs H1 => ∃ v, vs = [v] ∧ ∀ d, H1 d = none → Q (.ref C) (some d) (upd H1 d (.xd [(("word" : Str), v)]))
theorem pmk_low_InvalidFormula {a : Expr} {ta : TA} {p pos : Pos} {k : Nat} (T : PySem.LowX_InvalidFormula.LowTxt_InvalidFormula X.K X.mg C fI) (hr : Room k X.A) (ha : PA X [a] ta) (hg : Gl X "InvalidFormula" := by rfl)
    (he : starEach (a :: []) X.env = (false, eval a X.env) :: starEach [] X.env := by rfl) (hpl : (backTo pos (starEach [] X.env)).any (·.1) = false := by rfl) :
    PMk X (.Call (.Name "InvalidFormula" p) [a] [] pos) (tMkLow_InvalidFormula C ta) := by
  intro pins s σ H Q I h
  refine wpAny_Call_Name_kw (ld_glob I hg T.gC ?_)
  refine PySem.W.callWith_K (h₀ := X.base) I.ok.mod.kin T.kC (thn (ha.run pos pins s σ H _ I h) fun us s1 hh => ?_) he hpl
  obtain ⟨vs, H1, I1, r1, v, ev, q1⟩ := hh
  subst ev
  refine ⟨I1.kIn, ?_⟩
  cases r1 with
  | cons rv rn =>
    rename_i v' us'
    cases rn
    show wpAny _ _ (call (.ref C) [v']) _ _ _
    have hlim := I1.nolimit
    obtain ⟨hp, g, dr, tk, os⟩ := s1
    refine wpAny_call (PySem.LowX_InvalidFormula.low_made_InvalidFormula T I1.kIn hlim (by have := hr.dp; omega) fun h' tk' e d M => ?_)
    show MkP X pins σ Q (.ref e) ⟨h', g, dr, tk', os⟩
    obtain ⟨oe, fv, hoe, hc, hd, hdat, h1⟩ := M.obj
    have hns := M.ns
    obtain ⟨G', g1, g2⟩ := restrict h' fun b => decide (b ≠ e)
    have gk : ∀ b, b ≠ e → G'.get? b = h'.get? b := fun b hb => g1 b (decide_eq_true hb)
    have ge : G'.get? e = none := g2 e (by simp)
    have old : ∀ b o, hp.get? b = some o → G'.get? b = some o := fun b o q => (gk b (Nat.ne_of_lt (Nat.lt_of_lt_of_le (Heap.lt_size q) M.new))).trans (M.keep b o q)
    have ob : ObjOk X.prog X.w (upd H1 d (.xd [(("word" : Str), v)])) G' d (.xd [(("word" : Str), v)]) :=
      ⟨_, hns.at (fun o q => (gk d M.dne).trans q), fun f => relO_low_InvalidFormula rv f⟩
    have J : Inv X pins σ (upd H1 d (.xd [(("word" : Str), v)])) ⟨G', g, dr, tk', os⟩ := I1.laid (t' := tk') old M.dbig ob
    refine ⟨e, oe, fv, ⟨G', g, dr, tk', os⟩, _, .ref C, some d, rfl, J, fun b o q => ?_, ge, hoe, ⟨hc, hd⟩, hdat, h1, ?_, rfl, I1.bare, raises_own T.exC T.tyC, q1 d (I1.hok.fresh M.dbig)⟩
    · by_cases hb : b = e
      · have q' : G'.get? b = some o := q
        rw [hb, ge] at q'; cases q'
      · exact (gk b hb).symm.trans q
    · rw [upd_ne (Ne.symm M.dne)]
      exact I1.hok.fresh M.new
/-- raise Low(e) -/
def tRaiseLow_InvalidFormula (C : Addr) (W : WX) (ta : TA) : TS := fun _ σ H => tMkLow_InvalidFormula C ta σ H fun cls d H' => W cls d σ H'
theorem ps_raiseLow_InvalidFormula {a : Expr} {ta : TA} {W : WX} {p pos pos2 : Pos} {k : Nat} (hc : X.calm = true) (T : PySem.LowX_InvalidFormula.LowTxt_InvalidFormula X.K X.mg C fI) (hr : Room k X.A) (tk : Takes X W) (ha : PA X [a] ta) (hg : Gl X "InvalidFormula" := by rfl)
    (he : starEach (a :: []) X.env = (false, eval a X.env) :: starEach [] X.env := by rfl) (hpl : (backTo pos (starEach [] X.env)).any (·.1) = false := by rfl) :
    PS X (.Raise (some (.Call (.Name "InvalidFormula" p) [a] [] pos)) none pos2) (tRaiseLow_InvalidFormula C W ta) := ps_raise hc tk (pmk_low_InvalidFormula T hr ha hg he hpl)
/-- low.by, low the exception that the suite holds (at a; its class cls, its dict d) -/
def tByLow_InvalidFormula (C : Addr) (a : Addr) (cls : Value) (d : Option Addr) (te : TE) : TE := fun σ H Q => te σ H fun x H1 => x = .ref a ∧ cls = .ref C ∧ ∃ (dd : Addr) (v : V), d = some dd ∧ H1 dd = some (.xd [(("word" : Str), v)]) ∧ Q v H1
theorem pe_byLow_InvalidFormula {a : Addr} {oe : Obj} {cls : Value} {d : Option Addr} {pn : List (Addr × Obj)} {e : Expr} {te : TE} {pos : Pos} (T : PySem.LowX_InvalidFormula.LowTxt_InvalidFormula X.K X.mg C fI) (hz : Zc cls d oe) (hf : ∃ vs, oe.data = .fields vs) (he : PE (X.suite a ((a, oe) :: pn)) e te)
    (hb : attributeBase e "word" X.env (eval e X.env) = eval e X.env := by rfl) :
    PE (X.suite a ((a, oe) :: pn)) (.Attribute e "word" pos) (tByLow_InvalidFormula C a cls d te) := by
  refine ⟨fun pins s σ H Q I h => ?_⟩
  refine attr_of hb (thn (he.run pins s σ H _ I h) fun u s1 hh => ?_)
  obtain ⟨x, H1, I1, rx, ex, ec, dd, v, ed, ea, q⟩ := hh
  subst ex
  obtain rfl : u = Value.ref a := rx
  subst ec
  subst ed
  obtain ⟨ha, _⟩ := I1.pin (a, oe) (List.mem_append_left _ List.mem_cons_self)
  obtain ⟨vs, hd⟩ := hf
  have hx : ObjOk X.prog X.w H1 s1.heap dd (.xd [(("word" : Str), v)]) := I1.hok dd _ ea
  obtain ⟨mA, hns, hr⟩ := hx
  obtain ⟨od, ho, hl⟩ := lookIn_ns hns
  have l : List.lookup ("word" : Str) [(("word" : Str), v)] = some v := by simp [List.lookup]
  obtain ⟨u, hu, ru⟩ := RelO.some_of (v := v) (o := mA "word") (by rw [← l]; exact hr "word")
  have J : PySem.W.InstAt s1.heap a oe C (some od) := ⟨ha, hz.1, by unfold PySem.W.notCls; rw [hd] <;> rfl, by rw [hz.2]; exact ho⟩
  exact HandSPX.exc_get I1.kIn J T.ga T.gg T.exC (PySem.W.findObj_own T.hdC T.noN rfl (by rw [hl, hu])) (handed_of ru) ⟨v, H1, I1.tok _, ru, q⟩
end
end L2


namespace L2.Wk
open PySem PySem.Spec PyProof.Rows
abbrev s_Formula_init : Stmt := inClass (top 17) 0
abbrev N_Formula_init : List Str := ["self", "steps", "step"]
theorem sc_Formula_init : FnScope N_Formula_init ["self", "steps"] (defScope s_Formula_init) := ⟨rfl, rfl, rfl, by decide +kernel, rfl, by decide +kernel, by decide +kernel⟩
abbrev s_Formula_of : Stmt := inClass (top 17) 1
abbrev N_Formula_of : List Str := ["cls", "name"]
theorem sc_Formula_of : FnScope N_Formula_of ["cls", "name"] (defScope s_Formula_of) := ⟨rfl, rfl, rfl, by decide +kernel, rfl, by decide +kernel, by decide +kernel⟩
abbrev s_Formula_always : Stmt := inClass (top 17) 2
abbrev N_Formula_always : List Str := ["cls", "value"]
theorem sc_Formula_always : FnScope N_Formula_always ["cls", "value"] (defScope s_Formula_always) := ⟨rfl, rfl, rfl, by decide +kernel, rfl, by decide +kernel, by decide +kernel⟩
/-- an error of the class at S is caught by the class at C -/
theorem exm_two {K : PySem.W.Frag} {S C : Addr} (h1 : PySem.W.subIn K (.ref C) (.type "BaseException") = some true) (h2 : PySem.W.isClsIn K C = true) (h3 : PySem.W.typeIn K (.ref C) = some (.type "type")) (h4 : PySem.W.subIn K (.ref S) (.ref C) = some true) :
    PySem.W.exmOne K (.ref S) (.ref C) = some true := by
  have e1 : (PySem.W.subIn K (.ref C) (.type "BaseException") == some true) = true := by rw [h1] <;> rfl
  have e2 : ((PySem.W.clsIn K C).isSome && PySem.W.typeIn K (.ref C) == some (.type "type")) = true := by
    have h2' : (PySem.W.clsIn K C).isSome = true := h2
    rw [h2', h3] <;> rfl
  show (if (PySem.W.subIn K (.ref C) (.type "BaseException") == some true) = true then (if ((PySem.W.clsIn K C).isSome && PySem.W.typeIn K (.ref C) == some (.type "type")) = true then PySem.W.subIn K (.ref S) (.ref C) else none) else none) = some true
  rw [if_pos e1, if_pos e2]
  exact h4
/-! ### formulas of one step -/
def signsV : List Str := txts ["&", "|", "^", "~"]
def constV : List Str := txts ["0", "1"]
theorem putF_len_lt {f : Str} {v : V} : ∀ {l : List (Str × V)} {n : Nat}, l.length < n → (putF f v l).length < n + 1
  | [], n, h => by
    show 1 < n + 1
    simp only [List.length_nil] at h
    omega
  | (g, u) :: l, n, h => by
    unfold putF
    split
    · simp only [List.length_cons] at h ⊢
      omega
    · simp only [List.length_cons] at h ⊢
      cases n with
      | zero => omega
      | succ n =>
        have := putF_len_lt (f := f) (v := v) (l := l) (n := n) (by omega)
        omega
structure Fs where
  Formula : Addr
  fInit : Addr
  IF : Addr
  fIF : Addr
  SIGNS : Addr
  ses : Array DictEntry
  sn : Nat
  CONSTANTS : Addr
  pof : Addr
  fof : Addr
  pal : Addr
  fal : Addr
def formF (ts tn : Addr) : List (Str × V) := putF "names" (.ref tn) (putF "steps" (.ref ts) [])
/-- at p: a formula of the one word z -/
def Fo1 (K : PySem.W.Frag) (c : Fs) (H : Hp) (p : Addr) (z : Str) : Prop := ∃ (dx ts t0 tn : Addr) (ns : List Str), H p = some (.ins c.Formula dx (formF ts tn)) ∧ SqT K H ts [.ref t0] ∧ SqT K H t0 [.str z] ∧ SqT K H tn (ns.map V.str)
theorem Fo1.same {K : PySem.W.Frag} {c : Fs} {H H' : Hp} {p : Addr} {z : Str} (s : Same H H') : Fo1 K c H p z → Fo1 K c H' p z := fun ⟨dx, ts, t0, tn, ns, h1, h2, h3, h4⟩ => ⟨dx, ts, t0, tn, ns, s _ _ h1, Same.sqT s h2, Same.sqT s h3, Same.sqT s h4⟩
structure TxtF (K : PySem.W.Frag) (w : World) (mg : Str → Option Value) (a : Wf) (c : Fs) : Prop extends TxtW K mg a where
  low_InvalidFormula : PySem.LowX_InvalidFormula.LowTxt_InvalidFormula K mg c.IF c.fIF
  cl : Cls K c.Formula
  M : Mk K c.Formula c.fInit
  g_Formula : mg "Formula" = some (.ref c.Formula)
  g_SIGNS : mg "SIGNS" = some (.ref c.SIGNS)
  d_SIGNS : KDict K w c.SIGNS c.ses c.sn
  m_SIGNS : ∀ z, z ∉ signsV → PySem.W.nsIn K c.SIGNS z = some none
  g_CONSTANTS : mg "CONSTANTS" = some (.ref c.CONSTANTS)
  s_CONSTANTS : ∀ H, SqT K H c.CONSTANTS (constV.map V.str)
  n_steps : NoAttr K c.Formula "steps"
  n_names : NoAttr K c.Formula "names"
  b_bool : mg "bool" = none
/-- an instance written anew: the tuples stand -/
theorem SqT.upd_ins {K : PySem.W.Frag} {H : Hp} {p t C dx : Addr} {fs : List (Str × V)} {o : HO} {xs : List V} (hp : H p = some (.ins C dx fs)) (h : SqT K H t xs) : SqT K (upd H p o) t xs := by
  have q : ∀ u : HO, (∀ C dx fs, u ≠ .ins C dx fs) → H t = some u → (upd H p o) t = some u := fun u hu e => by
    have : t ≠ p := by
      intro e2
      rw [e2, hp] at e
      exact hu _ _ _ (Option.some.inj e).symm
    rw [upd_ne this]
    exact e
  rcases h with (h | ⟨ob, h⟩) | h
  · exact .inl (.inl (q _ (fun _ _ _ z => by cases z) h))
  · exact .inl (.inr ⟨ob, q _ (fun _ _ _ z => by cases z) h⟩)
  · exact .inr h
theorem made_same {H : Hp} {x dx C : Addr} (nx : H x = none) (nd : H dx = none) : Same H (upd (upd H dx (.own x)) x (.ins C dx [])) := fun b o e => by
  rw [upd_ne (ne_of_none e nx), upd_ne (ne_of_none e nd)]
  exact e
theorem made_keep {H H' : Hp} {x dx C : Addr} (nx : H x = none) (nd : H dx = none) (k : ∀ b o, (upd (upd H dx (.own x)) x (.ins C dx [])) b = some o → b ≠ x → H' b = some o) : Same H H' := fun b o e => k b o (made_same nx nd b o e) (ne_of_none e nx)
theorem ok_calm {P : Program} {w : World} {K : PySem.W.Frag} {mg : Str → Option Value} {base : Heap} {k : Nat} {f : Addr} {fd : FuncData} {ps : List Str} {sp sp' : Sp} (F : FnOk P w K mg base (L2.CX P w) k f fd ps sp)
    (h : ∀ vs H Q E, sp' vs H Q E → sp vs H Q (fun _ _ _ => False)) : FnOk P w K mg base CX0 k f fd ps sp' :=
  ⟨fun vs H Q E q => F.len vs H Q _ (h _ _ _ _ q), fun A outer s H args us vs Q E hr he hb hv hs => codeAny_mono (F.run A outer s H args us vs Q _ hr he hb hv (h _ _ _ _ hs)) fun r s' hq => by
    cases r with
    | ok fl => cases fl <;> exact hq
    | error e =>
      obtain ⟨_, _, _, _, _, _, _, _, _, _, _, _, z⟩ := hq
      exact z.elim⟩
def spF1 (K : PySem.W.Frag) (c : Fs) : Sp := fun vs H Q _ => ∃ (p dx ts t0 : Addr) (z : Str), vs = [.ref p, .ref ts] ∧ H p = some (.ins c.Formula dx []) ∧ SqT K H ts [.ref t0] ∧ SqT K H t0 [.str z] ∧ z ∉ signsV ∧ z.length ≤ 1000 ∧
  ∀ H', Fo1 K c H' p z → (∀ b o, H b = some o → b ≠ p → H' b = some o) → Q .non H'
/-- Formula.of(v) -/
def spOf (K : PySem.W.Frag) (c : Fs) : Sp := fun vs H Q E => ∃ v : V, vs = [.ref c.Formula, v] ∧
  ((∃ z : Str, v = .str z ∧ z.length ≤ 1000 ∧ (isName z = true → ∀ (p : Addr) (H' : Hp), H p = none → Fo1 K c H' p z → Same H H' → Q (.ref p) H') ∧
    (isName z = false → ∀ (d : Addr) (H' : Hp), Same H H' → H' d = some (.xd [("word", .str "name")]) → E (.ref c.IF) (some d) H')) ∨
  (∃ t : Value, TyX K H v t ∧ PySem.W.kitOne K t (.type "str") = some false ∧ ∀ (d : Addr) (H' : Hp), Same H H' → H' d = some (.xd [("word", .str "name")]) → E (.ref c.IF) (some d) H'))
/-- Formula.always(v) -/
def spAl (K : PySem.W.Frag) (c : Fs) : Sp := fun vs H Q E => ∃ v : V, vs = [.ref c.Formula, v] ∧
  ((∃ b : Bool, v = .bl b ∧ ∀ (p : Addr) (H' : Hp), H p = none → Fo1 K c H' p (if b = true then Str.ofString "1" else Str.ofString "0") → Same H H' → Q (.ref p) H') ∨
  (∃ t : Value, TyX K H v t ∧ PySem.W.kitOne K t (.type "bool") = some false ∧ ∀ (d : Addr) (H' : Hp), Same H H' → H' d = some (.xd [("word", .str "value")]) → E (.ref c.IF) (some d) H'))
theorem name_no_sign {z : Str} (h : isName z = true) : z ∉ signsV := by
  intro m
  have : ∀ y ∈ signsV, isName y = false := by decide +kernel
  rw [this z m] at h
  cases h
section
variable {P : Program} {w : World} {K : PySem.W.Frag} {mg : Str → Option Value} {base : Heap} {a : Wf} {c : Fs} {f : Addr} {fd : FuncData}
theorem ok_Formula {f1 : FuncData} (F : Fun K "__init__" "Formula.__init__" s_Formula_init f fd) (T : TxtF K w mg a c) (G_ascending : FnOk P w K mg base CX0 1 a.ascending f1 ["names"] (spAsc K)) (b_ascending : Binds K f1 ["names"] []) :
    FnOk P w K mg base CX0 2 f fd ["self", "steps"] (spF1 K c) := by
  refine F.ok sc_Formula_init (fun vs H Q E h => ?_) (fun cdv A outer s H vs Q E hr h => ?_)
  · obtain ⟨_, _, _, _, _, rfl, _⟩ := h
    rfl
  · obtain ⟨p, dx, ts, t0, z, rfl, hp, hts, ht0, hz, hzl, k⟩ := h
    refine ⟨_, (pss_cons (ps_fld (pv 0) (pv 1) rfl)
    (pss_one (ps_fld (pv 0) (pe_call G_ascending (hr.mono (by decide)) rfl T.g_ascending T.k_ascending b_ascending .nil pass0 (pa_cons (pe_lc (own := [("step", 2)]) (g := gName 2) rfl sc_Formula_init.nd (pi_tup (pv 1)) (blkOk_by (N := N_Formula_init) (sc := defScope s_Formula_init) (by decide +kernel)) (fun _ _ _ _ _ => (pg_name (i := 2) sc_Formula_init.nd rfl (Or.inl rfl))) (fun _ _ _ _ _ => (pts_one (PW.pt (pw_and (pt_cmpR (op_notIn_kdK (K := K) rfl rfl T.d_SIGNS) (pe_ix (ix_tupK (K := K) rfl) (pv 2) pe_int (fun _ _ => rfl)) (pe_gr rfl T.g_SIGNS) (by rfl)) (pw_and1 (pt_cmpR (op_notIn_seqK (K := K) rfl) (pe_ix (ix_tupK (K := K) rfl) (pv 2) pe_int (fun _ _ => rfl)) (pe_gr rfl T.g_CONSTANTS) (by rfl))))))) (fun _ _ _ _ _ => (pe_ix (ix_tupK (K := K) rfl) (pv 2) pe_int (fun _ _ => rfl)))) pa_nil)) rfl))), ?_⟩
    refine ⟨_, rfl, _, rfl, p, c.Formula, dx, _, rfl, hp, T.cl, T.n_steps, (by show 0 < 1000; decide), ?_⟩
    have hp1 : (upd H p (.ins c.Formula dx (putF "steps" (.ref ts) []))) p = some (.ins c.Formula dx (putF "steps" (.ref ts) [])) := upd_same
    have k1 : ∀ b o, H b = some o → b ≠ p → (upd H p (.ins c.Formula dx (putF "steps" (.ref ts) []))) b = some o := fun b o e ne => by rw [upd_ne ne]; exact e
    replace hts := SqT.upd_ins (o := .ins c.Formula dx (putF "steps" (.ref ts) [])) hp hts
    replace ht0 := SqT.upd_ins (o := .ins c.Formula dx (putF "steps" (.ref ts) [])) hp ht0
    generalize upd H p (.ins c.Formula dx (putF "steps" (.ref ts) [])) = H1 at hp1 k1 hts ht0 ⊢
    refine ⟨_, rfl, ts, rfl, ⟨_, hts⟩, fun D hD => ?_⟩
    refine lc_tup (K := K) (a := ts) (xs := [V.ref t0]) (fun i H' => Same H1 H' ∧ ∃ ns : List Str, H' D = some (.lst (ns.map V.str)) ∧ ns.length ≤ i) ⟨Same.upd_new hD, [], upd_same, Nat.le_refl _⟩ (fun i H' _ h => Same.sqT h.1 hts) ?_ ?_
    · rintro i x H' hx ⟨s1, ns, d1, d2⟩
      have ex : x = .ref t0 := by
        cases i with
        | zero => exact (Option.some.inj hx).symm
        | succ i => cases hx
      subst ex
      have h0 := Same.sqT s1 ht0
      refine ⟨rfl, ?_⟩
      refine ⟨_, rfl, _, _, _, _, rfl, rfl, h0, atI_nat (j := 0) rfl, z, none, rfl, rfl, T.m_SIGNS z hz, _, rfl, ?_⟩
      refine iteT ?_
      refine ⟨_, rfl, _, _, _, _, rfl, rfl, h0, atI_nat (j := 0) rfl, _, _, rfl, .inr (T.s_CONSTANTS _), rfl, flat_txts _, _, rfl, ?_⟩
      show if (!inV (V.str z) (constV.map V.str)) = true then _ else _
      refine ite_bool (fun _ => ?_) (fun _ => ⟨s1, ns, d1, by omega⟩)
      refine ⟨_, rfl, _, _, _, _, rfl, rfl, h0, atI_nat (j := 0) rfl, _, d1, ?_, ?_, ns ++ [z], ?_, ?_⟩
      · rw [List.length_map]
        have hi : i < 1 := by
          have := (List.getElem?_eq_some_iff.mp hx).1
          simpa using this
        exact small1000 (by omega)
      · intro b o e
        rw [upd_ne (ne_of_none e hD)]
        exact s1 b o e
      · rw [List.map_append]
        exact upd_same
      · rw [List.length_append]
        show ns.length + 1 ≤ i + 1
        omega
    · rintro H2 ⟨s1, ns, d1, d2⟩
      have d2' : ns.length ≤ 1 := d2
      refine ⟨D, ns, rfl, .inl (.inl d1), by omega, ⟨ns, fun x hx => hx, by omega⟩, fun tn ys H3 ht _ s3 => ?_⟩
      have s13 := s1.trans s3
      have hp3 := s13 _ _ hp1
      refine ⟨_, rfl, p, c.Formula, dx, _, rfl, hp3, T.cl, T.n_names, putF_len_lt (by show 0 < 999; decide), ?_⟩
      refine k _ ⟨dx, ts, t0, tn, ys, upd_same, SqT.upd_ins hp3 (Same.sqT s13 hts), SqT.upd_ins hp3 (Same.sqT s13 ht0), SqT.upd_ins hp3 ht⟩ fun b o e ne => ?_
      rw [upd_ne ne]
      exact s13 _ _ (k1 b o e ne)
theorem ok_of {f1 f2 : FuncData} (F : Fun K "of" "Formula.of" s_Formula_of f fd) (T : TxtF K w mg a c) (G_is_name : FnOk P w K mg base CX0 1 a.is_name f1 ["value"] (fun vs H Q E => spTxt isName vs H Q E ∨ spNonStr K vs H Q E)) (b_is_name : Binds K f1 ["value"] [])
    (G_Formula : FnOk P w K mg base CX0 2 c.fInit f2 ["self", "steps"] (spF1 K c)) (b_Formula : Binds K f2 ["self", "steps"] []) :
    FnOk P w K mg base (L2.CX P w) 4 f fd ["cls", "name"] (spOf K c) := by
  have M_Formula := T.M
  refine F.okX sc_Formula_of (fun vs H Q E h => ?_) (fun cdv A outer s H vs Q E hr h => ?_)
  · obtain ⟨_, rfl, _⟩ := h
    rfl
  · obtain ⟨v, rfl, h⟩ := h
    refine ⟨_, (pss_cons (ps_if (pt_not (pt_val (pe_call G_is_name (hr.mono (by decide)) rfl T.g_is_name T.k_is_name b_is_name .nil pass0 (pa_cons (pv 1) pa_nil)))) (pss_one (ps_raiseLow_InvalidFormula rfl T.low_InvalidFormula hr (takes_of rfl rfl rfl rfl) (pa_cons pe_str pa_nil))) pss_nil)
    (pss_one (ps_ret (pe_makeL (i := 0) M_Formula G_Formula (hr.mono (by decide)) rfl (Or.inl rfl) b_Formula .nil (E := fun _ => E0) at0 (pa_cons (pe_tup (pa_cons (pe_tup (pa_cons (pv 1) pa_nil)) pa_nil)) pa_nil))))), ?_⟩
    rcases h with ⟨z, rfl, hz, k1, k2⟩ | ⟨t, ht, hk, k2⟩
    · refine ⟨_, rfl, .inl ⟨z, rfl, hz, fun H1 s1 => ⟨_, rfl, ?_⟩⟩⟩
      cases e : isName z with
      | false => exact iteT ⟨_, rfl, fun d hd => k2 e d _ (s1.trans (Same.upd_new hd)) upd_same⟩
      | true =>
        refine iteF ⟨rfl, _, rfl, (by show 1 ≤ sizeLine; decide), fun t0 ht0 => ⟨(by show 1 ≤ sizeLine; decide), fun ts hts => fun p dx np nd ne => ?_⟩⟩
        have sA := s1.trans (Same.upd_new (o := .tup [V.str z]) ht0)
        have h0 : (upd H1 t0 (.tup [V.str z])) t0 = some (.tup [V.str z]) := upd_same
        generalize upd H1 t0 (.tup [V.str z]) = H2 at sA h0 hts np nd ⊢
        have sB := sA.trans (Same.upd_new (o := .tup [V.ref t0]) hts)
        have h1 : (upd H2 ts (.tup [V.ref t0])) ts = some (.tup [V.ref t0]) := upd_same
        have h0' := (Same.upd_new (o := .tup [V.ref t0]) hts) _ _ h0
        generalize upd H2 ts (.tup [V.ref t0]) = H3 at sB h1 h0' np nd ⊢
        have s' := made_same (C := c.Formula) np nd
        refine ⟨p, dx, ts, t0, z, rfl, upd_same, .inl (.inl (s' _ _ h1)), .inl (.inl (s' _ _ h0')), name_no_sign e, hz, fun H' q1 q2 => ⟨rfl, ?_⟩⟩
        exact k1 e p H' (sB.free np) q1 (sB.trans (made_keep np nd q2))
    · refine ⟨_, rfl, .inr ⟨_, t, rfl, ht, hk, ⟨_, rfl, ?_⟩⟩⟩
      exact iteT ⟨_, rfl, fun d hd => k2 d _ (Same.upd_new hd) upd_same⟩
theorem ok_always {f2 : FuncData} (F : Fun K "always" "Formula.always" s_Formula_always f fd) (T : TxtF K w mg a c)
    (G_Formula : FnOk P w K mg base CX0 2 c.fInit f2 ["self", "steps"] (spF1 K c)) (b_Formula : Binds K f2 ["self", "steps"] []) :
    FnOk P w K mg base (L2.CX P w) 4 f fd ["cls", "value"] (spAl K c) := by
  have M_Formula := T.M
  refine F.okX sc_Formula_always (fun vs H Q E h => ?_) (fun cdv A outer s H vs Q E hr h => ?_)
  · obtain ⟨_, rfl, _⟩ := h
    rfl
  · obtain ⟨v, rfl, h⟩ := h
    refine ⟨_, (pss_cons (ps_if (pt_not (pt_val (pe_callB call_isi (by rfl) T.b_isinstance (by decide +kernel) (pa_cons (pv 1) (pa_cons (pe_tyB (T := "bool") (by rfl) T.b_bool (by decide +kernel)) pa_nil))))) (pss_one (ps_raiseLow_InvalidFormula rfl T.low_InvalidFormula hr (takes_of rfl rfl rfl rfl) (pa_cons pe_str pa_nil))) pss_nil)
    (pss_one (ps_ret (pe_makeL (i := 0) M_Formula G_Formula (hr.mono (by decide)) rfl (Or.inl rfl) b_Formula .nil (E := fun _ => E0) at0 (pa_cons (pe_tup (pa_cons (pe_tup (pa_cons (pe_ifExp (pt_truth (pv 1) (by intro _; rfl)) pe_str pe_str) pa_nil)) pa_nil)) pa_nil))))), ?_⟩
    rcases h with ⟨b, rfl, k1⟩ | ⟨t, ht, hk, k2⟩
    · refine ⟨_, rfl, _, _, _, _, true, rfl, .ty "bool", .base (.bl b), kit_ty (by decide +kernel), true, rfl, iteF ⟨rfl, ?_⟩⟩
      have rest : ∀ (z : Str), z ∈ constV → (∀ (p : Addr) (H' : Hp), H p = none → Fo1 K c H' p z → Same H H' → Q (.ref p) H') → (1 ≤ sizeLine ∧ ∀ t0, H t0 = none → (1 ≤ sizeLine ∧ ∀ ts, (upd H t0 (.tup [V.str z])) ts = none → ∀ p dx, (upd (upd H t0 (.tup [V.str z])) ts (.tup [V.ref t0])) p = none → (upd (upd H t0 (.tup [V.str z])) ts (.tup [V.ref t0])) dx = none → dx ≠ p →
          spF1 K c [.ref p, .ref ts] (upd (upd (upd (upd H t0 (.tup [V.str z])) ts (.tup [V.ref t0])) dx (.own p)) p (.ins c.Formula dx [])) (fun v H2 => v = .non ∧ Q (.ref p) H2) E0)) := fun z hz kz => by
        refine ⟨(by show 1 ≤ sizeLine; decide), fun t0 ht0 => ⟨(by show 1 ≤ sizeLine; decide), fun ts hts => fun p dx np nd ne => ?_⟩⟩
        have sA := Same.upd_new (o := .tup [V.str z]) ht0
        have h0 : (upd H t0 (.tup [V.str z])) t0 = some (.tup [V.str z]) := upd_same
        generalize upd H t0 (.tup [V.str z]) = H2 at sA h0 hts np nd ⊢
        have sB := sA.trans (Same.upd_new (o := .tup [V.ref t0]) hts)
        have h1 : (upd H2 ts (.tup [V.ref t0])) ts = some (.tup [V.ref t0]) := upd_same
        have h0' := (Same.upd_new (o := .tup [V.ref t0]) hts) _ _ h0
        generalize upd H2 ts (.tup [V.ref t0]) = H3 at sB h1 h0' np nd ⊢
        have s' := made_same (C := c.Formula) np nd
        have z1 : ∀ y ∈ constV, y ∉ signsV ∧ y.length ≤ 1000 := by decide +kernel
        refine ⟨p, dx, ts, t0, z, rfl, upd_same, .inl (.inl (s' _ _ h1)), .inl (.inl (s' _ _ h0')), (z1 z hz).1, (z1 z hz).2, fun H' q1 q2 => ⟨rfl, ?_⟩⟩
        exact kz p H' (sB.free np) q1 (sB.trans (made_keep np nd q2))
      refine ⟨_, rfl, b, rfl, ?_⟩
      cases b with
      | true => exact iteT (rest "1" (by decide +kernel) k1)
      | false => exact iteF (rest "0" (by decide +kernel) k1)
    · refine ⟨_, rfl, _, _, _, _, false, rfl, .ty "bool", ht, hk, false, rfl, ?_⟩
      exact iteT ⟨_, rfl, fun d hd => k2 d _ (Same.upd_new hd) upd_same⟩
/-- Formula.of(z), z a name; Formula.always(b): nothing is raised -/
def spOf0 (K : PySem.W.Frag) (c : Fs) : Sp := fun vs H Q _ => ∃ z : Str, vs = [.ref c.Formula, .str z] ∧ z.length ≤ 1000 ∧ isName z = true ∧ ∀ (p : Addr) (H' : Hp), H p = none → Fo1 K c H' p z → Same H H' → Q (.ref p) H'
theorem of_calm {f : Addr} {fd : FuncData} (F : FnOk P w K mg base (L2.CX P w) 4 f fd ["cls", "name"] (spOf K c)) : FnOk P w K mg base CX0 4 f fd ["cls", "name"] (spOf0 K c) :=
  ok_calm F fun vs H Q E h => by
    obtain ⟨z, e, hz, hn, k⟩ := h
    refine ⟨.str z, e, .inl ⟨z, rfl, hz, fun _ => k, fun h => ?_⟩⟩
    rw [hn] at h
    cases h
def spAl0 (K : PySem.W.Frag) (c : Fs) : Sp := fun vs H Q _ => ∃ b : Bool, vs = [.ref c.Formula, .bl b] ∧ ∀ (p : Addr) (H' : Hp), H p = none → Fo1 K c H' p (if b = true then Str.ofString "1" else Str.ofString "0") → Same H H' → Q (.ref p) H'
theorem al_calm {f : Addr} {fd : FuncData} (F : FnOk P w K mg base (L2.CX P w) 4 f fd ["cls", "value"] (spAl K c)) : FnOk P w K mg base CX0 4 f fd ["cls", "value"] (spAl0 K c) :=
  ok_calm F fun vs H Q E h => by
    obtain ⟨b, e, k⟩ := h
    exact ⟨.bl b, e, .inl ⟨b, rfl, k⟩⟩
end
end L2.Wk
namespace PySem
namespace LowX_InvalidBlock
open PySem.W PySem.Calls PyProof.Rows PySem.HandSPX
/-! ### the text of __init__ -/
def iA (p1 p2 : Pos) : Arguments := { posonlyargs := [], args := [{ arg := "self", annotation := none, pos := p1 }, { arg := "word", annotation := none, pos := p2 }], vararg := none, kwonlyargs := [], kw_defaults := [], kwarg := none, defaults := [] }
def iB (q1 q2 q3 q4 : Pos) : List Stmt := [.Assign [.Attribute (.Name "self" q1) "word" q2] (.Name "word" q3) q4]
def iS : Scope := { kind := .function, names := [(PySem.Str.ofString "self", .local), (PySem.Str.ofString "word", .local)], isGenerator := false, isCoroutine := false, more := [] }
/-- what the written part says of Low, at C, and of its __init__, at fI -/
structure LowTxt_InvalidBlock (K : Frag) (mg : Str → Option Value) (C fI : Addr) : Prop where
  gC : mg "InvalidBlock" = some (.ref C)
  cls : ∃ nm q N bs bm sn sub ab col dd k0 k1 k2 k3 k5, K.lookup C = some (excClassObj nm q C N bs bm true sn sub ab col dd k0 k1 k2 k3 k5 "ValueError.__new__") ∧ refsVE bm = true
  sa : findIn K (.ref C) "__setattr__" = some (some (.builtin "object.__setattr__"))
  ga : findIn K (.ref C) "__getattribute__" = some (some (.builtin "BaseException.__getattribute__"))
  gg : findIn K (.ref C) "__getattr__" = some none
  noN : findIn K (.ref C) "word" = some none
  iC : findIn K (.ref C) "__init__" = some (some (.ref fI))
  tC : typeIn K (.ref fI) = some (.type "function")
  kC : keepIn K (.ref C) = true
  exC : subIn K (.ref C) (.type "BaseException") = some true
  tyC : typeIn K (.ref C) = some (.type "type")
  hdC : hasDictIn K C = true
  te : exmOne K (.ref C) (.ref C) = some true
  fn : ∃ (oc : Value) (od : Option Addr) (doc pm : Value) (an : Option Addr) (cdv ct : Value) (osl : Array (Option Value)) (p1 p2 q1 q2 q3 q4 : Pos),
    K.lookup fI = some ⟨oc, od, .func (fnOf "__init__" "InvalidBlock.__init__" (iA p1 p2) (iB q1 q2 q3 q4) iS .none .none doc pm an cdv ct), osl⟩ ∧ codeIn K cdv "InvalidBlock.__init__" = true
theorem one_size_InvalidBlock (v : Value) : [v].length ≤ sizeLine := by
  rw [sizeLine_eq]
  exact (by decide : 1 ≤ 16777216)
theorem kept_but_InvalidBlock {K : Frag} {h h' : Heap} {x : Addr} (X : K.In h) (hx : K.lookup x = none) (k : ∀ b o, b ≠ x → h.get? b = some o → h'.get? b = some o) : K.In h' := fun a o e =>
  k a o (fun z => by rw [z, hx] at e; cases e) (X a o e)
theorem ldC_InvalidBlock {M : Model} {s : Shared} {name : Str} {scope : Scope} {L a : Addr} {cd : Value} {m : Str → Option Value} {x : Str} {pos : Pos} {v : Value} {Q : Value → Shared → Prop} {A : Around} {E : Value → Shared → Prop} (hn : s.heap.Ns L m) (hv : m x = some v) (h : Q v s)
    (hk : scope.kind = .function := by rfl) (hl : (envOfC name scope L a cd).kindOf x = some .local := by rfl) (hd : (x == ("__debug__" : Str)) = false := by decide) :
    wpAny M A (eval (.Name x pos) (envOfC name scope L a cd)) Q E s := wpAny_Name (wpAny_loadName_local hk hl hn hv h) hd
/-- what __init__ leaves of a fresh exception at x -/
structure InitEnd_InvalidBlock (h h' : Heap) (x C dx t1 : Addr) (v : Value) : Prop where
  keep : ∀ b o, b ≠ x → h.get? b = some o → h'.get? b = some o
  obj : h'.get? x = some { cls := .ref C, dict := some dx, data := .fields #[.ref t1, .none, .none, .none, .bool false, .none] }
  dbig : h.objs.size ≤ dx
  dne : dx ≠ x
  ns : h'.Ns1 dx (fun y => if y = "word" then some v else none)
structure OwnMade_InvalidBlock (h h' : Heap) (e C d : Addr) (v : Value) : Prop where
  keep : ∀ b o, h.get? b = some o → h'.get? b = some o
  new : h.objs.size ≤ e
  obj : ∃ oe vs, h'.get? e = some oe ∧ oe.cls = .ref C ∧ oe.dict = some d ∧ oe.data = .fields vs ∧ vs[1]? = some .none
  dbig : h.objs.size ≤ d
  dne : d ≠ e
  ns : h'.Ns1 d (fun y => if y = "word" then some v else none)
section
variable {prog : Program} {w : World} {A : Around} {E : Value → Shared → Prop} {R : Result → Shared → Prop} {s : Shared} {K : Frag} {mg : Str → Option Value} {C fI : Addr}
theorem low_init_InvalidBlock (T : LowTxt_InvalidBlock K mg C fI) {x t0 : Addr} {v : Value} (X : K.In s.heap) (hlim : s.heap.NoLimit) (hx : s.heap.get? x = some (excO C t0)) (hnx : K.lookup x = none) (hroom : A.depth < recursionLimit)
    (hq : ∀ h' tk dx, InitEnd_InvalidBlock s.heap h' x C dx t0 v → R (.ok (.ret .none)) { s with heap := h', toks := tk }) :
    codeAny (model prog w) A (.call (.ref fI) ⟨[.ref x, v], []⟩) R s := by
  obtain ⟨oc, od, doc, pm, an, cdv, ct, osl, p1, p2, q1, q2, q3, q4, ho, hcd⟩ := T.fn
  obtain ⟨nm, q, N, bs, bm, sn, sub, ab, col, dd, k0, k1, k2, k3, k5, hC, hbm⟩ := T.cls
  have hcl : clsIn K C = some { name := nm, bases := bs, mro := .ref C :: bm, ns := N, qualname := q, hasDict := true, slotNames := sn, subclasses := sub, abstract := ab, collection := col, hasDel := false } := by unfold clsIn; rw [hC] <;> rfl
  refine Att.call_fn (binds := [("self", .ref x), ("word", v)]) X hlim ho hcd hroom (BindsTo.of_eq (by first | rfl | with_unfolding_all rfl)) (by first | rfl | decide | with_unfolding_all rfl) (fun s₁ IC => ?_) rfl rfl rfl
  obtain ⟨h₁, tk₁, rfl⟩ := IC.toInCall.same
  have k : ∀ b o, s.heap.get? b = some o → h₁.get? b = some o := IC.toInCall.keep
  have hn := IC.toInCall.ns
  have hxL : s.heap.objs.size ≠ x := Nat.ne_of_gt (Heap.lt_size hx)
  have X₁ : K.In h₁ := X.keeps k
  have hx₁ := k _ _ hx
  -- self.by = by
  show wpAny _ _ (execs _ _) _ _ _
  refine wpAny_execs_cons (plainObj_wpAny_Assign_Attribute ?_)
  refine ldC_InvalidBlock (v := v) hn (by first | rfl | with_unfolding_all rfl | kernel_rfl) (ldC_InvalidBlock (v := .ref x) hn (by first | rfl | with_unfolding_all rfl | kernel_rfl) ?_)
  refine set_plain X₁ (ox := excO C t0) (od := none) ⟨hx₁, rfl, rfl, trivial⟩ T.sa ?_
  refine exc_osa X₁ hx₁ hcl (show refsVE (.ref C :: bm) = true from hbm) rfl T.noN (fun h₃ tk₃ dx k₃ dn dne hx₃ hn₃ => ?_)
  show wpAny _ _ (execs _ _) _ _ _
  have z : s.heap.objs.size < h₁.objs.size := hn.lt
  exact wpAny_execs_nil (hq h₃ tk₃ dx ⟨fun b o hb e => k₃ b o hb (k b o e), hx₃, Nat.le_of_lt (Nat.lt_of_lt_of_le z dn), dne, hn₃⟩)
theorem low_made_InvalidBlock (T : LowTxt_InvalidBlock K mg C fI) {v : Value} (X : K.In s.heap) (hlim : s.heap.NoLimit) (hroom : A.depth + 1 < recursionLimit)
    (hq : ∀ h' tk e d, OwnMade_InvalidBlock s.heap h' e C d v → R (.ok (.ret (.ref e))) { s with heap := h', toks := tk }) :
    codeAny (model prog w) A (.call (.ref C) ⟨[v], []⟩) R s := by
  obtain ⟨nm, q, N, bs, bm, sn, sub, ab, col, dd, k0, k1, k2, k3, k5, hC, hbm⟩ := T.cls
  obtain ⟨hp, g, dr, tk, os⟩ := s
  have k : ∀ b o, hp.get? b = some o → ((hp.push (kdv_tup [v])).push (excO C hp.objs.size)).get? b = some o := fun b o e => Heap.get?_push_of_some _ (Heap.get?_push_of_some _ e)
  have hget : ((hp.push (kdv_tup [v])).push (excO C hp.objs.size)).get? (hp.objs.size + 1) = some (excO C hp.objs.size) := by heap_get
  have hnx : K.lookup (hp.objs.size + 1) = none := by
    cases e : K.lookup (hp.objs.size + 1) with
    | none => rfl
    | some o =>
      have z : hp.get? (hp.objs.size + 1) = some o := X _ _ e
      exact absurd (Nat.lt_of_succ_lt (Heap.lt_size z)) (Nat.lt_irrefl _)
  refine call_own F.excBase_ValueError (fun X => refsVE_contains X bm hbm) (X _ _ hC) (looks_findIn X T.iC) (fun self => bind_fn X self T.tC) (one_size_InvalidBlock v) ?_
  refine low_init_InvalidBlock (s := ⟨(hp.push (kdv_tup [v])).push (excO C hp.objs.size), g, dr, tk, os⟩) T (X.keeps k) (hlim.keeps k) hget hnx ?_ fun h' tk' dx ⟨k', hx, dn, dne, hns⟩ => ?_
  · show A.depth + 1 < recursionLimit
    exact hroom
  · have old : ∀ b o, hp.get? b = some o → h'.get? b = some o := fun b o e => k' b o (Nat.ne_of_lt (Nat.lt_succ_of_lt (Heap.lt_size e))) (k b o e)
    have z : hp.objs.size + 1 + 1 ≤ dx := by
      first
        | (simpa only [Heap.size_push] using dn)
        | exact dn
        | (have q := dn; rw [Heap.size_push, Heap.size_push] at q; exact q)
    exact ⟨rfl, hq h' tk' (hp.objs.size + 1) dx ⟨old, Nat.le_succ _, ⟨_, _, hx, rfl, rfl, rfl, rfl⟩, Nat.le_trans (Nat.le_trans (Nat.le_succ _) (Nat.le_succ _)) z, dne, hns⟩⟩
end
end LowX_InvalidBlock
end PySem
namespace L2
open PySem PySem.Spec PyProof.Rows
theorem relO_low_InvalidBlock {v : V} {v' : Value} (r : RelV v v') (f : Str) : RelO (List.lookup f [(("word" : Str), v)]) (if f = "word" then some v' else none) := by
  by_cases hw : f = "word"
  · subst hw
    rw [if_pos rfl]
    have q : List.lookup ("word" : Str) [(("word" : Str), v)] = some v := by simp [List.lookup]
    rw [q]
    exact r
  · rw [if_neg hw]
    have qw : (f == ("word" : Str)) = false := by simpa using hw
    have q2 : List.lookup f [(("word" : Str), v)] = none := by simp [List.lookup, qw]
    rw [q2]
    trivial
section
variable {X : Cx} {C fI : Addr}
/-- Low(e) -/
def tMkLow_InvalidBlock (C : Addr) (ta : TA) : St → Hp → XK → Prop := fun σ H Q => ta σ H fun vs H1 => ∃ v, vs = [v] ∧ ∀ d, H1 d = none → Q (.ref C) (some d) (upd H1 d (.xd [(("word" : Str), v)]))
theorem pmk_low_InvalidBlock {a : Expr} {ta : TA} {p pos : Pos} {k : Nat} (T : PySem.LowX_InvalidBlock.LowTxt_InvalidBlock X.K X.mg C fI) (hr : Room k X.A) (ha : PA X [a] ta) (hg : Gl X "InvalidBlock" := by rfl)
    (he : starEach (a :: []) X.env = (false, eval a X.env) :: starEach [] X.env := by rfl) (hpl : (backTo pos (starEach [] X.env)).any (·.1) = false := by rfl) :
    PMk X (.Call (.Name "InvalidBlock" p) [a] [] pos) (tMkLow_InvalidBlock C ta) := by
  intro pins s σ H Q I h
  refine wpAny_Call_Name_kw (ld_glob I hg T.gC ?_)
  refine PySem.W.callWith_K (h₀ := X.base) I.ok.mod.kin T.kC (thn (ha.run pos pins s σ H _ I h) fun us s1 hh => ?_) he hpl
  obtain ⟨vs, H1, I1, r1, v, ev, q1⟩ := hh
  subst ev
  refine ⟨I1.kIn, ?_⟩
  cases r1 with
  | cons rv rn =>
    rename_i v' us'
    cases rn
    show wpAny _ _ (call (.ref C) [v']) _ _ _
    have hlim := I1.nolimit
    obtain ⟨hp, g, dr, tk, os⟩ := s1
    refine wpAny_call (PySem.LowX_InvalidBlock.low_made_InvalidBlock T I1.kIn hlim (by have := hr.dp; omega) fun h' tk' e d M => ?_)
    show MkP X pins σ Q (.ref e) ⟨h', g, dr, tk', os⟩
    obtain ⟨oe, fv, hoe, hc, hd, hdat, h1⟩ := M.obj
    have hns := M.ns
    obtain ⟨G', g1, g2⟩ := restrict h' fun b => decide (b ≠ e)
    have gk : ∀ b, b ≠ e → G'.get? b = h'.get? b := fun b hb => g1 b (decide_eq_true hb)
    have ge : G'.get? e = none := g2 e (by simp)
    have old : ∀ b o, hp.get? b = some o → G'.get? b = some o := fun b o q => (gk b (Nat.ne_of_lt (Nat.lt_of_lt_of_le (Heap.lt_size q) M.new))).trans (M.keep b o q)
    have ob : ObjOk X.prog X.w (upd H1 d (.xd [(("word" : Str), v)])) G' d (.xd [(("word" : Str), v)]) :=
      ⟨_, hns.at (fun o q => (gk d M.dne).trans q), fun f => relO_low_InvalidBlock rv f⟩
    have J : Inv X pins σ (upd H1 d (.xd [(("word" : Str), v)])) ⟨G', g, dr, tk', os⟩ := I1.laid (t' := tk') old M.dbig ob
    refine ⟨e, oe, fv, ⟨G', g, dr, tk', os⟩, _, .ref C, some d, rfl, J, fun b o q => ?_, ge, hoe, ⟨hc, hd⟩, hdat, h1, ?_, rfl, I1.bare, raises_own T.exC T.tyC, q1 d (I1.hok.fresh M.dbig)⟩
    · by_cases hb : b = e
      · have q' : G'.get? b = some o := q
        rw [hb, ge] at q'; cases q'
      · exact (gk b hb).symm.trans q
    · rw [upd_ne (Ne.symm M.dne)]
      exact I1.hok.fresh M.new
/-- raise Low(e) -/
def tRaiseLow_InvalidBlock (C : Addr) (W : WX) (ta : TA) : TS := fun _ σ H => tMkLow_InvalidBlock C ta σ H fun cls d H' => W cls d σ H'
theorem ps_raiseLow_InvalidBlock {a : Expr} {ta : TA} {W : WX} {p pos pos2 : Pos} {k : Nat} (hc : X.calm = true) (T : PySem.LowX_InvalidBlock.LowTxt_InvalidBlock X.K X.mg C fI) (hr : Room k X.A) (tk : Takes X W) (ha : PA X [a] ta) (hg : Gl X "InvalidBlock" := by rfl)
    (he : starEach (a :: []) X.env = (false, eval a X.env) :: starEach [] X.env := by rfl) (hpl : (backTo pos (starEach [] X.env)).any (·.1) = false := by rfl) :
    PS X (.Raise (some (.Call (.Name "InvalidBlock" p) [a] [] pos)) none pos2) (tRaiseLow_InvalidBlock C W ta) := ps_raise hc tk (pmk_low_InvalidBlock T hr ha hg he hpl)
/-- low.by, low the exception that the suite holds (at a; its class cls, its dict d) -/
def tByLow_InvalidBlock (C : Addr) (a : Addr) (cls : Value) (d : Option Addr) (te : TE) : TE := fun σ H Q => te σ H fun x H1 => x = .ref a ∧ cls = .ref C ∧ ∃ (dd : Addr) (v : V), d = some dd ∧ H1 dd = some (.xd [(("word" : Str), v)]) ∧ Q v H1
theorem pe_byLow_InvalidBlock {a : Addr} {oe : Obj} {cls : Value} {d : Option Addr} {pn : List (Addr × Obj)} {e : Expr} {te : TE} {pos : Pos} (T : PySem.LowX_InvalidBlock.LowTxt_InvalidBlock X.K X.mg C fI) (hz : Zc cls d oe) (hf : ∃ vs, oe.data = .fields vs) (he : PE (X.suite a ((a, oe) :: pn)) e te)
    (hb : attributeBase e "word" X.env (eval e X.env) = eval e X.env := by rfl) :
    PE (X.suite a ((a, oe) :: pn)) (.Attribute e "word" pos) (tByLow_InvalidBlock C a cls d te) := by
  refine ⟨fun pins s σ H Q I h => ?_⟩
  refine attr_of hb (thn (he.run pins s σ H _ I h) fun u s1 hh => ?_)
  obtain ⟨x, H1, I1, rx, ex, ec, dd, v, ed, ea, q⟩ := hh
  subst ex
  obtain rfl : u = Value.ref a := rx
  subst ec
  subst ed
  obtain ⟨ha, _⟩ := I1.pin (a, oe) (List.mem_append_left _ List.mem_cons_self)
  obtain ⟨vs, hd⟩ := hf
  have hx : ObjOk X.prog X.w H1 s1.heap dd (.xd [(("word" : Str), v)]) := I1.hok dd _ ea
  obtain ⟨mA, hns, hr⟩ := hx
  obtain ⟨od, ho, hl⟩ := lookIn_ns hns
  have l : List.lookup ("word" : Str) [(("word" : Str), v)] = some v := by simp [List.lookup]
  obtain ⟨u, hu, ru⟩ := RelO.some_of (v := v) (o := mA "word") (by rw [← l]; exact hr "word")
  have J : PySem.W.InstAt s1.heap a oe C (some od) := ⟨ha, hz.1, by unfold PySem.W.notCls; rw [hd] <;> rfl, by rw [hz.2]; exact ho⟩
  exact HandSPX.exc_get I1.kIn J T.ga T.gg T.exC (PySem.W.findObj_own T.hdC T.noN rfl (by rw [hl, hu])) (handed_of ru) ⟨v, H1, I1.tok _, ru, q⟩
end
end L2


namespace L2.Wk
open PySem PySem.Spec PyProof.Rows
abbrev s_Bit_init : Stmt := inClass (top 34) 0
abbrev N_Bit_init : List Str := ["self", "name", "area", "kept", "keeper", "start"]
theorem sc_Bit_init : FnScope N_Bit_init ["self", "name", "area", "kept", "keeper", "start"] (defScope s_Bit_init) := ⟨rfl, rfl, rfl, by decide +kernel, rfl, by decide +kernel, by decide +kernel⟩
abbrev s_Signal_init : Stmt := inClass (top 35) 0
abbrev N_Signal_init : List Str := ["self", "name", "formula", "fence"]
theorem sc_Signal_init : FnScope N_Signal_init ["self", "name", "formula", "fence"] (defScope s_Signal_init) := ⟨rfl, rfl, rfl, by decide +kernel, rfl, by decide +kernel, by decide +kernel⟩
/-! ### bits and signals of any values: made or refused -/
def NameV (K : PySem.W.Frag) (H : Hp) (v : V) (r : Bool) : Prop := (∃ z, v = .str z ∧ z.length ≤ 1000 ∧ isName z = r) ∨ (r = false ∧ ∃ t, TyX K H v t ∧ PySem.W.kitOne K t (.type "str") = some false)
def BoolV (K : PySem.W.Frag) (H : Hp) (v : V) (o : Option Bool) : Prop := (∃ b, v = .bl b ∧ o = some b) ∨ (o = none ∧ ∃ t, TyX K H v t ∧ PySem.W.kitOne K t (.type "bool") = some false)
def FormV (K : PySem.W.Frag) (c : Fs) (H : Hp) (v : V) (r : Bool) : Prop := ∃ t, TyX K H v t ∧ PySem.W.kitOne K t (.ref c.Formula) = some r
def FenceV (K : PySem.W.Frag) (H : Hp) (v : V) (r : Bool) : Prop := (v = .non ∧ r = true) ∨ (v ≠ .non ∧ NameV K H v r)
def bitErr (n a : Bool) (k ke s : Option Bool) : Option Str :=
  if n = false then some "name" else if a = false then some "area" else match k with
    | none => some "kept"
    | some k => match ke with
      | none => some "keeper"
      | some ke => if (ke && !k) = true then some "keeper" else match s with
        | none => some "start"
        | some _ => none
def sigErr (n f e : Bool) : Option Str := if n = false then some "name" else if f = false then some "formula" else if e = false then some "fence" else none
def spNameV (K : PySem.W.Frag) : Sp := fun vs H Q _ => ∃ (v : V) (r : Bool), vs = [v] ∧ NameV K H v r ∧ ∀ H', Same H H' → Q (.bl r) H'
theorem name_v {P : Program} {w : World} {K : PySem.W.Frag} {mg : Str → Option Value} {base : Heap} {f : Addr} {fd : FuncData} (F : FnOk P w K mg base CX0 1 f fd ["value"] (fun vs H Q E => spTxt isName vs H Q E ∨ spNonStr K vs H Q E)) : FnOk P w K mg base CX0 1 f fd ["value"] (spNameV K) :=
  fn_weak' F fun vs H Q E h => by
    obtain ⟨v, r, e, h, k⟩ := h
    rcases h with ⟨z, rfl, hz, rfl⟩ | ⟨rfl, t, ht, hk⟩
    · exact .inl ⟨z, e, hz, k⟩
    · exact .inr ⟨v, t, e, ht, hk, k _ (Same.refl _)⟩
structure Bk where
  Bit : Addr
  fBit : Addr
  Signal : Addr
  fSignal : Addr
  IB : Addr
  fIB : Addr
structure TxtB (K : PySem.W.Frag) (w : World) (mg : Str → Option Value) (a : Wf) (c : Fs) (q : Bk) : Prop extends TxtF K w mg a c where
  low_InvalidBlock : PySem.LowX_InvalidBlock.LowTxt_InvalidBlock K mg q.IB q.fIB
  clB : Cls K q.Bit
  MB : Mk K q.Bit q.fBit
  g_Bit : mg "Bit" = some (.ref q.Bit)
  clS : Cls K q.Signal
  MS : Mk K q.Signal q.fSignal
  g_Signal : mg "Signal" = some (.ref q.Signal)
  b_name : NoAttr K q.Bit "name"
  b_area : NoAttr K q.Bit "area"
  b_kept : NoAttr K q.Bit "kept"
  b_keeper : NoAttr K q.Bit "keeper"
  b_start : NoAttr K q.Bit "start"
  s_name : NoAttr K q.Signal "name"
  s_formula : NoAttr K q.Signal "formula"
  s_fence : NoAttr K q.Signal "fence"
def spBit (K : PySem.W.Frag) (q : Bk) : Sp := fun vs H Q E => ∃ (p dx : Addr) (v0 v1 v2 v3 v4 : V) (n a : Bool) (k ke s : Option Bool), vs = [.ref p, v0, v1, v2, v3, v4] ∧ H p = some (.ins q.Bit dx []) ∧
  (∀ H', Same H H' → NameV K H' v0 n ∧ NameV K H' v1 a ∧ BoolV K H' v2 k ∧ BoolV K H' v3 ke ∧ BoolV K H' v4 s) ∧
  (bitErr n a k ke s = none → ∀ H' : Hp, (∀ b o, H b = some o → b ≠ p → H' b = some o) → Q .non H') ∧
  (∀ m, bitErr n a k ke s = some m → ∀ (d : Addr) (H' : Hp), Same H H' → H' d = some (.xd [("word", .str m)]) → E (.ref q.IB) (some d) H')
def spSignal (K : PySem.W.Frag) (c : Fs) (q : Bk) : Sp := fun vs H Q E => ∃ (p dx : Addr) (v0 v1 v2 : V) (n f e : Bool), vs = [.ref p, v0, v1, v2] ∧ H p = some (.ins q.Signal dx []) ∧
  (∀ H', Same H H' → NameV K H' v0 n ∧ FormV K c H' v1 f ∧ FenceV K H' v2 e) ∧
  (sigErr n f e = none → ∀ H' : Hp, (∀ b o, H b = some o → b ≠ p → H' b = some o) → Q .non H') ∧
  (∀ m, sigErr n f e = some m → ∀ (d : Addr) (H' : Hp), Same H H' → H' d = some (.xd [("word", .str m)]) → E (.ref q.IB) (some d) H')
section
variable {P : Program} {w : World} {K : PySem.W.Frag} {mg : Str → Option Value} {base : Heap} {a : Wf} {c : Fs} {q : Bk} {f : Addr} {fd : FuncData}
theorem ok_Bit {dvs : List V} {f1 : FuncData} (F : FunD K "__init__" "Bit.__init__" (defArgs s_Bit_init) (defBody s_Bit_init) (defScope s_Bit_init) dvs [] f fd) (T : TxtB K w mg a c q)
    (G_is_name : FnOk P w K mg base CX0 1 a.is_name f1 ["value"] (spNameV K)) (b_is_name : Binds K f1 ["value"] []) :
    FnOk P w K mg base (L2.CX P w) 4 f fd ["self", "name", "area", "kept", "keeper", "start"] (spBit K q) := by
  refine F.ok sc_Bit_init (fun vs H Q E h => ?_) (fun cdv A outer s0 H vs Q E hr h => ?_)
  · obtain ⟨_, _, _, _, _, _, _, _, _, _, _, _, rfl, _⟩ := h
    rfl
  · obtain ⟨p, dx, v0, v1, v2, v3, v4, n, ar, k, ke, s, rfl, hp, hd, kQ, kE⟩ := h
    refine ⟨_, (pss_cons (ps_if (pt_not (pt_val (pe_call G_is_name (hr.mono (by decide)) rfl T.g_is_name T.k_is_name b_is_name .nil pass0 (pa_cons (pv 1) pa_nil)))) (pss_one (ps_raiseLow_InvalidBlock rfl T.low_InvalidBlock hr (takes_of rfl rfl rfl rfl) (pa_cons pe_str pa_nil))) pss_nil)
    (pss_cons (ps_if (pt_not (pt_val (pe_call G_is_name (hr.mono (by decide)) rfl T.g_is_name T.k_is_name b_is_name .nil pass0 (pa_cons (pv 2) pa_nil)))) (pss_one (ps_raiseLow_InvalidBlock rfl T.low_InvalidBlock hr (takes_of rfl rfl rfl rfl) (pa_cons pe_str pa_nil))) pss_nil)
    (pss_cons (ps_if (pt_not (pt_val (pe_callB call_isi (by rfl) T.b_isinstance (by decide +kernel) (pa_cons (pv 3) (pa_cons (pe_tyB (T := "bool") (by rfl) T.b_bool (by decide +kernel)) pa_nil))))) (pss_one (ps_raiseLow_InvalidBlock rfl T.low_InvalidBlock hr (takes_of rfl rfl rfl rfl) (pa_cons pe_str pa_nil))) pss_nil)
    (pss_cons (ps_if (PW.pt (pw_or (pt_not (pt_val (pe_callB call_isi (by rfl) T.b_isinstance (by decide +kernel) (pa_cons (pv 4) (pa_cons (pe_tyB (T := "bool") (by rfl) T.b_bool (by decide +kernel)) pa_nil))))) (pw_or1 (PW.pt (pw_and (pt_truth (pv 4) (by intro _; rfl)) (pw_and1 (pt_not (pt_truth (pv 3) (by intro _; rfl))))))))) (pss_one (ps_raiseLow_InvalidBlock rfl T.low_InvalidBlock hr (takes_of rfl rfl rfl rfl) (pa_cons pe_str pa_nil))) pss_nil)
    (pss_cons (ps_if (pt_not (pt_val (pe_callB call_isi (by rfl) T.b_isinstance (by decide +kernel) (pa_cons (pv 5) (pa_cons (pe_tyB (T := "bool") (by rfl) T.b_bool (by decide +kernel)) pa_nil))))) (pss_one (ps_raiseLow_InvalidBlock rfl T.low_InvalidBlock hr (takes_of rfl rfl rfl rfl) (pa_cons pe_str pa_nil))) pss_nil)
    (pss_cons (ps_fld (pv 0) (pv 1) rfl)
    (pss_cons (ps_fld (pv 0) (pv 2) rfl)
    (pss_cons (ps_fld (pv 0) (pv 3) rfl)
    (pss_cons (ps_fld (pv 0) (pv 4) rfl)
    (pss_one (ps_fld (pv 0) (pv 5) rfl))))))))))), ?_⟩
    refine ⟨_, rfl, _, n, rfl, (hd _ (Same.refl _)).1, fun H1 s1 => ⟨_, rfl, ?_⟩⟩
    cases n with
    | false => exact iteT ⟨_, rfl, fun d hd' => kE "name" rfl d _ (s1.trans (Same.upd_new hd')) upd_same⟩
    | true =>
    refine iteF ?_
    refine ⟨_, rfl, _, ar, rfl, (hd _ s1).2.1, fun H2 s2 => ⟨_, rfl, ?_⟩⟩
    replace s2 := s1.trans s2
    cases ar with
    | false => exact iteT ⟨_, rfl, fun d hd' => kE "area" rfl d _ (s2.trans (Same.upd_new hd')) upd_same⟩
    | true =>
    refine iteF ?_
    obtain ⟨_, _, x2, x3, x4⟩ := hd _ s2
    rcases x2 with ⟨b2, rfl, rfl⟩ | ⟨rfl, t2, y2, z2⟩
    case inr => exact ⟨_, rfl, _, _, _, _, false, rfl, .ty "bool", y2, z2, false, rfl, iteT ⟨_, rfl, fun d hd' => kE "kept" rfl d _ (s2.trans (Same.upd_new hd')) upd_same⟩⟩
    refine ⟨_, rfl, _, _, _, _, true, rfl, .ty "bool", .base (.bl b2), kit_ty (by decide +kernel), true, rfl, iteF ?_⟩
    rcases x3 with ⟨b3, rfl, rfl⟩ | ⟨rfl, t3, y3, z3⟩
    case inr => exact ⟨_, rfl, _, _, _, _, false, rfl, .ty "bool", y3, z3, false, rfl, iteT (iteT ⟨_, rfl, fun d hd' => kE "keeper" rfl d _ (s2.trans (Same.upd_new hd')) upd_same⟩)⟩
    refine ⟨_, rfl, _, _, _, _, true, rfl, .ty "bool", .base (.bl b3), kit_ty (by decide +kernel), true, rfl, iteF ?_⟩
    refine ⟨_, rfl, b3, rfl, ?_⟩
    cases b3 with
    | true =>
      refine iteT ⟨_, rfl, b2, rfl, ?_⟩
      cases b2 with
      | false => exact iteT ⟨_, rfl, fun d hd' => kE "keeper" rfl d _ (s2.trans (Same.upd_new hd')) upd_same⟩
      | true =>
      refine iteF ?_
      rcases x4 with ⟨b4, rfl, rfl⟩ | ⟨rfl, t4, y4, z4⟩
      case inr => exact ⟨_, rfl, _, _, _, _, false, rfl, .ty "bool", y4, z4, false, rfl, iteT ⟨_, rfl, fun d hd' => kE "start" rfl d _ (s2.trans (Same.upd_new hd')) upd_same⟩⟩
      refine ⟨_, rfl, _, _, _, _, true, rfl, .ty "bool", .base (.bl b4), kit_ty (by decide +kernel), true, rfl, iteF ?_⟩
      have hp5 := s2 _ _ hp
      refine ⟨_, rfl, _, rfl, p, q.Bit, dx, _, rfl, hp5, T.clB, T.b_name, (by show 0 < 1000; decide), ?_⟩
      refine ⟨_, rfl, _, rfl, p, q.Bit, dx, _, rfl, upd_same, T.clB, T.b_area, putF_len_lt (by show 0 < 999; decide), ?_⟩
      refine ⟨_, rfl, _, rfl, p, q.Bit, dx, _, rfl, upd_same, T.clB, T.b_kept, putF_len_lt (putF_len_lt (by show 0 < 998; decide)), ?_⟩
      refine ⟨_, rfl, _, rfl, p, q.Bit, dx, _, rfl, upd_same, T.clB, T.b_keeper, putF_len_lt (putF_len_lt (putF_len_lt (by show 0 < 997; decide))), ?_⟩
      refine ⟨_, rfl, _, rfl, p, q.Bit, dx, _, rfl, upd_same, T.clB, T.b_start, putF_len_lt (putF_len_lt (putF_len_lt (putF_len_lt (by show 0 < 996; decide)))), ?_⟩
      refine kQ rfl _ fun b o e ne => ?_
      rw [upd_ne ne, upd_ne ne, upd_ne ne, upd_ne ne, upd_ne ne]
      exact s2 _ _ e
    | false =>
      refine iteF (iteF ?_)
      rcases x4 with ⟨b4, rfl, rfl⟩ | ⟨rfl, t4, y4, z4⟩
      case inr => exact ⟨_, rfl, _, _, _, _, false, rfl, .ty "bool", y4, z4, false, rfl, iteT ⟨_, rfl, fun d hd' => kE "start" rfl d _ (s2.trans (Same.upd_new hd')) upd_same⟩⟩
      refine ⟨_, rfl, _, _, _, _, true, rfl, .ty "bool", .base (.bl b4), kit_ty (by decide +kernel), true, rfl, iteF ?_⟩
      have hp5 := s2 _ _ hp
      refine ⟨_, rfl, _, rfl, p, q.Bit, dx, _, rfl, hp5, T.clB, T.b_name, (by show 0 < 1000; decide), ?_⟩
      refine ⟨_, rfl, _, rfl, p, q.Bit, dx, _, rfl, upd_same, T.clB, T.b_area, putF_len_lt (by show 0 < 999; decide), ?_⟩
      refine ⟨_, rfl, _, rfl, p, q.Bit, dx, _, rfl, upd_same, T.clB, T.b_kept, putF_len_lt (putF_len_lt (by show 0 < 998; decide)), ?_⟩
      refine ⟨_, rfl, _, rfl, p, q.Bit, dx, _, rfl, upd_same, T.clB, T.b_keeper, putF_len_lt (putF_len_lt (putF_len_lt (by show 0 < 997; decide))), ?_⟩
      refine ⟨_, rfl, _, rfl, p, q.Bit, dx, _, rfl, upd_same, T.clB, T.b_start, putF_len_lt (putF_len_lt (putF_len_lt (putF_len_lt (by show 0 < 996; decide)))), ?_⟩
      refine kQ rfl _ fun b o e ne => ?_
      rw [upd_ne ne, upd_ne ne, upd_ne ne, upd_ne ne, upd_ne ne]
      exact s2 _ _ e
theorem ok_Signal {dvs : List V} {f1 : FuncData} (F : FunD K "__init__" "Signal.__init__" (defArgs s_Signal_init) (defBody s_Signal_init) (defScope s_Signal_init) dvs [] f fd) (T : TxtB K w mg a c q)
    (G_is_name : FnOk P w K mg base CX0 1 a.is_name f1 ["value"] (spNameV K)) (b_is_name : Binds K f1 ["value"] []) :
    FnOk P w K mg base (L2.CX P w) 4 f fd ["self", "name", "formula", "fence"] (spSignal K c q) := by
  refine F.ok sc_Signal_init (fun vs H Q E h => ?_) (fun cdv A outer s0 H vs Q E hr h => ?_)
  · obtain ⟨_, _, _, _, _, _, _, _, rfl, _⟩ := h
    rfl
  · obtain ⟨p, dx, v0, v1, v2, n, fo, e, rfl, hp, hd, kQ, kE⟩ := h
    refine ⟨_, (pss_cons (ps_if (pt_not (pt_val (pe_call G_is_name (hr.mono (by decide)) rfl T.g_is_name T.k_is_name b_is_name .nil pass0 (pa_cons (pv 1) pa_nil)))) (pss_one (ps_raiseLow_InvalidBlock rfl T.low_InvalidBlock hr (takes_of rfl rfl rfl rfl) (pa_cons pe_str pa_nil))) pss_nil)
    (pss_cons (ps_if (pt_not (pt_val (pe_callB call_isi (by rfl) T.b_isinstance (by decide +kernel) (pa_cons (pv 2) (pa_cons (pe_gr rfl T.g_Formula) pa_nil))))) (pss_one (ps_raiseLow_InvalidBlock rfl T.low_InvalidBlock hr (takes_of rfl rfl rfl rfl) (pa_cons pe_str pa_nil))) pss_nil)
    (pss_cons (ps_if (PW.pt (pw_and (pt_cmpR op_notN (pv 3) pe_non (nomark _)) (pw_and1 (pt_not (pt_val (pe_call G_is_name (hr.mono (by decide)) rfl T.g_is_name T.k_is_name b_is_name .nil pass0 (pa_cons (pv 3) pa_nil))))))) (pss_one (ps_raiseLow_InvalidBlock rfl T.low_InvalidBlock hr (takes_of rfl rfl rfl rfl) (pa_cons pe_str pa_nil))) pss_nil)
    (pss_cons (ps_fld (pv 0) (pv 1) rfl)
    (pss_cons (ps_fld (pv 0) (pv 2) rfl)
    (pss_one (ps_fld (pv 0) (pv 3) rfl))))))), ?_⟩
    refine ⟨_, rfl, _, n, rfl, (hd _ (Same.refl _)).1, fun H1 s1 => ⟨_, rfl, ?_⟩⟩
    cases n with
    | false => exact iteT ⟨_, rfl, fun d hd' => kE "name" rfl d _ (s1.trans (Same.upd_new hd')) upd_same⟩
    | true =>
    refine iteF ?_
    obtain ⟨_, ⟨t1, y1, z1⟩, _⟩ := hd _ s1
    refine ⟨_, rfl, _, _, _, _, fo, rfl, .own c.Formula, y1, z1, fo, rfl, ?_⟩
    cases fo with
    | false => exact iteT ⟨_, rfl, fun d hd' => kE "formula" rfl d _ (s1.trans (Same.upd_new hd')) upd_same⟩
    | true =>
    refine iteF ?_
    have fin : ∀ H2 : Hp, Same H H2 → e = true → ∀ b o, H b = some o → b ≠ p → (upd (upd (upd H2 p (.ins q.Signal dx (putF "name" v0 []))) p (.ins q.Signal dx (putF "formula" v1 (putF "name" v0 [])))) p (.ins q.Signal dx (putF "fence" v2 (putF "formula" v1 (putF "name" v0 []))))) b = some o := fun H2 s2 _ b o e ne => by
      rw [upd_ne ne, upd_ne ne, upd_ne ne]
      exact s2 _ _ e
    rcases (hd _ s1).2.2 with ⟨rfl, rfl⟩ | ⟨hn, hv⟩
    · refine ⟨_, rfl, rfl, _, rfl, iteF (iteF ?_)⟩
      have hp5 := s1 _ _ hp
      refine ⟨_, rfl, _, rfl, p, q.Signal, dx, _, rfl, hp5, T.clS, T.s_name, (by show 0 < 1000; decide), ?_⟩
      refine ⟨_, rfl, _, rfl, p, q.Signal, dx, _, rfl, upd_same, T.clS, T.s_formula, putF_len_lt (by show 0 < 999; decide), ?_⟩
      refine ⟨_, rfl, _, rfl, p, q.Signal, dx, _, rfl, upd_same, T.clS, T.s_fence, putF_len_lt (putF_len_lt (by show 0 < 998; decide)), ?_⟩
      exact kQ rfl _ (fin H1 s1 rfl)
    · refine ⟨_, rfl, rfl, _, rfl, ?_⟩
      rw [show (!decide (v2 = .non)) = true by simp [hn]]
      refine iteT ⟨_, rfl, _, e, rfl, hv, fun H2 s2 => ⟨_, rfl, ?_⟩⟩
      replace s2 := s1.trans s2
      cases e with
      | false => exact iteT ⟨_, rfl, fun d hd' => kE "fence" rfl d _ (s2.trans (Same.upd_new hd')) upd_same⟩
      | true =>
      refine iteF ?_
      have hp5 := s2 _ _ hp
      refine ⟨_, rfl, _, rfl, p, q.Signal, dx, _, rfl, hp5, T.clS, T.s_name, (by show 0 < 1000; decide), ?_⟩
      refine ⟨_, rfl, _, rfl, p, q.Signal, dx, _, rfl, upd_same, T.clS, T.s_formula, putF_len_lt (by show 0 < 999; decide), ?_⟩
      refine ⟨_, rfl, _, rfl, p, q.Signal, dx, _, rfl, upd_same, T.clS, T.s_fence, putF_len_lt (putF_len_lt (by show 0 < 998; decide)), ?_⟩
      exact kQ rfl _ (fin H2 s2 rfl)
end
end L2.Wk
namespace L2.Wk
open PySem PySem.Spec PyProof.Rows
abbrev s_law_argument : Stmt := top 41
abbrev N_law_argument : List Str := ["_law_deal", "_law_word", "_law_odd", "_law_right", "_law_wrong", "_law_flag", "_law_is_right"]
theorem sc_law_argument : FnScope N_law_argument ["_law_deal", "_law_word"] (defScope s_law_argument) := ⟨rfl, rfl, rfl, by decide +kernel, rfl, by decide +kernel, by decide +kernel⟩
theorem DealA.nd {d l p : Addr} {H : Hp} (D : DealA H d l) (h : H p = none) : p ≠ d := by
  obtain ⟨cs, b, h1, h2, _⟩ := D.ex
  exact (ne_of_none h1 h).symm
theorem DealA.nl {d l p : Addr} {H : Hp} (D : DealA H d l) (h : H p = none) : p ≠ l := by
  obtain ⟨cs, b, h1, h2, _⟩ := D.ex
  exact (ne_of_none h2 h).symm
theorem DealA.upd {d l p : Addr} {H : Hp} {o : HO} (D : DealA H d l) (h1 : p ≠ d) (h2 : p ≠ l) : DealA (upd H p o) d l := by
  obtain ⟨cs, b, e1, e2, h⟩ := D.ex
  exact ⟨cs, b, by rw [upd_ne h1.symm]; exact e1, by rw [upd_ne h2.symm]; exact e2, h⟩
theorem DealA.keep {d l p q : Addr} {H H' : Hp} (D : DealA H d l) (k : Keep p q H H') (h1 : p ≠ d) (h2 : p ≠ l) (h3 : q ≠ d) (h4 : q ≠ l) : DealA H' d l := by
  obtain ⟨cs, b, e1, e2, h⟩ := D.ex
  exact ⟨cs, b, k _ _ e1 h1.symm h3.symm, k _ _ e2 h2.symm h4.symm, h⟩
theorem iteFh {b : Bool} {A B : Prop} (h : b = false) (x : B) : if b = true then A else B := by
  rw [h, if_neg Bool.false_ne_true]
  exact x
theorem iteTh {b : Bool} {A B : Prop} (h : b = true) (x : A) : if b = true then A else B := by
  rw [if_pos h]
  exact x
structure Ls where
  source : Addr
  pick : Addr
  draw : Addr
  argument : Addr
  heard : Addr
  WE : Addr
structure TxtL (K : PySem.W.Frag) (w : World) (mg : Str → Option Value) (a : Wf) (c : Fs) (q : Bk) (ls : Ls) : Prop extends TxtB K w mg a c q, TxtDA2 K mg ls.draw where
  b_range : mg "range" = none
  b_zip : mg "zip" = none
  g__law_source : mg "_law_source" = some (.ref ls.source)
  k__law_source : PySem.W.keepIn K (.ref ls.source) = true
  g__law_pick : mg "_law_pick" = some (.ref ls.pick)
  k__law_pick : PySem.W.keepIn K (.ref ls.pick) = true
  g__law_argument : mg "_law_argument" = some (.ref ls.argument)
  k__law_argument : PySem.W.keepIn K (.ref ls.argument) = true
  g__law_heard : mg "_law_heard" = some (.ref ls.heard)
  k__law_heard : PySem.W.keepIn K (.ref ls.heard) = true
  g_WakeError : mg "WakeError" = some (.ref ls.WE)
  g_InvalidBlock : mg "InvalidBlock" = some (.ref q.IB)
  xc_InvalidBlock : ExcC K q.IB
  ex_WE : PySem.W.exmOne K (.ref q.IB) (.ref ls.WE) = some true
  kit_IB : PySem.W.kitOne K (.ref q.IB) (.ref q.IB) = some true
  kit_FF : PySem.W.kitOne K (.ref c.Formula) (.ref c.Formula) = some true
  kit_FS : PySem.W.kitOne K (.ref c.Formula) (.type "str") = some false
  kit_str : PySem.W.kitOne K (.type "str") (.ref c.Formula) = some false
  kit_non : PySem.W.kitOne K (.type "NoneType") (.ref c.Formula) = some false
  kit_int : PySem.W.kitOne K (.type "int") (.ref c.Formula) = some false
  kit_bl : PySem.W.kitOne K (.type "bool") (.ref c.Formula) = some false
  kit_tup : PySem.W.kitOne K (.type "tuple") (.ref c.Formula) = some false
  kit_lst : PySem.W.kitOne K (.type "list") (.ref c.Formula) = some false
  ca_F : PySem.W.findIn K (.ref c.Formula) "__class__" = some (some (.builtin "object.__class__"))
  cn_F : PySem.W.specialIn K (.builtin "object.__class__") "__get__" = some (some (.builtin "getset_descriptor.__get__"))
  ct_F : PySem.W.takesIn K (.builtin "object.__class__") = some true
  cm_F : PySem.W.mroIn K c.Formula (.type "object") = some true
  cr_Formula : ClX.CRead K c.Formula (.type "type")
  cm_Formula_of : ClX.CMet K c.Formula (.type "type") "of" c.pof c.fof
  cm_Formula_always : ClX.CMet K c.Formula (.type "type") "always" c.pal c.fal
/-! ### arguments, right and wrong -/
def flagsV : List Str := txts ["kept", "keeper", "start"]
def wordsV : List Str := txts ["name", "area", "formula", "fence", "kept", "keeper", "start"]
def Desc (K : PySem.W.Frag) (c : Fs) (H : Hp) (wd : Str) (v : V) (r : Bool) : Prop :=
  Plain v ∧ (wd = "name" ∨ wd = "area" → NameV K H v r) ∧ (wd ∈ flagsV → ∃ o : Option Bool, BoolV K H v o ∧ o.isSome = r) ∧ (wd = "formula" → FormV K c H v r) ∧ (wd = "fence" → FenceV K H v r)
/-- what the values point to -/
structure ArgW (c : Fs) (t1 l1 fo f1 f2 e0 l2 t3 e1 e2 : Addr) (H : Hp) : Prop where
  t1 : H t1 = some (.tup [.str "a"])
  l1 : H l1 = some (.lst [.str "a"])
  fo : ∃ dx fs, H fo = some (.ins c.Formula dx fs)
  f1 : ∃ dx fs, H f1 = some (.ins c.Formula dx fs)
  f2 : ∃ dx fs, H f2 = some (.ins c.Formula dx fs)
  e0 : H e0 = some (.tup [])
  l2 : H l2 = some (.lst [.str "x"])
  t3 : H t3 = some (.tup [.str "f"])
  e1 : H e1 = some (.lst [])
  e2 : H e2 = some (.tup [])
theorem ArgW.new {c : Fs} {t1 l1 fo f1 f2 e0 l2 t3 e1 e2 : Addr} {H0 H H' : Hp} (W : ArgW c t1 l1 fo f1 f2 e0 l2 t3 e1 e2 H) (k : ∀ b o, H0 b = none → H b = some o → H' b = some o) (n : ∀ x ∈ [t1, l1, fo, f1, f2, e0, l2, t3, e1, e2], H0 x = none) : ArgW c t1 l1 fo f1 f2 e0 l2 t3 e1 e2 H' := by
  have g : ∀ x ∈ [t1, l1, fo, f1, f2, e0, l2, t3, e1, e2], ∀ u, H x = some u → H' x = some u := fun x hx u hu => k x u (n x hx) hu
  have i : ∀ x ∈ [t1, l1, fo, f1, f2, e0, l2, t3, e1, e2], (∃ dx fs, H x = some (.ins c.Formula dx fs)) → ∃ dx fs, H' x = some (.ins c.Formula dx fs) := fun x hx ⟨dx, fs, e⟩ => ⟨dx, fs, g x hx _ e⟩
  exact ⟨g _ (by simp) _ W.t1, g _ (by simp) _ W.l1, i _ (by simp) W.fo, i _ (by simp) W.f1, i _ (by simp) W.f2, g _ (by simp) _ W.e0, g _ (by simp) _ W.l2, g _ (by simp) _ W.t3, g _ (by simp) _ W.e1, g _ (by simp) _ W.e2⟩
theorem ArgW.keep {c : Fs} {t1 l1 fo f1 f2 e0 l2 t3 e1 e2 p q : Addr} {H H' : Hp} (W : ArgW c t1 l1 fo f1 f2 e0 l2 t3 e1 e2 H) (k : Keep p q H H') (n : ∀ x ∈ [t1, l1, fo, f1, f2, e0, l2, t3, e1, e2], x ≠ p ∧ x ≠ q) : ArgW c t1 l1 fo f1 f2 e0 l2 t3 e1 e2 H' := by
  have g : ∀ x ∈ [t1, l1, fo, f1, f2, e0, l2, t3, e1, e2], ∀ u, H x = some u → H' x = some u := fun x hx u hu => k x u hu (n x hx).1 (n x hx).2
  have i : ∀ x ∈ [t1, l1, fo, f1, f2, e0, l2, t3, e1, e2], (∃ dx fs, H x = some (.ins c.Formula dx fs)) → ∃ dx fs, H' x = some (.ins c.Formula dx fs) := fun x hx ⟨dx, fs, e⟩ => ⟨dx, fs, g x hx _ e⟩
  exact ⟨g _ (by simp) _ W.t1, g _ (by simp) _ W.l1, i _ (by simp) W.fo, i _ (by simp) W.f1, i _ (by simp) W.f2, g _ (by simp) _ W.e0, g _ (by simp) _ W.l2, g _ (by simp) _ W.t3, g _ (by simp) _ W.e1, g _ (by simp) _ W.e2⟩
def odd7 : List Str := txts ["", "abcde", "A", "any", "none", "kept", "a b"]
def oddL (t1 l1 fo : Addr) : List V := odd7.map V.str ++ [.int 3, .non, .bl true, .ref t1, .ref l1, .ref fo]
def wrForm (e0 l2 : Addr) : List V := [.str "x", .non, .int 3, .bl true, .ref e0, .ref l2]
abbrev wrFence (t3 : Addr) : List V := odd7.map V.str ++ [.int 3, .bl true, .ref t3]
abbrev wrFlag (e1 e2 : Addr) : List V := [.int 0, .int 1, .non, .str "kept", .str "", .ref e1, .ref e2]
def rightOf (f1 f2 : Addr) (wd : Str) : List V :=
  if wd = "name" then (txts ["x", "zzzz", "open"]).map V.str else if wd = "area" then (txts ["a", "cut"]).map V.str else if wd = "formula" then [.ref f1, .ref f2] else if wd = "fence" then [.non, .str "f", .str "load"] else [.bl true, .bl false]
def wrongOf (t1 l1 fo e0 l2 t3 e1 e2 : Addr) (wd : Str) : List V :=
  if wd = "name" then oddL t1 l1 fo else if wd = "area" then oddL t1 l1 fo else if wd = "formula" then wrForm e0 l2 else if wd = "fence" then wrFence t3 else wrFlag e1 e2
section
variable {P : Program} {w : World} {K : PySem.W.Frag} {mg : Str → Option Value} {base : Heap} {a : Wf} {c : Fs} {q : Bk} {ls : Ls} {f : Addr} {fd : FuncData}
theorem desc_name {H : Hp} {wd : Str} {v : V} {r : Bool} (h : wd = "name" ∨ wd = "area") (p : Plain v) (n : NameV K H v r) : Desc K c H wd v r :=
  ⟨p, fun _ => n, fun m => absurd m (by rcases h with rfl | rfl <;> decide +kernel), fun e => absurd e (by rcases h with rfl | rfl <;> decide +kernel), fun e => absurd e (by rcases h with rfl | rfl <;> decide +kernel)⟩
theorem desc_flag {H : Hp} {wd : Str} {v : V} {r : Bool} (h : wd ∈ flagsV) (p : Plain v) {o : Option Bool} (n : BoolV K H v o) (e : o.isSome = r) : Desc K c H wd v r :=
  ⟨p, fun e => absurd h (by rcases e with rfl | rfl <;> decide +kernel), fun _ => ⟨o, n, e⟩, fun e => absurd h (by rw [e]; decide +kernel), fun e => absurd h (by rw [e]; decide +kernel)⟩
theorem desc_form {H : Hp} {v : V} {r : Bool} (p : Plain v) (n : FormV K c H v r) : Desc K c H "formula" v r :=
  ⟨p, fun e => absurd e (by decide +kernel), fun e => absurd e (by decide +kernel), fun _ => n, fun e => absurd e (by decide +kernel)⟩
theorem desc_fence {H : Hp} {v : V} {r : Bool} (p : Plain v) (n : FenceV K H v r) : Desc K c H "fence" v r :=
  ⟨p, fun e => absurd e (by decide +kernel), fun e => absurd e (by decide +kernel), fun e => absurd e (by decide +kernel), fun _ => n⟩
theorem right_name (f1 f2 : Addr) : rightOf f1 f2 "name" = (txts ["x", "zzzz", "open"]).map V.str := if_pos rfl
theorem right_area (f1 f2 : Addr) : rightOf f1 f2 "area" = (txts ["a", "cut"]).map V.str := by
  unfold rightOf
  rw [if_neg (by decide +kernel), if_pos rfl]
theorem right_form (f1 f2 : Addr) : rightOf f1 f2 "formula" = [.ref f1, .ref f2] := by
  unfold rightOf
  rw [if_neg (by decide +kernel), if_neg (by decide +kernel), if_pos rfl]
theorem right_fence (f1 f2 : Addr) : rightOf f1 f2 "fence" = [.non, .str "f", .str "load"] := by
  unfold rightOf
  rw [if_neg (by decide +kernel), if_neg (by decide +kernel), if_neg (by decide +kernel), if_pos rfl]
theorem right_flag (f1 f2 : Addr) {wd : Str} (h : wd ∈ flagsV) : rightOf f1 f2 wd = [.bl true, .bl false] := by
  have n : ∀ x ∈ flagsV, x ≠ "name" ∧ x ≠ "area" ∧ x ≠ "formula" ∧ x ≠ "fence" := by decide +kernel
  obtain ⟨n1, n2, n3, n4⟩ := n wd h
  unfold rightOf
  rw [if_neg n1, if_neg n2, if_neg n3, if_neg n4]
theorem wrong_name (t1 l1 fo e0 l2 t3 e1 e2 : Addr) : wrongOf t1 l1 fo e0 l2 t3 e1 e2 "name" = oddL t1 l1 fo := if_pos rfl
theorem wrong_area (t1 l1 fo e0 l2 t3 e1 e2 : Addr) : wrongOf t1 l1 fo e0 l2 t3 e1 e2 "area" = oddL t1 l1 fo := by
  unfold wrongOf
  rw [if_neg (by decide +kernel), if_pos rfl]
theorem wrong_form (t1 l1 fo e0 l2 t3 e1 e2 : Addr) : wrongOf t1 l1 fo e0 l2 t3 e1 e2 "formula" = wrForm e0 l2 := by
  unfold wrongOf
  rw [if_neg (by decide +kernel), if_neg (by decide +kernel), if_pos rfl]
theorem wrong_fence (t1 l1 fo e0 l2 t3 e1 e2 : Addr) : wrongOf t1 l1 fo e0 l2 t3 e1 e2 "fence" = wrFence t3 := by
  unfold wrongOf
  rw [if_neg (by decide +kernel), if_neg (by decide +kernel), if_neg (by decide +kernel), if_pos rfl]
theorem wrong_flag (t1 l1 fo e0 l2 t3 e1 e2 : Addr) {wd : Str} (h : wd ∈ flagsV) : wrongOf t1 l1 fo e0 l2 t3 e1 e2 wd = wrFlag e1 e2 := by
  have n : ∀ x ∈ flagsV, x ≠ "name" ∧ x ≠ "area" ∧ x ≠ "formula" ∧ x ≠ "fence" := by decide +kernel
  obtain ⟨n1, n2, n3, n4⟩ := n wd h
  unfold wrongOf
  rw [if_neg n1, if_neg n2, if_neg n3, if_neg n4]
theorem words_cases {wd : Str} (h : wd ∈ wordsV) : wd = "name" ∨ wd = "area" ∨ wd = "formula" ∨ wd = "fence" ∨ wd ∈ flagsV := by
  have ws : ∀ x ∈ wordsV, x = "name" ∨ x = "area" ∨ x = "formula" ∨ x = "fence" ∨ x ∈ flagsV := by decide +kernel
  exact ws wd h
theorem desc_right (T : TxtL K w mg a c q ls) {t1 l1 fo f1 f2 e0 l2 t3 e1 e2 : Addr} {H : Hp} (W : ArgW c t1 l1 fo f1 f2 e0 l2 t3 e1 e2 H) {wd : Str} (hw : wd ∈ wordsV) {v : V} (hv : v ∈ rightOf f1 f2 wd) : Desc K c H wd v true := by
  have nm : ∀ z ∈ txts ["x", "zzzz", "open", "a", "cut", "f", "load"], NameV K H (.str z) true := by
    have : ∀ z ∈ txts ["x", "zzzz", "open", "a", "cut", "f", "load"], z.length ≤ 1000 ∧ isName z = true := by decide +kernel
    exact fun z hz => .inl ⟨z, rfl, (this z hz).1, (this z hz).2⟩
  have fm : ∀ x, (∃ dx fs, H x = some (.ins c.Formula dx fs)) → FormV K c H (.ref x) true := fun x ⟨dx, fs, e⟩ => ⟨_, .base (.ins e T.cl T.ca_F T.cn_F T.ct_F T.cm_F), T.kit_FF⟩
  have sub : ∀ z, z ∈ txts ["x", "zzzz", "open"] ∨ z ∈ txts ["a", "cut"] → z ∈ txts ["x", "zzzz", "open", "a", "cut", "f", "load"] := by
    have h1 : ∀ z ∈ txts ["x", "zzzz", "open"], z ∈ txts ["x", "zzzz", "open", "a", "cut", "f", "load"] := by decide +kernel
    have h2 : ∀ z ∈ txts ["a", "cut"], z ∈ txts ["x", "zzzz", "open", "a", "cut", "f", "load"] := by decide +kernel
    exact fun z h => h.elim (h1 z) (h2 z)
  rcases words_cases hw with rfl | rfl | rfl | rfl | hf
  · rw [right_name] at hv
    obtain ⟨z, hz, rfl⟩ := List.mem_map.mp hv
    exact desc_name (.inl rfl) (.str z) (nm z (sub z (.inl hz)))
  · rw [right_area] at hv
    obtain ⟨z, hz, rfl⟩ := List.mem_map.mp hv
    exact desc_name (.inr rfl) (.str z) (nm z (sub z (.inr hz)))
  · rw [right_form] at hv
    simp only [List.mem_cons, List.not_mem_nil, or_false] at hv
    rcases hv with rfl | rfl
    · exact desc_form (.ref _) (fm _ W.f1)
    · exact desc_form (.ref _) (fm _ W.f2)
  · rw [right_fence] at hv
    simp only [List.mem_cons, List.not_mem_nil, or_false] at hv
    rcases hv with rfl | rfl | rfl
    · exact desc_fence .non (.inl ⟨rfl, rfl⟩)
    · exact desc_fence (.str _) (.inr ⟨(fun e => by cases e), nm _ (by decide +kernel)⟩)
    · exact desc_fence (.str _) (.inr ⟨(fun e => by cases e), nm _ (by decide +kernel)⟩)
  · rw [right_flag _ _ hf] at hv
    simp only [List.mem_cons, List.not_mem_nil, or_false] at hv
    rcases hv with rfl | rfl
    · exact desc_flag hf (.bl _) (.inl ⟨_, rfl, rfl⟩) rfl
    · exact desc_flag hf (.bl _) (.inl ⟨_, rfl, rfl⟩) rfl
theorem desc_wrong (T : TxtL K w mg a c q ls) {t1 l1 fo f1 f2 e0 l2 t3 e1 e2 : Addr} {H : Hp} (W : ArgW c t1 l1 fo f1 f2 e0 l2 t3 e1 e2 H) {wd : Str} (hw : wd ∈ wordsV) {v : V} (hv : v ∈ wrongOf t1 l1 fo e0 l2 t3 e1 e2 wd) : Desc K c H wd v false := by
  have nn : ∀ (v : V) (t : Value), TyX K H v t → PySem.W.kitOne K t (.type "str") = some false → NameV K H v false := fun v t h1 h2 => .inr ⟨rfl, t, h1, h2⟩
  have ns : ∀ z ∈ odd7, NameV K H (.str z) false := by
    have : ∀ z ∈ odd7, z.length ≤ 1000 ∧ isName z = false := by decide +kernel
    exact fun z hz => .inl ⟨z, rfl, (this z hz).1, (this z hz).2⟩
  have bb : ∀ (v : V) (t : Value), TyX K H v t → PySem.W.kitOne K t (.type "bool") = some false → BoolV K H v none := fun v t h1 h2 => .inr ⟨rfl, t, h1, h2⟩
  have odd : ∀ v ∈ oddL t1 l1 fo, Plain v ∧ NameV K H v false := fun v hv => by
    rcases List.mem_append.mp hv with hv | hv
    · obtain ⟨z, hz, rfl⟩ := List.mem_map.mp hv
      exact ⟨.str z, ns z hz⟩
    · simp only [List.mem_cons, List.not_mem_nil, or_false] at hv
      rcases hv with rfl | rfl | rfl | rfl | rfl | rfl
      · exact ⟨.int _, nn _ _ (.base (.int _)) (kit_ty (by decide +kernel))⟩
      · exact ⟨.non, nn _ _ (.base .non) (kit_ty (by decide +kernel))⟩
      · exact ⟨.bl _, nn _ _ (.base (.bl _)) (kit_ty (by decide +kernel))⟩
      · exact ⟨.ref _, nn _ _ (.base (.tup W.t1)) (kit_ty (by decide +kernel))⟩
      · exact ⟨.ref _, nn _ _ (.base (.lst W.l1)) (kit_ty (by decide +kernel))⟩
      · obtain ⟨dx, fs, e⟩ := W.fo
        exact ⟨.ref _, nn _ _ (.base (.ins e T.cl T.ca_F T.cn_F T.ct_F T.cm_F)) T.kit_FS⟩
  rcases words_cases hw with rfl | rfl | rfl | rfl | hf
  · rw [wrong_name] at hv
    exact desc_name (.inl rfl) (odd v hv).1 (odd v hv).2
  · rw [wrong_area] at hv
    exact desc_name (.inr rfl) (odd v hv).1 (odd v hv).2
  · rw [wrong_form] at hv
    unfold wrForm at hv
    simp only [List.mem_cons, List.not_mem_nil, or_false] at hv
    rcases hv with rfl | rfl | rfl | rfl | rfl | rfl
    · exact desc_form (.str _) ⟨_, .base (.str _), T.kit_str⟩
    · exact desc_form .non ⟨_, .base .non, T.kit_non⟩
    · exact desc_form (.int _) ⟨_, .base (.int _), T.kit_int⟩
    · exact desc_form (.bl _) ⟨_, .base (.bl _), T.kit_bl⟩
    · exact desc_form (.ref _) ⟨_, .base (.tup W.e0), T.kit_tup⟩
    · exact desc_form (.ref _) ⟨_, .base (.lst W.l2), T.kit_lst⟩
  · rw [wrong_fence] at hv
    rcases List.mem_append.mp hv with hv | hv
    · obtain ⟨z, hz, rfl⟩ := List.mem_map.mp hv
      exact desc_fence (.str _) (.inr ⟨(fun e => by cases e), ns z hz⟩)
    · simp only [List.mem_cons, List.not_mem_nil, or_false] at hv
      rcases hv with rfl | rfl | rfl
      · exact desc_fence (.int _) (.inr ⟨(fun e => by cases e), nn _ _ (.base (.int _)) (kit_ty (by decide +kernel))⟩)
      · exact desc_fence (.bl _) (.inr ⟨(fun e => by cases e), nn _ _ (.base (.bl _)) (kit_ty (by decide +kernel))⟩)
      · exact desc_fence (.ref _) (.inr ⟨(fun e => by cases e), nn _ _ (.base (.tup W.t3)) (kit_ty (by decide +kernel))⟩)
  · rw [wrong_flag _ _ _ _ _ _ _ _ hf] at hv
    simp only [List.mem_cons, List.not_mem_nil, or_false] at hv
    rcases hv with rfl | rfl | rfl | rfl | rfl | rfl | rfl
    · exact desc_flag hf (.int _) (bb _ _ (.base (.int _)) (kit_ty (by decide +kernel))) rfl
    · exact desc_flag hf (.int _) (bb _ _ (.base (.int _)) (kit_ty (by decide +kernel))) rfl
    · exact desc_flag hf .non (bb _ _ (.base .non) (kit_ty (by decide +kernel))) rfl
    · exact desc_flag hf (.str _) (bb _ _ (.base (.str _)) (kit_ty (by decide +kernel))) rfl
    · exact desc_flag hf (.str _) (bb _ _ (.base (.str _)) (kit_ty (by decide +kernel))) rfl
    · exact desc_flag hf (.ref _) (bb _ _ (.base (.lst W.e1)) (kit_ty (by decide +kernel))) rfl
    · exact desc_flag hf (.ref _) (bb _ _ (.base (.tup W.e2)) (kit_ty (by decide +kernel))) rfl
/-- what is told of an argument stays as long as what is new since H0 does -/
def ArgN (K : PySem.W.Frag) (c : Fs) (H0 H : Hp) (wd : Str) (v : V) (r : Bool) : Prop := ∀ H', (∀ b o, H0 b = none → H b = some o → H' b = some o) → Desc K c H' wd v r
def spArg (K : PySem.W.Frag) (c : Fs) : Sp := fun vs H Q _ => ∃ (d l : Addr) (wd : Str), vs = [.ref d, .str wd] ∧ DealA H d l ∧ wd ∈ wordsV ∧
  ∀ (p : Addr) (v : V) (r : Bool) (H' : Hp), H p = none → H' p = some (.tup [v, .bl r]) → p ≠ d → p ≠ l → ArgN K c H H' wd v r → DealA H' d l → Keep d l H H' → Q (.ref p) H'
def key (z : String) : Key := .inr (Str.ofString z)
def putAll (m : List (Key × V)) (l : List (Key × V)) : List (Key × V) := l.foldl (fun m p => putK m p.1 p.2) m
theorem putAll_snoc (m l : List (Key × V)) (p : Key × V) : putAll m (l ++ [p]) = putK (putAll m l) p.1 p.2 := by
  unfold putAll
  rw [List.foldl_append]
  rfl
theorem putAll_not : ∀ (l m : List (Key × V)) (k : Key), k ∉ l.map (·.1) → valV (putAll m l) k = valV m k
  | [], m, k, _ => rfl
  | p :: r, m, k, h => by
    rw [List.map_cons] at h
    show valV (putAll (putK m p.1 p.2) r) k = valV m k
    rw [putAll_not r _ k fun q => h (List.mem_cons_of_mem _ q), valV_put, if_neg fun e => h (by rw [e]; exact List.mem_cons_self ..)]
theorem putAll_get : ∀ (l m : List (Key × V)) (k : Key) (v : V), (l.map (·.1)).Nodup → (k, v) ∈ l → valV (putAll m l) k = some v
  | [], m, k, v, _, h => by cases h
  | p :: r, m, k, v, hn, h => by
    rw [List.map_cons] at hn
    obtain ⟨n1, n2⟩ := List.nodup_cons.mp hn
    show valV (putAll (putK m p.1 p.2) r) k = some v
    rcases List.mem_cons.mp h with e | h
    · rw [← e] at n1 ⊢
      rw [putAll_not r _ k n1, valV_put, if_pos rfl]
    · exact putAll_get r _ k v n2 h
theorem putAll_len : ∀ (l m : List (Key × V)), (putAll m l).length ≤ m.length + l.length
  | [], m => Nat.le_refl _
  | p :: r, m => by
    have i := putAll_len r (putK m p.1 p.2)
    have j := DSub.putK_len m p.1 p.2
    show (putAll (putK m p.1 p.2) r).length ≤ _
    rw [List.length_cons]
    omega
theorem merge_all (l : List (Key × V)) : mergeK [] l = putAll [] l := rfl
/-- the lists of a flag: right ones, wrong ones, and what those point to -/
structure FlagAt (e : Addr × Addr × Addr × Addr) (rd wd d l : Addr) (H0 H : Hp) : Prop where
  x1 : H e.1 = some (.lst [.bl true, .bl false])
  x2 : H e.2.1 = some (.lst (wrFlag e.2.2.1 e.2.2.2))
  e1 : H e.2.2.1 = some (.lst [])
  e2 : H e.2.2.2 = some (.tup [])
  ne : ∀ x ∈ [e.1, e.2.1, e.2.2.1, e.2.2.2], x ≠ rd ∧ x ≠ wd ∧ x ≠ d ∧ x ≠ l
  fr : H0 e.2.2.1 = none ∧ H0 e.2.2.2 = none
theorem FlagAt.keep {e : Addr × Addr × Addr × Addr} {rd wd d l : Addr} {H0 H H' : Hp} (W : FlagAt e rd wd d l H0 H) (k : Keep rd wd H H') : FlagAt e rd wd d l H0 H' :=
  ⟨k _ _ W.x1 (W.ne _ (by simp)).1 (W.ne _ (by simp)).2.1, k _ _ W.x2 (W.ne _ (by simp)).1 (W.ne _ (by simp)).2.1, k _ _ W.e1 (W.ne _ (by simp)).1 (W.ne _ (by simp)).2.1, k _ _ W.e2 (W.ne _ (by simp)).1 (W.ne _ (by simp)).2.1, W.ne, W.fr⟩
theorem zip_snoc {α β : Type} : ∀ {l : List α} {xs : List β} {z : α} {e : β}, l[xs.length]? = some z → l.zip (xs ++ [e]) = l.zip xs ++ [(z, e)]
  | [], xs, z, e, h => by cases h
  | c :: l, [], z, e, h => by
    have h' : c = z := Option.some.inj h
    subst h'
    cases l <;> rfl
  | c :: l, x :: xs, z, e, h => by
    have h' : l[xs.length]? = some z := h
    show (c, x) :: l.zip (xs ++ [e]) = (c, x) :: (l.zip xs ++ [(z, e)])
    rw [zip_snoc h']
def ent1 (p : Str × (Addr × Addr × Addr × Addr)) : Key × V := (.inr p.1, .ref p.2.1)
def ent2 (p : Str × (Addr × Addr × Addr × Addr)) : Key × V := (.inr p.1, .ref p.2.2.1)
def kr0 (r1 r2 r3 r4 : Addr) : List (Key × V) := [(key "name", .ref r1), (key "area", .ref r2), (key "formula", .ref r3), (key "fence", .ref r4)]
theorem ok_argument {f1 f2 : FuncData} (F : Fun K "_law_argument" "_law_argument" s_law_argument f fd) (T : TxtL K w mg a c q ls)
    (G__law_draw : FnOk P w K mg base CX0 1 ls.draw f1 ["_law_deal", "_law_wide"] spDrawA) (b__law_draw : Binds K f1 ["_law_deal", "_law_wide"] [])
    (G__law_pick : FnOk P w K mg base CX0 2 ls.pick f2 ["_law_deal", "_law_some"] (spPickA K)) (b__law_pick : Binds K f2 ["_law_deal", "_law_some"] [])
    (R_Formula_of : FnR P w K mg base CX0 4 c.fof (spOf0 K c)) (R_Formula_always : FnR P w K mg base CX0 4 c.fal (spAl0 K c)) :
    FnOk P w K mg base CX0 5 f fd ["_law_deal", "_law_word"] (spArg K c) := by
  refine F.ok sc_law_argument (fun vs H Q E h => ?_) (fun cdv A outer s H vs Q E hr h => ?_)
  · obtain ⟨_, _, _, rfl, _⟩ := h
    rfl
  · obtain ⟨d, l, wd, rfl, D, hwd, k⟩ := h
    refine ⟨_, (pss_cons (ps_set (i := 2) sc_law_argument.nd rfl (Or.inl rfl) (pe_lst (pa_cons pe_str (pa_cons pe_str (pa_cons pe_str (pa_cons pe_str (pa_cons pe_str (pa_cons pe_str (pa_cons pe_str (pa_cons pe_int (pa_cons pe_non (pa_cons pe_bl (pa_cons (pe_tup (pa_cons pe_str pa_nil)) (pa_cons (pe_lst (pa_cons pe_str pa_nil)) (pa_cons (ClX.pe_cmeth (pe_gr rfl T.g_Formula) T.cr_Formula T.cm_Formula_of R_Formula_of (hr.mono (by decide)) (E := E0) pass0 (pa_cons pe_str pa_nil)) pa_nil)))))))))))))))
    (pss_cons (ps_set (i := 3) sc_law_argument.nd rfl (Or.inl rfl) (pe_disp (pps_cons pe_str (pe_lst (pa_cons pe_str (pa_cons pe_str (pa_cons pe_str pa_nil)))) (pps_cons pe_str (pe_lst (pa_cons pe_str (pa_cons pe_str pa_nil))) (pps_cons pe_str (pe_lst (pa_cons (ClX.pe_cmeth (pe_gr rfl T.g_Formula) T.cr_Formula T.cm_Formula_of R_Formula_of (hr.mono (by decide)) (E := E0) pass0 (pa_cons pe_str pa_nil)) (pa_cons (ClX.pe_cmeth (pe_gr rfl T.g_Formula) T.cr_Formula T.cm_Formula_always R_Formula_always (hr.mono (by decide)) (E := E0) pass0 (pa_cons pe_bl pa_nil)) pa_nil))) pps_nil))) rfl rfl (by simp) (by decide)))
    (pss_cons (ps_asg (pe_lst (pa_cons pe_non (pa_cons pe_str (pa_cons pe_str pa_nil)))) (pg_sub (pv 3) pe_str (set_dict (Nat.lt_of_le_of_lt (Nat.add_le_add_left (by decide : 1 ≤ 64) _) hr.units))))
    (pss_cons (ps_set (i := 4) sc_law_argument.nd rfl (Or.inl rfl) (pe_disp (pps_cons pe_str (pv 2) (pps_cons pe_str (pv 2) (pps_cons pe_str (pe_lst (pa_cons pe_str (pa_cons pe_non (pa_cons pe_int (pa_cons pe_bl (pa_cons (pe_tup pa_nil) (pa_cons (pe_lst (pa_cons pe_str pa_nil)) pa_nil))))))) pps_nil))) rfl rfl (by simp) (by decide)))
    (pss_cons (ps_asg (pe_op op_cat (pe_slice sl_list (pv 2) po_none (po_some pe_int)) (pe_lst (pa_cons pe_int (pa_cons pe_bl (pa_cons (pe_tup (pa_cons pe_str pa_nil)) pa_nil))))) (pg_sub (pv 4) pe_str (set_dict (Nat.lt_of_le_of_lt (Nat.add_le_add_left (by decide : 1 ≤ 64) _) hr.units))))
    (pss_cons (ps_for PassesOwn.never rfl (pi_tup (pe_tup (pa_cons pe_str (pa_cons pe_str (pa_cons pe_str pa_nil))))) (pg_name (i := 5) sc_law_argument.nd rfl (Or.inl rfl))
      (pss_one (ps_asg (pe_tup (pa_cons (pe_lst (pa_cons pe_bl (pa_cons pe_bl pa_nil))) (pa_cons (pe_lst (pa_cons pe_int (pa_cons pe_int (pa_cons pe_non (pa_cons pe_str (pa_cons pe_str (pa_cons (pe_lst pa_nil) (pa_cons (pe_tup pa_nil) pa_nil)))))))) pa_nil))) (pg_tup rfl (pgs_cons (pg_sub (pv 3) (pv 5) (set_dict (Nat.lt_of_le_of_lt (Nat.add_le_add_left (by decide : 1 ≤ 64) _) hr.units))) (pgs_cons (pg_sub (pv 4) (pv 5) (set_dict (Nat.lt_of_le_of_lt (Nat.add_le_add_left (by decide : 1 ≤ 64) _) hr.units))) pgs_nil))))))
    (pss_cons (ps_set (i := 6) sc_law_argument.nd rfl (Or.inl rfl) (pe_cmpR op_gt (pe_call G__law_draw (hr.mono (by decide)) rfl T.g__law_draw T.k__law_draw b__law_draw .nil pass0 (pa_cons (pv 0) (pa_cons pe_int pa_nil))) pe_int (nomark _)))
    (pss_one (ps_ret (pe_tup (pa_cons (pe_call G__law_pick (hr.mono (by decide)) rfl T.g__law_pick T.k__law_pick b__law_pick .nil pass0 (pa_cons (pv 0) (pa_cons (pe_ifExp (pt_val (pv 6)) (pe_dget (Nat.lt_of_le_of_lt (Nat.add_le_add_left (by decide : 1 ≤ 64) _) hr.units) (pv 3) (pv 1) (fun _ _ => rfl)) (pe_dget (Nat.lt_of_le_of_lt (Nat.add_le_add_left (by decide : 1 ≤ 64) _) hr.units) (pv 4) (pv 1) (fun _ _ => rfl))) pa_nil))) (pa_cons (pv 6) pa_nil)))))))))))), ?_⟩
    refine ⟨(by show 1 ≤ sizeLine; decide), fun t1 ht1 => ⟨(by show 1 ≤ sizeLine; decide), fun l1 hl1 => ⟨rfl, Str.ofString "x", rfl, by decide +kernel, by decide +kernel, fun fo H1 hfo hF0 s1 => ⟨(by show 13 ≤ sizeLine; decide), fun od hod => ?_⟩⟩⟩⟩
    have a1 := Same.upd_new (o := .tup [V.str "a"]) ht1
    have a2 := Same.upd_new (o := .lst [V.str "a"]) hl1
    have a3 := Same.upd_new (o := .lst (oddL t1 l1 fo)) hod
    obtain ⟨x1, x2, x3, x4, x5, q0, _⟩ := hF0
    have qt1 := a3 _ _ (s1 _ _ (a2 _ _ (upd_same (H := H) (a := t1) (o := .tup [V.str "a"]))))
    have ql1 := a3 _ _ (s1 _ _ (upd_same (a := l1) (o := .lst [V.str "a"])))
    have qfo := a3 _ _ q0
    have qod : (upd H1 od (.lst (oddL t1 l1 fo))) od = some (.lst (oddL t1 l1 fo)) := upd_same
    have sA := ((a1.trans a2).trans s1).trans a3
    have DA := D.same sA
    have nt1 := (D.nd ht1)
    have nt1' := (D.nl ht1)
    have nl1 := ((D.same a1).nd hl1)
    have nl1' := ((D.same a1).nl hl1)
    have nfo := ((D.same (a1.trans a2)).nd hfo)
    have nfo' := ((D.same (a1.trans a2)).nl hfo)
    have nod := ((D.same ((a1.trans a2).trans s1)).nd hod)
    have nod' := ((D.same ((a1.trans a2).trans s1)).nl hod)
    have fl1 := a1.free hl1
    have ffo := (a1.trans a2).free hfo
    have ft1 : H t1 = none := ht1
    clear a1 a2 a3 s1 ht1 hl1 hfo hod q0
    -- the dict of what is right
    refine fun rd hrd => ⟨(by show 3 ≤ sizeLine; decide), fun r1 hr1 => ⟨(by show 2 ≤ sizeLine; decide), fun r2 hr2 => ⟨rfl, Str.ofString "x", rfl, by decide +kernel, by decide +kernel, fun g1 H2 hg1 hF1 s2 => ⟨rfl, true, rfl, fun g2 H3 hg2 hF2 s3 => ⟨(by show 2 ≤ sizeLine; decide), fun r3 hr3 => ?_⟩⟩⟩⟩⟩
    have b0 := Same.upd_new (o := .dK []) hrd
    have b1 := Same.upd_new (o := .lst ((txts ["x", "zzzz", "open"]).map V.str)) hr1
    have b2 := Same.upd_new (o := .lst ((txts ["a", "cut"]).map V.str)) hr2
    have b3 := Same.upd_new (o := .lst [V.ref g1, .ref g2]) hr3
    obtain ⟨y1, y2, y3, y4, y5, q1, _⟩ := hF1
    obtain ⟨z1, z2, z3, z4, z5, q2, _⟩ := hF2
    have sB := ((((b0.trans b1).trans b2).trans s2).trans s3).trans b3
    have qrd := b3 _ _ (s3 _ _ (s2 _ _ (b2 _ _ (b1 _ _ (upd_same (a := rd) (o := .dK []))))))
    have qr1 := b3 _ _ (s3 _ _ (s2 _ _ (b2 _ _ (upd_same (a := r1) (o := .lst ((txts ["x", "zzzz", "open"]).map V.str))))))
    have qr2 := b3 _ _ (s3 _ _ (s2 _ _ (upd_same (a := r2) (o := .lst ((txts ["a", "cut"]).map V.str)))))
    have qg1 := b3 _ _ (s3 _ _ q1)
    have qg2 := b3 _ _ q2
    have qr3 : (upd H3 r3 (.lst [V.ref g1, .ref g2])) r3 = some (.lst [V.ref g1, .ref g2]) := upd_same
    have D0 := DA.same b0
    have D1 := D0.same b1
    have D2 := D1.same b2
    have D3 := D2.same s2
    have D4 := D3.same s3
    have D5 := D4.same b3
    have nrd : rd ≠ d ∧ rd ≠ l := ⟨DA.nd hrd, DA.nl hrd⟩
    have nn1 : ∀ x ∈ [r1, r2, g1, g2, r3, t1, l1, fo, od], x ≠ rd ∧ x ≠ d ∧ x ≠ l := by
      have rr0 : (upd (upd H1 od (.lst (oddL t1 l1 fo))) rd (.dK [])) rd = some (.dK []) := upd_same
      intro x hx
      simp only [List.mem_cons, List.not_mem_nil, or_false] at hx
      rcases hx with rfl | rfl | rfl | rfl | rfl | rfl | rfl | rfl | rfl
      · exact ⟨(ne_of_none rr0 hr1).symm, D0.nd hr1, D0.nl hr1⟩
      · exact ⟨(ne_of_none (b1 _ _ rr0) hr2).symm, D1.nd hr2, D1.nl hr2⟩
      · exact ⟨(ne_of_none (b2 _ _ (b1 _ _ rr0)) hg1).symm, D2.nd hg1, D2.nl hg1⟩
      · exact ⟨(ne_of_none (s2 _ _ (b2 _ _ (b1 _ _ rr0))) hg2).symm, D3.nd hg2, D3.nl hg2⟩
      · exact ⟨(ne_of_none (s3 _ _ (s2 _ _ (b2 _ _ (b1 _ _ rr0)))) hr3).symm, D4.nd hr3, D4.nl hr3⟩
      · exact ⟨ne_of_none qt1 hrd, nt1, nt1'⟩
      · exact ⟨ne_of_none ql1 hrd, nl1, nl1'⟩
      · exact ⟨ne_of_none qfo hrd, nfo, nfo'⟩
      · exact ⟨ne_of_none qod hrd, nod, nod'⟩
    replace qt1 := sB _ _ qt1
    replace ql1 := sB _ _ ql1
    replace qfo := sB _ _ qfo
    replace qod := sB _ _ qod
    have sC := sA.trans sB
    have fg1 := (sA.trans ((b0.trans b1).trans b2)).free hg1
    have fg2 := (sA.trans (((b0.trans b1).trans b2).trans s2)).free hg2
    have hrdH : H rd = none := sA.free hrd
    clear b0 b1 b2 b3 s2 s3 sA sB hrd hr1 hr2 hg1 hg2 hr3 q1 q2 D0 D1 D2 D3 D4 DA nt1 nt1' nl1 nl1' nfo nfo' nod nod'
    refine ⟨qrd, [(key "name", .ref r1), (key "area", .ref r2), (key "formula", .ref r3)], rfl, (by show 3 ≤ 15; decide), ?_⟩
    rw [merge_all]
    generalize upd H3 r3 (.lst [V.ref g1, .ref g2]) = HX at qrd qr1 qr2 qg1 qg2 qr3 D5 qt1 ql1 qfo qod sC ⊢
    have c0 : Keep rd rd HX (upd HX rd (.dK (putAll [] [(key "name", .ref r1), (key "area", .ref r2), (key "formula", .ref r3)]))) := Keep.upd_d
    have u0 : (upd HX rd (.dK (putAll [] [(key "name", .ref r1), (key "area", .ref r2), (key "formula", .ref r3)]))) rd = some (.dK (putAll [] [(key "name", .ref r1), (key "area", .ref r2), (key "formula", .ref r3)])) := upd_same
    have D6 := D5.upd (o := .dK (putAll [] [(key "name", .ref r1), (key "area", .ref r2), (key "formula", .ref r3)])) nrd.1 nrd.2
    generalize upd HX rd (.dK (putAll [] [(key "name", .ref r1), (key "area", .ref r2), (key "formula", .ref r3)])) = HD at c0 u0 D6 ⊢
    refine ⟨(by show 3 ≤ sizeLine; decide), fun r4 hr4 => ⟨_, rfl, rd, _, rfl, DPut.k (k := key "fence") ((Same.upd_new hr4) _ _ u0) (Nat.lt_of_le_of_lt (putAll_len _ _) (by show 3 < sizeLine; decide)), ?_⟩⟩
    rw [← putAll_snoc _ _ (key "fence", V.ref r4)]
    have e1 := Same.upd_new (o := .lst [V.non, .str "f", .str "load"]) hr4
    have n4 : r4 ≠ rd ∧ r4 ≠ d ∧ r4 ≠ l := ⟨(ne_of_none u0 hr4).symm, D6.nd hr4, D6.nl hr4⟩
    have c1 : Keep rd rd HX (upd (upd HD r4 (.lst [V.non, .str "f", .str "load"])) rd (.dK (putAll [] ([(key "name", .ref r1), (key "area", .ref r2), (key "formula", .ref r3)] ++ [(key "fence", V.ref r4)])))) := (c0.trans (Keep.same e1)).trans Keep.upd_d
    have u1 : (upd (upd HD r4 (.lst [V.non, .str "f", .str "load"])) rd (.dK (putAll [] ([(key "name", .ref r1), (key "area", .ref r2), (key "formula", .ref r3)] ++ [(key "fence", V.ref r4)])))) rd = some (.dK (putAll [] (kr0 r1 r2 r3 r4))) := upd_same
    have qr4 : (upd (upd HD r4 (.lst [V.non, .str "f", .str "load"])) rd (.dK (putAll [] ([(key "name", .ref r1), (key "area", .ref r2), (key "formula", .ref r3)] ++ [(key "fence", V.ref r4)])))) r4 = some (.lst [V.non, .str "f", .str "load"]) := by
      rw [upd_ne n4.1]
      exact upd_same
    have D7 := (D6.same e1).upd (o := .dK (putAll [] ([(key "name", .ref r1), (key "area", .ref r2), (key "formula", .ref r3)] ++ [(key "fence", V.ref r4)]))) nrd.1 nrd.2
    generalize upd (upd HD r4 (.lst [V.non, .str "f", .str "load"])) rd (.dK (putAll [] ([(key "name", .ref r1), (key "area", .ref r2), (key "formula", .ref r3)] ++ [(key "fence", V.ref r4)]))) = HE at c1 u1 qr4 D7 ⊢
    have g : ∀ {x : Addr} {o : HO}, HX x = some o → x ≠ rd → HE x = some o := fun e n => c1 _ _ e n n
    replace qr1 := g qr1 (nn1 _ (by simp)).1
    replace qr2 := g qr2 (nn1 _ (by simp)).1
    replace qr3 := g qr3 (nn1 _ (by simp)).1
    replace qg1 := g qg1 (nn1 _ (by simp)).1
    replace qg2 := g qg2 (nn1 _ (by simp)).1
    replace qt1 := g qt1 (nn1 _ (by simp)).1
    replace ql1 := g ql1 (nn1 _ (by simp)).1
    replace qfo := g qfo (nn1 _ (by simp)).1
    replace qod := g qod (nn1 _ (by simp)).1
    have sE : ∀ b o, H b = some o → HE b = some o := fun b o e => g (sC _ _ e) (ne_of_none e hrdH)
    clear g c0 c1 e1 u0 hr4 D5 D6 qrd sC
    -- the dict of what is wrong
    refine fun wr hwr => ⟨_, rfl, _, rfl, (by show 0 ≤ sizeLine; decide), fun e0 he0 => ⟨(by show 1 ≤ sizeLine; decide), fun l2 hl2 => ⟨(by show 6 ≤ sizeLine; decide), fun w3 hw3 => ?_⟩⟩⟩
    have b0 := Same.upd_new (o := .dK []) hwr
    have b1 := Same.upd_new (o := .tup []) he0
    have b2 := Same.upd_new (o := .lst [V.str "x"]) hl2
    have b3 := Same.upd_new (o := .lst [V.str "x", .non, .int 3, .bl true, .ref e0, .ref l2]) hw3
    have u2 : (upd HE wr (.dK [])) wr = some (.dK []) := upd_same
    have nwr : wr ≠ rd ∧ wr ≠ d ∧ wr ≠ l := ⟨(ne_of_none u1 hwr).symm, D7.nd hwr, D7.nl hwr⟩
    have hwrH : H wr = none := by
      cases e : H wr with
      | none => rfl
      | some o =>
        have := sE _ _ e
        rw [hwr] at this
        cases this
    have sE' : Same H HE := sE
    have fe0 := (sE'.trans b0).free he0
    have fl2 := ((sE'.trans b0).trans b1).free hl2
    have qe0 := b3 _ _ (b2 _ _ (upd_same (H := upd HE wr (.dK [])) (a := e0) (o := .tup [])))
    have ql2 := b3 _ _ (upd_same (a := l2) (o := .lst [V.str "x"]))
    have D8 := D7.same b0
    have D9 := D8.same b1
    have D10 := D9.same b2
    have D11 := D10.same b3
    have u1' := b0 _ _ u1
    have ne0 : e0 ≠ rd ∧ e0 ≠ wr ∧ e0 ≠ d ∧ e0 ≠ l := ⟨(ne_of_none u1' he0).symm, (ne_of_none u2 he0).symm, D8.nd he0, D8.nl he0⟩
    have nl2 : l2 ≠ rd ∧ l2 ≠ wr ∧ l2 ≠ d ∧ l2 ≠ l := ⟨(ne_of_none (b1 _ _ u1') hl2).symm, (ne_of_none (b1 _ _ u2) hl2).symm, D9.nd hl2, D9.nl hl2⟩
    have nw3 : w3 ≠ rd ∧ w3 ≠ wr ∧ w3 ≠ d ∧ w3 ≠ l := ⟨(ne_of_none (b2 _ _ (b1 _ _ u1')) hw3).symm, (ne_of_none (b2 _ _ (b1 _ _ u2)) hw3).symm, D10.nd hw3, D10.nl hw3⟩
    have sF := ((b0.trans b1).trans b2).trans b3
    have u2' := b3 _ _ (b2 _ _ (b1 _ _ u2))
    refine ⟨u2', [(key "name", .ref od), (key "area", .ref od), (key "formula", .ref w3)], rfl, (by show 3 ≤ 15; decide), ?_⟩
    rw [merge_all]
    have qw3 : (upd (upd (upd (upd HE wr (.dK [])) e0 (.tup [])) l2 (.lst [V.str "x"])) w3 (.lst [V.str "x", .non, .int 3, .bl true, .ref e0, .ref l2])) w3 = some (.lst [V.str "x", .non, .int 3, .bl true, .ref e0, .ref l2]) := upd_same
    have nw : ∀ x ∈ [r1, r2, g1, g2, r3, t1, l1, fo, od, r4], x ≠ wr := by
      intro x hx
      simp only [List.mem_cons, List.not_mem_nil, or_false] at hx
      rcases hx with rfl | rfl | rfl | rfl | rfl | rfl | rfl | rfl | rfl | rfl
      · exact ne_of_none qr1 hwr
      · exact ne_of_none qr2 hwr
      · exact ne_of_none qg1 hwr
      · exact ne_of_none qg2 hwr
      · exact ne_of_none qr3 hwr
      · exact ne_of_none qt1 hwr
      · exact ne_of_none ql1 hwr
      · exact ne_of_none qfo hwr
      · exact ne_of_none qod hwr
      · exact ne_of_none qr4 hwr
    have c0 : Keep rd wr HE (upd (upd (upd (upd (upd HE wr (.dK [])) e0 (.tup [])) l2 (.lst [V.str "x"])) w3 (.lst [V.str "x", .non, .int 3, .bl true, .ref e0, .ref l2])) wr (.dK (putAll [] [(key "name", .ref od), (key "area", .ref od), (key "formula", .ref w3)]))) := (Keep.same sF).trans Keep.upd_l
    have m1 : ∀ {x : Addr} {o : HO}, (upd (upd (upd (upd HE wr (.dK [])) e0 (.tup [])) l2 (.lst [V.str "x"])) w3 (.lst [V.str "x", .non, .int 3, .bl true, .ref e0, .ref l2])) x = some o → x ≠ wr → (upd (upd (upd (upd (upd HE wr (.dK [])) e0 (.tup [])) l2 (.lst [V.str "x"])) w3 (.lst [V.str "x", .non, .int 3, .bl true, .ref e0, .ref l2])) wr (.dK (putAll [] [(key "name", .ref od), (key "area", .ref od), (key "formula", .ref w3)]))) x = some o := fun e n => by
      rw [upd_ne n]
      exact e
    have u3 : (upd (upd (upd (upd (upd HE wr (.dK [])) e0 (.tup [])) l2 (.lst [V.str "x"])) w3 (.lst [V.str "x", .non, .int 3, .bl true, .ref e0, .ref l2])) wr (.dK (putAll [] [(key "name", .ref od), (key "area", .ref od), (key "formula", .ref w3)]))) wr = some (.dK (putAll [] [(key "name", .ref od), (key "area", .ref od), (key "formula", .ref w3)])) := upd_same
    have u1'' := m1 (sF _ _ u1) nwr.1.symm
    replace qe0 := m1 qe0 ne0.2.1
    replace ql2 := m1 ql2 nl2.2.1
    replace qw3 := m1 qw3 nw3.2.1
    have D12 := D11.upd (o := .dK (putAll [] [(key "name", .ref od), (key "area", .ref od), (key "formula", .ref w3)])) nwr.2.1 nwr.2.2
    have qod' := c0 _ _ qod (nn1 od (by simp)).1 (nw od (by simp))
    generalize upd (upd (upd (upd (upd HE wr (.dK [])) e0 (.tup [])) l2 (.lst [V.str "x"])) w3 (.lst [V.str "x", .non, .int 3, .bl true, .ref e0, .ref l2])) wr (.dK (putAll [] [(key "name", .ref od), (key "area", .ref od), (key "formula", .ref w3)])) = HF at c0 u3 u1'' qe0 ql2 qw3 D12 qod' ⊢
    clear m1 sF u2 u2' u1' b0 b1 b2 b3 D8 D9 D10 D11 hwr he0 hl2 hw3
    -- the fences that are wrong
    refine ⟨_, rfl, _, rfl, od, _, rfl, .inl (.inl qod'), fun sl hsl => ⟨(by show 1 ≤ sizeLine; decide), fun t3 ht3 => ⟨(by show 3 ≤ sizeLine; decide), fun m3 hm3 => ?_⟩⟩⟩
    have b0 := Same.upd_new (o := .lst (odd7.map V.str)) hsl
    have b1 := Same.upd_new (o := .tup [V.str "f"]) ht3
    have b2 := Same.upd_new (o := .lst [V.int 3, .bl true, .ref t3]) hm3
    have sHF : Same H HF := fun b o eb => c0 _ _ (sE b o eb) (ne_of_none eb hrdH) (ne_of_none eb hwrH)
    have ft3 := (sHF.trans b0).free ht3
    have y0 := b2 _ _ (b1 _ _ (upd_same (H := HF) (a := sl) (o := .lst (odd7.map V.str))))
    have qt3 := b2 _ _ (upd_same (a := t3) (o := .tup [V.str "f"]))
    refine ⟨sl, m3, odd7.map V.str, [V.int 3, .bl true, .ref t3], rfl, rfl, y0, upd_same, (by show 10 ≤ sizeLine; decide), fun w4 hw4 => ?_⟩
    have b3 := Same.upd_new (o := .lst (odd7.map V.str ++ [V.int 3, .bl true, .ref t3])) hw4
    have sF := ((b0.trans b1).trans b2).trans b3
    have D13 := D12.same b0
    have D14 := D13.same b1
    have D15 := D14.same b2
    have D16 := D15.same b3
    have v1 := b0 _ _ u1''
    have v3 := b0 _ _ u3
    have nt3 : t3 ≠ rd ∧ t3 ≠ wr ∧ t3 ≠ d ∧ t3 ≠ l := ⟨(ne_of_none v1 ht3).symm, (ne_of_none v3 ht3).symm, D13.nd ht3, D13.nl ht3⟩
    have nw4 : w4 ≠ rd ∧ w4 ≠ wr ∧ w4 ≠ d ∧ w4 ≠ l := ⟨(ne_of_none (b2 _ _ (b1 _ _ v1)) hw4).symm, (ne_of_none (b2 _ _ (b1 _ _ v3)) hw4).symm, D15.nd hw4, D15.nl hw4⟩
    replace qt3 := b3 _ _ qt3
    refine ⟨_, rfl, wr, _, rfl, DPut.k (k := key "fence") (sF _ _ u3) (Nat.lt_of_le_of_lt (putAll_len _ _) (by show 3 < sizeLine; decide)), ?_⟩
    rw [← putAll_snoc _ _ (key "fence", V.ref w4)]
    have D17 := D16.upd (o := .dK (putAll [] ([(key "name", .ref od), (key "area", .ref od), (key "formula", .ref w3)] ++ [(key "fence", V.ref w4)]))) nwr.2.1 nwr.2.2
    refine ⟨(by show 3 ≤ sizeLine; decide), fun tf htf => ⟨tf, rfl, ⟨flagsV.map V.str, .inl (.inl upd_same)⟩, ?_⟩⟩
    have b5 := Same.upd_new (o := .tup (flagsV.map V.str)) htf
    have D18 := D17.same b5
    have w1 := b5 _ _ ((upd_ne nwr.1.symm).trans (sF _ _ u1''))
    have w2 := b5 _ _ (upd_same (a := wr) (o := .dK (putAll [] ([(key "name", .ref od), (key "area", .ref od), (key "formula", .ref w3)] ++ [(key "fence", V.ref w4)]))))
    have w5 := b5 _ _ ((upd_ne nt3.2.1).trans qt3)
    have w6 := b5 _ _ ((upd_ne nw4.2.1).trans (upd_same (a := w4) (o := .lst (odd7.map V.str ++ [V.int 3, .bl true, .ref t3]))))
    have ntf : tf ≠ rd ∧ tf ≠ wr ∧ tf ≠ d ∧ tf ≠ l := ⟨(ne_of_none ((upd_ne nwr.1.symm).trans (sF _ _ u1'')) htf).symm, (ne_of_none upd_same htf).symm, D17.nd htf, D17.nl htf⟩
    have kp0 := ((Keep.same (d := rd) (l := wr) sF).trans (Keep.upd_l (d := rd) (o := .dK (putAll [] ([(key "name", .ref od), (key "area", .ref od), (key "formula", .ref w3)] ++ [(key "fence", V.ref w4)]))))).trans (Keep.same b5)
    refine for_tup (K := K) (a := tf) (xs := flagsV.map V.str) (fun i σ H' => ∃ (v5 : Option V) (xs : List (Addr × Addr × Addr × Addr)), σ = [some (.ref d), some (.str wd), some (.ref od), some (.ref rd), some (.ref wr), v5, none] ∧ xs.length = i ∧
      H' rd = some (.dK (putAll [] (kr0 r1 r2 r3 r4 ++ (flagsV.zip xs).map ent1))) ∧ H' wr = some (.dK (putAll [] (kr0 od od w3 w4 ++ (flagsV.zip xs).map ent2))) ∧ (∀ e ∈ xs, FlagAt e rd wr d l H H') ∧
      H' t3 = some (.tup [V.str "f"]) ∧ H' w4 = some (.lst (wrFence t3)) ∧ H' tf = some (.tup (flagsV.map V.str)) ∧ Keep rd wr HF H' ∧ DealA H' d l) ⟨_, [], rfl, rfl, w1, w2, (fun _ h => by cases h), w5, w6, upd_same, kp0, D18⟩ (fun i σ H' _ h => by obtain ⟨_, _, _, _, _, _, _, _, _, h, _⟩ := h; exact .inl (.inl h)) ?_ ?_
    · rintro i x σ H' hx ⟨v5, xs, rfl, rfl, i1, i2, i3, i4, i5, i6, i7, i8⟩
      obtain ⟨z, _, hz, rfl⟩ := get_map_str hx
      have hi : xs.length < 3 := (List.getElem?_eq_some_iff.mp hz).1
      refine ⟨(by show 2 ≤ sizeLine; decide), fun x1 hx1 => ⟨(by show 0 ≤ sizeLine; decide), fun e1 he1 => ⟨(by show 0 ≤ sizeLine; decide), fun e2 he2 => ⟨(by show 7 ≤ sizeLine; decide), fun x2 hx2 => ⟨(by show 2 ≤ sizeLine; decide), fun tt htt => ?_⟩⟩⟩⟩⟩
      have c1 := Same.upd_new (o := .lst [V.bl true, .bl false]) hx1
      have c2 := Same.upd_new (o := .lst []) he1
      have c3 := Same.upd_new (o := .tup []) he2
      have c4 := Same.upd_new (o := .lst (wrFlag e1 e2)) hx2
      have c5 := Same.upd_new (o := .tup [V.ref x1, .ref x2]) htt
      have sG := (((c1.trans c2).trans c3).trans c4).trans c5
      have dz1 := i8.same c1
      have dz2 := dz1.same c2
      have dz3 := dz2.same c3
      have p1 := c1 _ _ i1
      have p2 := c1 _ _ i2
      refine ⟨tt, _, rfl, .inl (.inl upd_same), rfl, _, _, rfl, _, rfl, _, rfl, rd, _, rfl, DPut.k (k := .inr z) (sG _ _ i1) ?_, ?_⟩
      · refine Nat.lt_of_le_of_lt (putAll_len _ _) ?_
        rw [List.length_append, List.length_map, List.length_zip]
        exact Nat.lt_of_le_of_lt (by show 0 + (4 + min 3 xs.length) ≤ 7; omega) (by show 7 < sizeLine; decide)
      rw [← putAll_snoc _ _ ((.inr z : Key), V.ref x1)]
      refine ⟨_, _, rfl, _, rfl, _, rfl, wr, _, rfl, DPut.k (k := .inr z) ((upd_ne nwr.1).trans (sG _ _ i2)) ?_, ?_⟩
      · refine Nat.lt_of_le_of_lt (putAll_len _ _) ?_
        rw [List.length_append, List.length_map, List.length_zip]
        exact Nat.lt_of_le_of_lt (by show 0 + (4 + min 3 xs.length) ≤ 7; omega) (by show 7 < sizeLine; decide)
      rw [← putAll_snoc _ _ ((.inr z : Key), V.ref x2)]
      have ez : (flagsV.zip (xs ++ [(x1, x2, e1, e2)])) = flagsV.zip xs ++ [(z, (x1, x2, e1, e2))] := zip_snoc hz
      refine ⟨rfl, ?_⟩
      have kpF : Keep rd wr H' (upd (upd (upd (upd (upd (upd (upd H' x1 (.lst [V.bl true, .bl false])) e1 (.lst [])) e2 (.tup [])) x2 (.lst (wrFlag e1 e2))) tt (.tup [V.ref x1, .ref x2])) rd (.dK (putAll [] ((kr0 r1 r2 r3 r4 ++ (flagsV.zip xs).map ent1) ++ [((.inr z : Key), V.ref x1)])))) wr (.dK (putAll [] ((kr0 od od w3 w4 ++ (flagsV.zip xs).map ent2) ++ [((.inr z : Key), V.ref x2)])))) :=
        ((Keep.same sG).trans Keep.upd_d).trans Keep.upd_l
      have hn : ∀ {x : Addr} {o : HO}, (upd (upd (upd (upd (upd H' x1 (.lst [V.bl true, .bl false])) e1 (.lst [])) e2 (.tup [])) x2 (.lst (wrFlag e1 e2))) tt (.tup [V.ref x1, .ref x2])) x = some o → x ≠ rd → x ≠ wr → (upd (upd (upd (upd (upd (upd (upd H' x1 (.lst [V.bl true, .bl false])) e1 (.lst [])) e2 (.tup [])) x2 (.lst (wrFlag e1 e2))) tt (.tup [V.ref x1, .ref x2])) rd (.dK (putAll [] ((kr0 r1 r2 r3 r4 ++ (flagsV.zip xs).map ent1) ++ [((.inr z : Key), V.ref x1)])))) wr (.dK (putAll [] ((kr0 od od w3 w4 ++ (flagsV.zip xs).map ent2) ++ [((.inr z : Key), V.ref x2)])))) x = some o := fun e n1 n2 => by
        rw [upd_ne n2, upd_ne n1]
        exact e
      have nx1 : x1 ≠ rd ∧ x1 ≠ wr ∧ x1 ≠ d ∧ x1 ≠ l := ⟨(ne_of_none i1 hx1).symm, (ne_of_none i2 hx1).symm, i8.nd hx1, i8.nl hx1⟩
      have ne1 : e1 ≠ rd ∧ e1 ≠ wr ∧ e1 ≠ d ∧ e1 ≠ l := ⟨(ne_of_none p1 he1).symm, (ne_of_none p2 he1).symm, dz1.nd he1, dz1.nl he1⟩
      have ne2 : e2 ≠ rd ∧ e2 ≠ wr ∧ e2 ≠ d ∧ e2 ≠ l := ⟨(ne_of_none (c2 _ _ p1) he2).symm, (ne_of_none (c2 _ _ p2) he2).symm, dz2.nd he2, dz2.nl he2⟩
      have nx2 : x2 ≠ rd ∧ x2 ≠ wr ∧ x2 ≠ d ∧ x2 ≠ l := ⟨(ne_of_none (c3 _ _ (c2 _ _ p1)) hx2).symm, (ne_of_none (c3 _ _ (c2 _ _ p2)) hx2).symm, dz3.nd hx2, dz3.nl hx2⟩
      refine ⟨_, xs ++ [(x1, x2, e1, e2)], rfl, (by simp), ?_, ?_, ?_, kpF _ _ i4 nt3.1 nt3.2.1, kpF _ _ i5 nw4.1 nw4.2.1, kpF _ _ i6 ntf.1 ntf.2.1, i7.trans kpF, ?_⟩
      · rw [upd_ne nwr.1.symm, ez, List.map_append, ← List.append_assoc]
        exact upd_same
      · rw [ez, List.map_append, ← List.append_assoc]
        exact upd_same
      · intro e he
        rcases List.mem_append.mp he with he | he
        · exact (i3 e he).keep kpF
        · rw [List.mem_singleton.mp he]
          have sH' : Same H H' := fun b o eb => i7 _ _ (sHF b o eb) (ne_of_none eb hrdH) (ne_of_none eb hwrH)
          refine ⟨hn (c5 _ _ (c4 _ _ (c3 _ _ (c2 _ _ upd_same)))) nx1.1 nx1.2.1, hn (c5 _ _ upd_same) nx2.1 nx2.2.1, hn (c5 _ _ (c4 _ _ (c3 _ _ upd_same))) ne1.1 ne1.2.1, hn (c5 _ _ (c4 _ _ upd_same)) ne2.1 ne2.2.1, fun x hx => ?_, (sH'.trans c1).free he1, ((sH'.trans c1).trans c2).free he2⟩
          simp only [List.mem_cons, List.not_mem_nil, or_false] at hx
          rcases hx with rfl | rfl | rfl | rfl
          · exact nx1
          · exact nx2
          · exact ne1
          · exact ne2
      · exact ((i8.same sG).upd nrd.1 nrd.2).upd nwr.2.1 nwr.2.2
    · rintro σ H' ⟨v5, xs, rfl, hl, i1, i2, i3, i4, i5, i6, i7, i8⟩
      have hl3 : xs.length = 3 := hl
      obtain ⟨ea, eb, ec, rfl⟩ : ∃ ea eb ec, xs = [ea, eb, ec] := by
        match xs, hl3 with
        | [ea, eb, ec], _ => exact ⟨ea, eb, ec, rfl⟩
      have g : ∀ {x : Addr} {o : HO}, HE x = some o → x ≠ rd → x ≠ wr → H' x = some o := fun e n1 n2 => i7 _ _ (c0 _ _ e n1 n2) n1 n2
      have WW : ∀ e ∈ [ea, eb, ec], ArgW c t1 l1 fo g1 g2 e0 l2 t3 e.2.2.1 e.2.2.2 H' := fun e he => by
        have fe := i3 e he
        exact ⟨g qt1 (nn1 t1 (by simp)).1 (nw t1 (by simp)), g ql1 (nn1 l1 (by simp)).1 (nw l1 (by simp)), ⟨_, _, g qfo (nn1 fo (by simp)).1 (nw fo (by simp))⟩, ⟨_, _, g qg1 (nn1 g1 (by simp)).1 (nw g1 (by simp))⟩, ⟨_, _, g qg2 (nn1 g2 (by simp)).1 (nw g2 (by simp))⟩,
          i7 _ _ qe0 ne0.1 ne0.2.1, i7 _ _ ql2 nl2.1 nl2.2.1, i4, fe.e1, fe.e2⟩
      have WN : ∀ e ∈ [ea, eb, ec], ∀ x ∈ [t1, l1, fo, g1, g2, e0, l2, t3, e.2.2.1, e.2.2.2], x ≠ d ∧ x ≠ l := fun e he x hx => by
        have fe := i3 e he
        simp only [List.mem_cons, List.not_mem_nil, or_false] at hx
        rcases hx with rfl | rfl | rfl | rfl | rfl | rfl | rfl | rfl | rfl | rfl
        · exact (nn1 _ (by simp)).2
        · exact (nn1 _ (by simp)).2
        · exact (nn1 _ (by simp)).2
        · exact (nn1 _ (by simp)).2
        · exact (nn1 _ (by simp)).2
        · exact ne0.2.2
        · exact nl2.2.2
        · exact nt3.2.2
        · exact (fe.ne _ (by simp)).2.2
        · exact (fe.ne _ (by simp)).2.2
      have WF : ∀ e ∈ [ea, eb, ec], ∀ x ∈ [t1, l1, fo, g1, g2, e0, l2, t3, e.2.2.1, e.2.2.2], H x = none := fun e he x hx => by
        have fe := i3 e he
        simp only [List.mem_cons, List.not_mem_nil, or_false] at hx
        rcases hx with rfl | rfl | rfl | rfl | rfl | rfl | rfl | rfl | rfl | rfl
        · exact ft1
        · exact fl1
        · exact ffo
        · exact fg1
        · exact fg2
        · exact fe0
        · exact fl2
        · exact ft3
        · exact fe.fr.1
        · exact fe.fr.2
      have ndR : ((kr0 r1 r2 r3 r4 ++ (flagsV.zip [ea, eb, ec]).map ent1).map (·.1)).Nodup := by
        show ([key "name", key "area", key "formula", key "fence", .inr (Str.ofString "kept"), .inr (Str.ofString "keeper"), .inr (Str.ofString "start")] : List Key).Nodup
        decide +kernel
      have ndW : ((kr0 od od w3 w4 ++ (flagsV.zip [ea, eb, ec]).map ent2).map (·.1)).Nodup := by
        show ([key "name", key "area", key "formula", key "fence", .inr (Str.ofString "kept"), .inr (Str.ofString "keeper"), .inr (Str.ofString "start")] : List Key).Nodup
        decide +kernel
      have fl : wd ∈ flagsV → ∃ e ∈ [ea, eb, ec], (wd, e) ∈ flagsV.zip [ea, eb, ec] := fun h => by
        have h3 : ∀ x ∈ flagsV, x = "kept" ∨ x = "keeper" ∨ x = "start" := by decide +kernel
        rcases h3 wd h with rfl | rfl | rfl
        · exact ⟨ea, by simp, List.mem_cons_self ..⟩
        · exact ⟨eb, by simp, List.mem_cons_of_mem _ (List.mem_cons_self ..)⟩
        · exact ⟨ec, by simp, List.mem_cons_of_mem _ (List.mem_cons_of_mem _ (List.mem_cons_self ..))⟩
      have lookR : ∃ rr, valV (putAll [] (kr0 r1 r2 r3 r4 ++ (flagsV.zip [ea, eb, ec]).map ent1)) (.inr wd) = some (.ref rr) ∧ H' rr = some (.lst (rightOf g1 g2 wd)) ∧ rr ≠ d ∧ rr ≠ l := by
        rcases words_cases hwd with rfl | rfl | rfl | rfl | hf
        · exact ⟨r1, putAll_get _ _ _ _ ndR (by simp [kr0, key]), by rw [right_name]; exact g qr1 (nn1 r1 (by simp)).1 (nw r1 (by simp)), (nn1 r1 (by simp)).2⟩
        · exact ⟨r2, putAll_get _ _ _ _ ndR (by simp [kr0, key]), by rw [right_area]; exact g qr2 (nn1 r2 (by simp)).1 (nw r2 (by simp)), (nn1 r2 (by simp)).2⟩
        · exact ⟨r3, putAll_get _ _ _ _ ndR (by simp [kr0, key]), by rw [right_form]; exact g qr3 (nn1 r3 (by simp)).1 (nw r3 (by simp)), (nn1 r3 (by simp)).2⟩
        · exact ⟨r4, putAll_get _ _ _ _ ndR (by simp [kr0, key]), by rw [right_fence]; exact g qr4 n4.1 (nw r4 (by simp)), n4.2⟩
        · obtain ⟨e, he, hz⟩ := fl hf
          have fe := i3 e he
          exact ⟨e.1, putAll_get _ _ _ _ ndR (List.mem_append_right _ (List.mem_map.mpr ⟨_, hz, rfl⟩)), by rw [right_flag _ _ hf]; exact fe.x1, (fe.ne _ (by simp)).2.2⟩
      have lookW : ∃ rr, ∃ e ∈ [ea, eb, ec], valV (putAll [] (kr0 od od w3 w4 ++ (flagsV.zip [ea, eb, ec]).map ent2)) (.inr wd) = some (.ref rr) ∧ H' rr = some (.lst (wrongOf t1 l1 fo e0 l2 t3 e.2.2.1 e.2.2.2 wd)) ∧ rr ≠ d ∧ rr ≠ l := by
        rcases words_cases hwd with rfl | rfl | rfl | rfl | hf
        · exact ⟨od, ea, by simp, putAll_get _ _ _ _ ndW (by simp [kr0, key]), by rw [wrong_name]; exact g qod (nn1 od (by simp)).1 (nw od (by simp)), (nn1 od (by simp)).2⟩
        · exact ⟨od, ea, by simp, putAll_get _ _ _ _ ndW (by simp [kr0, key]), by rw [wrong_area]; exact g qod (nn1 od (by simp)).1 (nw od (by simp)), (nn1 od (by simp)).2⟩
        · exact ⟨w3, ea, by simp, putAll_get _ _ _ _ ndW (by simp [kr0, key]), by rw [wrong_form]; exact i7 _ _ qw3 nw3.1 nw3.2.1, nw3.2.2⟩
        · exact ⟨w4, ea, by simp, putAll_get _ _ _ _ ndW (by simp [kr0, key]), by rw [wrong_fence]; exact i5, nw4.2.2⟩
        · obtain ⟨e, he, hz⟩ := fl hf
          have fe := i3 e he
          exact ⟨e.2.1, e, he, putAll_get _ _ _ _ ndW (List.mem_append_right _ (List.mem_map.mpr ⟨_, hz, rfl⟩)), by rw [wrong_flag _ _ _ _ _ _ _ _ hf]; exact fe.x2, (fe.ne _ (by simp)).2.2⟩
      obtain ⟨rr, k1, k2, k3, k4⟩ := lookR
      obtain ⟨ww, e, he, m1, m2, m3, m4⟩ := lookW
      have sH : ∀ b o, H b = some o → H' b = some o := fun b o eb => g (sE b o eb) (ne_of_none eb hrdH) (ne_of_none eb hwrH)
      have fin : ∀ (r : Bool) (v : V) (H2 H3 : Hp) (p : Addr), Keep d l H' H2 → DealA H2 d l → H2 p = none → H3 = upd H2 p (.tup [v, .bl r]) → (∀ H4, Keep d l H' H4 → ∀ H'', (∀ b o, H b = none → H4 b = some o → H'' b = some o) → Desc K c H'' wd v r) → Q (.ref p) H3 := fun r v H2 H3 p kk DD hp e3 dd => by
        subst e3
        have hpH : H p = none := by
          cases e : H p with
          | none => rfl
          | some o =>
            have := kk p o (sH _ _ e) (DD.nd hp) (DD.nl hp)
            rw [hp] at this
            cases this
        have sp := Same.upd_new (o := .tup [v, .bl r]) hp
        refine k p v r _ hpH upd_same (DD.nd hp) (DD.nl hp) (fun H'' kp => dd _ (kk.trans (Keep.same sp)) H'' kp) (DD.same sp) fun b o eb n1 n2 => sp _ _ (kk b o (sH b o eb) n1 n2)
      refine ⟨_, rfl, d, l, 4, rfl, i8, by decide, by decide, fun r H2 r0 r1' D2 kp2 => ⟨_, _, rfl, rfl, ?_⟩⟩
      have nr : (rightOf g1 g2 wd) ≠ [] ∧ (rightOf g1 g2 wd).length ≤ 1000 := by
        rcases words_cases hwd with rfl | rfl | rfl | rfl | hf
        · rw [right_name]; exact ⟨(fun e => by cases e), (by show 3 ≤ 1000; decide)⟩
        · rw [right_area]; exact ⟨(fun e => by cases e), (by show 2 ≤ 1000; decide)⟩
        · rw [right_form]; exact ⟨(fun e => by cases e), (by show 2 ≤ 1000; decide)⟩
        · rw [right_fence]; exact ⟨(fun e => by cases e), (by show 3 ≤ 1000; decide)⟩
        · rw [right_flag _ _ hf]; exact ⟨(fun e => by cases e), (by show 2 ≤ 1000; decide)⟩
      have nw' : (wrongOf t1 l1 fo e0 l2 t3 e.2.2.1 e.2.2.2 wd) ≠ [] ∧ (wrongOf t1 l1 fo e0 l2 t3 e.2.2.1 e.2.2.2 wd).length ≤ 1000 := by
        rcases words_cases hwd with rfl | rfl | rfl | rfl | hf
        · rw [wrong_name]; exact ⟨(fun e => by cases e), (by show 13 ≤ 1000; decide)⟩
        · rw [wrong_area]; exact ⟨(fun e => by cases e), (by show 13 ≤ 1000; decide)⟩
        · rw [wrong_form]; exact ⟨(fun e => by cases e), (by show 6 ≤ 1000; decide)⟩
        · rw [wrong_fence]; exact ⟨(fun e => by cases e), (by show 10 ≤ 1000; decide)⟩
        · rw [wrong_flag _ _ _ _ _ _ _ _ hf]; exact ⟨(fun e => by cases e), (by show 7 ≤ 1000; decide)⟩
      have rdd : rd ≠ d ∧ rd ≠ l := nrd
      have j1 := kp2 _ _ i1 rdd.1 rdd.2
      have j2 := kp2 _ _ i2 nwr.2.1 nwr.2.2
      by_cases hr0 : (0 : Int) < r
      · have eb : (fun i j : Int => V.bl (decide (j < i))) r 0 = V.bl true := by show V.bl (decide ((0 : Int) < r)) = V.bl true; rw [decide_eq_true hr0]
        refine ⟨_, rfl, _, rfl, true, eb, ?_⟩
        refine iteT ⟨_, rfl, _, rfl, rd, _, rfl, k1 ▸ DGet.k (k := .inr wd) j1, d, l, rr, _, rfl, D2, kp2 _ _ k2 k3 k4, k3, k4, nr.1, nr.2, fun v H3 hv D3 kp3 => ⟨_, rfl, (by show 2 ≤ sizeLine; decide), fun p hp => ?_⟩⟩
        refine fin true v H3 _ p (kp2.trans kp3) D3 hp (by rw [← eb]) fun H4 kk H'' kn => desc_right T (((WW ea (by simp)).keep kk (WN ea (by simp))).new kn (WF ea (by simp))) hwd hv
      · have eb : (fun i j : Int => V.bl (decide (j < i))) r 0 = V.bl false := by show V.bl (decide ((0 : Int) < r)) = V.bl false; rw [decide_eq_false hr0]
        refine ⟨_, rfl, _, rfl, false, eb, ?_⟩
        refine iteF ⟨_, rfl, _, rfl, wr, _, rfl, m1 ▸ DGet.k (k := .inr wd) j2, d, l, ww, _, rfl, D2, kp2 _ _ m2 m3 m4, m3, m4, nw'.1, nw'.2, fun v H3 hv D3 kp3 => ⟨_, rfl, (by show 2 ≤ sizeLine; decide), fun p hp => ?_⟩⟩
        refine fin false v H3 _ p (kp2.trans kp3) D3 hp (by rw [← eb]) fun H4 kk H'' kn => desc_wrong T (((WW e he).keep kk (WN e he)).new kn (WF e he)) hwd hv
end
end L2.Wk
namespace L2.Wk
open PySem PySem.Spec PyProof.Rows
abbrev s_law_heard : Stmt := top 42
abbrev N_law_heard : List Str := ["_law_form", "_law_some", "_law_found", "e"]
theorem sc_law_heard : FnScope N_law_heard ["_law_form", "_law_some"] (defScope s_law_heard) := ⟨rfl, rfl, rfl, by decide +kernel, rfl, by decide +kernel, by decide +kernel⟩
abbrev s_law : Stmt := top 43
abbrev N_law : List Str := ["_law_script", "_law_deal", "_law_turn", "_law_words", "_law_some", "_law_bad", "_law_word", "_law_thing", "_law_is_right"]
theorem sc_law : FnScope N_law ["_law_script"] (defScope s_law) := ⟨rfl, rfl, rfl, by decide +kernel, rfl, by decide +kernel, by decide +kernel⟩
def BitD (K : PySem.W.Frag) (H : Hp) (vs : List V) (n a : Bool) (k ke s : Option Bool) : Prop := ∃ v0 v1 v2 v3 v4, vs = [v0, v1, v2, v3, v4] ∧ NameV K H v0 n ∧ NameV K H v1 a ∧ BoolV K H v2 k ∧ BoolV K H v3 ke ∧ BoolV K H v4 s
def SigD (K : PySem.W.Frag) (c : Fs) (H : Hp) (vs : List V) (n f e : Bool) : Prop := ∃ v0 v1 v2, vs = [v0, v1, v2] ∧ NameV K H v0 n ∧ FormV K c H v1 f ∧ FenceV K H v2 e
def told (o : Option Str) : Str := o.getD (Str.ofString "made")
def spHeard (K : PySem.W.Frag) (c : Fs) : Sp := fun vs H Q _ => ∃ (fm : Int) (L : Addr) (us : List V) (m : Str), vs = [.int fm, .ref L] ∧ H L = some (.lst us) ∧
  ((fm = 0 ∧ ∃ n a k ke s, (∀ H', Same H H' → BitD K H' us n a k ke s) ∧ m = told (bitErr n a k ke s)) ∨ (fm = 1 ∧ ∃ n f e, (∀ H', Same H H' → SigD K c H' us n f e) ∧ m = told (sigErr n f e))) ∧ ∀ H', Same H H' → Q (.str m) H'
section
variable {P : Program} {w : World} {K : PySem.W.Frag} {mg : Str → Option Value} {base : Heap} {a : Wf} {c : Fs} {q : Bk} {ls : Ls} {f : Addr} {fd : FuncData}
theorem ok_heard {f1 f2 : FuncData} (F : Fun K "_law_heard" "_law_heard" s_law_heard f fd) (T : TxtL K w mg a c q ls)
    (G_Bit : FnOk P w K mg base (L2.CX P w) 4 q.fBit f1 ["self", "name", "area", "kept", "keeper", "start"] (spBit K q)) (b_Bit : Binds K f1 ["self", "name", "area", "kept", "keeper", "start"] [])
    (G_Signal : FnOk P w K mg base (L2.CX P w) 4 q.fSignal f2 ["self", "name", "formula", "fence"] (spSignal K c q)) (b_Signal : Binds K f2 ["self", "name", "formula", "fence"] []) :
    FnOk P w K mg base CX0 6 f fd ["_law_form", "_law_some"] (spHeard K c) := by
  have M_Bit := T.MB
  have M_Signal := T.MS
  refine F.ok sc_law_heard (fun vs H Q E h => ?_) (fun cdv A outer s0 H vs Q E hr h => ?_)
  · obtain ⟨_, _, _, _, rfl, _⟩ := h
    rfl
  · obtain ⟨fm, L, us, m, rfl, hL, hh, k⟩ := h
    refine ⟨_, (pss_cons (ps_set (i := 2) sc_law_heard.nd rfl (Or.inl rfl) pe_str)
    (pss_cons (ps_try_as (i := 3) rfl rfl sc_law_heard.nd rfl rfl ⟨rfl, by decide, Or.inl T.g_WakeError⟩ takes0
      (fun W pn xe tk _ => (pss_one (ps_if (pt_cmpR op_eq (pv 0) pe_int (nomark _)) (pss_one (ps_expr (pe_makeS M_Bit G_Bit (hr.mono (by decide)) rfl T.g_Bit b_Bit .nil (fun σ => passAt tk σ) (pa_cons (pe_ix (ix_listK (K := K) rfl) (pv 1) pe_int (fun _ _ => rfl)) (pa_cons (pe_ix (ix_listK (K := K) rfl) (pv 1) pe_int (fun _ _ => rfl)) (pa_cons (pe_ix (ix_listK (K := K) rfl) (pv 1) pe_int (fun _ _ => rfl)) (pa_cons (pe_ix (ix_listK (K := K) rfl) (pv 1) pe_int (fun _ _ => rfl)) (pa_cons (pe_ix (ix_listK (K := K) rfl) (pv 1) pe_int (fun _ _ => rfl)) pa_nil)))))))) (pss_one (ps_expr (pe_makeS M_Signal G_Signal (hr.mono (by decide)) rfl T.g_Signal b_Signal .nil (fun σ => passAt tk σ) (pa_cons (pe_ix (ix_listK (K := K) rfl) (pv 1) pe_int (fun _ _ => rfl)) (pa_cons (pe_ix (ix_listK (K := K) rfl) (pv 1) pe_int (fun _ _ => rfl)) (pa_cons (pe_ix (ix_listK (K := K) rfl) (pv 1) pe_int (fun _ _ => rfl)) pa_nil)))))))))
      (fun ae oe cls d pn hz hf => (pss_one (ps_set (i := 2) sc_law_heard.nd rfl (Or.inl rfl) (pe_ifExp (pt_val (pe_callB (call_isX T.xc_InvalidBlock hz hf) (by rfl) T.b_isinstance (by decide +kernel) (pa_cons (pv 3) (pa_cons (pe_gr rfl T.g_InvalidBlock) pa_nil)))) (pe_byLow_InvalidBlock T.low_InvalidBlock hz hf (pv 3)) pe_str)))))
    (pss_one (ps_ret (pv 2))))), ?_⟩
    rcases hh with ⟨rfl, n, ar, kk, ke, s, hd, rfl⟩ | ⟨rfl, n, fo, e, hd, rfl⟩
    · obtain ⟨v0, v1, v2, v3, v4, rfl, _⟩ := hd _ (Same.refl _)
      have hL' : SqL K H L [v0, v1, v2, v3, v4] := .inl (.inl hL)
      refine ⟨_, rfl, rfl, _, rfl, iteT ?_⟩
      refine ⟨_, rfl, L, _, _, _, rfl, rfl, hL', atI_nat (j := 0) rfl, _, rfl, L, _, _, _, rfl, rfl, hL', atI_nat (j := 1) rfl, _, rfl, L, _, _, _, rfl, rfl, hL', atI_nat (j := 2) rfl, _, rfl, L, _, _, _, rfl, rfl, hL', atI_nat (j := 3) rfl, _, rfl, L, _, _, _, rfl, rfl, hL', atI_nat (j := 4) rfl, fun y dy ny nd ne => ?_⟩
      have sm := made_same (C := q.Bit) ny nd
      refine ⟨y, dy, v0, v1, v2, v3, v4, n, ar, kk, ke, s, rfl, upd_same, fun H' s' => ?_, fun e0 H' hk => ⟨rfl, ?_⟩, fun m em d H' s' hd' => ?_⟩
      · obtain ⟨_, _, _, _, _, e1, z⟩ := hd _ (sm.trans s')
        cases e1
        exact z
      · refine ⟨_, rfl, ?_⟩
        rw [show Str.ofString "made" = told (bitErr n ar kk ke s) by rw [e0]; rfl]
        exact k _ (made_keep ny nd hk)
      · refine ⟨true, T.ex_WE, fun _ ea _ => ?_, fun q => Bool.noConfusion q⟩
        refine ⟨_, rfl, rfl, _, _, true, d, _, rfl, .own q.IB, rfl, hd', T.kit_IB, true, rfl, iteT ?_⟩
        refine ⟨_, rfl, rfl, rfl, d, _, rfl, hd', ?_⟩
        refine ⟨_, rfl, ?_⟩
        rw [show m = told (bitErr n ar kk ke s) by rw [em]; rfl]
        exact k _ (sm.trans s')
    · obtain ⟨v0, v1, v2, rfl, _⟩ := hd _ (Same.refl _)
      have hL' : SqL K H L [v0, v1, v2] := .inl (.inl hL)
      refine ⟨_, rfl, rfl, _, rfl, iteF ?_⟩
      refine ⟨_, rfl, L, _, _, _, rfl, rfl, hL', atI_nat (j := 0) rfl, _, rfl, L, _, _, _, rfl, rfl, hL', atI_nat (j := 1) rfl, _, rfl, L, _, _, _, rfl, rfl, hL', atI_nat (j := 2) rfl, fun y dy ny nd ne => ?_⟩
      have sm := made_same (C := q.Signal) ny nd
      refine ⟨y, dy, v0, v1, v2, n, fo, e, rfl, upd_same, fun H' s' => ?_, fun e0 H' hk => ⟨rfl, ?_⟩, fun m em d H' s' hd' => ?_⟩
      · obtain ⟨_, _, _, e1, z⟩ := hd _ (sm.trans s')
        cases e1
        exact z
      · refine ⟨_, rfl, ?_⟩
        rw [show Str.ofString "made" = told (sigErr n fo e) by rw [e0]; rfl]
        exact k _ (made_keep ny nd hk)
      · refine ⟨true, T.ex_WE, fun _ ea _ => ?_, fun q => Bool.noConfusion q⟩
        refine ⟨_, rfl, rfl, _, _, true, d, _, rfl, .own q.IB, rfl, hd', T.kit_IB, true, rfl, iteT ?_⟩
        refine ⟨_, rfl, rfl, rfl, d, _, rfl, hd', ?_⟩
        refine ⟨_, rfl, ?_⟩
        rw [show m = told (sigErr n fo e) by rw [em]; rfl]
        exact k _ (sm.trans s')
def KeepB (B : Addr → Prop) (H H' : Hp) : Prop := ∀ b o, H b = some o → ¬ B b → H' b = some o
theorem KeepB.same {B : Addr → Prop} {H H' : Hp} (s : Same H H') : KeepB B H H' := fun b o e _ => s b o e
theorem KeepB.trans {B : Addr → Prop} {H H1 H2 : Hp} (a : KeepB B H H1) (b : KeepB B H1 H2) : KeepB B H H2 := fun x o e n => b x o (a x o e n) n
def ItemOk (K : PySem.W.Frag) (c : Fs) (B : Addr → Prop) (H : Hp) (wd : Str) (e : Addr × V × Bool) : Prop := H e.1 = some (.tup [e.2.1, .bl e.2.2]) ∧ ¬ B e.1 ∧ ∀ H', KeepB B H H' → Desc K c H' wd e.2.1 e.2.2
theorem ItemOk.keep {B : Addr → Prop} {H H' : Hp} {wd : Str} {e : Addr × V × Bool} (h : ItemOk K c B H wd e) (k : KeepB B H H') : ItemOk K c B H' wd e :=
  ⟨k _ _ h.1 h.2.1, h.2.1, fun H'' k' => h.2.2 H'' (k.trans k')⟩
def Items (K : PySem.W.Frag) (c : Fs) (B : Addr → Prop) (H : Hp) (ws : List Str) (es : List (Addr × V × Bool)) : Prop := ∀ (j : Nat) (wd : Str) (e : Addr × V × Bool), ws[j]? = some wd → es[j]? = some e → ItemOk K c B H wd e
theorem Items.keep {B : Addr → Prop} {H H' : Hp} {ws : List Str} {es : List (Addr × V × Bool)} (h : Items K c B H ws es) (k : KeepB B H H') : Items K c B H' ws es := fun j wd e h1 h2 => (h j wd e h1 h2).keep k
/-- one argument more -/
theorem Items.snoc {d l D p : Addr} {v : V} {r : Bool} {wd : Str} {H H2 : Hp} {xs : List V} {ws : List Str} {es : List (Addr × V × Bool)} (h : Items K c (fun b => b = d ∨ b = l ∨ b = D) H ws es) (D1 : DealA H d l) (hD : H D = some (.lst xs)) (hw : ws[es.length]? = some wd)
    (kp : Keep d l H H2) (hp : H p = none) (h2 : H2 p = some (.tup [v, .bl r])) (ad : ArgN K c H H2 wd v r) {o : HO} : Items K c (fun b => b = d ∨ b = l ∨ b = D) (upd H2 D o) ws (es ++ [(p, v, r)]) := by
  have nb : ∀ b, H b = none → ¬ (b = d ∨ b = l ∨ b = D) := fun b hb => by
    rintro (e | e | e)
    · exact D1.nd hb e
    · exact D1.nl hb e
    · rw [e, hD] at hb
      cases hb
  have kB : KeepB (fun b => b = d ∨ b = l ∨ b = D) H (upd H2 D o) := fun b u e n => by
    have n1 : b ≠ d := fun q => n (.inl q)
    have n2 : b ≠ l := fun q => n (.inr (.inl q))
    have n3 : b ≠ D := fun q => n (.inr (.inr q))
    rw [upd_ne n3]
    exact kp b u e n1 n2
  intro j w e hj he
  by_cases hlt : j < es.length
  · rw [List.getElem?_append_left hlt] at he
    exact (h j w e hj he).keep kB
  · have ej : j = es.length := by
      have := (List.getElem?_eq_some_iff.mp he).1
      rw [List.length_append] at this
      simp only [List.length_cons, List.length_nil] at this
      omega
    subst ej
    rw [hw] at hj
    cases hj
    rw [List.getElem?_append_right (Nat.le_refl _), Nat.sub_self] at he
    cases Option.some.inj he
    have np := nb p hp
    refine ⟨by rw [upd_ne fun q => np (.inr (.inr q))]; exact h2, np, fun H' k' => ad H' fun b u hb eb => ?_⟩
    have nn := nb b hb
    exact k' b u (by rw [upd_ne fun q => nn (.inr (.inr q))]; exact eb) nn
def refV (e : Addr × V × Bool) : V := .ref e.1
def badOf : List Str → List (Addr × V × Bool) → List Str
  | w :: ws, e :: es => if e.2.2 = true then badOf ws es else w :: badOf ws es
  | _, _ => []
theorem badOf_snoc : ∀ {ws : List Str} {es : List (Addr × V × Bool)} {w : Str} {e : Addr × V × Bool}, ws.length = es.length → badOf (ws ++ [w]) (es ++ [e]) = badOf ws es ++ (if e.2.2 = true then [] else [w])
  | [], [], w, e, _ => by
    show (if e.2.2 = true then badOf [] [] else w :: badOf [] []) = [] ++ _
    cases e.2.2 <;> rfl
  | w' :: ws, e' :: es, w, e, h => by
    have i := badOf_snoc (ws := ws) (es := es) (w := w) (e := e) (Nat.succ.inj h)
    show (if e'.2.2 = true then badOf (ws ++ [w]) (es ++ [e]) else w' :: badOf (ws ++ [w]) (es ++ [e])) = (if e'.2.2 = true then badOf ws es else w' :: badOf ws es) ++ _
    rw [i]
    cases e'.2.2 <;> rfl
  | [], e' :: es, w, e, h => by cases h
  | w' :: ws, [], w, e, h => by cases h
theorem badOf_len : ∀ (ws : List Str) (es : List (Addr × V × Bool)), (badOf ws es).length ≤ ws.length
  | [], _ => by show 0 ≤ 0; exact Nat.le_refl _
  | w :: ws, [] => by show 0 ≤ _; exact Nat.zero_le _
  | w :: ws, e :: es => by
    have i := badOf_len ws es
    show (if e.2.2 = true then badOf ws es else w :: badOf ws es).length ≤ _
    cases e.2.2 with
    | true => rw [if_pos rfl, List.length_cons]; omega
    | false => rw [if_neg (by decide), List.length_cons, List.length_cons]; omega
theorem take_succ_get {α : Type} {l : List α} {i : Nat} {x : α} (h : l[i]? = some x) : l.take (i + 1) = l.take i ++ [x] := by
  rw [List.take_add_one, h]
  rfl
def words5 : List Str := txts ["name", "area", "kept", "keeper", "start"]
def words3 : List Str := txts ["name", "formula", "fence"]
theorem bool_is {H : Hp} {v : V} {o : Option Bool} (b : Bool) (h : BoolV K H v o) : decide (v = .bl b) = decide (o = some b) := by
  rcases h with ⟨x, rfl, rfl⟩ | ⟨rfl, t, ht, hk⟩
  · by_cases e : x = b
    · subst e
      simp
    · rw [decide_eq_false (by intro z; exact e (V.bl.inj z)), decide_eq_false (by intro z; exact e (Option.some.inj z))]
  · have : v ≠ .bl b := by
      rintro rfl
      cases ht with
      | base hb =>
        cases hb
        have e2 : PySem.W.kitOne K (.type "bool") (.type "bool") = some true := kit_ty (by decide +kernel)
        rw [e2] at hk
        cases hk
    rw [decide_eq_false this]
    rfl
def rsE (r0 r1 r2 r3 r4 : Bool) : List (Addr × V × Bool) := [(0, .non, r0), (0, .non, r1), (0, .non, r2), (0, .non, r3), (0, .non, r4)]
theorem badOf_rs5 (e0 e1 e2 e3 e4 : Addr × V × Bool) : badOf words5 [e0, e1, e2, e3, e4] = badOf words5 (rsE e0.2.2 e1.2.2 e2.2.2 e3.2.2 e4.2.2) := rfl
def more (bad : List Str) : List Str := words5.filter fun z => inV (.str z) (bad.map V.str) || decide (V.str z = V.str (Str.ofString "keeper"))
theorem expect5 (r0 r1 : Bool) (k ke s : Option Bool) : ((if (decide (k = some false) && decide (ke = some true)) = true then more (badOf words5 (rsE r0 r1 k.isSome ke.isSome s.isSome)) else badOf words5 (rsE r0 r1 k.isSome ke.isSome s.isSome)) ++ [Str.ofString "made"])[0]? = some (told (bitErr r0 r1 k ke s)) := by
  cases r0 <;> cases r1 <;> rcases k with _ | (_ | _) <;> rcases ke with _ | (_ | _) <;> rcases s with _ | (_ | _) <;> decide +kernel
theorem expect3 (r0 r1 r2 : Bool) : (badOf words3 [((0 : Addr), V.non, r0), (0, .non, r1), (0, .non, r2)] ++ [Str.ofString "made"])[0]? = some (told (sigErr r0 r1 r2)) := by
  cases r0 <;> cases r1 <;> cases r2 <;> decide +kernel
def loopBody : Stmt → List Stmt
  | .For _ _ b _ _ => b
  | _ => []
def spLaw (K : PySem.W.Frag) : Sp := fun vs H Q _ => ∃ (a : Addr) (ns : List Int), vs = [.ref a] ∧ SqL K H a (ns.map V.int) ∧ ns.length ≤ 63 ∧ ∀ H', Q (.bl true) H'
theorem ok_law {f1 f2 f3 : FuncData} (F : Fun K "law" "law" s_law f fd) (T : TxtL K w mg a c q ls)
    (G__law_source : FnOk P w K mg base CX0 1 ls.source f1 ["_law_script", "_law_base"] (spSourceA K)) (b__law_source : Binds K f1 ["_law_script", "_law_base"] [])
    (G__law_argument : FnOk P w K mg base CX0 5 ls.argument f2 ["_law_deal", "_law_word"] (spArg K c)) (b__law_argument : Binds K f2 ["_law_deal", "_law_word"] [])
    (G__law_heard : FnOk P w K mg base CX0 6 ls.heard f3 ["_law_form", "_law_some"] (spHeard K c)) (b__law_heard : Binds K f3 ["_law_form", "_law_some"] []) :
    FnOk P w K mg base CX0 7 f fd ["_law_script"] (spLaw K) := by
  refine F.ok sc_law (fun vs H Q E h => ?_) (fun cdv A outer s H vs Q E hr h => ?_)
  · obtain ⟨_, _, rfl, _⟩ := h
    rfl
  · obtain ⟨sa, ns, rfl, hS, hlen, k⟩ := h
    have rest5 : ∃ t, PSs (cxOf CX0 P w K mg base N_law "law" (defScope s_law) f cdv A outer s H E).nox ((loopBody ((defBody s_law).getD 1 (.Pass ⟨0, 0, 0, 0⟩))).drop 5) t ∧
        ∀ (d l : Addr) (Dn : Ends) (H1 : Hp) (v2 v3 v4 v5 : Option V), DealA H1 d l → (∀ (v2 v3 v4 v5 : Option V) (H' : Hp), DealA H' d l → Dn.nx [some (.ref sa), some (.ref d), v2, v3, v4, v5, none, none, none] H') → t Dn [some (.ref sa), some (.ref d), v2, v3, v4, v5, none, none, none] H1 := by
      refine ⟨_, (pss_cons (ps_set (i := 3) sc_law.nd rfl (Or.inl rfl) (pe_lst (pa_cons pe_str (pa_cons pe_str (pa_cons pe_str pa_nil)))))
    (pss_cons (ps_setLc (i := 4) (own := [("_law_word", 6)]) (g := gName 6) (tt := tYes) rfl sc_law.nd rfl rfl (sw_true rfl rfl rfl (by decide +kernel)) (pi_list (pv 3)) (blkOk_by (N := N_law) (sc := defScope s_law) (by decide +kernel)) (fun _ _ _ _ _ => (pg_name (i := 6) sc_law.nd rfl (Or.inl rfl))) (fun _ _ _ _ _ => pts_nil) (fun _ _ _ _ _ => (pe_call G__law_argument (hr.mono (by decide)) rfl T.g__law_argument T.k__law_argument b__law_argument .nil pass0 (pa_cons (pv 1) (pa_cons (pv 6) pa_nil)))))
    (pss_cons (ps_set (i := 5) sc_law.nd rfl (Or.inr rfl) (pe_lc (own := [("_law_word", 6), ("_law_thing", 7), ("_law_is_right", 8)]) (g := gTup K 2 (gCons (gName 6) (gCons (gTup K 2 (gCons (gName 7) (gCons (gName 8) gNil))) gNil))) rfl sc_law.nd (pi_zip (by rfl) T.b_zip (pa_cons (pv 3) (pa_cons (pv 4) pa_nil))) (blkOk_by (N := N_law) (sc := defScope s_law) (by decide +kernel)) (fun _ _ _ _ _ => (pg_tup rfl (pgs_cons (pg_name (i := 6) sc_law.nd rfl (Or.inl rfl)) (pgs_cons (pg_tup rfl (pgs_cons (pg_name (i := 7) sc_law.nd rfl (Or.inl rfl)) (pgs_cons (pg_name (i := 8) sc_law.nd rfl (Or.inl rfl)) pgs_nil))) pgs_nil)))) (fun _ _ _ _ _ => (pts_one (pt_not (pt_val (pv 8))))) (fun _ _ _ _ _ => (pv 6))))
    (pss_one (ps_if (pt_cmpR op_ne (pe_call G__law_heard (hr.mono (by decide)) rfl T.g__law_heard T.k__law_heard b__law_heard .nil pass0 (pa_cons pe_int (pa_cons (pe_lc (own := [("_law_thing", 7), ("_law_is_right", 8)]) (g := gTup K 2 (gCons (gName 7) (gCons (gName 8) gNil))) (tt := tYes) rfl sc_law.nd (pi_list (pv 4)) (blkOk_by (N := N_law) (sc := defScope s_law) (by decide +kernel)) (fun _ _ _ _ _ => (pg_tup rfl (pgs_cons (pg_name (i := 7) sc_law.nd rfl (Or.inl rfl)) (pgs_cons (pg_name (i := 8) sc_law.nd rfl (Or.inl rfl)) pgs_nil)))) (fun _ _ _ _ _ => pts_nil) (fun _ _ _ _ _ => (pv 7))) pa_nil))) (pe_ix ix_list (pe_op op_cat (pv 5) (pe_lst (pa_cons pe_str pa_nil))) pe_int (fun _ _ => rfl)) (nomark _)) (pss_one (ps_ret pe_bl)) pss_nil))))), ?_⟩
      intro d l Dn H1 v2 v3 v4 v5 D1 kn
      refine ⟨(by show 3 ≤ sizeLine; decide), fun L1 hL1 => ?_⟩
      have a1 := Same.upd_new (o := .lst (words3.map V.str)) hL1
      have D2 := D1.same a1
      have nL1 := D1.nd hL1
      have nL1' := D1.nl hL1
      have qL1 : (upd H1 L1 (.lst (words3.map V.str))) L1 = some (.lst (words3.map V.str)) := upd_same
      refine ⟨_, rfl, L1, rfl, ⟨_, .inl (.inl qL1)⟩, fun D hD => ?_⟩
      have nD := D2.nd hD
      have nD' := D2.nl hD
      refine lc_list (K := K) (a := L1) (xs := words3.map V.str) (fun i H' => ∃ es : List (Addr × V × Bool), es.length = i ∧ H' D = some (.lst (es.map refV)) ∧ Items K c (fun b => b = d ∨ b = l ∨ b = D) H' words3 es ∧ DealA H' d l ∧ H' L1 = some (.lst (words3.map V.str)))
        ⟨[], rfl, upd_same, (fun j wd e _ h => by cases h), D2.same (Same.upd_new hD), (Same.upd_new hD) _ _ qL1⟩ (fun i H' _ h => by obtain ⟨_, _, _, _, _, h⟩ := h; exact .inl (.inl h)) ?_ ?_
      · rintro i x H' hx ⟨es, rfl, h1, h2, h3, h4⟩
        obtain ⟨wd, _, hwd, rfl⟩ := get_map_str hx
        have mw : ∀ y ∈ words3, y ∈ wordsV := by decide +kernel
        refine ⟨rfl, _, rfl, _, rfl, d, l, wd, rfl, h3, mw wd (List.mem_of_getElem? hwd), fun p v r H2 hp h5 n1 n2 ad D3 kp => ?_⟩
        have hl5 : es.length < 3 := (List.getElem?_eq_some_iff.mp hwd).1
        have nLD : L1 ≠ D := ne_of_none qL1 hD
        refine ⟨es.map refV, kp _ _ h1 nD nD', ?_, es ++ [(p, v, r)], (by simp), ?_, h2.snoc h3 h1 hwd kp hp h5 ad, D3.upd nD nD', ?_⟩
        · rw [List.length_map]
          exact small1000 (by omega)
        · rw [List.map_append]
          exact upd_same
        · rw [upd_ne nLD]
          exact kp _ _ h4 nL1 nL1'
      rintro H2 ⟨es, hes, h1, h2, h3, h4⟩
      have hes5 : es.length = 3 := hes
      obtain ⟨x0, x1, x2, rfl⟩ : ∃ x0 x1 x2, es = [x0, x1, x2] := by
        match es, hes5 with
        | [x0, x1, x2], _ => exact ⟨x0, x1, x2, rfl⟩
      clear D2 a1 qL1 hD hL1 hes hes5
      refine ⟨_, rfl, _, rfl, L1, D, words3.map V.str, [x0, x1, x2].map refV, rfl, .inl (.inl h4), .inl (.inl h1), fun D2 hD2 => ?_⟩
      refine lc_zipL (K := K) (a := L1) (b := D) (xs := words3.map V.str) (ys := [x0, x1, x2].map refV) rfl (fun i H' => Same H2 H' ∧ H' D2 = some (.lst ((badOf (words3.take i) ([x0, x1, x2].take i)).map V.str))) ⟨Same.upd_new hD2, upd_same⟩ (fun i H' h => ⟨.inl (.inl (h.1 _ _ h4)), .inl (.inl (h.1 _ _ h1))⟩) ?_ ?_
      · rintro i x y TT H' hx hy ⟨s1, g1⟩ hTT
        obtain ⟨wd, _, hwd, rfl⟩ := get_map_str hx
        obtain ⟨e, he, rfl⟩ : ∃ e, [x0, x1, x2][i]? = some e ∧ y = refV e := by
          rw [List.getElem?_map] at hy
          cases q : [x0, x1, x2][i]? with
          | none => rw [q] at hy; cases hy
          | some z => rw [q] at hy; exact ⟨z, rfl, (Option.some.inj hy).symm⟩
        have io := h2 i wd e hwd he
        have st := Same.upd_new (o := .tup [V.str wd, refV e]) hTT
        have ie := st _ _ (s1 _ _ io.1)
        refine ⟨TT, _, rfl, .inl (.inl upd_same), rfl, _, _, rfl, _, _, rfl, e.1, [e.2.1, .bl e.2.2], rfl, .inl (.inl ie), rfl, _, _, rfl, _, _, rfl, rfl, rfl, rfl, _, rfl, _, rfl, ?_⟩
        have e1 : words3.take (i + 1) = words3.take i ++ [wd] := take_succ_get hwd
        have e2 : [x0, x1, x2].take (i + 1) = [x0, x1, x2].take i ++ [e] := take_succ_get he
        have hi5 : i < 3 := (List.getElem?_eq_some_iff.mp hwd).1
        have el : (words3.take i).length = ([x0, x1, x2].take i).length := by rw [List.length_take, List.length_take]; rfl
        have bs := badOf_snoc (w := wd) (e := e) el
        rw [← e1, ← e2] at bs
        cases er : e.2.2 with
        | true =>
          refine iteF ⟨s1.trans st, ?_⟩
          rw [bs, er, if_pos rfl, List.append_nil]
          exact st _ _ g1
        | false =>
          refine iteT ⟨_, rfl, _, st _ _ g1, ?_, fun b o eb => ?_, ?_⟩
          · rw [List.length_map]
            have := badOf_len (words3.take i) ([x0, x1, x2].take i)
            rw [List.length_take] at this
            exact small1000 (by omega)
          · rw [upd_ne (ne_of_none eb hD2)]
            exact st _ _ (s1 _ _ eb)
          · rw [bs, er, if_neg (by decide), List.map_append]
            exact upd_same
      rintro H3 ⟨s1, g1⟩
      have io0 := h2 0 _ x0 rfl rfl
      have io1 := h2 1 _ x1 rfl rfl
      have io2 := h2 2 _ x2 rfl rfl
      have g1' : H3 D2 = some (.lst ((badOf words3 [x0, x1, x2]).map V.str)) := g1
      have D4 := h3.same s1
      replace h1 := s1 _ _ h1
      replace h4 := s1 _ _ h4
      have dd : ∀ H', Same H3 H' → Desc K c H' "name" x0.2.1 x0.2.2 ∧ Desc K c H' "formula" x1.2.1 x1.2.2 ∧ Desc K c H' "fence" x2.2.1 x2.2.2 := fun H' s' =>
        ⟨io0.2.2 H' (.same (s1.trans s')), io1.2.2 H' (.same (s1.trans s')), io2.2.2 H' (.same (s1.trans s'))⟩
      have qa : ∀ e ∈ [x0, x1, x2], H3 e.1 = some (.tup [e.2.1, .bl e.2.2]) := fun e he => by
        simp only [List.mem_cons, List.not_mem_nil, or_false] at he
        rcases he with rfl | rfl | rfl
        · exact s1 _ _ io0.1
        · exact s1 _ _ io1.1
        · exact s1 _ _ io2.1
      refine ⟨_, rfl, D, rfl, ⟨_, .inl (.inl h1)⟩, fun D3 hD3 => ?_⟩
      refine lc_list (K := K) (a := D) (xs := [x0, x1, x2].map refV) (fun i H' => Same H3 H' ∧ H' D3 = some (.lst (([x0, x1, x2].take i).map fun e => e.2.1))) ⟨Same.upd_new hD3, upd_same⟩ (fun i H' _ h => .inl (.inl (h.1 _ _ h1))) ?_ ?_
      · rintro i x H' hx ⟨t1, t2⟩
        obtain ⟨e, he, rfl⟩ : ∃ e, [x0, x1, x2][i]? = some e ∧ x = refV e := by
          rw [List.getElem?_map] at hx
          cases q : [x0, x1, x2][i]? with
          | none => rw [q] at hx; cases hx
          | some z => rw [q] at hx; exact ⟨z, rfl, (Option.some.inj hx).symm⟩
        have hi5 : i < 3 := (List.getElem?_eq_some_iff.mp he).1
        have ie : H' e.1 = some (.tup [e.2.1, .bl e.2.2]) := t1 _ _ (qa e (List.mem_of_getElem? he))
        refine ⟨e.1, _, rfl, .inl (.inl ie), rfl, _, _, rfl, _, _, rfl, rfl, rfl, _, rfl, _, t2, ?_, fun b o eb => ?_, ?_⟩
        · rw [List.length_map, List.length_take]
          exact small1000 (by omega)
        · rw [upd_ne (ne_of_none eb hD3)]
          exact t1 _ _ eb
        · rw [take_succ_map _ he]
          exact upd_same
      rintro H5 ⟨t1, t2⟩
      have t2' : H5 D3 = some (.lst [x0.2.1, x1.2.1, x2.2.1]) := t2
      clear t2 hD3
      refine ⟨1, D3, _, told (sigErr x0.2.2 x1.2.2 x2.2.2), rfl, t2', .inr ⟨rfl, _, _, _, fun H' s' => ⟨_, _, _, rfl, ((dd _ (t1.trans s')).1).2.1 (.inl rfl), ((dd _ (t1.trans s')).2.1).2.2.2.1 rfl, ((dd _ (t1.trans s')).2.2).2.2.2.2 rfl⟩, rfl⟩, fun H6 s6 => ?_⟩
      have g2 := s6 _ _ (t1 _ _ g1')
      refine ⟨_, rfl, (by show 1 ≤ sizeLine; decide), fun lm hlm => ⟨D2, lm, _, _, rfl, rfl, (Same.upd_new hlm) _ _ g2, upd_same, ?_, fun lo hlo => ?_⟩⟩
      · rw [List.length_map]
        have := badOf_len words3 [x0, x1, x2]
        exact len1000 (by show _ + 1 ≤ 1000; have e : words3.length = 3 := rfl; omega)
      have ex := expect3 x0.2.2 x1.2.2 x2.2.2
      have ey : badOf words3 [x0, x1, x2] = badOf words3 [((0 : Addr), V.non, x0.2.2), (0, .non, x1.2.2), (0, .non, x2.2.2)] := rfl
      rw [← ey] at ex
      have ez : atI ((badOf words3 [x0, x1, x2]).map V.str ++ [V.str (Str.ofString "made")]) 0 = some (V.str (told (sigErr x0.2.2 x1.2.2 x2.2.2))) := by
        have : (badOf words3 [x0, x1, x2]).map V.str ++ [V.str (Str.ofString "made")] = (badOf words3 [x0, x1, x2] ++ [Str.ofString "made"]).map V.str := by rw [List.map_append]; rfl
        rw [this]
        exact atI_nat (j := 0) (by rw [List.getElem?_map, ex]; rfl)
      refine ⟨lo, _, _, _, rfl, rfl, .inl (.inl upd_same), ez, rfl, _, rfl, iteFh (by simp) ?_⟩
      exact kn _ _ _ _ _ (((D4.same (t1.trans s6)).same (Same.upd_new hlm)).same (Same.upd_new hlo))
    obtain ⟨t5, hrest5, krest5⟩ := rest5
    have rest4 : ∃ t, PSs (cxOf CX0 P w K mg base N_law "law" (defScope s_law) f cdv A outer s H E).nox ((loopBody ((defBody s_law).getD 1 (.Pass ⟨0, 0, 0, 0⟩))).drop 4) t ∧
        ∀ (d l : Addr) (Dn : Ends) (H3 : Hp) (v2 v3 : Option V) (D D2 : Addr) (x0 x1 x2 x3 x4 : Addr × V × Bool) (k ke st : Option Bool) (bad : List Str), DealA H3 d l → H3 D = some (.lst ([x0, x1, x2, x3, x4].map refV)) → (∀ e ∈ [x0, x1, x2, x3, x4], H3 e.1 = some (.tup [e.2.1, .bl e.2.2])) →
          (∀ H', Same H3 H' → BitD K H' [x0.2.1, x1.2.1, x2.2.1, x3.2.1, x4.2.1] x0.2.2 x1.2.2 k ke st) → H3 D2 = some (.lst (bad.map V.str)) → bad.length ≤ 5 → (bad ++ [Str.ofString "made"])[0]? = some (told (bitErr x0.2.2 x1.2.2 k ke st)) →
          (∀ (v2 v3 v4 v5 : Option V) (H' : Hp), DealA H' d l → Dn.nx [some (.ref sa), some (.ref d), v2, v3, v4, v5, none, none, none] H') → t Dn [some (.ref sa), some (.ref d), v2, v3, some (.ref D), some (.ref D2), none, none, none] H3 := by
      refine ⟨_, pss_cons (ps_if (pt_cmpR op_ne (pe_call G__law_heard (hr.mono (by decide)) rfl T.g__law_heard T.k__law_heard b__law_heard .nil pass0 (pa_cons pe_int (pa_cons (pe_lc (own := [("_law_thing", 7), ("_law_is_right", 8)]) (g := gTup K 2 (gCons (gName 7) (gCons (gName 8) gNil))) (tt := tYes) rfl sc_law.nd (pi_list (pv 4)) (blkOk_by (N := N_law) (sc := defScope s_law) (by decide +kernel)) (fun _ _ _ _ _ => (pg_tup rfl (pgs_cons (pg_name (i := 7) sc_law.nd rfl (Or.inl rfl)) (pgs_cons (pg_name (i := 8) sc_law.nd rfl (Or.inl rfl)) pgs_nil)))) (fun _ _ _ _ _ => pts_nil) (fun _ _ _ _ _ => (pv 7))) pa_nil))) (pe_ix ix_list (pe_op op_cat (pv 5) (pe_lst (pa_cons pe_str pa_nil))) pe_int (fun _ _ => rfl)) (nomark _)) (pss_one (ps_ret pe_bl)) pss_nil) hrest5, ?_⟩
      intro d l Dn H3 v2 v3 D D2 x0 x1 x2 x3 x4 kk ke st bad D4 h1 qa dd g1' bl ex kn
      refine ⟨_, rfl, D, rfl, ⟨_, .inl (.inl h1)⟩, fun D3 hD3 => ?_⟩
      refine lc_list (K := K) (a := D) (xs := [x0, x1, x2, x3, x4].map refV) (fun i H' => Same H3 H' ∧ H' D3 = some (.lst (([x0, x1, x2, x3, x4].take i).map fun e => e.2.1))) ⟨Same.upd_new hD3, upd_same⟩ (fun i H' _ h => .inl (.inl (h.1 _ _ h1))) ?_ ?_
      · rintro i x H' hx ⟨t1, t2⟩
        obtain ⟨e, he, rfl⟩ : ∃ e, [x0, x1, x2, x3, x4][i]? = some e ∧ x = refV e := by
          rw [List.getElem?_map] at hx
          cases q : [x0, x1, x2, x3, x4][i]? with
          | none => rw [q] at hx; cases hx
          | some z => rw [q] at hx; exact ⟨z, rfl, (Option.some.inj hx).symm⟩
        have hi5 : i < 5 := (List.getElem?_eq_some_iff.mp he).1
        have ie : H' e.1 = some (.tup [e.2.1, .bl e.2.2]) := t1 _ _ (qa e (List.mem_of_getElem? he))
        refine ⟨e.1, _, rfl, .inl (.inl ie), rfl, _, _, rfl, _, _, rfl, rfl, rfl, _, rfl, _, t2, ?_, fun b o eb => ?_, ?_⟩
        · rw [List.length_map, List.length_take]
          exact small1000 (by omega)
        · rw [upd_ne (ne_of_none eb hD3)]
          exact t1 _ _ eb
        · rw [take_succ_map _ he]
          exact upd_same
      rintro H5 ⟨t1, t2⟩
      have t2' : H5 D3 = some (.lst [x0.2.1, x1.2.1, x2.2.1, x3.2.1, x4.2.1]) := t2
      clear t2 hD3
      refine ⟨0, D3, _, told (bitErr x0.2.2 x1.2.2 kk ke st), rfl, t2', .inl ⟨rfl, _, _, _, _, _, fun H' s' => dd _ (t1.trans s'), rfl⟩, fun H6 s6 => ?_⟩
      have g2 := s6 _ _ (t1 _ _ g1')
      refine ⟨_, rfl, (by show 1 ≤ sizeLine; decide), fun lm hlm => ⟨D2, lm, _, _, rfl, rfl, (Same.upd_new hlm) _ _ g2, upd_same, ?_, fun lo hlo => ?_⟩⟩
      · rw [List.length_map]
        exact len1000 (by show _ + 1 ≤ 1000; omega)
      have ez : atI (bad.map V.str ++ [V.str (Str.ofString "made")]) 0 = some (V.str (told (bitErr x0.2.2 x1.2.2 kk ke st))) := by
        have : bad.map V.str ++ [V.str (Str.ofString "made")] = (bad ++ [Str.ofString "made"]).map V.str := by rw [List.map_append]; rfl
        rw [this]
        exact atI_nat (j := 0) (by rw [List.getElem?_map, ex]; rfl)
      refine ⟨lo, _, _, _, rfl, rfl, .inl (.inl upd_same), ez, rfl, _, rfl, iteFh (by simp) ?_⟩
      exact krest5 _ _ _ _ _ _ _ _ (((D4.same (t1.trans s6)).same (Same.upd_new hlm)).same (Same.upd_new hlo)) kn
    obtain ⟨t4, hrest4, krest4⟩ := rest4
    refine ⟨_, (pss_cons (ps_set (i := 1) sc_law.nd rfl (Or.inr rfl) (pe_call G__law_source (hr.mono (by decide)) rfl T.g__law_source T.k__law_source b__law_source .nil pass0 (pa_cons (pv 0) (pa_cons pe_int pa_nil))))
    (pss_cons (ps_for PassesOwn.never rfl (pi_range1 rfl T.b_range (pa_cons pe_int pa_nil)) (pg_name (i := 2) sc_law.nd rfl (Or.inl rfl))
      (pss_cons (ps_set (i := 3) sc_law.nd rfl (Or.inl rfl) (pe_lst (pa_cons pe_str (pa_cons pe_str (pa_cons pe_str (pa_cons pe_str (pa_cons pe_str pa_nil)))))))
      (pss_cons (ps_setLc (i := 4) (own := [("_law_word", 6)]) (g := gName 6) (tt := tYes) rfl sc_law.nd rfl rfl (sw_true rfl rfl rfl (by decide +kernel)) (pi_list (pv 3)) (blkOk_by (N := N_law) (sc := defScope s_law) (by decide +kernel)) (fun _ _ _ _ _ => (pg_name (i := 6) sc_law.nd rfl (Or.inl rfl))) (fun _ _ _ _ _ => pts_nil) (fun _ _ _ _ _ => (pe_call G__law_argument (hr.mono (by decide)) rfl T.g__law_argument T.k__law_argument b__law_argument .nil pass0 (pa_cons (pv 1) (pa_cons (pv 6) pa_nil)))))
      (pss_cons (ps_set (i := 5) sc_law.nd rfl (Or.inr rfl) (pe_lc (own := [("_law_word", 6), ("_law_thing", 7), ("_law_is_right", 8)]) (g := gTup K 2 (gCons (gName 6) (gCons (gTup K 2 (gCons (gName 7) (gCons (gName 8) gNil))) gNil))) rfl sc_law.nd (pi_zip (by rfl) T.b_zip (pa_cons (pv 3) (pa_cons (pv 4) pa_nil))) (blkOk_by (N := N_law) (sc := defScope s_law) (by decide +kernel)) (fun _ _ _ _ _ => (pg_tup rfl (pgs_cons (pg_name (i := 6) sc_law.nd rfl (Or.inl rfl)) (pgs_cons (pg_tup rfl (pgs_cons (pg_name (i := 7) sc_law.nd rfl (Or.inl rfl)) (pgs_cons (pg_name (i := 8) sc_law.nd rfl (Or.inl rfl)) pgs_nil))) pgs_nil)))) (fun _ _ _ _ _ => (pts_one (pt_not (pt_val (pv 8))))) (fun _ _ _ _ _ => (pv 6))))
      (pss_cons (ps_if (PW.pt (pw_and (pt_cmpR op_isBlA (pe_ix ix_tup (pe_ix ix_list (pv 4) pe_int (fun _ _ => rfl)) pe_int (fun _ _ => rfl)) pe_bl (nomark _)) (pw_and1 (pt_cmpR op_isBlA (pe_ix ix_tup (pe_ix ix_list (pv 4) pe_int (fun _ _ => rfl)) pe_int (fun _ _ => rfl)) pe_bl (nomark _))))) (pss_one (ps_set (i := 5) sc_law.nd rfl (Or.inr rfl) (pe_lc (own := [("_law_word", 6)]) (g := gName 6) rfl sc_law.nd (pi_list (pv 3)) (blkOk_by (N := N_law) (sc := defScope s_law) (by decide +kernel)) (fun _ _ _ _ _ => (pg_name (i := 6) sc_law.nd rfl (Or.inl rfl))) (fun _ _ _ _ _ => (pts_one (PW.pt (pw_or (pt_cmpR (op_in_seqK (K := K) rfl) (pv 6) (pv 5) (by rfl)) (pw_or1 (pt_cmpR op_eq (pv 6) pe_str (nomark _))))))) (fun _ _ _ _ _ => (pv 6))))) pss_nil)
      hrest4)))))
    (pss_cons (ps_if (pt_cmpR op_ne (pe_call G__law_heard (hr.mono (by decide)) rfl T.g__law_heard T.k__law_heard b__law_heard .nil pass0 (pa_cons pe_int (pa_cons (pe_lst (pa_cons pe_str (pa_cons pe_str (pa_cons pe_bl (pa_cons pe_bl (pa_cons pe_bl pa_nil)))))) pa_nil))) pe_str (nomark _)) (pss_one (ps_ret pe_bl)) pss_nil)
    (pss_one (ps_ret (pe_cmpR op_eq (pe_call G__law_heard (hr.mono (by decide)) rfl T.g__law_heard T.k__law_heard b__law_heard .nil pass0 (pa_cons pe_int (pa_cons (pe_lst (pa_cons pe_str (pa_cons pe_str (pa_cons pe_bl (pa_cons pe_bl (pa_cons pe_bl pa_nil)))))) pa_nil))) pe_str (nomark _))))))), ?_⟩
    refine ⟨_, rfl, sa, ns, rfl, hS, hlen, fun d l H1 hd hl D1 s1 => ?_⟩
    clear hS s1 hd hl
    refine ⟨20, rfl, by decide, by decide, for_range (lo := 0) (n := 20) (fun i σ H' => ∃ v2 v3 v4 v5 : Option V, σ = [some (.ref sa), some (.ref d), v2, v3, v4, v5, none, none, none] ∧ DealA H' d l) ⟨_, _, _, _, rfl, D1⟩ ?_ ?_⟩
    · clear D1 H1
      rintro i σ H1 hi ⟨v2, v3, v4, v5, rfl, D1⟩
      refine ⟨(by show 5 ≤ sizeLine; decide), fun L1 hL1 => ?_⟩
      have a1 := Same.upd_new (o := .lst (words5.map V.str)) hL1
      have D2 := D1.same a1
      have nL1 := D1.nd hL1
      have nL1' := D1.nl hL1
      have qL1 : (upd H1 L1 (.lst (words5.map V.str))) L1 = some (.lst (words5.map V.str)) := upd_same
      refine ⟨_, rfl, L1, rfl, ⟨_, .inl (.inl qL1)⟩, fun D hD => ?_⟩
      have nD := D2.nd hD
      have nD' := D2.nl hD
      refine lc_list (K := K) (a := L1) (xs := words5.map V.str) (fun i H' => ∃ es : List (Addr × V × Bool), es.length = i ∧ H' D = some (.lst (es.map refV)) ∧ Items K c (fun b => b = d ∨ b = l ∨ b = D) H' words5 es ∧ DealA H' d l ∧ H' L1 = some (.lst (words5.map V.str)))
        ⟨[], rfl, upd_same, (fun j wd e _ h => by cases h), D2.same (Same.upd_new hD), (Same.upd_new hD) _ _ qL1⟩ (fun i H' _ h => by obtain ⟨_, _, _, _, _, h⟩ := h; exact .inl (.inl h)) ?_ ?_
      · rintro i x H' hx ⟨es, rfl, h1, h2, h3, h4⟩
        obtain ⟨wd, _, hwd, rfl⟩ := get_map_str hx
        have mw : ∀ y ∈ words5, y ∈ wordsV := by decide +kernel
        refine ⟨rfl, _, rfl, _, rfl, d, l, wd, rfl, h3, mw wd (List.mem_of_getElem? hwd), fun p v r H2 hp h5 n1 n2 ad D3 kp => ?_⟩
        have hl5 : es.length < 5 := (List.getElem?_eq_some_iff.mp hwd).1
        have nLD : L1 ≠ D := ne_of_none qL1 hD
        refine ⟨es.map refV, kp _ _ h1 nD nD', ?_, es ++ [(p, v, r)], (by simp), ?_, h2.snoc h3 h1 hwd kp hp h5 ad, D3.upd nD nD', ?_⟩
        · rw [List.length_map]
          exact small1000 (by omega)
        · rw [List.map_append]
          exact upd_same
        · rw [upd_ne nLD]
          exact kp _ _ h4 nL1 nL1'
      rintro H2 ⟨es, hes, h1, h2, h3, h4⟩
      have hes5 : es.length = 5 := hes
      obtain ⟨x0, x1, x2, x3, x4, rfl⟩ : ∃ x0 x1 x2 x3 x4, es = [x0, x1, x2, x3, x4] := by
        match es, hes5 with
        | [x0, x1, x2, x3, x4], _ => exact ⟨x0, x1, x2, x3, x4, rfl⟩
      clear D2 a1 qL1 hD hL1 hes hes5
      refine ⟨_, rfl, _, rfl, L1, D, words5.map V.str, [x0, x1, x2, x3, x4].map refV, rfl, .inl (.inl h4), .inl (.inl h1), fun D2 hD2 => ?_⟩
      refine lc_zipL (K := K) (a := L1) (b := D) (xs := words5.map V.str) (ys := [x0, x1, x2, x3, x4].map refV) rfl (fun i H' => Same H2 H' ∧ H' D2 = some (.lst ((badOf (words5.take i) ([x0, x1, x2, x3, x4].take i)).map V.str))) ⟨Same.upd_new hD2, upd_same⟩ (fun i H' h => ⟨.inl (.inl (h.1 _ _ h4)), .inl (.inl (h.1 _ _ h1))⟩) ?_ ?_
      · rintro i x y TT H' hx hy ⟨s1, g1⟩ hTT
        obtain ⟨wd, _, hwd, rfl⟩ := get_map_str hx
        obtain ⟨e, he, rfl⟩ : ∃ e, [x0, x1, x2, x3, x4][i]? = some e ∧ y = refV e := by
          rw [List.getElem?_map] at hy
          cases q : [x0, x1, x2, x3, x4][i]? with
          | none => rw [q] at hy; cases hy
          | some z => rw [q] at hy; exact ⟨z, rfl, (Option.some.inj hy).symm⟩
        have io := h2 i wd e hwd he
        have st := Same.upd_new (o := .tup [V.str wd, refV e]) hTT
        have ie := st _ _ (s1 _ _ io.1)
        refine ⟨TT, _, rfl, .inl (.inl upd_same), rfl, _, _, rfl, _, _, rfl, e.1, [e.2.1, .bl e.2.2], rfl, .inl (.inl ie), rfl, _, _, rfl, _, _, rfl, rfl, rfl, rfl, _, rfl, _, rfl, ?_⟩
        have e1 : words5.take (i + 1) = words5.take i ++ [wd] := take_succ_get hwd
        have e2 : [x0, x1, x2, x3, x4].take (i + 1) = [x0, x1, x2, x3, x4].take i ++ [e] := take_succ_get he
        have hi5 : i < 5 := (List.getElem?_eq_some_iff.mp hwd).1
        have el : (words5.take i).length = ([x0, x1, x2, x3, x4].take i).length := by rw [List.length_take, List.length_take]; rfl
        have bs := badOf_snoc (w := wd) (e := e) el
        rw [← e1, ← e2] at bs
        cases er : e.2.2 with
        | true =>
          refine iteF ⟨s1.trans st, ?_⟩
          rw [bs, er, if_pos rfl, List.append_nil]
          exact st _ _ g1
        | false =>
          refine iteT ⟨_, rfl, _, st _ _ g1, ?_, fun b o eb => ?_, ?_⟩
          · rw [List.length_map]
            have := badOf_len (words5.take i) ([x0, x1, x2, x3, x4].take i)
            rw [List.length_take] at this
            exact small1000 (by omega)
          · rw [upd_ne (ne_of_none eb hD2)]
            exact st _ _ (s1 _ _ eb)
          · rw [bs, er, if_neg (by decide), List.map_append]
            exact upd_same
      rintro H3 ⟨s1, g1⟩
      have io0 := h2 0 _ x0 rfl rfl
      have io1 := h2 1 _ x1 rfl rfl
      have io2 := h2 2 _ x2 rfl rfl
      have io3 := h2 3 _ x3 rfl rfl
      have io4 := h2 4 _ x4 rfl rfl
      have g1' : H3 D2 = some (.lst ((badOf words5 [x0, x1, x2, x3, x4]).map V.str)) := g1
      have D4 := h3.same s1
      replace h1 := s1 _ _ h1
      replace h4 := s1 _ _ h4
      have qa : ∀ e ∈ [x0, x1, x2, x3, x4], H3 e.1 = some (.tup [e.2.1, .bl e.2.2]) := fun e he => by
        simp only [List.mem_cons, List.not_mem_nil, or_false] at he
        rcases he with rfl | rfl | rfl | rfl | rfl
        · exact s1 _ _ io0.1
        · exact s1 _ _ io1.1
        · exact s1 _ _ io2.1
        · exact s1 _ _ io3.1
        · exact s1 _ _ io4.1
      obtain ⟨pl2, _, z2, _⟩ := io2.2.2 H3 (.same s1)
      obtain ⟨pl3, _, z3, _⟩ := io3.2.2 H3 (.same s1)
      obtain ⟨_, _, z4, _⟩ := io4.2.2 H3 (.same s1)
      obtain ⟨o2, b2, e2⟩ := z2 (by decide +kernel)
      obtain ⟨o3, b3, e3⟩ := z3 (by decide +kernel)
      obtain ⟨o4, b4, e4⟩ := z4 (by decide +kernel)
      have same_o : ∀ {v : V} {o o' : Option Bool} {H4 H5 : Hp}, BoolV K H4 v o → BoolV K H5 v o' → o = o' := fun {v o o' H4 H5} h h' => by
        have e1 := bool_is true h
        have e2 := bool_is true h'
        have e3 := bool_is false h
        have e4 := bool_is false h'
        rw [e1] at e2
        rw [e3] at e4
        rcases o with _ | (_ | _) <;> rcases o' with _ | (_ | _) <;> first | rfl | (exfalso; revert e2 e4; decide)
      have dd : ∀ H', Same H3 H' → BitD K H' [x0.2.1, x1.2.1, x2.2.1, x3.2.1, x4.2.1] x0.2.2 x1.2.2 o2 o3 o4 := fun H' s' => by
        have y0 := io0.2.2 H' (.same (s1.trans s'))
        have y1 := io1.2.2 H' (.same (s1.trans s'))
        obtain ⟨p2, u2, _⟩ := (io2.2.2 H' (.same (s1.trans s'))).2.2.1 (by decide +kernel)
        obtain ⟨p3, u3, _⟩ := (io3.2.2 H' (.same (s1.trans s'))).2.2.1 (by decide +kernel)
        obtain ⟨p4, u4, _⟩ := (io4.2.2 H' (.same (s1.trans s'))).2.2.1 (by decide +kernel)
        refine ⟨_, _, _, _, _, rfl, y0.2.1 (.inl rfl), y1.2.1 (.inr rfl), ?_, ?_, ?_⟩
        · rw [same_o b2 u2]; exact u2
        · rw [same_o b3 u3]; exact u3
        · rw [same_o b4 u4]; exact u4
      have ex := expect5 x0.2.2 x1.2.2 o2 o3 o4
      rw [e2, e3, e4, ← badOf_rs5] at ex
      have q2 := s1 _ _ io2.1
      have q3 := s1 _ _ io3.1
      have bl5 : (badOf words5 [x0, x1, x2, x3, x4]).length ≤ 5 := badOf_len words5 [x0, x1, x2, x3, x4]
      have c2 := bool_is false b2
      have c3 := bool_is true b3
      have kn : ∀ (v2 v3 v4 v5 : Option V) (H' : Hp), DealA H' d l → ∃ w2 w3 w4 w5 : Option V, [some (V.ref sa), some (.ref d), v2, v3, v4, v5, none, none, none] = [some (V.ref sa), some (.ref d), w2, w3, w4, w5, none, none, none] ∧ DealA H' d l := fun v2 v3 v4 v5 H' D' => ⟨_, _, _, _, rfl, D'⟩
      clear io0 io1 io2 io3 io4 h2 h3 s1 hD2 z2 z3 z4 b2 b3 b4 same_o e2 e3 e4
      refine ⟨_, rfl, D, _, _, _, rfl, rfl, .inl (.inl h1), atI_nat (j := 2) rfl, x2.1, _, _, _, rfl, rfl, .inl (.inl q2), atI_nat (j := 0) rfl, false, rfl, pl2, _, rfl, ?_⟩
      rw [c2]
      by_cases hb2 : o2 = some false
      · rw [decide_eq_true hb2] at ex ⊢
        refine iteT ⟨_, rfl, D, _, _, _, rfl, rfl, .inl (.inl h1), atI_nat (j := 3) rfl, x3.1, _, _, _, rfl, rfl, .inl (.inl q3), atI_nat (j := 0) rfl, true, rfl, pl3, _, rfl, ?_⟩
        rw [c3]
        by_cases hb3 : o3 = some true
        · rw [decide_eq_true hb3] at ex ⊢
          rw [Bool.and_true, if_pos rfl] at ex
          refine iteT ?_
          refine ⟨_, rfl, L1, rfl, ⟨_, .inl (.inl h4)⟩, fun D5 hD5 => ?_⟩
          refine lc_list (K := K) (a := L1) (xs := words5.map V.str) (fun i H' => Same H3 H' ∧ H' D5 = some (.lst (((words5.take i).filter fun z => inV (.str z) ((badOf words5 [x0, x1, x2, x3, x4]).map V.str) || decide (V.str z = V.str (Str.ofString "keeper"))).map V.str))) ⟨Same.upd_new hD5, upd_same⟩ (fun i H' _ h => .inl (.inl (h.1 _ _ h4))) ?_ ?_
          · rintro i x H' hx ⟨t1, t2⟩
            obtain ⟨wd, _, hwd, rfl⟩ := get_map_str hx
            have hi5 : i < 5 := (List.getElem?_eq_some_iff.mp hwd).1
            refine ⟨rfl, ?_⟩
            refine ⟨_, rfl, _, rfl, _, _, rfl, .inl (.inl (.inl (t1 _ _ g1'))), rfl, flat_txts _, _, rfl, ?_⟩
            have fl : ((words5.take i).filter fun z => inV (.str z) ((badOf words5 [x0, x1, x2, x3, x4]).map V.str) || decide (V.str z = V.str (Str.ofString "keeper"))).length ≤ i := Nat.le_trans (List.length_filter_le _ _) (by rw [List.length_take]; omega)
            have add : ∀ (H'' : Hp), (inV (.str wd) ((badOf words5 [x0, x1, x2, x3, x4]).map V.str) || decide (V.str wd = V.str (Str.ofString "keeper"))) = true → H'' = H' → ∃ acc, H'' D5 = some (.lst acc) ∧ acc.length < sizeLine ∧ Same H3 (upd H'' D5 (.lst (acc ++ [V.str wd]))) ∧ (upd H'' D5 (.lst (acc ++ [V.str wd]))) D5 = some (.lst (((words5.take (i + 1)).filter fun z => inV (.str z) ((badOf words5 [x0, x1, x2, x3, x4]).map V.str) || decide (V.str z = V.str (Str.ofString "keeper"))).map V.str)) := fun H'' hc e => by
              subst e
              refine ⟨_, t2, ?_, fun b o eb => ?_, ?_⟩
              · rw [List.length_map]
                exact small1000 (by omega)
              · rw [upd_ne (ne_of_none eb hD5)]
                exact t1 _ _ eb
              · rw [take_succ_get hwd, List.filter_append, List.filter_cons_of_pos (by exact hc), List.filter_nil, List.map_append]
                exact upd_same
            show if inV (V.str wd) ((badOf words5 [x0, x1, x2, x3, x4]).map V.str) = true then _ else _
            cases c1 : inV (V.str wd) ((badOf words5 [x0, x1, x2, x3, x4]).map V.str) with
            | true => exact iteT (iteT ⟨_, rfl, add H' (by rw [c1]; rfl) rfl⟩)
            | false =>
              refine iteF ⟨_, rfl, rfl, _, rfl, ?_⟩
              cases c4 : decide (V.str wd = V.str (Str.ofString "keeper")) with
              | true => exact iteT ⟨_, rfl, add H' (by rw [c1, c4]; rfl) rfl⟩
              | false =>
                refine iteF ⟨t1, ?_⟩
                rw [take_succ_get hwd, List.filter_append, List.filter_cons_of_neg (by rw [c1, c4]; decide), List.filter_nil, List.append_nil]
                exact t2
          · rintro H4 ⟨t1, t2⟩
            have t2' : H4 D5 = some (.lst ((more (badOf words5 [x0, x1, x2, x3, x4])).map V.str)) := t2
            exact krest4 d l _ H4 _ _ D D5 x0 x1 x2 x3 x4 o2 o3 o4 _ (D4.same t1) (t1 _ _ h1) (fun e he => t1 _ _ (qa e he)) (fun H' s' => dd H' (t1.trans s')) t2' (Nat.le_trans (List.length_filter_le _ _) (by show 5 ≤ 5; decide)) ex kn
        · rw [decide_eq_false hb3] at ex ⊢
          rw [Bool.and_false, if_neg (by decide)] at ex
          exact iteF (krest4 d l _ H3 _ _ D D2 x0 x1 x2 x3 x4 o2 o3 o4 _ D4 h1 qa dd g1' bl5 ex kn)
      · rw [decide_eq_false hb2] at ex ⊢
        rw [Bool.false_and, if_neg (by decide)] at ex
        exact iteF (iteF (krest4 d l _ H3 _ _ D D2 x0 x1 x2 x3 x4 o2 o3 o4 _ D4 h1 qa dd g1' bl5 ex kn))
    · rintro σ H' ⟨v2, v3, v4, v5, rfl, D'⟩
      have nx : ∀ H', NameV K H' (.str (Str.ofString "x")) true ∧ NameV K H' (.str (Str.ofString "a")) true := fun H' => ⟨.inl ⟨_, rfl, by decide +kernel, by decide +kernel⟩, .inl ⟨_, rfl, by decide +kernel, by decide +kernel⟩⟩
      have bx : ∀ (H' : Hp) (b : Bool), BoolV K H' (.bl b) (some b) := fun H' b => .inl ⟨b, rfl, rfl⟩
      refine ⟨(by show 5 ≤ sizeLine; decide), fun lm hlm => ⟨0, lm, _, told (bitErr true true (some false) (some true) (some false)), rfl, upd_same, .inl ⟨rfl, _, _, _, _, _, fun H2 _ => ⟨_, _, _, _, _, rfl, (nx H2).1, (nx H2).2, bx H2 _, bx H2 _, bx H2 _⟩, rfl⟩, fun H6 s6 => ⟨rfl, _, rfl, iteFh (by decide +kernel) ?_⟩⟩⟩
      refine ⟨(by show 5 ≤ sizeLine; decide), fun ln hln => ⟨0, ln, _, told (bitErr true true (some true) (some true) (some true)), rfl, upd_same, .inl ⟨rfl, _, _, _, _, _, fun H2 _ => ⟨_, _, _, _, _, rfl, (nx H2).1, (nx H2).2, bx H2 _, bx H2 _, bx H2 _⟩, rfl⟩, fun H7 s7 => ⟨rfl, ?_⟩⟩⟩
      rw [show decide (V.str (told (bitErr true true (some true) (some true) (some true))) = V.str (Str.ofString "made")) = true by decide +kernel]
      exact k _
end
end L2.Wk
namespace L2.Wk
open PySem PySem.Spec PyProof.Rows
/-- an error of the class at S is what «except S» names -/
theorem exm_self {K : PySem.W.Frag} {S : Addr} (h1 : PySem.W.subIn K (.ref S) (.type "BaseException") = some true) (h2 : PySem.W.isClsIn K S = true) (h3 : PySem.W.typeIn K (.ref S) = some (.type "type")) (h4 : PySem.W.subIn K (.ref S) (.ref S) = some true) :
    PySem.W.exmOne K (.ref S) (.ref S) = some true := by
  have e1 : (PySem.W.subIn K (.ref S) (.type "BaseException") == some true) = true := by rw [h1] <;> rfl
  have e2 : ((PySem.W.clsIn K S).isSome && PySem.W.typeIn K (.ref S) == some (.type "type")) = true := by
    have h2' : (PySem.W.clsIn K S).isSome = true := h2
    rw [h2', h3] <;> rfl
  show (if (PySem.W.subIn K (.ref S) (.type "BaseException") == some true) = true then (if ((PySem.W.clsIn K S).isSome && PySem.W.typeIn K (.ref S) == some (.type "type")) = true then PySem.W.subIn K (.ref S) (.ref S) else none) else none) = some true
  rw [if_pos e1, if_pos e2]
  exact h4
theorem all_mk {P : Program} {w : World} {K : PySem.W.Frag} {h : Heap} {mg : Str → Option Value} {fa : Addr} (X : K.In h) (G : h.Ns mainGlobals mg) (hfa : mg "law" = some (.ref fa))
    {r_RESERVED : Addr} {rd_RESERVED : Option Addr} {ri_RESERVED : Array Value} {rn_RESERVED : Nat} {rs_RESERVED : Array (Option Value)}
    {t_LONGEST : Tok}
    {t_LETTERS : Tok}
    {f_is_name : Addr} {od_is_name an_is_name : Option Addr} {sl_is_name : Array (Option Value)} {oc_is_name kV_is_name dc_is_name pm_is_name cd_is_name ct_is_name : Value}
    {f_ascending : Addr} {od_ascending an_ascending : Option Addr} {sl_ascending : Array (Option Value)} {oc_ascending kV_ascending dc_ascending pm_ascending cd_ascending ct_ascending : Value}
    {C_InvalidFormula f_InvalidFormula : Addr} {nm_InvalidFormula q_InvalidFormula : Str} {N_InvalidFormula : Addr} {bs_InvalidFormula : List Value} {sn_InvalidFormula : List Str} {sub_InvalidFormula : List Value} {ab_InvalidFormula : Bool} {col_InvalidFormula : Option Bool} {dd_InvalidFormula : Option Addr} {m0_InvalidFormula m1_InvalidFormula m2_InvalidFormula m3_InvalidFormula m5_InvalidFormula : Option Value} {B0_InvalidFormula : Addr} {od_InvalidFormula an_InvalidFormula : Option Addr} {sl_InvalidFormula : Array (Option Value)} {oc_InvalidFormula dc_InvalidFormula pm_InvalidFormula cd_InvalidFormula ct_InvalidFormula : Value}
    {r_CONSTANTS : Addr} {rd_CONSTANTS : Option Addr} {ri_CONSTANTS : Array Value} {rn_CONSTANTS : Nat} {rs_CONSTANTS : Array (Option Value)}
    {r_SIGNS : Addr} {es_SIGNS : Array DictEntry} {nn_SIGNS : Nat} {kt_SIGNS_0 kt_SIGNS_1 kt_SIGNS_2 kt_SIGNS_3 : Tok}
    {C_Formula : Addr}
    {f_finit : Addr} {od_finit an_finit : Option Addr} {sl_finit : Array (Option Value)} {oc_finit kV_finit dc_finit pm_finit cd_finit ct_finit : Value}
    {p_of : Addr} {rest_of : List Value}
    {f_of : Addr} {od_of an_of : Option Addr} {sl_of : Array (Option Value)} {oc_of kV_of dc_of pm_of cd_of ct_of : Value}
    {p_always : Addr} {rest_always : List Value}
    {f_always : Addr} {od_always an_always : Option Addr} {sl_always : Array (Option Value)} {oc_always kV_always dc_always pm_always cd_always ct_always : Value}
    {C_InvalidBlock f_InvalidBlock : Addr} {nm_InvalidBlock q_InvalidBlock : Str} {N_InvalidBlock : Addr} {bs_InvalidBlock : List Value} {sn_InvalidBlock : List Str} {sub_InvalidBlock : List Value} {ab_InvalidBlock : Bool} {col_InvalidBlock : Option Bool} {dd_InvalidBlock : Option Addr} {m0_InvalidBlock m1_InvalidBlock m2_InvalidBlock m3_InvalidBlock m5_InvalidBlock : Option Value} {B0_InvalidBlock : Addr} {od_InvalidBlock an_InvalidBlock : Option Addr} {sl_InvalidBlock : Array (Option Value)} {oc_InvalidBlock dc_InvalidBlock pm_InvalidBlock cd_InvalidBlock ct_InvalidBlock : Value}
    {C_Bit : Addr}
    {f_binit : Addr} {od_binit an_binit : Option Addr} {sl_binit : Array (Option Value)} {oc_binit kV_binit dc_binit pm_binit cd_binit ct_binit : Value}
    {dT_binit : Addr} {dd_binit : Option Addr} {dn_binit : Nat} {ds_binit : Array (Option Value)} {dc2_binit : Value}
    {C_Signal : Addr}
    {f_sinit : Addr} {od_sinit an_sinit : Option Addr} {sl_sinit : Array (Option Value)} {oc_sinit kV_sinit dc_sinit pm_sinit cd_sinit ct_sinit : Value}
    {dT_sinit : Addr} {dd_sinit : Option Addr} {dn_sinit : Nat} {ds_sinit : Array (Option Value)} {dc2_sinit : Value}
    {f_law_source : Addr} {od_law_source an_law_source : Option Addr} {sl_law_source : Array (Option Value)} {oc_law_source kV_law_source dc_law_source pm_law_source cd_law_source ct_law_source : Value}
    {f_law_draw : Addr} {od_law_draw an_law_draw : Option Addr} {sl_law_draw : Array (Option Value)} {oc_law_draw kV_law_draw dc_law_draw pm_law_draw cd_law_draw ct_law_draw : Value}
    {f_law_pick : Addr} {od_law_pick an_law_pick : Option Addr} {sl_law_pick : Array (Option Value)} {oc_law_pick kV_law_pick dc_law_pick pm_law_pick cd_law_pick ct_law_pick : Value}
    {f_law_argument : Addr} {od_law_argument an_law_argument : Option Addr} {sl_law_argument : Array (Option Value)} {oc_law_argument kV_law_argument dc_law_argument pm_law_argument cd_law_argument ct_law_argument : Value}
    {f_law_heard : Addr} {od_law_heard an_law_heard : Option Addr} {sl_law_heard : Array (Option Value)} {oc_law_heard kV_law_heard dc_law_heard pm_law_heard cd_law_heard ct_law_heard : Value}
    {f_law : Addr} {od_law an_law : Option Addr} {sl_law : Array (Option Value)} {oc_law kV_law dc_law pm_law cd_law ct_law : Value}
    {C_WakeError : Addr}
    (n_RESERVED : PySem.W.nsIn K mainGlobals "RESERVED" = some (some (.ref r_RESERVED)))
    (l_RESERVED : K.lookup r_RESERVED = some ⟨.type "tuple", rd_RESERVED, .seq ri_RESERVED rn_RESERVED, rs_RESERVED⟩)
    (v_RESERVED : Vals ((resV).map V.str) ri_RESERVED.toList)
    (z_RESERVED : ri_RESERVED.size ≤ sizeLine)
    (n_LONGEST : PySem.W.nsIn K mainGlobals "LONGEST" = some (some (.int 4 t_LONGEST)))
    (n_LETTERS : PySem.W.nsIn K mainGlobals "LETTERS" = some (some (.str lettersS t_LETTERS)))
    (a_is_name : PySem.W.nsIn K mainGlobals "is_name" = some (some (.ref f_is_name)))
    (l_is_name : K.lookup f_is_name = some ⟨oc_is_name, od_is_name, .func (PySem.W.fnOf "is_name" "is_name" (defArgs s_is_name) (defBody s_is_name) (defScope s_is_name) .none kV_is_name dc_is_name pm_is_name an_is_name cd_is_name ct_is_name), sl_is_name⟩)
    (c_is_name : PySem.W.codeIn K cd_is_name "is_name" = true)
    (k_is_name : PySem.W.keepIn K (.ref f_is_name) = true)
    (a_ascending : PySem.W.nsIn K mainGlobals "ascending" = some (some (.ref f_ascending)))
    (l_ascending : K.lookup f_ascending = some ⟨oc_ascending, od_ascending, .func (PySem.W.fnOf "ascending" "ascending" (defArgs s_ascending) (defBody s_ascending) (defScope s_ascending) .none kV_ascending dc_ascending pm_ascending an_ascending cd_ascending ct_ascending), sl_ascending⟩)
    (c_ascending : PySem.W.codeIn K cd_ascending "ascending" = true)
    (k_ascending : PySem.W.keepIn K (.ref f_ascending) = true)
    (b_isinstance : PySem.W.nsIn K mainGlobals "isinstance" = some none)
    (b_str : PySem.W.nsIn K mainGlobals "str" = some none)
    (b_len : PySem.W.nsIn K mainGlobals "len" = some none)
    (b_all : PySem.W.nsIn K mainGlobals "all" = some none)
    (b_tuple : PySem.W.nsIn K mainGlobals "tuple" = some none)
    (b_set : PySem.W.nsIn K mainGlobals "set" = some none)
    (b_sorted : PySem.W.nsIn K mainGlobals "sorted" = some none)
    (n_InvalidFormula : PySem.W.nsIn K mainGlobals "InvalidFormula" = some (some (.ref C_InvalidFormula)))
    (x_InvalidFormula : K.lookup C_InvalidFormula = some (excClassObj nm_InvalidFormula q_InvalidFormula C_InvalidFormula N_InvalidFormula bs_InvalidFormula [.ref B0_InvalidFormula, .type "ValueError", .type "Exception", .type "BaseException", .type "object"] true sn_InvalidFormula sub_InvalidFormula ab_InvalidFormula col_InvalidFormula dd_InvalidFormula m0_InvalidFormula m1_InvalidFormula m2_InvalidFormula m3_InvalidFormula m5_InvalidFormula "ValueError.__new__"))
    (sa_InvalidFormula : PySem.W.findIn K (.ref C_InvalidFormula) "__setattr__" = some (some (.builtin "object.__setattr__")))
    (ga_InvalidFormula : PySem.W.findIn K (.ref C_InvalidFormula) "__getattribute__" = some (some (.builtin "BaseException.__getattribute__")))
    (gg_InvalidFormula : PySem.W.findIn K (.ref C_InvalidFormula) "__getattr__" = some none)
    (nb_InvalidFormula : PySem.W.findIn K (.ref C_InvalidFormula) "word" = some none)
    (a1_InvalidFormula : PySem.W.findIn K (.ref C_InvalidFormula) "__init__" = some (some (.ref f_InvalidFormula)))
    (t1_InvalidFormula : PySem.W.typeIn K (.ref f_InvalidFormula) = some (.type "function"))
    (l1_InvalidFormula : K.lookup f_InvalidFormula = some ⟨oc_InvalidFormula, od_InvalidFormula, .func (PySem.W.fnOf "__init__" "InvalidFormula.__init__" (PySem.LowX_InvalidFormula.iA ⟨9, 17, 9, 21⟩ ⟨9, 23, 9, 27⟩) (PySem.LowX_InvalidFormula.iB ⟨10, 8, 10, 12⟩ ⟨10, 8, 10, 17⟩ ⟨10, 20, 10, 24⟩ ⟨10, 8, 10, 24⟩) PySem.LowX_InvalidFormula.iS .none .none dc_InvalidFormula pm_InvalidFormula an_InvalidFormula cd_InvalidFormula ct_InvalidFormula), sl_InvalidFormula⟩)
    (c1_InvalidFormula : PySem.W.codeIn K cd_InvalidFormula "InvalidFormula.__init__" = true)
    (kC_InvalidFormula : PySem.W.keepIn K (.ref C_InvalidFormula) = true)
    (eC_InvalidFormula : PySem.W.subIn K (.ref C_InvalidFormula) (.type "BaseException") = some true)
    (tC_InvalidFormula : PySem.W.typeIn K (.ref C_InvalidFormula) = some (.type "type"))
    (hC_InvalidFormula : PySem.W.hasDictIn K C_InvalidFormula = true)
    (iC_InvalidFormula : PySem.W.isClsIn K C_InvalidFormula = true)
    (sC_InvalidFormula : PySem.W.subIn K (.ref C_InvalidFormula) (.ref C_InvalidFormula) = some true)
    (n_CONSTANTS : PySem.W.nsIn K mainGlobals "CONSTANTS" = some (some (.ref r_CONSTANTS)))
    (l_CONSTANTS : K.lookup r_CONSTANTS = some ⟨.type "tuple", rd_CONSTANTS, .seq ri_CONSTANTS rn_CONSTANTS, rs_CONSTANTS⟩)
    (v_CONSTANTS : Vals ((constV).map V.str) ri_CONSTANTS.toList)
    (z_CONSTANTS : ri_CONSTANTS.size ≤ sizeLine)
    (n_SIGNS : PySem.W.nsIn K mainGlobals "SIGNS" = some (some (.ref r_SIGNS)))
    (l_SIGNS : K.lookup r_SIGNS = some ⟨.type "dict", none, .dict es_SIGNS nn_SIGNS, #[]⟩)
    (kl_SIGNS : PySem.W.KeysLit w.params es_SIGNS.toList)
    (ks_SIGNS : es_SIGNS.toList.map (·.key) = ([("&", kt_SIGNS_0), ("|", kt_SIGNS_1), ("^", kt_SIGNS_2), ("~", kt_SIGNS_3)] : List (Str × Tok)).map fun p => Value.str p.1 p.2)
    (lo_SIGNS : (r_SIGNS == sysModules) = false)
    (n_Formula : PySem.W.nsIn K mainGlobals "Formula" = some (some (.ref C_Formula)))
    (pg_Formula : PySem.W.plainGet K C_Formula Str.empty = true)
    (hd_Formula : PySem.W.hasDictIn K C_Formula = true)
    (po_Formula : PySem.W.plainOver K C_Formula = true)
    (sa_Formula : PySem.W.findIn K (.ref C_Formula) "__setattr__" = some (some (.builtin "object.__setattr__")))
    (mk_Formula : PySem.W.makesIn K C_Formula = true)
    (kc_Formula : PySem.W.keepIn K (.ref C_Formula) = true)
    (no_Formula_steps : PySem.W.findIn K (.ref C_Formula) "steps" = some none)
    (no_Formula_names : PySem.W.findIn K (.ref C_Formula) "names" = some none)
    (a_finit : PySem.W.findIn K (.ref C_Formula) "__init__" = some (some (.ref f_finit)))
    (i_finit : PySem.W.isFn K (.ref f_finit) = true)
    (l_finit : K.lookup f_finit = some ⟨oc_finit, od_finit, .func (PySem.W.fnOf "__init__" "Formula.__init__" (defArgs s_Formula_init) (defBody s_Formula_init) (defScope s_Formula_init) .none kV_finit dc_finit pm_finit an_finit cd_finit ct_finit), sl_finit⟩)
    (c_finit : PySem.W.codeIn K cd_finit "Formula.__init__" = true)
    (k_finit : PySem.W.keepIn K (.ref f_finit) = true)
    (at_of : PySem.W.findCls K (.ref C_Formula) (.type "type") "of" = some (.get (.builtin "classmethod.__get__") (.ref p_of) .none (.ref C_Formula)))
    (rc_of : PySem.W.recIn K p_of "classmethod" = some (.ref f_of :: rest_of))
    (l_of : K.lookup f_of = some ⟨oc_of, od_of, .func (PySem.W.fnOf "of" "Formula.of" (defArgs s_Formula_of) (defBody s_Formula_of) (defScope s_Formula_of) .none kV_of dc_of pm_of an_of cd_of ct_of), sl_of⟩)
    (c_of : PySem.W.codeIn K cd_of "Formula.of" = true)
    (k_of : PySem.W.keepIn K (.ref f_of) = true)
    (rd_Formula : PySem.W.readsIn K C_Formula (.type "type") = true)
    (rg_Formula : PySem.W.specialIn K (.ref C_Formula) "__getattribute__" = some (some (.builtin "type.__getattribute__")))
    (fi_of : PySem.W.fnIn K f_of = true)
    (at_always : PySem.W.findCls K (.ref C_Formula) (.type "type") "always" = some (.get (.builtin "classmethod.__get__") (.ref p_always) .none (.ref C_Formula)))
    (rc_always : PySem.W.recIn K p_always "classmethod" = some (.ref f_always :: rest_always))
    (l_always : K.lookup f_always = some ⟨oc_always, od_always, .func (PySem.W.fnOf "always" "Formula.always" (defArgs s_Formula_always) (defBody s_Formula_always) (defScope s_Formula_always) .none kV_always dc_always pm_always an_always cd_always ct_always), sl_always⟩)
    (c_always : PySem.W.codeIn K cd_always "Formula.always" = true)
    (k_always : PySem.W.keepIn K (.ref f_always) = true)
    (fi_always : PySem.W.fnIn K f_always = true)
    (b_bool : PySem.W.nsIn K mainGlobals "bool" = some none)
    (n_InvalidBlock : PySem.W.nsIn K mainGlobals "InvalidBlock" = some (some (.ref C_InvalidBlock)))
    (x_InvalidBlock : K.lookup C_InvalidBlock = some (excClassObj nm_InvalidBlock q_InvalidBlock C_InvalidBlock N_InvalidBlock bs_InvalidBlock [.ref B0_InvalidBlock, .type "ValueError", .type "Exception", .type "BaseException", .type "object"] true sn_InvalidBlock sub_InvalidBlock ab_InvalidBlock col_InvalidBlock dd_InvalidBlock m0_InvalidBlock m1_InvalidBlock m2_InvalidBlock m3_InvalidBlock m5_InvalidBlock "ValueError.__new__"))
    (sa_InvalidBlock : PySem.W.findIn K (.ref C_InvalidBlock) "__setattr__" = some (some (.builtin "object.__setattr__")))
    (ga_InvalidBlock : PySem.W.findIn K (.ref C_InvalidBlock) "__getattribute__" = some (some (.builtin "BaseException.__getattribute__")))
    (gg_InvalidBlock : PySem.W.findIn K (.ref C_InvalidBlock) "__getattr__" = some none)
    (nb_InvalidBlock : PySem.W.findIn K (.ref C_InvalidBlock) "word" = some none)
    (a1_InvalidBlock : PySem.W.findIn K (.ref C_InvalidBlock) "__init__" = some (some (.ref f_InvalidBlock)))
    (t1_InvalidBlock : PySem.W.typeIn K (.ref f_InvalidBlock) = some (.type "function"))
    (l1_InvalidBlock : K.lookup f_InvalidBlock = some ⟨oc_InvalidBlock, od_InvalidBlock, .func (PySem.W.fnOf "__init__" "InvalidBlock.__init__" (PySem.LowX_InvalidBlock.iA ⟨13, 17, 13, 21⟩ ⟨13, 23, 13, 27⟩) (PySem.LowX_InvalidBlock.iB ⟨14, 8, 14, 12⟩ ⟨14, 8, 14, 17⟩ ⟨14, 20, 14, 24⟩ ⟨14, 8, 14, 24⟩) PySem.LowX_InvalidBlock.iS .none .none dc_InvalidBlock pm_InvalidBlock an_InvalidBlock cd_InvalidBlock ct_InvalidBlock), sl_InvalidBlock⟩)
    (c1_InvalidBlock : PySem.W.codeIn K cd_InvalidBlock "InvalidBlock.__init__" = true)
    (kC_InvalidBlock : PySem.W.keepIn K (.ref C_InvalidBlock) = true)
    (eC_InvalidBlock : PySem.W.subIn K (.ref C_InvalidBlock) (.type "BaseException") = some true)
    (tC_InvalidBlock : PySem.W.typeIn K (.ref C_InvalidBlock) = some (.type "type"))
    (hC_InvalidBlock : PySem.W.hasDictIn K C_InvalidBlock = true)
    (iC_InvalidBlock : PySem.W.isClsIn K C_InvalidBlock = true)
    (sC_InvalidBlock : PySem.W.subIn K (.ref C_InvalidBlock) (.ref C_InvalidBlock) = some true)
    (n_Bit : PySem.W.nsIn K mainGlobals "Bit" = some (some (.ref C_Bit)))
    (pg_Bit : PySem.W.plainGet K C_Bit Str.empty = true)
    (hd_Bit : PySem.W.hasDictIn K C_Bit = true)
    (po_Bit : PySem.W.plainOver K C_Bit = true)
    (sa_Bit : PySem.W.findIn K (.ref C_Bit) "__setattr__" = some (some (.builtin "object.__setattr__")))
    (mk_Bit : PySem.W.makesIn K C_Bit = true)
    (kc_Bit : PySem.W.keepIn K (.ref C_Bit) = true)
    (no_Bit_name : PySem.W.findIn K (.ref C_Bit) "name" = some none)
    (no_Bit_area : PySem.W.findIn K (.ref C_Bit) "area" = some none)
    (no_Bit_kept : PySem.W.findIn K (.ref C_Bit) "kept" = some none)
    (no_Bit_keeper : PySem.W.findIn K (.ref C_Bit) "keeper" = some none)
    (no_Bit_start : PySem.W.findIn K (.ref C_Bit) "start" = some none)
    (a_binit : PySem.W.findIn K (.ref C_Bit) "__init__" = some (some (.ref f_binit)))
    (i_binit : PySem.W.isFn K (.ref f_binit) = true)
    (l_binit : K.lookup f_binit = some ⟨oc_binit, od_binit, .func (PySem.W.fnOf "__init__" "Bit.__init__" (defArgs s_Bit_init) (defBody s_Bit_init) (defScope s_Bit_init) (.ref dT_binit) kV_binit dc_binit pm_binit an_binit cd_binit ct_binit), sl_binit⟩)
    (c_binit : PySem.W.codeIn K cd_binit "Bit.__init__" = true)
    (k_binit : PySem.W.keepIn K (.ref f_binit) = true)
    (t_binit : K.lookup dT_binit = some ⟨dc2_binit, dd_binit, .seq #[.bool false, .bool false, .bool false] dn_binit, ds_binit⟩)
    (n_Signal : PySem.W.nsIn K mainGlobals "Signal" = some (some (.ref C_Signal)))
    (pg_Signal : PySem.W.plainGet K C_Signal Str.empty = true)
    (hd_Signal : PySem.W.hasDictIn K C_Signal = true)
    (po_Signal : PySem.W.plainOver K C_Signal = true)
    (sa_Signal : PySem.W.findIn K (.ref C_Signal) "__setattr__" = some (some (.builtin "object.__setattr__")))
    (mk_Signal : PySem.W.makesIn K C_Signal = true)
    (kc_Signal : PySem.W.keepIn K (.ref C_Signal) = true)
    (no_Signal_name : PySem.W.findIn K (.ref C_Signal) "name" = some none)
    (no_Signal_formula : PySem.W.findIn K (.ref C_Signal) "formula" = some none)
    (no_Signal_fence : PySem.W.findIn K (.ref C_Signal) "fence" = some none)
    (a_sinit : PySem.W.findIn K (.ref C_Signal) "__init__" = some (some (.ref f_sinit)))
    (i_sinit : PySem.W.isFn K (.ref f_sinit) = true)
    (l_sinit : K.lookup f_sinit = some ⟨oc_sinit, od_sinit, .func (PySem.W.fnOf "__init__" "Signal.__init__" (defArgs s_Signal_init) (defBody s_Signal_init) (defScope s_Signal_init) (.ref dT_sinit) kV_sinit dc_sinit pm_sinit an_sinit cd_sinit ct_sinit), sl_sinit⟩)
    (c_sinit : PySem.W.codeIn K cd_sinit "Signal.__init__" = true)
    (k_sinit : PySem.W.keepIn K (.ref f_sinit) = true)
    (t_sinit : K.lookup dT_sinit = some ⟨dc2_sinit, dd_sinit, .seq #[.none] dn_sinit, ds_sinit⟩)
    (a_law_source : PySem.W.nsIn K mainGlobals "_law_source" = some (some (.ref f_law_source)))
    (l_law_source : K.lookup f_law_source = some ⟨oc_law_source, od_law_source, .func (PySem.W.fnOf "_law_source" "_law_source" (defArgs s_law_source) (defBody s_law_source) (defScope s_law_source) .none kV_law_source dc_law_source pm_law_source an_law_source cd_law_source ct_law_source), sl_law_source⟩)
    (c_law_source : PySem.W.codeIn K cd_law_source "_law_source" = true)
    (k_law_source : PySem.W.keepIn K (.ref f_law_source) = true)
    (a_law_draw : PySem.W.nsIn K mainGlobals "_law_draw" = some (some (.ref f_law_draw)))
    (l_law_draw : K.lookup f_law_draw = some ⟨oc_law_draw, od_law_draw, .func (PySem.W.fnOf "_law_draw" "_law_draw" (defArgs s_law_draw) (defBody s_law_draw) (defScope s_law_draw) .none kV_law_draw dc_law_draw pm_law_draw an_law_draw cd_law_draw ct_law_draw), sl_law_draw⟩)
    (c_law_draw : PySem.W.codeIn K cd_law_draw "_law_draw" = true)
    (k_law_draw : PySem.W.keepIn K (.ref f_law_draw) = true)
    (a_law_pick : PySem.W.nsIn K mainGlobals "_law_pick" = some (some (.ref f_law_pick)))
    (l_law_pick : K.lookup f_law_pick = some ⟨oc_law_pick, od_law_pick, .func (PySem.W.fnOf "_law_pick" "_law_pick" (defArgs s_law_pick) (defBody s_law_pick) (defScope s_law_pick) .none kV_law_pick dc_law_pick pm_law_pick an_law_pick cd_law_pick ct_law_pick), sl_law_pick⟩)
    (c_law_pick : PySem.W.codeIn K cd_law_pick "_law_pick" = true)
    (k_law_pick : PySem.W.keepIn K (.ref f_law_pick) = true)
    (b_abs : PySem.W.nsIn K mainGlobals "abs" = some none)
    (b_int : PySem.W.nsIn K mainGlobals "int" = some none)
    (b_range : PySem.W.nsIn K mainGlobals "range" = some none)
    (b_list : PySem.W.nsIn K mainGlobals "list" = some none)
    (b_zip : PySem.W.nsIn K mainGlobals "zip" = some none)
    (a_law_argument : PySem.W.nsIn K mainGlobals "_law_argument" = some (some (.ref f_law_argument)))
    (l_law_argument : K.lookup f_law_argument = some ⟨oc_law_argument, od_law_argument, .func (PySem.W.fnOf "_law_argument" "_law_argument" (defArgs s_law_argument) (defBody s_law_argument) (defScope s_law_argument) .none kV_law_argument dc_law_argument pm_law_argument an_law_argument cd_law_argument ct_law_argument), sl_law_argument⟩)
    (c_law_argument : PySem.W.codeIn K cd_law_argument "_law_argument" = true)
    (k_law_argument : PySem.W.keepIn K (.ref f_law_argument) = true)
    (a_law_heard : PySem.W.nsIn K mainGlobals "_law_heard" = some (some (.ref f_law_heard)))
    (l_law_heard : K.lookup f_law_heard = some ⟨oc_law_heard, od_law_heard, .func (PySem.W.fnOf "_law_heard" "_law_heard" (defArgs s_law_heard) (defBody s_law_heard) (defScope s_law_heard) .none kV_law_heard dc_law_heard pm_law_heard an_law_heard cd_law_heard ct_law_heard), sl_law_heard⟩)
    (c_law_heard : PySem.W.codeIn K cd_law_heard "_law_heard" = true)
    (k_law_heard : PySem.W.keepIn K (.ref f_law_heard) = true)
    (a_law : PySem.W.nsIn K mainGlobals "law" = some (some (.ref f_law)))
    (l_law : K.lookup f_law = some ⟨oc_law, od_law, .func (PySem.W.fnOf "law" "law" (defArgs s_law) (defBody s_law) (defScope s_law) .none kV_law dc_law pm_law an_law cd_law ct_law), sl_law⟩)
    (c_law : PySem.W.codeIn K cd_law "law" = true)
    (k_law : PySem.W.keepIn K (.ref f_law) = true)
    (n_WakeError : PySem.W.nsIn K mainGlobals "WakeError" = some (some (.ref C_WakeError)))
    (eC_WE : PySem.W.subIn K (.ref C_WakeError) (.type "BaseException") = some true)
    (iC_WE : PySem.W.isClsIn K C_WakeError = true)
    (tC_WE : PySem.W.typeIn K (.ref C_WakeError) = some (.type "type"))
    (sC_WE : PySem.W.subIn K (.ref C_InvalidBlock) (.ref C_WakeError) = some true)
    (ca_F : PySem.W.findIn K (.ref C_Formula) "__class__" = some (some (.builtin "object.__class__")))
    (cm_F : PySem.W.mroIn K C_Formula (.type "object") = some true)
    (cn_F : PySem.W.specialIn K (.builtin "object.__class__") "__get__" = some (some (.builtin "getset_descriptor.__get__")))
    (ct_F : PySem.W.takesIn K (.builtin "object.__class__") = some true)
    (ca_InvalidBlock : PySem.W.findIn K (.ref C_InvalidBlock) "__class__" = some (some (.builtin "object.__class__")))
    (cm_InvalidBlock : PySem.W.mroIn K C_InvalidBlock (.type "object") = some true)
    (kit_IB : PySem.W.kitOne K (.ref C_InvalidBlock) (.ref C_InvalidBlock) = some true)
    (kit_FF : PySem.W.kitOne K (.ref C_Formula) (.ref C_Formula) = some true)
    (kit_FS : PySem.W.kitOne K (.ref C_Formula) (.type "str") = some false)
    (kit_str : PySem.W.kitOne K (.type "str") (.ref C_Formula) = some false)
    (kit_non : PySem.W.kitOne K (.type "NoneType") (.ref C_Formula) = some false)
    (kit_int : PySem.W.kitOne K (.type "int") (.ref C_Formula) = some false)
    (kit_bl : PySem.W.kitOne K (.type "bool") (.ref C_Formula) = some false)
    (kit_tup : PySem.W.kitOne K (.type "tuple") (.ref C_Formula) = some false)
    (kit_lst : PySem.W.kitOne K (.type "list") (.ref C_Formula) = some false) :
    ∃ fd : FuncData, (∀ (s : Shared) (v : Value), BindsTo s fd ⟨[v], []⟩ [("_law_script", v)]) ∧ ∀ base : Heap, K.In base → base.Ns mainGlobals mg → FnOk P w K mg base CX0 7 fa fd ["_law_script"] (spLaw K) := by
  have e := hfa.symm.trans (PySem.W.mg_of X G a_law)
  cases e
  have low_InvalidFormula : PySem.LowX_InvalidFormula.LowTxt_InvalidFormula K mg C_InvalidFormula f_InvalidFormula :=
    { gC := PySem.W.mg_of X G n_InvalidFormula, cls := ⟨nm_InvalidFormula, q_InvalidFormula, N_InvalidFormula, bs_InvalidFormula, _, sn_InvalidFormula, sub_InvalidFormula, ab_InvalidFormula, col_InvalidFormula, dd_InvalidFormula, m0_InvalidFormula, m1_InvalidFormula, m2_InvalidFormula, m3_InvalidFormula, m5_InvalidFormula, x_InvalidFormula, by rfl⟩, sa := sa_InvalidFormula, ga := ga_InvalidFormula, gg := gg_InvalidFormula, noN := nb_InvalidFormula, iC := a1_InvalidFormula, tC := t1_InvalidFormula, kC := kC_InvalidFormula, exC := eC_InvalidFormula, tyC := tC_InvalidFormula, hdC := hC_InvalidFormula, te := exm_self eC_InvalidFormula iC_InvalidFormula tC_InvalidFormula sC_InvalidFormula,
      fn := ⟨_, _, _, _, _, _, _, _, _, _, _, _, _, _, l1_InvalidFormula, c1_InvalidFormula⟩ }
  have low_InvalidBlock : PySem.LowX_InvalidBlock.LowTxt_InvalidBlock K mg C_InvalidBlock f_InvalidBlock :=
    { gC := PySem.W.mg_of X G n_InvalidBlock, cls := ⟨nm_InvalidBlock, q_InvalidBlock, N_InvalidBlock, bs_InvalidBlock, _, sn_InvalidBlock, sub_InvalidBlock, ab_InvalidBlock, col_InvalidBlock, dd_InvalidBlock, m0_InvalidBlock, m1_InvalidBlock, m2_InvalidBlock, m3_InvalidBlock, m5_InvalidBlock, x_InvalidBlock, by rfl⟩, sa := sa_InvalidBlock, ga := ga_InvalidBlock, gg := gg_InvalidBlock, noN := nb_InvalidBlock, iC := a1_InvalidBlock, tC := t1_InvalidBlock, kC := kC_InvalidBlock, exC := eC_InvalidBlock, tyC := tC_InvalidBlock, hdC := hC_InvalidBlock, te := exm_self eC_InvalidBlock iC_InvalidBlock tC_InvalidBlock sC_InvalidBlock,
      fn := ⟨_, _, _, _, _, _, _, _, _, _, _, _, _, _, l1_InvalidBlock, c1_InvalidBlock⟩ }
  have F_is_name := fun_mk (st := s_is_name) l_is_name c_is_name k_is_name
  have F_ascending := fun_mk (st := s_ascending) l_ascending c_ascending k_ascending
  have F_finit := fun_mk (st := s_Formula_init) l_finit c_finit k_finit
  have F_of := fun_mk (st := s_Formula_of) l_of c_of k_of
  have F_always := fun_mk (st := s_Formula_always) l_always c_always k_always
  have F_law_source := fun_mk (st := s_law_source) l_law_source c_law_source k_law_source
  have F_law_draw := fun_mk (st := s_law_draw) l_law_draw c_law_draw k_law_draw
  have F_law_pick := fun_mk (st := s_law_pick) l_law_pick c_law_pick k_law_pick
  have F_law_argument := fun_mk (st := s_law_argument) l_law_argument c_law_argument k_law_argument
  have F_law_heard := fun_mk (st := s_law_heard) l_law_heard c_law_heard k_law_heard
  have F_law := fun_mk (st := s_law) l_law c_law k_law
  have b_is_name := F_is_name.binds (ps := ["value"]) fun _ _ _ _ _ _ us hl => match us, hl with | [_], _ => rfl
  have b_ascending := F_ascending.binds (ps := ["names"]) fun _ _ _ _ _ _ us hl => match us, hl with | [_], _ => rfl
  have b_finit := F_finit.binds (ps := ["self", "steps"]) fun _ _ _ _ _ _ us hl => match us, hl with | [_, _], _ => rfl
  have b_of := F_of.binds (ps := ["cls", "name"]) fun _ _ _ _ _ _ us hl => match us, hl with | [_, _], _ => rfl
  have b_always := F_always.binds (ps := ["cls", "value"]) fun _ _ _ _ _ _ us hl => match us, hl with | [_, _], _ => rfl
  have b_law_source := F_law_source.binds (ps := ["_law_script", "_law_base"]) fun _ _ _ _ _ _ us hl => match us, hl with | [_, _], _ => rfl
  have b_law_draw := F_law_draw.binds (ps := ["_law_deal", "_law_wide"]) fun _ _ _ _ _ _ us hl => match us, hl with | [_, _], _ => rfl
  have b_law_pick := F_law_pick.binds (ps := ["_law_deal", "_law_some"]) fun _ _ _ _ _ _ us hl => match us, hl with | [_, _], _ => rfl
  have b_law_argument := F_law_argument.binds (ps := ["_law_deal", "_law_word"]) fun _ _ _ _ _ _ us hl => match us, hl with | [_, _], _ => rfl
  have b_law_heard := F_law_heard.binds (ps := ["_law_form", "_law_some"]) fun _ _ _ _ _ _ us hl => match us, hl with | [_, _], _ => rfl
  have T : TxtL K w mg ⟨r_RESERVED, t_LONGEST, t_LETTERS, f_is_name, f_ascending⟩ ⟨C_Formula, f_finit, C_InvalidFormula, f_InvalidFormula, r_SIGNS, es_SIGNS, nn_SIGNS, r_CONSTANTS, p_of, f_of, p_always, f_always⟩ ⟨C_Bit, f_binit, C_Signal, f_sinit, C_InvalidBlock, f_InvalidBlock⟩ ⟨f_law_source, f_law_pick, f_law_draw, f_law_argument, f_law_heard, C_WakeError⟩ := { g_RESERVED := PySem.W.mg_of X G n_RESERVED, s_RESERVED := fun H => .inr ⟨_, _, _, l_RESERVED, rfl, rfl, z_RESERVED, v_RESERVED⟩, g_LONGEST := PySem.W.mg_of X G n_LONGEST, g_LETTERS := PySem.W.mg_of X G n_LETTERS, b_isinstance := PySem.W.mg_none_of X G b_isinstance, b_str := PySem.W.mg_none_of X G b_str, b_len := PySem.W.mg_none_of X G b_len, b_all := PySem.W.mg_none_of X G b_all, b_tuple := PySem.W.mg_none_of X G b_tuple, b_set := PySem.W.mg_none_of X G b_set, b_sorted := PySem.W.mg_none_of X G b_sorted, g_is_name := PySem.W.mg_of X G a_is_name, k_is_name := k_is_name, g_ascending := PySem.W.mg_of X G a_ascending, k_ascending := k_ascending, low_InvalidFormula := low_InvalidFormula, cl := ⟨pg_Formula, hd_Formula, po_Formula, sa_Formula⟩, M := ⟨mk_Formula, a_finit, i_finit, kc_Formula⟩, g_Formula := PySem.W.mg_of X G n_Formula, g_SIGNS := PySem.W.mg_of X G n_SIGNS, d_SIGNS := ⟨l_SIGNS, kl_SIGNS, lo_SIGNS⟩, m_SIGNS := fun z hz => ns_miss l_SIGNS ks_SIGNS hz, g_CONSTANTS := PySem.W.mg_of X G n_CONSTANTS, s_CONSTANTS := fun H => .inr ⟨_, _, _, l_CONSTANTS, rfl, rfl, z_CONSTANTS, v_CONSTANTS⟩, n_steps := no_Formula_steps, n_names := no_Formula_names, b_bool := PySem.W.mg_none_of X G b_bool, low_InvalidBlock := low_InvalidBlock, clB := ⟨pg_Bit, hd_Bit, po_Bit, sa_Bit⟩, MB := ⟨mk_Bit, a_binit, i_binit, kc_Bit⟩, g_Bit := PySem.W.mg_of X G n_Bit, clS := ⟨pg_Signal, hd_Signal, po_Signal, sa_Signal⟩, MS := ⟨mk_Signal, a_sinit, i_sinit, kc_Signal⟩, g_Signal := PySem.W.mg_of X G n_Signal, b_name := no_Bit_name, b_area := no_Bit_area, b_kept := no_Bit_kept, b_keeper := no_Bit_keeper, b_start := no_Bit_start, s_name := no_Signal_name, s_formula := no_Signal_formula, s_fence := no_Signal_fence, b_int := PySem.W.mg_none_of X G b_int, b_abs := PySem.W.mg_none_of X G b_abs, g__law_draw := PySem.W.mg_of X G a_law_draw, k__law_draw := k_law_draw, b_range := PySem.W.mg_none_of X G b_range, b_zip := PySem.W.mg_none_of X G b_zip, g__law_source := PySem.W.mg_of X G a_law_source, k__law_source := k_law_source, g__law_pick := PySem.W.mg_of X G a_law_pick, k__law_pick := k_law_pick, g__law_argument := PySem.W.mg_of X G a_law_argument, k__law_argument := k_law_argument, g__law_heard := PySem.W.mg_of X G a_law_heard, k__law_heard := k_law_heard, g_WakeError := PySem.W.mg_of X G n_WakeError, g_InvalidBlock := PySem.W.mg_of X G n_InvalidBlock, xc_InvalidBlock := ⟨ga_InvalidBlock, gg_InvalidBlock, eC_InvalidBlock, hC_InvalidBlock, ca_InvalidBlock, cn_F, ct_F, cm_InvalidBlock⟩, ex_WE := exm_two eC_WE iC_WE tC_WE sC_WE, kit_IB := kit_IB, kit_FF := kit_FF, kit_FS := kit_FS, kit_str := kit_str, kit_non := kit_non, kit_int := kit_int, kit_bl := kit_bl, kit_tup := kit_tup, kit_lst := kit_lst, ca_F := ca_F, cn_F := cn_F, ct_F := ct_F, cm_F := cm_F, cr_Formula := ⟨rd_Formula, rg_Formula⟩, cm_Formula_of := ⟨at_of, ⟨_, rc_of⟩, fi_of⟩, cm_Formula_always := ⟨at_always, ⟨_, rc_always⟩, fi_always⟩ }
  have FB : FunD K "__init__" "Bit.__init__" (defArgs s_Bit_init) (defBody s_Bit_init) (defScope s_Bit_init) [V.bl false, V.bl false, V.bl false] [] f_binit _ :=
    ⟨⟨_, _, _, _, _, _, _, _, _, _, rfl, l_binit, c_binit, .inr ⟨by simp, _, _, [.bool false, .bool false, .bool false], _, rfl, t_binit, rfl, .cons rfl (.cons rfl (.cons rfl .nil))⟩, .inl rfl⟩, k_binit⟩
  obtain ⟨dsB, vB, bB⟩ := FB.binds1 (ps := ["self", "name", "area", "kept", "keeper", "start"]) 6 3 (by simp) rfl (fun _ _ _ _ _ _ _ us its hl hi => match us, hl, its, hi with | [_, _, _, _, _, _], _, [_, _, _], _ => ⟨_, rfl, rfl⟩)
  cases vB
  have FSg : FunD K "__init__" "Signal.__init__" (defArgs s_Signal_init) (defBody s_Signal_init) (defScope s_Signal_init) [V.non] [] f_sinit _ :=
    ⟨⟨_, _, _, _, _, _, _, _, _, _, rfl, l_sinit, c_sinit, .inr ⟨by simp, _, _, [.none], _, rfl, t_sinit, rfl, .cons rfl .nil⟩, .inl rfl⟩, k_sinit⟩
  obtain ⟨dsS, vS, bS⟩ := FSg.binds1 (ps := ["self", "name", "formula", "fence"]) 4 1 (by simp) rfl (fun _ _ _ _ _ _ _ us its hl hi => match us, hl, its, hi with | [_, _, _, _], _, [_], _ => ⟨_, rfl, rfl⟩)
  cases vS
  refine ⟨PySem.W.fnOf "law" "law" (defArgs s_law) (defBody s_law) (defScope s_law) .none kV_law dc_law pm_law an_law cd_law ct_law, fun s v => .of_eq rfl, fun base _ _ => ?_⟩
  have G1 := ok_is_name (P := P) (w := w) (base := base) F_is_name T.toTxtW
  have GN := ok_is_name_non (P := P) (w := w) (base := base) F_is_name T.toTxtW
  have NV := fn_or G1 GN
  have GA := ok_ascending (P := P) (w := w) (base := base) F_ascending T.toTxtW
  have GF := ok_Formula (P := P) (w := w) (base := base) F_finit T.toTxtF GA b_ascending
  have OF := ok_of (P := P) (w := w) (base := base) F_of T.toTxtF NV b_is_name GF b_finit
  have AL := ok_always (P := P) (w := w) (base := base) F_always T.toTxtF GF b_finit
  have RO := (FnOk.raw OF b_of .nil).imp (sp' := spOf K _) (fun vs H Q E h => by rw [List.append_nil]; exact h)
  have RA := (FnOk.raw AL b_always .nil).imp (sp' := spAl K _) (fun vs H Q E h => by rw [List.append_nil]; exact h)
  have RO0 := (FnOk.raw (of_calm OF) b_of .nil).imp (sp' := spOf0 K _) (fun vs H Q E h => by rw [List.append_nil]; exact h)
  have RA0 := (FnOk.raw (al_calm AL) b_always .nil).imp (sp' := spAl0 K _) (fun vs H Q E h => by rw [List.append_nil]; exact h)
  have NM := name_v NV
  have BI := ok_Bit (P := P) (w := w) (base := base) FB T.toTxtB NM b_is_name
  have SI := ok_Signal (P := P) (w := w) (base := base) FSg T.toTxtB NM b_is_name
  have D1 := ok_sourceA (P := P) (w := w) (base := base) F_law_source T.toTxtDA2
  have D2 := ok_drawA (P := P) (w := w) (base := base) F_law_draw T.toTxtDA
  have D3 := ok_pickA (P := P) (w := w) (base := base) F_law_pick T.toTxtDA2 D2 b_law_draw
  have AR := ok_argument (P := P) (w := w) (base := base) F_law_argument T D2 b_law_draw D3 b_law_pick RO0 RA0
  have HE := ok_heard (P := P) (w := w) (base := base) F_law_heard T BI bB SI bS
  exact ok_law F_law T D1 b_law_source AR b_law_argument HE b_law_heard
theorem walk {l : PySem.W.OpenLaw} {q : Program} {loose : List Str} {XP : (Str → Option Value) → Heap → Prop} {YP : World → Heap → Prop} {d : DefRec} {K : Params → PySem.W.Frag} (hn : l.most = some 63) (hdf : d.params.defaults = [])
    (hY : ∀ (w : World) (h : Heap), YP w h → (K w.params).In h)
    (F : ∀ (w : World) (mg : Str → Option Value) (fa : Addr) (h : Heap), (K w.params).In h → h.Ns mainGlobals mg → mg d.name = some (.ref fa) →
      ∃ fd : FuncData, (∀ (s : Shared) (u : Value), BindsTo s fd ⟨[u], []⟩ [("_law_script", u)]) ∧ ∀ base : Heap, (K w.params).In base → base.Ns mainGlobals mg → FnOk l.prog w (K w.params) mg base CX0 7 fa fd ["_law_script"] (spLaw (K w.params))) :
    PySem.W.WalkO q loose XP YP l.row.toRowW d [] (fun f vs => PySem.call f vs) :=
  L2.walk_of (n := 63) (k := 7) (x := "_law_script") (CX := fun _ => CX0) (sp := fun w => spLaw (K w.params)) hn (by decide) hdf ⟨rfl, by decide, by decide⟩ hY F (fun _ _ a ns hl _ hS => ⟨a, ns, rfl, hS, hl, fun _ => rfl⟩) fun _ _ _ _ _ z => z
end L2.Wk
open PySem PySem.W PyProof.Rows
set_option maxRecDepth 100000 in
set_option maxHeartbeats 0 in
theorem PySem.Challenge.cw_wakesafe_k12_bits_and_signals_refused_holds : PySem.Challenge.rw_wakesafe_k12_bits_and_signals_refused.Holds := by
  w_on; o_law; k_head; (case hw => w_witness2)
  k_fill
  refine L2.Wk.walk (l := PySem.Challenge.rw_wakesafe_k12_bits_and_signals_refused) rfl rfl (fun w h Y => PySem.W.kIn_of Y) ?F
  case F =>
    intro w mg fa h KX G hmg
    refine' L2.Wk.all_mk KX G hmg ?n_RESERVED ?l_RESERVED ?v_RESERVED ?z_RESERVED ?n_LONGEST ?n_LETTERS ?a_is_name ?l_is_name ?c_is_name ?k_is_name ?a_ascending ?l_ascending ?c_ascending ?k_ascending ?b_isinstance ?b_str ?b_len ?b_all ?b_tuple ?b_set ?b_sorted ?n_InvalidFormula ?x_InvalidFormula ?sa_InvalidFormula ?ga_InvalidFormula ?gg_InvalidFormula ?nb_InvalidFormula ?a1_InvalidFormula ?t1_InvalidFormula ?l1_InvalidFormula ?c1_InvalidFormula ?kC_InvalidFormula ?eC_InvalidFormula ?tC_InvalidFormula ?hC_InvalidFormula ?iC_InvalidFormula ?sC_InvalidFormula ?n_CONSTANTS ?l_CONSTANTS ?v_CONSTANTS ?z_CONSTANTS ?n_SIGNS ?l_SIGNS ?kl_SIGNS ?ks_SIGNS ?lo_SIGNS ?n_Formula ?pg_Formula ?hd_Formula ?po_Formula ?sa_Formula ?mk_Formula ?kc_Formula ?no_Formula_steps ?no_Formula_names ?a_finit ?i_finit ?l_finit ?c_finit ?k_finit ?at_of ?rc_of ?l_of ?c_of ?k_of ?rd_Formula ?rg_Formula ?fi_of ?at_always ?rc_always ?l_always ?c_always ?k_always ?fi_always ?b_bool ?n_InvalidBlock ?x_InvalidBlock ?sa_InvalidBlock ?ga_InvalidBlock ?gg_InvalidBlock ?nb_InvalidBlock ?a1_InvalidBlock ?t1_InvalidBlock ?l1_InvalidBlock ?c1_InvalidBlock ?kC_InvalidBlock ?eC_InvalidBlock ?tC_InvalidBlock ?hC_InvalidBlock ?iC_InvalidBlock ?sC_InvalidBlock ?n_Bit ?pg_Bit ?hd_Bit ?po_Bit ?sa_Bit ?mk_Bit ?kc_Bit ?no_Bit_name ?no_Bit_area ?no_Bit_kept ?no_Bit_keeper ?no_Bit_start ?a_binit ?i_binit ?l_binit ?c_binit ?k_binit ?t_binit ?n_Signal ?pg_Signal ?hd_Signal ?po_Signal ?sa_Signal ?mk_Signal ?kc_Signal ?no_Signal_name ?no_Signal_formula ?no_Signal_fence ?a_sinit ?i_sinit ?l_sinit ?c_sinit ?k_sinit ?t_sinit ?a_law_source ?l_law_source ?c_law_source ?k_law_source ?a_law_draw ?l_law_draw ?c_law_draw ?k_law_draw ?a_law_pick ?l_law_pick ?c_law_pick ?k_law_pick ?b_abs ?b_int ?b_range ?b_list ?b_zip ?a_law_argument ?l_law_argument ?c_law_argument ?k_law_argument ?a_law_heard ?l_law_heard ?c_law_heard ?k_law_heard ?a_law ?l_law ?c_law ?k_law ?n_WakeError ?eC_WE ?iC_WE ?tC_WE ?sC_WE ?ca_F ?cm_F ?cn_F ?ct_F ?ca_InvalidBlock ?cm_InvalidBlock ?kit_IB ?kit_FF ?kit_FS ?kit_str ?kit_non ?kit_int ?kit_bl ?kit_tup ?kit_lst
    (case n_RESERVED => k_is)
    (case l_RESERVED => k_is)
    (case v_RESERVED => exact (.cons ⟨_, rfl⟩ (.cons ⟨_, rfl⟩ (.cons ⟨_, rfl⟩ (.cons ⟨_, rfl⟩ (.cons ⟨_, rfl⟩ (.cons ⟨_, rfl⟩ (.cons ⟨_, rfl⟩ (.cons ⟨_, rfl⟩ (.cons ⟨_, rfl⟩ (.cons ⟨_, rfl⟩ (.nil))))))))))))
    (case z_RESERVED => decide)
    (case n_LONGEST => k_is)
    (case n_LETTERS => k_is)
    (case a_is_name => k_is)
    (case l_is_name => k_is)
    (case c_is_name => k_is)
    (case k_is_name => k_is)
    (case a_ascending => k_is)
    (case l_ascending => k_is)
    (case c_ascending => k_is)
    (case k_ascending => k_is)
    (case b_isinstance => k_is)
    (case b_str => k_is)
    (case b_len => k_is)
    (case b_all => k_is)
    (case b_tuple => k_is)
    (case b_set => k_is)
    (case b_sorted => k_is)
    (case n_InvalidFormula => k_is)
    (case x_InvalidFormula => k_is)
    (case sa_InvalidFormula => k_is)
    (case ga_InvalidFormula => k_is)
    (case gg_InvalidFormula => k_is)
    (case nb_InvalidFormula => k_is)
    (case a1_InvalidFormula => k_is)
    (case t1_InvalidFormula => k_is)
    (case l1_InvalidFormula => k_is)
    (case c1_InvalidFormula => k_is)
    (case kC_InvalidFormula => k_is)
    (case eC_InvalidFormula => k_is)
    (case tC_InvalidFormula => k_is)
    (case hC_InvalidFormula => k_is)
    (case iC_InvalidFormula => k_is)
    (case sC_InvalidFormula => first | rfl | k_is)
    (case n_CONSTANTS => k_is)
    (case l_CONSTANTS => k_is)
    (case v_CONSTANTS => exact (.cons ⟨_, rfl⟩ (.cons ⟨_, rfl⟩ (.nil))))
    (case z_CONSTANTS => decide)
    (case n_SIGNS => k_is)
    (case l_SIGNS => k_is)
    (case kl_SIGNS => exact ⟨⟨_, _, rfl, rfl⟩, ⟨_, _, rfl, rfl⟩, ⟨_, _, rfl, rfl⟩, ⟨_, _, rfl, rfl⟩, True.intro⟩)
    (case ks_SIGNS => rfl)
    (case lo_SIGNS => rfl)
    (case n_Formula => k_is)
    (case pg_Formula => k_is)
    (case hd_Formula => k_is)
    (case po_Formula => k_is)
    (case sa_Formula => k_is)
    (case mk_Formula => k_is)
    (case kc_Formula => k_is)
    (case no_Formula_steps => k_is)
    (case no_Formula_names => k_is)
    (case a_finit => k_is)
    (case i_finit => k_is)
    (case l_finit => k_is)
    (case c_finit => k_is)
    (case k_finit => k_is)
    (case at_of => first | rfl | k_is)
    (case rc_of => first | rfl | k_is)
    (case l_of => k_is)
    (case c_of => k_is)
    (case k_of => k_is)
    (case rd_Formula => first | rfl | k_is)
    (case rg_Formula => first | rfl | k_is)
    (case fi_of => first | rfl | k_is)
    (case at_always => first | rfl | k_is)
    (case rc_always => first | rfl | k_is)
    (case l_always => k_is)
    (case c_always => k_is)
    (case k_always => k_is)
    (case fi_always => first | rfl | k_is)
    (case b_bool => k_is)
    (case n_InvalidBlock => k_is)
    (case x_InvalidBlock => k_is)
    (case sa_InvalidBlock => k_is)
    (case ga_InvalidBlock => k_is)
    (case gg_InvalidBlock => k_is)
    (case nb_InvalidBlock => k_is)
    (case a1_InvalidBlock => k_is)
    (case t1_InvalidBlock => k_is)
    (case l1_InvalidBlock => k_is)
    (case c1_InvalidBlock => k_is)
    (case kC_InvalidBlock => k_is)
    (case eC_InvalidBlock => k_is)
    (case tC_InvalidBlock => k_is)
    (case hC_InvalidBlock => k_is)
    (case iC_InvalidBlock => k_is)
    (case sC_InvalidBlock => first | rfl | k_is)
    (case n_Bit => k_is)
    (case pg_Bit => k_is)
    (case hd_Bit => k_is)
    (case po_Bit => k_is)
    (case sa_Bit => k_is)
    (case mk_Bit => k_is)
    (case kc_Bit => k_is)
    (case no_Bit_name => k_is)
    (case no_Bit_area => k_is)
    (case no_Bit_kept => k_is)
    (case no_Bit_keeper => k_is)
    (case no_Bit_start => k_is)
    (case a_binit => k_is)
    (case i_binit => k_is)
    (case l_binit => k_is)
    (case c_binit => k_is)
    (case k_binit => k_is)
    (case t_binit => k_is)
    (case n_Signal => k_is)
    (case pg_Signal => k_is)
    (case hd_Signal => k_is)
    (case po_Signal => k_is)
    (case sa_Signal => k_is)
    (case mk_Signal => k_is)
    (case kc_Signal => k_is)
    (case no_Signal_name => k_is)
    (case no_Signal_formula => k_is)
    (case no_Signal_fence => k_is)
    (case a_sinit => k_is)
    (case i_sinit => k_is)
    (case l_sinit => k_is)
    (case c_sinit => k_is)
    (case k_sinit => k_is)
    (case t_sinit => k_is)
    (case a_law_source => k_is)
    (case l_law_source => k_is)
    (case c_law_source => k_is)
    (case k_law_source => k_is)
    (case a_law_draw => k_is)
    (case l_law_draw => k_is)
    (case c_law_draw => k_is)
    (case k_law_draw => k_is)
    (case a_law_pick => k_is)
    (case l_law_pick => k_is)
    (case c_law_pick => k_is)
    (case k_law_pick => k_is)
    (case b_abs => k_is)
    (case b_int => k_is)
    (case b_range => k_is)
    (case b_list => k_is)
    (case b_zip => k_is)
    (case a_law_argument => k_is)
    (case l_law_argument => k_is)
    (case c_law_argument => k_is)
    (case k_law_argument => k_is)
    (case a_law_heard => k_is)
    (case l_law_heard => k_is)
    (case c_law_heard => k_is)
    (case k_law_heard => k_is)
    (case a_law => k_is)
    (case l_law => k_is)
    (case c_law => k_is)
    (case k_law => k_is)
    (case n_WakeError => k_is)
    (case eC_WE => first | rfl | k_is)
    (case iC_WE => first | rfl | k_is)
    (case tC_WE => first | rfl | k_is)
    (case sC_WE => first | rfl | k_is)
    (case ca_F => k_is)
    (case cm_F => k_is)
    (case cn_F => k_is)
    (case ct_F => k_is)
    (case ca_InvalidBlock => k_is)
    (case cm_InvalidBlock => k_is)
    (case kit_IB => first | rfl | k_is)
    (case kit_FF => first | rfl | k_is)
    (case kit_FS => first | rfl | k_is)
    (case kit_str => first | rfl | k_is)
    (case kit_non => first | rfl | k_is)
    (case kit_int => first | rfl | k_is)
    (case kit_bl => first | rfl | k_is)
    (case kit_tup => first | rfl | k_is)
    (case kit_lst => first | rfl | k_is)
