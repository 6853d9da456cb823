import PyProof.Rows.All
import Wide.All
import OpenK.AllK
import Wide.FinOn
import PyProof.EqAt
import PyProof.EqKinds
import PyProof.TupleCall
import HandS.ForMost
import HandS.ForExc
import HandS.Style
import HandS.IsInst
import HandS.TupAny
import HandS.TupMul
import HandS.Defaults
import HandS.Wide
import PySem.Challenge.RW_wakesafe_k21_events_and_deeds_told_right
set_option Elab.async false
set_option linter.all false
set_option maxRecDepth 100000
set_option maxHeartbeats 4000000
namespace L2.Wk
open PySem PySem.Spec PyProof.Rows
/-! ### heaps -/
theorem Same.upd_new {H : Hp} {p : Addr} {o : HO} (h : H p = none) : Same H (upd H p o) := fun b u e => by
  rw [upd_ne (ne_of_none e h)]; exact e
theorem Same.of_upd {H H' : Hp} {p : Addr} {o : HO} (h : Same (upd H p o) H') (hp : H p = none) : Same H H' := fun b u e => h b u (Same.upd_new hp b u e)
theorem Same.sqT {K : PySem.W.Frag} {H H' : Hp} {a : Addr} {xs : List V} (e : Same H H') (h : SqT K H a xs) : SqT K H' a xs := by
  rcases h with (h | ⟨o, h⟩) | h
  · exact .inl (.inl (e _ _ h))
  · exact .inl (.inr ⟨o, e _ _ h⟩)
  · exact .inr h
/-- a comprehension over the signs of a text -/
theorem lc_str {z : Str} {g : TG} {tt : TT} {te : TE} {vs : List Nat} {σ : St} {H1 : Hp} {D : Addr} {Qd : Hp → Prop} (Pv : Nat → Hp → Prop) (h0 : Pv 0 (upd H1 D (.lst [])))
    (hs : ∀ i c H, z.cps[i]? = some c → Pv i H → g (.str ⟨#[c]⟩) (wipe σ vs) H fun σ2 H2 => wipe σ2 vs = wipe σ vs ∧ tt σ2 H2 fun b H3 =>
      if b = true then te σ2 H3 fun y H4 => ∃ acc, H4 D = some (.lst acc) ∧ acc.length < sizeLine ∧ Pv (i + 1) (upd H4 D (.lst (acc ++ [y]))) else Pv (i + 1) H3) (hd : ∀ H, Pv z.cps.size H → Qd H) :
    ∃ W : Nat → Nat → Hp → Prop, (∃ m, W 0 m (upd H1 D (.lst []))) ∧ ∀ i m H, W i m H →
      ((Its z).stop i H ∧ Qd H) ∨ ((Its z).go i H ∧ ∃ Nx : Hp → Prop, (∀ H', Nx H' → ∃ m', m' < m ∧ W (i + 1) m' H') ∧ ∀ x H', (Its z).yld i H x H' → g x (wipe σ vs) H' fun σ2 H2 => wipe σ2 vs = wipe σ vs ∧ tt σ2 H2 fun b H3 =>
        if b = true then te σ2 H3 fun y H4 => ∃ acc, H4 D = some (.lst acc) ∧ acc.length < sizeLine ∧ Nx (upd H4 D (.lst (acc ++ [y]))) else Nx H3) := by
  refine ⟨fun i m H => m = z.cps.size - i ∧ i ≤ z.cps.size ∧ Pv i H, ⟨z.cps.size, by simp, Nat.zero_le _, h0⟩, ?_⟩
  rintro i m H ⟨rfl, hi, p⟩
  by_cases hlt : i < z.cps.size
  · refine .inr ⟨hlt, Pv (i + 1), fun H' p' => ⟨z.cps.size - (i + 1), by omega, rfl, hlt, p'⟩, fun x H' y => ?_⟩
    obtain ⟨e, c, hc, ex⟩ := y
    subst e
    subst ex
    exact hs i c _ hc p
  · have e : i = z.cps.size := by omega
    subst e
    exact .inl ⟨Nat.le_refl _, hd H p⟩
theorem take_succ_map {α β : Type} {l : List α} {i : Nat} {x : α} (f : α → β) (h : l[i]? = some x) : (l.take (i + 1)).map f = (l.take i).map f ++ [f x] := by
  rw [List.take_add_one, h]
  simp
theorem arr_list {c : Nat} {a : Array Nat} {i : Nat} (h : a[i]? = some c) : a.toList[i]? = some c := by simpa using h
/-! ### names of the module, by kind -/
section
variable {X : Cx} {x : Str} {pos : Pos}
theorem pe_gr {a : Addr} (hg : Gl X x) (hm : X.mg x = some (.ref a)) (hd : (x == ("__debug__" : Str)) = false := by decide) : PE X (.Name x pos) (tC (.ref a)) := pe_glob hg hm rfl hd
theorem pe_gs {z : Str} {t : Tok} (hg : Gl X x) (hm : X.mg x = some (.str z t)) (hd : (x == ("__debug__" : Str)) = false := by decide) : PE X (.Name x pos) (tC (.str z)) := pe_glob hg hm ⟨_, rfl⟩ hd
theorem pe_gi {z : Int} {t : Tok} (hg : Gl X x) (hm : X.mg x = some (.int z t)) (hd : (x == ("__debug__" : Str)) = false := by decide) : PE X (.Name x pos) (tC (.int z)) := pe_glob hg hm ⟨_, rfl⟩ hd
theorem pe_tyB {T : String} (hg : Gl X x) (hm : X.mg x = none) (hv : bootBuiltins x = some (.type T)) (hn : x ≠ "__name__" := by decide) (hd : (x == ("__debug__" : Str)) = false := by decide) : PE X (.Name x pos) (tC (.ty T)) := pe_bltn hg hm hv rfl hn hd
end
/-! ### within a comprehension: K named -/
section
variable {X : Cx} {K : PySem.W.Frag}
theorem ix_listK (h : X.K = K) : IxR X (rIxL K) := h ▸ ix_list
theorem op_in_seqK (h : X.K = K) : OpR X (compareOp .In) (rIn K false) := h ▸ op_in_seq
theorem op_notIn_seqK (h : X.K = K) : OpR X (compareOp .NotIn) (rIn K true) := h ▸ op_notIn_seq
theorem call_lenK (h : X.K = K) : CallR X (.builtin "len") (fun xs H Q => ∃ x n, xs = [x] ∧ LenV K x H n ∧ Q (.int n) H) := h ▸ call_len
theorem sl_listK (h : X.K = K) : SlR X (rSlL K) := h ▸ sl_list
end
/-! ### C(..) in a try: what is raised is wished for at the slots -/
section
variable {X : Cx} {CX : CXT} {k : Nat} {f C : Addr} {fd : FuncData} {ps : List Str} {sp : Sp} {dvs : List V} {ds : List Value} {E : St → XK} {x m : Str} {p pos apos : Pos} {e o : Expr} {es : List Expr} {ta : TE} {t : TA}
def tMakeS (C : Addr) (sp : Sp) (dvs : List V) (E : St → XK) (t : TA) : TE := fun σ H Q => t σ H fun vs H1 => ∀ x dx, H1 x = none → H1 dx = none → dx ≠ x →
  sp (.ref x :: (vs ++ dvs)) (upd (upd H1 dx (.own x)) x (.ins C dx [])) (fun v H2 => v = .non ∧ Q (.ref x) H2) (E σ)
theorem run_makeS {pins : List (Addr × Obj)} {σ : St} {H : Hp} {s : Shared} {Q : VK} {us : List Value} {vs : List V} (M : Mk X.K C f) (F : FnOk X.prog X.w X.K X.mg X.base CX k f fd ps sp) (hr : Room (k + 1) X.A) (hb : Binds X.K fd ps ds) (hd : Vals dvs ds)
    (hx : PassesAt CX X σ (E σ)) (I : Inv X pins σ H s) (r : Vals vs us)
    (h : ∀ x dx, H x = none → H dx = none → dx ≠ x → sp (.ref x :: (vs ++ dvs)) (upd (upd H dx (.own x)) x (.ins C dx [])) (fun v H2 => v = .non ∧ Q (.ref x) H2) (E σ)) :
    wpAny (model X.prog X.w) X.A (call (.ref C) us) (EP X pins σ Q) X.xe s := by
  have hq := h (s.heap.objs.size + 1) s.heap.objs.size (I.hok.fresh (Nat.le_succ _)) (I.hok.fresh (Nat.le_refl _)) (Nat.ne_of_lt (Nat.lt_succ_self _))
  have I2 := Inv.made (C := C) I
  have r2 : Vals (V.ref (s.heap.objs.size + 1) :: (vs ++ dvs)) (Value.ref (s.heap.objs.size + 1) :: (us ++ ds)) := .cons rfl (r.append hd)
  have hl : (Value.ref (s.heap.objs.size + 1) :: us ++ ds).length = ps.length := by
    have e := r2.length
    rw [F.len _ _ _ _ hq] at e
    exact e.symm
  refine wpAny_call (make_map (f := f) I.kIn M.makes M.init (beq_iff_eq.mp M.fn) (codeAny_mono (F.run _ X.stack _ _ ⟨Value.ref (s.heap.objs.size + 1) :: us, []⟩ (Value.ref (s.heap.objs.size + 1) :: (us ++ ds)) _ _ (E σ) (hr.make C us [])
    (I2.env0.make C us []) (hb _ (Value.ref (s.heap.objs.size + 1) :: us) I2.kIn hl) r2 hq) fun r s' hq' => ?_))
  cases r with
  | error e => exact hx pins _ _ e s' I2 hq'
  | ok fl =>
    cases fl with
    | ret u =>
      obtain ⟨v, H', I3, rv, ev, q3⟩ := I2.after hq'
      subst ev
      exact ⟨rv, ⟨V.ref (s.heap.objs.size + 1), H', I3, rfl, q3⟩⟩
    | next => exact False.elim hq'
    | brk => exact False.elim hq'
    | cont => exact False.elim hq'
theorem pe_makeS (M : Mk X.K C f) (F : FnOk X.prog X.w X.K X.mg X.base CX k f fd ps sp) (hr : Room (k + 1) X.A) (hg : Gl X x) (hm : X.mg x = some (.ref C)) (hb : Binds X.K fd ps ds) (hd : Vals dvs ds) (hx : ∀ σ, PassesAt CX X σ (E σ))
    (ha : PA X (e :: es) t) (hdb : (x == ("__debug__" : Str)) = false := by decide) (he : starEach (e :: es) X.env = (false, eval e X.env) :: starEach es X.env := by rfl) (hpl : (backTo pos (starEach es X.env)).any (·.1) = false := by rfl) :
    PE X (.Call (.Name x p) (e :: es) [] pos) (tMakeS C sp dvs E t) := by
  refine ⟨fun pins s σ H Q I h => ?_⟩
  refine wpAny_Call_Name_kw (ld_glob I hg hm ?_ hdb)
  refine PySem.W.callWith_K (h₀ := X.base) I.ok.mod.kin M.kp (thn (ha.run pos pins s σ H _ I h) fun us s1 ⟨vs, H1, I1, r, q⟩ => ⟨I1.kIn, ?_⟩) he hpl
  exact run_makeS M F hr hb hd (hx σ) I1 r q
end
/-! ### the draws: a list of what is left of the great cells, and a number that is stirred -/
structure DealAt (H : Hp) (d l : Addr) : Prop where
  ex : ∃ (cs : List Int) (b : Int), H d = some (.lst [.ref l, .int b]) ∧ H l = some (.lst (cs.map V.int)) ∧ (∀ c ∈ cs, 0 ≤ c) ∧ cs.length ≤ 63 ∧ 0 ≤ b ∧ b < 2147483647
/-- all but the deal stands as before -/
def Keep (d l : Addr) (H H' : Hp) : Prop := ∀ p o, H p = some o → p ≠ d → p ≠ l → H' p = some o
theorem Keep.refl (d l : Addr) (H : Hp) : Keep d l H H := fun _ _ e _ _ => e
theorem Keep.trans {d l : Addr} {H H1 H2 : Hp} (a : Keep d l H H1) (b : Keep d l H1 H2) : Keep d l H H2 := fun p o e h1 h2 => b p o (a p o e h1 h2) h1 h2
theorem Keep.same {d l : Addr} {H H' : Hp} (s : Same H H') : Keep d l H H' := fun p o e _ _ => s p o e
theorem DealAt.same {d l : Addr} {H H' : Hp} (D : DealAt H d l) (s : Same H H') : DealAt H' d l := by
  obtain ⟨cs, b, h1, h2, h3⟩ := D.ex
  exact ⟨⟨cs, b, s _ _ h1, s _ _ h2, h3⟩⟩
theorem DealAt.ne {d l : Addr} {H : Hp} (D : DealAt H d l) : d ≠ l := by
  obtain ⟨cs, b, h1, h2, _⟩ := D.ex
  refine ne_of h1 h2 fun e => ?_
  cases cs with
  | nil => cases e
  | cons c cs => cases e
theorem DealAt.nd {d l p : Addr} {H : Hp} (D : DealAt H d l) (h : H p = none) : p ≠ d := by
  obtain ⟨cs, b, h1, h2, _⟩ := D.ex
  exact (ne_of_none h1 h).symm
theorem DealAt.nl {d l p : Addr} {H : Hp} (D : DealAt H d l) (h : H p = none) : p ≠ l := by
  obtain ⟨cs, b, h1, h2, _⟩ := D.ex
  exact (ne_of_none h2 h).symm
/-- no tracked address is lost -/
theorem Keep.free {d l p : Addr} {H H' : Hp} (k : Keep d l H H') (D : DealAt H d l) (D' : DealAt H' d l) (h : H' p = none) : H p = none := by
  cases q : H p with
  | none => rfl
  | some o =>
    have e1 : p ≠ d := D'.nd h
    have e2 : p ≠ l := D'.nl h
    rw [k p o q e1 e2] at h
    cases h
end L2.Wk
namespace L2.Wk
open PySem PySem.Spec PyProof.Rows
def top (i : Nat) : Stmt := PySem.Challenge.pw_wakesafe_k21_events_and_deeds_told_right.main.body.getD i (.Pass ⟨0, 0, 0, 0⟩)
abbrev s_is_sequence : Stmt := top 12
abbrev N_is_sequence : List Str := ["value"]
theorem sc_is_sequence : FnScope N_is_sequence ["value"] (defScope s_is_sequence) := ⟨rfl, rfl, rfl, by decide +kernel, rfl, by decide +kernel, by decide +kernel⟩
abbrev s_is_name : Stmt := top 13
abbrev N_is_name : List Str := ["value", "letter"]
theorem sc_is_name : FnScope N_is_name ["value"] (defScope s_is_name) := ⟨rfl, rfl, rfl, by decide +kernel, rfl, by decide +kernel, by decide +kernel⟩
abbrev s_is_event : Stmt := top 14
abbrev N_is_event : List Str := ["value"]
theorem sc_is_event : FnScope N_is_event ["value"] (defScope s_is_event) := ⟨rfl, rfl, rfl, by decide +kernel, rfl, by decide +kernel, by decide +kernel⟩
abbrev s_is_deed : Stmt := top 15
abbrev N_is_deed : List Str := ["value"]
theorem sc_is_deed : FnScope N_is_deed ["value"] (defScope s_is_deed) := ⟨rfl, rfl, rfl, by decide +kernel, rfl, by decide +kernel, by decide +kernel⟩
abbrev s_is_phrase : Stmt := top 16
abbrev N_is_phrase : List Str := ["text", "alone", "named", "word", "space", "name"]
theorem sc_is_phrase : FnScope N_is_phrase ["text", "alone", "named"] (defScope s_is_phrase) := ⟨rfl, rfl, rfl, by decide +kernel, rfl, by decide +kernel, by decide +kernel⟩
abbrev s_may_do : Stmt := top 20
abbrev N_may_do : List Str := ["event", "deed"]
theorem sc_may_do : FnScope N_may_do ["event", "deed"] (defScope s_may_do) := ⟨rfl, rfl, rfl, by decide +kernel, rfl, by decide +kernel, by decide +kernel⟩
/-! ### the mirror -/
def txts (l : List String) : List Str := l.map Str.ofString
def resV : List Str := txts ["any", "none", "ask", "idle", "tick", "dip", "kept", "go", "hold", "note"]
def lettersS : Str := "abcdefghijklmnopqrstuvwxyz"
def plainE : List Str := txts ["ask", "idle", "tick"]
def areaE : List Str := txts ["dip", "spill"]
def plainD : List Str := txts ["hold", "go", "note", "answer", "forget"]
def fenceD : List Str := txts ["fence", "open"]
def areaD : List Str := txts ["save", "load", "cut", "power", "reset"]
def isName (z : Str) : Bool := !(inV (.str z) (resV.map V.str)) && (decide ((1 : Int) ≤ z.length) && decide ((z.length : Int) ≤ 4) && (z.cps.toList.map fun c => decide (c ∈ lettersS.cps.toList)).all id)
def isPhrase (z : Str) (as bs : List Str) : Bool :=
  if (((Txt.partition z " ").2.1.length : Int) != 0) = true then inV (.str (Txt.partition z " ").1) (bs.map V.str) && isName (Txt.partition z " ").2.2 else inV (.str (Txt.partition z " ").1) (as.map V.str)
def isEvent (z : Str) : Bool := isPhrase z plainE areaE
def isDeed (z : Str) : Bool := isPhrase z plainD (fenceD ++ areaD)
def mayDo (ev z : Str) : Bool := isDeed z && (!decide (V.str z = V.str "note") || decide (V.str ev = V.str "ask"))
theorem flat_txts (l : List Str) : (l.map V.str).all flatV = true := by
  induction l with
  | nil => rfl
  | cons a l ih =>
    rw [List.map_cons, List.all_cons, ih]
    rfl
theorem len1000 {n : Nat} (h : n ≤ 1000) : n ≤ sizeLine := Nat.le_of_lt (small1000 h)
/-! ### the parts of a text are no longer than the text -/
theorem par_len {S : List Nat} : ∀ (l acc : List Nat) (a b : List Nat), TL.par S acc l = some (a, b) → a.length ≤ acc.length + l.length ∧ b.length ≤ l.length
  | [], _, _, _, h => by cases h
  | c :: r, acc, a, b, h => by
    unfold TL.par at h
    split at h
    · cases h
      rw [List.length_drop]
      omega
    · have q := par_len r (acc ++ [c]) a b h
      rw [List.length_append] at q
      simp only [List.length_cons, List.length_nil] at q ⊢
      omega
theorem len_mk (l : List Nat) : (⟨l.toArray⟩ : Str).length = l.length := by
  show l.toArray.size = l.length
  simp
theorem part_len (z : Str) : (Txt.partition z " ").1.length ≤ z.length ∧ (Txt.partition z " ").2.1.length ≤ 1 ∧ (Txt.partition z " ").2.2.length ≤ z.length := by
  rw [TL.partition_par z " " (by decide +kernel)]
  cases e : TL.par (TL.tl " ") [] (TL.tl z) with
  | none => exact ⟨Nat.le_refl _, by show (Str.empty).length ≤ 1; decide +kernel, Nat.zero_le _⟩
  | some q =>
    obtain ⟨a, b⟩ := q
    have h := par_len _ _ _ _ e
    have hz : (TL.tl z).length = z.length := TL.len_tl z
    rw [List.length_nil, Nat.zero_add, hz] at h
    exact ⟨by show (⟨a.toArray⟩ : Str).length ≤ z.length; rw [len_mk]; exact h.1, by show (Str.ofString " ").length ≤ 1; decide +kernel, by show (⟨b.toArray⟩ : Str).length ≤ z.length; rw [len_mk]; exact h.2⟩
/-! ### the promises -/
def spTxt (f : Str → Bool) : Sp := fun vs H Q _ => ∃ z : Str, vs = [.str z] ∧ z.length ≤ 1000 ∧ ∀ H', Same H H' → Q (.bl (f z)) H'
def spPh (K : PySem.W.Frag) : Sp := fun vs H Q _ => ∃ (z : Str) (a b : Addr) (as bs : List Str), vs = [.str z, .ref a, .ref b] ∧ z.length ≤ 1000 ∧ SqT K H a (as.map V.str) ∧ SqT K H b (bs.map V.str) ∧ ∀ H', Same H H' → Q (.bl (isPhrase z as bs)) H'
def spSeqL : Sp := fun vs H Q _ => ∃ (p : Addr) (xs : List V), vs = [.ref p] ∧ H p = some (.lst xs) ∧ ∀ H', Same H H' → Q (.bl true) H'
def spMay : Sp := fun vs H Q _ => ∃ ev z : Str, vs = [.str ev, .str z] ∧ z.length ≤ 1000 ∧ ∀ H', Same H H' → Q (.bl (mayDo ev z)) H'
/-! ### what the top has written of words -/
structure Ws where
  RESERVED : Addr
  PLAIN_EVENTS : Addr
  AREA_EVENTS : Addr
  PLAIN_DEEDS : Addr
  FENCE_DEEDS : Addr
  AREA_DEEDS : Addr
  tLONGEST : Tok
  tLETTERS : Tok
  is_sequence : Addr
  is_name : Addr
  is_event : Addr
  is_deed : Addr
  is_phrase : Addr
  may_do : Addr
structure TxtW (K : PySem.W.Frag) (mg : Str → Option Value) (a : Ws) : Prop where
  g_RESERVED : mg "RESERVED" = some (.ref a.RESERVED)
  s_RESERVED : ∀ H, SqT K H a.RESERVED (resV.map V.str)
  g_PLAIN_EVENTS : mg "PLAIN_EVENTS" = some (.ref a.PLAIN_EVENTS)
  s_PLAIN_EVENTS : ∀ H, SqT K H a.PLAIN_EVENTS (plainE.map V.str)
  g_AREA_EVENTS : mg "AREA_EVENTS" = some (.ref a.AREA_EVENTS)
  s_AREA_EVENTS : ∀ H, SqT K H a.AREA_EVENTS (areaE.map V.str)
  g_PLAIN_DEEDS : mg "PLAIN_DEEDS" = some (.ref a.PLAIN_DEEDS)
  s_PLAIN_DEEDS : ∀ H, SqT K H a.PLAIN_DEEDS (plainD.map V.str)
  g_FENCE_DEEDS : mg "FENCE_DEEDS" = some (.ref a.FENCE_DEEDS)
  s_FENCE_DEEDS : ∀ H, SqT K H a.FENCE_DEEDS (fenceD.map V.str)
  g_AREA_DEEDS : mg "AREA_DEEDS" = some (.ref a.AREA_DEEDS)
  s_AREA_DEEDS : ∀ H, SqT K H a.AREA_DEEDS (areaD.map V.str)
  g_LONGEST : mg "LONGEST" = some (.int 4 a.tLONGEST)
  g_LETTERS : mg "LETTERS" = some (.str lettersS a.tLETTERS)
  b_isinstance : mg "isinstance" = none
  b_str : mg "str" = none
  b_list : mg "list" = none
  b_tuple : mg "tuple" = none
  b_len : mg "len" = none
  b_all : mg "all" = none
  g_is_sequence : mg "is_sequence" = some (.ref a.is_sequence)
  k_is_sequence : PySem.W.keepIn K (.ref a.is_sequence) = true
  g_is_name : mg "is_name" = some (.ref a.is_name)
  k_is_name : PySem.W.keepIn K (.ref a.is_name) = true
  g_is_event : mg "is_event" = some (.ref a.is_event)
  k_is_event : PySem.W.keepIn K (.ref a.is_event) = true
  g_is_deed : mg "is_deed" = some (.ref a.is_deed)
  k_is_deed : PySem.W.keepIn K (.ref a.is_deed) = true
  g__is_phrase : mg "_is_phrase" = some (.ref a.is_phrase)
  k__is_phrase : PySem.W.keepIn K (.ref a.is_phrase) = true
  g__may_do : mg "_may_do" = some (.ref a.may_do)
  k__may_do : PySem.W.keepIn K (.ref a.may_do) = true
section
variable {P : Program} {w : World} {K : PySem.W.Frag} {mg : Str → Option Value} {base : Heap} {a : Ws} {f : Addr} {fd : FuncData}
theorem ok_is_sequence (F : Fun K "is_sequence" "is_sequence" s_is_sequence f fd) (T : TxtW K mg a) : FnOk P w K mg base CX0 1 f fd ["value"] spSeqL := by
  refine F.ok sc_is_sequence (fun vs H Q E h => ?_) (fun cdv A outer s H vs Q E hr h => ?_)
  · obtain ⟨z, _, rfl, _⟩ := h
    rfl
  · obtain ⟨p, xs, rfl, hp, k⟩ := h
    refine ⟨_, (pss_one (ps_ret (pe_callB call_isiT (by rfl) T.b_isinstance (by decide +kernel) (pa_cons (pv 0) (pa_cons (pe_tup (pa_cons (pe_tyB (T := "list") (by rfl) T.b_list (by decide +kernel)) (pa_cons (pe_tyB (T := "tuple") (by rfl) T.b_tuple (by decide +kernel)) pa_nil))) pa_nil))))), ?_⟩
    refine ⟨_, rfl, (by show 2 ≤ sizeLine; decide), fun tp ht => ?_⟩
    refine ⟨_, tp, _, _, [.type "list", .type "tuple"], true, rfl, upd_same, .cons (.ty _) (.cons (.ty _) .nil), .base (.lst (Same.upd_new ht _ _ hp)), kitAny_cons (b := true) (kit_ty (by decide +kernel)) (fun h => by cases h) (fun _ => rfl), ?_⟩
    exact k _ (Same.upd_new ht)
theorem ok_is_name (F : Fun K "is_name" "is_name" s_is_name f fd) (T : TxtW K mg a) : FnOk P w K mg base CX0 1 f fd ["value"] (spTxt isName) := by
  refine F.ok sc_is_name (fun vs H Q E h => ?_) (fun cdv A outer s H vs Q E hr h => ?_)
  · obtain ⟨z, rfl, _⟩ := h
    rfl
  · obtain ⟨z, rfl, hz, k⟩ := h
    refine ⟨_, (pss_cons (ps_if (PW.pt (pw_or (pt_not (pt_val (pe_callB call_isi (by rfl) T.b_isinstance (by decide +kernel) (pa_cons (pv 0) (pa_cons (pe_tyB (T := "str") (by rfl) T.b_str (by decide +kernel)) pa_nil))))) (pw_or1 (pt_cmpR op_in_seq (pv 0) (pe_gr rfl T.g_RESERVED) (by rfl))))) (pss_one (ps_ret pe_bl)) pss_nil)
    (pss_one (ps_ret (pe_and (pe_chain op_le op_le pe_int (pe_callB call_len (by rfl) T.b_len PySem.boot_len (pa_cons (pv 0) pa_nil)) (pe_gi rfl T.g_LONGEST)) (pe_one (pe_callB (cr_all rfl) (by rfl) T.b_all (by decide +kernel) (pa_cons (pe_lc (own := [("letter", 1)]) (g := gName 1) (tt := tYes) rfl sc_is_name.nd (pi_str (pv 0)) (blkOk_by (N := N_is_name) (sc := defScope s_is_name) (by decide +kernel)) (fun _ _ _ _ _ => (pg_name (i := 1) sc_is_name.nd rfl (Or.inl rfl))) (fun _ _ _ _ _ => pts_nil) (fun _ _ _ _ _ => (pe_cmpR op_in_sign (pv 1) (pe_gs rfl T.g_LETTERS) (by rfl)))) pa_nil))))))), ?_⟩
    refine ⟨_, rfl, _, _, _, _, true, rfl, .ty "str", .base (.str z), kit_ty (by decide +kernel), true, rfl, iteF ?_⟩
    refine ⟨_, rfl, _, _, rfl, .inr (T.s_RESERVED _), rfl, flat_txts _, _, rfl, ?_⟩
    show if inV (V.str z) (resV.map V.str) = true then _ else _
    cases e1 : inV (V.str z) (resV.map V.str) with
    | true =>
      refine iteT ?_
      have : isName z = false := by unfold isName; rw [e1]; rfl
      rw [← this]
      exact k _ (Same.refl _)
    | false =>
      refine iteF ?_
      refine ⟨_, rfl, _, _, rfl, ⟨len1000 hz, rfl⟩, _, _, rfl, rfl, _, rfl, ?_⟩
      by_cases h1 : (1 : Int) ≤ z.length
      · rw [decide_eq_true h1]
        refine iteT ?_
        refine ⟨_, _, rfl, rfl, _, rfl, ?_⟩
        by_cases h2 : (z.length : Int) ≤ 4
        · rw [decide_eq_true h2]
          refine iteT ?_
          refine ⟨_, rfl, z, rfl, fun D hD => ?_⟩
          refine lc_str (fun i H' => Same H H' ∧ H' D = some (.lst ((z.cps.toList.take i).map fun c => V.bl (decide (c ∈ lettersS.cps.toList))))) ⟨Same.upd_new hD, upd_same⟩ ?_ ?_
          · rintro i c H' hc ⟨s1, d1⟩
            refine ⟨rfl, ⟨_, rfl, _, _, rfl, rfl, _, d1, ?_, ?_, ?_⟩⟩
            · rw [List.length_map, List.length_take]
              exact Nat.lt_of_le_of_lt (Nat.min_le_left _ _) (Nat.lt_of_lt_of_le (by have := (Array.getElem?_eq_some_iff.mp hc).1; have e : z.length = z.cps.size := rfl; omega) (len1000 (Nat.le_refl 1000)))
            · intro b o e
              have := s1 b o e
              rw [upd_ne (ne_of_none e hD)]
              exact this
            · rw [take_succ_map _ (arr_list hc)]
              exact upd_same
          · rintro H' ⟨s1, d1⟩
            refine ⟨D, z.cps.toList.map fun c => decide (c ∈ lettersS.cps.toList), rfl, .inl (.inl ?_), ?_⟩
            · rw [d1, List.map_map]
              have e : z.cps.toList.take z.cps.size = z.cps.toList := by
                rw [List.take_of_length_le (by simp)]
              rw [e]
              rfl
            · have : isName z = (z.cps.toList.map fun c => decide (c ∈ lettersS.cps.toList)).all id := by
                unfold isName
                rw [e1, decide_eq_true h1, decide_eq_true h2]
                simp only [Bool.not_false, Bool.true_and]
              rw [← this]
              exact k _ s1
        · rw [decide_eq_false h2]
          refine iteF ?_
          have : isName z = false := by unfold isName; rw [decide_eq_false h2]; simp
          rw [← this]
          exact k _ (Same.refl _)
      · rw [decide_eq_false h1]
        refine iteF ⟨_, rfl, iteF ?_⟩
        have : isName z = false := by unfold isName; rw [decide_eq_false h1]; simp
        rw [← this]
        exact k _ (Same.refl _)
theorem ok_is_phrase {fdn : FuncData} (F : Fun K "_is_phrase" "_is_phrase" s_is_phrase f fd) (T : TxtW K mg a) (G_is_name : FnOk P w K mg base CX0 1 a.is_name fdn ["value"] (spTxt isName)) (b_is_name : Binds K fdn ["value"] []) :
    FnOk P w K mg base CX0 2 f fd ["text", "alone", "named"] (spPh K) := by
  refine F.ok sc_is_phrase (fun vs H Q E h => ?_) (fun cdv A outer s H vs Q E hr h => ?_)
  · obtain ⟨z, _, _, _, _, rfl, _⟩ := h
    rfl
  · obtain ⟨z, a1, b1, as, bs, rfl, hz, hA, hB, k⟩ := h
    refine ⟨_, (pss_cons (ps_asg (pe_partition (pv 0) pe_str) (pg_tup rfl (pgs_cons (pg_name (i := 3) sc_is_phrase.nd rfl (Or.inl rfl)) (pgs_cons (pg_name (i := 4) sc_is_phrase.nd rfl (Or.inl rfl)) (pgs_cons (pg_name (i := 5) sc_is_phrase.nd rfl (Or.inl rfl)) pgs_nil)))))
    (pss_cons (ps_if (pt_truth (pv 4) (by intro _; rfl)) (pss_one (ps_ret (pe_and (pe_cmpR op_in_seq (pv 3) (pv 2) (by rfl)) (pe_one (pe_call G_is_name (hr.mono (by decide)) rfl T.g_is_name T.k_is_name b_is_name .nil pass0 (pa_cons (pv 5) pa_nil)))))) pss_nil)
    (pss_one (ps_ret (pe_cmpR op_in_seq (pv 3) (pv 1) (by rfl)))))), ?_⟩
    refine ⟨_, rfl, ⟨_, rfl⟩, _, _, rfl, rfl, rfl, len1000 hz, fun p hp => ?_⟩
    refine ⟨p, _, rfl, .inl (.inl upd_same), rfl, ?_⟩
    have s0 : Same H (upd H p (.tup [.str (Txt.partition z " ").1, .str (Txt.partition z " ").2.1, .str (Txt.partition z " ").2.2])) := Same.upd_new hp
    generalize upd H p (.tup [.str (Txt.partition z " ").1, .str (Txt.partition z " ").2.1, .str (Txt.partition z " ").2.2]) = H1 at s0
    have lens := part_len z
    refine ⟨_, _, rfl, _, _, rfl, _, _, rfl, rfl, ?_⟩
    obtain ⟨l1, l2, l3⟩ := lens
    refine ⟨_, rfl, _, ⟨Nat.le_trans l2 (by decide), rfl⟩, ?_⟩
    unfold isPhrase at k
    by_cases c : (((Txt.partition z " ").2.1.length : Int) != 0) = true
    · rw [if_pos c] at k ⊢
      refine ⟨_, rfl, _, rfl, _, _, rfl, .inr (Same.sqT s0 hB), rfl, flat_txts _, _, rfl, ?_⟩
      show if inV (V.str (Txt.partition z " ").1) (bs.map V.str) = true then _ else _
      cases e1 : inV (V.str (Txt.partition z " ").1) (bs.map V.str) with
      | true =>
        rw [e1] at k
        refine iteT ⟨_, rfl, _, rfl, Nat.le_trans l3 hz, fun H2 s2 => ?_⟩
        exact k _ (s0.trans s2)
      | false =>
        rw [e1] at k
        refine iteF ?_
        exact k _ s0
    · rw [if_neg c] at k ⊢
      exact ⟨_, rfl, _, rfl, _, _, rfl, .inr (Same.sqT s0 hA), rfl, flat_txts _, k _ s0⟩
theorem ok_is_event {fdp : FuncData} (F : Fun K "is_event" "is_event" s_is_event f fd) (T : TxtW K mg a) (G__is_phrase : FnOk P w K mg base CX0 2 a.is_phrase fdp ["text", "alone", "named"] (spPh K)) (b__is_phrase : Binds K fdp ["text", "alone", "named"] []) :
    FnOk P w K mg base CX0 3 f fd ["value"] (spTxt isEvent) := by
  refine F.ok sc_is_event (fun vs H Q E h => ?_) (fun cdv A outer s H vs Q E hr h => ?_)
  · obtain ⟨z, rfl, _⟩ := h
    rfl
  · obtain ⟨z, rfl, hz, k⟩ := h
    refine ⟨_, (pss_one (ps_ret (pe_and (pe_callB call_isi (by rfl) T.b_isinstance (by decide +kernel) (pa_cons (pv 0) (pa_cons (pe_tyB (T := "str") (by rfl) T.b_str (by decide +kernel)) pa_nil))) (pe_one (pe_call G__is_phrase (hr.mono (by decide)) rfl T.g__is_phrase T.k__is_phrase b__is_phrase .nil pass0 (pa_cons (pv 0) (pa_cons (pe_gr rfl T.g_PLAIN_EVENTS) (pa_cons (pe_gr rfl T.g_AREA_EVENTS) pa_nil)))))))), ?_⟩
    refine ⟨_, rfl, _, _, _, _, true, rfl, .ty "str", .base (.str z), kit_ty (by decide +kernel), true, rfl, iteT ?_⟩
    exact ⟨_, rfl, _, _, _, _, _, rfl, hz, T.s_PLAIN_EVENTS _, T.s_AREA_EVENTS _, k⟩
theorem ok_is_deed {fdp : FuncData} (F : Fun K "is_deed" "is_deed" s_is_deed f fd) (T : TxtW K mg a) (G__is_phrase : FnOk P w K mg base CX0 2 a.is_phrase fdp ["text", "alone", "named"] (spPh K)) (b__is_phrase : Binds K fdp ["text", "alone", "named"] []) :
    FnOk P w K mg base CX0 3 f fd ["value"] (spTxt isDeed) := by
  refine F.ok sc_is_deed (fun vs H Q E h => ?_) (fun cdv A outer s H vs Q E hr h => ?_)
  · obtain ⟨z, rfl, _⟩ := h
    rfl
  · obtain ⟨z, rfl, hz, k⟩ := h
    refine ⟨_, (pss_one (ps_ret (pe_and (pe_callB call_isi (by rfl) T.b_isinstance (by decide +kernel) (pa_cons (pv 0) (pa_cons (pe_tyB (T := "str") (by rfl) T.b_str (by decide +kernel)) pa_nil))) (pe_one (pe_call G__is_phrase (hr.mono (by decide)) rfl T.g__is_phrase T.k__is_phrase b__is_phrase .nil pass0 (pa_cons (pv 0) (pa_cons (pe_gr rfl T.g_PLAIN_DEEDS) (pa_cons (pe_op (op_catA) (pe_gr rfl T.g_FENCE_DEEDS) (pe_gr rfl T.g_AREA_DEEDS)) pa_nil)))))))), ?_⟩
    refine ⟨_, rfl, _, _, _, _, true, rfl, .ty "str", .base (.str z), kit_ty (by decide +kernel), true, rfl, iteT ?_⟩
    refine ⟨_, rfl, _, _, _, _, rfl, rfl, T.s_FENCE_DEEDS _, T.s_AREA_DEEDS _, (by decide +kernel), (fun e => by cases e), (fun _ e => by cases e), (fun _ _ p hp => ?_)⟩
    refine ⟨_, _, _, _, _, rfl, hz, Same.sqT (Same.upd_new hp) (T.s_PLAIN_DEEDS H), .inl (.inl (Eq.trans upd_same (by rw [List.map_append]))), fun H2 s2 => k _ (Same.of_upd s2 hp)⟩
theorem ok_may_do {fdd : FuncData} (F : Fun K "_may_do" "_may_do" s_may_do f fd) (T : TxtW K mg a) (G_is_deed : FnOk P w K mg base CX0 3 a.is_deed fdd ["value"] (spTxt isDeed)) (b_is_deed : Binds K fdd ["value"] []) :
    FnOk P w K mg base CX0 4 f fd ["event", "deed"] spMay := by
  refine F.ok sc_may_do (fun vs H Q E h => ?_) (fun cdv A outer s H vs Q E hr h => ?_)
  · obtain ⟨ev, z, rfl, _⟩ := h
    rfl
  · obtain ⟨ev, z, rfl, hz, k⟩ := h
    refine ⟨_, (pss_one (ps_ret (pe_and (pe_call G_is_deed (hr.mono (by decide)) rfl T.g_is_deed T.k_is_deed b_is_deed .nil pass0 (pa_cons (pv 1) pa_nil)) (pe_one (pe_or (pe_cmpR op_ne (pv 1) pe_str (nomark _)) (pe_one (pe_cmpR op_eq (pv 0) pe_str (nomark _)))))))), ?_⟩
    refine ⟨_, rfl, _, rfl, hz, fun H1 s1 => ⟨_, rfl, ?_⟩⟩
    unfold mayDo at k
    cases e1 : isDeed z with
    | false =>
      rw [e1] at k
      exact iteF (k _ s1)
    | true =>
      rw [e1, Bool.true_and] at k
      refine iteT ⟨_, rfl, rfl, _, rfl, ?_⟩
      cases e2 : (!decide (V.str z = V.str "note")) with
      | true =>
        rw [e2, Bool.true_or] at k
        exact iteT (k _ s1)
      | false =>
        rw [e2, Bool.false_or] at k
        exact iteF ⟨_, rfl, rfl, k _ s1⟩
end
end L2.Wk
namespace PySem
namespace LowX_InvalidMachine
open PySem.W PySem.Calls PyProof.Rows PySem.HandSPX
/-! ### the text of __init__ -/
def iA (p1 p2 : Pos) : Arguments := { posonlyargs := [], args := [{ arg := "self", annotation := none, pos := p1 }, { arg := "word", annotation := none, pos := p2 }], vararg := none, kwonlyargs := [], kw_defaults := [], kwarg := none, defaults := [] }
def iB (q1 q2 q3 q4 : Pos) : List Stmt := [.Assign [.Attribute (.Name "self" q1) "word" q2] (.Name "word" q3) q4]
def iS : Scope := { kind := .function, names := [(PySem.Str.ofString "self", .local), (PySem.Str.ofString "word", .local)], isGenerator := false, isCoroutine := false, more := [] }
/-- what the written part says of Low, at C, and of its __init__, at fI -/
structure LowTxt_InvalidMachine (K : Frag) (mg : Str → Option Value) (C fI : Addr) : Prop where
  gC : mg "InvalidMachine" = some (.ref C)
  cls : ∃ nm q N bs bm sn sub ab col dd k0 k1 k2 k3 k5, K.lookup C = some (excClassObj nm q C N bs bm true sn sub ab col dd k0 k1 k2 k3 k5 "ValueError.__new__") ∧ refsVE bm = true
  sa : findIn K (.ref C) "__setattr__" = some (some (.builtin "object.__setattr__"))
  ga : findIn K (.ref C) "__getattribute__" = some (some (.builtin "BaseException.__getattribute__"))
  gg : findIn K (.ref C) "__getattr__" = some none
  noN : findIn K (.ref C) "word" = some none
  iC : findIn K (.ref C) "__init__" = some (some (.ref fI))
  tC : typeIn K (.ref fI) = some (.type "function")
  kC : keepIn K (.ref C) = true
  exC : subIn K (.ref C) (.type "BaseException") = some true
  tyC : typeIn K (.ref C) = some (.type "type")
  hdC : hasDictIn K C = true
  te : exmOne K (.ref C) (.ref C) = some true
  fn : ∃ (oc : Value) (od : Option Addr) (doc pm : Value) (an : Option Addr) (cdv ct : Value) (osl : Array (Option Value)) (p1 p2 q1 q2 q3 q4 : Pos),
    K.lookup fI = some ⟨oc, od, .func (fnOf "__init__" "InvalidMachine.__init__" (iA p1 p2) (iB q1 q2 q3 q4) iS .none .none doc pm an cdv ct), osl⟩ ∧ codeIn K cdv "InvalidMachine.__init__" = true
theorem one_size_InvalidMachine (v : Value) : [v].length ≤ sizeLine := by
  rw [sizeLine_eq]
  exact (by decide : 1 ≤ 16777216)
theorem kept_but_InvalidMachine {K : Frag} {h h' : Heap} {x : Addr} (X : K.In h) (hx : K.lookup x = none) (k : ∀ b o, b ≠ x → h.get? b = some o → h'.get? b = some o) : K.In h' := fun a o e =>
  k a o (fun z => by rw [z, hx] at e; cases e) (X a o e)
theorem ldC_InvalidMachine {M : Model} {s : Shared} {name : Str} {scope : Scope} {L a : Addr} {cd : Value} {m : Str → Option Value} {x : Str} {pos : Pos} {v : Value} {Q : Value → Shared → Prop} {A : Around} {E : Value → Shared → Prop} (hn : s.heap.Ns L m) (hv : m x = some v) (h : Q v s)
    (hk : scope.kind = .function := by rfl) (hl : (envOfC name scope L a cd).kindOf x = some .local := by rfl) (hd : (x == ("__debug__" : Str)) = false := by decide) :
    wpAny M A (eval (.Name x pos) (envOfC name scope L a cd)) Q E s := wpAny_Name (wpAny_loadName_local hk hl hn hv h) hd
/-- what __init__ leaves of a fresh exception at x -/
structure InitEnd_InvalidMachine (h h' : Heap) (x C dx t1 : Addr) (v : Value) : Prop where
  keep : ∀ b o, b ≠ x → h.get? b = some o → h'.get? b = some o
  obj : h'.get? x = some { cls := .ref C, dict := some dx, data := .fields #[.ref t1, .none, .none, .none, .bool false, .none] }
  dbig : h.objs.size ≤ dx
  dne : dx ≠ x
  ns : h'.Ns1 dx (fun y => if y = "word" then some v else none)
structure OwnMade_InvalidMachine (h h' : Heap) (e C d : Addr) (v : Value) : Prop where
  keep : ∀ b o, h.get? b = some o → h'.get? b = some o
  new : h.objs.size ≤ e
  obj : ∃ oe vs, h'.get? e = some oe ∧ oe.cls = .ref C ∧ oe.dict = some d ∧ oe.data = .fields vs ∧ vs[1]? = some .none
  dbig : h.objs.size ≤ d
  dne : d ≠ e
  ns : h'.Ns1 d (fun y => if y = "word" then some v else none)
section
variable {prog : Program} {w : World} {A : Around} {E : Value → Shared → Prop} {R : Result → Shared → Prop} {s : Shared} {K : Frag} {mg : Str → Option Value} {C fI : Addr}
theorem low_init_InvalidMachine (T : LowTxt_InvalidMachine K mg C fI) {x t0 : Addr} {v : Value} (X : K.In s.heap) (hlim : s.heap.NoLimit) (hx : s.heap.get? x = some (excO C t0)) (hnx : K.lookup x = none) (hroom : A.depth < recursionLimit)
    (hq : ∀ h' tk dx, InitEnd_InvalidMachine s.heap h' x C dx t0 v → R (.ok (.ret .none)) { s with heap := h', toks := tk }) :
    codeAny (model prog w) A (.call (.ref fI) ⟨[.ref x, v], []⟩) R s := by
  obtain ⟨oc, od, doc, pm, an, cdv, ct, osl, p1, p2, q1, q2, q3, q4, ho, hcd⟩ := T.fn
  obtain ⟨nm, q, N, bs, bm, sn, sub, ab, col, dd, k0, k1, k2, k3, k5, hC, hbm⟩ := T.cls
  have hcl : clsIn K C = some { name := nm, bases := bs, mro := .ref C :: bm, ns := N, qualname := q, hasDict := true, slotNames := sn, subclasses := sub, abstract := ab, collection := col, hasDel := false } := by unfold clsIn; rw [hC] <;> rfl
  refine Att.call_fn (binds := [("self", .ref x), ("word", v)]) X hlim ho hcd hroom (BindsTo.of_eq (by first | rfl | with_unfolding_all rfl)) (by first | rfl | decide | with_unfolding_all rfl) (fun s₁ IC => ?_) rfl rfl rfl
  obtain ⟨h₁, tk₁, rfl⟩ := IC.toInCall.same
  have k : ∀ b o, s.heap.get? b = some o → h₁.get? b = some o := IC.toInCall.keep
  have hn := IC.toInCall.ns
  have hxL : s.heap.objs.size ≠ x := Nat.ne_of_gt (Heap.lt_size hx)
  have X₁ : K.In h₁ := X.keeps k
  have hx₁ := k _ _ hx
  -- self.by = by
  show wpAny _ _ (execs _ _) _ _ _
  refine wpAny_execs_cons (plainObj_wpAny_Assign_Attribute ?_)
  refine ldC_InvalidMachine (v := v) hn (by first | rfl | with_unfolding_all rfl | kernel_rfl) (ldC_InvalidMachine (v := .ref x) hn (by first | rfl | with_unfolding_all rfl | kernel_rfl) ?_)
  refine set_plain X₁ (ox := excO C t0) (od := none) ⟨hx₁, rfl, rfl, trivial⟩ T.sa ?_
  refine exc_osa X₁ hx₁ hcl (show refsVE (.ref C :: bm) = true from hbm) rfl T.noN (fun h₃ tk₃ dx k₃ dn dne hx₃ hn₃ => ?_)
  show wpAny _ _ (execs _ _) _ _ _
  have z : s.heap.objs.size < h₁.objs.size := hn.lt
  exact wpAny_execs_nil (hq h₃ tk₃ dx ⟨fun b o hb e => k₃ b o hb (k b o e), hx₃, Nat.le_of_lt (Nat.lt_of_lt_of_le z dn), dne, hn₃⟩)
theorem low_made_InvalidMachine (T : LowTxt_InvalidMachine K mg C fI) {v : Value} (X : K.In s.heap) (hlim : s.heap.NoLimit) (hroom : A.depth + 1 < recursionLimit)
    (hq : ∀ h' tk e d, OwnMade_InvalidMachine s.heap h' e C d v → R (.ok (.ret (.ref e))) { s with heap := h', toks := tk }) :
    codeAny (model prog w) A (.call (.ref C) ⟨[v], []⟩) R s := by
  obtain ⟨nm, q, N, bs, bm, sn, sub, ab, col, dd, k0, k1, k2, k3, k5, hC, hbm⟩ := T.cls
  obtain ⟨hp, g, dr, tk, os⟩ := s
  have k : ∀ b o, hp.get? b = some o → ((hp.push (kdv_tup [v])).push (excO C hp.objs.size)).get? b = some o := fun b o e => Heap.get?_push_of_some _ (Heap.get?_push_of_some _ e)
  have hget : ((hp.push (kdv_tup [v])).push (excO C hp.objs.size)).get? (hp.objs.size + 1) = some (excO C hp.objs.size) := by heap_get
  have hnx : K.lookup (hp.objs.size + 1) = none := by
    cases e : K.lookup (hp.objs.size + 1) with
    | none => rfl
    | some o =>
      have z : hp.get? (hp.objs.size + 1) = some o := X _ _ e
      exact absurd (Nat.lt_of_succ_lt (Heap.lt_size z)) (Nat.lt_irrefl _)
  refine call_own F.excBase_ValueError (fun X => refsVE_contains X bm hbm) (X _ _ hC) (looks_findIn X T.iC) (fun self => bind_fn X self T.tC) (one_size_InvalidMachine v) ?_
  refine low_init_InvalidMachine (s := ⟨(hp.push (kdv_tup [v])).push (excO C hp.objs.size), g, dr, tk, os⟩) T (X.keeps k) (hlim.keeps k) hget hnx ?_ fun h' tk' dx ⟨k', hx, dn, dne, hns⟩ => ?_
  · show A.depth + 1 < recursionLimit
    exact hroom
  · have old : ∀ b o, hp.get? b = some o → h'.get? b = some o := fun b o e => k' b o (Nat.ne_of_lt (Nat.lt_succ_of_lt (Heap.lt_size e))) (k b o e)
    have z : hp.objs.size + 1 + 1 ≤ dx := by
      first
        | (simpa only [Heap.size_push] using dn)
        | exact dn
        | (have q := dn; rw [Heap.size_push, Heap.size_push] at q; exact q)
    exact ⟨rfl, hq h' tk' (hp.objs.size + 1) dx ⟨old, Nat.le_succ _, ⟨_, _, hx, rfl, rfl, rfl, rfl⟩, Nat.le_trans (Nat.le_trans (Nat.le_succ _) (Nat.le_succ _)) z, dne, hns⟩⟩
end
end LowX_InvalidMachine
end PySem
namespace L2
open PySem PySem.Spec PyProof.Rows
theorem relO_low_InvalidMachine {v : V} {v' : Value} (r : RelV v v') (f : Str) : RelO (List.lookup f [(("word" : Str), v)]) (if f = "word" then some v' else none) := by
  by_cases hw : f = "word"
  · subst hw
    rw [if_pos rfl]
    have q : List.lookup ("word" : Str) [(("word" : Str), v)] = some v := by simp [List.lookup]
    rw [q]
    exact r
  · rw [if_neg hw]
    have qw : (f == ("word" : Str)) = false := by simpa using hw
    have q2 : List.lookup f [(("word" : Str), v)] = none := by simp [List.lookup, qw]
    rw [q2]
    trivial
section
variable {X : Cx} {C fI : Addr}
/-- Low(e) -/
def tMkLow_InvalidMachine (C : Addr) (ta : TA) : St → Hp → XK → Prop := fun σ H Q => ta σ H fun vs H1 => ∃ v, vs = [v] ∧ ∀ d, H1 d = none → Q (.ref C) (some d) (upd H1 d (.xd [(("word" : Str), v)]))
theorem pmk_low_InvalidMachine {a : Expr} {ta : TA} {p pos : Pos} {k : Nat} (T : PySem.LowX_InvalidMachine.LowTxt_InvalidMachine X.K X.mg C fI) (hr : Room k X.A) (ha : PA X [a] ta) (hg : Gl X "InvalidMachine" := by rfl)
    (he : starEach (a :: []) X.env = (false, eval a X.env) :: starEach [] X.env := by rfl) (hpl : (backTo pos (starEach [] X.env)).any (·.1) = false := by rfl) :
    PMk X (.Call (.Name "InvalidMachine" p) [a] [] pos) (tMkLow_InvalidMachine C ta) := by
  intro pins s σ H Q I h
  refine wpAny_Call_Name_kw (ld_glob I hg T.gC ?_)
  refine PySem.W.callWith_K (h₀ := X.base) I.ok.mod.kin T.kC (thn (ha.run pos pins s σ H _ I h) fun us s1 hh => ?_) he hpl
  obtain ⟨vs, H1, I1, r1, v, ev, q1⟩ := hh
  subst ev
  refine ⟨I1.kIn, ?_⟩
  cases r1 with
  | cons rv rn =>
    rename_i v' us'
    cases rn
    show wpAny _ _ (call (.ref C) [v']) _ _ _
    have hlim := I1.nolimit
    obtain ⟨hp, g, dr, tk, os⟩ := s1
    refine wpAny_call (PySem.LowX_InvalidMachine.low_made_InvalidMachine T I1.kIn hlim (by have := hr.dp; omega) fun h' tk' e d M => ?_)
    show MkP X pins σ Q (.ref e) ⟨h', g, dr, tk', os⟩
    obtain ⟨oe, fv, hoe, hc, hd, hdat, h1⟩ := M.obj
    have hns := M.ns
    obtain ⟨G', g1, g2⟩ := restrict h' fun b => decide (b ≠ e)
    have gk : ∀ b, b ≠ e → G'.get? b = h'.get? b := fun b hb => g1 b (decide_eq_true hb)
    have ge : G'.get? e = none := g2 e (by simp)
    have old : ∀ b o, hp.get? b = some o → G'.get? b = some o := fun b o q => (gk b (Nat.ne_of_lt (Nat.lt_of_lt_of_le (Heap.lt_size q) M.new))).trans (M.keep b o q)
    have ob : ObjOk X.prog X.w (upd H1 d (.xd [(("word" : Str), v)])) G' d (.xd [(("word" : Str), v)]) :=
      ⟨_, hns.at (fun o q => (gk d M.dne).trans q), fun f => relO_low_InvalidMachine rv f⟩
    have J : Inv X pins σ (upd H1 d (.xd [(("word" : Str), v)])) ⟨G', g, dr, tk', os⟩ := I1.laid (t' := tk') old M.dbig ob
    refine ⟨e, oe, fv, ⟨G', g, dr, tk', os⟩, _, .ref C, some d, rfl, J, fun b o q => ?_, ge, hoe, ⟨hc, hd⟩, hdat, h1, ?_, rfl, I1.bare, raises_own T.exC T.tyC, q1 d (I1.hok.fresh M.dbig)⟩
    · by_cases hb : b = e
      · have q' : G'.get? b = some o := q
        rw [hb, ge] at q'; cases q'
      · exact (gk b hb).symm.trans q
    · rw [upd_ne (Ne.symm M.dne)]
      exact I1.hok.fresh M.new
/-- raise Low(e) -/
def tRaiseLow_InvalidMachine (C : Addr) (W : WX) (ta : TA) : TS := fun _ σ H => tMkLow_InvalidMachine C ta σ H fun cls d H' => W cls d σ H'
theorem ps_raiseLow_InvalidMachine {a : Expr} {ta : TA} {W : WX} {p pos pos2 : Pos} {k : Nat} (hc : X.calm = true) (T : PySem.LowX_InvalidMachine.LowTxt_InvalidMachine X.K X.mg C fI) (hr : Room k X.A) (tk : Takes X W) (ha : PA X [a] ta) (hg : Gl X "InvalidMachine" := by rfl)
    (he : starEach (a :: []) X.env = (false, eval a X.env) :: starEach [] X.env := by rfl) (hpl : (backTo pos (starEach [] X.env)).any (·.1) = false := by rfl) :
    PS X (.Raise (some (.Call (.Name "InvalidMachine" p) [a] [] pos)) none pos2) (tRaiseLow_InvalidMachine C W ta) := ps_raise hc tk (pmk_low_InvalidMachine T hr ha hg he hpl)
/-- low.by, low the exception that the suite holds (at a; its class cls, its dict d) -/
def tByLow_InvalidMachine (C : Addr) (a : Addr) (cls : Value) (d : Option Addr) (te : TE) : TE := fun σ H Q => te σ H fun x H1 => x = .ref a ∧ cls = .ref C ∧ ∃ (dd : Addr) (v : V), d = some dd ∧ H1 dd = some (.xd [(("word" : Str), v)]) ∧ Q v H1
theorem pe_byLow_InvalidMachine {a : Addr} {oe : Obj} {cls : Value} {d : Option Addr} {pn : List (Addr × Obj)} {e : Expr} {te : TE} {pos : Pos} (T : PySem.LowX_InvalidMachine.LowTxt_InvalidMachine X.K X.mg C fI) (hz : Zc cls d oe) (hf : ∃ vs, oe.data = .fields vs) (he : PE (X.suite a ((a, oe) :: pn)) e te)
    (hb : attributeBase e "word" X.env (eval e X.env) = eval e X.env := by rfl) :
    PE (X.suite a ((a, oe) :: pn)) (.Attribute e "word" pos) (tByLow_InvalidMachine C a cls d te) := by
  refine ⟨fun pins s σ H Q I h => ?_⟩
  refine attr_of hb (thn (he.run pins s σ H _ I h) fun u s1 hh => ?_)
  obtain ⟨x, H1, I1, rx, ex, ec, dd, v, ed, ea, q⟩ := hh
  subst ex
  obtain rfl : u = Value.ref a := rx
  subst ec
  subst ed
  obtain ⟨ha, _⟩ := I1.pin (a, oe) (List.mem_append_left _ List.mem_cons_self)
  obtain ⟨vs, hd⟩ := hf
  have hx : ObjOk X.prog X.w H1 s1.heap dd (.xd [(("word" : Str), v)]) := I1.hok dd _ ea
  obtain ⟨mA, hns, hr⟩ := hx
  obtain ⟨od, ho, hl⟩ := lookIn_ns hns
  have l : List.lookup ("word" : Str) [(("word" : Str), v)] = some v := by simp [List.lookup]
  obtain ⟨u, hu, ru⟩ := RelO.some_of (v := v) (o := mA "word") (by rw [← l]; exact hr "word")
  have J : PySem.W.InstAt s1.heap a oe C (some od) := ⟨ha, hz.1, by unfold PySem.W.notCls; rw [hd] <;> rfl, by rw [hz.2]; exact ho⟩
  exact HandSPX.exc_get I1.kIn J T.ga T.gg T.exC (PySem.W.findObj_own T.hdC T.noN rfl (by rw [hl, hu])) (handed_of ru) ⟨v, H1, I1.tok _, ru, q⟩
end
end L2


namespace L2.Wk
open PySem PySem.Spec PyProof.Rows
abbrev s_Rule_init : Stmt := inClass (top 19) 0
abbrev N_Rule_init : List Str := ["self", "state", "event", "guard", "then", "deeds", "deed"]
theorem sc_Rule_init : FnScope N_Rule_init ["self", "state", "event", "guard", "then", "deeds"] (defScope s_Rule_init) := ⟨rfl, rfl, rfl, by decide +kernel, rfl, by decide +kernel, by decide +kernel⟩
abbrev s_law_lets : Stmt := top 23
abbrev N_law_lets : List Str := ["_law_told", "_law_row", "_law_found", "e"]
theorem sc_law_lets : FnScope N_law_lets ["_law_told", "_law_row"] (defScope s_law_lets) := ⟨rfl, rfl, rfl, by decide +kernel, rfl, by decide +kernel, by decide +kernel⟩
theorem putF_len_lt {f : Str} {v : V} : ∀ {l : List (Str × V)} {n : Nat}, l.length < n → (putF f v l).length < n + 1
  | [], n, h => by
    show 1 < n + 1
    simp only [List.length_nil] at h
    omega
  | (g, u) :: l, n, h => by
    unfold putF
    split
    · simp only [List.length_cons] at h ⊢
      omega
    · simp only [List.length_cons] at h ⊢
      cases n with
      | zero => omega
      | succ n =>
        have := putF_len_lt (f := f) (v := v) (l := l) (n := n) (by omega)
        omega
def guardsV : List Str := txts ["any", "waits", "calm"]
def ruleErr (st ev gd th : Str) (ds : List Str) : Option Str :=
  if isName st = true then (if isEvent ev = true then (if inV (.str gd) (guardsV.map V.str) = true then (if isName th = true then (if (ds.map (mayDo ev)).all id = true then none else some "deeds") else some "then") else some "guard") else some "event") else some "state"
structure Rs where
  Rule : Addr
  fRule : Addr
  IM : Addr
  fIM : Addr
  GUARDS : Addr
structure TxtR (K : PySem.W.Frag) (mg : Str → Option Value) (r : Rs) : Prop where
  low_InvalidMachine : PySem.LowX_InvalidMachine.LowTxt_InvalidMachine K mg r.IM r.fIM
  cl : Cls K r.Rule
  M : Mk K r.Rule r.fRule
  g_Rule : mg "Rule" = some (.ref r.Rule)
  g_GUARDS : mg "GUARDS" = some (.ref r.GUARDS)
  s_GUARDS : ∀ H, SqT K H r.GUARDS (guardsV.map V.str)
  n_state : NoAttr K r.Rule "state"
  n_event : NoAttr K r.Rule "event"
  n_guard : NoAttr K r.Rule "guard"
  n_then : NoAttr K r.Rule "then"
  n_deeds : NoAttr K r.Rule "deeds"
def ruleF (st ev gd th : Str) (t : Addr) : List (Str × V) := putF "deeds" (.ref t) (putF "then" (.str th) (putF "guard" (.str gd) (putF "event" (.str ev) (putF "state" (.str st) []))))
/-- Rule(..): the fields, or an error that tells the first wrong argument -/
def spRule (r : Rs) : Sp := fun vs H Q E => ∃ (p dx row : Addr) (st ev gd th : Str) (ds : List Str), vs = [.ref p, .str st, .str ev, .str gd, .str th, .ref row] ∧ H p = some (.ins r.Rule dx []) ∧ H row = some (.lst (ds.map V.str)) ∧
  st.length ≤ 1000 ∧ ev.length ≤ 1000 ∧ th.length ≤ 1000 ∧ ds.length ≤ 1000 ∧ (∀ z ∈ ds, z.length ≤ 1000) ∧
  (ruleErr st ev gd th ds = none → ∀ (H' : Hp) (t : Addr), H t = none → H' t = some (.tup (ds.map V.str)) → H' p = some (.ins r.Rule dx (ruleF st ev gd th t)) → (∀ b o, H b = some o → b ≠ p → H' b = some o) → Q .non H') ∧
  (∀ m, ruleErr st ev gd th ds = some m → ∀ (d : Addr) (H' : Hp), Same H H' → H' d = some (.xd [("word", .str m)]) → E (.ref r.IM) (some d) H')
def letsV (told : Str) (ds : List Str) : V := match ruleErr "x" told "any" "x" ds with
  | none => .bl true
  | some m => .str m
def spLets : Sp := fun vs H Q _ => ∃ (told : Str) (row : Addr) (ds : List Str), vs = [.str told, .ref row] ∧ H row = some (.lst (ds.map V.str)) ∧ told.length ≤ 1000 ∧ ds.length ≤ 1000 ∧ (∀ z ∈ ds, z.length ≤ 1000) ∧ ∀ H', Same H H' → Q (letsV told ds) H'
section
variable {P : Program} {w : World} {K : PySem.W.Frag} {mg : Str → Option Value} {base : Heap} {a : Ws} {r : Rs} {f : Addr} {fd : FuncData}
structure TR (K : PySem.W.Frag) (mg : Str → Option Value) (a : Ws) (r : Rs) : Prop extends TxtW K mg a, TxtR K mg r
theorem ok_Rule {dvs : List V} {f1 f2 f3 f4 : FuncData} (F : FunD K "__init__" "Rule.__init__" (defArgs s_Rule_init) (defBody s_Rule_init) (defScope s_Rule_init) dvs [] f fd) (T : TR K mg a r)
    (G_is_name : FnOk P w K mg base CX0 1 a.is_name f1 ["value"] (spTxt isName)) (b_is_name : Binds K f1 ["value"] [])
    (G_is_event : FnOk P w K mg base CX0 3 a.is_event f2 ["value"] (spTxt isEvent)) (b_is_event : Binds K f2 ["value"] [])
    (G_is_sequence : FnOk P w K mg base CX0 1 a.is_sequence f3 ["value"] spSeqL) (b_is_sequence : Binds K f3 ["value"] [])
    (G__may_do : FnOk P w K mg base CX0 4 a.may_do f4 ["event", "deed"] spMay) (b__may_do : Binds K f4 ["event", "deed"] []) :
    FnOk P w K mg base (L2.CX P w) 5 f fd ["self", "state", "event", "guard", "then", "deeds"] (spRule r) := by
  refine F.ok sc_Rule_init (fun vs H Q E h => ?_) (fun cdv A outer s H vs Q E hr h => ?_)
  · obtain ⟨p, dx, row, st, ev, gd, th, ds, rfl, _⟩ := h
    rfl
  · obtain ⟨p, dx, row, st, ev, gd, th, ds, rfl, hp, hrow, l1, l2, l3, l4, l5, k, kE⟩ := h
    refine ⟨_, (pss_cons (ps_if (pt_not (pt_val (pe_call G_is_name (hr.mono (by decide)) rfl T.g_is_name T.k_is_name b_is_name .nil pass0 (pa_cons (pv 1) pa_nil)))) (pss_one (ps_raiseLow_InvalidMachine rfl T.low_InvalidMachine hr (takes_of rfl rfl rfl rfl) (pa_cons pe_str pa_nil))) pss_nil)
    (pss_cons (ps_if (pt_not (pt_val (pe_call G_is_event (hr.mono (by decide)) rfl T.g_is_event T.k_is_event b_is_event .nil pass0 (pa_cons (pv 2) pa_nil)))) (pss_one (ps_raiseLow_InvalidMachine rfl T.low_InvalidMachine hr (takes_of rfl rfl rfl rfl) (pa_cons pe_str pa_nil))) pss_nil)
    (pss_cons (ps_if (pt_cmpR op_notIn_seq (pv 3) (pe_gr rfl T.g_GUARDS) (by rfl)) (pss_one (ps_raiseLow_InvalidMachine rfl T.low_InvalidMachine hr (takes_of rfl rfl rfl rfl) (pa_cons pe_str pa_nil))) pss_nil)
    (pss_cons (ps_if (pt_not (pt_val (pe_call G_is_name (hr.mono (by decide)) rfl T.g_is_name T.k_is_name b_is_name .nil pass0 (pa_cons (pv 4) pa_nil)))) (pss_one (ps_raiseLow_InvalidMachine rfl T.low_InvalidMachine hr (takes_of rfl rfl rfl rfl) (pa_cons pe_str pa_nil))) pss_nil)
    (pss_cons (ps_if (PW.pt (pw_or (pt_not (pt_val (pe_call G_is_sequence (hr.mono (by decide)) rfl T.g_is_sequence T.k_is_sequence b_is_sequence .nil pass0 (pa_cons (pv 5) pa_nil)))) (pw_or1 (pt_not (pt_val (pe_callB (cr_all rfl) (by rfl) T.b_all (by decide +kernel) (pa_cons (pe_lc (own := [("deed", 6)]) (g := gName 6) (tt := tYes) rfl sc_Rule_init.nd (pi_list (pv 5)) (blkOk_by (N := N_Rule_init) (sc := defScope s_Rule_init) (by decide +kernel)) (fun _ _ _ _ _ => (pg_name (i := 6) sc_Rule_init.nd rfl (Or.inl rfl))) (fun _ _ _ _ _ => pts_nil) (fun _ _ _ _ _ => (pe_call G__may_do (hr.mono (by decide)) rfl T.g__may_do T.k__may_do b__may_do .nil pass0 (pa_cons (pv 2) (pa_cons (pv 6) pa_nil))))) pa_nil))))))) (pss_one (ps_raiseLow_InvalidMachine rfl T.low_InvalidMachine hr (takes_of rfl rfl rfl rfl) (pa_cons pe_str pa_nil))) pss_nil)
    (pss_cons (ps_fld (pv 0) (pv 1) rfl)
    (pss_cons (ps_fld (pv 0) (pv 2) rfl)
    (pss_cons (ps_fld (pv 0) (pv 3) rfl)
    (pss_cons (ps_fld (pv 0) (pv 4) rfl)
    (pss_one (ps_fld (pv 0) (pe_callTy call_tuple_of (by rfl) T.b_tuple (by decide +kernel) (pa_cons (pv 5) pa_nil)) rfl))))))))))), ?_⟩
    unfold ruleErr at k kE
    refine ⟨_, rfl, _, rfl, l1, fun H1 s1 => ⟨_, rfl, ?_⟩⟩
    cases e1 : isName st with
    | false =>
      rw [e1] at kE
      exact iteT ⟨_, rfl, fun d hd => kE "state" (by rfl) d _ (s1.trans (Same.upd_new hd)) upd_same⟩
    | true =>
    rw [e1] at k kE
    refine iteF ?_
    refine ⟨_, rfl, _, rfl, l2, fun H2 s2 => ⟨_, rfl, ?_⟩⟩
    replace s2 := s1.trans s2
    cases e2 : isEvent ev with
    | false =>
      rw [e2] at kE
      exact iteT ⟨_, rfl, fun d hd => kE "event" (by rfl) d _ (s2.trans (Same.upd_new hd)) upd_same⟩
    | true =>
    rw [e2] at k kE
    refine iteF ?_
    refine ⟨_, rfl, _, _, rfl, .inr (T.s_GUARDS _), rfl, flat_txts _, _, rfl, ?_⟩
    show if (!inV (V.str gd) (guardsV.map V.str)) = true then _ else _
    cases e3 : inV (V.str gd) (guardsV.map V.str) with
    | false =>
      rw [e3] at kE
      exact iteT ⟨_, rfl, fun d hd => kE "guard" (by rfl) d _ (s2.trans (Same.upd_new hd)) upd_same⟩
    | true =>
    rw [e3] at k kE
    refine iteF ?_
    refine ⟨_, rfl, _, rfl, l3, fun H3 s3 => ⟨_, rfl, ?_⟩⟩
    replace s3 := s2.trans s3
    cases e4 : isName th with
    | false =>
      rw [e4] at kE
      exact iteT ⟨_, rfl, fun d hd => kE "then" (by rfl) d _ (s3.trans (Same.upd_new hd)) upd_same⟩
    | true =>
    rw [e4] at k kE
    refine iteF ?_
    refine ⟨_, rfl, _, _, rfl, s3 _ _ hrow, fun H4 s4 => ⟨_, rfl, ?_⟩⟩
    replace s4 := s3.trans s4
    refine iteF ?_
    refine ⟨_, rfl, row, rfl, ⟨_, .inl (.inl (s4 _ _ hrow))⟩, fun D hD => ?_⟩
    refine lc_list (K := K) (a := row) (xs := ds.map V.str) (fun i H' => Same H4 H' ∧ H' D = some (.lst (((ds.take i).map (mayDo ev)).map V.bl))) ⟨Same.upd_new hD, upd_same⟩ (fun i H' _ h => .inl (.inl (h.1 _ _ (s4 _ _ hrow)))) ?_ ?_
    · rintro i x H' hx ⟨t1, t2⟩
      obtain ⟨z, hz, rfl⟩ : ∃ z, ds[i]? = some z ∧ x = V.str z := by
        rw [List.getElem?_map] at hx
        cases e : ds[i]? with
        | none => rw [e] at hx; cases hx
        | some z => rw [e] at hx; exact ⟨z, rfl, (Option.some.inj hx).symm⟩
      refine ⟨rfl, ⟨_, rfl, _, rfl, _, _, rfl, l5 z (List.mem_of_getElem? hz), fun H5 s5 => ⟨_, s5 _ _ t2, ?_, ?_, ?_⟩⟩⟩
      · rw [List.length_map, List.length_map, List.length_take]
        exact Nat.lt_of_le_of_lt (Nat.le_trans (Nat.min_le_right _ _) l4) (small1000 (Nat.le_refl _))
      · intro b o e
        have := s5 _ _ (t1 b o e)
        rw [upd_ne (ne_of_none e hD)]
        exact this
      · rw [take_succ_map _ hz, List.map_append]
        exact upd_same
    · rintro H5 ⟨t1, t2⟩
      rw [List.length_map, List.take_length] at t2
      replace t1 := s4.trans t1
      refine ⟨D, _, rfl, .inl (.inl t2), ⟨_, rfl, ?_⟩⟩
      cases e5 : (ds.map (mayDo ev)).all id with
      | false =>
        rw [e5] at kE
        exact iteT ⟨_, rfl, fun d hd => kE "deeds" (by rfl) d _ (t1.trans (Same.upd_new hd)) upd_same⟩
      | true =>
      rw [e5] at k
      refine iteF ?_
      have hp5 := t1 _ _ hp
      have hr5 := t1 _ _ hrow
      have npr : row ≠ p := ne_of hrow hp (by intro z; cases z)
      refine ⟨_, rfl, _, rfl, p, r.Rule, dx, _, rfl, hp5, T.cl, T.n_state, (by show 0 < 1000; decide), ?_⟩
      refine ⟨_, rfl, _, rfl, p, r.Rule, dx, _, rfl, upd_same, T.cl, T.n_event, putF_len_lt (by show 0 < 999; decide), ?_⟩
      refine ⟨_, rfl, _, rfl, p, r.Rule, dx, _, rfl, upd_same, T.cl, T.n_guard, putF_len_lt (putF_len_lt (by show 0 < 998; decide)), ?_⟩
      refine ⟨_, rfl, _, rfl, p, r.Rule, dx, _, rfl, upd_same, T.cl, T.n_then, putF_len_lt (putF_len_lt (putF_len_lt (by show 0 < 997; decide))), ?_⟩
      refine ⟨_, rfl, row, ds.map V.str, rfl, .inl ⟨.inl (.inl ?_), fun t ht => ?_⟩⟩
      · rw [upd_ne npr, upd_ne npr, upd_ne npr, upd_ne npr]
        exact hr5
      · have npt : p ≠ t := ne_of_none upd_same ht
        refine ⟨_, rfl, p, r.Rule, dx, _, rfl, (by rw [upd_ne npt]; exact upd_same), T.cl, T.n_deeds, putF_len_lt (putF_len_lt (putF_len_lt (putF_len_lt (by show 0 < 996; decide)))), ?_⟩
        have ht5 : H5 t = none := by
          rw [upd_ne npt.symm, upd_ne npt.symm, upd_ne npt.symm, upd_ne npt.symm] at ht
          exact ht
        refine k rfl _ t (t1.free ht5) (by rw [upd_ne npt.symm, upd_same]) upd_same fun b o e hb => ?_
        rw [upd_ne hb, upd_ne (ne_of_none (t1 b o e) ht5), upd_ne hb, upd_ne hb, upd_ne hb, upd_ne hb]
        exact t1 b o e
theorem ok_lets {f1 : FuncData} (F : Fun K "_law_lets" "_law_lets" s_law_lets f fd) (T : TR K mg a r) (G_Rule : FnOk P w K mg base (L2.CX P w) 5 r.fRule f1 ["self", "state", "event", "guard", "then", "deeds"] (spRule r))
    (b_Rule : Binds K f1 ["self", "state", "event", "guard", "then", "deeds"] []) : FnOk P w K mg base CX0 7 f fd ["_law_told", "_law_row"] spLets := by
  refine F.ok sc_law_lets (fun vs H Q E h => ?_) (fun cdv A outer s H vs Q E hr h => ?_)
  · obtain ⟨told, row, ds, rfl, _⟩ := h
    rfl
  · obtain ⟨told, row, ds, rfl, hrow, l1, l2, l3, k⟩ := h
    refine ⟨_, (pss_cons (ps_set (i := 2) sc_law_lets.nd rfl (Or.inl rfl) pe_bl)
    (pss_cons (ps_try_as (i := 3) rfl rfl sc_law_lets.nd rfl rfl ⟨rfl, by decide, Or.inl T.low_InvalidMachine.gC⟩ takes0
      (fun W pn xe tk _ => (pss_one (ps_expr (pe_makeS T.M G_Rule (hr.mono (by decide)) rfl T.g_Rule b_Rule .nil (fun σ => passAt tk σ) (pa_cons pe_str (pa_cons (pv 0) (pa_cons pe_str (pa_cons pe_str (pa_cons (pv 1) pa_nil)))))))))
      (fun ae oe cls d pn hz hf => (pss_one (ps_set (i := 2) sc_law_lets.nd rfl (Or.inl rfl) (pe_byLow_InvalidMachine T.low_InvalidMachine hz hf (pv 3))))))
    (pss_one (ps_ret (pv 2))))), ?_⟩
    have s0 : ∀ x dx, H x = none → H dx = none → Same H (upd (upd H dx (.own x)) x (.ins r.Rule dx [])) := fun x dx nx nd b o e => by
      rw [upd_ne (ne_of_none e nx), upd_ne (ne_of_none e nd)]
      exact e
    refine ⟨_, rfl, _, rfl, fun x dx nx nd ne => ?_⟩
    refine ⟨x, dx, row, "x", told, "any", "x", ds, rfl, upd_same, s0 x dx nx nd _ _ hrow, (by decide +kernel), l1, (by decide +kernel), l2, l3, fun e H' t ht1 ht2 ht3 hk => ⟨rfl, ?_⟩, fun m e d H' hs hd => ?_⟩
    · unfold letsV at k
      rw [e] at k
      exact ⟨_, rfl, k _ fun b o q => hk b o (s0 x dx nx nd _ _ q) (ne_of_none q nx)⟩
    · unfold letsV at k
      rw [e] at k
      refine ⟨true, T.low_InvalidMachine.te, fun _ ea _ => ?_, fun q => Bool.noConfusion q⟩
      refine ⟨_, rfl, rfl, rfl, d, _, rfl, hd, ?_⟩
      exact ⟨_, rfl, k _ ((s0 x dx nx nd).trans hs)⟩
end
end L2.Wk
namespace L2.Wk
open PySem PySem.Spec PyProof.Rows
abbrev s_law_deal : Stmt := top 24
abbrev N_law_deal : List Str := ["_law_script", "_law_base", "_law_cells", "_law_blend", "_law_cell"]
theorem sc_law_deal : FnScope N_law_deal ["_law_script", "_law_base"] (defScope s_law_deal) := ⟨rfl, rfl, rfl, by decide +kernel, rfl, by decide +kernel, by decide +kernel⟩
abbrev s_law_draw : Stmt := top 25
abbrev N_law_draw : List Str := ["_law_deal_here", "_law_many", "_law_left"]
theorem sc_law_draw : FnScope N_law_draw ["_law_deal_here", "_law_many"] (defScope s_law_draw) := ⟨rfl, rfl, rfl, by decide +kernel, rfl, by decide +kernel, by decide +kernel⟩
abbrev s_law_pick : Stmt := top 26
abbrev N_law_pick : List Str := ["_law_deal_here", "_law_some"]
theorem sc_law_pick : FnScope N_law_pick ["_law_deal_here", "_law_some"] (defScope s_law_pick) := ⟨rfl, rfl, rfl, by decide +kernel, rfl, by decide +kernel, by decide +kernel⟩
abbrev s_law_mixed : Stmt := top 27
abbrev N_law_mixed : List Str := ["_law_deal_here", "_law_some", "_law_left", "_law_found"]
theorem sc_law_mixed : FnScope N_law_mixed ["_law_deal_here", "_law_some"] (defScope s_law_mixed) := ⟨rfl, rfl, rfl, by decide +kernel, rfl, by decide +kernel, by decide +kernel⟩
abbrev s_law_names : Stmt := top 28
abbrev N_law_names : List Str := ["_law_deal_here", "_law_many", "_law_some", "_law_form", "_law_spot", "_law_letters", "_law_k"]
theorem sc_law_names : FnScope N_law_names ["_law_deal_here", "_law_many"] (defScope s_law_names) := ⟨rfl, rfl, rfl, by decide +kernel, rfl, by decide +kernel, by decide +kernel⟩
theorem dp_ints {K : PySem.W.Frag} {H : Hp} : ∀ ns : List Int, DpAll K H (ns.map V.int) (ns.map PyData.int)
  | [] => .nil
  | n :: ns => .cons (.int n) (dp_ints ns)
theorem dp_strs {K : PySem.W.Frag} {H : Hp} : ∀ zs : List Str, DpAll K H (zs.map V.str) (zs.map PyData.str)
  | [] => .nil
  | z :: zs => .cons (.str z) (dp_strs zs)
/-- xs != [] -/
theorem ne_nil {K : PySem.W.Frag} {H : Hp} {a p : Addr} {xs : List V} {ds : List PyData} {Q : VK} (h : SqL K H a xs) (hd : DpAll K H xs ds) (sh : SeqAt.shaped (.list ds) = true) (hp : H p = some (.lst [])) (q : Q (.bl (!xs.isEmpty)) H) :
    rNeD K (.ref a) (.ref p) H Q := by
  refine ⟨_, _, .lst h hd, .lst (.inl (.inl hp)) .nil, sh, (by decide +kernel), ?_⟩
  have e : (!PyData.eqv (.list ds) (.list [])) = !xs.isEmpty := by
    cases hd with
    | nil => simp [PyData.eqv, PyData.eqvAll]
    | cons _ _ => simp [PyData.eqv, PyData.eqvAll]
  rw [e]
  exact q
theorem op_rep_str {X : Cx} : OpR X (binaryOp .Mult) (fun x y H Q => ∃ z n, x = .str z ∧ y = .int n ∧ MulOk z n ∧ Q (.str (Txt.mul z n)) H) := by
  intro pins s σ H x y v u Q I rx ry h
  obtain ⟨z, n, rfl, rfl, hz, q⟩ := h
  obtain ⟨t, rfl⟩ := rx
  obtain ⟨t', rfl⟩ := ry
  exact SB.mul hz (fun t' k => ⟨.str _, H, I.tok _, ⟨_, rfl⟩, q⟩)
/-! ### the promises of the draws -/
def spDeal (K : PySem.W.Frag) : Sp := fun vs H Q _ => ∃ (s : Addr) (ns : List Int), vs = [.ref s, .int 0] ∧ SqL K H s (ns.map V.int) ∧ ns.length ≤ 63 ∧ ∀ (d l : Addr) (H' : Hp), H d = none → H l = none → DealAt H' d l → Same H H' → Q (.ref d) H'
def spDraw : Sp := fun vs H Q _ => ∃ (d l : Addr) (n : Int), vs = [.ref d, .int n] ∧ DealAt H d l ∧ 0 < n ∧ n < 100000 ∧ ∀ (r : Int) (H' : Hp), 0 ≤ r → r < n → DealAt H' d l → Keep d l H H' → Q (.int r) H'
def spPick (K : PySem.W.Frag) : Sp := fun vs H Q _ => ∃ (d l s : Addr) (xs : List V), vs = [.ref d, .ref s] ∧ DealAt H d l ∧ H s = some (.lst xs) ∧ s ≠ d ∧ s ≠ l ∧ xs ≠ [] ∧ xs.length ≤ 1000 ∧ ∀ (v : V) (H' : Hp), v ∈ xs → DealAt H' d l → Keep d l H H' → Q v H'
theorem cut_all {xs : List V} (h : xs.length ≤ 63) : cutV xs (some 0) (some 63) = xs := by
  unfold cutV
  have e1 : HT.sIx xs.length 0 (some 0) = 0 := by
    have := HT.sIx_nat xs.length 0 0
    simpa using this
  have e2 : HT.sIx xs.length xs.length (some 63) = xs.length := by
    have := HT.sIx_nat xs.length xs.length 63
    have e : min 63 xs.length = xs.length := by omega
    rw [e] at this
    exact this
  rw [e1, e2]
  simp
def absI (i : Int) : Int := if i < 0 then -i else i
theorem absI_nn (i : Int) : 0 ≤ absI i := by
  unfold absI
  split <;> omega
theorem get_map_int {ns : List Int} {i : Nat} {x : V} (h : (ns.map V.int)[i]? = some x) : ∃ n, ns[i]? = some n ∧ x = V.int n := by
  rw [List.getElem?_map] at h
  cases e : ns[i]? with
  | none => rw [e] at h; cases h
  | some z => rw [e] at h; exact ⟨z, rfl, (Option.some.inj h).symm⟩
theorem snoc {α : Type} (c : α) (cs : List α) : ∃ xs y, c :: cs = xs ++ [y] := ⟨(c :: cs).dropLast, (c :: cs).getLast (by simp), (List.dropLast_concat_getLast (by simp)).symm⟩
/-- while the last great cell is nought: behind each turn -/
def DrawW (d l : Addr) (n b0 : Int) (H : Hp) (m : Nat) (σ : L2.St) (H' : Hp) : Prop := ∃ (cs : List Int), σ = [some (.ref d), some (.int n), none] ∧ H' d = some (.lst [.ref l, .int b0]) ∧ H' l = some (.lst (cs.map V.int)) ∧ (∀ c ∈ cs, 0 ≤ c) ∧ cs.length ≤ 63 ∧ m = cs.length ∧ Keep d l H H'
theorem Keep.upd_l {d l : Addr} {H : Hp} {o : HO} : Keep d l H (upd H l o) := fun p u e _ h2 => by rw [upd_ne h2]; exact e
theorem Keep.upd_d {d l : Addr} {H : Hp} {o : HO} : Keep d l H (upd H d o) := fun p u e h1 _ => by rw [upd_ne h1]; exact e
def nameL : List Str := txts ["a", "b", "run", "off", "wake", "save", "open", "calm", "x", "zzzz", "cut", "load"]
def letL : Str := "abcdefghijklmnopqrstuvwxyz"
def allNames : List Str := nameL ++ letL.cps.toList.flatMap fun c => [0, 1, 2, 3].map fun j : Int => (⟨#[c]⟩ : Str) ++ Txt.mul "w" j
theorem mul_ok {n : Int} (h : n ∈ ([0, 1, 2, 3] : List Int)) : MulOk "w" n := by
  unfold MulOk
  simp only [List.mem_cons, List.not_mem_nil, or_false] at h
  rcases h with rfl | rfl | rfl | rfl <;> decide +kernel
theorem mul_len {n : Int} (h : n ∈ ([0, 1, 2, 3] : List Int)) : (Txt.mul "w" n).length ≤ 3 := by
  simp only [List.mem_cons, List.not_mem_nil, or_false] at h
  rcases h with rfl | rfl | rfl | rfl <;> decide +kernel
def spNames : Sp := fun vs H Q _ => ∃ (d l : Addr) (n : Int), vs = [.ref d, .int n] ∧ DealAt H d l ∧ 0 ≤ n ∧ n ≤ 60 ∧ ∀ (p : Addr) (zs : List Str) (H' : Hp), H p = none → H' p = some (.lst (zs.map V.str)) → zs.length = n.toNat → (∀ z ∈ zs, z ∈ allNames) → DealAt H' d l → Keep d l H H' → Q (.ref p) H'
theorem lay_strs {zs : List Str} (h : ∀ z ∈ zs, PyData.strOk z = true) : PyData.canLayAll0 (zs.map PyData.str) = true ∧ PyData.depthAll (zs.map PyData.str) = 0 := by
  induction zs with
  | nil => exact ⟨by simp [PyData.canLayAll0], by simp [PyData.depthAll]⟩
  | cons z zs ih =>
    obtain ⟨i1, i2⟩ := ih fun y hy => h y (List.mem_cons_of_mem _ hy)
    have hz := h z (List.mem_cons_self ..)
    rw [List.map_cons]
    exact ⟨by simp [PyData.canLayAll0, PyData.canLay0, hz, i1], by simp [PyData.depthAll, PyData.depth, i2]⟩
theorem shaped_strs {zs : List Str} (h : ∀ z ∈ zs, PyData.strOk z = true) : SeqAt.shaped (.list (zs.map PyData.str)) = true := by
  obtain ⟨h1, h2⟩ := lay_strs h
  unfold SeqAt.shaped
  simp [PyData.canLay0, PyData.depth, h1, h2]
theorem seq_ix {j n : Nat} (h : j < n) : seqIndex? (j : Int) n = some j := by
  unfold seqIndex?
  have h1 : ¬ ((j : Int) < 0) := by omega
  have h2 : (j : Int) < (n : Int) := by omega
  simp [h1, h2]
  try omega
theorem map_erase {α β : Type} (f : α → β) : ∀ (l : List α) (j : Nat), (l.map f).eraseIdx j = (l.eraseIdx j).map f
  | [], _ => rfl
  | _ :: _, 0 => rfl
  | a :: l, j + 1 => by
    rw [List.map_cons, List.eraseIdx_cons_succ, List.eraseIdx_cons_succ, List.map_cons, map_erase f l j]
theorem DealAt.upd {d l p : Addr} {H : Hp} {o : HO} (D : DealAt H d l) (h1 : p ≠ d) (h2 : p ≠ l) : DealAt (L2.upd H p o) d l := by
  obtain ⟨cs, b, q1, q2, q3⟩ := D.ex
  exact ⟨⟨cs, b, by rw [upd_ne h1.symm]; exact q1, by rw [upd_ne h2.symm]; exact q2, q3⟩⟩
def spMixed : Sp := fun vs H Q _ => ∃ (d l s : Addr) (zs : List Str), vs = [.ref d, .ref s] ∧ DealAt H d l ∧ H s = some (.lst (zs.map V.str)) ∧ s ≠ d ∧ s ≠ l ∧ zs.length ≤ 1000 ∧ (∀ z ∈ zs, PyData.strOk z = true) ∧
  ∀ (p : Addr) (ys : List Str) (H' : Hp), H p = none → H' p = some (.lst (ys.map V.str)) → ys.length = zs.length → (∀ y ∈ ys, y ∈ zs) → DealAt H' d l → Keep d l H H' → Q (.ref p) H'
/-- xs is left, ys is found -/
def MixW (d l s L F : Addr) (zs : List Str) (H : Hp) (m : Nat) (σ : L2.St) (H' : Hp) : Prop := ∃ xs ys : List Str, σ = [some (.ref d), some (.ref s), some (.ref L), some (.ref F)] ∧ H' L = some (.lst (xs.map V.str)) ∧ H' F = some (.lst (ys.map V.str)) ∧
  (∀ x ∈ xs, x ∈ zs) ∧ (∀ y ∈ ys, y ∈ zs) ∧ ys.length + xs.length = zs.length ∧ DealAt H' d l ∧ Keep d l H H' ∧ m = xs.length
structure Ds where
  deal : Addr
  draw : Addr
  pick : Addr
  mixed : Addr
  names : Addr
structure TxtD (K : PySem.W.Frag) (mg : Str → Option Value) (a : Ds) : Prop where
  b_abs : mg "abs" = none
  b_int : mg "int" = none
  b_len : mg "len" = none
  b_list : mg "list" = none
  b_range : mg "range" = none
  g__law_deal : mg "_law_deal" = some (.ref a.deal)
  k__law_deal : PySem.W.keepIn K (.ref a.deal) = true
  g__law_draw : mg "_law_draw" = some (.ref a.draw)
  k__law_draw : PySem.W.keepIn K (.ref a.draw) = true
  g__law_pick : mg "_law_pick" = some (.ref a.pick)
  k__law_pick : PySem.W.keepIn K (.ref a.pick) = true
  g__law_mixed : mg "_law_mixed" = some (.ref a.mixed)
  k__law_mixed : PySem.W.keepIn K (.ref a.mixed) = true
  g__law_names : mg "_law_names" = some (.ref a.names)
  k__law_names : PySem.W.keepIn K (.ref a.names) = true
section
variable {P : Program} {w : World} {K : PySem.W.Frag} {mg : Str → Option Value} {base : Heap} {a : Ds} {f : Addr} {fd : FuncData}
theorem ok_deal (F : Fun K "_law_deal" "_law_deal" s_law_deal f fd) (T : TxtD K mg a) : FnOk P w K mg base CX0 1 f fd ["_law_script", "_law_base"] (spDeal K) := by
  refine F.ok sc_law_deal (fun vs H Q E h => ?_) (fun cdv A outer s H vs Q E hr h => ?_)
  · obtain ⟨_, _, rfl, _⟩ := h
    rfl
  · obtain ⟨sa, ns, rfl, hS, hlen, k⟩ := h
    refine ⟨_, (pss_cons (ps_setLc (i := 2) (own := [("_law_cell", 4)]) (g := gName 4) (tt := tYes) rfl sc_law_deal.nd rfl rfl (sw_true rfl rfl rfl (by decide +kernel)) (pi_list (pe_slice sl_list (pv 0) (po_some (pv 1)) (po_some pe_int))) (blkOk_by (N := N_law_deal) (sc := defScope s_law_deal) (by decide +kernel)) (fun _ _ _ _ _ => (pg_name (i := 4) sc_law_deal.nd rfl (Or.inl rfl))) (fun _ _ _ _ _ => pts_nil) (fun _ _ _ _ _ => (pe_callB call_abs (by rfl) T.b_abs (by decide +kernel) (pa_cons (pv 4) pa_nil))))
    (pss_cons (ps_set (i := 3) sc_law_deal.nd rfl (Or.inl rfl) (pe_op op_add pe_int (pe_op op_mul pe_int (pv 1))))
    (pss_cons (ps_for PassesOwn.never rfl (pi_list (pv 2)) (pg_name (i := 4) sc_law_deal.nd rfl (Or.inl rfl))
      (pss_one (ps_set (i := 3) sc_law_deal.nd rfl (Or.inl rfl) (pe_op op_mod (pe_callTy call_int1 (by rfl) T.b_int (by decide +kernel) (pa_cons (pe_op op_add (pe_op op_add (pe_op op_mul (pv 3) pe_int) (pe_op op_mod (pe_callTy call_int1 (by rfl) T.b_int (by decide +kernel) (pa_cons (pv 4) pa_nil)) pe_int)) pe_int) pa_nil)) pe_int))))
    (pss_one (ps_ret (pe_lst (pa_cons (pe_revL (pe_lc (own := [("_law_cell", 4)]) (g := gName 4) rfl sc_law_deal.nd (pi_list (pv 2)) (blkOk_by (N := N_law_deal) (sc := defScope s_law_deal) (by decide +kernel)) (fun _ _ _ _ _ => (pg_name (i := 4) sc_law_deal.nd rfl (Or.inl rfl))) (fun _ _ _ _ _ => (pts_one (pt_cmpR op_ge (pv 4) (pe_op op_pow pe_int pe_int) (nomark _)))) (fun _ _ _ _ _ => (pv 4)))) (pa_cons (pv 3) pa_nil)))))))), ?_⟩
    refine ⟨_, rfl, _, rfl, _, rfl, _, rfl, sa, _, rfl, hS, fun p hp => ?_⟩
    refine ⟨p, rfl, ⟨_, .inl (.inl upd_same)⟩, fun D hD => ?_⟩
    rw [cut_all (by rw [List.length_map]; exact hlen)] at hD ⊢
    have s1 : Same H (upd H p (.lst (ns.map V.int))) := Same.upd_new hp
    have p1 : (upd H p (.lst (ns.map V.int))) p = some (.lst (ns.map V.int)) := upd_same
    generalize upd H p (.lst (ns.map V.int)) = H1 at s1 p1 hD ⊢
    refine lc_list (K := K) (a := p) (xs := ns.map V.int) (fun i H' => Same H1 H' ∧ H' D = some (.lst (((ns.take i).map absI).map V.int))) ⟨Same.upd_new hD, upd_same⟩ (fun i H' _ h => .inl (.inl (h.1 _ _ p1))) ?_ ?_
    · rintro i x H' hx ⟨t1, t2⟩
      obtain ⟨z, hz, rfl⟩ := get_map_int hx
      refine ⟨rfl, ⟨_, rfl, _, rfl, _, t2, ?_, ?_, ?_⟩⟩
      · rw [List.length_map, List.length_map, List.length_take]
        exact Nat.lt_of_le_of_lt (Nat.le_trans (Nat.min_le_right _ _) hlen) (small1000 (by decide))
      · intro b o e
        have := t1 b o e
        rw [upd_ne (ne_of_none e hD)]
        exact this
      · rw [take_succ_map _ hz, List.map_append]
        exact upd_same
    · rintro H2 ⟨t1, t2⟩
      rw [List.length_map, List.take_length] at t2
      replace s1 := s1.trans t1
      refine ⟨_, rfl, _, _, rfl, rfl, .inl ⟨by decide, by decide⟩, _, _, rfl, rfl, ?_⟩
      refine ⟨_, rfl, D, rfl, ⟨_, .inl (.inl t2)⟩, ?_⟩
      refine for_list (K := K) (a := D) (xs := (ns.map absI).map V.int) (fun i σ H' => ∃ (b : Int) (v : Option V), σ = [some (.ref sa), some (.int 0), some (.ref D), some (.int b), v] ∧ 0 ≤ b ∧ b < 2147483647 ∧ H' = H2) ⟨_, _, rfl, by decide, by decide, rfl⟩
        (fun i σ H' _ ⟨_, _, _, _, _, e⟩ => by rw [e]; exact .inl (.inl t2)) ?_ ?_
      · rintro i x σ H' hx ⟨b, v, rfl, b0, b1, rfl⟩
        obtain ⟨z, hz, rfl⟩ := get_map_int hx
        refine ⟨_, rfl, _, _, rfl, rfl, .inl ⟨by omega, by omega⟩, _, rfl, .inl ⟨_, rfl, _, _, rfl, rfl, (by show (0 : Int) < 2147483629; decide), _, _, rfl, rfl, _, _, rfl, rfl, .inl ⟨_, rfl, _, _, rfl, rfl, (by show (0 : Int) < 2147483647; decide), ?_⟩⟩⟩
        exact ⟨_, _, rfl, Int.emod_nonneg _ (by decide), Int.emod_lt_of_pos _ (by decide), rfl⟩
      · rintro σ H' ⟨b, v, rfl, b0, b1, rfl⟩
        refine ⟨_, rfl, D, rfl, ⟨_, .inl (.inl t2)⟩, fun D2 hD2 => ?_⟩
        refine lc_list (K := K) (a := D) (xs := (ns.map absI).map V.int) (fun i H3 => Same H' H3 ∧ ∃ acc : List Int, H3 D2 = some (.lst (acc.map V.int)) ∧ (∀ c ∈ acc, 0 ≤ c) ∧ acc.length ≤ i) ⟨Same.upd_new hD2, [], upd_same, (fun _ h => by cases h), Nat.le_refl _⟩
          (fun i H3 _ h => .inl (.inl (h.1 _ _ t2))) ?_ ?_
        · rintro i x H3 hx ⟨u1, acc, u2, u3, u4⟩
          obtain ⟨z, hz, rfl⟩ := get_map_int hx
          have z0 : 0 ≤ z := by
            have := List.mem_of_getElem? hz
            obtain ⟨y, _, rfl⟩ := List.mem_map.mp this
            exact absI_nn y
          have hi : i < ns.length := by
            have := (List.getElem?_eq_some_iff.mp hz).1
            rw [List.length_map] at this
            exact this
          refine ⟨rfl, _, rfl, _, _, rfl, rfl, ⟨by decide, by decide, by decide⟩, _, _, rfl, rfl, _, rfl, ?_⟩
          refine ite2 (fun c => ?_) (fun c => ⟨u1, acc, u2, u3, by omega⟩)
          refine ⟨_, rfl, _, u2, ?_, ?_, acc ++ [z], ?_, ?_, ?_⟩
          · rw [List.length_map]
            exact small1000 (by omega)
          · intro b2 o e
            rw [upd_ne (ne_of_none e hD2)]
            exact u1 b2 o e
          · rw [List.map_append]
            exact upd_same
          · intro c hc
            rcases List.mem_append.mp hc with hc | hc
            · exact u3 c hc
            · rw [List.mem_singleton.mp hc]
              exact z0
          · rw [List.length_append]
            simp only [List.length_cons, List.length_nil]
            omega
        · rintro H3 ⟨u1, acc, u2, u3, u4⟩
          rw [List.length_map, List.length_map] at u4
          refine ⟨D2, _, rfl, .inl (.inl u2), fun l hl => ⟨_, rfl, (by show 2 ≤ sizeLine; decide), fun d hd => ?_⟩⟩
          have s3 : Same H H3 := s1.trans u1
          have hl3 : H3 l = none := hl
          have hd3 : d ≠ l := (ne_of_none upd_same hd).symm
          have hdn : H3 d = none := by
            rw [upd_ne hd3] at hd
            exact hd
          refine k d l _ (s3.free hdn) (s3.free hl) ⟨⟨acc.reverse, b, upd_same, ?_, ?_, ?_, b0, b1⟩⟩ ((s3.trans (Same.upd_new hl)).trans (Same.upd_new hd))
          · rw [upd_ne hd3.symm, upd_same, List.map_reverse]
          · intro c hc
            exact u3 c (List.mem_reverse.mp hc)
          · rw [List.length_reverse]
            omega
theorem ok_draw (F : Fun K "_law_draw" "_law_draw" s_law_draw f fd) (T : TxtD K mg a) : FnOk P w K mg base CX0 1 f fd ["_law_deal_here", "_law_many"] spDraw := by
  refine F.ok sc_law_draw (fun vs H Q E h => ?_) (fun cdv A outer s H vs Q E hr h => ?_)
  · obtain ⟨_, _, _, rfl, _⟩ := h
    rfl
  · obtain ⟨d, l, n, rfl, D, n1, n2, k⟩ := h
    obtain ⟨cs0, b0, hd0, hl0, c0, c1, q0, q1⟩ := D.ex
    have ndl : d ≠ l := D.ne
    have rest : ∃ t, PSs (cxOf CX0 P w K mg base N_law_draw "_law_draw" (defScope s_law_draw) f cdv A outer s H E).nox ((defBody s_law_draw).drop 1) t ∧
        ∀ (cs : List Int) (H1 : Hp), H1 d = some (.lst [.ref l, .int b0]) → H1 l = some (.lst (cs.map V.int)) → (∀ c ∈ cs, 0 ≤ c) → cs.length ≤ 63 → Keep d l H H1 → t { nx := fun _ H' => Q .non H', rt := Q } [some (.ref d), some (.int n), none] H1 := by
      refine ⟨_, (pss_cons (ps_if (pt_cmpR (op_neD hr.units) (pe_ix ix_list (pv 0) pe_int (fun _ _ => rfl)) (pe_lst pa_nil) (nomark _)) (pss_cons (ps_set (i := 2) sc_law_draw.nd rfl (Or.inl rfl) (pe_bm0 PySem.F.plainAttrs_list PySem.F.slot_list_pop PySem.F.type_list_pop mt_pop (pe_ix ix_list (pv 0) pe_int (fun _ _ => rfl))))
    (pss_cons (ps_expr (pe_bm PySem.F.plainAttrs_list PySem.F.slot_list_append PySem.F.type_list_append mt_append (pe_ix ix_list (pv 0) pe_int (fun _ _ => rfl)) (pa_cons (pe_op op_fdivN (pv 2) (pv 1)) pa_nil)))
    (pss_one (ps_ret (pe_op op_mod (pe_callTy call_int1 (by rfl) T.b_int (by decide +kernel) (pa_cons (pv 2) pa_nil)) (pv 1)))))) pss_nil)
    (pss_cons (ps_asg (pe_op op_mod (pe_callTy call_int1 (by rfl) T.b_int (by decide +kernel) (pa_cons (pe_op op_add (pe_op op_mul (pe_ix ix_list (pv 0) pe_int (fun _ _ => rfl)) pe_int) pe_int) pa_nil)) pe_int) (pg_sub (pv 0) pe_int set_list))
    (pss_one (ps_ret (pe_op op_mod (pe_callTy call_int1 (by rfl) T.b_int (by decide +kernel) (pa_cons (pe_op op_fdiv (pe_ix ix_list (pv 0) pe_int (fun _ _ => rfl)) pe_int) pa_nil)) (pv 1)))))), ?_⟩
      intro cs H1 hd hl c2 c3 kp
      refine ⟨_, rfl, _, _, _, _, rfl, rfl, .inl (.inl hd), atI_nat (j := 0) rfl, by decide, fun p hp => ?_⟩
      have s2 : Same H1 (upd H1 p (.lst [])) := Same.upd_new hp
      refine ne_nil (.inl (.inl (s2 _ _ hl))) (dp_ints cs) (PySem.W.ke_shaped_ints cs) upd_same ⟨_, rfl, ?_⟩
      replace hd := s2 _ _ hd
      replace hl := s2 _ _ hl
      replace kp := kp.trans (Keep.same (d := d) (l := l) s2)
      generalize upd H1 p (.lst []) = H2 at hd hl kp
      cases cs with
      | nil =>
        refine iteF ?_
        refine ⟨_, rfl, _, _, _, _, rfl, rfl, .inl (.inl hd), atI_nat (j := 1) rfl, _, _, rfl, rfl, .inl ⟨by omega, by omega⟩, _, _, rfl, rfl, .inl ⟨_, rfl, _, _, rfl, rfl, (by show (0 : Int) < 2147483647; decide), _, rfl, d, _, 1, 1, rfl, rfl, hd, rfl, ?_⟩⟩
        refine ⟨_, rfl, _, _, _, _, rfl, rfl, .inl (.inl upd_same), atI_nat (j := 1) rfl, _, _, rfl, rfl, ⟨by decide, by decide⟩, .inl ⟨_, rfl, _, rfl, _, _, rfl, rfl, n1, ?_⟩⟩
        refine k _ _ (Int.emod_nonneg _ (by omega)) (Int.emod_lt_of_pos _ n1) ⟨⟨[], (b0 * 69621 + 13) % 2147483647, upd_same, ?_, c2, c3, Int.emod_nonneg _ (by decide), Int.emod_lt_of_pos _ (by decide)⟩⟩ (kp.trans Keep.upd_d)
        rw [upd_ne ndl.symm]
        exact hl
      | cons c cs =>
        refine iteT ?_
        obtain ⟨xs, y, e⟩ := snoc c cs
        rw [e] at hl c2 c3
        rw [List.map_append] at hl
        have hy0 : 0 ≤ y := c2 y (by simp)
        refine ⟨_, rfl, _, _, _, _, rfl, rfl, .inl (.inl hd), atI_nat (j := 0) rfl, .inl ⟨rfl, _, .inl (.inl hl)⟩, l, _, .int y, rfl, rfl, hl, ?_, ?_⟩
        · rw [List.length_append, List.map_cons, List.map_nil]
          simp
        rw [List.map_cons, List.map_nil, List.dropLast_concat]
        have hd3 : (upd H2 l (.lst (xs.map V.int))) d = some (.lst [.ref l, .int b0]) := by
          rw [upd_ne ndl]
          exact hd
        refine ⟨_, rfl, _, _, _, _, rfl, rfl, .inl (.inl hd3), atI_nat (j := 0) rfl, .inl ⟨rfl, _, .inl (.inl upd_same)⟩, _, rfl, _, rfl, _, _, rfl, rfl, ⟨by omega, by omega⟩, l, _, _, rfl, rfl, upd_same, ?_, ?_⟩
        · rw [List.length_map]
          rw [List.length_append] at c3
          exact small1000 (by omega)
        refine ⟨_, rfl, .inl ⟨_, rfl, _, rfl, _, _, rfl, rfl, n1, ?_⟩⟩
        refine k _ _ (Int.emod_nonneg _ (by omega)) (Int.emod_lt_of_pos _ n1) ⟨⟨xs ++ [y.fdiv n], b0, ?_, ?_, ?_, ?_, q0, q1⟩⟩ ((kp.trans Keep.upd_l).trans Keep.upd_l)
        · rw [upd_ne ndl]
          exact hd3
        · rw [List.map_append]
          exact upd_same
        · intro c hc
          rcases List.mem_append.mp hc with hc | hc
          · exact c2 c (List.mem_append_left _ hc)
          · rw [List.mem_singleton.mp hc, Int.fdiv_eq_ediv_of_nonneg _ (by omega)]
            exact Int.ediv_nonneg hy0 (by omega)
        · rw [List.length_append] at c3 ⊢
          exact c3
    obtain ⟨tr, hrest, krest⟩ := rest
    refine ⟨_, pss_cons (ps_while PassesOwn.never (PW.pt (pw_and (pt_cmpR (op_neD hr.units) (pe_ix ix_list (pv 0) pe_int (fun _ _ => rfl)) (pe_lst pa_nil) (nomark _)) (pw_and1 (pt_cmpR op_eq (pe_ix ix_list (pe_ix ix_list (pv 0) pe_int (fun _ _ => rfl)) (pe_un un_neg pe_int) (fun _ _ => rfl)) pe_int (nomark _))))) (pss_one (ps_expr (pe_bm0 PySem.F.plainAttrs_list PySem.F.slot_list_pop PySem.F.type_list_pop mt_pop (pe_ix ix_list (pv 0) pe_int (fun _ _ => rfl)))))) hrest, ?_⟩
    refine ⟨DrawW d l n b0 H, ⟨_, cs0, rfl, hd0, hl0, c0, c1, rfl, Keep.refl d l H⟩, ?_⟩
    rintro m σ H1 ⟨cs, rfl, hd, hl, c2, c3, rfl, kp⟩
    refine ⟨_, rfl, _, _, _, _, rfl, rfl, .inl (.inl hd), atI_nat (j := 0) rfl, by decide, fun p hp => ?_⟩
    have s2 : Same H1 (upd H1 p (.lst [])) := Same.upd_new hp
    refine ne_nil (.inl (.inl (s2 _ _ hl))) (dp_ints cs) (PySem.W.ke_shaped_ints cs) upd_same ⟨_, rfl, ?_⟩
    replace hd := s2 _ _ hd
    replace hl := s2 _ _ hl
    replace kp := kp.trans (Keep.same (d := d) (l := l) s2)
    generalize upd H1 p (.lst []) = H2 at hd hl kp
    cases cs with
    | nil => exact iteF (iteF (krest [] H2 hd hl c2 c3 kp))
    | cons c cs =>
      refine iteT ?_
      obtain ⟨xs, y, e⟩ := snoc c cs
      rw [e] at hl c2 c3
      rw [List.map_append] at hl
      refine ⟨_, rfl, _, _, _, _, rfl, rfl, .inl (.inl hd), atI_nat (j := 0) rfl, _, rfl, l, _, _, _, rfl, rfl, .inl (.inl hl), atI_last _ _, rfl, _, rfl, ?_⟩
      by_cases hy : V.int y = V.int 0
      · rw [decide_eq_true hy]
        refine iteT ⟨DrawW d l n b0 H xs.length, fun σ' H' w => ⟨_, ?_, w⟩, ?_⟩
        · rw [e, List.length_append]
          simp
        · refine ⟨_, rfl, _, _, _, _, rfl, rfl, .inl (.inl hd), atI_nat (j := 0) rfl, .inl ⟨rfl, _, .inl (.inl hl)⟩, l, _, .int y, rfl, rfl, hl, ?_, xs, rfl, ?_, ?_, ?_, ?_, rfl, ?_⟩
          · rw [List.length_append, List.map_cons, List.map_nil]
            simp
          · rw [upd_ne ndl]
            exact hd
          · rw [List.map_cons, List.map_nil, List.dropLast_concat]
            exact upd_same
          · intro c hc
            exact c2 c (List.mem_append_left _ hc)
          · rw [List.length_append] at c3
            omega
          · exact kp.trans Keep.upd_l
      · rw [decide_eq_false hy]
        refine iteF (krest (xs ++ [y]) H2 hd (by rw [List.map_append]; exact hl) c2 c3 kp)
theorem ok_pick {f1 : FuncData} (F : Fun K "_law_pick" "_law_pick" s_law_pick f fd) (T : TxtD K mg a) (G__law_draw : FnOk P w K mg base CX0 1 a.draw f1 ["_law_deal_here", "_law_many"] spDraw) (b__law_draw : Binds K f1 ["_law_deal_here", "_law_many"] []) :
    FnOk P w K mg base CX0 2 f fd ["_law_deal_here", "_law_some"] (spPick K) := by
  refine F.ok sc_law_pick (fun vs H Q E h => ?_) (fun cdv A outer s H vs Q E hr h => ?_)
  · obtain ⟨_, _, _, _, rfl, _⟩ := h
    rfl
  · obtain ⟨d, l, sa, xs, rfl, D, hs, e1, e2, hne, hlen, k⟩ := h
    refine ⟨_, (pss_one (ps_ret (pe_ix ix_list (pv 1) (pe_call G__law_draw (hr.mono (by decide)) rfl T.g__law_draw T.k__law_draw b__law_draw .nil pass0 (pa_cons (pv 0) (pa_cons (pe_callB call_len (by rfl) T.b_len PySem.boot_len (pa_cons (pv 1) pa_nil)) pa_nil))) (fun _ _ => rfl)))), ?_⟩
    have hl : 0 < xs.length := List.length_pos_iff.mpr hne
    refine ⟨_, rfl, _, rfl, _, rfl, _, xs.length, rfl, .inl ⟨_, .inl (.inl hs), rfl⟩, d, l, (xs.length : Int), rfl, D, by omega, by omega, fun r H' r1 r2 D' kp => ?_⟩
    obtain ⟨j, rfl⟩ := Int.eq_ofNat_of_zero_le r1
    have hj : j < xs.length := by omega
    refine ⟨_, _, _, xs[j], rfl, rfl, .inl (.inl (kp _ _ hs e1 e2)), atI_nat (List.getElem?_eq_getElem hj), ?_⟩
    exact k _ _ (List.getElem_mem hj) D' kp
theorem ok_names {f1 : FuncData} (F : Fun K "_law_names" "_law_names" s_law_names f fd) (T : TxtD K mg a) (G__law_draw : FnOk P w K mg base CX0 1 a.draw f1 ["_law_deal_here", "_law_many"] spDraw) (b__law_draw : Binds K f1 ["_law_deal_here", "_law_many"] []) :
    FnOk P w K mg base CX0 2 f fd ["_law_deal_here", "_law_many"] spNames := by
  refine F.ok sc_law_names (fun vs H Q E h => ?_) (fun cdv A outer s H vs Q E hr h => ?_)
  · obtain ⟨_, _, _, rfl, _⟩ := h
    rfl
  · obtain ⟨d, l, n, rfl, D, n0, n1, k⟩ := h
    refine ⟨_, (pss_cons (ps_set (i := 2) sc_law_names.nd rfl (Or.inr rfl) (pe_lst (pa_cons pe_str (pa_cons pe_str (pa_cons pe_str (pa_cons pe_str (pa_cons pe_str (pa_cons pe_str (pa_cons pe_str (pa_cons pe_str (pa_cons pe_str (pa_cons pe_str (pa_cons pe_str (pa_cons pe_str pa_nil))))))))))))))
    (pss_cons (ps_asg (pe_tup (pa_cons (pe_call G__law_draw (hr.mono (by decide)) rfl T.g__law_draw T.k__law_draw b__law_draw .nil pass0 (pa_cons (pv 0) (pa_cons pe_int pa_nil))) (pa_cons (pe_call G__law_draw (hr.mono (by decide)) rfl T.g__law_draw T.k__law_draw b__law_draw .nil pass0 (pa_cons (pv 0) (pa_cons pe_int pa_nil))) pa_nil))) (pg_tup rfl (pgs_cons (pg_name (i := 3) sc_law_names.nd rfl (Or.inl rfl)) (pgs_cons (pg_name (i := 4) sc_law_names.nd rfl (Or.inr rfl)) pgs_nil))))
    (pss_cons (ps_if (pt_cmpR op_eq (pv 3) pe_int (nomark _)) (pss_one (ps_ret (pe_lc (own := [("_law_k", 6)]) (g := gName 6) (tt := tYes) rfl sc_law_names.nd (pi_range1 rfl T.b_range (pa_cons (pv 1) pa_nil)) (blkOk_by (N := N_law_names) (sc := defScope s_law_names) (by decide +kernel)) (fun _ _ _ _ _ => (pg_name (i := 6) sc_law_names.nd rfl (Or.inl rfl))) (fun _ _ _ _ _ => pts_nil) (fun _ _ _ _ _ => (pe_ix (ix_listK (K := K) rfl) (pv 2) (pe_op op_mod (pe_callTy call_int1 (by rfl) T.b_int (by decide +kernel) (pa_cons (pe_op op_add (pv 4) (pe_op op_mul pe_int (pv 6))) pa_nil)) pe_int) (fun _ _ => rfl)))))) pss_nil)
    (pss_cons (ps_set (i := 5) sc_law_names.nd rfl (Or.inr rfl) pe_str)
    (pss_one (ps_ret (pe_lc (own := [("_law_k", 6)]) (g := gName 6) (tt := tYes) rfl sc_law_names.nd (pi_range1 rfl T.b_range (pa_cons (pv 1) pa_nil)) (blkOk_by (N := N_law_names) (sc := defScope s_law_names) (by decide +kernel)) (fun _ _ _ _ _ => (pg_name (i := 6) sc_law_names.nd rfl (Or.inl rfl))) (fun _ _ _ _ _ => pts_nil) (fun _ _ _ _ _ => (pe_op op_add_str (pe_ix ix_str (pv 5) (pe_op op_mod (pe_callTy call_int1 (by rfl) T.b_int (by decide +kernel) (pa_cons (pe_op op_add (pv 4) (pe_op op_mul pe_int (pv 6))) pa_nil)) pe_int) (fun _ _ => rfl)) (pe_op op_rep_str pe_str (pe_op op_mod (pe_callTy call_int1 (by rfl) T.b_int (by decide +kernel) (pa_cons (pv 4) pa_nil)) pe_int))))))))))), ?_⟩
    refine ⟨(by show 12 ≤ sizeLine; decide), fun sa hsa => ?_⟩
    have s1 : (upd H sa (.lst (nameL.map V.str))) sa = some (.lst (nameL.map V.str)) := upd_same
    have sd : sa ≠ d := D.nd hsa
    have sl : sa ≠ l := D.nl hsa
    have D1 : DealAt (upd H sa (.lst (nameL.map V.str))) d l := D.same (Same.upd_new hsa)
    have kp1 : Keep d l H (upd H sa (.lst (nameL.map V.str))) := Keep.same (Same.upd_new hsa)
    refine ⟨_, rfl, d, l, 3, rfl, D1, by decide, by decide, fun r1 H2 r10 r11 D2 kp2 => ?_⟩
    refine ⟨_, rfl, d, l, 26, rfl, D2, by decide, by decide, fun r2 H3 r20 r21 D3 kp3 => ?_⟩
    refine ⟨(by show 2 ≤ sizeLine; decide), fun tp ht => ⟨tp, _, rfl, .inl (.inl upd_same), rfl, _, _, rfl, _, _, rfl, rfl, ?_⟩⟩
    have s4 : Same H3 (upd H3 tp (.tup [.int r1, .int r2])) := Same.upd_new ht
    have D4 := D3.same s4
    have kp4 : Keep d l H (upd H3 tp (.tup [.int r1, .int r2])) := ((kp1.trans kp2).trans kp3).trans (Keep.same s4)
    have h4 := s4 _ _ (kp3 _ _ (kp2 _ _ s1 sd sl) sd sl)
    generalize upd H3 tp (.tup [.int r1, .int r2]) = H4 at s4 D4 kp4 h4
    refine ⟨_, rfl, rfl, _, rfl, ?_⟩
    refine ite2 (fun _ => ?_) (fun _ => ?_)
    · refine ⟨_, rfl, n, rfl, by omega, by omega, fun DD hD => ?_⟩
      refine lc_range (lo := 0) (n := n.toNat) (fun i H' => Same H4 H' ∧ ∃ zs : List Str, H' DD = some (.lst (zs.map V.str)) ∧ zs.length = i ∧ ∀ z ∈ zs, z ∈ allNames) ⟨Same.upd_new hD, [], upd_same, rfl, fun _ h => by cases h⟩ ?_ ?_
      · rintro i H' hi ⟨t1, zs, t2, t3, t4⟩
        have e0 : 0 ≤ (r2 + 5 * (0 + (i : Int))) % 12 := Int.emod_nonneg _ (by decide)
        have e1 : (r2 + 5 * (0 + (i : Int))) % 12 < 12 := Int.emod_lt_of_pos _ (by decide)
        obtain ⟨j, hj⟩ := Int.eq_ofNat_of_zero_le e0
        have hlt : j < nameL.length := by
          show j < 12
          omega
        refine ⟨rfl, _, rfl, _, rfl, _, rfl, _, _, rfl, rfl, .inl ⟨by decide, by decide⟩, _, _, rfl, rfl, .inl ⟨_, rfl, _, _, rfl, rfl, (by show (0 : Int) < 12; decide), sa, nameL.map V.str, _, V.str nameL[j], rfl, rfl, .inl (.inl (t1 _ _ h4)), at_of hj ?_, _, t2, ?_, ?_⟩⟩
        · rw [List.getElem?_map, List.getElem?_eq_getElem hlt]
          rfl
        · rw [List.length_map, t3]
          exact small1000 (by omega)
        · refine ⟨fun b o e => ?_, zs ++ [nameL[j]], ?_, ?_, ?_⟩
          · rw [upd_ne (ne_of_none e hD)]
            exact t1 b o e
          · rw [List.map_append]
            exact upd_same
          · rw [List.length_append, t3]
            rfl
          · intro z hz
            rcases List.mem_append.mp hz with hz | hz
            · exact t4 z hz
            · rw [List.mem_singleton.mp hz]
              exact List.mem_append_left _ (List.getElem_mem hlt)
      · rintro H' ⟨t1, zs, t2, t3, t4⟩
        exact k DD zs H' (kp4.free D D4 hD) t2 t3 t4 (D4.same t1) (kp4.trans (Keep.same t1))
    · refine ⟨_, rfl, n, rfl, by omega, by omega, fun DD hD => ?_⟩
      refine lc_range (lo := 0) (n := n.toNat) (fun i H' => Same H4 H' ∧ ∃ zs : List Str, H' DD = some (.lst (zs.map V.str)) ∧ zs.length = i ∧ ∀ z ∈ zs, z ∈ allNames) ⟨Same.upd_new hD, [], upd_same, rfl, fun _ h => by cases h⟩ ?_ ?_
      · rintro i H' hi ⟨t1, zs, t2, t3, t4⟩
        have e0 : 0 ≤ (r2 + 7 * (0 + (i : Int))) % 26 := Int.emod_nonneg _ (by decide)
        have e1 : (r2 + 7 * (0 + (i : Int))) % 26 < 26 := Int.emod_lt_of_pos _ (by decide)
        obtain ⟨j, hj⟩ := Int.eq_ofNat_of_zero_le e0
        have hlt : j < letL.cps.toList.length := by
          have : letL.cps.toList.length = 26 := by decide +kernel
          omega
        have w0 : 0 ≤ r2 % 4 := Int.emod_nonneg _ (by decide)
        have w1 : r2 % 4 < 4 := Int.emod_lt_of_pos _ (by decide)
        have w2 : r2 % 4 ∈ ([0, 1, 2, 3] : List Int) := by
          have : r2 % 4 = 0 ∨ r2 % 4 = 1 ∨ r2 % 4 = 2 ∨ r2 % 4 = 3 := by omega
          rcases this with e | e | e | e <;> rw [e] <;> decide
        refine ⟨rfl, _, rfl, _, rfl, _, rfl, _, _, rfl, rfl, .inl ⟨by decide, by decide⟩, _, _, rfl, rfl, .inl ⟨_, rfl, _, _, rfl, rfl, (by show (0 : Int) < 26; decide), letL, _, letL.cps.toList[j], rfl, rfl, (by decide +kernel), (by rw [hj]; exact atI_nat (List.getElem?_eq_getElem hlt)), ?_⟩⟩
        · refine ⟨_, rfl, .inl ⟨_, rfl, _, _, rfl, rfl, (by show (0 : Int) < 4; decide), _, _, rfl, rfl, mul_ok w2, _, _, rfl, rfl, ?_, _, t2, ?_, ?_⟩⟩
          · have := mul_len w2
            have e : (⟨#[letL.cps.toList[j]]⟩ : Str).length = 1 := rfl
            rw [e]
            exact len1000 (by omega)
          · rw [List.length_map, t3]
            exact small1000 (by omega)
          · refine ⟨fun b o e => ?_, zs ++ [(⟨#[letL.cps.toList[j]]⟩ : Str) ++ Txt.mul "w" (r2 % 4)], ?_, ?_, ?_⟩
            · rw [upd_ne (ne_of_none e hD)]
              exact t1 b o e
            · rw [List.map_append]
              exact upd_same
            · rw [List.length_append, t3]
              rfl
            · intro z hz
              rcases List.mem_append.mp hz with hz | hz
              · exact t4 z hz
              · rw [List.mem_singleton.mp hz]
                exact List.mem_append_right _ (List.mem_flatMap.mpr ⟨_, List.getElem_mem hlt, List.mem_map.mpr ⟨_, w2, rfl⟩⟩)
      · rintro H' ⟨t1, zs, t2, t3, t4⟩
        exact k DD zs H' (kp4.free D D4 hD) t2 t3 t4 (D4.same t1) (kp4.trans (Keep.same t1))
theorem ok_mixed {f1 : FuncData} (F : Fun K "_law_mixed" "_law_mixed" s_law_mixed f fd) (T : TxtD K mg a) (G__law_draw : FnOk P w K mg base CX0 1 a.draw f1 ["_law_deal_here", "_law_many"] spDraw) (b__law_draw : Binds K f1 ["_law_deal_here", "_law_many"] []) :
    FnOk P w K mg base CX0 2 f fd ["_law_deal_here", "_law_some"] spMixed := by
  refine F.ok sc_law_mixed (fun vs H Q E h => ?_) (fun cdv A outer s H vs Q E hr h => ?_)
  · obtain ⟨_, _, _, _, rfl, _⟩ := h
    rfl
  · obtain ⟨d, l, sa, zs, rfl, D, hs, e1, e2, hlen, hok, k⟩ := h
    refine ⟨_, (pss_cons (ps_par (i := 2) (j := 3) rfl sc_law_mixed.nd rfl rfl (by decide) rfl rfl (pa_cons (pe_callTy call_list_of (by rfl) T.b_list (by decide +kernel) (pa_cons (pv 1) pa_nil)) (pa_cons (pe_lst pa_nil) pa_nil)) rfl)
    (pss_cons (ps_while PassesOwn.never (pt_cmpR (op_neD hr.units) (pv 2) (pe_lst pa_nil) (nomark _)) (pss_one (ps_expr (pe_bm PySem.F.plainAttrs_list PySem.F.slot_list_append PySem.F.type_list_append mt_append (pv 3) (pa_cons (pe_bm PySem.F.plainAttrs_list PySem.F.slot_list_pop PySem.F.type_list_pop mt_popAt (pv 2) (pa_cons (pe_call G__law_draw (hr.mono (by decide)) rfl T.g__law_draw T.k__law_draw b__law_draw .nil pass0 (pa_cons (pv 0) (pa_cons (pe_callB call_len (by rfl) T.b_len PySem.boot_len (pa_cons (pv 2) pa_nil)) pa_nil))) pa_nil)) pa_nil)))))
    (pss_one (ps_ret (pv 3))))), ?_⟩
    refine ⟨_, rfl, _, _, rfl, .inl (.inl (.inl hs)), fun L hL => ⟨by decide, fun FF hF => ⟨_, _, rfl, ?_⟩⟩⟩
    have nLF : L ≠ FF := ne_of_none upd_same hF
    have hF0 : H FF = none := by
      rw [upd_ne nLF.symm] at hF
      exact hF
    have sm : Same H (upd (upd H L (.lst (zs.map V.str))) FF (.lst [])) := (Same.upd_new hL).trans (Same.upd_new hF)
    have dL := D.nd hL
    have lL := D.nl hL
    have dF := D.nd hF0
    have lF := D.nl hF0
    refine ⟨MixW d l sa L FF zs H, ⟨_, zs, [], rfl, by rw [upd_ne nLF]; exact upd_same, upd_same, (fun _ h => h), (fun _ h => by cases h), (by simp), D.same sm, Keep.same sm, rfl⟩, ?_⟩
    rintro m σ H1 ⟨xs, ys, rfl, h1, h2, x1, y1, ln, D1, kp, rfl⟩
    refine ⟨_, rfl, by decide, fun p hp => ?_⟩
    have s2 : Same H1 (upd H1 p (.lst [])) := Same.upd_new hp
    refine ne_nil (.inl (.inl (s2 _ _ h1))) (dp_strs xs) (shaped_strs fun z hz => hok z (x1 z hz)) upd_same ⟨_, rfl, ?_⟩
    replace h1 := s2 _ _ h1
    replace h2 := s2 _ _ h2
    replace kp := kp.trans (Keep.same (d := d) (l := l) s2)
    replace D1 := D1.same s2
    generalize upd H1 p (.lst []) = H2 at h1 h2 kp D1
    cases exs : xs with
    | nil =>
      refine iteF ?_
      rw [exs] at ln
      exact ⟨_, rfl, k FF ys H2 hF0 h2 (by simpa using ln) y1 D1 kp⟩
    | cons c cs =>
      refine iteT ⟨MixW d l sa L FF zs H (xs.length - 1), fun σ' H' w => ⟨_, ?_, w⟩, ?_⟩
      · rw [exs]
        simp
      have hpos : 0 < xs.length := by rw [exs]; simp
      refine ⟨_, rfl, .inl ⟨rfl, _, .inl (.inl h2)⟩, _, rfl, .inl ⟨rfl, _, .inl (.inl h1)⟩, _, rfl, _, rfl, _, xs.length, rfl, .inl ⟨_, .inl (.inl h1), by rw [List.length_map]⟩, d, l, _, rfl, D1, by omega, by omega, fun r H3 r0 r1 D3 kp3 => ?_⟩
      obtain ⟨j, rfl⟩ := Int.eq_ofNat_of_zero_le r0
      have hj : j < xs.length := by omega
      have h13 := kp3 _ _ h1 dL lL
      have h23 := kp3 _ _ h2 dF lF
      refine ⟨L, _, (j : Int), j, V.str xs[j], rfl, rfl, h13, by omega, by omega, ?_, ?_, ?_⟩
      · rw [List.length_map]
        exact seq_ix hj
      · rw [List.getElem?_map, List.getElem?_eq_getElem hj]
        rfl
      refine ⟨FF, ys.map V.str, _, rfl, rfl, (by rw [upd_ne nLF.symm]; exact h23), ?_, xs.eraseIdx j, ys ++ [xs[j]], rfl, ?_, ?_, ?_, ?_, ?_, ?_, ?_, ?_⟩
      · rw [List.length_map]
        exact small1000 (by omega)
      · rw [upd_ne nLF, upd_same, map_erase]
      · rw [List.map_append]
        exact upd_same
      · intro x hx
        exact x1 x (List.mem_of_mem_eraseIdx hx)
      · intro y hy
        rcases List.mem_append.mp hy with hy | hy
        · exact y1 y hy
        · rw [List.mem_singleton.mp hy]
          exact x1 _ (List.getElem_mem hj)
      · rw [List.length_append, List.length_eraseIdx_of_lt hj]
        simp only [List.length_cons, List.length_nil]
        omega
      · exact (D3.upd dL lL).upd dF lF
      · exact fun b o e q1 q2 => by
          rw [upd_ne (ne_of_none e hF0), upd_ne (ne_of_none e hL)]
          exact (kp.trans kp3) b o e q1 q2
      · rw [List.length_eraseIdx_of_lt hj]
end
end L2.Wk
namespace L2.Wk
open PySem PySem.Spec PyProof.Rows
/-! ### what is told right -/
theorem isX : isName "x" = true := by decide +kernel
theorem anyG : inV (.str "any") (guardsV.map V.str) = true := by decide +kernel
theorem all_of {ds : List Str} {f : Str → Bool} (h : ∀ z ∈ ds, f z = true) : (ds.map f).all id = true := by
  rw [List.all_map, List.all_eq_true]
  exact h
theorem all_not {ds : List Str} {f : Str → Bool} {z : Str} (hz : z ∈ ds) (h : f z = false) : (ds.map f).all id = false := by
  rw [List.all_map, List.all_eq_false]
  exact ⟨z, hz, by show ¬ f z = true; rw [h]; decide⟩
theorem lets_true {told : Str} {ds : List Str} (h1 : isEvent told = true) (h2 : ∀ z ∈ ds, mayDo told z = true) : letsV told ds = .bl true := by
  unfold letsV ruleErr
  rw [isX, anyG, h1, all_of h2]
  rfl
theorem lets_deeds {told z : Str} {ds : List Str} (h1 : isEvent told = true) (hz : z ∈ ds) (h2 : mayDo told z = false) : letsV told ds = .str "deeds" := by
  unfold letsV ruleErr
  rw [isX, anyG, h1, all_not hz h2]
  rfl
theorem lets_event {told : Str} {ds : List Str} (h1 : isEvent told = false) : letsV told ds = .str "event" := by
  unfold letsV ruleErr
  rw [isX, h1]
  rfl
/-! ### the law's lists, of a name -/
def goodE (z : Str) : List Str := ["ask", "idle", "tick", Str.ofString "dip " ++ z, Str.ofString "spill " ++ z]
def plain4 : List Str := txts ["hold", "go", "answer", "forget"]
def words7 : List Str := txts ["fence", "open", "save", "load", "cut", "power", "reset"]
def withName (z u : Str) : Str := u ++ Str.ofString " " ++ z
def someD (z : Str) : List Str := plain4 ++ words7.map (withName z)
def okT (z : Str) : Bool := PyData.strOk z && decide (z.length ≤ 100)
def chkA (z : Str) : Bool := okT z && (goodE z).all (fun u => okT u && isEvent u) && (someD z).all (fun u => okT u && isDeed u && !decide (V.str u = V.str "note")) && !isDeed z
theorem chkA_all : allNames.all chkA = true := by decide +kernel
def oddE0 : List Str := txts ["asks", "Ask", "", " ", "dip", "spill", "dip none", "spill kept"]
def oddE1 : List Str := txts ["tick tick", "hold", "dip abcde"]
def oddE (z : Str) : List Str := oddE0 ++ [Str.ofString "dip  " ++ z, z] ++ ([Str.ofString "dip any", Str.ofString "dip " ++ z ++ Str.ofString " ", Str.ofString "ask " ++ z] ++ oddE1) ++ [Str.ofString "save " ++ z, Str.ofString "dip " ++ z ++ Str.ofString "\n"]
def oddD0 : List Str := txts ["load note", "fence go", "cut dip", "power 1", "reset A", "answers", "no", ""]
def oddD (z : Str) : List Str := [Str.ofString "ask", Str.ofString "tick", Str.ofString "dip " ++ z, Str.ofString "hold " ++ z, Str.ofString "go go", Str.ofString "save", Str.ofString "open", Str.ofString "save " ++ z ++ Str.ofString " ", Str.ofString " go"] ++ oddD0 ++ [Str.ofString "cut " ++ z ++ Str.ofString ", go"]
def chkE (z : Str) : Bool := [Str.ofString "dip  " ++ z, z, Str.ofString "dip " ++ z ++ Str.ofString " ", Str.ofString "ask " ++ z, Str.ofString "save " ++ z, Str.ofString "dip " ++ z ++ Str.ofString "\n"].all fun u => okT u && !isEvent u
def chkD (z : Str) : Bool := [Str.ofString "dip " ++ z, Str.ofString "hold " ++ z, Str.ofString "save " ++ z ++ Str.ofString " ", Str.ofString "cut " ++ z ++ Str.ofString ", go"].all fun u => okT u && !isDeed u
theorem chkE_all : allNames.all chkE = true := by decide +kernel
theorem chkD_all : allNames.all chkD = true := by decide +kernel
theorem chkE0 : (oddE0 ++ txts ["dip any"] ++ oddE1).all (fun u => okT u && !isEvent u) = true := by decide +kernel
theorem chkD0 : (txts ["ask", "tick", "go go", "save", "open", " go"] ++ oddD0).all (fun u => okT u && !isDeed u) = true := by decide +kernel
end L2.Wk
namespace L2.Wk
open PySem PySem.Spec PyProof.Rows
abbrev s_law : Stmt := top 29
abbrev N_law : List Str := ["_law_script", "_law_deal_here", "_law_turn", "_law_name", "_law_good", "_law_some", "_law_word", "_law_few", "_law_odd", "_law_told", "_law_deed"]
theorem sc_law : FnScope N_law ["_law_script"] (defScope s_law) := ⟨rfl, rfl, rfl, by decide +kernel, rfl, by decide +kernel, by decide +kernel⟩
def spLaw (K : PySem.W.Frag) : Sp := fun vs H Q _ => ∃ (a : Addr) (ns : List Int), vs = [.ref a] ∧ SqL K H a (ns.map V.int) ∧ ns.length ≤ 63 ∧ ∀ H', Q (.bl true) H'
structure TxtL (K : PySem.W.Frag) (mg : Str → Option Value) (a : Ds) (fl : Addr) : Prop extends TxtD K mg a where
  g__law_lets : mg "_law_lets" = some (.ref fl)
  k__law_lets : PySem.W.keepIn K (.ref fl) = true
/-- what a name's lists are known by -/
structure Nm (z : Str) : Prop where
  ok : PyData.strOk z = true
  len : z.length ≤ 100
  ev : ∀ u ∈ goodE z, PyData.strOk u = true ∧ u.length ≤ 100 ∧ isEvent u = true
  de : ∀ u ∈ someD z, PyData.strOk u = true ∧ u.length ≤ 100 ∧ isDeed u = true ∧ decide (V.str u = V.str "note") = false
  no : isDeed z = false
  oE : ∀ u ∈ oddE z, PyData.strOk u = true ∧ u.length ≤ 100 ∧ isEvent u = false
  oD : ∀ u ∈ oddD z, PyData.strOk u = true ∧ u.length ≤ 100 ∧ isDeed u = false
theorem chk_mem {f : Str → Bool} (h : allNames.all f = true) {z : Str} (hz : z ∈ allNames) : f z = true := (List.all_eq_true.mp h) z hz
theorem nm_of {z : Str} (hz : z ∈ allNames) : Nm z := by
  have cA := chk_mem chkA_all hz
  have cE := chk_mem chkE_all hz
  have cD := chk_mem chkD_all hz
  have cE0 := chkE0
  have cD0 := chkD0
  unfold chkA okT at cA
  unfold chkE okT at cE
  unfold chkD okT at cD
  unfold okT at cE0 cD0
  simp only [Bool.and_eq_true, decide_eq_true_eq, List.all_eq_true, Bool.not_eq_true'] at cA cE cD cE0 cD0
  obtain ⟨⟨⟨⟨a1, a2⟩, a3⟩, a4⟩, a5⟩ := cA
  refine ⟨a1, a2, fun u hu => ?_, fun u hu => ?_, a5, fun u hu => ?_, fun u hu => ?_⟩
  · obtain ⟨⟨q1, q2⟩, q3⟩ := a3 u hu
    exact ⟨q1, q2, q3⟩
  · obtain ⟨⟨⟨q1, q2⟩, q3⟩, q4⟩ := a4 u hu
    exact ⟨q1, q2, q3, q4⟩
  · have : u ∈ oddE0 ++ txts ["dip any"] ++ oddE1 ∨ u ∈ [Str.ofString "dip  " ++ z, z, Str.ofString "dip " ++ z ++ Str.ofString " ", Str.ofString "ask " ++ z, Str.ofString "save " ++ z, Str.ofString "dip " ++ z ++ Str.ofString "\n"] := by
      unfold oddE at hu
      simp only [txts, List.map_cons, List.map_nil, List.mem_append, List.mem_cons, List.not_mem_nil, or_false] at hu ⊢
      rcases hu with ((h | h | h) | (h | h | h) | h) | h | h <;> simp [h]
    rcases this with h | h
    · obtain ⟨⟨q1, q2⟩, q3⟩ := cE0 u h
      exact ⟨q1, q2, q3⟩
    · obtain ⟨⟨q1, q2⟩, q3⟩ := cE u h
      exact ⟨q1, q2, q3⟩
  · have : u ∈ txts ["ask", "tick", "go go", "save", "open", " go"] ++ oddD0 ∨ u ∈ [Str.ofString "dip " ++ z, Str.ofString "hold " ++ z, Str.ofString "save " ++ z ++ Str.ofString " ", Str.ofString "cut " ++ z ++ Str.ofString ", go"] := by
      unfold oddD at hu
      simp only [txts, List.map_cons, List.map_nil, List.mem_append, List.mem_cons, List.not_mem_nil, or_false] at hu ⊢
      rcases hu with ((h | h | h | h | h | h | h | h | h) | h) | h <;> simp [h]
    rcases this with h | h
    · obtain ⟨⟨q1, q2⟩, q3⟩ := cD0 u h
      exact ⟨q1, q2, q3⟩
    · obtain ⟨⟨q1, q2⟩, q3⟩ := cD u h
      exact ⟨q1, q2, q3⟩
theorem get_map_str {zs : List Str} {i : Nat} {x : V} (h : (zs.map V.str)[i]? = some x) : ∃ z, z ∈ zs ∧ zs[i]? = some z ∧ x = V.str z := by
  rw [List.getElem?_map] at h
  cases e : zs[i]? with
  | none => rw [e] at h; cases h
  | some z => rw [e] at h; exact ⟨z, List.mem_of_getElem? e, rfl, (Option.some.inj h).symm⟩
theorem may_good {told u : Str} (h1 : isDeed u = true) (h2 : decide (V.str u = V.str "note") = false) : mayDo told u = true := by
  unfold mayDo
  rw [h1, h2]
  rfl
theorem may_bad {told u : Str} (h1 : isDeed u = false) : mayDo told u = false := by
  unfold mayDo
  rw [h1]
  rfl
theorem may_note : mayDo "ask" "note" = true := by decide +kernel
theorem chkN_all : allNames.all (fun z => ((goodE z).drop 1).all fun u => !decide (V.str u = V.str "ask")) = true := by decide +kernel
theorem good_note {z : Str} (hz : z ∈ allNames) : ∀ u ∈ (goodE z).drop 1, mayDo u "note" = false := fun u hu => by
  have h := (List.all_eq_true.mp (chk_mem chkN_all hz)) u hu
  simp only [Bool.not_eq_true'] at h
  unfold mayDo
  rw [h]
  have : isDeed "note" = true := by decide +kernel
  rw [this]
  rfl
theorem cut_tail (xs : List V) : cutV xs (some 1) none = xs.drop 1 := by
  unfold cutV
  have e1 : HT.sIx xs.length 0 (some 1) = min 1 xs.length := HT.sIx_nat xs.length 0 1
  rw [e1, HT.sIx_none]
  cases xs with
  | nil => rfl
  | cons x xs =>
    have : min 1 (x :: xs).length = 1 := by simp
    rw [this]
    simp
theorem cut_eight (xs : List V) : cutV xs none (some 8) = xs.take 8 := by
  unfold cutV
  have e1 : HT.sIx xs.length xs.length (some 8) = min 8 xs.length := HT.sIx_nat xs.length xs.length 8
  rw [e1, HT.sIx_none]
  simp [List.take_eq_take_iff]
theorem words_len : ∀ u ∈ words7, u.length ≤ 10 := by decide +kernel
theorem app_len (a b : Str) : (a ++ b).length = a.length + b.length := by
  show (Str.append a b).cps.size = a.cps.size + b.cps.size
  exact Array.size_append
section
variable {P : Program} {w : World} {K : PySem.W.Frag} {mg : Str → Option Value} {base : Heap} {a : Ds} {f fl : Addr} {fd : FuncData}
theorem ok_law {f1 f2 f3 f4 f5 : FuncData} (F : Fun K "law" "law" s_law f fd) (T : TxtL K mg a fl)
    (G__law_deal : FnOk P w K mg base CX0 1 a.deal f1 ["_law_script", "_law_base"] (spDeal K)) (b__law_deal : Binds K f1 ["_law_script", "_law_base"] [])
    (G__law_pick : FnOk P w K mg base CX0 2 a.pick f2 ["_law_deal_here", "_law_some"] (spPick K)) (b__law_pick : Binds K f2 ["_law_deal_here", "_law_some"] [])
    (G__law_mixed : FnOk P w K mg base CX0 2 a.mixed f3 ["_law_deal_here", "_law_some"] spMixed) (b__law_mixed : Binds K f3 ["_law_deal_here", "_law_some"] [])
    (G__law_names : FnOk P w K mg base CX0 2 a.names f4 ["_law_deal_here", "_law_many"] spNames) (b__law_names : Binds K f4 ["_law_deal_here", "_law_many"] [])
    (G__law_lets : FnOk P w K mg base CX0 7 fl f5 ["_law_told", "_law_row"] spLets) (b__law_lets : Binds K f5 ["_law_told", "_law_row"] []) :
    FnOk P w K mg base CX0 8 f fd ["_law_script"] (spLaw K) := by
  refine F.ok sc_law (fun vs H Q E h => ?_) (fun cdv A outer s H vs Q E hr h => ?_)
  · obtain ⟨_, _, rfl, _⟩ := h
    rfl
  · obtain ⟨sa, ns, rfl, hS, hlen, k⟩ := h
    refine ⟨_, (pss_cons (ps_set (i := 1) sc_law.nd rfl (Or.inr rfl) (pe_call G__law_deal (hr.mono (by decide)) rfl T.g__law_deal T.k__law_deal b__law_deal .nil pass0 (pa_cons (pv 0) (pa_cons pe_int pa_nil))))
    (pss_cons (ps_for PassesOwn.never rfl (pi_range1 rfl T.b_range (pa_cons pe_int pa_nil)) (pg_name (i := 2) sc_law.nd rfl (Or.inl rfl))
      (pss_cons (ps_set (i := 3) sc_law.nd rfl (Or.inl rfl) (pe_call G__law_pick (hr.mono (by decide)) rfl T.g__law_pick T.k__law_pick b__law_pick .nil pass0 (pa_cons (pv 1) (pa_cons (pe_call G__law_names (hr.mono (by decide)) rfl T.g__law_names T.k__law_names b__law_names .nil pass0 (pa_cons (pv 1) (pa_cons pe_int pa_nil))) pa_nil))))
      (pss_cons (ps_set (i := 4) sc_law.nd rfl (Or.inr rfl) (pe_lst (pa_cons pe_str (pa_cons pe_str (pa_cons pe_str (pa_cons (pe_op op_add_str pe_str (pv 3)) (pa_cons (pe_op op_add_str pe_str (pv 3)) pa_nil)))))))
      (pss_cons (ps_if (pt_cmpR (op_neD hr.units) (pe_lc (own := [("_law_told", 9)]) (g := gName 9) rfl sc_law.nd (pi_list (pv 4)) (blkOk_by (N := N_law) (sc := defScope s_law) (by decide +kernel)) (fun _ _ _ _ _ => (pg_name (i := 9) sc_law.nd rfl (Or.inl rfl))) (fun _ _ _ _ _ => (pts_one (pt_cmpR op_notBl (pe_call G__law_lets (hr.mono (by decide)) rfl T.g__law_lets T.k__law_lets b__law_lets .nil pass0 (pa_cons (pv 9) (pa_cons (pe_lst pa_nil) pa_nil))) pe_bl (nomark _)))) (fun _ _ _ _ _ => (pv 9))) (pe_lst pa_nil) (nomark _)) (pss_one (ps_ret pe_bl)) pss_nil)
      (pss_cons (ps_set (i := 5) sc_law.nd rfl (Or.inl rfl) (pe_lst (pa_cons pe_str (pa_cons pe_str (pa_cons pe_str (pa_cons pe_str pa_nil))))))
      (pss_cons (ps_for PassesOwn.never rfl (pi_list (pe_lst (pa_cons pe_str (pa_cons pe_str (pa_cons pe_str (pa_cons pe_str (pa_cons pe_str (pa_cons pe_str (pa_cons pe_str pa_nil))))))))) (pg_name (i := 6) sc_law.nd rfl (Or.inl rfl))
      (pss_one (ps_expr (pe_bm PySem.F.plainAttrs_list PySem.F.slot_list_append PySem.F.type_list_append mt_append (pv 5) (pa_cons (pe_op op_add_str (pe_op op_add_str (pv 6) pe_str) (pv 3)) pa_nil)))))
      (pss_cons (ps_if (pt_cmpR (op_neD hr.units) (pe_lc (own := [("_law_deed", 10)]) (g := gName 10) rfl sc_law.nd (pi_list (pv 5)) (blkOk_by (N := N_law) (sc := defScope s_law) (by decide +kernel)) (fun _ _ _ _ _ => (pg_name (i := 10) sc_law.nd rfl (Or.inl rfl))) (fun _ _ _ _ _ => (pts_one (pt_cmpR op_notBl (pe_call G__law_lets (hr.mono (by decide)) rfl T.g__law_lets T.k__law_lets b__law_lets .nil pass0 (pa_cons (pe_call G__law_pick (hr.mono (by decide)) rfl T.g__law_pick T.k__law_pick b__law_pick .nil pass0 (pa_cons (pv 1) (pa_cons (pv 4) pa_nil))) (pa_cons (pe_lst (pa_cons (pv 10) pa_nil)) pa_nil))) pe_bl (nomark _)))) (fun _ _ _ _ _ => (pv 10))) (pe_lst pa_nil) (nomark _)) (pss_one (ps_ret pe_bl)) pss_nil)
      (pss_cons (ps_if (pt_cmpR op_notBl (pe_call G__law_lets (hr.mono (by decide)) rfl T.g__law_lets T.k__law_lets b__law_lets .nil pass0 (pa_cons pe_str (pa_cons (pe_lst (pa_cons pe_str pa_nil)) pa_nil))) pe_bl (nomark _)) (pss_one (ps_ret pe_bl)) pss_nil)
      (pss_cons (ps_if (pt_cmpR op_ne (pe_call G__law_lets (hr.mono (by decide)) rfl T.g__law_lets T.k__law_lets b__law_lets .nil pass0 (pa_cons (pe_call G__law_pick (hr.mono (by decide)) rfl T.g__law_pick T.k__law_pick b__law_pick .nil pass0 (pa_cons (pv 1) (pa_cons (pe_slice sl_list (pv 4) (po_some pe_int) po_none) pa_nil))) (pa_cons (pe_lst (pa_cons pe_str pa_nil)) pa_nil))) pe_str (nomark _)) (pss_one (ps_ret pe_bl)) pss_nil)
      (pss_cons (ps_set (i := 7) sc_law.nd rfl (Or.inl rfl) (pe_slice sl_list (pe_call G__law_mixed (hr.mono (by decide)) rfl T.g__law_mixed T.k__law_mixed b__law_mixed .nil pass0 (pa_cons (pv 1) (pa_cons (pv 5) pa_nil))) po_none (po_some pe_int)))
      (pss_cons (ps_if (pt_cmpR op_notBl (pe_call G__law_lets (hr.mono (by decide)) rfl T.g__law_lets T.k__law_lets b__law_lets .nil pass0 (pa_cons pe_str (pa_cons (pe_op op_cat (pv 7) (pe_lst (pa_cons pe_str (pa_cons pe_str pa_nil)))) pa_nil))) pe_bl (nomark _)) (pss_one (ps_ret pe_bl)) pss_nil)
      (pss_cons (ps_if (pt_cmpR op_ne (pe_call G__law_lets (hr.mono (by decide)) rfl T.g__law_lets T.k__law_lets b__law_lets .nil pass0 (pa_cons pe_str (pa_cons (pe_op op_cat (pv 7) (pe_lst (pa_cons (pv 3) pa_nil))) pa_nil))) pe_str (nomark _)) (pss_one (ps_ret pe_bl)) pss_nil)
      (pss_cons (ps_set (i := 8) sc_law.nd rfl (Or.inl rfl) (pe_lst (pa_cons pe_str (pa_cons pe_str (pa_cons pe_str (pa_cons pe_str (pa_cons pe_str (pa_cons pe_str (pa_cons pe_str (pa_cons pe_str (pa_cons (pe_op op_add_str pe_str (pv 3)) (pa_cons (pv 3) pa_nil))))))))))))
      (pss_cons (ps_set (i := 8) sc_law.nd rfl (Or.inl rfl) (pe_op op_cat (pv 8) (pe_lst (pa_cons pe_str (pa_cons (pe_op op_add_str (pe_op op_add_str pe_str (pv 3)) pe_str) (pa_cons (pe_op op_add_str pe_str (pv 3)) (pa_cons pe_str (pa_cons pe_str (pa_cons pe_str pa_nil)))))))))
      (pss_cons (ps_set (i := 8) sc_law.nd rfl (Or.inl rfl) (pe_op op_cat (pv 8) (pe_lst (pa_cons (pe_op op_add_str pe_str (pv 3)) (pa_cons (pe_op op_add_str (pe_op op_add_str pe_str (pv 3)) pe_str) pa_nil)))))
      (pss_cons (ps_if (pt_cmpR (op_neD hr.units) (pe_lc (own := [("_law_told", 9)]) (g := gName 9) rfl sc_law.nd (pi_list (pv 8)) (blkOk_by (N := N_law) (sc := defScope s_law) (by decide +kernel)) (fun _ _ _ _ _ => (pg_name (i := 9) sc_law.nd rfl (Or.inl rfl))) (fun _ _ _ _ _ => (pts_one (pt_cmpR op_ne (pe_call G__law_lets (hr.mono (by decide)) rfl T.g__law_lets T.k__law_lets b__law_lets .nil pass0 (pa_cons (pv 9) (pa_cons (pe_lst pa_nil) pa_nil))) pe_str (nomark _)))) (fun _ _ _ _ _ => (pv 9))) (pe_lst pa_nil) (nomark _)) (pss_one (ps_ret pe_bl)) pss_nil)
      (pss_cons (ps_set (i := 8) sc_law.nd rfl (Or.inl rfl) (pe_lst (pa_cons pe_str (pa_cons pe_str (pa_cons (pe_op op_add_str pe_str (pv 3)) (pa_cons (pe_op op_add_str pe_str (pv 3)) (pa_cons pe_str (pa_cons pe_str (pa_cons pe_str (pa_cons (pe_op op_add_str (pe_op op_add_str pe_str (pv 3)) pe_str) (pa_cons pe_str pa_nil)))))))))))
      (pss_cons (ps_set (i := 8) sc_law.nd rfl (Or.inl rfl) (pe_op op_cat (pv 8) (pe_lst (pa_cons pe_str (pa_cons pe_str (pa_cons pe_str (pa_cons pe_str (pa_cons pe_str (pa_cons pe_str (pa_cons pe_str (pa_cons pe_str pa_nil)))))))))))
      (pss_cons (ps_expr (pe_bm PySem.F.plainAttrs_list PySem.F.slot_list_append PySem.F.type_list_append mt_append (pv 8) (pa_cons (pe_op op_add_str (pe_op op_add_str pe_str (pv 3)) pe_str) pa_nil)))
      (pss_one (ps_if (pt_cmpR (op_neD hr.units) (pe_lc (own := [("_law_deed", 10)]) (g := gName 10) rfl sc_law.nd (pi_list (pv 8)) (blkOk_by (N := N_law) (sc := defScope s_law) (by decide +kernel)) (fun _ _ _ _ _ => (pg_name (i := 10) sc_law.nd rfl (Or.inl rfl))) (fun _ _ _ _ _ => (pts_one (pt_cmpR op_ne (pe_call G__law_lets (hr.mono (by decide)) rfl T.g__law_lets T.k__law_lets b__law_lets .nil pass0 (pa_cons pe_str (pa_cons (pe_lst (pa_cons pe_str (pa_cons (pv 10) pa_nil))) pa_nil))) pe_str (nomark _)))) (fun _ _ _ _ _ => (pv 10))) (pe_lst pa_nil) (nomark _)) (pss_one (ps_ret pe_bl)) pss_nil)))))))))))))))))))))
    (pss_one (ps_ret pe_bl)))), ?_⟩
    refine ⟨_, rfl, sa, ns, rfl, hS, hlen, fun d l H1 hd hl D1 s1 => ?_⟩
    clear hS s1 hd hl
    refine ⟨3, rfl, by decide, by decide, for_range (lo := 0) (n := 3) (fun i σ H' => ∃ v2 v3 v4 v5 v6 v7 v8 v9 v10 : Option V, σ = [some (.ref sa), some (.ref d), v2, v3, v4, v5, v6, v7, v8, v9, v10] ∧ DealAt H' d l) ⟨_, _, _, _, _, _, _, _, _, rfl, D1⟩ ?_ ?_⟩
    · clear D1 H1
      rintro i σ H1 hi ⟨v2, v3, v4, v5, v6, v7, v8, v9, v10, rfl, D1⟩
      -- a name
      refine ⟨_, rfl, _, rfl, d, l, 5, rfl, D1, by decide, by decide, fun p zs H2 hp hz hzl hzm D2 kp2 => ?_⟩
      refine ⟨d, l, p, zs.map V.str, rfl, D2, hz, D1.nd hp, D1.nl hp, ?_, ?_, fun v H3 hv D3 kp3 => ?_⟩
      · intro e
        have := congrArg List.length e
        rw [List.length_map, hzl] at this
        cases this
      · rw [List.length_map, hzl]
        decide
      obtain ⟨name, hname, rfl⟩ := List.mem_map.mp hv
      replace hname := hzm name hname
      clear hv hz hzl hzm hp kp2 kp3 D1 D2
      have nm := nm_of hname
      have ln := nm.len
      -- good
      refine ⟨_, rfl, _, _, rfl, rfl, ?_, _, rfl, _, _, rfl, rfl, ?_, (by show 5 ≤ sizeLine; decide), fun g hg => ?_⟩
      · have : (Str.ofString "dip ").length = 4 := by decide +kernel
        rw [this]
        exact len1000 (by omega)
      · have : (Str.ofString "spill ").length = 6 := by decide +kernel
        rw [this]
        exact len1000 (by omega)
      have gd := D3.nd hg
      have gl := D3.nl hg
      have hg1 : (upd H3 g (.lst ((goodE name).map V.str))) g = some (.lst ((goodE name).map V.str)) := upd_same
      have D4 : DealAt (upd H3 g (.lst ((goodE name).map V.str))) d l := D3.same (Same.upd_new hg)
      -- if [told for told in good if lets(told, []) is not True] != []
      refine ⟨_, rfl, g, rfl, ⟨(goodE name).map V.str, .inl (.inl hg1)⟩, fun DD hD => ?_⟩
      refine lc_list (K := K) (a := g) (xs := (goodE name).map V.str) (fun i H' => DealAt H' d l ∧ H' g = some (.lst ((goodE name).map V.str)) ∧ H' DD = some (.lst [])) ⟨D4.same (Same.upd_new hD), Same.upd_new hD _ _ hg1, upd_same⟩
        (fun i H' _ h => .inl (.inl h.2.1)) ?_ ?_
      · rintro i x H' hx ⟨D', g', e'⟩
        obtain ⟨told, ht, _, rfl⟩ := get_map_str hx
        obtain ⟨u1, u2, u3⟩ := nm.ev told ht
        refine ⟨rfl, _, rfl, by decide, fun r hr => ⟨told, r, [], rfl, upd_same, by omega, by decide, (fun _ h => by cases h), fun H5 s5 => ⟨true, true, lets_true u3 (fun _ h => by cases h), rfl, _, rfl, iteF ?_⟩⟩⟩
        have s := Same.of_upd s5 hr
        exact ⟨D'.same s, s _ _ g', s _ _ e'⟩
      clear hg1 D4 hD
      rintro H4 ⟨D4, hg4, e4⟩
      refine ⟨by decide, fun p hp => ne_nil (xs := []) (.inl (.inl (Same.upd_new hp _ _ e4))) .nil (by decide +kernel) upd_same ⟨_, rfl, iteF ?_⟩⟩
      have s := Same.upd_new (o := .lst []) hp
      replace D4 := D4.same s
      replace hg4 := s _ _ hg4
      clear s e4
      generalize upd H4 p (.lst []) = H5 at D4 hg4
      -- some
      refine ⟨by show 4 ≤ sizeLine; decide, fun sm hsm => ?_⟩
      have smd := D4.nd hsm
      have sml := D4.nl hsm
      have gs : g ≠ sm := ne_of_none hg4 hsm
      have D6 : DealAt (upd H5 sm (.lst (plain4.map V.str))) d l := D4.same (Same.upd_new hsm)
      have g6 : (upd H5 sm (.lst (plain4.map V.str))) g = _ := Same.upd_new hsm _ _ hg4
      refine ⟨by show 7 ≤ sizeLine; decide, fun ww hww => ⟨ww, rfl, ⟨words7.map V.str, .inl (.inl upd_same)⟩, ?_⟩⟩
      have nws : sm ≠ ww := ne_of_none upd_same hww
      refine for_list (K := K) (a := ww) (xs := words7.map V.str) (fun i σ H' => ∃ v6 : Option V, σ = [some (.ref sa), some (.ref d), some (.int (0 + _)), some (.str name), some (.ref g), some (.ref sm), v6, v7, v8, v9, v10] ∧ DealAt H' d l ∧ H' g = some (.lst ((goodE name).map V.str)) ∧
        H' ww = some (.lst (words7.map V.str)) ∧ H' sm = some (.lst ((plain4 ++ (words7.take i).map (withName name)).map V.str))) ⟨v6, rfl, D6.same (Same.upd_new hww), Same.upd_new hww _ _ g6, upd_same, by rw [upd_ne nws]; exact upd_same⟩
        (fun i σ H' _ ⟨_, _, _, _, h, _⟩ => .inl (.inl h)) ?_ ?_
      · rintro i x σ H' hx ⟨v6', rfl, D', g', w', m'⟩
        obtain ⟨u, hu, hui, rfl⟩ := get_map_str hx
        have lu := words_len u hu
        have l1 : (Str.ofString " ").length = 1 := by decide +kernel
        have li : (plain4 ++ (words7.take i).map (withName name)).length ≤ 11 := by
          rw [List.length_append, List.length_map, List.length_take]
          have e1 : plain4.length = 4 := by decide
          have e2 : words7.length = 7 := by decide
          omega
        refine ⟨_, rfl, .inl ⟨rfl, _, .inl (.inl m')⟩, _, rfl, _, _, rfl, rfl, len1000 (by omega), _, rfl, _, _, rfl, rfl, len1000 (by rw [app_len]; omega), sm, _, _, rfl, rfl, m', ?_, ?_⟩
        · rw [List.length_map]
          exact small1000 (by omega)
        refine ⟨_, rfl, D'.upd smd sml, by rw [upd_ne gs]; exact g', by rw [upd_ne nws.symm]; exact w', ?_⟩
        rw [take_succ_map _ hui, upd_same, List.map_append, List.map_append, List.map_append, List.append_assoc]
        rfl
      clear D6 g6 hww nws
      rintro σ H6 ⟨v6', rfl, D6, g6, _, m6⟩
      rw [List.length_map, List.take_length] at m6
      -- if [deed for deed in some if lets(pick(deal, good), [deed]) is not True] != []
      refine ⟨_, rfl, sm, rfl, ⟨_, .inl (.inl m6)⟩, fun D2 hD2 => ?_⟩
      have nd2 := D6.nd hD2
      have nl2 := D6.nl hD2
      refine lc_list (K := K) (a := sm) (xs := (someD name).map V.str) (fun i H' => DealAt H' d l ∧ H' g = some (.lst ((goodE name).map V.str)) ∧ H' sm = some (.lst ((someD name).map V.str)) ∧ H' D2 = some (.lst []))
        ⟨D6.same (Same.upd_new hD2), Same.upd_new hD2 _ _ g6, Same.upd_new hD2 _ _ m6, upd_same⟩ (fun i H' _ h => .inl (.inl h.2.2.1)) ?_ ?_
      · rintro i x H' hx ⟨D', g', m', e'⟩
        obtain ⟨u, hu, _, rfl⟩ := get_map_str hx
        obtain ⟨u1, u2, u3, u4⟩ := nm.de u hu
        refine ⟨rfl, _, rfl, _, rfl, d, l, g, _, rfl, D', g', gd, gl, (by intro e; cases e), (by show 5 ≤ 1000; decide), fun v H7 hv D7 kp7 => ?_⟩
        obtain ⟨told, ht, rfl⟩ := List.mem_map.mp hv
        obtain ⟨t1, t2, t3⟩ := nm.ev told ht
        refine ⟨_, rfl, (by show 1 ≤ sizeLine; decide), fun r hr => ⟨told, r, [u], rfl, upd_same, by omega, (by show 1 ≤ 1000; decide), (fun z hz => by rw [List.mem_singleton.mp hz]; omega), fun H8 s8 => ⟨true, true, lets_true t3 (fun z hz => by rw [List.mem_singleton.mp hz]; exact may_good u3 u4), rfl, _, rfl, iteF ?_⟩⟩⟩
        have s := Same.of_upd s8 hr
        exact ⟨D7.same s, s _ _ (kp7 _ _ g' gd gl), s _ _ (kp7 _ _ m' smd sml), s _ _ (kp7 _ _ e' nd2 nl2)⟩
      clear D6 g6 m6 hD2
      rintro H7 ⟨D7, g7, m7, e7⟩
      refine ⟨by decide, fun p hp => ne_nil (xs := []) (.inl (.inl (Same.upd_new hp _ _ e7))) .nil (by decide +kernel) upd_same ⟨_, rfl, iteF ?_⟩⟩
      have s := Same.upd_new (o := .lst []) hp
      replace D7 := D7.same s
      replace g7 := s _ _ g7
      replace m7 := s _ _ m7
      clear s e7
      generalize upd H7 p (.lst []) = H8 at D7 g7 m7
      -- if lets('ask', ['note']) is not True
      have askE : isEvent "ask" = true := by decide +kernel
      have lask : (Str.ofString "ask").length ≤ 1000 := by decide +kernel
      have lnote : (Str.ofString "note").length ≤ 1000 := by decide +kernel
      refine ⟨by decide, fun r hr => ⟨"ask", r, ["note"], rfl, upd_same, lask, by decide, (fun z hz => by rw [List.mem_singleton.mp hz]; exact lnote), fun H9 s9 => ⟨true, true, lets_true askE (fun z hz => by rw [List.mem_singleton.mp hz]; exact may_note), rfl, _, rfl, iteF ?_⟩⟩⟩
      replace s9 := Same.of_upd s9 hr
      replace D7 := D7.same s9
      replace g7 := s9 _ _ g7
      replace m7 := s9 _ _ m7
      clear s9 hr r
      -- if lets(pick(deal, good[1:]), ['note']) != 'deeds'
      refine ⟨_, rfl, _, rfl, _, rfl, g, _, rfl, .inl (.inl g7), fun q hq => ?_⟩
      rw [cut_tail, ← List.map_drop] at *
      have qd := D7.nd hq
      have ql := D7.nl hq
      refine ⟨d, l, q, _, rfl, D7.same (Same.upd_new hq), upd_same, qd, ql, (by intro e; cases e), (by show 4 ≤ 1000; decide), fun v HA hv DA kpA => ?_⟩
      obtain ⟨told, ht, rfl⟩ := List.mem_map.mp hv
      have ht' := List.mem_of_mem_drop ht
      obtain ⟨t1, t2, t3⟩ := nm.ev told ht'
      have gA := kpA _ _ (Same.upd_new hq _ _ g7) gd gl
      have mA := kpA _ _ (Same.upd_new hq _ _ m7) smd sml
      refine ⟨by decide, fun r hr => ⟨told, r, ["note"], rfl, upd_same, by omega, by decide, (fun z hz => by rw [List.mem_singleton.mp hz]; exact lnote), fun HB sB => ?_⟩⟩
      replace sB := Same.of_upd sB hr
      rw [lets_deeds t3 (List.mem_singleton.mpr rfl) (good_note hname told ht)]
      refine ⟨rfl, _, rfl, ?_⟩
      rw [decide_eq_true rfl]
      refine iteF ?_
      replace DA := DA.same sB
      replace gA := sB _ _ gA
      replace mA := sB _ _ mA
      clear D7 g7 m7 hq hv kpA hr sB t1 t2 t3 ht ht' qd ql
      -- few = mixed(deal, some)[:8]
      refine ⟨_, rfl, _, rfl, d, l, sm, someD name, rfl, DA, mA, smd, sml, (by show 11 ≤ 1000; decide), (fun z hz => (nm.de z hz).1), fun p ys HC hp hys hyl hym DC kpC => ?_⟩
      have gC := kpC _ _ gA gd gl
      refine ⟨_, rfl, p, _, rfl, .inl (.inl hys), fun fw hfw => ?_⟩
      rw [cut_eight, ← List.map_take]
      have fwd := DC.nd hfw
      have fwl := DC.nl hfw
      have fh : (upd HC fw (.lst ((ys.take 8).map V.str))) fw = some (.lst ((ys.take 8).map V.str)) := upd_same
      have few : ∀ z ∈ ys.take 8, z ∈ someD name := fun z hz => hym z (List.mem_of_mem_take hz)
      have fln : (ys.take 8).length ≤ 8 := by
        rw [List.length_take]
        omega
      replace gC := Same.upd_new (o := .lst ((ys.take 8).map V.str)) hfw _ _ gC
      replace DC := DC.same (Same.upd_new (o := .lst ((ys.take 8).map V.str)) hfw)
      generalize ys.take 8 = fs at fh few fln gC DC
      generalize upd HC fw (.lst (fs.map V.str)) = HD at fh gC DC
      clear hp hys hyl hym kpC mA gA DA hfw
      -- if lets('ask', few + ['note', 'note']) is not True
      refine ⟨_, rfl, by decide, fun r hr => ?_⟩
      refine ⟨_, _, _, _, rfl, rfl, Same.upd_new hr _ _ fh, upd_same, ?_, fun q hq => ?_⟩
      · rw [List.length_map]
        exact len1000 (by show fs.length + 2 ≤ 1000; omega)
      refine ⟨"ask", q, fs ++ [Str.ofString "note", Str.ofString "note"], rfl, Eq.trans upd_same (by rw [List.map_append]; rfl), lask, ?_, ?_, fun HE sE => ⟨true, true, lets_true askE ?_, rfl, _, rfl, iteF ?_⟩⟩
      · rw [List.length_append]
        show fs.length + 2 ≤ 1000
        omega
      · intro z hz
        rcases List.mem_append.mp hz with hz | hz
        · have := (nm.de z (few z hz)).2.1
          omega
        · have : z = "note" := by
            simp only [List.mem_cons, List.not_mem_nil, or_false, or_self] at hz
            exact hz
          rw [this]
          exact lnote
      · intro z hz
        rcases List.mem_append.mp hz with hz | hz
        · exact may_good (nm.de z (few z hz)).2.2.1 (nm.de z (few z hz)).2.2.2
        · have : z = "note" := by
            simp only [List.mem_cons, List.not_mem_nil, or_false, or_self] at hz
            exact hz
          rw [this]
          exact may_note
      have sF : Same HD HE := ((Same.upd_new hr).trans (Same.upd_new hq)).trans sE
      replace DC := DC.same sF
      replace gC := sF _ _ gC
      replace fh := sF _ _ fh
      clear sF sE hr hq
      -- if lets('ask', few + [name]) != 'deeds'
      refine ⟨_, rfl, _, rfl, (by show 1 ≤ sizeLine; decide), fun r hr => ?_⟩
      refine ⟨_, _, _, _, rfl, rfl, Same.upd_new hr _ _ fh, upd_same, ?_, fun q hq => ?_⟩
      · rw [List.length_map]
        exact len1000 (by show fs.length + 1 ≤ 1000; omega)
      refine ⟨"ask", q, fs ++ [name], rfl, Eq.trans upd_same (by rw [List.map_append]; rfl), lask, ?_, ?_, fun HF sF => ?_⟩
      · rw [List.length_append]
        show fs.length + 1 ≤ 1000
        omega
      · intro z hz
        rcases List.mem_append.mp hz with hz | hz
        · have := (nm.de z (few z hz)).2.1
          omega
        · rw [List.mem_singleton.mp hz]
          omega
      rw [lets_deeds askE (List.mem_append_right _ (List.mem_singleton.mpr rfl)) (may_bad nm.no)]
      refine ⟨rfl, _, rfl, ?_⟩
      rw [decide_eq_true rfl]
      refine iteF ?_
      replace sF : Same HE HF := ((Same.upd_new hr).trans (Same.upd_new hq)).trans sF
      replace DC := DC.same sF
      clear sF hr hq fh gC
      -- odd
      have dl : (Str.ofString "dip  ").length ≤ 100 := by decide +kernel
      refine ⟨_, rfl, _, _, rfl, rfl, len1000 (by omega), _, rfl, (by show 10 ≤ sizeLine; decide), fun o1 ho1 => ?_⟩
      have sp1 : (Str.ofString " ").length = 1 := by decide +kernel
      have sp2 : (Str.ofString "\n").length = 1 := by decide +kernel
      have sp3 : (Str.ofString ", go").length = 4 := by decide +kernel
      have d1 : (Str.ofString "dip ").length = 4 := by decide +kernel
      have d2 : (Str.ofString "ask ").length = 4 := by decide +kernel
      have d3 : (Str.ofString "save ").length = 5 := by decide +kernel
      have d4 : (Str.ofString "hold ").length = 5 := by decide +kernel
      have d5 : (Str.ofString "cut ").length = 4 := by decide +kernel
      -- odd = odd + [..]
      refine ⟨_, rfl, _, rfl, _, _, rfl, rfl, len1000 (by omega), _, _, rfl, rfl, len1000 (by rw [app_len]; omega), _, rfl, _, _, rfl, rfl, len1000 (by omega), (by show 6 ≤ sizeLine; decide), fun r hr => ?_⟩
      refine ⟨_, _, _, _, rfl, rfl, Same.upd_new hr _ _ upd_same, upd_same, (by show 16 ≤ sizeLine; decide), fun o2 ho2 => ?_⟩
      refine ⟨_, rfl, _, rfl, _, _, rfl, rfl, len1000 (by omega), _, rfl, _, _, rfl, rfl, len1000 (by omega), _, _, rfl, rfl, len1000 (by rw [app_len]; omega), (by show 2 ≤ sizeLine; decide), fun r2 hr2 => ?_⟩
      refine ⟨_, _, _, _, rfl, rfl, Same.upd_new hr2 _ _ upd_same, upd_same, (by show 18 ≤ sizeLine; decide), fun o3 ho3 => ?_⟩
      have h3 : ∀ {HH : Hp} {L : List V}, L = (oddE name).map V.str → (upd HH o3 (.lst L)) o3 = some (.lst ((oddE name).map V.str)) := fun e => by rw [e]; exact upd_same
      refine ⟨_, rfl, o3, rfl, ⟨_, .inl (.inl (h3 rfl))⟩, fun D3 hD3 => ?_⟩
      have q3 := Same.upd_new (o := .lst []) hD3 _ _ (h3 rfl)
      refine lc_list (K := K) (a := o3) (xs := (oddE name).map V.str) (fun i H' => DealAt H' d l ∧ H' o3 = some (.lst ((oddE name).map V.str)) ∧ H' D3 = some (.lst [])) ⟨(((((DC.same (Same.upd_new ho1)).same (Same.upd_new hr)).same (Same.upd_new ho2)).same (Same.upd_new hr2)).same (Same.upd_new ho3)).same (Same.upd_new hD3), q3, upd_same⟩
        (fun i H' _ h => .inl (.inl h.2.1)) ?_ ?_
      · rintro i x H' hx ⟨D', g', e'⟩
        obtain ⟨told, ht, _, rfl⟩ := get_map_str hx
        obtain ⟨u1, u2, u3⟩ := nm.oE told ht
        refine ⟨rfl, _, rfl, by decide, fun r hr => ⟨told, r, [], rfl, upd_same, by omega, by decide, (fun _ h => by cases h), fun H5 s5 => ?_⟩⟩
        have s := Same.of_upd s5 hr
        rw [lets_event u3]
        refine ⟨rfl, _, rfl, ?_⟩
        rw [decide_eq_true rfl]
        exact iteF ⟨D'.same s, s _ _ g', s _ _ e'⟩
      clear DC hD3 ho3 hr2 ho2 hr ho1 h3 q3
      rintro HG ⟨DG, _, eG⟩
      refine ⟨by decide, fun p hp => ne_nil (xs := []) (.inl (.inl (Same.upd_new hp _ _ eG))) .nil (by decide +kernel) upd_same ⟨_, rfl, iteF ?_⟩⟩
      replace DG := DG.same (Same.upd_new (o := .lst []) hp)
      clear eG
      generalize upd HG p (.lst []) = HH at DG
      -- odd, of deeds
      refine ⟨_, rfl, _, _, rfl, rfl, len1000 (by omega), _, rfl, _, _, rfl, rfl, len1000 (by omega), _, rfl, _, _, rfl, rfl, len1000 (by omega), _, _, rfl, rfl, len1000 (by rw [app_len]; omega), (by show 9 ≤ sizeLine; decide), fun o1 ho1 => ?_⟩
      refine ⟨_, rfl, (by show 8 ≤ sizeLine; decide), fun r hr => ?_⟩
      refine ⟨_, _, _, _, rfl, rfl, Same.upd_new hr _ _ upd_same, upd_same, (by show 17 ≤ sizeLine; decide), fun o2 ho2 => ?_⟩
      refine ⟨_, rfl, .inl ⟨rfl, _, .inl (.inl upd_same)⟩, _, rfl, _, _, rfl, rfl, len1000 (by omega), _, _, rfl, rfl, len1000 (by rw [app_len]; omega), o2, _, _, rfl, rfl, upd_same, (by show 17 < sizeLine; decide), ?_⟩
      have o2d : o2 ≠ d := DealAt.nd (by exact (DG.same (Same.upd_new ho1)).same (Same.upd_new hr)) ho2
      have o2l : o2 ≠ l := DealAt.nl (by exact (DG.same (Same.upd_new ho1)).same (Same.upd_new hr)) ho2
      have h3 : ∀ {HH : Hp} {L : List V}, L = (oddD name).map V.str → (upd HH o2 (.lst L)) o2 = some (.lst ((oddD name).map V.str)) := fun e => by rw [e]; exact upd_same
      refine ⟨_, rfl, o2, rfl, ⟨_, .inl (.inl (h3 rfl))⟩, fun D3 hD3 => ?_⟩
      have q3 := Same.upd_new (o := .lst []) hD3 _ _ (h3 rfl)
      refine lc_list (K := K) (a := o2) (xs := (oddD name).map V.str) (fun i H' => DealAt H' d l ∧ H' o2 = some (.lst ((oddD name).map V.str)) ∧ H' D3 = some (.lst [])) ⟨((((DG.same (Same.upd_new ho1)).same (Same.upd_new hr)).same (Same.upd_new ho2)).upd o2d o2l).same (Same.upd_new hD3), q3, upd_same⟩
        (fun i H' _ h => .inl (.inl h.2.1)) ?_ ?_
      · rintro i x H' hx ⟨D', g', e'⟩
        obtain ⟨u, hu, _, rfl⟩ := get_map_str hx
        obtain ⟨u1, u2, u3⟩ := nm.oD u hu
        refine ⟨rfl, _, rfl, (by show 2 ≤ sizeLine; decide), fun r hr => ⟨"ask", r, [Str.ofString "go", u], rfl, upd_same, lask, (by show 2 ≤ 1000; decide), ?_, fun H5 s5 => ?_⟩⟩
        · intro z hz
          simp only [List.mem_cons, List.not_mem_nil, or_false] at hz
          rcases hz with rfl | rfl
          · decide +kernel
          · omega
        have s := Same.of_upd s5 hr
        rw [lets_deeds askE (z := u) (by simp) (may_bad u3)]
        refine ⟨rfl, _, rfl, ?_⟩
        rw [decide_eq_true rfl]
        exact iteF ⟨D'.same s, s _ _ g', s _ _ e'⟩
      clear DG hD3 ho2 hr ho1 h3 q3
      rintro HI ⟨DI, _, eI⟩
      refine ⟨by decide, fun p hp => ne_nil (xs := []) (.inl (.inl (Same.upd_new hp _ _ eI))) .nil (by decide +kernel) upd_same ⟨_, rfl, iteF ?_⟩⟩
      exact ⟨_, _, _, _, _, _, _, _, _, rfl, DI.same (Same.upd_new hp)⟩
    · rintro σ H' ⟨_, _, _, _, _, _, _, _, _, rfl, _⟩
      exact k H'
end
end L2.Wk
namespace L2.Wk
open PySem PySem.Spec PyProof.Rows
/-- an error of the class at S is what «except S» names -/
theorem exm_self {K : PySem.W.Frag} {S : Addr} (h1 : PySem.W.subIn K (.ref S) (.type "BaseException") = some true) (h2 : PySem.W.isClsIn K S = true) (h3 : PySem.W.typeIn K (.ref S) = some (.type "type")) (h4 : PySem.W.subIn K (.ref S) (.ref S) = some true) :
    PySem.W.exmOne K (.ref S) (.ref S) = some true := by
  have e1 : (PySem.W.subIn K (.ref S) (.type "BaseException") == some true) = true := by rw [h1] <;> rfl
  have e2 : ((PySem.W.clsIn K S).isSome && PySem.W.typeIn K (.ref S) == some (.type "type")) = true := by
    have h2' : (PySem.W.clsIn K S).isSome = true := h2
    rw [h2', h3] <;> rfl
  show (if (PySem.W.subIn K (.ref S) (.type "BaseException") == some true) = true then (if ((PySem.W.clsIn K S).isSome && PySem.W.typeIn K (.ref S) == some (.type "type")) = true then PySem.W.subIn K (.ref S) (.ref S) else none) else none) = some true
  rw [if_pos e1, if_pos e2]
  exact h4
theorem all_mk {P : Program} {w : World} {K : PySem.W.Frag} {h : Heap} {mg : Str → Option Value} {fa : Addr} (X : K.In h) (G : h.Ns mainGlobals mg) (hfa : mg "law" = some (.ref fa))
    {C_InvalidMachine f_InvalidMachine : Addr} {nm_InvalidMachine q_InvalidMachine : Str} {N_InvalidMachine : Addr} {bs_InvalidMachine : List Value} {sn_InvalidMachine : List Str} {sub_InvalidMachine : List Value} {ab_InvalidMachine : Bool} {col_InvalidMachine : Option Bool} {dd_InvalidMachine : Option Addr} {m0_InvalidMachine m1_InvalidMachine m2_InvalidMachine m3_InvalidMachine m5_InvalidMachine : Option Value} {B0_InvalidMachine : Addr} {od_InvalidMachine an_InvalidMachine : Option Addr} {sl_InvalidMachine : Array (Option Value)} {oc_InvalidMachine dc_InvalidMachine pm_InvalidMachine cd_InvalidMachine ct_InvalidMachine : Value}
    {r_RESERVED : Addr} {rd_RESERVED : Option Addr} {ri_RESERVED : Array Value} {rn_RESERVED : Nat} {rs_RESERVED : Array (Option Value)}
    {r_PLAIN_EVENTS : Addr} {rd_PLAIN_EVENTS : Option Addr} {ri_PLAIN_EVENTS : Array Value} {rn_PLAIN_EVENTS : Nat} {rs_PLAIN_EVENTS : Array (Option Value)}
    {r_AREA_EVENTS : Addr} {rd_AREA_EVENTS : Option Addr} {ri_AREA_EVENTS : Array Value} {rn_AREA_EVENTS : Nat} {rs_AREA_EVENTS : Array (Option Value)}
    {r_PLAIN_DEEDS : Addr} {rd_PLAIN_DEEDS : Option Addr} {ri_PLAIN_DEEDS : Array Value} {rn_PLAIN_DEEDS : Nat} {rs_PLAIN_DEEDS : Array (Option Value)}
    {r_FENCE_DEEDS : Addr} {rd_FENCE_DEEDS : Option Addr} {ri_FENCE_DEEDS : Array Value} {rn_FENCE_DEEDS : Nat} {rs_FENCE_DEEDS : Array (Option Value)}
    {r_AREA_DEEDS : Addr} {rd_AREA_DEEDS : Option Addr} {ri_AREA_DEEDS : Array Value} {rn_AREA_DEEDS : Nat} {rs_AREA_DEEDS : Array (Option Value)}
    {r_GUARDS : Addr} {rd_GUARDS : Option Addr} {ri_GUARDS : Array Value} {rn_GUARDS : Nat} {rs_GUARDS : Array (Option Value)}
    {t_LONGEST : Tok}
    {t_LETTERS : Tok}
    {f_is_sequence : Addr} {od_is_sequence an_is_sequence : Option Addr} {sl_is_sequence : Array (Option Value)} {oc_is_sequence kV_is_sequence dc_is_sequence pm_is_sequence cd_is_sequence ct_is_sequence : Value}
    {f_is_name : Addr} {od_is_name an_is_name : Option Addr} {sl_is_name : Array (Option Value)} {oc_is_name kV_is_name dc_is_name pm_is_name cd_is_name ct_is_name : Value}
    {f_is_event : Addr} {od_is_event an_is_event : Option Addr} {sl_is_event : Array (Option Value)} {oc_is_event kV_is_event dc_is_event pm_is_event cd_is_event ct_is_event : Value}
    {f_is_deed : Addr} {od_is_deed an_is_deed : Option Addr} {sl_is_deed : Array (Option Value)} {oc_is_deed kV_is_deed dc_is_deed pm_is_deed cd_is_deed ct_is_deed : Value}
    {f_is_phrase : Addr} {od_is_phrase an_is_phrase : Option Addr} {sl_is_phrase : Array (Option Value)} {oc_is_phrase kV_is_phrase dc_is_phrase pm_is_phrase cd_is_phrase ct_is_phrase : Value}
    {f_may_do : Addr} {od_may_do an_may_do : Option Addr} {sl_may_do : Array (Option Value)} {oc_may_do kV_may_do dc_may_do pm_may_do cd_may_do ct_may_do : Value}
    {C_Rule : Addr}
    {f_init : Addr} {od_init an_init : Option Addr} {sl_init : Array (Option Value)} {oc_init kV_init dc_init pm_init cd_init ct_init : Value}
    {dT_init : Addr} {dd_init : Option Addr} {dn_init : Nat} {ds_init : Array (Option Value)} {dc2_init : Value} {dv_init_0 : Addr}
    {f_law_lets : Addr} {od_law_lets an_law_lets : Option Addr} {sl_law_lets : Array (Option Value)} {oc_law_lets kV_law_lets dc_law_lets pm_law_lets cd_law_lets ct_law_lets : Value}
    {f_law_deal : Addr} {od_law_deal an_law_deal : Option Addr} {sl_law_deal : Array (Option Value)} {oc_law_deal kV_law_deal dc_law_deal pm_law_deal cd_law_deal ct_law_deal : Value}
    {f_law_draw : Addr} {od_law_draw an_law_draw : Option Addr} {sl_law_draw : Array (Option Value)} {oc_law_draw kV_law_draw dc_law_draw pm_law_draw cd_law_draw ct_law_draw : Value}
    {f_law_pick : Addr} {od_law_pick an_law_pick : Option Addr} {sl_law_pick : Array (Option Value)} {oc_law_pick kV_law_pick dc_law_pick pm_law_pick cd_law_pick ct_law_pick : Value}
    {f_law_mixed : Addr} {od_law_mixed an_law_mixed : Option Addr} {sl_law_mixed : Array (Option Value)} {oc_law_mixed kV_law_mixed dc_law_mixed pm_law_mixed cd_law_mixed ct_law_mixed : Value}
    {f_law_names : Addr} {od_law_names an_law_names : Option Addr} {sl_law_names : Array (Option Value)} {oc_law_names kV_law_names dc_law_names pm_law_names cd_law_names ct_law_names : Value}
    {f_law : Addr} {od_law an_law : Option Addr} {sl_law : Array (Option Value)} {oc_law kV_law dc_law pm_law cd_law ct_law : Value}
    (n_InvalidMachine : PySem.W.nsIn K mainGlobals "InvalidMachine" = some (some (.ref C_InvalidMachine)))
    (x_InvalidMachine : K.lookup C_InvalidMachine = some (excClassObj nm_InvalidMachine q_InvalidMachine C_InvalidMachine N_InvalidMachine bs_InvalidMachine [.ref B0_InvalidMachine, .type "ValueError", .type "Exception", .type "BaseException", .type "object"] true sn_InvalidMachine sub_InvalidMachine ab_InvalidMachine col_InvalidMachine dd_InvalidMachine m0_InvalidMachine m1_InvalidMachine m2_InvalidMachine m3_InvalidMachine m5_InvalidMachine "ValueError.__new__"))
    (sa_InvalidMachine : PySem.W.findIn K (.ref C_InvalidMachine) "__setattr__" = some (some (.builtin "object.__setattr__")))
    (ga_InvalidMachine : PySem.W.findIn K (.ref C_InvalidMachine) "__getattribute__" = some (some (.builtin "BaseException.__getattribute__")))
    (gg_InvalidMachine : PySem.W.findIn K (.ref C_InvalidMachine) "__getattr__" = some none)
    (nb_InvalidMachine : PySem.W.findIn K (.ref C_InvalidMachine) "word" = some none)
    (a1_InvalidMachine : PySem.W.findIn K (.ref C_InvalidMachine) "__init__" = some (some (.ref f_InvalidMachine)))
    (t1_InvalidMachine : PySem.W.typeIn K (.ref f_InvalidMachine) = some (.type "function"))
    (l1_InvalidMachine : K.lookup f_InvalidMachine = some ⟨oc_InvalidMachine, od_InvalidMachine, .func (PySem.W.fnOf "__init__" "InvalidMachine.__init__" (PySem.LowX_InvalidMachine.iA ⟨6, 17, 6, 21⟩ ⟨6, 23, 6, 27⟩) (PySem.LowX_InvalidMachine.iB ⟨7, 8, 7, 12⟩ ⟨7, 8, 7, 17⟩ ⟨7, 20, 7, 24⟩ ⟨7, 8, 7, 24⟩) PySem.LowX_InvalidMachine.iS .none .none dc_InvalidMachine pm_InvalidMachine an_InvalidMachine cd_InvalidMachine ct_InvalidMachine), sl_InvalidMachine⟩)
    (c1_InvalidMachine : PySem.W.codeIn K cd_InvalidMachine "InvalidMachine.__init__" = true)
    (kC_InvalidMachine : PySem.W.keepIn K (.ref C_InvalidMachine) = true)
    (eC_InvalidMachine : PySem.W.subIn K (.ref C_InvalidMachine) (.type "BaseException") = some true)
    (tC_InvalidMachine : PySem.W.typeIn K (.ref C_InvalidMachine) = some (.type "type"))
    (hC_InvalidMachine : PySem.W.hasDictIn K C_InvalidMachine = true)
    (iC_InvalidMachine : PySem.W.isClsIn K C_InvalidMachine = true)
    (sC_InvalidMachine : PySem.W.subIn K (.ref C_InvalidMachine) (.ref C_InvalidMachine) = some true)
    (n_RESERVED : PySem.W.nsIn K mainGlobals "RESERVED" = some (some (.ref r_RESERVED)))
    (l_RESERVED : K.lookup r_RESERVED = some ⟨.type "tuple", rd_RESERVED, .seq ri_RESERVED rn_RESERVED, rs_RESERVED⟩)
    (v_RESERVED : Vals ((resV).map V.str) ri_RESERVED.toList)
    (z_RESERVED : ri_RESERVED.size ≤ sizeLine)
    (n_PLAIN_EVENTS : PySem.W.nsIn K mainGlobals "PLAIN_EVENTS" = some (some (.ref r_PLAIN_EVENTS)))
    (l_PLAIN_EVENTS : K.lookup r_PLAIN_EVENTS = some ⟨.type "tuple", rd_PLAIN_EVENTS, .seq ri_PLAIN_EVENTS rn_PLAIN_EVENTS, rs_PLAIN_EVENTS⟩)
    (v_PLAIN_EVENTS : Vals ((plainE).map V.str) ri_PLAIN_EVENTS.toList)
    (z_PLAIN_EVENTS : ri_PLAIN_EVENTS.size ≤ sizeLine)
    (n_AREA_EVENTS : PySem.W.nsIn K mainGlobals "AREA_EVENTS" = some (some (.ref r_AREA_EVENTS)))
    (l_AREA_EVENTS : K.lookup r_AREA_EVENTS = some ⟨.type "tuple", rd_AREA_EVENTS, .seq ri_AREA_EVENTS rn_AREA_EVENTS, rs_AREA_EVENTS⟩)
    (v_AREA_EVENTS : Vals ((areaE).map V.str) ri_AREA_EVENTS.toList)
    (z_AREA_EVENTS : ri_AREA_EVENTS.size ≤ sizeLine)
    (n_PLAIN_DEEDS : PySem.W.nsIn K mainGlobals "PLAIN_DEEDS" = some (some (.ref r_PLAIN_DEEDS)))
    (l_PLAIN_DEEDS : K.lookup r_PLAIN_DEEDS = some ⟨.type "tuple", rd_PLAIN_DEEDS, .seq ri_PLAIN_DEEDS rn_PLAIN_DEEDS, rs_PLAIN_DEEDS⟩)
    (v_PLAIN_DEEDS : Vals ((plainD).map V.str) ri_PLAIN_DEEDS.toList)
    (z_PLAIN_DEEDS : ri_PLAIN_DEEDS.size ≤ sizeLine)
    (n_FENCE_DEEDS : PySem.W.nsIn K mainGlobals "FENCE_DEEDS" = some (some (.ref r_FENCE_DEEDS)))
    (l_FENCE_DEEDS : K.lookup r_FENCE_DEEDS = some ⟨.type "tuple", rd_FENCE_DEEDS, .seq ri_FENCE_DEEDS rn_FENCE_DEEDS, rs_FENCE_DEEDS⟩)
    (v_FENCE_DEEDS : Vals ((fenceD).map V.str) ri_FENCE_DEEDS.toList)
    (z_FENCE_DEEDS : ri_FENCE_DEEDS.size ≤ sizeLine)
    (n_AREA_DEEDS : PySem.W.nsIn K mainGlobals "AREA_DEEDS" = some (some (.ref r_AREA_DEEDS)))
    (l_AREA_DEEDS : K.lookup r_AREA_DEEDS = some ⟨.type "tuple", rd_AREA_DEEDS, .seq ri_AREA_DEEDS rn_AREA_DEEDS, rs_AREA_DEEDS⟩)
    (v_AREA_DEEDS : Vals ((areaD).map V.str) ri_AREA_DEEDS.toList)
    (z_AREA_DEEDS : ri_AREA_DEEDS.size ≤ sizeLine)
    (n_GUARDS : PySem.W.nsIn K mainGlobals "GUARDS" = some (some (.ref r_GUARDS)))
    (l_GUARDS : K.lookup r_GUARDS = some ⟨.type "tuple", rd_GUARDS, .seq ri_GUARDS rn_GUARDS, rs_GUARDS⟩)
    (v_GUARDS : Vals ((guardsV).map V.str) ri_GUARDS.toList)
    (z_GUARDS : ri_GUARDS.size ≤ sizeLine)
    (n_LONGEST : PySem.W.nsIn K mainGlobals "LONGEST" = some (some (.int 4 t_LONGEST)))
    (n_LETTERS : PySem.W.nsIn K mainGlobals "LETTERS" = some (some (.str lettersS t_LETTERS)))
    (a_is_sequence : PySem.W.nsIn K mainGlobals "is_sequence" = some (some (.ref f_is_sequence)))
    (l_is_sequence : K.lookup f_is_sequence = some ⟨oc_is_sequence, od_is_sequence, .func (PySem.W.fnOf "is_sequence" "is_sequence" (defArgs s_is_sequence) (defBody s_is_sequence) (defScope s_is_sequence) .none kV_is_sequence dc_is_sequence pm_is_sequence an_is_sequence cd_is_sequence ct_is_sequence), sl_is_sequence⟩)
    (c_is_sequence : PySem.W.codeIn K cd_is_sequence "is_sequence" = true)
    (k_is_sequence : PySem.W.keepIn K (.ref f_is_sequence) = true)
    (a_is_name : PySem.W.nsIn K mainGlobals "is_name" = some (some (.ref f_is_name)))
    (l_is_name : K.lookup f_is_name = some ⟨oc_is_name, od_is_name, .func (PySem.W.fnOf "is_name" "is_name" (defArgs s_is_name) (defBody s_is_name) (defScope s_is_name) .none kV_is_name dc_is_name pm_is_name an_is_name cd_is_name ct_is_name), sl_is_name⟩)
    (c_is_name : PySem.W.codeIn K cd_is_name "is_name" = true)
    (k_is_name : PySem.W.keepIn K (.ref f_is_name) = true)
    (a_is_event : PySem.W.nsIn K mainGlobals "is_event" = some (some (.ref f_is_event)))
    (l_is_event : K.lookup f_is_event = some ⟨oc_is_event, od_is_event, .func (PySem.W.fnOf "is_event" "is_event" (defArgs s_is_event) (defBody s_is_event) (defScope s_is_event) .none kV_is_event dc_is_event pm_is_event an_is_event cd_is_event ct_is_event), sl_is_event⟩)
    (c_is_event : PySem.W.codeIn K cd_is_event "is_event" = true)
    (k_is_event : PySem.W.keepIn K (.ref f_is_event) = true)
    (a_is_deed : PySem.W.nsIn K mainGlobals "is_deed" = some (some (.ref f_is_deed)))
    (l_is_deed : K.lookup f_is_deed = some ⟨oc_is_deed, od_is_deed, .func (PySem.W.fnOf "is_deed" "is_deed" (defArgs s_is_deed) (defBody s_is_deed) (defScope s_is_deed) .none kV_is_deed dc_is_deed pm_is_deed an_is_deed cd_is_deed ct_is_deed), sl_is_deed⟩)
    (c_is_deed : PySem.W.codeIn K cd_is_deed "is_deed" = true)
    (k_is_deed : PySem.W.keepIn K (.ref f_is_deed) = true)
    (a_is_phrase : PySem.W.nsIn K mainGlobals "_is_phrase" = some (some (.ref f_is_phrase)))
    (l_is_phrase : K.lookup f_is_phrase = some ⟨oc_is_phrase, od_is_phrase, .func (PySem.W.fnOf "_is_phrase" "_is_phrase" (defArgs s_is_phrase) (defBody s_is_phrase) (defScope s_is_phrase) .none kV_is_phrase dc_is_phrase pm_is_phrase an_is_phrase cd_is_phrase ct_is_phrase), sl_is_phrase⟩)
    (c_is_phrase : PySem.W.codeIn K cd_is_phrase "_is_phrase" = true)
    (k_is_phrase : PySem.W.keepIn K (.ref f_is_phrase) = true)
    (a_may_do : PySem.W.nsIn K mainGlobals "_may_do" = some (some (.ref f_may_do)))
    (l_may_do : K.lookup f_may_do = some ⟨oc_may_do, od_may_do, .func (PySem.W.fnOf "_may_do" "_may_do" (defArgs s_may_do) (defBody s_may_do) (defScope s_may_do) .none kV_may_do dc_may_do pm_may_do an_may_do cd_may_do ct_may_do), sl_may_do⟩)
    (c_may_do : PySem.W.codeIn K cd_may_do "_may_do" = true)
    (k_may_do : PySem.W.keepIn K (.ref f_may_do) = true)
    (n_Rule : PySem.W.nsIn K mainGlobals "Rule" = some (some (.ref C_Rule)))
    (pg_Rule : PySem.W.plainGet K C_Rule Str.empty = true)
    (hd_Rule : PySem.W.hasDictIn K C_Rule = true)
    (po_Rule : PySem.W.plainOver K C_Rule = true)
    (sa_Rule : PySem.W.findIn K (.ref C_Rule) "__setattr__" = some (some (.builtin "object.__setattr__")))
    (mk_Rule : PySem.W.makesIn K C_Rule = true)
    (kc_Rule : PySem.W.keepIn K (.ref C_Rule) = true)
    (no_Rule_state : PySem.W.findIn K (.ref C_Rule) "state" = some none)
    (no_Rule_event : PySem.W.findIn K (.ref C_Rule) "event" = some none)
    (no_Rule_guard : PySem.W.findIn K (.ref C_Rule) "guard" = some none)
    (no_Rule_then : PySem.W.findIn K (.ref C_Rule) "then" = some none)
    (no_Rule_deeds : PySem.W.findIn K (.ref C_Rule) "deeds" = some none)
    (a_init : PySem.W.findIn K (.ref C_Rule) "__init__" = some (some (.ref f_init)))
    (i_init : PySem.W.isFn K (.ref f_init) = true)
    (l_init : K.lookup f_init = some ⟨oc_init, od_init, .func (PySem.W.fnOf "__init__" "Rule.__init__" (defArgs s_Rule_init) (defBody s_Rule_init) (defScope s_Rule_init) (.ref dT_init) kV_init dc_init pm_init an_init cd_init ct_init), sl_init⟩)
    (c_init : PySem.W.codeIn K cd_init "Rule.__init__" = true)
    (k_init : PySem.W.keepIn K (.ref f_init) = true)
    (t_init : K.lookup dT_init = some ⟨dc2_init, dd_init, .seq #[.ref dv_init_0] dn_init, ds_init⟩)
    (a_law_lets : PySem.W.nsIn K mainGlobals "_law_lets" = some (some (.ref f_law_lets)))
    (l_law_lets : K.lookup f_law_lets = some ⟨oc_law_lets, od_law_lets, .func (PySem.W.fnOf "_law_lets" "_law_lets" (defArgs s_law_lets) (defBody s_law_lets) (defScope s_law_lets) .none kV_law_lets dc_law_lets pm_law_lets an_law_lets cd_law_lets ct_law_lets), sl_law_lets⟩)
    (c_law_lets : PySem.W.codeIn K cd_law_lets "_law_lets" = true)
    (k_law_lets : PySem.W.keepIn K (.ref f_law_lets) = true)
    (a_law_deal : PySem.W.nsIn K mainGlobals "_law_deal" = some (some (.ref f_law_deal)))
    (l_law_deal : K.lookup f_law_deal = some ⟨oc_law_deal, od_law_deal, .func (PySem.W.fnOf "_law_deal" "_law_deal" (defArgs s_law_deal) (defBody s_law_deal) (defScope s_law_deal) .none kV_law_deal dc_law_deal pm_law_deal an_law_deal cd_law_deal ct_law_deal), sl_law_deal⟩)
    (c_law_deal : PySem.W.codeIn K cd_law_deal "_law_deal" = true)
    (k_law_deal : PySem.W.keepIn K (.ref f_law_deal) = true)
    (a_law_draw : PySem.W.nsIn K mainGlobals "_law_draw" = some (some (.ref f_law_draw)))
    (l_law_draw : K.lookup f_law_draw = some ⟨oc_law_draw, od_law_draw, .func (PySem.W.fnOf "_law_draw" "_law_draw" (defArgs s_law_draw) (defBody s_law_draw) (defScope s_law_draw) .none kV_law_draw dc_law_draw pm_law_draw an_law_draw cd_law_draw ct_law_draw), sl_law_draw⟩)
    (c_law_draw : PySem.W.codeIn K cd_law_draw "_law_draw" = true)
    (k_law_draw : PySem.W.keepIn K (.ref f_law_draw) = true)
    (a_law_pick : PySem.W.nsIn K mainGlobals "_law_pick" = some (some (.ref f_law_pick)))
    (l_law_pick : K.lookup f_law_pick = some ⟨oc_law_pick, od_law_pick, .func (PySem.W.fnOf "_law_pick" "_law_pick" (defArgs s_law_pick) (defBody s_law_pick) (defScope s_law_pick) .none kV_law_pick dc_law_pick pm_law_pick an_law_pick cd_law_pick ct_law_pick), sl_law_pick⟩)
    (c_law_pick : PySem.W.codeIn K cd_law_pick "_law_pick" = true)
    (k_law_pick : PySem.W.keepIn K (.ref f_law_pick) = true)
    (a_law_mixed : PySem.W.nsIn K mainGlobals "_law_mixed" = some (some (.ref f_law_mixed)))
    (l_law_mixed : K.lookup f_law_mixed = some ⟨oc_law_mixed, od_law_mixed, .func (PySem.W.fnOf "_law_mixed" "_law_mixed" (defArgs s_law_mixed) (defBody s_law_mixed) (defScope s_law_mixed) .none kV_law_mixed dc_law_mixed pm_law_mixed an_law_mixed cd_law_mixed ct_law_mixed), sl_law_mixed⟩)
    (c_law_mixed : PySem.W.codeIn K cd_law_mixed "_law_mixed" = true)
    (k_law_mixed : PySem.W.keepIn K (.ref f_law_mixed) = true)
    (a_law_names : PySem.W.nsIn K mainGlobals "_law_names" = some (some (.ref f_law_names)))
    (l_law_names : K.lookup f_law_names = some ⟨oc_law_names, od_law_names, .func (PySem.W.fnOf "_law_names" "_law_names" (defArgs s_law_names) (defBody s_law_names) (defScope s_law_names) .none kV_law_names dc_law_names pm_law_names an_law_names cd_law_names ct_law_names), sl_law_names⟩)
    (c_law_names : PySem.W.codeIn K cd_law_names "_law_names" = true)
    (k_law_names : PySem.W.keepIn K (.ref f_law_names) = true)
    (a_law : PySem.W.nsIn K mainGlobals "law" = some (some (.ref f_law)))
    (l_law : K.lookup f_law = some ⟨oc_law, od_law, .func (PySem.W.fnOf "law" "law" (defArgs s_law) (defBody s_law) (defScope s_law) .none kV_law dc_law pm_law an_law cd_law ct_law), sl_law⟩)
    (c_law : PySem.W.codeIn K cd_law "law" = true)
    (k_law : PySem.W.keepIn K (.ref f_law) = true)
    (b_isinstance : PySem.W.nsIn K mainGlobals "isinstance" = some none)
    (b_str : PySem.W.nsIn K mainGlobals "str" = some none)
    (b_list : PySem.W.nsIn K mainGlobals "list" = some none)
    (b_tuple : PySem.W.nsIn K mainGlobals "tuple" = some none)
    (b_len : PySem.W.nsIn K mainGlobals "len" = some none)
    (b_all : PySem.W.nsIn K mainGlobals "all" = some none)
    (b_abs : PySem.W.nsIn K mainGlobals "abs" = some none)
    (b_int : PySem.W.nsIn K mainGlobals "int" = some none)
    (b_range : PySem.W.nsIn K mainGlobals "range" = some none) :
    ∃ fd : FuncData, (∀ (s : Shared) (v : Value), BindsTo s fd ⟨[v], []⟩ [("_law_script", v)]) ∧ ∀ base : Heap, K.In base → base.Ns mainGlobals mg → FnOk P w K mg base CX0 8 fa fd ["_law_script"] (spLaw K) := by
  have e := hfa.symm.trans (PySem.W.mg_of X G a_law)
  cases e
  have low : PySem.LowX_InvalidMachine.LowTxt_InvalidMachine K mg C_InvalidMachine f_InvalidMachine :=
    { gC := PySem.W.mg_of X G n_InvalidMachine, cls := ⟨nm_InvalidMachine, q_InvalidMachine, N_InvalidMachine, bs_InvalidMachine, _, sn_InvalidMachine, sub_InvalidMachine, ab_InvalidMachine, col_InvalidMachine, dd_InvalidMachine, m0_InvalidMachine, m1_InvalidMachine, m2_InvalidMachine, m3_InvalidMachine, m5_InvalidMachine, x_InvalidMachine, by rfl⟩, sa := sa_InvalidMachine, ga := ga_InvalidMachine, gg := gg_InvalidMachine, noN := nb_InvalidMachine, iC := a1_InvalidMachine, tC := t1_InvalidMachine, kC := kC_InvalidMachine, exC := eC_InvalidMachine, tyC := tC_InvalidMachine, hdC := hC_InvalidMachine, te := exm_self eC_InvalidMachine iC_InvalidMachine tC_InvalidMachine sC_InvalidMachine,
      fn := ⟨_, _, _, _, _, _, _, _, _, _, _, _, _, _, l1_InvalidMachine, c1_InvalidMachine⟩ }
  have F_is_sequence := fun_mk (st := s_is_sequence) l_is_sequence c_is_sequence k_is_sequence
  have F_is_name := fun_mk (st := s_is_name) l_is_name c_is_name k_is_name
  have F_is_event := fun_mk (st := s_is_event) l_is_event c_is_event k_is_event
  have F_is_deed := fun_mk (st := s_is_deed) l_is_deed c_is_deed k_is_deed
  have F_is_phrase := fun_mk (st := s_is_phrase) l_is_phrase c_is_phrase k_is_phrase
  have F_may_do := fun_mk (st := s_may_do) l_may_do c_may_do k_may_do
  have F_law_lets := fun_mk (st := s_law_lets) l_law_lets c_law_lets k_law_lets
  have F_law_deal := fun_mk (st := s_law_deal) l_law_deal c_law_deal k_law_deal
  have F_law_draw := fun_mk (st := s_law_draw) l_law_draw c_law_draw k_law_draw
  have F_law_pick := fun_mk (st := s_law_pick) l_law_pick c_law_pick k_law_pick
  have F_law_mixed := fun_mk (st := s_law_mixed) l_law_mixed c_law_mixed k_law_mixed
  have F_law_names := fun_mk (st := s_law_names) l_law_names c_law_names k_law_names
  have F_law := fun_mk (st := s_law) l_law c_law k_law
  have b_is_sequence := F_is_sequence.binds (ps := ["value"]) fun _ _ _ _ _ _ us hl => match us, hl with | [_], _ => rfl
  have b_is_name := F_is_name.binds (ps := ["value"]) fun _ _ _ _ _ _ us hl => match us, hl with | [_], _ => rfl
  have b_is_event := F_is_event.binds (ps := ["value"]) fun _ _ _ _ _ _ us hl => match us, hl with | [_], _ => rfl
  have b_is_deed := F_is_deed.binds (ps := ["value"]) fun _ _ _ _ _ _ us hl => match us, hl with | [_], _ => rfl
  have b_is_phrase := F_is_phrase.binds (ps := ["text", "alone", "named"]) fun _ _ _ _ _ _ us hl => match us, hl with | [_, _, _], _ => rfl
  have b_may_do := F_may_do.binds (ps := ["event", "deed"]) fun _ _ _ _ _ _ us hl => match us, hl with | [_, _], _ => rfl
  have b_law_lets := F_law_lets.binds (ps := ["_law_told", "_law_row"]) fun _ _ _ _ _ _ us hl => match us, hl with | [_, _], _ => rfl
  have b_law_deal := F_law_deal.binds (ps := ["_law_script", "_law_base"]) fun _ _ _ _ _ _ us hl => match us, hl with | [_, _], _ => rfl
  have b_law_draw := F_law_draw.binds (ps := ["_law_deal_here", "_law_many"]) fun _ _ _ _ _ _ us hl => match us, hl with | [_, _], _ => rfl
  have b_law_pick := F_law_pick.binds (ps := ["_law_deal_here", "_law_some"]) fun _ _ _ _ _ _ us hl => match us, hl with | [_, _], _ => rfl
  have b_law_mixed := F_law_mixed.binds (ps := ["_law_deal_here", "_law_some"]) fun _ _ _ _ _ _ us hl => match us, hl with | [_, _], _ => rfl
  have b_law_names := F_law_names.binds (ps := ["_law_deal_here", "_law_many"]) fun _ _ _ _ _ _ us hl => match us, hl with | [_, _], _ => rfl
  have FR : FunD K "__init__" "Rule.__init__" (defArgs s_Rule_init) (defBody s_Rule_init) (defScope s_Rule_init) [V.ref dv_init_0] [] f_init _ :=
    ⟨⟨_, _, _, _, _, _, _, _, _, _, rfl, l_init, c_init, .inr ⟨by simp, _, _, [.ref dv_init_0], _, rfl, t_init, rfl, .cons rfl .nil⟩, .inl rfl⟩, k_init⟩
  obtain ⟨dsR, vR, bR⟩ := FR.binds1 (ps := ["self", "state", "event", "guard", "then", "deeds"]) 6 1 (by simp) rfl (fun _ _ _ _ _ _ _ us its hl hi => match us, hl, its, hi with | [_, _, _, _, _, _], _, [_], _ => ⟨_, rfl, rfl⟩)
  cases vR
  have TW : TxtW K mg ⟨r_RESERVED, r_PLAIN_EVENTS, r_AREA_EVENTS, r_PLAIN_DEEDS, r_FENCE_DEEDS, r_AREA_DEEDS, t_LONGEST, t_LETTERS, f_is_sequence, f_is_name, f_is_event, f_is_deed, f_is_phrase, f_may_do⟩ := { g_RESERVED := PySem.W.mg_of X G n_RESERVED, s_RESERVED := fun H => .inr ⟨_, _, _, l_RESERVED, rfl, rfl, z_RESERVED, v_RESERVED⟩, g_PLAIN_EVENTS := PySem.W.mg_of X G n_PLAIN_EVENTS, s_PLAIN_EVENTS := fun H => .inr ⟨_, _, _, l_PLAIN_EVENTS, rfl, rfl, z_PLAIN_EVENTS, v_PLAIN_EVENTS⟩, g_AREA_EVENTS := PySem.W.mg_of X G n_AREA_EVENTS, s_AREA_EVENTS := fun H => .inr ⟨_, _, _, l_AREA_EVENTS, rfl, rfl, z_AREA_EVENTS, v_AREA_EVENTS⟩, g_PLAIN_DEEDS := PySem.W.mg_of X G n_PLAIN_DEEDS, s_PLAIN_DEEDS := fun H => .inr ⟨_, _, _, l_PLAIN_DEEDS, rfl, rfl, z_PLAIN_DEEDS, v_PLAIN_DEEDS⟩, g_FENCE_DEEDS := PySem.W.mg_of X G n_FENCE_DEEDS, s_FENCE_DEEDS := fun H => .inr ⟨_, _, _, l_FENCE_DEEDS, rfl, rfl, z_FENCE_DEEDS, v_FENCE_DEEDS⟩, g_AREA_DEEDS := PySem.W.mg_of X G n_AREA_DEEDS, s_AREA_DEEDS := fun H => .inr ⟨_, _, _, l_AREA_DEEDS, rfl, rfl, z_AREA_DEEDS, v_AREA_DEEDS⟩, g_LONGEST := PySem.W.mg_of X G n_LONGEST, g_LETTERS := PySem.W.mg_of X G n_LETTERS, b_isinstance := PySem.W.mg_none_of X G b_isinstance, b_str := PySem.W.mg_none_of X G b_str, b_list := PySem.W.mg_none_of X G b_list, b_tuple := PySem.W.mg_none_of X G b_tuple, b_len := PySem.W.mg_none_of X G b_len, b_all := PySem.W.mg_none_of X G b_all, g_is_sequence := PySem.W.mg_of X G a_is_sequence, k_is_sequence := k_is_sequence, g_is_name := PySem.W.mg_of X G a_is_name, k_is_name := k_is_name, g_is_event := PySem.W.mg_of X G a_is_event, k_is_event := k_is_event, g_is_deed := PySem.W.mg_of X G a_is_deed, k_is_deed := k_is_deed, g__is_phrase := PySem.W.mg_of X G a_is_phrase, k__is_phrase := k_is_phrase, g__may_do := PySem.W.mg_of X G a_may_do, k__may_do := k_may_do }
  have TRr : TxtR K mg ⟨C_Rule, f_init, C_InvalidMachine, f_InvalidMachine, r_GUARDS⟩ := { low_InvalidMachine := low, cl := ⟨pg_Rule, hd_Rule, po_Rule, sa_Rule⟩, M := ⟨mk_Rule, a_init, i_init, kc_Rule⟩, g_Rule := PySem.W.mg_of X G n_Rule, g_GUARDS := PySem.W.mg_of X G n_GUARDS, s_GUARDS := fun H => .inr ⟨_, _, _, l_GUARDS, rfl, rfl, z_GUARDS, v_GUARDS⟩, n_state := no_Rule_state, n_event := no_Rule_event, n_guard := no_Rule_guard, n_then := no_Rule_then, n_deeds := no_Rule_deeds }
  have TT := TR.mk TW TRr
  have TD : TxtL K mg ⟨f_law_deal, f_law_draw, f_law_pick, f_law_mixed, f_law_names⟩ f_law_lets := { b_abs := PySem.W.mg_none_of X G b_abs, b_int := PySem.W.mg_none_of X G b_int, b_len := PySem.W.mg_none_of X G b_len, b_list := PySem.W.mg_none_of X G b_list, b_range := PySem.W.mg_none_of X G b_range, g__law_deal := PySem.W.mg_of X G a_law_deal, k__law_deal := k_law_deal, g__law_draw := PySem.W.mg_of X G a_law_draw, k__law_draw := k_law_draw, g__law_pick := PySem.W.mg_of X G a_law_pick, k__law_pick := k_law_pick, g__law_mixed := PySem.W.mg_of X G a_law_mixed, k__law_mixed := k_law_mixed, g__law_names := PySem.W.mg_of X G a_law_names, k__law_names := k_law_names, g__law_lets := PySem.W.mg_of X G a_law_lets, k__law_lets := k_law_lets }
  refine ⟨PySem.W.fnOf "law" "law" (defArgs s_law) (defBody s_law) (defScope s_law) .none kV_law dc_law pm_law an_law cd_law ct_law, fun s v => .of_eq rfl, fun base _ _ => ?_⟩
  have G1 := ok_is_name (P := P) (w := w) (base := base) F_is_name TW
  have G2 := ok_is_sequence (P := P) (w := w) (base := base) F_is_sequence TW
  have G3 := ok_is_phrase (P := P) (w := w) (base := base) F_is_phrase TW G1 b_is_name
  have G4 := ok_is_event (P := P) (w := w) (base := base) F_is_event TW G3 b_is_phrase
  have G5 := ok_is_deed (P := P) (w := w) (base := base) F_is_deed TW G3 b_is_phrase
  have G6 := ok_may_do (P := P) (w := w) (base := base) F_may_do TW G5 b_is_deed
  have G7 := ok_Rule (P := P) (w := w) (base := base) FR TT G1 b_is_name G4 b_is_event G2 b_is_sequence G6 b_may_do
  have G8 := ok_lets (P := P) (w := w) (base := base) F_law_lets TT G7 bR
  have H1 := ok_deal (P := P) (w := w) (base := base) F_law_deal TD.toTxtD
  have H2 := ok_draw (P := P) (w := w) (base := base) F_law_draw TD.toTxtD
  have H3 := ok_pick (P := P) (w := w) (base := base) F_law_pick TD.toTxtD H2 b_law_draw
  have H4 := ok_mixed (P := P) (w := w) (base := base) F_law_mixed TD.toTxtD H2 b_law_draw
  have H5 := ok_names (P := P) (w := w) (base := base) F_law_names TD.toTxtD H2 b_law_draw
  exact ok_law F_law TD H1 b_law_deal H3 b_law_pick H4 b_law_mixed H5 b_law_names G8 b_law_lets
theorem walk {l : PySem.W.OpenLaw} {q : Program} {loose : List Str} {XP : (Str → Option Value) → Heap → Prop} {YP : World → Heap → Prop} {d : DefRec} {K : Params → PySem.W.Frag} (hn : l.most = some 63) (hdf : d.params.defaults = [])
    (hY : ∀ (w : World) (h : Heap), YP w h → (K w.params).In h)
    (F : ∀ (w : World) (mg : Str → Option Value) (fa : Addr) (h : Heap), (K w.params).In h → h.Ns mainGlobals mg → mg d.name = some (.ref fa) →
      ∃ fd : FuncData, (∀ (s : Shared) (u : Value), BindsTo s fd ⟨[u], []⟩ [("_law_script", u)]) ∧ ∀ base : Heap, (K w.params).In base → base.Ns mainGlobals mg → FnOk l.prog w (K w.params) mg base CX0 8 fa fd ["_law_script"] (spLaw (K w.params))) :
    PySem.W.WalkO q loose XP YP l.row.toRowW d [] (fun f vs => PySem.call f vs) :=
  L2.walk_of (n := 63) (k := 8) (x := "_law_script") (CX := fun _ => CX0) (sp := fun w => spLaw (K w.params)) hn (by decide) hdf ⟨rfl, by decide, by decide⟩ hY F (fun _ _ a ns hl _ hS => ⟨a, ns, rfl, hS, hl, fun _ => rfl⟩) fun _ _ _ _ _ z => z
end L2.Wk
open PySem PySem.W PyProof.Rows
set_option maxRecDepth 100000 in
set_option maxHeartbeats 0 in
theorem PySem.Challenge.cw_wakesafe_k21_events_and_deeds_told_right_holds : PySem.Challenge.rw_wakesafe_k21_events_and_deeds_told_right.Holds := by
  w_on; o_law; k_head; (case hw => w_witness2)
  k_fill
  refine L2.Wk.walk (l := PySem.Challenge.rw_wakesafe_k21_events_and_deeds_told_right) rfl rfl (fun w h Y => PySem.W.kIn_of Y) ?F
  case F =>
    intro w mg fa h KX G hmg
    refine' L2.Wk.all_mk KX G hmg ?n_InvalidMachine ?x_InvalidMachine ?sa_InvalidMachine ?ga_InvalidMachine ?gg_InvalidMachine ?nb_InvalidMachine ?a1_InvalidMachine ?t1_InvalidMachine ?l1_InvalidMachine ?c1_InvalidMachine ?kC_InvalidMachine ?eC_InvalidMachine ?tC_InvalidMachine ?hC_InvalidMachine ?iC_InvalidMachine ?sC_InvalidMachine ?n_RESERVED ?l_RESERVED ?v_RESERVED ?z_RESERVED ?n_PLAIN_EVENTS ?l_PLAIN_EVENTS ?v_PLAIN_EVENTS ?z_PLAIN_EVENTS ?n_AREA_EVENTS ?l_AREA_EVENTS ?v_AREA_EVENTS ?z_AREA_EVENTS ?n_PLAIN_DEEDS ?l_PLAIN_DEEDS ?v_PLAIN_DEEDS ?z_PLAIN_DEEDS ?n_FENCE_DEEDS ?l_FENCE_DEEDS ?v_FENCE_DEEDS ?z_FENCE_DEEDS ?n_AREA_DEEDS ?l_AREA_DEEDS ?v_AREA_DEEDS ?z_AREA_DEEDS ?n_GUARDS ?l_GUARDS ?v_GUARDS ?z_GUARDS ?n_LONGEST ?n_LETTERS ?a_is_sequence ?l_is_sequence ?c_is_sequence ?k_is_sequence ?a_is_name ?l_is_name ?c_is_name ?k_is_name ?a_is_event ?l_is_event ?c_is_event ?k_is_event ?a_is_deed ?l_is_deed ?c_is_deed ?k_is_deed ?a_is_phrase ?l_is_phrase ?c_is_phrase ?k_is_phrase ?a_may_do ?l_may_do ?c_may_do ?k_may_do ?n_Rule ?pg_Rule ?hd_Rule ?po_Rule ?sa_Rule ?mk_Rule ?kc_Rule ?no_Rule_state ?no_Rule_event ?no_Rule_guard ?no_Rule_then ?no_Rule_deeds ?a_init ?i_init ?l_init ?c_init ?k_init ?t_init ?a_law_lets ?l_law_lets ?c_law_lets ?k_law_lets ?a_law_deal ?l_law_deal ?c_law_deal ?k_law_deal ?a_law_draw ?l_law_draw ?c_law_draw ?k_law_draw ?a_law_pick ?l_law_pick ?c_law_pick ?k_law_pick ?a_law_mixed ?l_law_mixed ?c_law_mixed ?k_law_mixed ?a_law_names ?l_law_names ?c_law_names ?k_law_names ?a_law ?l_law ?c_law ?k_law ?b_isinstance ?b_str ?b_list ?b_tuple ?b_len ?b_all ?b_abs ?b_int ?b_range
    (case n_InvalidMachine => k_is)
    (case x_InvalidMachine => k_is)
    (case sa_InvalidMachine => k_is)
    (case ga_InvalidMachine => k_is)
    (case gg_InvalidMachine => k_is)
    (case nb_InvalidMachine => k_is)
    (case a1_InvalidMachine => k_is)
    (case t1_InvalidMachine => k_is)
    (case l1_InvalidMachine => k_is)
    (case c1_InvalidMachine => k_is)
    (case kC_InvalidMachine => k_is)
    (case eC_InvalidMachine => k_is)
    (case tC_InvalidMachine => k_is)
    (case hC_InvalidMachine => k_is)
    (case iC_InvalidMachine => k_is)
    (case sC_InvalidMachine => first | rfl | k_is)
    (case n_RESERVED => k_is)
    (case l_RESERVED => k_is)
    (case v_RESERVED => exact (.cons ⟨_, rfl⟩ (.cons ⟨_, rfl⟩ (.cons ⟨_, rfl⟩ (.cons ⟨_, rfl⟩ (.cons ⟨_, rfl⟩ (.cons ⟨_, rfl⟩ (.cons ⟨_, rfl⟩ (.cons ⟨_, rfl⟩ (.cons ⟨_, rfl⟩ (.cons ⟨_, rfl⟩ (.nil))))))))))))
    (case z_RESERVED => decide)
    (case n_PLAIN_EVENTS => k_is)
    (case l_PLAIN_EVENTS => k_is)
    (case v_PLAIN_EVENTS => exact (.cons ⟨_, rfl⟩ (.cons ⟨_, rfl⟩ (.cons ⟨_, rfl⟩ (.nil)))))
    (case z_PLAIN_EVENTS => decide)
    (case n_AREA_EVENTS => k_is)
    (case l_AREA_EVENTS => k_is)
    (case v_AREA_EVENTS => exact (.cons ⟨_, rfl⟩ (.cons ⟨_, rfl⟩ (.nil))))
    (case z_AREA_EVENTS => decide)
    (case n_PLAIN_DEEDS => k_is)
    (case l_PLAIN_DEEDS => k_is)
    (case v_PLAIN_DEEDS => exact (.cons ⟨_, rfl⟩ (.cons ⟨_, rfl⟩ (.cons ⟨_, rfl⟩ (.cons ⟨_, rfl⟩ (.cons ⟨_, rfl⟩ (.nil)))))))
    (case z_PLAIN_DEEDS => decide)
    (case n_FENCE_DEEDS => k_is)
    (case l_FENCE_DEEDS => k_is)
    (case v_FENCE_DEEDS => exact (.cons ⟨_, rfl⟩ (.cons ⟨_, rfl⟩ (.nil))))
    (case z_FENCE_DEEDS => decide)
    (case n_AREA_DEEDS => k_is)
    (case l_AREA_DEEDS => k_is)
    (case v_AREA_DEEDS => exact (.cons ⟨_, rfl⟩ (.cons ⟨_, rfl⟩ (.cons ⟨_, rfl⟩ (.cons ⟨_, rfl⟩ (.cons ⟨_, rfl⟩ (.nil)))))))
    (case z_AREA_DEEDS => decide)
    (case n_GUARDS => k_is)
    (case l_GUARDS => k_is)
    (case v_GUARDS => exact (.cons ⟨_, rfl⟩ (.cons ⟨_, rfl⟩ (.cons ⟨_, rfl⟩ (.nil)))))
    (case z_GUARDS => decide)
    (case n_LONGEST => k_is)
    (case n_LETTERS => k_is)
    (case a_is_sequence => k_is)
    (case l_is_sequence => k_is)
    (case c_is_sequence => k_is)
    (case k_is_sequence => k_is)
    (case a_is_name => k_is)
    (case l_is_name => k_is)
    (case c_is_name => k_is)
    (case k_is_name => k_is)
    (case a_is_event => k_is)
    (case l_is_event => k_is)
    (case c_is_event => k_is)
    (case k_is_event => k_is)
    (case a_is_deed => k_is)
    (case l_is_deed => k_is)
    (case c_is_deed => k_is)
    (case k_is_deed => k_is)
    (case a_is_phrase => k_is)
    (case l_is_phrase => k_is)
    (case c_is_phrase => k_is)
    (case k_is_phrase => k_is)
    (case a_may_do => k_is)
    (case l_may_do => k_is)
    (case c_may_do => k_is)
    (case k_may_do => k_is)
    (case n_Rule => k_is)
    (case pg_Rule => k_is)
    (case hd_Rule => k_is)
    (case po_Rule => k_is)
    (case sa_Rule => k_is)
    (case mk_Rule => k_is)
    (case kc_Rule => k_is)
    (case no_Rule_state => k_is)
    (case no_Rule_event => k_is)
    (case no_Rule_guard => k_is)
    (case no_Rule_then => k_is)
    (case no_Rule_deeds => k_is)
    (case a_init => k_is)
    (case i_init => k_is)
    (case l_init => k_is)
    (case c_init => k_is)
    (case k_init => k_is)
    (case t_init => k_is)
    (case a_law_lets => k_is)
    (case l_law_lets => k_is)
    (case c_law_lets => k_is)
    (case k_law_lets => k_is)
    (case a_law_deal => k_is)
    (case l_law_deal => k_is)
    (case c_law_deal => k_is)
    (case k_law_deal => k_is)
    (case a_law_draw => k_is)
    (case l_law_draw => k_is)
    (case c_law_draw => k_is)
    (case k_law_draw => k_is)
    (case a_law_pick => k_is)
    (case l_law_pick => k_is)
    (case c_law_pick => k_is)
    (case k_law_pick => k_is)
    (case a_law_mixed => k_is)
    (case l_law_mixed => k_is)
    (case c_law_mixed => k_is)
    (case k_law_mixed => k_is)
    (case a_law_names => k_is)
    (case l_law_names => k_is)
    (case c_law_names => k_is)
    (case k_law_names => k_is)
    (case a_law => k_is)
    (case l_law => k_is)
    (case c_law => k_is)
    (case k_law => k_is)
    (case b_isinstance => k_is)
    (case b_str => k_is)
    (case b_list => k_is)
    (case b_tuple => k_is)
    (case b_len => k_is)
    (case b_all => k_is)
    (case b_abs => k_is)
    (case b_int => k_is)
    (case b_range => k_is)
