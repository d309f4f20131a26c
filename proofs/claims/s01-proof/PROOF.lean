import PyProof.Rows.All
import Wide.All
import OpenK.AllK
import Wide.FinOn
import Open.SpecLaws
import KE.OsHead
import KE.OsGo
import HandS.ForSpec
import HandS.ForMost
import HandS.Rev
import HandS.Zip
import KE.KDictZip
import HandS.Lambda
import HandS.SortKw
import KE.DataMinKey
import HandS.EndTab
import KE.KNestM
import HandS.Wide
import HandS.FStr
import HandS.Conv
import HandS.Codes
import HandS.DictTup
import HandS.TupSets
import KE.SortData
import HandS.Walk
import PySem.Challenge.RW_soonways_s01_answers
set_option Elab.async false
set_option linter.all false
set_option maxRecDepth 100000
set_option maxHeartbeats 2000000
namespace Sw
open PySem PySem.Spec PyProof.Rows L2
/-! ### list(..) of an iterator -/
section
variable {prog : Program} {w : World} {A : Around} {s : Shared} {R : Result → Shared → Prop}
variable {I : Addr} {fp wr : List Addr} {G : Array GenState → Array GenState → Prop} {n : Nat} {P : Nat → Value → Prop} {St : Nat → Shared → Prop}
/-- What list's extend does with an iterator of some type that tells no length of its own. -/
theorem extend_it {T : String} (W : WalksS prog w A.in1 I fp wr G n P St) (hT : ∀ i s, St i s → s.TypeIs (.ref I) T) (tl : (Value.type T == Value.type "list") = false) (tt : (Value.type T == Value.type "tuple") = false)
    (hint : ∀ (s : Shared) (Q : Bool → Shared → Prop) (E : Value → Shared → Prop), s.TypeIs (.ref I) T → (∀ b, Q b s) → wpAny (model prog w) A.in1 (Builtin.List.listLengthHint (.ref I)) Q E s)
    (S : Addr) (res : Value) (c₀ : Nat) (hst : St 0 s) (hSf : S ∉ fp) (hI : I ∈ fp) (hn : n ≤ sizeLine)
    (hS : s.heap.get? S = some { cls := .type "list", data := .seq #[] c₀ })
    (hR : ∀ s' acc' c', Moved (S :: wr) G s s' → s'.heap.get? S = some { cls := .type "list", dict := none, data := .seq acc' c', slots := #[] } → ItemsOf P acc' n → R (.ok (.ret res)) s') :
    wpAny (model prog w) A.in1 (Builtin.List.listExtendWith (.ref S) (.ref I) res)
      (fun fin s' => match fin with | .done f => R (.ok f) s' | .again c' => c'.quiet = true ∧ codeAny (model prog w) A c' R s') (fun e s' => R (.error e) s') s := by
  have hSI : S ≠ I := fun e => hSf (e ▸ hI)
  have same0 : Builtin.List.listSameRef (.ref S) (.ref I) = false := by simp [Builtin.List.listSameRef, hSI]
  have last : ∀ (h2 : Heap) (c2 : Nat), (∀ b o, b ≠ S → s.heap.get? b = some o → h2.get? b = some o) → h2.get? S = some { cls := .type "list", dict := none, data := .seq #[] c2, slots := #[] } →
      codeAny (model prog w) A (.builtin "list.extend.loop" ⟨[.ref S, .ref I, res], []⟩) R { s with heap := h2 } := by
    intro h2 c2 oth hS2
    refine codeAny_extend_loopS W hn _ hSf _ n 0 _ _ _ rfl (Nat.zero_le _)
      (W.frame 0 s _ s.toks hst (Nat.le_refl _) fun b hb o e => oth b o (fun h => hSf (h ▸ hb)) e) hS2 (ItemsOf.nil P) fun s' acc' c' hm hS' hacc => ?_
    exact hR s' acc' c' (Moved.trans W.gtrans ((Moved.refl W.grefl).then_heap (Nat.le_refl _) fun b o hb e => oth b o (fun h => hb (h ▸ List.mem_cons_self)) e) hm) hS' hacc
  unfold Builtin.List.listExtendWith
  refine wpAny_bind (wpAny_typeOf (hT 0 _ hst) ?_)
  simp only [same0, tl, tt, Bool.or_false, Bool.false_eq_true, if_false]
  refine wpAny_bind (W.self 0 _ _ _ hst (wpAny_bind (wpAny_holding (hint _ _ _ (hT 0 _ hst) fun b => ?_))))
  refine wpAny_ite_split (fun _ => ?_) (fun _ => wpAny_pure ⟨plainId_quiet F.plain_extend_loop _, last _ c₀ (fun b o _ e => e) hS⟩)
  refine wpAny_bind (wpAny_rule (wpAny_bind ?_))
  show wpAny _ _ (updateSeq S (·.push .none) >>= fun _ => updateSeq S (·.pop)) _ _ _
  refine wpAny_bind (wpAny_updateSeq hS rfl ?_)
  have hS₂ := Heap.get?_update_self (Obj.mapSeq (·.push Value.none)) hS rfl
  refine wpAny_updateSeq (hz := by seq_fits) hS₂ rfl ?_
  have hS₃ := Heap.get?_update_self (Obj.mapSeq (·.pop)) hS₂ rfl
  exact wpAny_pure ⟨plainId_quiet F.plain_extend_loop _, last _ _ (fun b o hb e => (Heap.get?_update_other _ _ (Ne.symm hb)).trans ((Heap.get?_update_other _ _ (Ne.symm hb)).trans e)) hS₃⟩
end
section
variable {prog : Program} {w : World} {A : Around} {E : Value → Shared → Prop} {s : Shared}
variable {I : Addr} {fp wr : List Addr} {G : Array GenState → Array GenState → Prop} {n : Nat} {P : Nat → Value → Prop} {St : Nat → Shared → Prop}
theorem call_list_it {T : String} {Q : Value → Shared → Prop} (W : WalksS prog w A.in1.in1 I fp wr G n P St) (hT : ∀ i s, St i s → s.TypeIs (.ref I) T) (tl : (Value.type T == Value.type "list") = false) (tt : (Value.type T == Value.type "tuple") = false)
    (hint : ∀ (s : Shared) (Q : Bool → Shared → Prop) (E : Value → Shared → Prop), s.TypeIs (.ref I) T → (∀ b, Q b s) → wpAny (model prog w) A.in1.in1 (Builtin.List.listLengthHint (.ref I)) Q E s)
    (hst : St 0 s) (hfp : ∀ b ∈ fp, b < s.heap.objs.size) (hI : I ∈ fp) (hn : n ≤ sizeLine)
    (hQ : ∀ s' acc' c', Moved (s.heap.objs.size :: wr) G { s with heap := s.heap.push { cls := .type "list", data := .seq #[] } } s' →
      s'.heap.get? s.heap.objs.size = some { cls := .type "list", dict := none, data := .seq acc' c', slots := #[] } → ItemsOf P acc' n → Q (.ref s.heap.objs.size) s') :
    wpAny (model prog w) A (call (.type "list") [.ref I]) Q E s := by
  have hSf : s.heap.objs.size ∉ fp := fun hm => Nat.lt_irrefl _ (hfp _ hm)
  refine callType_codes (Q₁ := fun obj s₁ => obj = .ref s.heap.objs.size ∧ s₁ = { s with heap := s.heap.push { cls := .type "list", data := .seq #[] } }) F.called_list (F.typeCall_list_1 _) F.entry_list_init
    (code_list_new _ ⟨rfl, rfl⟩) fun obj s₁ h₁ => ?_
  obtain ⟨rfl, rfl⟩ := h₁
  have hS : (s.heap.push { cls := .type "list", data := .seq #[] }).get? s.heap.objs.size = some { cls := .type "list", data := .seq #[] } := Heap.get?_push_size _ rfl
  refine ⟨⟨_, hS, rfl⟩, F.args_list_init_2 _ _, ?_⟩
  show wpAny _ _ (do let old ← Builtin.List.listItems (.ref s.heap.objs.size); Builtin.List.listUpdate (.ref s.heap.objs.size) (fun _ => #[]); letGo old.toList.reverse; Builtin.List.listExtendWith (.ref s.heap.objs.size) (.ref I) .none) _ _ _
  refine wpAny_bind ?_
  unfold Builtin.List.listItems
  refine wpAny_bind (wpAny_seqItems hS rfl (wpAny_pure ?_))
  show wpAny _ _ (updateSeq s.heap.objs.size (fun _ => #[]) >>= fun _ => letGo (#[] : Array Value).toList.reverse >>= fun _ => Builtin.List.listExtendWith (.ref s.heap.objs.size) (.ref I) .none) _ _ _
  refine wpAny_bind (wpAny_updateSeq hS rfl ?_)
  have hS₂ := Heap.get?_update_self (Obj.mapSeq (fun _ => (#[] : Array Value))) hS rfl
  have oth : ∀ b o, b ≠ s.heap.objs.size → (s.heap.push { cls := .type "list", data := .seq #[] }).get? b = some o → ((s.heap.push { cls := .type "list", data := .seq #[] }).update s.heap.objs.size (Obj.mapSeq (fun _ => (#[] : Array Value)))).get? b = some o :=
    fun b o hb e => (Heap.get?_update_other _ _ (Ne.symm hb)).trans e
  refine wpAny_bind (wpAny_letGo ?_)
  refine extend_it W hT tl tt hint _ .none _ (W.frame 0 s _ s.toks hst (Nat.le_refl _) fun b hb o e => oth b o (fun h => hSf (h ▸ hb)) (Heap.get?_push_of_some _ e)) hSf hI hn hS₂ fun s' acc' c' hm hS' hacc => ?_
  refine ⟨rfl, hQ s' acc' c' (Moved.trans W.gtrans ((Moved.refl W.grefl).then_heap (Nat.le_refl _) fun b o hb e => oth b o (fun h => hb (h ▸ List.mem_cons_self)) e) hm) hS' hacc⟩
end
/-- The hint of a list's reversed iterator is never asked loudly. -/
theorem hint_rev {prog : Program} {w : World} {A : Around} {I : Addr} (s : Shared) (Q : Bool → Shared → Prop) (E : Value → Shared → Prop) (hT : s.TypeIs (.ref I) "list_reverseiterator") (h : ∀ b, Q b s) :
    wpAny (model prog w) A (Builtin.List.listLengthHint (.ref I)) Q E s := by
  unfold Builtin.List.listLengthHint
  refine wpAny_bind (wpAny_specialOf hT RT.nolen_lri ?_)
  show wpAny _ _ (specialOf (Value.ref I) (Str.ofString "__length_hint__") >>= _) _ _ _
  refine wpAny_bind (wpAny_specialOf hT RT.hint_lri ?_)
  generalize hid : ("list_reverseiterator.__length_hint__" : String) = id0
  wp_delta
  rw [show splitId id0 = some ("list_reverseiterator", "__length_hint__") from by subst hid; decide +kernel]
  subst hid
  refine wpAny_bind (wpAny_isInstance (b := true) hT (by rw [isSubtype_type]; kernel_rfl) ?_)
  exact wpAny_pure (h _)
def tListRev (K : PySem.W.Frag) (te : TE) : TE := fun σ H Q => te σ H fun v H1 => ∃ (a : Addr) (xs : List V), v = .ref a ∧ SqL K H1 a xs ∧ ∀ q, H1 q = none → Q (.ref q) (upd H1 q (.lst xs.reverse))
section
variable {X : Cx}
theorem pe_listRev {e : Expr} {te : TE} {p p2 pos pos2 : Pos} (hc : X.calm = true) (hg : Gl X "list") (hm : X.mg "list" = none) (hg2 : Gl X "reversed") (hm2 : X.mg "reversed" = none) (he : PE X e te)
    (hs : starEach [e] X.env = (false, eval e X.env) :: starEach [] X.env := by rfl)
    (hs2 : starEach [.Call (.Name "reversed" p2) [e] [] pos2] X.env = (false, eval (.Call (.Name "reversed" p2) [e] [] pos2) X.env) :: starEach [] X.env := by rfl) :
    PE X (.Call (.Name "list" p) [.Call (.Name "reversed" p2) [e] [] pos2] [] pos) (tListRev X.K te) := by
  refine ⟨fun pins s σ H Q I h => ?_⟩
  refine Call_ (ld_blt I hg hm boot_list (PyProof.Rows.callWith_type1 (args_cons (Call_ (ld_blt I hg2 hm2 PyProof.Rows.boot_reversed (PyProof.Rows.callWith_type1 (args_cons (thn (he.run pins s σ H _ I h) fun u s1 ⟨v, H1, I1, r1, q1⟩ => args_nil ?_) hs) hs rfl))) hs2) hs2 rfl))
  obtain ⟨a, xs, ev, hq, q⟩ := q1
  subst ev
  obtain rfl : u = Value.ref a := r1
  obtain ⟨its, rv, pl, hz⟩ := I1.list hq
  refine call_reversed_list pl.isList (args_nil ?_)
  generalize hob : revObj a ((its.toArray.size : Int) - 1) = ro
  have hl := pl.isList
  obtain ⟨ol, hol, _⟩ := id hl
  have hne : a ≠ s1.heap.objs.size := Nat.ne_of_lt (Heap.lt_size hol)
  have hn : its.toArray.size ≤ sizeLine := by rw [List.size_toArray, ← rv.length]; exact hz
  have hT : ∀ (i : Nat) (s : Shared), (i ≤ its.toArray.size ∧ s.heap.IsRevIter s1.heap.objs.size a ((its.toArray.size : Int) - 1 - (i : Int)) ∧ s.heap.IsList a its.toArray) → s.TypeIs (.ref s1.heap.objs.size) "list_reverseiterator" :=
    fun i s st => Heap.IsRevIter.typeIs st.2.1
  have sz : (s1.heap.push ro).objs.size = s1.heap.objs.size + 1 := Heap.size_push ..
  refine call_list_it (T := "list_reverseiterator") (I := s1.heap.objs.size) (s := { s1 with heap := s1.heap.push ro }) (Walks.listRev (A := X.A.in1.in1) (show X.A.in1.in1.handled = none from I1.ok.hd hc) s1.heap.objs.size a hne its.toArray).toS hT rfl rfl
    (fun s Q E t h => hint_rev s Q E t h) ⟨Nat.zero_le _, ?_, hl.push _⟩ (fun b hb => ?_) (by simp) hn fun s' acc' c' hm hS' hacc => ?_
  · subst hob
    have e0 : ((its.toArray.size : Nat) : Int) - 1 - ((0 : Nat) : Int) = (its.toArray.size : Int) - 1 := by omega
    rw [e0]
    exact ⟨_, Heap.get?_push_size _ rfl, rfl, rfl⟩
  · have hal := Heap.lt_size hol
    simp only [List.mem_cons, List.not_mem_nil, or_false] at hb
    show b < (s1.heap.push ro).objs.size
    rw [sz]
    rcases hb with rfl | rfl
    · exact Nat.lt_succ_self _
    · exact Nat.lt_succ_of_lt hal
  · have eq := Moved.eq_with hm
    rw [eq]
    have hS2 : s'.heap.get? (s1.heap.objs.size + 1) = some { cls := .type "list", dict := none, data := .seq acc' c', slots := #[] } := by rw [← sz]; exact hS'
    have J : Inv X pins σ (upd H1 (s1.heap.objs.size + 1) (.lst xs.reverse)) { s1 with heap := s'.heap, toks := s'.toks } := by
      refine I1.turnedNew (ch := [s1.heap.objs.size]) (fun b o hb e => ?_) (fun b hb => ?_) (Nat.le_succ _) ⟨?_, acc'.toList, c', RT.vals_rev rv hacc, ?_⟩
      · refine hm.heap b o (fun z => ?_) (Heap.get?_push_of_some _ (Heap.get?_push_of_some _ e))
        have lt := Heap.lt_size e
        simp only [List.mem_cons, List.not_mem_nil, or_false] at z hb
        rcases z with z | z
        · rw [z] at lt
          have lt : (s1.heap.push ro).objs.size < s1.heap.objs.size := lt
          omega
        · exact hb z
      · simp only [List.mem_cons, List.not_mem_nil, or_false] at hb
        subst hb
        exact I1.fpOk (Nat.le_refl _) (I1.hok.fresh (Nat.le_refl _))
      · rw [List.length_reverse]; exact hz
      · rw [Array.toArray_toList]; exact hS2
    refine ⟨.ref (s1.heap.push ro).objs.size, _, J, rfl, ?_⟩
    show Q (.ref (s1.heap.push ro).objs.size) _
    rw [sz]
    exact q _ (I1.hok.fresh (Nat.le_succ _))
end
end Sw
set_option maxHeartbeats 2000000
namespace Sw
open PySem PySem.Spec PyProof.Rows L2
section
variable {X : Cx} {pins : List (Addr × Obj)} {σ : L2.St} {H H' : Hp} {s : Shared} {h' : Heap}
/-- Records of ours have turned, and any number of new objects are laid. -/
theorem grown {t' : Nat} {ch : List Addr} (I : Inv X pins σ H s) (k : ∀ b o, b ∉ ch → s.heap.get? b = some o → h'.get? b = some o) (hf : ∀ b ∈ ch, FpOk X pins H b)
    (ext : ∀ b u, H b = some u → H' b = some u) (new : ∀ b u, H' b = some u → H b = none → s.heap.objs.size ≤ b ∧ ObjOk X.prog X.w H' h' b u) : Inv X pins σ H' { s with heap := h', toks := t' } := by
  have nit : ∀ b u, H b = some u → b ∉ ch := fun b u e z => by rw [(hf b z).1] at e; cases e
  refine I.step (g' := s.gens) (d' := s.drawn) (ch := ch) (fun b hb => let f := hf b hb; ⟨f.2.2.2.1, f.2.1, f.2.2.2.2.1, f.2.2.2.2.2⟩) (fun b o _ _ hc e _ => k b o hc e) (fun b o _ _ hc e _ => ⟨o.slots, k b o hc e⟩)
    (fun b o _ e n => ?_) (fun b o hc e => ⟨o, k b o hc e⟩) (fun b xs e => ext b _ e) (fun b o u e => ext b _ e) (fun b ps e => ⟨#[], by rw [ext b _ e]; simp⟩) (fun m ⟨o, es, ep, ho, r⟩ => ⟨o, es, ep, k _ o (fun z => (hf _ z).2.1 rfl) ho, r⟩) (fun b u e => ?_) I.bare
  · cases q : H' b with
    | none => rfl
    | some u => exact absurd (Heap.lt_size e) (Nat.not_lt.mpr (new b u q n).1)
  · cases q : H b with
    | none => exact (new b u e q).2
    | some u' =>
      have eu : u' = u := Option.some.inj ((ext b u' q).symm.trans e)
      subst eu
      refine (I.hok b u' q).stay (fun c v hc r => k c v ?_ r) (fun c r => ext c _ r) fun c xs r => ext c _ r
      rcases hc with z | z
      · rw [z]; exact nit b u' q
      · exact nit c _ z
end
/-! ### list(zip(..)) of two lists -/
/-- What has been drawn: the pairs stand there, behind all that was. -/
structure ZDr (h : Heap) (base : Nat) (xs ys acc : Array Value) (i : Nat) : Prop where
  size : acc.size = i
  pair : ∀ j, j < i → ∃ p x y, acc[j]? = some (.ref p) ∧ base ≤ p ∧ xs[j]? = some x ∧ ys[j]? = some y ∧ IsPair h p x y
  apart : ∀ (j k : Nat) (p : Addr), acc[j]? = some (Value.ref p) → acc[k]? = some (Value.ref p) → j = k
theorem ne_hi {b S z : Nat} (hb : S + 1 ≤ b) (lz : z < S) : b ≠ z := by omega
theorem ZDr.keep {h h' : Heap} {base : Nat} {xs ys acc : Array Value} {i : Nat} (d : ZDr h base xs ys acc i) (k : ∀ b o, base ≤ b → h.get? b = some o → h'.get? b = some o) : ZDr h' base xs ys acc i :=
  ⟨d.size, fun j hj => let ⟨p, x, y, a, b, c, e, f⟩ := d.pair j hj; ⟨p, x, y, a, b, c, e, k p _ b f⟩, d.apart⟩
theorem ZDr.more {h : Heap} {base : Nat} {xs ys acc : Array Value} {i p : Nat} {x y : Value} (d : ZDr h base xs ys acc i) (hb : base ≤ p) (hx : xs[i]? = some x) (hy : ys[i]? = some y) (hp : IsPair h p x y)
    (far : ∀ (j : Nat) (q : Addr), acc[j]? = some (Value.ref q) → q ≠ p) : ZDr h base xs ys (acc.push (.ref p)) (i + 1) := by
  have sz := d.size
  refine ⟨by rw [Array.size_push, sz], fun j hj => ?_, fun j k q hj hk => ?_⟩
  · by_cases e : j = i
    · subst e
      exact ⟨p, x, y, by rw [← sz, Array.getElem?_push_size], hb, hx, hy, hp⟩
    · obtain ⟨q, x', y', a, b, c⟩ := d.pair j (by omega)
      refine ⟨q, x', y', ?_, b, c⟩
      rw [Array.getElem?_push, if_neg (by omega)]
      exact a
  · rw [Array.getElem?_push] at hj hk
    by_cases ej : j = acc.size
    · rw [if_pos ej] at hj
      have ep : p = q := by
        have := Option.some.inj hj
        injection this
      subst ep
      by_cases ek : k = acc.size
      · rw [ej, ek]
      · rw [if_neg ek] at hk
        exact absurd rfl (far k _ hk)
    · rw [if_neg ej] at hj
      by_cases ek : k = acc.size
      · rw [if_pos ek] at hk
        have ep : p = q := by
          have := Option.some.inj hk
          injection this
        subst ep
        exact absurd rfl (far j _ hj)
      · rw [if_neg ek] at hk
        exact d.apart j k q hj hk
/-- How the zip stands: at first, and behind its first pair. -/
def ZipSt (h : Heap) (z TI TO : Addr) (i : Nat) : Prop :=
  (i = 0 ∧ IsZip h z TI TO .none ∧ ∃ a b, IsPair h TO a b) ∨ (0 < i ∧ ∃ T f oT, IsZipHeld h z TI TO T f ∧ h.get? T = some oT ∧ T ≠ z)
section
variable {prog : Program} {w : World} {A : Around} {R : Result → Shared → Prop}
theorem zip_loop {z TI TO i1 i2 l1 l2 S : Addr} {xs ys : Array Value} (hh : A.handled = none) (D : ZipApart z TI TO i1 i2 l1 l2) (hlen : xs.size = ys.size) (hn : xs.size ≤ sizeLine)
    (lz : z < S) (lTI : TI < S) (lTO : TO < S) (li1 : i1 < S) (li2 : i2 < S) (ll1 : l1 < S) (ll2 : l2 < S) (res : Value) : ∀ (k i : Nat) (s : Shared) (acc : Array Value) (c : Nat), xs.size - i = k → i ≤ xs.size →
    ZipSt s.heap z TI TO i → IsPair s.heap TI (.ref i1) (.ref i2) → s.heap.IsListIter i1 l1 i → s.heap.IsListIter i2 l2 i → s.heap.IsList l1 xs → s.heap.IsList l2 ys →
    s.heap.get? S = some { cls := .type "list", dict := none, data := .seq acc c, slots := #[] } → ZDr s.heap (S + 1) xs ys acc i →
    (∀ (h' : Heap) acc' c', (∀ b o, b < S → b ≠ z → b ≠ TO → b ≠ i1 → b ≠ i2 → s.heap.get? b = some o → h'.get? b = some o) → h'.get? S = some { cls := .type "list", dict := none, data := .seq acc' c', slots := #[] } →
      ZDr h' (S + 1) xs ys acc' xs.size → R (.ok (.ret res)) { s with heap := h' }) →
    codeAny (model prog w) A (.builtin "list.extend.loop" ⟨[.ref S, .ref z, res], []⟩) R s := by
  intro k
  induction k with
  | zero =>
    intro i s acc c hk hi hz hTI h1 h2 hl1 hl2 hS hd hR
    have ei : i = xs.size := by omega
    subst ei
    refine codeAny_builtin F.entry_extend_loop ?_
    rw [Around.under_plainId F.plain_extend_loop _]
    show wpAny _ A.in1 (pyNext (.ref z) >>= _) _ _ s
    refine wpAny_bind ?_
    have fin : ∀ h', (∀ c o, c ≠ z → c ≠ TO → c ≠ i1 → c ≠ i2 → s.heap.get? c = some o → h'.get? c = some o) → R (.ok (.ret res)) { s with heap := h' } := fun h' hk' =>
      hR h' acc c (fun b o _ a1 a2 a3 a4 e => hk' b o a1 a2 a3 a4 e) (hk' S _ (Nat.ne_of_gt lz) (Nat.ne_of_gt lTO) (Nat.ne_of_gt li1) (Nat.ne_of_gt li2) hS)
        (hd.keep fun b o hb e => hk' b o (ne_hi hb lz) (ne_hi hb lTO) (ne_hi hb li1) (ne_hi hb li2) e)
    rcases hz with ⟨_, hz, a, b, hTO⟩ | ⟨_, T, f, oT, hz, hT, hTz⟩
    · exact wpAny_pyNext_zip_end (A := A.in1) hh D hz hTI hTO h1 h2 hl1 hl2 (.inl (by simp)) fun h' hk' => wpAny_pure (fin h' hk')
    · exact wpAny_pyNext_zip_end_held (A := A.in1) hh D hz hT hTI h1 h2 hl1 hl2 (.inl (by simp)) fun h' hk' => wpAny_pure (fin h' fun c o a1 a2 a3 a4 e => hk' c o a1 a3 a4 e)
  | succ k ih =>
    intro i s acc c hk hi hz hTI h1 h2 hl1 hl2 hS hd hR
    have lt : i < xs.size := by omega
    have lt2 : i < ys.size := by omega
    have hx : xs[i]? = some xs[i] := Array.getElem?_eq_getElem lt
    have hy : ys[i]? = some ys[i] := Array.getElem?_eq_getElem lt2
    have lS := Heap.lt_size hS
    refine codeAny_builtin F.entry_extend_loop ?_
    rw [Around.under_plainId F.plain_extend_loop _]
    show wpAny _ A.in1 (pyNext (.ref z) >>= _) _ _ s
    refine wpAny_bind ?_
    have go : ∀ h', (ZipSt h' z TI TO (i + 1)) → h'.IsListIter i1 l1 (i + 1) → h'.IsListIter i2 l2 (i + 1) → IsPair h' s.heap.objs.size xs[i] ys[i] →
        (∀ c o, c ≠ z → c ≠ TO → c ≠ i1 → c ≠ i2 → s.heap.get? c = some o → h'.get? c = some o) →
        wpAny (model prog w) A.in1 (match (some (Value.ref s.heap.objs.size) : Option Value) with
          | none => ret res
          | some x => do Builtin.List.listUpdate (.ref S) (·.push x); again (.builtin "list.extend.loop" ⟨[.ref S, .ref z, res], []⟩))
          (fun fin s' => match fin with | .done f => R (.ok f) s' | .again c' => c'.quiet = true ∧ codeAny (model prog w) A c' R s') (fun e s' => R (.error e) s') { s with heap := h' } := by
      intro h' hz' h1' h2' hp hk'
      have hS' := hk' S _ (Nat.ne_of_gt lz) (Nat.ne_of_gt lTO) (Nat.ne_of_gt li1) (Nat.ne_of_gt li2) hS
      have hTI' := hk' TI _ D.TIz D.TITO D.TIi1 D.TIi2 hTI
      show wpAny _ A.in1 (updateSeq S (·.push (Value.ref s.heap.objs.size)) >>= _) _ _ _
      refine wpAny_bind (wpAny_updateSeq hS' rfl ?_ (by rw [hd.size]; omega) (by show (acc.push _).size ≤ sizeLine + 1; rw [Array.size_push, hd.size]; omega))
      have off : ∀ b o, b ≠ S → h'.get? b = some o → (h'.update S (Obj.mapSeq (·.push (Value.ref s.heap.objs.size)))).get? b = some o := fun b o hb e => (Heap.get?_update_other _ _ (Ne.symm hb)).trans e
      have dr : ZDr (h'.update S (Obj.mapSeq (·.push (Value.ref s.heap.objs.size)))) (S + 1) xs ys (acc.push (.ref s.heap.objs.size)) (i + 1) := by
        refine ZDr.more (hd.keep fun b o hb e => off b o (Nat.ne_of_gt hb) (hk' b o (ne_hi hb lz) (ne_hi hb lTO) (ne_hi hb li1) (ne_hi hb li2) e)) lS hx hy (off _ _ (Nat.ne_of_gt lS) hp) ?_
        intro j q hj eq
        subst eq
        have jlt : j < i := by
          have := (Array.getElem?_eq_some_iff.mp hj).1
          rw [hd.size] at this
          exact this
        obtain ⟨p, x, y, a1, _, _, _, a5⟩ := hd.pair j jlt
        rw [a1] at hj
        have ep : p = s.heap.objs.size := by
          have := Option.some.inj hj
          injection this
        rw [ep] at a5
        exact Nat.lt_irrefl _ (Heap.lt_size a5)
      refine wpAny_pure ⟨plainId_quiet F.plain_extend_loop _, ih (i + 1) _ (acc.push (.ref s.heap.objs.size)) _ (by omega) (by omega) ?_ (off _ _ (Nat.ne_of_lt lTI) hTI') ?_ ?_ ?_ ?_ (Heap.get?_update_self _ hS' rfl) dr ?_⟩
      · rcases hz' with ⟨e, _⟩ | ⟨e, T, f, oT, q1, q2, q3⟩
        · omega
        · by_cases eT : T = S
          · subst eT
            exact .inr ⟨e, _, f, _, off _ _ (Nat.ne_of_lt lz) q1, Heap.get?_update_self _ hS' rfl, q3⟩
          · exact .inr ⟨e, T, f, oT, off _ _ (Nat.ne_of_lt lz) q1, off _ _ eT q2, q3⟩
      · exact h1'.at fun o e => off _ _ (Nat.ne_of_lt li1) e
      · exact h2'.at fun o e => off _ _ (Nat.ne_of_lt li2) e
      · exact hl1.at fun o e => off _ _ (Nat.ne_of_lt ll1) (hk' _ _ D.l1z D.l1TO D.l1i1 D.l1i2 e)
      · exact hl2.at fun o e => off _ _ (Nat.ne_of_lt ll2) (hk' _ _ D.l2z D.l2TO D.l2i1 D.l2i2 e)
      · intro h2 acc' c' kk g1 g2
        exact hR h2 acc' c' (fun b o hb a1 a2 a3 a4 e => kk b o hb a1 a2 a3 a4 (off b o (Nat.ne_of_lt hb) (hk' b o a1 a2 a3 a4 e))) g1 g2
    rcases hz with ⟨_, hz, a, b, hTO⟩ | ⟨_, T, f, oT, hz, hT, hTz⟩
    · refine wpAny_pyNext_zip_item D hz hTI hTO h1 h2 hl1 hl2 hx hy fun h' a1 a2 a3 a4 a5 a6 a7 => ?_
      exact go h' (.inr ⟨Nat.succ_pos _, _, false, _, a1, a5, Nat.ne_of_gt (Heap.lt_size hz)⟩) a3 a4 a5 a7
    · refine wpAny_pyNext_zip_item_held D hz hT hTI h1 h2 hl1 hl2 hx hy fun h' a1 a3 a4 a5 a6 a7 => ?_
      refine go h' (.inr ⟨Nat.succ_pos _, T, true, ?_⟩) a3 a4 a5 fun c o b1 b2 b3 b4 e => a7 c o b1 b3 b4 e
      by_cases e1 : T = i1
      · obtain ⟨o, q, _⟩ := a3
        exact ⟨o, a1, by rw [e1]; exact q, hTz⟩
      · by_cases e2 : T = i2
        · obtain ⟨o, q, _⟩ := a4
          exact ⟨o, a1, by rw [e2]; exact q, hTz⟩
        · exact ⟨oT, a1, a7 T oT hTz e1 e2 hT, hTz⟩
end
theorem nolen_zip : typeLookup (.type "zip") "__len__" = pure none := by rw [typeLookup_type, builtinLookup_eq_fast]; kernel_rfl
theorem nohint_zip : typeLookup (.type "zip") "__length_hint__" = pure none := by rw [typeLookup_type, builtinLookup_eq_fast]; kernel_rfl
section
variable {prog : Program} {w : World} {A : Around} {E : Value → Shared → Prop} {s : Shared}
theorem call_list_zip {z TI TO i1 i2 l1 l2 : Addr} {xs ys : Array Value} {a b : Value} {Q : Value → Shared → Prop} (hh : A.handled = none) (D : ZipApart z TI TO i1 i2 l1 l2) (hlen : xs.size = ys.size) (hn : xs.size ≤ sizeLine)
    (hz : IsZip s.heap z TI TO .none) (hTO : IsPair s.heap TO a b) (hTI : IsPair s.heap TI (.ref i1) (.ref i2)) (h1 : s.heap.IsListIter i1 l1 0) (h2 : s.heap.IsListIter i2 l2 0) (hl1 : s.heap.IsList l1 xs) (hl2 : s.heap.IsList l2 ys)
    (hQ : ∀ (h' : Heap) acc' c', (∀ b o, b < s.heap.objs.size → b ≠ z → b ≠ TO → b ≠ i1 → b ≠ i2 → s.heap.get? b = some o → h'.get? b = some o) →
      h'.get? s.heap.objs.size = some { cls := .type "list", dict := none, data := .seq acc' c', slots := #[] } → ZDr h' (s.heap.objs.size + 1) xs ys acc' xs.size → Q (.ref s.heap.objs.size) { s with heap := h' }) :
    wpAny (model prog w) A (call (.type "list") [.ref z]) Q E s := by
  have lz := Heap.lt_size hz
  have lTI := Heap.lt_size hTI
  have lTO := Heap.lt_size hTO
  obtain ⟨o1, g1, _⟩ := id h1
  obtain ⟨o2, g2, _⟩ := id h2
  obtain ⟨o3, g3, _⟩ := id hl1
  obtain ⟨o4, g4, _⟩ := id hl2
  generalize hSz : s.heap.objs.size = S at *
  have li1 : i1 < S := by rw [← hSz]; exact Heap.lt_size g1
  have li2 : i2 < S := by rw [← hSz]; exact Heap.lt_size g2
  have ll1 : l1 < S := by rw [← hSz]; exact Heap.lt_size g3
  have ll2 : l2 < S := by rw [← hSz]; exact Heap.lt_size g4
  have hzS : S ≠ z := Nat.ne_of_gt lz
  refine callType_codes (Q₁ := fun obj s₁ => obj = .ref S ∧ s₁ = { s with heap := s.heap.push { cls := .type "list", data := .seq #[] } }) F.called_list (F.typeCall_list_1 _) F.entry_list_init
    (code_list_new _ ⟨by rw [hSz], rfl⟩) fun obj s₁ q₁ => ?_
  obtain ⟨rfl, rfl⟩ := q₁
  have hS : (s.heap.push { cls := .type "list", data := .seq #[] }).get? S = some { cls := .type "list", data := .seq #[] } := by rw [← hSz]; exact Heap.get?_push_size _ rfl
  refine ⟨⟨_, hS, rfl⟩, F.args_list_init_2 _ _, ?_⟩
  have last : ∀ (h3 : Heap) (c3 : Nat), (∀ b o, b ≠ S → s.heap.get? b = some o → h3.get? b = some o) → h3.get? S = some { cls := .type "list", dict := none, data := .seq #[] c3, slots := #[] } →
      codeAny (model prog w) A.in1 (.builtin "list.extend.loop" ⟨[.ref S, .ref z, .none], []⟩) (wants (fun r s₂ => r = .none ∧ Q (.ref S) s₂) E) { s with heap := h3 } := by
    intro h3 c3 off hS3
    refine zip_loop (A := A.in1) hh D hlen hn lz lTI lTO li1 li2 ll1 ll2 _ _ 0 _ #[] c3 rfl (Nat.zero_le _) (.inl ⟨rfl, off _ _ (Nat.ne_of_lt lz) hz, a, b, off _ _ (Nat.ne_of_lt lTO) hTO⟩) (off _ _ (Nat.ne_of_lt lTI) hTI)
      (h1.at fun o e => off _ _ (Nat.ne_of_lt li1) e) (h2.at fun o e => off _ _ (Nat.ne_of_lt li2) e) (hl1.at fun o e => off _ _ (Nat.ne_of_lt ll1) e) (hl2.at fun o e => off _ _ (Nat.ne_of_lt ll2) e) hS3
      ⟨rfl, fun j hj => by omega, fun j k p hj => by simp at hj⟩ ?_
    intro h4 acc' c' kk q1 q2
    exact ⟨rfl, hQ h4 acc' c' (fun b o lb a1 a2 a3 a4 e => kk b o lb a1 a2 a3 a4 (off b o (Nat.ne_of_lt lb) e)) q1 q2⟩
  show wpAny _ _ (do let old ← Builtin.List.listItems (.ref S); Builtin.List.listUpdate (.ref S) (fun _ => #[]); letGo old.toList.reverse; Builtin.List.listExtendWith (.ref S) (.ref z) .none) _ _ _
  refine wpAny_bind ?_
  unfold Builtin.List.listItems
  refine wpAny_bind (wpAny_seqItems hS rfl (wpAny_pure ?_))
  show wpAny _ _ (updateSeq S (fun _ => #[]) >>= fun _ => letGo (#[] : Array Value).toList.reverse >>= fun _ => Builtin.List.listExtendWith (.ref S) (.ref z) .none) _ _ _
  refine wpAny_bind (wpAny_updateSeq hS rfl ?_)
  have hS₂ := Heap.get?_update_self (Obj.mapSeq (fun _ => (#[] : Array Value))) hS rfl
  have oth : ∀ b o, b ≠ S → s.heap.get? b = some o → ((s.heap.push { cls := .type "list", data := .seq #[] }).update S (Obj.mapSeq (fun _ => (#[] : Array Value)))).get? b = some o :=
    fun b o hb e => (Heap.get?_update_other _ _ (Ne.symm hb)).trans (Heap.get?_push_of_some _ e)
  refine wpAny_bind (wpAny_letGo ?_)
  have hT : ({ s with heap := (s.heap.push { cls := .type "list", data := .seq #[] }).update S (Obj.mapSeq (fun _ => (#[] : Array Value))) } : Shared).TypeIs (.ref z) "zip" := ⟨_, oth _ _ (Ne.symm hzS) hz, rfl⟩
  have hz2 := oth _ _ (Ne.symm hzS) hz
  have same0 : Builtin.List.listSameRef (.ref S) (.ref z) = false := by simp [Builtin.List.listSameRef, hzS]
  unfold Builtin.List.listExtendWith
  refine wpAny_bind (wpAny_typeOf hT ?_)
  rw [if_neg (by rw [same0]; decide)]
  refine wpAny_bind (wpAny_pyIter_zip (s := { s with heap := (s.heap.push { cls := .type "list", data := .seq #[] }).update S (Obj.mapSeq (fun _ => (#[] : Array Value))) }) hz2 ?_)
  refine wpAny_bind (wpAny_holding ?_)
  unfold Builtin.List.listLengthHint
  refine wpAny_bind (wpAny_specialOf hT nolen_zip ?_)
  show wpAny _ _ (specialOf (Value.ref z) (Str.ofString "__length_hint__") >>= _) _ _ _
  refine wpAny_bind (wpAny_specialOf hT nohint_zip (wpAny_pure ?_))
  show wpAny _ _ (rule "list.extend.makes-room" >>= fun _ => Builtin.List.listTouch (.ref S) >>= fun _ => again (.builtin "list.extend.loop" ⟨[.ref S, .ref z, .none], []⟩)) _ _ _
  refine wpAny_bind (wpAny_rule (wpAny_bind ?_))
  show wpAny _ _ (updateSeq S (·.push .none) >>= fun _ => updateSeq S (·.pop)) _ _ _
  refine wpAny_bind (wpAny_updateSeq hS₂ rfl ?_)
  have hS₃ := Heap.get?_update_self (Obj.mapSeq (·.push Value.none)) hS₂ rfl
  refine wpAny_updateSeq (hz := by seq_fits) hS₃ rfl ?_
  have hS₄ := Heap.get?_update_self (Obj.mapSeq (·.pop)) hS₃ rfl
  exact wpAny_pure ⟨plainId_quiet F.plain_extend_loop _, last _ _ (fun b o hb e => (Heap.get?_update_other _ _ (Ne.symm hb)).trans ((Heap.get?_update_other _ _ (Ne.symm hb)).trans (oth b o hb e))) hS₄⟩
end
end Sw
set_option maxHeartbeats 2000000
namespace Sw
open PySem PySem.Spec PyProof.Rows L2
/-- New pairs laid over a heap. -/
def layT (H : Hp) : List (Addr × V × V) → Hp
  | [] => H
  | r :: rs => fun b => if b = r.1 then some (.tup [r.2.1, r.2.2]) else layT H rs b
theorem layT_off {H : Hp} {b : Addr} : ∀ {rs : List (Addr × V × V)}, (∀ r ∈ rs, r.1 ≠ b) → layT H rs b = H b
  | [], _ => rfl
  | r :: rs, h => by
    show (if b = r.1 then _ else layT H rs b) = H b
    rw [if_neg (fun e => h r List.mem_cons_self e.symm)]
    exact layT_off fun q hq => h q (List.mem_cons_of_mem _ hq)
theorem layT_some {H : Hp} {b : Addr} {u : HO} : ∀ {rs : List (Addr × V × V)}, layT H rs b = some u → (∃ r ∈ rs, r.1 = b ∧ u = .tup [r.2.1, r.2.2]) ∨ ((∀ r ∈ rs, r.1 ≠ b) ∧ H b = some u)
  | [], h => .inr ⟨(fun r hr => nomatch hr), h⟩
  | r :: rs, h => by
    by_cases e : b = r.1
    · have h' : (if b = r.1 then some (HO.tup [r.2.1, r.2.2]) else layT H rs b) = some u := h
      rw [if_pos e] at h'
      exact .inl ⟨r, List.mem_cons_self, e.symm, (Option.some.inj h').symm⟩
    · have h' : (if b = r.1 then some (HO.tup [r.2.1, r.2.2]) else layT H rs b) = some u := h
      rw [if_neg e] at h'
      rcases layT_some h' with ⟨q, hq, a, c⟩ | ⟨a, c⟩
      · exact .inl ⟨q, List.mem_cons_of_mem _ hq, a, c⟩
      · refine .inr ⟨fun q hq => ?_, c⟩
        rcases List.mem_cons.mp hq with z | z
        · rw [z]; exact fun z => e z.symm
        · exact a q z
theorem layT_in {H : Hp} : ∀ {rs : List (Addr × V × V)}, (rs.map (·.1)).Nodup → ∀ r ∈ rs, layT H rs r.1 = some (.tup [r.2.1, r.2.2])
  | r :: rs, nd, q, hq => by
    have nd' := List.nodup_cons.mp nd
    show (if q.1 = r.1 then _ else layT H rs q.1) = _
    rcases List.mem_cons.mp hq with z | z
    · rw [z, if_pos rfl]
    · rw [if_neg (fun e : q.1 = r.1 => nd'.1 (by show r.1 ∈ _; rw [← e]; exact List.mem_map_of_mem (f := (·.1)) z))]
      exact layT_in nd'.2 q z
/-- What list(zip(..)) leaves: a new list of new pairs. -/
structure Zipped (H H' : Hp) (q : Addr) (ps : List Addr) (xs ys : List V) : Prop where
  same : Same H H'
  new : H q = none
  list : H' q = some (.lst (ps.map V.ref))
  len : ps.length = xs.length
  pair : ∀ (j : Nat) (p : Addr) (x y : V), ps[j]? = some p → xs[j]? = some x → ys[j]? = some y → H' p = some (.tup [x, y])
def tListZip (K : PySem.W.Frag) (ta : TA) : TE := fun σ H Q => ta σ H fun vs H1 => ∃ (a b : Addr) (xs ys : List V), vs = [.ref a, .ref b] ∧ SqL K H1 a xs ∧ SqL K H1 b ys ∧ xs.length = ys.length ∧
  ∀ (H' : Hp) (q : Addr) (ps : List Addr), Zipped H1 H' q ps xs ys → Q (.ref q) H'
theorem vals_of_addrs : ∀ ps : List Addr, Vals (ps.map V.ref) (ps.map Value.ref)
  | [] => .nil
  | _ :: ps => .cons rfl (vals_of_addrs ps)
theorem refs_of {acc : Array Value} {i : Nat} (h : ∀ j, j < i → ∃ p : Addr, acc[j]? = some (Value.ref p)) (hi : acc.size = i) : ∃ ps : List Addr, acc.toList = ps.map Value.ref := by
  have key : ∀ l : List Value, (∀ j, j < l.length → ∃ p : Addr, l[j]? = some (Value.ref p)) → ∃ ps : List Addr, l = ps.map Value.ref := by
    intro l
    induction l with
    | nil => intro _; exact ⟨[], rfl⟩
    | cons v l ih =>
      intro h
      obtain ⟨p, hp⟩ := h 0 (by simp)
      obtain ⟨ps, e⟩ := ih fun j hj => by simpa using h (j + 1) (by simpa using hj)
      simp at hp
      exact ⟨p :: ps, by rw [e, hp]; rfl⟩
  refine key _ fun j hj => ?_
  obtain ⟨p, hp⟩ := h j (by rw [← hi]; simpa using hj)
  exact ⟨p, by simpa using hp⟩
theorem zip3 {α β : Type} : ∀ (ps : List Addr) (xs : List α) (ys : List β), ps.length = xs.length → xs.length = ys.length → ∃ rs : List (Addr × α × β), rs.map (·.1) = ps ∧
    ∀ (j : Nat) (p : Addr) (x : α) (y : β), ps[j]? = some p → xs[j]? = some x → ys[j]? = some y → rs[j]? = some (p, x, y)
  | [], _, _, _, _ => ⟨[], rfl, fun j p x y h => by simp at h⟩
  | p :: ps, [], _, h, _ => by simp at h
  | p :: ps, x :: xs, [], _, h => by simp at h
  | p :: ps, x :: xs, y :: ys, h, k => by
    obtain ⟨rs, e, f⟩ := zip3 ps xs ys (by simpa using h) (by simpa using k)
    refine ⟨(p, x, y) :: rs, by simp [e], fun j p' x' y' a b c => ?_⟩
    cases j with
    | zero => simp at a b c; simp [a, b, c]
    | succ j => simp at a b c; simpa using f j p' x' y' a b c
theorem pair_vals {xs : List V} {its : List Value} (r : Vals xs its) : ∀ {j : Nat} {x : V} {u : Value}, xs[j]? = some x → its[j]? = some u → RelV x u := by
  intro j x u hx hu
  obtain ⟨u', e, rr⟩ := r.get hx
  rw [hu] at e
  cases e
  exact rr
section
variable {X : Cx}
theorem pe_listZip {e e2 : Expr} {ta : TA} {p p2 pos pos2 : Pos} (hc : X.calm = true) (hg : Gl X "list") (hm : X.mg "list" = none) (hg2 : Gl X "zip") (hm2 : X.mg "zip" = none) (ha : PA X [e, e2] ta)
    (hs : starEach [e, e2] X.env = (false, eval e X.env) :: starEach [e2] X.env := by rfl) (hpl : (backTo pos2 (starEach [e2] X.env)).any (·.1) = false := by rfl)
    (hs2 : starEach [.Call (.Name "zip" p2) [e, e2] [] pos2] X.env = (false, eval (.Call (.Name "zip" p2) [e, e2] [] pos2) X.env) :: starEach [] X.env := by rfl) :
    PE X (.Call (.Name "list" p) [.Call (.Name "zip" p2) [e, e2] [] pos2] [] pos) (tListZip X.K ta) := by
  refine ⟨fun pins s σ H Q I h => ?_⟩
  refine Call_ (ld_blt I hg hm boot_list (PyProof.Rows.callWith_type1 (args_cons (Call_ (ld_blt I hg2 hm2 PyProof.Rows.boot_zip
    (PyProof.Rows.callWith_type1 (thn (ha.run pos2 pins s σ H _ I h) fun us s1 ⟨vs, H1, I1, r1, q1⟩ => ?_) hs hpl))) hs2) hs2 rfl))
  obtain ⟨a, b, xs, ys, ex, hqx, hqy, hl, q⟩ := q1
  subst ex
  obtain ⟨u1, u2, rfl, e1, e2⟩ : ∃ u1 u2, us = [u1, u2] ∧ RelV (.ref a) u1 ∧ RelV (.ref b) u2 := by
    cases r1 with
    | cons r rr =>
      cases rr with
      | cons r' rr =>
        cases rr
        exact ⟨_, _, rfl, r, r'⟩
  cases e1
  cases e2
  obtain ⟨its, rv, pl1, hz1⟩ := I1.list hqx
  obtain ⟨jts, rw2, pl2, hz2⟩ := I1.list hqy
  have la : a < s1.heap.objs.size := pl1.lt
  have lb : b < s1.heap.objs.size := pl2.lt
  have ln1 := rv.length
  have ln2 := rw2.length
  refine call_zip_2 pl1.isList pl2.isList fun h' hz hTI hTO g1 g2 hsz hk => args_nil ?_
  generalize hbs : s1.heap.objs.size = n0 at *
  refine call_list_zip (s := { s1 with heap := h' }) (I1.ok.hd hc) (PySem.W.ktu_apart n0 a b la lb) (by simp; omega) (by simp; omega) hz hTO hTI g1 g2 (pl1.isList.at fun o e => hk _ _ e) (pl2.isList.at fun o e => hk _ _ e) fun h2 acc c kk hS zd => ?_
  have hsz : h'.objs.size = n0 + 5 := hsz
  have kk : ∀ c o, c < n0 → s1.heap.get? c = some o → h2.get? c = some o := fun c o lc e => by
    refine kk c o ?_ ?_ ?_ ?_ ?_ (hk c o e)
    · show c < h'.objs.size
      rw [hsz]
      exact Nat.lt_of_lt_of_le lc (Nat.le_add_right _ _)
    all_goals (intro z; have lc' : c < n0 := lc; rw [z] at lc'; exact absurd lc' (by omega))
  have hS : h2.get? (n0 + 5) = some { cls := .type "list", dict := none, data := .seq acc c, slots := #[] } := by rw [← hsz]; exact hS
  have zd : ZDr h2 (n0 + 5 + 1) its.toArray jts.toArray acc its.toArray.size := by rw [← hsz]; exact zd
  obtain ⟨ps, eps⟩ := refs_of (fun j hj => let ⟨p, _, _, h, _⟩ := zd.pair j hj; ⟨p, h⟩) zd.size
  have lps : ps.length = xs.length := by
    have := congrArg List.length eps
    have sz := zd.size
    simp at this sz
    omega
  have at_ps : ∀ (j : Nat) (p : Addr), ps[j]? = some p → acc[j]? = some (Value.ref p) := fun j p hp => by
    have : acc.toList[j]? = some (Value.ref p) := by rw [eps, List.getElem?_map, hp]; rfl
    simpa using this
  have hi_ps : ∀ (j : Nat) (p : Addr), ps[j]? = some p → n0 + 6 ≤ p := fun j p hp => by
    have jl : j < its.toArray.size := by
      have := (List.getElem?_eq_some_iff.mp hp).1
      simp
      omega
    obtain ⟨p', _, _, f1, f2, _⟩ := zd.pair j jl
    rw [at_ps j p hp] at f1
    have : p = p' := by
      have := Option.some.inj f1
      injection this
    rw [this]
    exact f2
  have nd_ps : ps.Nodup := by
    rw [List.Nodup, List.pairwise_iff_getElem]
    intro i j hi hj hij e
    have gi : ps[i]? = some ps[i] := List.getElem?_eq_getElem hi
    have gj : ps[j]? = some ps[j] := List.getElem?_eq_getElem hj
    rw [← e] at gj
    have := zd.apart i j _ (at_ps i _ gi) (at_ps j _ gj)
    omega
  obtain ⟨rs, ers, frs⟩ := zip3 ps xs ys lps hl
  have mem_rs : ∀ r ∈ rs, ∃ j : Nat, ps[j]? = some r.1 ∧ xs[j]? = some r.2.1 ∧ ys[j]? = some r.2.2 := fun r hr => by
    obtain ⟨j, hj, ej⟩ := List.mem_iff_getElem.mp hr
    have lj : j < ps.length := by rw [← ers]; simpa using hj
    have b1 : ps[j]? = some ps[j] := List.getElem?_eq_getElem lj
    have b2 : xs[j]? = some (xs[j]'(by omega)) := List.getElem?_eq_getElem _
    have b3 : ys[j]? = some (ys[j]'(by omega)) := List.getElem?_eq_getElem _
    have f := frs j _ _ _ b1 b2 b3
    rw [List.getElem?_eq_getElem hj, ej] at f
    have f := Option.some.inj f
    exact ⟨j, by rw [f]; exact b1, by rw [f]; exact b2, by rw [f]; exact b3⟩
  have nS : H1 (n0 + 5) = none := I1.hok.fresh (by rw [hbs]; exact Nat.le_add_right _ _)
  have nps : ∀ r ∈ rs, H1 r.1 = none ∧ n0 + 6 ≤ r.1 := fun r hr => by
    obtain ⟨j, g, _⟩ := mem_rs r hr
    have hi := hi_ps j _ g
    exact ⟨I1.hok.fresh (by rw [hbs]; exact Nat.le_trans (Nat.le_add_right _ _) hi), hi⟩
  have sm1 : ∀ c o, H1 c = some o → (layT (upd H1 (n0 + 5) (.lst (ps.map V.ref))) rs) c = some o := fun c o e => by
    rw [layT_off (fun r hr z => by rw [← z, (nps r hr).1] at e; cases e), upd_ne (ne_of_none e nS)]
    exact e
  have lst : (layT (upd H1 (n0 + 5) (.lst (ps.map V.ref))) rs) (n0 + 5) = some (.lst (ps.map V.ref)) := by
    rw [layT_off (fun r hr z => by have := (nps r hr).2; rw [z] at this; exact absurd this (by omega)), upd_same]
  have J : Inv X pins σ (layT (upd H1 (n0 + 5) (.lst (ps.map V.ref))) rs) { s1 with heap := h2, toks := s1.toks } := by
    refine grown (ch := []) I1 (fun c o _ e => kk c o (by rw [← hbs]; exact Heap.lt_size e) e) (fun c hc => by cases hc) sm1 (fun c u e nn => ?_)
    rcases layT_some e with ⟨r, hr, ec, eu⟩ | ⟨_, e⟩
    · obtain ⟨j, c1, c2, c3⟩ := mem_rs r hr
      have hi := (nps r hr).2
      subst ec
      subst eu
      refine ⟨by rw [hbs]; exact Nat.le_trans (Nat.le_add_right _ _) hi, ?_⟩
      have jl : j < its.toArray.size := by
        have := (List.getElem?_eq_some_iff.mp c1).1
        simp
        omega
      obtain ⟨p', x, y, f1, f2, f3, f4, f5⟩ := zd.pair j jl
      rw [at_ps j _ c1] at f1
      have ep : r.1 = p' := by
        have := Option.some.inj f1
        injection this
      rw [← ep] at f5
      exact ⟨by show 2 ≤ sizeLine; decide, [x, y], .cons (pair_vals rv c2 (by simpa using f3)) (.cons (pair_vals rw2 c3 (by simpa using f4)) .nil), ⟨_, f5, rfl, _, rfl⟩⟩
    · by_cases ec : c = n0 + 5
      · subst ec
        rw [upd_same] at e
        cases e
        refine ⟨by rw [hbs]; exact Nat.le_add_right _ _, by rw [List.length_map]; omega, acc.toList, c, ?_, ?_⟩
        · rw [eps]; exact vals_of_addrs ps
        · rw [Array.toArray_toList]; exact hS
      · rw [upd_ne ec, nn] at e
        cases e
  refine ⟨.ref h'.objs.size, _, J, rfl, ?_⟩
  rw [hsz]
  exact q _ _ ps ⟨sm1, nS, lst, lps, fun j p x y g1 g2 g3 => by
    have f := frs j p x y g1 g2 g3
    exact layT_in (by rw [ers]; exact nd_ps) (p, x, y) (List.mem_of_getElem? f)⟩
end
end Sw
set_option maxHeartbeats 2000000
namespace Sw
open PySem PySem.Spec PyProof.Rows L2 LamX
/-! ### A lambda with one parameter, handed in as a key -/
/-- Its names: the parameter, captured ones, globals. -/
structure LamP (sc scope : Scope) (a : Str) : Prop where
  kind : scope.kind = .function
  co : scope.isCoroutine = false
  gen : scope.isGenerator = false
  nocell : ∀ y ∈ scope.names, y.2 ≠ .cell
  loc : ∀ y ∈ scope.names, y.2 = .local → y.1 = a
  par : scope.names.lookup a = some .local
  free : ∀ y ∈ scope.names, y.2 = .free → sc.names.lookup y.1 = some .cell ∨ sc.names.lookup y.1 = some .free
def lamPB (sc scope : Scope) (a : Str) : Bool :=
  decide (scope.kind = .function) && !scope.isCoroutine && !scope.isGenerator && decide (scope.names.lookup a = some .local) && scope.names.all fun y => !decide (y.2 = .cell) &&
    (!decide (y.2 = .local) || decide (y.1 = a)) && (!decide (y.2 = .free) || decide (sc.names.lookup y.1 = some .cell) || decide (sc.names.lookup y.1 = some .free))
theorem lamP_by {sc scope : Scope} {a : Str} (h : lamPB sc scope a = true) : LamP sc scope a := by
  unfold lamPB at h
  simp only [Bool.and_eq_true, Bool.or_eq_true, Bool.not_eq_true', decide_eq_true_eq, decide_eq_false_iff_not, List.all_eq_true] at h
  obtain ⟨⟨⟨⟨h1, h2⟩, h3⟩, h4⟩, h5⟩ := h
  refine ⟨h1, h2, h3, fun y hy => (h5 y hy).1.1, fun y hy e => ?_, h4, fun y hy e => ?_⟩
  · rcases (h5 y hy).1.2 with z | z
    · exact absurd e z
    · exact z
  · rcases (h5 y hy).2 with (z | z) | z
    · exact absurd e z
    · exact .inl z
    · exact .inr z
/-- The lambda's context: as the one without a parameter, with names of its own. -/
def keyCx (X : Cx) (A : Around) (outer : List Env) (s : Shared) (H : Hp) (E : XK) (scope : Scope) (f c' : Addr) (N' : List Str) : Cx := { lamCx X A outer s H E scope f c' with N := N' }
section
variable {X : Cx} {pins : List (Addr × Obj)} {σ σ' : L2.St} {H HZ : Hp} {s s1 : Shared}
theorem key_start {A : Around} {outer : List Env} {E : XK} {scope : Scope} {f c' : Addr} {h₁ : Heap} {tk : Nat} {a : Str} {fr : List Str} {x : V} {u : Value} (I : Inv X pins σ H s) (L : LamP X.env.scope scope a) (e0 : Env0 X.prog X.w X.K X.mg X.base A outer s1 HZ) (hd : A.handled = none)
    (un : Un (frs X.stack) [] H HZ s.heap s1.heap) (hns : h₁.Ns s1.heap.objs.size fun y => ([(a, u)] : List (Str × Value)).reverse.lookup y) (kp : ∀ b o, s1.heap.get? b = some o → h₁.get? b = some o)
    (rx : RelV x u) (hfr : ∀ y ∈ fr, y ≠ a) (hσ : ∀ (i : Nat) (y : Str) (v : V), fr[i]? = some y → σ'[i]? = some (some v) → ∃ j : Nat, X.N[j]? = some y ∧ σ[j]? = some (some v)) (hlen : σ'.length = fr.length) :
    Inv (keyCx X A outer s1 HZ E scope f c' (a :: fr)) [] (some x :: σ') HZ { s1 with heap := h₁, toks := tk } := by
  have hfree : ∀ y ∈ scope.names, y.2 = .free → ∃ c, X.env.cells.lookup y.1 = some c := fun y hy e => (L.free y hy e).elim (fun k => I.ok.has _ (.inl k)) (fun k => I.ok.has _ (.inr k))
  have cm : ∀ {y c}, (cloFrom X.env.cells scope.names []).lookup y = some c → X.env.cells.lookup y = some c := fun {y c} e => by
    rcases cloFrom_mem (PySem.mem_of_lookup e) with hm | ⟨h1, h2⟩
    · cases hm
    · obtain ⟨c1, hc⟩ := hfree _ h1 rfl
      have hc : X.env.cells.lookup y = some c1 := hc
      have e2 : c = c1 := by rw [h2, hc] <;> rfl
      rw [e2]
      exact hc
  have look : ∀ {y}, scope.names.lookup y = some .free → ∃ c, (cloFrom X.env.cells scope.names []).lookup y = some c := fun {y} hl =>
    mem_lookup (cloFrom_has (cells := X.env.cells) (acc := []) (show (y, NameKind.free) ∈ scope.names from PySem.mem_of_lookup hl))
  have cellK : ∀ {c : Addr} {v : Option Value}, H c = none → s.heap.IsCell c v → h₁.IsCell c v := fun {c v} n ⟨o, ho, hd⟩ => by
    obtain ⟨sl, q⟩ := un.any ho n (by simp)
    exact ⟨_, kp _ _ q, hd⟩
  refine ⟨⟨e0.mod, L.kind, rfl, rfl, Nat.le_refl _, fun y z c e1 e2 => I.ok.inj y z c (cm e1) (cm e2), fun y hy => ?_, (fun y c z _ => nomatch (show false = true from z)), fun _ => hd, Around.frames_deeper e0.frames, .inr ⟨rfl, rfl⟩, (fun b z => nomatch (show b ∈ ([] : List Addr) from z)), e0.bs, e0.bsz,
      (fun b _ _ z => nomatch (show b ∈ ([] : List Addr) from z)), (fun b z => nomatch (show b ∈ ([] : List Addr) from z)), e0.funs, e0.frf⟩,
    rfl, e0.bare, Un.kept kp, ⟨_, hns, fun i y v e1 e2 e3 => ?_⟩, fun y c e => ?_, e0.hok.fresh (Nat.le_refl _), fun y c e => ?_, (fun q hq => nomatch (show q ∈ ([] : List (Addr × Obj)) from hq)), e0.hok.kept kp, by show σ'.length + 1 = fr.length + 1; rw [hlen]⟩
  · have hy : scope.names.lookup y = some .cell ∨ scope.names.lookup y = some .free := hy
    rcases hy with hy | hy
    · exact absurd rfl (L.nocell _ (PySem.mem_of_lookup hy))
    · exact look hy
  · have e1 : (a :: fr)[i]? = some y := e1
    have e2 : (some x :: σ')[i]? = some (some v) := e2
    cases i with
    | zero =>
      have ea : a = y := Option.some.inj e1
      have ev : x = v := Option.some.inj (Option.some.inj e2)
      subst ea
      subst ev
      exact ⟨u, rx, .inl ⟨L.par, by simp⟩⟩
    | succ i =>
      have e1 : fr[i]? = some y := e1
      have e2 : σ'[i]? = some (some v) := e2
      have ya : y ≠ a := hfr y (List.mem_of_getElem? e1)
      have e3 : Vis scope y := e3
      rcases e3 with k | k | k
      · exact absurd (L.loc _ (PySem.mem_of_lookup k) rfl) ya
      · exact absurd rfl (L.nocell _ (PySem.mem_of_lookup k))
      · obtain ⟨j, f1, f2⟩ := hσ i y v e1 e2
        obtain ⟨m, hn, hl⟩ := I.loc
        have hvis : Vis X.env.scope y := (L.free _ (PySem.mem_of_lookup k) rfl).elim (fun k => .inr (.inl k)) (fun k => .inr (.inr k))
        obtain ⟨w', r, q⟩ := hl j y v f1 f2 hvis
        obtain ⟨c2, h2⟩ := look k
        refine ⟨w', r, .inr ⟨.inr k, c2, h2, ?_⟩⟩
        have c1 := cm h2
        rcases q with ⟨k', _⟩ | ⟨_, c3, e', z⟩
        · have k' : X.env.scope.names.lookup y = some .local := k'
          rcases L.free _ (PySem.mem_of_lookup k) rfl with k2 | k2 <;> rw [show X.env.scope.names.lookup y = _ from k2] at k' <;> cases k'
        · rw [c1] at e'
          cases e'
          exact cellK (I.freeC y _ c1) z
  · obtain ⟨w', z⟩ := I.cell y c (cm e)
    exact ⟨w', cellK (I.freeC y c (cm e)) z⟩
  · obtain ⟨v, o, ho, hd⟩ := I.cell y c (cm e)
    exact un.free c o ho (I.freeC y c (cm e)) (by simp)
/-- The lambda called with a value, from within a built-in. -/
theorem key_call {scope : Scope} {f c' : Addr} {a : Str} {fr : List Str} {x : V} {u : Value} {params : Arguments} {body : Expr} {pm ctv : Value} {k : Nat} {tb : TE} {Q : VK} (I : Inv X pins σ H s) (L : LamP X.env.scope scope a)
    (hf : s.heap.get? f = some (PySem.W.kla_obj "<lambda>" (X.env.qual ++ "<lambda>") params body scope (cloFrom X.env.cells scope.names []) pm c' ctv)) (hc : H c' = some (CodeO c' (X.env.qual ++ "<lambda>")))
    (hbind : bindArgs (PySem.W.kla_fn "<lambda>" (X.env.qual ++ "<lambda>") params body scope (cloFrom X.env.cells scope.names []) pm (.ref c') ctv) ⟨[u], []⟩ = pure [(a, u)])
    (hr : Room (k + 1) X.A.in1)
    (hbody : ∀ (A : Around) (outer : List Env) (s : Shared) (H : Hp), Room k (A.deeper (lamEnv X scope s.heap.objs.size f c')) → PE (keyCx X A outer s H (fun _ _ _ => False) scope f c' (a :: fr)) body tb)
    (rx : RelV x u) (hfr : ∀ y ∈ fr, y ≠ a) (hσ : ∀ (i : Nat) (y : Str) (v : V), fr[i]? = some y → σ'[i]? = some (some v) → ∃ j : Nat, X.N[j]? = some y ∧ σ[j]? = some (some v)) (hlen : σ'.length = fr.length)
    (ht : tb (some x :: σ') H Q) {E : Value → Shared → Prop} :
    wpAny (model X.prog X.w) X.A.in1 (call (.ref f) [u]) (fun r s' => ∃ v H', Inv X pins σ H' s' ∧ RelV v r ∧ Q v H' ∧ Un (frs X.stack) [] H H' s.heap s'.heap) E s := by
  obtain ⟨⟨oc, vs, t, hoc, hdc, hvc⟩, _, _⟩ := I.hok c' _ hc
  have rc : codeAny (model X.prog X.w) X.A.in1 (.call (.ref f) ⟨[u], []⟩) (CR (L2.CX X.prog X.w) X.stack X.prog X.w H s Q (fun _ _ _ => False)) s := by
    refine PySem.W.kla_callFunE hr.depth hf rfl L.co L.gen rfl ⟨c', oc, vs, t, rfl, hoc, hdc, hvc⟩ ?_
    rw [hbind]
    refine wpAny_pure (wpAny_newFunctionEnv L.nocell (fun y hy => by
      simp only [List.mem_cons, List.not_mem_nil, or_false] at hy
      rw [hy]
      exact L.par) (fun h₁ hns hsb => ⟨I.nolimit.fresh _ hsb, ?_⟩) L.kind)
    show codeAny _ _ (.expr body (lamEnv X scope s.heap.objs.size f c')) _ _
    have kp : ∀ b o, s.heap.get? b = some o → h₁.get? b = some o := fun b o e => hsb.extBut b o (Nat.ne_of_lt (Heap.lt_size e)) (Heap.get?_push_of_some _ e)
    have J : Inv (keyCx X X.A.in1 X.stack s H (fun _ _ _ => False) scope f c' (a :: fr)) [] (some x :: σ') H { s with heap := h₁, toks := s.toks + ([(a, u)] : List (Str × Value)).length } :=
      key_start I L I.env0.in1 hr.hd Un.refl hns kp rx hfr hσ hlen
    refine PySem.W.kla_codeExpr (wpAny_mono ((hbody _ _ s H (hr.deeper _)).run [] _ _ H Q J ht) (fun v s' hq => ?_) fun e s' hq => hq)
    obtain ⟨w', H', J', rv, q⟩ := hq
    exact ⟨w', H', J'.os, J'.bare, J'.base, J'.hok, rv, q⟩
  refine wpAny_call (codeAny_mono rc fun r s' hq => ?_)
  cases r with
  | error e =>
    obtain ⟨_, _, _, _, _, _, _, _, _, _, _, _, z⟩ := hq
    exact z.elim
  | ok fl =>
    cases fl with
    | ret u =>
      obtain ⟨v, H', q1, q2, q3, q4, q5, q6⟩ := hq
      exact ⟨v, H', I.call' (ch := []) q1 q3 q4 q2 (fun _ z => nomatch z), q5, q6, q3⟩
    | next => exact False.elim hq
    | brk => exact False.elim hq
    | cont => exact False.elim hq
end
end Sw
set_option maxHeartbeats 2000000
namespace Sw
open PySem PySem.Spec PyProof.Rows L2 LamX
theorem rd_extN {H H' : Hp} {a : Addr} {o : HO} (h : ∀ ps, o ≠ .tbl ps) (e : ExtN H H') (r : Rd H a o) : Rd H' a o := by
  rcases r with r | ⟨z, r⟩
  · exact .inl (e _ _ r h)
  · exact .inr ⟨z, e _ _ r (fun ps q => by cases q)⟩
theorem sqL_extN {K : PySem.W.Frag} {H H' : Hp} {a : Addr} {xs : List V} (e : ExtN H H') (q : SqL K H a xs) : SqL K H' a xs := by
  rcases q with q | q
  · exact .inl (rd_extN (fun ps z => by cases z) e q)
  · exact .inr q
theorem sqT_extN {K : PySem.W.Frag} {H H' : Hp} {a : Addr} {xs : List V} (e : ExtN H H') (q : SqT K H a xs) : SqT K H' a xs := by
  rcases q with q | q
  · exact .inl (rd_extN (fun ps z => by cases z) e q)
  · exact .inr q
theorem vals_refs_eq : ∀ {as : List Addr} {us : List Value}, Vals (as.map V.ref) us → us = as.map Value.ref
  | [], _, .nil => rfl
  | _ :: as, _, .cons r t => by
    cases r
    rw [vals_refs_eq t] <;> rfl
theorem best_min (kf : Nat → Int) : ∀ k, argBest (fun i j => decide (kf i < kf j)) k ≤ k ∧ (∀ j, j ≤ k → kf (argBest (fun i j => decide (kf i < kf j)) k) ≤ kf j) ∧
    (∀ j, j < argBest (fun i j => decide (kf i < kf j)) k → kf (argBest (fun i j => decide (kf i < kf j)) k) < kf j)
  | 0 => ⟨Nat.le_refl _, fun j hj => by have : j = 0 := by omega
                                        subst this; exact Int.le_refl _, fun j hj => absurd hj (Nat.not_lt_zero _)⟩
  | k + 1 => by
    obtain ⟨h1, h2, h3⟩ := best_min kf k
    simp only [argBest]
    by_cases c : kf (k + 1) < kf (argBest (fun i j => decide (kf i < kf j)) k)
    · rw [if_pos (decide_eq_true c)]
      refine ⟨Nat.le_refl _, fun j hj => ?_, fun j hj => ?_⟩
      · by_cases e : j = k + 1
        · subst e; exact Int.le_refl _
        · have := h2 j (by omega); omega
      · have := h2 j (by omega); omega
    · rw [if_neg (by simpa using c)]
      refine ⟨by omega, fun j hj => ?_, h3⟩
      by_cases e : j = k + 1
      · subst e; omega
      · exact h2 j (by omega)
theorem best_max (kf : Nat → Int) : ∀ k, argBest (fun i j => decide (kf i > kf j)) k ≤ k ∧ (∀ j, j ≤ k → kf j ≤ kf (argBest (fun i j => decide (kf i > kf j)) k)) ∧
    (∀ j, j < argBest (fun i j => decide (kf i > kf j)) k → kf j < kf (argBest (fun i j => decide (kf i > kf j)) k))
  | 0 => ⟨Nat.le_refl _, fun j hj => by have : j = 0 := by omega
                                        subst this; exact Int.le_refl _, fun j hj => absurd hj (Nat.not_lt_zero _)⟩
  | k + 1 => by
    obtain ⟨h1, h2, h3⟩ := best_max kf k
    simp only [argBest]
    by_cases c : kf (k + 1) > kf (argBest (fun i j => decide (kf i > kf j)) k)
    · rw [if_pos (decide_eq_true c)]
      refine ⟨Nat.le_refl _, fun j hj => ?_, fun j hj => ?_⟩
      · by_cases e : j = k + 1
        · subst e; exact Int.le_refl _
        · have := h2 j (by omega); omega
      · have := h2 j (by omega); omega
    · rw [if_neg (by simpa using c)]
      refine ⟨by omega, fun j hj => ?_, h3⟩
      by_cases e : j = k + 1
      · subst e; omega
      · exact h2 j (by omega)
/-- What a key= by a lambda asks: the keys of all items, and what follows of the first best. -/
def tKey (K : PySem.W.Frag) (T : List (Addr × Str)) (σf : L2.St → L2.St) (bt : Int → Int → Prop) (te tb : TE) : TE := fun σ H Q => te σ H fun v H1 => ∃ (a : Addr) (as : List Addr) (kf : Nat → Int), v = .ref a ∧ SqL K H1 a (as.map V.ref) ∧ as ≠ [] ∧ Tabs T H1 ∧
  (∀ (i : Nat) (p : Addr) (H' : Hp), as[i]? = some p → ExtN H1 H' → Tabs T H' → tb (some (.ref p) :: σf σ) H' (fun r H'' => r = .int (kf i) ∧ ExtN H' H'' ∧ Tabs T H'')) ∧
  ∀ (i : Nat) (p : Addr) (H' : Hp), as[i]? = some p → (∀ j, j < as.length → ¬ bt (kf j) (kf i)) → (∀ j, j < i → bt (kf i) (kf j)) → ExtN H1 H' → Tabs T H' → Q (.ref p) H'
section
variable {X : Cx} {pins : List (Addr × Obj)} {σ : L2.St} {H : Hp} {s : Shared}
/-- The run of the keys, for either order. -/
theorem key_run {T : List (Addr × Str)} {scope : Scope} {f c' a it S : Addr} {as : List Addr} {par : Str} {fr : List Str} {params : Arguments} {body : Expr} {pm ctv : Value} {k : Nat} {tb : TE} {σ' : L2.St} {kf : Nat → Int} {H1 : Hp} {op : CmpOp} {bt : Nat → Nat → Bool}
    (L : LamP X.env.scope scope par)
    (hbind : ∀ u, bindArgs (PySem.W.kla_fn "<lambda>" (X.env.qual ++ "<lambda>") params body scope (cloFrom X.env.cells scope.names []) pm (.ref c') ctv) ⟨[u], []⟩ = pure [(par, u)])
    (hr : Room (k + 1) X.A.in1)
    (hbody : ∀ (A : Around) (outer : List Env) (s : Shared) (H : Hp), Room k (A.deeper (lamEnv X scope s.heap.objs.size f c')) → PE (keyCx X A outer s H (fun _ _ _ => False) scope f c' (par :: fr)) body tb)
    (hfr : ∀ y ∈ fr, y ≠ par) (hσ : ∀ (i : Nat) (y : Str) (v : V), fr[i]? = some y → σ'[i]? = some (some v) → ∃ j : Nat, X.N[j]? = some y ∧ σ[j]? = some (some v)) (hlen : σ'.length = fr.length)
    (fpI : ∀ H', H' it = none → FpOk X pins H' it) (fpS : ∀ H', H' S = none → FpOk X pins H' S) (nit : it ∉ frs X.stack) (nS : S ∉ frs X.stack) (nf : f ∉ frs X.stack) (fI : f ≠ it) (fS : f ≠ S) (hSI : S ≠ it) (haI : a ≠ it) (haS : a ≠ S)
    (cmp : CmpOf X.prog X.w X.A.in1 op (fun i v => ∃ t, v = .int (kf i) t) bt)
    (keys : ∀ (i : Nat) (p : Addr) (H' : Hp), as[i]? = some p → ExtN H1 H' → Tabs T H' → tb (some (.ref p) :: σ') H' (fun r H'' => r = .int (kf i) ∧ ExtN H' H'' ∧ Tabs T H'')) (hs : SqL X.K H1 a (as.map V.ref)) :
    KeyRun X.prog X.w X.A.in1 (.ref f) op S [it] (fun a b => b = a) (as.map Value.ref).toArray.size (fun i v => (as.map Value.ref).toArray[i]? = some v)
      (fun i s => s.heap.IsListIter it a i ∧ s.heap.IsList a (as.map Value.ref).toArray)
      (fun s => ∃ H', Inv X pins σ H' s ∧ ExtN H1 H' ∧ Tabs T H' ∧ s.heap.get? f = some (PySem.W.kla_obj "<lambda>" (X.env.qual ++ "<lambda>") params body scope (cloFrom X.env.cells scope.names []) pm c' ctv) ∧ H' f = none ∧
        H' c' = some (CodeO c' (X.env.qual ++ "<lambda>")) ∧ H' it = none ∧ H' S = none)
      (fun i v _ => ∃ t, v = .int (kf i) t) bt where
  keep := fun s s' ⟨H', I, e, t, hf, nf', hc, ni, ns⟩ hm => by
    have eq := Moved.eq_with hm
    rw [eq]
    refine ⟨H', I.turnedL (ch := [S, it]) (fun b o hb q => hm.heap b o hb q) (fun b hb => ?_), e, t, hm.heap f _ (fun z => ?_) hf, nf', hc, ni, ns⟩
    · simp only [List.mem_cons, List.not_mem_nil, or_false] at hb
      rcases hb with rfl | rfl
      · exact fpS _ ns
      · exact fpI _ ni
    · simp only [List.mem_cons, List.not_mem_nil, or_false] at z
      rcases z with z | z
      · exact fS z
      · exact fI z
  keepV := fun i k s s' h _ => h
  turn := fun i v s o Q E hi hP ⟨H', I, e, t, hf, nf', hc, ni, ns⟩ hst hS hQ => by
    obtain ⟨p, hp, rfl⟩ : ∃ p, as[i]? = some p ∧ v = Value.ref p := by
      have hP : (as.map Value.ref).toArray[i]? = some v := hP
      simp only [List.getElem?_toArray, List.getElem?_map] at hP
      cases q : as[i]? with
      | none => rw [q] at hP; cases hP
      | some p => rw [q] at hP; exact ⟨p, rfl, (Option.some.inj hP).symm⟩
    refine wpAny_mono (key_call (σ' := σ') I L hf hc (hbind _) hr hbody (show RelV (.ref p) (Value.ref p) from rfl) hfr hσ hlen (keys i p H' hp e t)) (fun r s' ⟨x, H2, I2, rx, ⟨ex, e2, t2⟩, un⟩ => ?_) fun _ _ z => z
    subst ex
    obtain ⟨tk, rfl⟩ := rx
    obtain ⟨oi, hoi, ri⟩ := id hst.1
    have ki := un.keep it _ hoi ni nit (fun z => nomatch z)
    have kS := un.keep S _ hS ns nS (fun z => nomatch z)
    have kf' := un.keep f _ hf nf' nf (fun z => nomatch z)
    refine hQ _ s' ⟨H2, I2, e.trans e2, t2, kf', un.free f _ hf nf' (fun z => nomatch z), e2 _ _ hc codeO_ne, un.free it _ hoi ni (fun z => nomatch z), un.free S _ hS ns (fun z => nomatch z)⟩ ⟨⟨oi, ki, ri⟩, ?_⟩ kS ⟨tk, rfl⟩ (fun j k' h => h)
    obtain ⟨its, rv, pl, _⟩ := I2.list (sqL_extN (e.trans e2) hs)
    rw [vals_refs_eq rv] at pl
    exact pl.isList
  cmp := fun i j ki kj s Q E _ h1 h2 h => cmp i j ki kj s Q E h1 h2 h
end
end Sw
set_option maxHeartbeats 2000000
namespace Sw
open PySem PySem.Spec PyProof.Rows L2 LamX
def one (vs : List V) (R : V → Prop) : Prop := match vs with
  | [v] => R v
  | _ => False
theorem one_is {vs : List V} {R : V → Prop} (h : one vs R) : ∃ v, vs = [v] ∧ R v := by
  match vs, h with
  | [v], h => exact ⟨v, rfl, h⟩
def pick (js : List Nat) (σ : L2.St) : L2.St := js.map fun j => (σ[j]?).getD none
section
variable {X : Cx} {e : Expr} {te tb : TE} {T : List (Addr × Str)} {c P : Addr} {params : Arguments} {body : Expr} {scope : Scope} {par : Str} {fr : List Str} {js : List Nat} {k : Nat} {p pos lpos kpos : Pos}
/-- What both orders have in common. -/
theorem key_any {nm : String} {op : CmpOp} {bt : Int → Int → Prop} {bd : (Nat → Int) → Nat → Nat → Bool} (hc : X.calm = true) (hg : Gl X nm) (hm : X.mg nm = none) (hv : bootBuiltins nm = some (.builtin nm)) (hn1 : (nm : Str) ≠ "__name__") (hn2 : ((nm : Str) == ("__debug__" : Str)) = false)
    (ha : PA X [e] (tCons te tNil)) (TB : TabB X.base X.mg c P) (hcode : X.env.code = .ref c) (hT1 : (P, X.env.qual ++ "<lambda>") ∈ T) (hT2 : ∀ q ∈ T, q.1 = P → q.2 = X.env.qual ++ "<lambda>") (hdef : defaultsOf params X.env = ([], [])) (L : LamP X.env.scope scope par)
    (hbind : ∀ (cl : List (Str × Addr)) (pm ctv : Value) (c' : Addr) (u : Value), bindArgs (PySem.W.kla_fn "<lambda>" (X.env.qual ++ "<lambda>") params body scope cl pm (.ref c') ctv) ⟨[u], []⟩ = pure [(par, u)])
    (hr : Room (k + 2) X.A) (hbody : ∀ (f c' : Addr) (A : Around) (outer : List Env) (s : Shared) (H : Hp), Room k (A.deeper (lamEnv X scope s.heap.objs.size f c')) → PE (keyCx X A outer s H (fun _ _ _ => False) scope f c' (par :: fr)) body tb)
    (hfr : ∀ y ∈ fr, y ≠ par) (hN : js.map (fun j => X.N[j]?) = fr.map some)
    (hcmp : ∀ kf : Nat → Int, CmpOf X.prog X.w X.A.in1 op (fun i v => ∃ t, v = .int (kf i) t) (bd kf))
    (hbest : ∀ (kf : Nat → Int) (n : Nat), 0 < n → argBest (bd kf) (n - 1) < n ∧ (∀ j, j < n → ¬ bt (kf j) (kf (argBest (bd kf) (n - 1)))) ∧ ∀ j, j < argBest (bd kf) (n - 1) → bt (kf (argBest (bd kf) (n - 1))) (kf j))
    (hcall : ∀ {x : Value} {q : Addr} {Q : Value → Shared → Prop} {E : Value → Shared → Prop} {s : Shared}, wpAny (model X.prog X.w) X.A.in1 (pyIter x) (fun it s₂ => ∃ I fp wr G n P St J V bt, it = .ref I ∧ WalksS X.prog X.w X.A.in1 I fp wr G n P St ∧ St 0 s₂ ∧ (∀ b ∈ fp, b < s₂.heap.objs.size) ∧ 0 < n ∧
      KeyRun X.prog X.w X.A.in1 (.ref q) op s₂.heap.objs.size wr G n P St J V bt ∧ J s₂ ∧ ∀ v s', P (argBest bt (n - 1)) v → J s' → Q v s') E s → wpAny (model X.prog X.w) X.A (call (.builtin nm) [x] [(Str.ofString "key", .ref q)]) Q E s)
    (h1 : backTo pos (starEach [e] X.env) = (false, eval e X.env) :: backTo pos (starEach [] X.env)) (h2 : (backTo pos (starEach [e] X.env)).any (·.1) = false)
    (h3 : (backToKw pos (keywordEach [⟨some "key", .Lambda params body scope lpos, kpos⟩] X.env)).all (·.1.isSome) = true) (h4 : (backToKw pos (keywordEach [⟨some "key", .Lambda params body scope lpos, kpos⟩] X.env)).any (·.1.isNone) = false)
    (h5 : (backToKw pos (keywordEach [⟨some "key", .Lambda params body scope lpos, kpos⟩] X.env)).filterMap (·.1) = [Str.ofString "key"]) :
    PE X (.Call (.Name nm p) [e] [⟨some "key", .Lambda params body scope lpos, kpos⟩] pos) (tKey X.K T (pick js) bt te tb) := by
  refine ⟨fun pins s σ H Q I h => ?_⟩
  refine wpAny_Call_Name_kw (ld_blt I hg hm hv ?_ hn1 hn2)
  refine PyProof.Rows.callWith_kw (thn (ha.run pos pins s σ H (fun vs H1 => one vs fun v => ∃ (a : Addr) (as : List Addr) (kf : Nat → Int), v = .ref a ∧ SqL X.K H1 a (as.map V.ref) ∧ as ≠ [] ∧ Tabs T H1 ∧
    (∀ (i : Nat) (p : Addr) (H' : Hp), as[i]? = some p → ExtN H1 H' → Tabs T H' → tb (some (.ref p) :: pick js σ) H' (fun r H'' => r = .int (kf i) ∧ ExtN H' H'' ∧ Tabs T H'')) ∧
    ∀ (i : Nat) (p : Addr) (H' : Hp), as[i]? = some p → (∀ j, j < as.length → ¬ bt (kf j) (kf i)) → (∀ j, j < i → bt (kf i) (kf j)) → ExtN H1 H' → Tabs T H' → Q (.ref p) H') I h) fun us s1 ⟨vs, H1, I1, r1, q1⟩ => ?_) h1 h2 h3 h4
  obtain ⟨v, rfl, a, as, kf, rfl, hs, hne, hT, keys, q⟩ := one_is q1
  obtain ⟨u, rfl, ru⟩ := vals1 r1
  cases ru
  show wpAny _ _ (evalAll [do let v ← eval (.Lambda params body scope lpos) X.env; standAt pos; pure v]) _ _ s1
  refine wpAny_evalAll_cons (wpAny_bind (lam_make2 I1 TB hcode hT1 hT2 hT hdef (fun y hy e => (L.free y hy e).elim (fun k => I1.ok.has _ (.inl k)) (fun k => I1.ok.has _ (.inr k))) fun f c' pm ctv H2 s2 I2 ex hT3 hf nf nfr hco => ?_))
  refine wpAny_bind (wpAny_standAt (wpAny_pure (wpAny_evalAll_nil ?_)))
  rw [h5]
  show wpAny _ _ (call (.builtin nm) [.ref a] [(Str.ofString "key", .ref f)]) _ _ _
  have hs2 := sqL_extN ex hs
  obtain ⟨its, rv, pl, hz⟩ := I2.list hs2
  rw [vals_refs_eq rv] at pl
  refine hcall (wpAny_pyIter_list pl.isList ?_)
  have lf : f < s2.heap.objs.size := Heap.lt_size hf
  obtain ⟨ol, hol, _⟩ := id pl.isList
  have la : a < s2.heap.objs.size := Heap.lt_size hol
  have nofr : ∀ b, s2.heap.objs.size ≤ b → b ∉ frs X.stack := fun b hb z => by
    rcases List.mem_cons.mp (I2.stkSub _ z) with e | e
    · have lt := I2.lt
      rw [← e] at lt
      exact Nat.lt_irrefl _ (Nat.lt_of_lt_of_le lt hb)
    · exact I2.nofs hb e
  generalize hob : ({ cls := .type "list_iterator", data := .fields #[.ref a, .int 0 0] } : Obj) = io
  have sz : (s2.heap.push io).objs.size = s2.heap.objs.size + 1 := Heap.size_push ..
  have I3 : Inv X pins σ H2 { s2 with heap := s2.heap.push io, toks := s2.toks } := I2.kept fun b o e => Heap.get?_push_of_some _ e
  have hz0 : 0 < as.length := by
    cases as with
    | nil => exact absurd rfl hne
    | cons _ _ => simp
  obtain ⟨b1, b2, b3⟩ := hbest kf as.length hz0
  have hσ : ∀ (i : Nat) (y : Str) (v : V), fr[i]? = some y → (pick js σ)[i]? = some (some v) → ∃ j : Nat, X.N[j]? = some y ∧ σ[j]? = some (some v) := fun i y v g1 g2 => by
    unfold pick at g2
    rw [List.getElem?_map] at g2
    cases gj : js[i]? with
    | none => rw [gj] at g2; cases g2
    | some j =>
      rw [gj] at g2
      have g2 : (σ[j]?).getD none = some v := Option.some.inj g2
      refine ⟨j, ?_, ?_⟩
      · have := congrArg (fun l => l[i]?) hN
        simp only [List.getElem?_map, gj, g1] at this
        exact Option.some.inj this
      · cases gs : σ[j]? with
        | none => rw [gs] at g2; cases g2
        | some w => rw [gs] at g2; simp at g2; rw [g2]
  have hln : (pick js σ).length = fr.length := by
    have := congrArg List.length hN
    simpa [pick] using this
  have K := key_run (X := X) (pins := pins) (σ := σ) (T := T) (f := f) (c' := c') (a := a) (it := s2.heap.objs.size) (S := (s2.heap.push io).objs.size) (as := as) (k := k) (H1 := H2) (kf := kf) (σ' := pick js σ) (pm := pm) (ctv := ctv) (op := op) L (hbind _ pm ctv c') hr.in1 (hbody f c') hfr hσ hln
    (fun H' n => I2.fpOk (Nat.le_refl _) n) (fun H' n => I2.fpOk (by rw [sz]; exact Nat.le_succ _) n) (nofr _ (Nat.le_refl _)) (nofr _ (by rw [sz]; exact Nat.le_succ _)) nfr (Nat.ne_of_lt lf) (by rw [sz]; exact Nat.ne_of_lt (Nat.lt_succ_of_lt lf))
    (by rw [sz]; exact Nat.succ_ne_self _) (Nat.ne_of_lt la) (by rw [sz]; exact Nat.ne_of_lt (Nat.lt_succ_of_lt la)) (hcmp kf) (fun i p H' g1 g2 g3 => keys i p H' g1 (ex.trans g2) g3) hs2
  refine ⟨s2.heap.objs.size, _, _, _, _, _, _, _, _, _, rfl, (Walks.list (A := X.A.in1) (show X.A.in1.handled = none from I2.ok.hd hc) s2.heap.objs.size a (Nat.ne_of_lt la) (as.map Value.ref).toArray).toS, ⟨?_, pl.isList.push _⟩, fun b hb => ?_, by simpa using hz0, K, ?_, fun v s' hP hJ => ?_⟩
  · subst hob
    exact ⟨_, Heap.get?_push_size _ rfl, rfl, rfl⟩
  · show b < (s2.heap.push io).objs.size
    rw [sz]
    simp only [List.mem_cons, List.not_mem_nil, or_false] at hb
    rcases hb with rfl | rfl
    · exact Nat.lt_succ_self _
    · exact Nat.lt_succ_of_lt la
  · exact ⟨H2, I3, fun _ _ g _ => g, hT3, Heap.get?_push_of_some _ hf, nf, hco, I2.hok.fresh (Nat.le_refl _), I2.hok.fresh (by rw [sz]; exact Nat.le_succ _)⟩
  · obtain ⟨H4, I4, e4, t4, _⟩ := hJ
    have hP : (as.map Value.ref).toArray[argBest (bd kf) ((as.map Value.ref).toArray.size - 1)]? = some v := hP
    have es : (as.map Value.ref).toArray.size = as.length := by simp
    rw [es] at hP
    simp only [List.getElem?_toArray, List.getElem?_map, List.getElem?_eq_getElem b1] at hP
    have hP := Option.some.inj hP
    subst hP
    exact ⟨.ref _, H4, I4, rfl, q _ _ H4 (List.getElem?_eq_getElem b1) b2 b3 (ex.trans e4) t4⟩
theorem pe_minKey (hc : X.calm = true) (hg : Gl X "min") (hm : X.mg "min" = none) (ha : PA X [e] (tCons te tNil)) (TB : TabB X.base X.mg c P) (hcode : X.env.code = .ref c) (hT1 : (P, X.env.qual ++ "<lambda>") ∈ T) (hT2 : ∀ q ∈ T, q.1 = P → q.2 = X.env.qual ++ "<lambda>") (L : LamP X.env.scope scope par)
    (hr : Room (k + 2) X.A) (hbody : ∀ (f c' : Addr) (A : Around) (outer : List Env) (s : Shared) (H : Hp), Room k (A.deeper (lamEnv X scope s.heap.objs.size f c')) → PE (keyCx X A outer s H (fun _ _ _ => False) scope f c' (par :: fr)) body tb)
    (hfr : ∀ y ∈ fr, y ≠ par) (hN : js.map (fun j => X.N[j]?) = fr.map some)
    (hbind : ∀ (cl : List (Str × Addr)) (pm ctv : Value) (c' : Addr) (u : Value), bindArgs (PySem.W.kla_fn "<lambda>" (X.env.qual ++ "<lambda>") params body scope cl pm (.ref c') ctv) ⟨[u], []⟩ = pure [(par, u)] := by intros; rfl)
    (hdef : defaultsOf params X.env = ([], []) := by rfl)
    (h1 : backTo pos (starEach [e] X.env) = (false, eval e X.env) :: backTo pos (starEach [] X.env) := by rfl) (h2 : (backTo pos (starEach [e] X.env)).any (·.1) = false := by rfl) :
    PE X (.Call (.Name "min" p) [e] [⟨some "key", .Lambda params body scope lpos, kpos⟩] pos) (tKey X.K T (pick js) (· < ·) te tb) :=
  key_any (bd := fun kf i j => decide (kf i < kf j)) hc hg hm (by decide +kernel) (by decide) (by decide) ha TB hcode hT1 hT2 hdef L hbind hr hbody hfr hN (fun kf => CmpOf.ints_lt kf (fun i v h => h))
    (fun kf n hn => by
      obtain ⟨g1, g2, g3⟩ := best_min kf (n - 1)
      exact ⟨by omega, fun j hj => by have := g2 j (by omega); omega, g3⟩) call_min_walkK h1 h2 rfl rfl rfl
theorem pe_maxKey (hc : X.calm = true) (hg : Gl X "max") (hm : X.mg "max" = none) (ha : PA X [e] (tCons te tNil)) (TB : TabB X.base X.mg c P) (hcode : X.env.code = .ref c) (hT1 : (P, X.env.qual ++ "<lambda>") ∈ T) (hT2 : ∀ q ∈ T, q.1 = P → q.2 = X.env.qual ++ "<lambda>") (L : LamP X.env.scope scope par)
    (hr : Room (k + 2) X.A) (hbody : ∀ (f c' : Addr) (A : Around) (outer : List Env) (s : Shared) (H : Hp), Room k (A.deeper (lamEnv X scope s.heap.objs.size f c')) → PE (keyCx X A outer s H (fun _ _ _ => False) scope f c' (par :: fr)) body tb)
    (hfr : ∀ y ∈ fr, y ≠ par) (hN : js.map (fun j => X.N[j]?) = fr.map some)
    (hbind : ∀ (cl : List (Str × Addr)) (pm ctv : Value) (c' : Addr) (u : Value), bindArgs (PySem.W.kla_fn "<lambda>" (X.env.qual ++ "<lambda>") params body scope cl pm (.ref c') ctv) ⟨[u], []⟩ = pure [(par, u)] := by intros; rfl)
    (hdef : defaultsOf params X.env = ([], []) := by rfl)
    (h1 : backTo pos (starEach [e] X.env) = (false, eval e X.env) :: backTo pos (starEach [] X.env) := by rfl) (h2 : (backTo pos (starEach [e] X.env)).any (·.1) = false := by rfl) :
    PE X (.Call (.Name "max" p) [e] [⟨some "key", .Lambda params body scope lpos, kpos⟩] pos) (tKey X.K T (pick js) (· > ·) te tb) :=
  key_any (bd := fun kf i j => decide (kf i > kf j)) hc hg hm (by decide +kernel) (by decide) (by decide) ha TB hcode hT1 hT2 hdef L hbind hr hbody hfr hN (fun kf => CmpOf.ints_gt kf (fun i v h => h))
    (fun kf n hn => by
      obtain ⟨g1, g2, g3⟩ := best_max kf (n - 1)
      exact ⟨by omega, fun j hj => by have := g2 j (by omega); omega, g3⟩) call_max_walkK h1 h2 rfl rfl rfl
end
end Sw
set_option maxHeartbeats 2000000
namespace Sw
open PySem PySem.W PySem.Spec PyProof.Rows L2 LamX
/-! ### The end of a row whose defs make lambdas -/
/-- The request's heap, with empty tables of code objects. -/
def tabH (H : Hp) (ts : List Addr) : Hp := fun b => if b ∈ ts then some (.tbl #[]) else H b
theorem tabH_in {H : Hp} {ts : List Addr} {b : Addr} (h : b ∈ ts) : tabH H ts b = some (.tbl #[]) := if_pos h
theorem tabH_off {H : Hp} {ts : List Addr} {b : Addr} (h : b ∉ ts) : tabH H ts b = H b := if_neg h
def OnlyT (H : Hp) (ts : List Addr) : Prop := ∀ b, H b = none ∨ b ∈ ts ∨ ∃ o u, H b = some (.frz o u)
mutual
theorem dw_ext {K : PySem.W.Frag} {H H' : Hp} (e : ExtN H H') : ∀ {v : V} {d : WData}, Dw K H v d → Dw K H' v d
  | _, _, .non => .non
  | _, _, .bl b => .bl b
  | _, _, .int i => .int i
  | _, _, .str x => .str x
  | _, _, .byt b => .byt b
  | _, _, .lst h t => .lst (sqL_extN e h) (dwAll_ext e t)
  | _, _, .tup h t => .tup (sqT_extN e h) (dwAll_ext e t)
theorem dwAll_ext {K : PySem.W.Frag} {H H' : Hp} (e : ExtN H H') : ∀ {vs : List V} {ds : List WData}, DwAll K H vs ds → DwAll K H' vs ds
  | _, _, .nil => .nil
  | _, _, .cons h t => .cons (dw_ext e h) (dwAll_ext e t)
end
theorem spec_callT {P : Program} {w : World} {K : PySem.W.Frag} {mg mb : Str → Option Value} {CX : CXT} {k : Nat} {fa : Addr} {cs : List (Addr × Addr)} {fd : FuncData} {ps : List Str} {sp : Sp} {s₁ : Shared} {vals : List Value} {ds : List WData} {R : PySem.W.WRecords} {cl : Str → Option Addr} {d0 : WData}
    (KX : K.In s₁.heap) (hns : s₁.heap.Ns mainGlobals mg) (hb : s₁.heap.Ns builtinsNs mb) (hbb : ∀ x : Str, x ≠ "__name__" → mb x = bootBuiltins x) (hlim : s₁.heap.NoLimit) (hg : s₁.gens = #[])
    (hT : ∀ p ∈ cs, s₁.heap.get? p.2 = some { cls := .none, data := .fields #[] }) (nT : ∀ p ∈ cs, K.lookup p.2 = none) (C : ∀ p ∈ cs, PySem.W.CodeHd s₁.heap p.1 p.2)
    (hbm : ∃ (bm : Addr) (ob : Obj), mg "__builtins__" = some (.ref bm) ∧ bm ≠ builtinsNs ∧ s₁.heap.get? bm = some ob ∧ ob.cls = .type "module" ∧ ob.dict = some builtinsNs ∧ ob.data = .plain)
    (hwl : WellAll w.params s₁.heap vals ds) (hpl : plWs ds = true) (hwt : ∀ d ∈ ds, d.weight ≤ 1048576) (hr : Room k callerA)
    (F : ∀ base : Heap, K.In base → base.Ns mainGlobals mg → (∀ p ∈ cs, TabB base mg p.1 p.2) → FnOk P w K mg base CX k fa fd ps sp) (hbind : ∀ (s : Shared) (us : List Value), us.length = ps.length → BindsTo s fd ⟨us, []⟩ (ps.zip us)) (hlen : ds.length = ps.length)
    (hsp : ∀ (H : Hp) (xs : List V), (∀ p ∈ cs, H p.2 = some (.tbl #[])) → DwAll K H xs ds → sp xs H (fun v H' => Dw K H' v d0) fun _ _ _ => False)
    (hCX : ∀ H e s', CX [] H s₁ (fun _ _ _ => False) e s' → False) :
    codeAny (model P w) callerA (.call (.ref fa) ⟨vals, []⟩) (fun r s' => ∃ u as, r = .ok (.ret u) ∧ ReadsW R cl s'.heap u d0 as ∧ OldK s₁.heap s'.heap ∧ s'.os = s₁.os ∧ AllBare s'.gens) s₁ := by
  obtain ⟨A, ho, ar⟩ := area_all ds vals hwl hpl hwt
  have isT : ∀ b : Addr, b ∈ cs.map (·.2) → s₁.heap.get? b = some { cls := .none, data := .fields #[] } := fun b hb => by
    obtain ⟨p, hp, rfl⟩ := List.mem_map.mp hb
    exact hT p hp
  have memT : ∀ p ∈ cs, p.2 ∈ cs.map (·.2) := fun p hp => List.mem_map.mpr ⟨p, hp, rfl⟩
  have seq0 : ∀ {b : Addr} {u : HO}, argH K s₁.heap A b = some u → ∃ (vs : List Value) (o : Obj), s₁.heap.get? b = some o ∧ o.data = .seq vs.toArray := fun {b u} q => by
    obtain ⟨_, vs, _, _, ⟨e2, _⟩ | ⟨e2, _⟩⟩ := argH_is ar q <;> exact ⟨vs, _, e2, rfl⟩
  have apart : ∀ {b : Addr} {u : HO}, argH K s₁.heap A b = some u → b ∉ cs.map (·.2) := fun {b u} q z => by
    obtain ⟨vs, o, e, d⟩ := seq0 q
    rw [isT b z] at e
    cases e
    cases d
  have hK0 : ∀ b u, argH K s₁.heap A b = some u → K.lookup b = none := fun b u q => (argH_is ar q).1
  have hO0 : OnlyF (argH K s₁.heap A) := argH_only ar
  have hok0 : HOk P w (argH K s₁.heap A) s₁.heap := argH_ok ar
  have hS0 := dw_all KX ar ds vals hwl hpl ho
  have hV := vals_toV ho
  generalize argH K s₁.heap A = H0 at hO0 hok0 hS0 hK0 seq0 apart
  have ext : ∀ b u, H0 b = some u → tabH H0 (cs.map (·.2)) b = some u := fun b u q => (tabH_off (apart q)).trans q
  have hS := dwAll_ext (H' := tabH H0 (cs.map (·.2))) (fun b o q _ => ext b o q) hS0
  have cases0 : ∀ {b : Addr} {u : HO}, tabH H0 (cs.map (·.2)) b = some u → (b ∈ cs.map (·.2) ∧ u = .tbl #[]) ∨ (b ∉ cs.map (·.2) ∧ H0 b = some u) := fun {b u} q => by
    by_cases hb : b ∈ cs.map (·.2)
    · rw [tabH_in hb] at q
      exact .inl ⟨hb, (Option.some.inj q).symm⟩
    · rw [tabH_off hb] at q
      exact .inr ⟨hb, q⟩
  have hok : HOk P w (tabH H0 (cs.map (·.2))) s₁.heap := fun b u q => by
    rcases cases0 q with ⟨hb, rfl⟩ | ⟨_, q⟩
    · exact isT b hb
    · exact (hok0 b u q).stay (fun _ _ _ y => y) (fun d y => ext d _ y) fun d xs y => ext d _ y
  have hH : ∀ p ∈ cs, tabH H0 (cs.map (·.2)) p.2 = some (.tbl #[]) := fun p hp => tabH_in (memT p hp)
  have hO : ∀ b, tabH H0 (cs.map (·.2)) b = none ∨ b ∈ cs.map (·.2) ∨ ∃ o u, tabH H0 (cs.map (·.2)) b = some (.frz o u) := fun b => by
    by_cases hb : b ∈ cs.map (·.2)
    · exact .inr (.inl hb)
    · rw [tabH_off hb]
      rcases hO0 b with z | z
      · exact .inl z
      · exact .inr (.inr z)
  have noD : ∀ {b : Addr} {o : Obj}, s₁.heap.get? b = some o → (∀ vs n, o.data ≠ .seq vs n) → o.data ≠ .fields #[] → tabH H0 (cs.map (·.2)) b = none := fun {b o} e h1 h2 => by
    cases q : tabH H0 (cs.map (·.2)) b with
    | none => rfl
    | some u =>
      rcases cases0 q with ⟨hb, _⟩ | ⟨_, q⟩
      · rw [isT b hb] at e
        cases e
        exact (h2 rfl).elim
      · obtain ⟨vs, o', e', d⟩ := seq0 q
        rw [e] at e'
        cases e'
        exact (h1 _ _ d).elim
  have nK : ∀ b o, K.lookup b = some o → tabH H0 (cs.map (·.2)) b = none := fun b o e => by
    cases q : tabH H0 (cs.map (·.2)) b with
    | none => rfl
    | some u =>
      rcases cases0 q with ⟨hb, _⟩ | ⟨_, q⟩
      · obtain ⟨p, hp, rfl⟩ := List.mem_map.mp hb
        rw [nT p hp] at e
        cases e
      · rw [hK0 b u q] at e
        cases e
  generalize tabH H0 (cs.map (·.2)) = H at hO hok hS nK noD hH
  have base_of : ∀ {b : Addr} {o : Obj}, s₁.heap.get? b = some o → H b = none → (hidT s₁.heap H).get? b = some o := fun e n => hidT_get e n
  have nsK : ∀ {b : Addr} {m : Str → Option Value}, s₁.heap.Ns b m → (hidT s₁.heap H).Ns b m := fun {b m} ⟨o, es, ep, e, d, r⟩ => ⟨o, es, ep, base_of e (noD e (fun vs n z => by rw [d] at z; cases z) (fun z => by rw [d] at z; cases z)), d, r⟩
  have hKb : K.In (hidT s₁.heap H) := fun b o e => base_of (KX b o e) (nK b o e)
  have hM : L2.Mod K mg (hidT s₁.heap H) := ⟨hKb, nsK hns, ⟨mb, nsK hb, hbb⟩, let ⟨mc, h1, h2⟩ := hlim; ⟨mc, nsK h1, h2⟩⟩
  have TB : ∀ p ∈ cs, TabB (hidT s₁.heap H) mg p.1 p.2 := fun p hp => by
    have hTp := hT p hp
    refine ⟨?_, ?_, fun z => ?_⟩
    · obtain ⟨o, us, file, tf, flags, tg, inF, text, tt, e1, r1, r2, r3, r⟩ := C p hp
      refine ⟨o, us, file, tf, flags, tg, inF, text, tt, base_of e1 (noD e1 (fun vs n z => by rw [r2] at z; cases z) fun z => ?_), r1, r2, r3, r⟩
      rw [r2] at z
      cases z
      simp at r3
    · obtain ⟨bm, ob, b1, b2, b3, b4, b5, b6⟩ := hbm
      refine ⟨bm, ob, b1, b2, fun q => ?_, fun q => ?_, base_of b3 (noD b3 (fun vs n z => by rw [b6] at z; cases z) (fun z => by rw [b6] at z; cases z)), b4, b5, b6⟩
      · obtain ⟨o, es, ep, e, hd, _⟩ := hns
        rw [q, e] at b3
        cases b3
        rw [hd] at b6
        cases b6
      · rw [q, hTp] at b3
        cases b3
        cases b6
    · obtain ⟨o, es, ep, e, hd, _⟩ := hns
      rw [z, hTp] at e
      cases e
      cases hd
  have e0 : Env0 P w K mg (hidT s₁.heap H) callerA [] s₁ H := ⟨rfl, hM, fun b o e => of_hidT e, Nat.le_of_eq (hidT_size _ _), trivial, (fun b hb => nomatch (show b ∈ ([] : List Addr) from hb)), hok, .of_eq hg⟩
  have hl : vals.length = ps.length := by rw [wellAll_len hwl]; exact hlen
  refine codeAny_mono ((F _ hKb (nsK hns) TB).run callerA [] s₁ H ⟨vals, []⟩ vals (vals.map toV) _ _ hr e0 (hbind s₁ vals hl) hV (hsp H _ hH hS)) fun r s' x => ?_
  cases r with
  | error e => exact (hCX H e s' x).elim
  | ok fl =>
    cases fl with
    | next => exact False.elim x
    | brk => exact False.elim x
    | cont => exact False.elim x
    | ret u =>
      obtain ⟨v, H', os, bare, un, hok', r', q⟩ := x
      have kept : ∀ b o, b ∉ cs.map (·.2) → s₁.heap.get? b = some o → s'.heap.get? b = some o := fun b o nb e => by
        rcases hO b with z | z | ⟨ob, u3, z⟩
        · exact un.keep b o e z (fun y => nomatch (show b ∈ ([] : List Addr) from y)) (fun y => nomatch y)
        · exact absurd z nb
        · obtain ⟨e1, _⟩ := hok b _ z
          obtain ⟨e2, _⟩ := hok' b _ (un.frzs b ob _ z)
          rw [e] at e1
          cases e1
          exact e2
      have more : ∀ p ∈ cs, ∃ m : Array Value, s'.heap.get? p.2 = some { cls := .none, data := .fields m } := fun p hp => by
        obtain ⟨m, z⟩ := un.tbls p.2 #[] (hH p hp)
        exact ⟨_, hok' p.2 _ z⟩
      have KX' : K.In s'.heap := fun b o e => kept b o (fun z => by
        obtain ⟨p, hp, rfl⟩ := List.mem_map.mp z
        rw [nT p hp] at e
        cases e) (KX b o e)
      obtain ⟨as, hrd⟩ := Dw.reads (R := R) (cl := cl) hok' KX' d0 v u q r'
      refine ⟨u, as, rfl, hrd, ⟨fun b o e => ?_, fun b o e => ?_⟩, os, bare⟩
      · by_cases hb : b ∈ cs.map (·.2)
        · obtain ⟨p, hp, rfl⟩ := List.mem_map.mp hb
          obtain ⟨m, hm⟩ := more p hp
          rw [hT p hp] at e
          cases e
          exact .inr (.inl ⟨((C p hp).tab (hT p hp)).isCodeTable, rfl, #[], m, rfl, by rw [Array.empty_append]; exact hm⟩)
        · exact .inl (kept b o hb e)
      · by_cases hb : b ∈ cs.map (·.2)
        · obtain ⟨p, hp, rfl⟩ := List.mem_map.mp hb
          obtain ⟨m, hm⟩ := more p hp
          exact ⟨_, hm⟩
        · exact ⟨o, kept b o hb e⟩
/-- The end: as the one without tables; what is known of a def's table is handed over. -/
theorem walk_specT {r : OpenSpec} {k : Nat} {q : Program} {loose : List Str} {XP : (Str → Option Value) → Heap → Prop} {YP : World → Heap → Prop} {d : DefRec} {K : Params → PySem.W.Frag} {CX : CXT} {ps : List Str} {sp : PySem.W.Frag → List (Addr × Addr) → Sp}
    (hwell : r.wellSaid = true) (hdf : d.params.defaults = []) (hlen : r.args.length = ps.length) (hr : Room k callerA)
    (hY : ∀ (w : World) (h : Heap), YP w h → (K w.params).In h)
    (F : ∀ (w : World) (mg : Str → Option Value) (fa : Addr) (h : Heap), YP w h → (K w.params).In h → h.Ns mainGlobals mg → mg d.name = some (.ref fa) →
      (∀ (x : Str) (e : DefRec) (c P : Addr), (recsOf q).find? (fun e => e.name == x) = some e → tabIn (K w.params) x = some (c, P) → PySem.W.CodeHd h c P ∧ h.get? P = some { cls := .none, data := .fields #[] }) →
      ∃ (fd : FuncData) (cs : List (Addr × Addr)), (∀ p ∈ cs, h.get? p.2 = some { cls := .none, data := .fields #[] }) ∧ (∀ p ∈ cs, (K w.params).lookup p.2 = none) ∧ (∀ p ∈ cs, PySem.W.CodeHd h p.1 p.2) ∧
        (∀ (s : Shared) (us : List Value), us.length = ps.length → BindsTo s fd ⟨us, []⟩ (ps.zip us)) ∧
        ∀ base : Heap, (K w.params).In base → base.Ns mainGlobals mg → (∀ p ∈ cs, TabB base mg p.1 p.2) → FnOk r.prog w (K w.params) mg base CX k fa fd ps (sp (K w.params) cs))
    (hsp : ∀ (K : PySem.W.Frag) (cs : List (Addr × Addr)) (H : Hp) (xs : List V) (a : Codec.denoteAll r.args), (∀ p ∈ cs, H p.2 = some (.tbl #[])) → Codec.withinAll r.args a = true → Codec.app r.args r.asked a = true → DwAll K H xs (Codec.encAll r.args a) →
      sp K cs xs H (fun v H' => Dw K H' v (r.ret.enc (Codec.app r.args r.f a))) fun _ _ _ => False)
    (hCX : ∀ (H : Hp) (s : Shared) (e : Value) (s' : Shared), CX [] H s (fun _ _ _ => False) e s' → False) :
    PySem.W.WalkOS q loose XP YP r d [] (fun f vs => PySem.call f vs) := by
  intro w s₀ s₁ mg mb G Y fa o pm cd doc dV kV ho hd hcd hD hmg hg args vals as hpre hlay hrd hwl hlo
  obtain ⟨a, e1, e2⟩ := PySem.W.os_pre_some hpre
  obtain ⟨e3, hwi⟩ := Codec.encAll_of_decAll r.args args a e1
  subst e3
  have KX := hY w _ Y
  obtain ⟨fd, cs, hT, nT, C, hb, hF⟩ := F w mg fa _ Y KX G.T.g hmg fun x e c P h1 h2 => tab_of G.T KX h1 h2
  refine PySem.W.enter_call (codeAny_mono (spec_callT (R := []) (cl := classAt s₀.heap) (d0 := r.ret.enc (Codec.app r.args r.f a)) KX G.T.g G.T.b G.T.builtins G.T.nolimit hg hT nT C G.T.bmain hwl (pl_encAll _ _) (layable_weight hlay) hr hF hb (by rw [encAll_len]; exact hlen)
    (fun H xs hH hS => hsp (K w.params) cs H xs a hH hwi e2 hS) fun H e s' => hCX H s₁ e s') fun r' s' hq => ?_)
  obtain ⟨u, as', rfl, h1, h2, h3, h4⟩ := hq
  exact ⟨.inl ⟨u, _, as', rfl, fun _ => rfl, h1, (OpenSpec.post_iff hwell hwi _ _).mpr rfl, fun z => Bool.noConfusion (show false = true from z)⟩, h2, h3, h4⟩
end Sw
set_option maxHeartbeats 2000000
namespace Sw
open PySem PySem.Spec PyProof.Rows L2
def topS (i : Nat) : Stmt := PySem.Challenge.pw_soonways_s01_answers.main.body.getD i (.Pass ⟨0, 0, 0, 0⟩)
abbrev s_cross : Stmt := topS 1
theorem sc_cross : FnScope ["p", "q"] ["p", "q"] (defScope s_cross) := ⟨rfl, rfl, rfl, by decide +kernel, rfl, by decide +kernel, by decide +kernel⟩
abbrev s_how_far : Stmt := topS 2
theorem sc_how_far : FnScope ["direction", "velocity"] ["direction", "velocity"] (defScope s_how_far) := ⟨rfl, rfl, rfl, by decide +kernel, rfl, by decide +kernel, by decide +kernel⟩
abbrev s_difference : Stmt := topS 3
theorem sc_difference : FnScope ["p", "q"] ["p", "q"] (defScope s_difference) := ⟨rfl, rfl, rfl, by decide +kernel, rfl, by decide +kernel, by decide +kernel⟩
abbrev s_bends_left : Stmt := topS 4
theorem sc_bends_left : FnScope ["p", "q", "r"] ["p", "q", "r"] (defScope s_bends_left) := ⟨rfl, rfl, rfl, by decide +kernel, rfl, by decide +kernel, by decide +kernel⟩
abbrev s_left_chain : Stmt := topS 5
theorem sc_left_chain : FnScope ["points", "kept", "point"] ["points"] (defScope s_left_chain) := ⟨rfl, rfl, rfl, by decide +kernel, rfl, by decide +kernel, by decide +kernel⟩
abbrev s_hull_corners : Stmt := topS 6
theorem sc_hull_corners : FnScope ["velocities", "turned", "points", "right_side", "left_side", "y", "x"] ["velocities"] (defScope s_hull_corners) := ⟨rfl, rfl, rfl, by decide +kernel, rfl, by decide +kernel, by decide +kernel⟩
abbrev s_neighbours : Stmt := topS 7
theorem sc_neighbours : FnScope ["corners"] ["corners"] (defScope s_neighbours) := ⟨rfl, rfl, rfl, by decide +kernel, rfl, by decide +kernel, by decide +kernel⟩
abbrev s_hull_sides : Stmt := topS 8
theorem sc_hull_sides : FnScope ["corners", "p", "q"] ["corners"] (defScope s_hull_sides) := ⟨rfl, rfl, rfl, by decide +kernel, rfl, by decide +kernel, by decide +kernel⟩
abbrev s_holds_origin_within : Stmt := topS 9
theorem sc_holds_origin_within : FnScope ["corners", "p", "q"] ["corners"] (defScope s_holds_origin_within) := ⟨rfl, rfl, rfl, by decide +kernel, rfl, by decide +kernel, by decide +kernel⟩
abbrev s_hull_support : Stmt := topS 10
theorem sc_hull_support : FnScope ["corners", "direction", "corner"] ["corners", "direction"] (defScope s_hull_support) := ⟨rfl, rfl, rfl, by decide +kernel, rfl, by decide +kernel, by decide +kernel⟩
abbrev s_furthest_corners : Stmt := topS 11
theorem sc_furthest_corners : FnScope ["corners", "direction", "furthest", "corner"] ["corners", "direction"] (defScope s_furthest_corners) := ⟨rfl, rfl, rfl, by decide +kernel, rfl, by decide +kernel, by decide +kernel⟩
abbrev s_greatest_divisor : Stmt := topS 13
theorem sc_greatest_divisor : FnScope ["m", "n", "rest"] ["m", "n"] (defScope s_greatest_divisor) := ⟨rfl, rfl, rfl, by decide +kernel, rfl, by decide +kernel, by decide +kernel⟩
abbrev s_lowest_terms : Stmt := topS 14
theorem sc_lowest_terms : FnScope ["upper", "lower", "divisor"] ["upper", "lower"] (defScope s_lowest_terms) := ⟨rfl, rfl, rfl, by decide +kernel, rfl, by decide +kernel, by decide +kernel⟩
abbrev s_ratio_text : Stmt := topS 15
theorem sc_ratio_text : FnScope ["ratio", "upper", "lower"] ["ratio"] (defScope s_ratio_text) := ⟨rfl, rfl, rfl, by decide +kernel, rfl, by decide +kernel, by decide +kernel⟩
abbrev s_lowest_direction : Stmt := topS 18
theorem sc_lowest_direction : FnScope ["a", "b", "divisor"] ["a", "b"] (defScope s_lowest_direction) := ⟨rfl, rfl, rfl, by decide +kernel, rfl, by decide +kernel, by decide +kernel⟩
abbrev s_hull_directions : Stmt := topS 19
theorem sc_hull_directions : FnScope ["corners", "sides", "looked_at", "x", "y", "a", "b"] ["corners"] (defScope s_hull_directions) := ⟨rfl, rfl, rfl, by decide +kernel, rfl, by decide +kernel, by decide +kernel⟩
abbrev s_all_directions : Stmt := topS 20
theorem sc_all_directions : FnScope ["hulls", "known", "corners", "direction", "axis"] ["hulls"] (defScope s_all_directions) := ⟨rfl, rfl, rfl, by decide +kernel, rfl, by decide +kernel, by decide +kernel⟩
abbrev s_support_row : Stmt := topS 22
theorem sc_support_row : FnScope ["corners", "directions", "direction"] ["corners", "directions"] (defScope s_support_row) := ⟨rfl, rfl, rfl, by decide +kernel, rfl, by decide +kernel, by decide +kernel⟩
abbrev s_Forecast___init__ : Stmt := inClass (topS 23) 0
theorem sc_Forecast___init__ : FnScope ["self"] ["self"] (defScope s_Forecast___init__) := ⟨rfl, rfl, rfl, by decide +kernel, rfl, by decide +kernel, by decide +kernel⟩
abbrev s_Forecast_forget_slices : Stmt := inClass (topS 23) 1
theorem sc_Forecast_forget_slices : FnScope ["self"] ["self"] (defScope s_Forecast_forget_slices) := ⟨rfl, rfl, rfl, by decide +kernel, rfl, by decide +kernel, by decide +kernel⟩
abbrev s_Forecast_add_slice : Stmt := inClass (topS 23) 2
theorem sc_Forecast_add_slice : FnScope ["self", "begin", "velocities"] ["self", "begin", "velocities"] (defScope s_Forecast_add_slice) := ⟨rfl, rfl, rfl, by decide +kernel, rfl, by decide +kernel, by decide +kernel⟩
abbrev s_Forecast_forget_findings : Stmt := inClass (topS 23) 3
theorem sc_Forecast_forget_findings : FnScope ["self"] ["self"] (defScope s_Forecast_forget_findings) := ⟨rfl, rfl, rfl, by decide +kernel, rfl, by decide +kernel, by decide +kernel⟩
abbrev s_Forecast_has_slice : Stmt := inClass (topS 23) 4
theorem sc_Forecast_has_slice : FnScope ["self", "number"] ["self", "number"] (defScope s_Forecast_has_slice) := ⟨rfl, rfl, rfl, by decide +kernel, rfl, by decide +kernel, by decide +kernel⟩
abbrev s_Forecast_is_empty : Stmt := inClass (topS 23) 5
theorem sc_Forecast_is_empty : FnScope ["self"] ["self"] (defScope s_Forecast_is_empty) := ⟨rfl, rfl, rfl, by decide +kernel, rfl, by decide +kernel, by decide +kernel⟩
abbrev s_Forecast_weigh_directions : Stmt := inClass (topS 23) 6
theorem sc_Forecast_weigh_directions : FnScope ["self", "corners"] ["self"] (defScope s_Forecast_weigh_directions) := ⟨rfl, rfl, rfl, by decide +kernel, rfl, by decide +kernel, by decide +kernel⟩
abbrev s_Forecast_as_one_slice : Stmt := inClass (topS 23) 7
theorem sc_Forecast_as_one_slice : FnScope ["self", "velocities", "corners"] ["self"] (defScope s_Forecast_as_one_slice) := ⟨rfl, rfl, rfl, by decide +kernel, rfl, by decide +kernel, by decide +kernel⟩
abbrev s_lone_slice : Stmt := topS 24
theorem sc_lone_slice : FnScope ["velocities", "forecast"] ["velocities"] (defScope s_lone_slice) := ⟨rfl, rfl, rfl, by decide +kernel, rfl, by decide +kernel, by decide +kernel⟩
abbrev s_Arrival___init__ : Stmt := inClass (topS 26) 0
theorem sc_Arrival___init__ : FnScope ["self", "number", "since", "takes", "proof"] ["self", "number", "since", "takes", "proof"] (defScope s_Arrival___init__) := ⟨rfl, rfl, rfl, by decide +kernel, rfl, by decide +kernel, by decide +kernel⟩
abbrev s_Arrival_happens : Stmt := inClass (topS 26) 1
theorem sc_Arrival_happens : FnScope ["self"] ["self"] (defScope s_Arrival_happens) := ⟨rfl, rfl, rfl, by decide +kernel, rfl, by decide +kernel, by decide +kernel⟩
abbrev s_Arrival_time : Stmt := inClass (topS 26) 2
theorem sc_Arrival_time : FnScope ["self", "upper"] ["self"] (defScope s_Arrival_time) := ⟨rfl, rfl, rfl, by decide +kernel, rfl, by decide +kernel, by decide +kernel⟩
abbrev s_Arrival_happens_by : Stmt := inClass (topS 26) 3
theorem sc_Arrival_happens_by : FnScope ["self", "u", "time"] ["self", "u"] (defScope s_Arrival_happens_by) := ⟨rfl, rfl, rfl, by decide +kernel, rfl, by decide +kernel, by decide +kernel⟩
abbrev s_stretches : Stmt := topS 27
theorem sc_stretches : FnScope ["begins", "t", "found", "number", "end", "since"] ["begins", "t"] (defScope s_stretches) := ⟨rfl, rfl, rfl, by decide +kernel, rfl, by decide +kernel, by decide +kernel⟩
abbrev s_longest_take : Stmt := topS 28
theorem sc_longest_take : FnScope ["lacking", "row", "upper", "lower", "first", "place", "lack"] ["lacking", "row"] (defScope s_longest_take) := ⟨rfl, rfl, rfl, by decide +kernel, rfl, by decide +kernel, by decide +kernel⟩
abbrev s_ends_here : Stmt := topS 29
theorem sc_ends_here : FnScope ["upper", "lower", "lasting"] ["upper", "lower", "lasting"] (defScope s_ends_here) := ⟨rfl, rfl, rfl, by decide +kernel, rfl, by decide +kernel, by decide +kernel⟩
abbrev s_least_time : Stmt := topS 30
theorem sc_least_time : FnScope ["forecast", "x", "y", "start", "parts", "lacking", "begins", "number", "since", "lasting", "row", "longest", "proof", "a", "b", "begin", "lack", "support"] ["forecast", "x", "y", "start"] (defScope s_least_time) := ⟨rfl, rfl, rfl, by decide +kernel, rfl, by decide +kernel, by decide +kernel⟩
abbrev s_total : Stmt := topS 32
theorem sc_total : FnScope ["p", "q"] ["p", "q"] (defScope s_total) := ⟨rfl, rfl, rfl, by decide +kernel, rfl, by decide +kernel, by decide +kernel⟩
abbrev s_stretched : Stmt := topS 33
theorem sc_stretched : FnScope ["p", "times"] ["p", "times"] (defScope s_stretched) := ⟨rfl, rfl, rfl, by decide +kernel, rfl, by decide +kernel, by decide +kernel⟩
abbrev s_spans_between : Stmt := topS 34
theorem sc_spans_between : FnScope ["begins", "t", "u", "spans", "number", "since", "lasting", "span"] ["begins", "t", "u"] (defScope s_spans_between) := ⟨rfl, rfl, rfl, by decide +kernel, rfl, by decide +kernel, by decide +kernel⟩
abbrev s_comes_before : Stmt := topS 35
theorem sc_comes_before : FnScope ["p", "q"] ["p", "q"] (defScope s_comes_before) := ⟨rfl, rfl, rfl, by decide +kernel, rfl, by decide +kernel, by decide +kernel⟩
abbrev s_merged_sides : Stmt := topS 36
theorem sc_merged_sides : FnScope ["ones", "others", "merged", "i", "j"] ["ones", "others"] (defScope s_merged_sides) := ⟨rfl, rfl, rfl, by decide +kernel, rfl, by decide +kernel, by decide +kernel⟩
abbrev s_corners_along : Stmt := topS 37
theorem sc_corners_along : FnScope ["first", "sides", "corners", "side"] ["first", "sides"] (defScope s_corners_along) := ⟨rfl, rfl, rfl, by decide +kernel, rfl, by decide +kernel, by decide +kernel⟩
abbrev s_set_corners : Stmt := topS 38
theorem sc_set_corners : FnScope ["forecast", "t", "u", "first", "sides", "number", "span", "corners", "side"] ["forecast", "t", "u"] (defScope s_set_corners) := ⟨rfl, rfl, rfl, by decide +kernel, rfl, by decide +kernel, by decide +kernel⟩
abbrev s_leg_times : Stmt := topS 40
theorem sc_leg_times : FnScope ["forecast", "start", "places", "times", "now", "here", "there", "arrival"] ["forecast", "start", "places"] (defScope s_leg_times) := ⟨rfl, rfl, rfl, by decide +kernel, rfl, by decide +kernel, by decide +kernel⟩
abbrev s_row_bound : Stmt := topS 41
theorem sc_row_bound : FnScope ["forecast", "places", "times"] ["forecast", "places"] (defScope s_row_bound) := ⟨rfl, rfl, rfl, by decide +kernel, rfl, by decide +kernel, by decide +kernel⟩
abbrev s_are_in_order : Stmt := topS 42
theorem sc_are_in_order : FnScope ["t", "claims", "times", "x", "y", "u", "sooner", "later"] ["t", "claims"] (defScope s_are_in_order) := ⟨rfl, rfl, rfl, by decide +kernel, rfl, by decide +kernel, by decide +kernel⟩
abbrev s_can_follow : Stmt := topS 43
theorem sc_can_follow : FnScope ["forecast", "before", "claim", "arrival"] ["forecast", "before", "claim"] (defScope s_can_follow) := ⟨rfl, rfl, rfl, by decide +kernel, rfl, by decide +kernel, by decide +kernel⟩
abbrev s_first_false_claim : Stmt := topS 44
theorem sc_first_false_claim : FnScope ["forecast", "t", "claims", "before", "count", "claim"] ["forecast", "t", "claims"] (defScope s_first_false_claim) := ⟨rfl, rfl, rfl, by decide +kernel, rfl, by decide +kernel, by decide +kernel⟩
abbrev s_is_time : Stmt := topS 50
theorem sc_is_time : FnScope ["t"] ["t"] (defScope s_is_time) := ⟨rfl, rfl, rfl, by decide +kernel, rfl, by decide +kernel, by decide +kernel⟩
abbrev s_is_span : Stmt := topS 51
theorem sc_is_span : FnScope ["t", "u"] ["t", "u"] (defScope s_is_span) := ⟨rfl, rfl, rfl, by decide +kernel, rfl, by decide +kernel, by decide +kernel⟩
abbrev s_is_place : Stmt := topS 52
theorem sc_is_place : FnScope ["x", "y"] ["x", "y"] (defScope s_is_place) := ⟨rfl, rfl, rfl, by decide +kernel, rfl, by decide +kernel, by decide +kernel⟩
abbrev s_is_velocity : Stmt := topS 53
theorem sc_is_velocity : FnScope ["a", "b"] ["a", "b"] (defScope s_is_velocity) := ⟨rfl, rfl, rfl, by decide +kernel, rfl, by decide +kernel, by decide +kernel⟩
abbrev s_is_direction : Stmt := topS 54
theorem sc_is_direction : FnScope ["a", "b"] ["a", "b"] (defScope s_is_direction) := ⟨rfl, rfl, rfl, by decide +kernel, rfl, by decide +kernel, by decide +kernel⟩
abbrev s_grouped : Stmt := topS 55
theorem sc_grouped : FnScope ["numbers", "size", "k"] ["numbers", "size"] (defScope s_grouped) := ⟨rfl, rfl, rfl, by decide +kernel, rfl, by decide +kernel, by decide +kernel⟩
abbrev s_are_velocities : Stmt := topS 56
theorem sc_are_velocities : FnScope ["numbers", "x", "y"] ["numbers"] (defScope s_are_velocities) := ⟨rfl, rfl, rfl, by decide +kernel, rfl, by decide +kernel, by decide +kernel⟩
abbrev s_are_places : Stmt := topS 57
theorem sc_are_places : FnScope ["numbers", "x", "y"] ["numbers"] (defScope s_are_places) := ⟨rfl, rfl, rfl, by decide +kernel, rfl, by decide +kernel, by decide +kernel⟩
abbrev s_are_claims : Stmt := topS 58
theorem sc_are_claims : FnScope ["numbers", "x", "y", "u"] ["numbers"] (defScope s_are_claims) := ⟨rfl, rfl, rfl, by decide +kernel, rfl, by decide +kernel, by decide +kernel⟩
abbrev s_greatest_speed : Stmt := topS 60
theorem sc_greatest_speed : FnScope ["corners", "a", "b", "arrival", "time"] ["corners", "a", "b"] (defScope s_greatest_speed) := ⟨rfl, rfl, rfl, by decide +kernel, rfl, by decide +kernel, by decide +kernel⟩
abbrev s_sailed_spans : Stmt := topS 62
theorem sc_sailed_spans : FnScope ["begins", "t", "arrival", "spans", "number", "since", "lasting"] ["begins", "t", "arrival"] (defScope s_sailed_spans) := ⟨rfl, rfl, rfl, by decide +kernel, rfl, by decide +kernel, by decide +kernel⟩
abbrev s_outer_corners : Stmt := topS 63
theorem sc_outer_corners : FnScope ["corners", "direction", "ahead", "right", "left"] ["corners", "direction"] (defScope s_outer_corners) := ⟨rfl, rfl, rfl, by decide +kernel, rfl, by decide +kernel, by decide +kernel⟩
abbrev s_sailed_slices : Stmt := topS 64
theorem sc_sailed_slices : FnScope ["forecast", "t", "arrival", "found", "number", "span", "outer"] ["forecast", "t", "arrival"] (defScope s_sailed_slices) := ⟨rfl, rfl, rfl, by decide +kernel, rfl, by decide +kernel, by decide +kernel⟩
abbrev s_add_piece : Stmt := topS 65
theorem sc_add_piece : FnScope ["pieces", "number", "velocity", "upper", "lower"] ["pieces", "number", "velocity", "upper", "lower"] (defScope s_add_piece) := ⟨rfl, rfl, rfl, by decide +kernel, rfl, by decide +kernel, by decide +kernel⟩
abbrev s_way_pieces : Stmt := topS 66
theorem sc_way_pieces : FnScope ["forecast", "x", "y", "t", "arrival", "proof", "parts", "sailed", "number", "span", "right", "left", "missing", "pieces", "gain", "made_up", "share"] ["forecast", "x", "y", "t", "arrival"] (defScope s_way_pieces) := ⟨rfl, rfl, rfl, by decide +kernel, rfl, by decide +kernel, by decide +kernel⟩
abbrev s_may_begin : Stmt := topS 76
theorem sc_may_begin : FnScope ["begins", "t"] ["begins", "t"] (defScope s_may_begin) := ⟨rfl, rfl, rfl, by decide +kernel, rfl, by decide +kernel, by decide +kernel⟩
abbrev s_task_refusal : Stmt := topS 77
theorem sc_task_refusal : FnScope ["forecast", "x", "y", "t"] ["forecast", "x", "y", "t"] (defScope s_task_refusal) := ⟨rfl, rfl, rfl, by decide +kernel, rfl, by decide +kernel, by decide +kernel⟩
abbrev s_ratio_reply : Stmt := topS 78
theorem sc_ratio_reply : FnScope ["ratio", "text", "sign"] ["ratio"] (defScope s_ratio_reply) := ⟨rfl, rfl, rfl, by decide +kernel, rfl, by decide +kernel, by decide +kernel⟩
abbrev s_corners_reply : Stmt := topS 79
theorem sc_corners_reply : FnScope ["corners", "reply", "corner"] ["corners"] (defScope s_corners_reply) := ⟨rfl, rfl, rfl, by decide +kernel, rfl, by decide +kernel, by decide +kernel⟩
abbrev s_reply_begin : Stmt := topS 80
theorem sc_reply_begin : FnScope ["forecast"] ["forecast"] (defScope s_reply_begin) := ⟨rfl, rfl, rfl, by decide +kernel, rfl, by decide +kernel, by decide +kernel⟩
abbrev s_reply_slice : Stmt := topS 81
theorem sc_reply_slice : FnScope ["forecast", "t", "numbers"] ["forecast", "t", "numbers"] (defScope s_reply_slice) := ⟨rfl, rfl, rfl, by decide +kernel, rfl, by decide +kernel, by decide +kernel⟩
abbrev s_reply_hull : Stmt := topS 82
theorem sc_reply_hull : FnScope ["forecast", "i"] ["forecast", "i"] (defScope s_reply_hull) := ⟨rfl, rfl, rfl, by decide +kernel, rfl, by decide +kernel, by decide +kernel⟩
abbrev s_reply_inside : Stmt := topS 83
theorem sc_reply_inside : FnScope ["forecast", "i"] ["forecast", "i"] (defScope s_reply_inside) := ⟨rfl, rfl, rfl, by decide +kernel, rfl, by decide +kernel, by decide +kernel⟩
abbrev s_reply_support : Stmt := topS 84
theorem sc_reply_support : FnScope ["forecast", "i", "a", "b"] ["forecast", "i", "a", "b"] (defScope s_reply_support) := ⟨rfl, rfl, rfl, by decide +kernel, rfl, by decide +kernel, by decide +kernel⟩
abbrev s_reply_least : Stmt := topS 85
theorem sc_reply_least : FnScope ["forecast", "x", "y", "t", "refusal", "arrival"] ["forecast", "x", "y", "t"] (defScope s_reply_least) := ⟨rfl, rfl, rfl, by decide +kernel, rfl, by decide +kernel, by decide +kernel⟩
abbrev s_reply_way : Stmt := topS 86
theorem sc_reply_way : FnScope ["forecast", "x", "y", "t", "refusal", "arrival", "pieces", "reply", "number", "velocity", "lasting"] ["forecast", "x", "y", "t"] (defScope s_reply_way) := ⟨rfl, rfl, rfl, by decide +kernel, rfl, by decide +kernel, by decide +kernel⟩
abbrev s_reply_reach : Stmt := topS 87
theorem sc_reply_reach : FnScope ["forecast", "x", "y", "t", "u", "refusal"] ["forecast", "x", "y", "t", "u"] (defScope s_reply_reach) := ⟨rfl, rfl, rfl, by decide +kernel, rfl, by decide +kernel, by decide +kernel⟩
abbrev s_reply_set : Stmt := topS 88
theorem sc_reply_set : FnScope ["forecast", "t", "u"] ["forecast", "t", "u"] (defScope s_reply_set) := ⟨rfl, rfl, rfl, by decide +kernel, rfl, by decide +kernel, by decide +kernel⟩
abbrev s_reply_course : Stmt := topS 89
theorem sc_reply_course : FnScope ["forecast", "t", "numbers", "times", "reply", "time"] ["forecast", "t", "numbers"] (defScope s_reply_course) := ⟨rfl, rfl, rfl, by decide +kernel, rfl, by decide +kernel, by decide +kernel⟩
abbrev s_reply_all : Stmt := topS 90
theorem sc_reply_all : FnScope ["forecast"] ["forecast"] (defScope s_reply_all) := ⟨rfl, rfl, rfl, by decide +kernel, rfl, by decide +kernel, by decide +kernel⟩
abbrev s_reply_bound : Stmt := topS 91
theorem sc_reply_bound : FnScope ["forecast", "numbers", "bound"] ["forecast", "numbers"] (defScope s_reply_bound) := ⟨rfl, rfl, rfl, by decide +kernel, rfl, by decide +kernel, by decide +kernel⟩
abbrev s_reply_check : Stmt := topS 92
theorem sc_reply_check : FnScope ["forecast", "t", "numbers", "claims", "first"] ["forecast", "t", "numbers"] (defScope s_reply_check) := ⟨rfl, rfl, rfl, by decide +kernel, rfl, by decide +kernel, by decide +kernel⟩
abbrev s_reply_speed : Stmt := topS 93
theorem sc_reply_speed : FnScope ["forecast", "i", "a", "b"] ["forecast", "i", "a", "b"] (defScope s_reply_speed) := ⟨rfl, rfl, rfl, by decide +kernel, rfl, by decide +kernel, by decide +kernel⟩
abbrev s_reply_slices : Stmt := topS 94
theorem sc_reply_slices : FnScope ["forecast"] ["forecast"] (defScope s_reply_slices) := ⟨rfl, rfl, rfl, by decide +kernel, rfl, by decide +kernel, by decide +kernel⟩
abbrev s_call_end : Stmt := topS 98
theorem sc_call_end : FnScope ["calls", "at", "number", "end"] ["calls", "at"] (defScope s_call_end) := ⟨rfl, rfl, rfl, by decide +kernel, rfl, by decide +kernel, by decide +kernel⟩
abbrev s_reply_to_early : Stmt := topS 99
theorem sc_reply_to_early : FnScope ["forecast", "call", "number"] ["forecast", "call"] (defScope s_reply_to_early) := ⟨rfl, rfl, rfl, by decide +kernel, rfl, by decide +kernel, by decide +kernel⟩
abbrev s_reply_to_late : Stmt := topS 100
theorem sc_reply_to_late : FnScope ["forecast", "call", "number"] ["forecast", "call"] (defScope s_reply_to_late) := ⟨rfl, rfl, rfl, by decide +kernel, rfl, by decide +kernel, by decide +kernel⟩
abbrev s_reply_to : Stmt := topS 101
theorem sc_reply_to : FnScope ["forecast", "call"] ["forecast", "call"] (defScope s_reply_to) := ⟨rfl, rfl, rfl, by decide +kernel, rfl, by decide +kernel, by decide +kernel⟩
abbrev s_answers : Stmt := topS 102
theorem sc_answers : FnScope ["calls", "forecast", "told", "at", "end", "reply"] ["calls"] (defScope s_answers) := ⟨rfl, rfl, rfl, by decide +kernel, rfl, by decide +kernel, by decide +kernel⟩
end Sw
set_option maxHeartbeats 2000000
namespace Sw
open PySem PySem.Spec PyProof.Rows L2
variable {X : Cx}
/-- What extend does with any tuple. -/
theorem extend_tup (l : Addr) (mine : Array Value) (n : Nat) (b : Addr) (more : Array Value)
    (h0 : ¬ (!mine.isEmpty && Builtin.List.listTooLong (mine.size + more.size)) = true) (h1 : mine.size ≤ sizeLine) (h2 : mine.size + more.size ≤ sizeLine + 1) :
    Meets (Builtin.«list.extend» ⟨[.ref l, .ref b], []⟩) (fun _ R s => s.heap.get? l = some { cls := .type "list", dict := none, data := .seq mine n, slots := #[] } ∧
      IsTup s.heap b more ∧ R (.ok (.ret Value.none)) { s with heap := s.heap.update l (Obj.mapSeq fun x => x ++ more), toks := s.toks }) :=
  .of_wp fun prog w A R s h => by
    obtain ⟨hl, ⟨o, ho, hc, m, hd⟩, h⟩ := h
    have hz' : (mine ++ more).size ≤ sizeLine + 1 := by rw [Array.size_append]; exact h2
    unfold Builtin.«list.extend»
    refine wpAny_bind (wpAny_of_eq (a := (Value.ref l, Value.ref b)) rfl ?_)
    try dsimp only
    unfold Builtin.List.listExtendWith
    refine wpAny_bind (wpAny_typeOf ⟨o, ho, hc⟩ ?_)
    have k : (Builtin.List.listSameRef (.ref l) (.ref b) || Value.type "tuple" == Value.type "list" || Value.type "tuple" == Value.type "tuple") = true := by simp
    simp only [k, if_true]
    refine wpAny_bind ?_
    unfold Builtin.List.listItems
    refine wpAny_bind (wpAny_seqItems ho hd (wpAny_pure ?_))
    refine wpAny_bind (wpAny_bind (wpAny_seqItems hl rfl (wpAny_pure ?_)))
    rw [if_neg h0]
    show wpAny _ _ (updateSeq l (fun z => z ++ more) >>= fun _ => ret Value.none) _ _ s
    refine wpAny_bind (wpAny_updateSeq hl rfl (hz := h1) (_hz' := hz') ?_)
    refine wpAny_pure ?_
    exact ⟨_, rfl, h⟩
def rExtT (K : PySem.W.Frag) : V → List V → Hp → VK → Prop := fun x vs H Q => ∃ l b xs zs, x = .ref l ∧ vs = [.ref b] ∧ H l = some (.lst xs) ∧ SqT K H b zs ∧
  xs.length + zs.length ≤ sizeLine ∧ Q .non (upd H l (.lst (xs ++ zs)))
theorem mt_extendT : MtM X "list.extend" (rExtT X.K) := by
  intro pins s σ H x vs v us Q I rx rv h
  obtain ⟨l, b, xs, zs, rfl, rfl, hH, hB, hz, q⟩ := h
  cases rx
  obtain ⟨u, rfl, ru⟩ := rv.one
  cases ru
  obtain ⟨z, its, n, r, hl, e⟩ := I.lstM hH
  obtain ⟨jts, r2, tp, _⟩ := I.tuple hB
  have e1 := r.length
  have e2 := r2.length
  have hsz : its.toArray.size + jts.toArray.size ≤ sizeLine := by rw [List.size_toArray, List.size_toArray]; omega
  have hlong : ¬ (!its.toArray.isEmpty && Builtin.List.listTooLong (its.toArray.size + jts.toArray.size)) = true := by
    rw [notLongL hsz, Bool.and_false]
    exact Bool.false_ne_true
  refine call_meets F.slot_list_extend ⟨_, e, rfl⟩ F.entry_list_extend (F.args_list_extend_2 _ _) (extend_tup l its.toArray n b jts.toArray hlong (by omega) (by omega)) ⟨e, tp, ?_⟩
  refine ⟨.non, _, I.lset (its' := its ++ jts) hH e (by simp) (r.append r2) ?_, rfl, q⟩
  rw [List.length_append]
  omega
end Sw
namespace Hu
open Vbreac
def lt (p q : Pt) : Prop := p.y < q.y ∨ (p.y = q.y ∧ p.x < q.x)
def le (p q : Pt) : Prop := p.y < q.y ∨ (p.y = q.y ∧ p.x ≤ q.x)
def pos (v : Pt) : Prop := 0 < v.y ∨ (v.y = 0 ∧ 0 < v.x)
def nng (v : Pt) : Prop := 0 < v.y ∨ (v.y = 0 ∧ 0 ≤ v.x)
theorem ident (a b c : Pt) : cross a c * b.y = cross a b * c.y + cross b c * a.y := by
  simp only [cross]; grind
theorem pos_of_mul {a b : Int} (h : 0 < a * b) (hb : 0 < b) : 0 < a := by
  rcases Int.lt_trichotomy 0 a with h' | h' | h'
  · exact h'
  · subst h'; simp at h
  · have := Int.mul_neg_of_neg_of_pos h' hb; omega
theorem nn_of_mul {a b : Int} (h : 0 ≤ a * b) (hb : 0 < b) : 0 ≤ a := by
  rcases Int.lt_or_le a 0 with h' | h'
  · have := Int.mul_neg_of_neg_of_pos h' hb; omega
  · exact h'
theorem pos.y {v : Pt} (h : pos v) : 0 ≤ v.y := by rcases h with h | h <;> omega
theorem nng.y {v : Pt} (h : nng v) : 0 ≤ v.y := by rcases h with h | h <;> omega
theorem pos.nng {v : Pt} (h : pos v) : nng v := by rcases h with h | h <;> simp [Hu.nng] <;> omega
/-- Round a half-plane: a strictly to the right of b, b not to the left of c. -/
theorem trans_sw {a b c : Pt} (ha : pos a) (hb : pos b) (hc : pos c) (h1 : 0 < cross a b) (h2 : 0 ≤ cross b c) : 0 < cross a c := by
  have i := ident a b c
  rcases hb with hb | ⟨hb, hbx⟩
  · rcases hc with hc | ⟨hc, hcx⟩
    · have m1 := Int.mul_pos h1 hc
      have m2 := Int.mul_nonneg h2 ha.y
      exact pos_of_mul (by omega) hb
    · exfalso
      have m := Int.mul_pos hb hcx
      simp only [cross, hc, Int.mul_zero] at h2
      omega
  · exfalso
    have m := Int.mul_nonneg ha.y (Int.le_of_lt hbx)
    simp only [cross, hb, Int.mul_zero] at h1
    omega
theorem trans_ws {a b c : Pt} (ha : pos a) (hb : pos b) (hc : pos c) (h1 : 0 ≤ cross a b) (h2 : 0 < cross b c) : 0 < cross a c := by
  have i := ident a b c
  rcases hb with hb | ⟨hb, hbx⟩
  · rcases ha with ha | ⟨ha, hax⟩
    · have m1 := Int.mul_nonneg h1 hc.y
      have m2 := Int.mul_pos h2 ha
      exact pos_of_mul (by omega) hb
    · rcases hc with hc | ⟨hc, hcx⟩
      · have m := Int.mul_pos hax hc
        simp only [cross, ha, Int.zero_mul]
        omega
      · exfalso
        have m := Int.mul_pos hb hcx
        simp only [cross, hc, Int.mul_zero] at h2
        omega
  · have ha' : a.y = 0 := by
      rcases ha with ha | ha
      · exfalso
        have m := Int.mul_pos ha hbx
        simp only [cross, hb, Int.mul_zero] at h1
        omega
      · exact ha.1
    have hcy : 0 < c.y := by
      rcases hc with hc | hc
      · exact hc
      · exfalso
        simp only [cross, hb, hc.1, Int.mul_zero, Int.zero_mul] at h2
        omega
    have hax : 0 < a.x := by rcases ha with ha | ha <;> omega
    have m := Int.mul_pos hax hcy
    simp only [cross, ha', Int.zero_mul]
    omega
/-- The weak one: from w to v to m. -/
theorem trans_ww {a b c : Pt} (ha : pos a) (hb : pos b) (hc : nng c) (h1 : 0 ≤ cross a b) (h2 : 0 ≤ cross b c) : 0 ≤ cross a c := by
  have i := ident a b c
  rcases hb with hb | ⟨hb, hbx⟩
  · have m1 := Int.mul_nonneg h1 hc.y
    have m2 := Int.mul_nonneg h2 ha.y
    exact nn_of_mul (by omega) hb
  · have ha' : a.y = 0 := by
      rcases ha with ha | ha
      · exfalso
        have m := Int.mul_pos ha hbx
        simp only [cross, hb, Int.mul_zero] at h1
        omega
      · exact ha.1
    have hax : 0 < a.x := by rcases ha with ha | ha <;> omega
    have m := Int.mul_nonneg (Int.le_of_lt hax) hc.y
    simp only [cross, ha', Int.zero_mul]
    omega
theorem pos_minus {p q : Pt} (h : lt p q) : pos (minus q p) := by
  simp only [lt, pos, minus] at *; omega
theorem nng_minus {p q : Pt} (h : le p q) : nng (minus q p) := by
  simp only [le, nng, minus] at *; omega
theorem lt_of_not_le {p q : Pt} (h : ¬ le p q) : lt q p := by simp only [le, lt] at *; omega
theorem lt.le {p q : Pt} (h : lt p q) : Hu.le p q := by simp only [Hu.le, Hu.lt] at *; omega
theorem lt.trans {p q r : Pt} (h : lt p q) (h' : lt q r) : lt p r := by simp only [lt] at *; omega
theorem le_lt {p q r : Pt} (h : le p q) (h' : lt q r) : lt p r := by simp only [lt, le] at *; omega
theorem lt_le {p q r : Pt} (h : lt p q) (h' : le q r) : lt p r := by simp only [lt, le] at *; omega
theorem lt_irrefl {p : Pt} (h : lt p p) : False := by simp only [lt] at *; omega
theorem le_refl (p : Pt) : le p p := Or.inr ⟨rfl, Int.le_refl _⟩
theorem pt_ext {p q : Pt} (hx : p.x = q.x) (hy : p.y = q.y) : p = q := by
  cases p; cases q; simp_all
theorem le_antisymm {p q : Pt} (h : le p q) (h' : le q p) : p = q := by
  simp only [le] at *; exact pt_ext (by omega) (by omega)
/-- On the left of the side from b to a, or on it, between. -/
def E (D : List Pt) (a b : Pt) : Prop := ∀ s ∈ D, 0 ≤ cross (minus a b) (minus s b) ∧ (cross (minus a b) (minus s b) = 0 → le b s ∧ le s a)
/-- A chain, its last place first. -/
inductive Good (D : List Pt) : List Pt → Prop
  | one {a} : a ∈ D → (∀ s ∈ D, le a s) → Good D [a]
  | more {a b r} : a ∈ D → lt b a → E D a b → Good D (b :: r) → Good D (a :: b :: r)
def popW (x : Pt) : List Pt → List Pt
  | a :: b :: r => if 0 < cross (minus a b) (minus x a) then a :: b :: r else popW x (b :: r)
  | l => l
theorem Good.mem {D a r} (h : Good D (a :: r)) : a ∈ D := by cases h <;> assumption
theorem cross_shift (a b s : Pt) : cross (minus a b) (minus s b) = cross (minus a b) (minus s a) := by
  simp only [cross, minus]; grind
/-- What popping keeps. -/
theorem pop_good {D : List Pt} {x : Pt} : ∀ (r : List Pt) (a : Pt), Good D (a :: r) → lt a x →
    (∀ s ∈ D, le a s → 0 ≤ cross (minus x a) (minus s a)) →
    ∃ a' r', popW x (a :: r) = a' :: r' ∧ Good D (a' :: r') ∧ lt a' x ∧ (∀ s ∈ D, le a' s → 0 ≤ cross (minus x a') (minus s a')) ∧
      (∀ b q, r' = b :: q → 0 < cross (minus a' b) (minus x a'))
  | [], a, g, hl, h => ⟨a, [], rfl, g, hl, h, by intro b q e; cases e⟩
  | b :: r, a, g, hl, h => by
    by_cases c : 0 < cross (minus a b) (minus x a)
    · exact ⟨a, b :: r, by rw [popW, if_pos c], g, hl, h, by intro b' q e; cases e; exact c⟩
    · rw [popW, if_neg c]
      cases g with
      | more hm hba he g' =>
        refine pop_good r b g' (hba.trans hl) ?_
        intro s hs hbs
        have pv := pos_minus hba
        have pw := pos_minus hl
        have e1 := (he s hs).1
        have cwv : 0 ≤ cross (minus x a) (minus a b) := by simp only [cross, minus] at c ⊢; grind
        by_cases has : le a s
        · have e2 := h s hs has
          have e3 : cross (minus x b) (minus s b) = cross (minus a b) (minus s b) + cross (minus x a) (minus a b) + cross (minus x a) (minus s a) := by
            simp only [cross, minus]; grind
          omega
        · have e2 := trans_ww pw pv (nng_minus hbs) cwv e1
          have e3 : cross (minus x b) (minus s b) = cross (minus a b) (minus s b) + cross (minus x a) (minus s b) := by
            simp only [cross, minus]; grind
          omega
theorem neg_cross (a b : Pt) : cross a b = - cross b a := by simp only [cross]; grind
/-- The new place lies on the left of all sides that stay. -/
theorem ext_good {D : List Pt} {x : Pt} (hx : ∀ s ∈ D, lt s x) : ∀ (r : List Pt) (a : Pt), Good D (a :: r) →
    (∀ b q, r = b :: q → 0 < cross (minus a b) (minus x a)) → Good (x :: D) (a :: r)
  | [], a, g, _ => by
    cases g with
    | one hm hl =>
      refine .one (List.mem_cons_of_mem _ hm) ?_
      intro s hs
      rcases List.mem_cons.1 hs with rfl | hs
      · exact (hx a hm).le
      · exact hl s hs
  | b :: r, a, g, h => by
    cases g with
    | more hm hba he g' =>
      have c := h b r rfl
      refine .more (List.mem_cons_of_mem _ hm) hba ?_ (ext_good hx r b g' ?_)
      · intro s hs
        rcases List.mem_cons.1 hs with rfl | hs
        · have := cross_shift a b s
          constructor
          · omega
          · intro z; omega
        · exact he s hs
      · intro b' q e
        subst e
        cases g' with
        | more hm' hbb he' _ =>
          have u := pos_minus hbb
          have v := pos_minus hba
          have w := pos_minus (hx a hm)
          have d := he' a hm
          have d1 := cross_shift b b' a
          have d2 : 0 < cross (minus b b') (minus a b) := by
            rcases Int.lt_or_eq_of_le d.1 with k | k
            · omega
            · exact absurd (lt_le hba (d.2 k.symm).2) (fun h => lt_irrefl h)
          have d3 := trans_sw u v w d2 (Int.le_of_lt c)
          have d4 : cross (minus b b') (minus x b) = cross (minus b b') (minus a b) + cross (minus b b') (minus x a) := by
            simp only [cross, minus]; grind
          omega
/-- All lie on the left of the new side. -/
theorem new_edge {D : List Pt} {x : Pt} (hx : ∀ s ∈ D, lt s x) {a r} (g : Good D (a :: r))
    (h : ∀ s ∈ D, le a s → 0 ≤ cross (minus x a) (minus s a)) (hr : ∀ b q, r = b :: q → 0 < cross (minus a b) (minus x a)) : E (x :: D) x a := by
  intro s hs
  rcases List.mem_cons.1 hs with rfl | hs
  · refine ⟨?_, fun _ => ⟨(hx a g.mem).le, le_refl _⟩⟩
    simp only [cross]; grind
  · by_cases k : le a s
    · exact ⟨h s hs k, fun _ => ⟨k, (hx s hs).le⟩⟩
    · have k' := lt_of_not_le k
      have : 0 < cross (minus x a) (minus s a) := by
        cases g with
        | one hm hl => exact absurd (hl s hs) k
        | @more _ b r hm hba he g' =>
          have c := hr b r rfl
          have e := (he s hs).1
          have e' := cross_shift a b s
          have e1 : 0 ≤ cross (minus a s) (minus a b) := by
            have : cross (minus a s) (minus a b) = cross (minus a b) (minus s a) := by simp only [cross, minus]; grind
            omega
          have := trans_ws (pos_minus k') (pos_minus hba) (pos_minus (hx a hm)) e1 c
          have : cross (minus x a) (minus s a) = cross (minus a s) (minus x a) := by simp only [cross, minus]; grind
          omega
      exact ⟨Int.le_of_lt this, fun z => by omega⟩
def chain (k l : List Pt) : List Pt := l.foldl (fun k x => x :: popW x k) k
theorem chain_good : ∀ (l D : List Pt) (a : Pt) (r : List Pt), Good D (a :: r) → (∀ s ∈ D, le s a) → (∀ x ∈ l, ∀ s ∈ D, lt s x) →
    l.Pairwise lt → ∃ a' r', chain (a :: r) l = a' :: r' ∧ Good (l.reverse ++ D) (a' :: r') ∧ (∀ s ∈ l.reverse ++ D, le s a')
  | [], D, a, r, g, hm, _, _ => ⟨a, r, rfl, by simpa using g, by simpa using hm⟩
  | x :: l, D, a, r, g, hm, hl, hp => by
    have hx := hl x (List.mem_cons_self ..)
    have hp' := List.pairwise_cons.1 hp
    obtain ⟨a', r', e, g', hl', h', hr'⟩ := pop_good (x := x) r a g (hx a g.mem) (by
      intro s hs has
      have := le_antisymm (hm s hs) has
      subst this
      simp only [cross, minus]; grind)
    have ge := ext_good hx r' a' g' hr'
    have en := new_edge hx g' h' hr'
    have g2 : Good (x :: D) (x :: a' :: r') := .more (List.mem_cons_self ..) hl' en ge
    have := chain_good l (x :: D) x (a' :: r') g2 (by
      intro s hs
      rcases List.mem_cons.1 hs with rfl | hs
      · exact le_refl _
      · exact (hx s hs).le) (by
      intro y hy s hs
      rcases List.mem_cons.1 hs with rfl | hs
      · exact hp'.1 y hy
      · exact hl y (List.mem_cons_of_mem _ hy) s hs) hp'.2
    obtain ⟨a2, r2, e2, g3, h3⟩ := this
    refine ⟨a2, r2, ?_, by simpa using g3, by simpa using h3⟩
    rw [← e2]
    simp only [chain, List.foldl_cons, e]
end Hu
set_option linter.unusedVariables false
set_option linter.unusedSimpArgs false
namespace Hu
open Vbreac
/-- From p to q: all lies on the left, what lies on the line lies between. -/
def Side (S : List Pt) (p q : Pt) : Prop := p ∈ S ∧ q ∈ S ∧ p ≠ q ∧
  ∀ s ∈ S, 0 ≤ cross (minus q p) (minus s p) ∧ (cross (minus q p) (minus s p) = 0 → 0 ≤ dot (minus s p) (minus q s))
/-- Places along one line in a half-plane. -/
theorem line_dot {m n : Pt} (hm : nng m) (hn : nng n) (h : cross m n = 0) : 0 ≤ dot m n := by
  simp only [cross] at h
  simp only [dot]
  rcases hm with hm | ⟨hm, hmx⟩
  · rcases hn with hn | ⟨hn, hnx⟩
    · have a := Int.mul_pos hm hn
      have b : 0 ≤ (m.x * n.x) * m.y := by
        have e : (m.x * n.x) * m.y = (m.x * m.x) * n.y := by grind
        have : 0 ≤ m.x * m.x := by
          rcases Int.le_total 0 m.x with k | k
          · exact Int.mul_nonneg k k
          · exact Int.mul_nonneg_of_nonpos_of_nonpos k k
        have := Int.mul_nonneg this (Int.le_of_lt hn)
        omega
      have := nn_of_mul b hm
      omega
    · rw [hn] at h
      have : m.y * n.x = 0 := by omega
      rcases Int.mul_eq_zero.1 this with k | k
      · omega
      · simp [k, hn]
  · rcases hn with hn | ⟨hn, hnx⟩
    · rw [hm] at h
      have : m.x * n.y = 0 := by omega
      rcases Int.mul_eq_zero.1 this with k | k
      · simp [k, hm]
      · omega
    · have := Int.mul_nonneg hmx hnx
      simp only [hm, hn]
      omega
theorem side_of {D : List Pt} {a b : Pt} (ha : a ∈ D) (hb : b ∈ D) (h : lt b a) (e : E D a b) : Side D b a := by
  refine ⟨hb, ha, ?_, ?_⟩
  · rintro rfl
    exact lt_irrefl h
  · intro s hs
    refine ⟨(e s hs).1, fun z => ?_⟩
    have k := (e s hs).2 z
    refine line_dot (nng_minus k.1) (nng_minus k.2) ?_
    have : cross (minus s b) (minus a s) = - cross (minus a b) (minus s b) := by simp only [cross, minus]; grind
    omega
def Path (S : List Pt) : List Pt → Prop
  | p :: q :: r => Side S p q ∧ Path S (q :: r)
  | _ => True
theorem path_snoc {S : List Pt} {a b : Pt} (h : Side S b a) : ∀ l : List Pt, Path S (l ++ [b]) → Path S (l ++ [b, a])
  | [], _ => ⟨h, trivial⟩
  | [p], k => ⟨k.1, h, trivial⟩
  | p :: q :: r, k => ⟨k.1, path_snoc h (q :: r) k.2⟩
theorem path_join {S : List Pt} {c : Pt} : ∀ l m : List Pt, Path S (l ++ [c]) → Path S (c :: m) → Path S (l ++ c :: m)
  | [], _, _, k => k
  | [p], _, h, k => ⟨h.1, k⟩
  | p :: q :: r, m, h, k => ⟨h.1, path_join (q :: r) m h.2 k⟩
theorem good_path {D : List Pt} {K : List Pt} (g : Good D K) : Path D K.reverse := by
  induction g with
  | one => trivial
  | @more a b r ha hba he g ih =>
    have := path_snoc (side_of ha g.mem hba he) r.reverse (by simpa using ih)
    simpa using this
theorem good_desc {D : List Pt} {K : List Pt} (g : Good D K) : K.Pairwise (fun a b => lt b a) := by
  induction g with
  | one => simp
  | @more a b r ha hba he g ih =>
    refine List.pairwise_cons.2 ⟨?_, ih⟩
    intro c hc
    rcases List.mem_cons.1 hc with rfl | hc
    · exact hba
    · exact ((List.pairwise_cons.1 ih).1 c hc).trans hba
theorem good_sub {D : List Pt} {K : List Pt} (g : Good D K) : ∀ s ∈ K, s ∈ D := by
  induction g with
  | one h _ => simpa using h
  | @more a b r ha hba he g ih =>
    intro s hs
    rcases List.mem_cons.1 hs with rfl | hs
    · exact ha
    · exact ih s hs
theorem good_last {D : List Pt} {K : List Pt} (g : Good D K) : ∃ m q, K = q ++ [m] ∧ ∀ s ∈ D, le m s := by
  induction g with
  | one h k => exact ⟨_, [], rfl, k⟩
  | @more a b r ha hba he g ih =>
    obtain ⟨m, q, e, h⟩ := ih
    exact ⟨m, a :: q, by rw [e]; rfl, h⟩
theorem good_up {D : List Pt} : ∀ (r : List Pt) (a : Pt), Good D (a :: r) → ∀ s ∈ r, ∃ a', lt s a' ∧ E D a' s
  | [], _, _, s, hs => by cases hs
  | b :: r, a, g, s, hs => by
    cases g with
    | more hm hba he g' =>
      rcases List.mem_cons.1 hs with rfl | hs
      · exact ⟨a, hba, he⟩
      · exact good_up r b g' s hs
/-- What lies within the chain lies on the right of the line from its first to its last. -/
theorem good_right {D : List Pt} {r : List Pt} {mx mn : Pt} (g : Good D (mx :: r)) (hmn : mn ∈ D) (low : ∀ s ∈ D, le mn s) (top : ∀ s ∈ D, le s mx)
    {s : Pt} (hs : s ∈ r) (ne : s ≠ mn) : 0 < cross (minus s mn) (minus mx s) := by
  obtain ⟨a, hsa, e⟩ := good_up r mx g s hs
  have sD := good_sub g s (List.mem_cons_of_mem _ hs)
  have lo : lt mn s := by
    have := low s sD
    simp only [le, lt] at *
    by_cases h : mn.y = s.y ∧ mn.x = s.x
    · exact absurd (pt_ext h.2.symm h.1.symm) ne
    · omega
  have hi : lt s mx := by
    have d := good_desc g
    exact (List.pairwise_cons.1 d).1 s hs
  have e1 := e mn hmn
  have e2 := (e mx g.mem).1
  have e3 : 0 < cross (minus s mn) (minus a s) := by
    have q : cross (minus s mn) (minus a s) = cross (minus a s) (minus mn s) := by simp only [cross, minus]; grind
    rcases Int.lt_or_eq_of_le e1.1 with k | k
    · omega
    · exact absurd (lt_le lo (e1.2 k.symm).1) (fun h => lt_irrefl h)
  exact trans_sw (pos_minus lo) (pos_minus hsa) (pos_minus hi) e3 e2
/-! ### Turned round -/
def neg (p : Pt) : Pt := ⟨-p.x, -p.y⟩
theorem neg_neg (p : Pt) : neg (neg p) = p := by simp [neg]
theorem cross_neg (a b c d : Pt) : cross (minus (neg a) (neg b)) (minus (neg c) (neg d)) = cross (minus a b) (minus c d) := by
  simp only [cross, minus, neg]; grind
theorem dot_neg (a b c d : Pt) : dot (minus (neg a) (neg b)) (minus (neg c) (neg d)) = dot (minus a b) (minus c d) := by
  simp only [dot, minus, neg]; grind
theorem lt_neg {a b : Pt} : lt (neg a) (neg b) ↔ lt b a := by simp only [lt, neg]; omega
theorem pop_neg (x : Pt) : ∀ l : List Pt, popW (neg x) (l.map neg) = (popW x l).map neg
  | [] => rfl
  | [a] => rfl
  | a :: b :: r => by
    have ih := pop_neg x (b :: r)
    simp only [List.map_cons] at ih ⊢
    simp only [popW, cross_neg]
    split
    · rfl
    · exact ih
theorem chain_neg : ∀ l k : List Pt, chain (k.map neg) (l.map neg) = (chain k l).map neg
  | [], _ => rfl
  | x :: l, k => by
    have := chain_neg l (x :: popW x k)
    simp only [chain, List.map_cons, List.foldl_cons, pop_neg] at this ⊢
    exact this
theorem side_neg {S : List Pt} {p q : Pt} (h : Side (S.map neg) (neg p) (neg q)) : Side S p q := by
  obtain ⟨h1, h2, h3, h4⟩ := h
  have back : ∀ z, neg z ∈ S.map neg → z ∈ S := by
    intro z hz
    obtain ⟨w, hw, e⟩ := List.mem_map.1 hz
    have := congrArg neg e
    rw [neg_neg, neg_neg] at this
    exact this ▸ hw
  refine ⟨back _ h1, back _ h2, fun e => h3 (by rw [e]), ?_⟩
  intro s hs
  have := h4 (neg s) (List.mem_map_of_mem hs)
  rw [cross_neg, dot_neg] at this
  exact this
theorem path_neg {S : List Pt} : ∀ l : List Pt, Path (S.map neg) (l.map neg) → Path S l
  | [], _ => trivial
  | [_], _ => trivial
  | p :: q :: r, h => ⟨side_neg h.1, path_neg (q :: r) h.2⟩
/-! ### The next corner -/
theorem norm_nn (a : Pt) : 0 ≤ dot a a := by
  simp only [dot]
  have h : ∀ z : Int, 0 ≤ z * z := by
    intro z
    rcases Int.le_total 0 z with k | k
    · exact Int.mul_nonneg k k
    · exact Int.mul_nonneg_of_nonpos_of_nonpos k k
  have := h a.x
  have := h a.y
  omega
theorem norm_pos {a b : Pt} (h : a ≠ b) : 0 < dot (minus a b) (minus a b) := by
  rcases Int.lt_or_eq_of_le (norm_nn (minus a b)) with k | k
  · exact k
  · exfalso
    have hz : ∀ z : Int, 0 ≤ z * z := by
      intro z
      rcases Int.le_total 0 z with k | k
      · exact Int.mul_nonneg k k
      · exact Int.mul_nonneg_of_nonpos_of_nonpos k k
    simp only [dot, minus] at k
    have h1 := hz (a.x - b.x)
    have h2 := hz (a.y - b.y)
    have z1 : (a.x - b.x) * (a.x - b.x) = 0 := by omega
    have z2 : (a.y - b.y) * (a.y - b.y) = 0 := by omega
    have w1 : a.x - b.x = 0 := by rcases Int.mul_eq_zero.1 z1 with k | k <;> exact k
    have w2 : a.y - b.y = 0 := by rcases Int.mul_eq_zero.1 z2 with k | k <;> exact k
    exact h (pt_ext (by omega) (by omega))
theorem near {p q s : Pt} (h : 0 ≤ dot (minus s p) (minus q s)) (ne : s ≠ q) : dot (minus s p) (minus s p) < dot (minus q p) (minus q p) := by
  have e : dot (minus q p) (minus q p) = dot (minus q s) (minus q s) + 2 * dot (minus s p) (minus q s) + dot (minus s p) (minus s p) := by
    simp only [dot, minus]; grind
  have := norm_pos (Ne.symm ne)
  omega
def stepC (c : Pt) (b : Option Pt) (q : Pt) : Option Pt := if q = c then b else match b with
  | none => some q
  | some p => let z := cross (minus p c) (minus q c)
    if z < 0 ∨ (z = 0 ∧ dot (minus p c) (minus p c) < dot (minus q c) (minus q c)) then some q else b
theorem next_stay {S : List Pt} {c q : Pt} (h : Side S c q) : ∀ l : List Pt, (∀ s ∈ l, s ∈ S) → l.foldl (stepC c) (some q) = some q
  | [], _ => rfl
  | s :: l, hl => by
    have hs := h.2.2.2 s (hl s (List.mem_cons_self ..))
    have : stepC c (some q) s = some q := by
      simp only [stepC]
      by_cases e : s = c
      · rw [if_pos e]
      · rw [if_neg e, if_neg]
        rintro (k | ⟨k, k'⟩)
        · omega
        · by_cases e' : s = q
          · subst e'; omega
          · have := near (hs.2 k) e'
            omega
    rw [List.foldl_cons, this]
    exact next_stay h l (fun s hs => hl s (List.mem_cons_of_mem _ hs))
theorem next_go {S : List Pt} {c q : Pt} (h : Side S c q) : ∀ (l : List Pt) (b : Option Pt), (∀ s ∈ l, s ∈ S) → q ∈ l →
    (∀ p, b = some p → p ∈ S ∧ p ≠ c) → l.foldl (stepC c) b = some q
  | [], _, _, hq, _ => by cases hq
  | s :: l, b, hl, hq, hb => by
    have hsS := hl s (List.mem_cons_self ..)
    have hl' : ∀ s ∈ l, s ∈ S := fun s hs => hl s (List.mem_cons_of_mem _ hs)
    by_cases e : s = q
    · have : stepC c b s = some q := by
        subst e
        have ne : ¬ s = c := fun e => h.2.2.1 e.symm
        cases b with
        | none => simp only [stepC, if_neg ne]
        | some p =>
          simp only [stepC, if_neg ne]
          by_cases e' : p = s
          · subst e'; split <;> rfl
          · rw [if_pos]
            have hp := h.2.2.2 p (hb p rfl).1
            have f : cross (minus p c) (minus s c) = - cross (minus s c) (minus p c) := neg_cross _ _
            rcases Int.lt_or_eq_of_le hp.1 with k | k
            · left; omega
            · right
              exact ⟨by omega, near (hp.2 k.symm) e'⟩
      rw [List.foldl_cons, this]
      exact next_stay h l hl'
    · have hq' : q ∈ l := by
        rcases List.mem_cons.1 hq with k | k
        · exact absurd k.symm e
        · exact k
      rw [List.foldl_cons]
      refine next_go h l _ hl' hq' ?_
      intro p hp
      simp only [stepC] at hp
      by_cases e1 : s = c
      · rw [if_pos e1] at hp; exact hb p hp
      · rw [if_neg e1] at hp
        cases b with
        | none => simp only [Option.some.injEq] at hp; subst hp; exact ⟨hsS, e1⟩
        | some p' =>
          simp only at hp
          split at hp
          · simp only [Option.some.injEq] at hp; subst hp; exact ⟨hsS, e1⟩
          · exact hb p hp
theorem next_is {S l : List Pt} {c q : Pt} (h : Side S c q) (hl : ∀ s, s ∈ l ↔ s ∈ S) : nextCorner c l = some q :=
  next_go h l none (fun s hs => (hl s).1 hs) ((hl q).2 h.2.1) (by intro p e; cases e)
theorem round_is {S l : List Pt} {first : Pt} (hl : ∀ s, s ∈ l ↔ s ∈ S) : ∀ (rest : List Pt) (c : Pt) (f : Nat), Path S (c :: (rest ++ [first])) →
    (∀ s ∈ rest, s ≠ first) → rest.length < f → round first l f c = rest
  | [], c, f + 1, p, _, _ => by
    rw [round, next_is p.1 hl]
    simp
  | q :: rest, c, f + 1, p, hr, hf => by
    rw [round, next_is p.1 hl]
    have := round_is hl rest q f p.2 (fun s hs => hr s (List.mem_cons_of_mem _ hs)) (by simpa using hf)
    simp only [if_neg (hr q (List.mem_cons_self ..)), this]
theorem lowest_is : ∀ (l : List Pt) (p m : Pt), (∀ s ∈ p :: l, le m s) → m ∈ p :: l → lowestOf p l = m
  | [], p, m, _, h => by
    simp only [List.mem_cons, List.not_mem_nil, or_false] at h
    exact h.symm
  | q :: l, p, m, h, hm => by
    have hp := h p (by simp)
    have hq := h q (by simp)
    simp only [lowestOf, List.foldl_cons]
    have key : ∀ z, (z = p ∨ z = q) → le z p → le z q → l.foldl (fun a q => if lower q a = true then q else a) z = m := by
      intro z hz zp zq
      refine lowest_is l z m ?_ ?_
      · intro s hs
        rcases List.mem_cons.1 hs with rfl | hs
        · rcases hz with rfl | rfl <;> assumption
        · exact h s (by simp [hs])
      · rcases List.mem_cons.1 hm with e | hm
        · subst e
          have : z = m := le_antisymm zp (by rcases hz with rfl | rfl <;> first | exact le_refl _ | exact hq)
          rw [this]; simp
        · rcases List.mem_cons.1 hm with e | hm
          · subst e
            have : z = m := le_antisymm zq (by rcases hz with rfl | rfl <;> first | exact le_refl _ | exact hp)
            rw [this]; simp
          · simp [hm]
    by_cases k : lower q p = true
    · rw [if_pos k]
      refine key q (.inr rfl) ?_ (le_refl _)
      simp only [lower, Bool.or_eq_true, Bool.and_eq_true, decide_eq_true_eq] at k
      simp only [le]; omega
    · rw [if_neg k]
      refine key p (.inl rfl) (le_refl _) ?_
      simp only [lower, Bool.or_eq_true, Bool.and_eq_true, decide_eq_true_eq] at k
      simp only [le]; omega
theorem nodup_len : ∀ (h l : List Pt), h.Nodup → (∀ x ∈ h, x ∈ l) → h.length ≤ l.length
  | [], _, _, _ => Nat.zero_le _
  | a :: h, l, nd, hs => by
    have nd' := List.nodup_cons.1 nd
    have ha := hs a (by simp)
    have := nodup_len h (l.erase a) nd'.2 (by
      intro x hx
      refine (List.mem_erase_of_ne ?_).2 (hs x (by simp [hx]))
      rintro rfl
      exact nd'.1 hx)
    have e := List.length_erase_of_mem ha
    have : 0 < l.length := List.length_pos_of_mem ha
    simp only [List.length_cons]
    omega
end Hu
set_option linter.unusedVariables false
set_option linter.unusedSimpArgs false
namespace Hu
open Vbreac
/-- The program's hull of places in order. -/
def chainOf (pts : List Pt) : List Pt := (chain [] pts).reverse
def hullM (pts : List Pt) : List Pt := if pts.length = 1 then pts else (chainOf pts).dropLast ++ (chainOf pts.reverse).dropLast
theorem chain_start (p : Pt) (l : List Pt) : chain [] (p :: l) = chain [p] l := rfl
theorem mem_all {S T : List Pt} (h : ∀ s, s ∈ S ↔ s ∈ T) {p q : Pt} (k : Side S p q) : Side T p q :=
  ⟨(h _).1 k.1, (h _).1 k.2.1, k.2.2.1, fun s hs => k.2.2.2 s ((h s).2 hs)⟩
theorem path_all {S T : List Pt} (h : ∀ s, s ∈ S ↔ s ∈ T) : ∀ l, Path S l → Path T l
  | [], _ => trivial
  | [_], _ => trivial
  | p :: q :: r, k => ⟨mem_all h k.1, path_all h (q :: r) k.2⟩
theorem good_all {S T : List Pt} (h : ∀ s, s ∈ S ↔ s ∈ T) {K : List Pt} (g : Good S K) : Good T K := by
  induction g with
  | one a b => exact .one ((h _).1 a) (fun s hs => b s ((h s).2 hs))
  | more a b c d ih => exact .more ((h _).1 a) b (fun s hs => c s ((h s).2 hs)) ih
/-- The chain of places in order: from the least to the greatest. -/
theorem chain_up {p : Pt} {l : List Pt} (hp : (p :: l).Pairwise lt) (hl : l ≠ []) : ∃ mx r, chain [] (p :: l) = mx :: (r ++ [p]) ∧
    Good (p :: l) (mx :: (r ++ [p])) ∧ (∀ s ∈ p :: l, le p s) ∧ (∀ s ∈ p :: l, le s mx) := by
  have hp' := List.pairwise_cons.1 hp
  have lo : ∀ s ∈ p :: l, le p s := by
    intro s hs
    rcases List.mem_cons.1 hs with rfl | hs
    · exact le_refl _
    · exact (hp'.1 s hs).le
  obtain ⟨a, r, e, g, t⟩ := chain_good l [p] p [] (.one (by simp) (by simp [le_refl])) (by simp [le_refl]) (by
    intro x hx s hs
    simp only [List.mem_cons, List.not_mem_nil, or_false] at hs
    subst hs
    exact hp'.1 x hx) hp'.2
  have all : ∀ s, s ∈ l.reverse ++ [p] ↔ s ∈ p :: l := by intro s; simp [or_comm]
  have g := good_all all g
  have t : ∀ s ∈ p :: l, le s a := fun s hs => t s ((all s).2 hs)
  obtain ⟨m, q, em, hm⟩ := good_last g
  have mp : m = p := le_antisymm (hm p (by simp)) (lo m (good_sub g m (by simp [em])))
  subst mp
  cases q with
  | nil =>
    exfalso
    simp only [List.nil_append, List.cons.injEq] at em
    obtain ⟨x, hx⟩ := List.exists_mem_of_ne_nil l hl
    have h1 := hp'.1 x hx
    have h2 := t x (List.mem_cons_of_mem _ hx)
    rw [em.1] at h2
    exact lt_irrefl (lt_le h1 h2)
  | cons b q =>
    simp only [List.cons_append, List.cons.injEq] at em
    obtain ⟨rfl, rfl⟩ := em
    exact ⟨a, q, by rw [chain_start, e], g, lo, t⟩
/-- All that is asked of a hull's corners: round from the first. -/
structure Ring (S : List Pt) (c : Pt) (rest : List Pt) : Prop where
  path : Path S (c :: (rest ++ [c]))
  ne : ∀ s ∈ rest, s ≠ c
  low : ∀ s ∈ S, le c s
  nodup : (c :: rest).Nodup
  sub : ∀ s ∈ c :: rest, s ∈ S
  two : rest ≠ []
theorem ring_hull {S : List Pt} {c : Pt} {rest : List Pt} (R : Ring S c rest) {l : List Pt} (hl : ∀ s, s ∈ l ↔ s ∈ S) : hullOf l = c :: rest := by
  cases l with
  | nil => exact absurd ((hl c).2 (R.sub c (by simp))) (by simp)
  | cons p r =>
    have lw : lowestOf p r = c := lowest_is r p c (fun s hs => R.low s ((hl s).1 hs)) ((hl c).2 (R.sub c (by simp)))
    have ln := nodup_len (c :: rest) (p :: r) R.nodup (fun x hx => (hl x).2 (R.sub x hx))
    simp only [List.length_cons] at ln
    simp only [hullOf, lw]
    rw [round_is hl rest c (r.length + 1) R.path R.ne (by omega)]
theorem path_mid {S : List Pt} {p q : Pt} (h : Side S p q) : p ≠ q := h.2.2.1
theorem nodup_rev {l : List Pt} (h : l.Nodup) : l.reverse.Nodup := by
  rw [List.Nodup, List.pairwise_reverse]
  exact h.imp (fun k e => k e.symm)
theorem nodup_of {l : List Pt} (h : l.Pairwise (fun a b => lt b a)) : l.Nodup :=
  h.imp (fun k e => by subst e; exact lt_irrefl k)
theorem pw_rev {l : List Pt} (h : l.Pairwise lt) : (l.reverse.map neg).Pairwise lt := by
  rw [List.pairwise_map, List.pairwise_reverse]
  exact h.imp (fun k => lt_neg.2 k)
theorem ring_of {pts : List Pt} (hp : pts.Pairwise lt) (h2 : 2 ≤ pts.length) : ∃ c rest, hullM pts = c :: rest ∧ Ring pts c rest := by
  obtain ⟨p, l, rfl⟩ : ∃ p l, pts = p :: l := by cases pts with
    | nil => simp at h2
    | cons p l => exact ⟨p, l, rfl⟩
  have hl : l ≠ [] := by rintro rfl; simp at h2
  obtain ⟨mx, r, e, g, lo, hi⟩ := chain_up hp hl
  have mxS := g.mem
  -- the other way
  obtain ⟨z, q, ezq⟩ : ∃ z q, (p :: l).reverse = z :: q := by
    cases h : (p :: l).reverse with
    | nil => simp at h
    | cons z q => exact ⟨z, q, rfl⟩
  have hq : q ≠ [] := by
    rintro rfl
    have := congrArg List.length ezq
    simp only [List.length_reverse, List.length_cons, List.length_nil] at this
    simp only [List.length_cons] at h2
    omega
  have pr := pw_rev hp
  rw [ezq, List.map_cons] at pr
  obtain ⟨my, r', e', g', lo', hi'⟩ := chain_up pr (by simpa using hq)
  have memr : ∀ s, s ∈ z :: q ↔ s ∈ p :: l := by intro s; rw [← ezq]; simp only [List.mem_reverse]
  have zmx : z = mx := by
    refine le_antisymm (hi z ((memr z).1 (by simp))) ?_
    have := lo' (neg mx) (by rw [← List.map_cons]; exact List.mem_map_of_mem ((memr mx).2 mxS))
    simp only [le, neg] at this ⊢; omega
  have myp : neg my = p := by
    have m1 := g'.mem
    rw [← List.map_cons] at m1
    obtain ⟨w, hw, ew⟩ := List.mem_map.1 m1
    have h1 := lo w ((memr w).1 hw)
    have h2 := hi' (neg p) (by rw [← List.map_cons]; exact List.mem_map_of_mem ((memr p).2 (by simp)))
    rw [← ew] at h2
    rw [← ew, neg_neg]
    refine le_antisymm ?_ h1
    simp only [le, neg] at h2 ⊢; omega
  have e2 : chain [] (z :: q) = (my :: (r' ++ [neg z])).map neg := by
    have := chain_neg (z :: q) []
    simp only [List.map_nil, List.map_cons] at this
    rw [e'] at this
    have h3 := congrArg (List.map neg) this
    rw [List.map_map] at h3
    have : (chain [] (z :: q)).map (neg ∘ neg) = chain [] (z :: q) := by
      rw [show (neg ∘ neg) = id from funext neg_neg, List.map_id]
    rw [this] at h3
    exact h3.symm
  have e2' : chain [] (z :: q) = p :: (r'.map neg ++ [mx]) := by
    rw [e2]; simp only [List.map_cons, List.map_append, List.map_nil, neg_neg, myp, zmx]
  have c1 : chainOf (p :: l) = p :: (r.reverse ++ [mx]) := by simp [chainOf, e]
  have c2 : chainOf ((p :: l).reverse) = mx :: ((r'.map neg).reverse ++ [p]) := by rw [ezq]; simp [chainOf, e2']
  have hm : hullM (p :: l) = p :: (r.reverse ++ mx :: (r'.map neg).reverse) := by
    have : ¬ (p :: l).length = 1 := by omega
    rw [hullM, if_neg this, c1, c2]
    have a1 : (p :: (r.reverse ++ [mx])).dropLast = p :: r.reverse := by
      rw [← List.cons_append, List.dropLast_concat]
    have a2 : (mx :: ((r'.map neg).reverse ++ [p])).dropLast = mx :: (r'.map neg).reverse := by
      rw [← List.cons_append, List.dropLast_concat]
    rw [a1, a2]; rfl
  have desc := good_desc g
  have desc' := good_desc g'
  have sub1 := good_sub g
  have sub2 : ∀ s ∈ r'.map neg, s ∈ p :: l := by
    intro s hs
    obtain ⟨w, hw, rfl⟩ := List.mem_map.1 hs
    have := good_sub g' w (by simp [hw])
    rw [← List.map_cons] at this
    obtain ⟨v, hv, ev⟩ := List.mem_map.1 this
    rw [← ev, neg_neg]
    exact (memr v).1 hv
  have ltp : ∀ s ∈ r, lt p s := by
    intro s hs
    have := (List.pairwise_append.1 (List.pairwise_cons.1 desc).2).2.2 s hs p (by simp)
    exact this
  have ltm : ∀ s ∈ r, lt s mx := fun s hs => (List.pairwise_cons.1 desc).1 s (by simp [hs])
  have ltp' : ∀ s ∈ r'.map neg, lt p s := by
    intro s hs
    obtain ⟨w, hw, rfl⟩ := List.mem_map.1 hs
    have := (List.pairwise_cons.1 desc').1 w (by simp [hw])
    rw [← myp]
    exact lt_neg.2 this
  have ltm' : ∀ s ∈ r'.map neg, lt s mx := by
    intro s hs
    obtain ⟨w, hw, rfl⟩ := List.mem_map.1 hs
    have := (List.pairwise_append.1 (List.pairwise_cons.1 desc').2).2.2 w hw (neg z) (by simp)
    rw [← zmx, ← neg_neg z]
    exact lt_neg.2 this
  have pmx : lt p mx := (List.pairwise_cons.1 desc).1 p (by simp)
  refine ⟨p, r.reverse ++ mx :: (r'.map neg).reverse, hm, ?_, ?_, lo, ?_, ?_, by simp⟩
  · have p1 := good_path g
    have p2 : Path (p :: l) (mx :: ((r'.map neg).reverse ++ [p])) := by
      have := good_path g'
      have h3 : (my :: (r' ++ [neg z])).reverse = (mx :: ((r'.map neg).reverse ++ [p])).map neg := by
        simp only [List.reverse_cons, List.reverse_append, List.map_cons, List.map_append, List.map_reverse, List.map_map, List.map_nil]
        rw [show (neg ∘ neg) = id from funext neg_neg, List.map_id, ← zmx, ← myp, neg_neg]
        simp
      rw [h3, ← List.map_cons] at this
      exact path_all memr _ (path_neg _ this)
    have p1' : Path (p :: l) ((p :: r.reverse) ++ [mx]) := by simpa using p1
    have := path_join (p :: r.reverse) _ p1' p2
    simpa using this
  · intro s hs
    have : lt p s := by
      rcases List.mem_append.1 hs with h | h
      · exact ltp s (by simpa using h)
      · rcases List.mem_cons.1 h with rfl | h
        · exact pmx
        · exact ltp' s (by simpa using h)
    rintro rfl
    exact lt_irrefl this
  · refine List.nodup_cons.2 ⟨?_, ?_⟩
    · intro hs
      have : lt p p := by
        rcases List.mem_append.1 hs with h | h
        · exact ltp p (by simpa using h)
        · rcases List.mem_cons.1 h with h | h
          · exact h ▸ pmx
          · exact ltp' p (by simpa using h)
      exact lt_irrefl this
    · refine List.nodup_append.2 ⟨?_, ?_, ?_⟩
      · have := nodup_of desc
        rw [List.nodup_cons] at this
        have := (List.nodup_append.1 this.2).1
        exact nodup_rev this
      · refine List.nodup_cons.2 ⟨fun h => lt_irrefl (ltm' mx (by simpa using h)), ?_⟩
        have := nodup_of desc'
        rw [List.nodup_cons] at this
        have := (List.nodup_append.1 this.2).1
        refine nodup_rev ?_
        rw [List.Nodup, List.pairwise_map]
        exact List.Pairwise.imp (fun k e => k (by have := congrArg neg e; rwa [neg_neg, neg_neg] at this)) this
      · intro a ha b hb eab
        subst eab
        have ha : a ∈ r := by simpa using ha
        rcases List.mem_cons.1 hb with rfl | hb
        · exact lt_irrefl (ltm a ha)
        · have hb : a ∈ r'.map neg := by simpa using hb
          have k1 := good_right g (by simp) lo hi (s := a) (by simp [ha]) (fun e => lt_irrefl (e ▸ ltp a ha))
          obtain ⟨w, hw, ew⟩ := List.mem_map.1 hb
          have k2 := good_right g' (mn := neg z) (by simp) lo' hi' (s := w) (by simp [hw]) (fun e => lt_irrefl (p := a) (by
            rw [e, neg_neg, zmx] at ew; rw [← ew] at ha; exact absurd (ltm _ ha) (fun h => lt_irrefl h)))
          have f1 : w = neg a := by rw [← ew, neg_neg]
          have f2 : my = neg p := by rw [← myp, neg_neg]
          rw [f1, f2, zmx, cross_neg] at k2
          have : cross (minus a mx) (minus p a) = - cross (minus a p) (minus mx a) := by simp only [cross, minus]; grind
          omega
  · intro s hs
    rcases List.mem_cons.1 hs with rfl | hs
    · simp
    · rcases List.mem_append.1 hs with h | h
      · exact sub1 s (by simp [List.mem_reverse.1 h])
      · rcases List.mem_cons.1 h with rfl | h
        · exact mxS
        · exact sub2 s (by simpa using h)
theorem hull_one {p : Pt} {l : List Pt} (hl : ∀ s, s ∈ l ↔ s = p) : hullOf l = [p] := by
  cases l with
  | nil => exact absurd ((hl p).2 rfl) (by simp)
  | cons q r =>
    have lw : lowestOf q r = p := lowest_is r q p (fun s hs => by rw [(hl s).1 hs]; exact le_refl _) ((hl p).2 rfl)
    have nx : ∀ m : List Pt, (∀ s ∈ m, s = p) → m.foldl (stepC p) none = none := by
      intro m
      induction m with
      | nil => intro _; rfl
      | cons a m ih =>
        intro h
        rw [List.foldl_cons]
        have : stepC p none a = none := by simp [stepC, h a (by simp)]
        rw [this]
        exact ih (fun s hs => h s (by simp [hs]))
    have : nextCorner p (q :: r) = none := nx (q :: r) (fun s hs => (hl s).1 hs)
    simp only [hullOf, lw, round, this]
/-- **The program's hull is the specification's.** -/
theorem hull_eq {pts l : List Pt} (hp : pts.Pairwise lt) (hl : ∀ s, s ∈ l ↔ s ∈ pts) (hne : pts ≠ []) : hullM pts = hullOf l := by
  cases pts with
  | nil => exact absurd rfl hne
  | cons p r =>
    cases r with
    | nil =>
      rw [hull_one (p := p) (by intro s; rw [hl s]; simp)]
      rfl
    | cons q r =>
      obtain ⟨c, rest, e, R⟩ := ring_of hp (by simp)
      rw [e, ring_hull R hl]
end Hu
set_option linter.unusedVariables false
set_option linter.unusedSimpArgs false
namespace Hu
open Vbreac
/-! ### Any places have a list in order -/
def ins (p : Pt) : List Pt → List Pt
  | [] => [p]
  | q :: r => if lower p q = true then p :: q :: r else if lower q p = true then q :: ins p r else q :: r
theorem lower_lt {p q : Pt} : lower p q = true ↔ lt p q := by
  simp only [lower, lt, Bool.or_eq_true, Bool.and_eq_true, decide_eq_true_eq]
theorem lt_total {p q : Pt} (h : ¬ lt p q) (h' : ¬ lt q p) : p = q := by
  simp only [lt] at *; exact pt_ext (by omega) (by omega)
theorem ins_mem (p : Pt) : ∀ l s, s ∈ ins p l ↔ s = p ∨ s ∈ l
  | [], s => by simp [ins]
  | q :: r, s => by
    have ih := ins_mem p r s
    simp only [ins]
    split
    · simp
    · split
      · simp only [List.mem_cons, ih]
        constructor
        · rintro (h | h | h) <;> simp [h]
        · rintro (h | h | h) <;> simp [h]
      · rename_i a b
        have : p = q := lt_total (fun h => a (lower_lt.2 h)) (fun h => b (lower_lt.2 h))
        subst this
        simp
theorem ins_sorted (p : Pt) : ∀ l : List Pt, l.Pairwise lt → (ins p l).Pairwise lt
  | [], _ => by simp [ins]
  | q :: r, h => by
    have h' := List.pairwise_cons.1 h
    simp only [ins]
    split
    · rename_i k
      have k := lower_lt.1 k
      refine List.pairwise_cons.2 ⟨?_, h⟩
      intro s hs
      rcases List.mem_cons.1 hs with rfl | hs
      · exact k
      · exact k.trans (h'.1 s hs)
    · split
      · rename_i k
        have k := lower_lt.1 k
        refine List.pairwise_cons.2 ⟨?_, ins_sorted p r h'.2⟩
        intro s hs
        rcases (ins_mem p r s).1 hs with rfl | hs
        · exact k
        · exact h'.1 s hs
      · exact h
theorem sorted_has : ∀ l : List Pt, ∃ pts : List Pt, pts.Pairwise lt ∧ ∀ s, s ∈ l ↔ s ∈ pts
  | [] => ⟨[], by simp, by simp⟩
  | p :: l => by
    obtain ⟨q, h, m⟩ := sorted_has l
    refine ⟨ins p q, ins_sorted p q h, ?_⟩
    intro s
    rw [ins_mem, List.mem_cons, m s]
/-- A hull is one corner, or a ring of them. -/
theorem hull_cases {l : List Pt} (hne : l ≠ []) : (∃ p, hullOf l = [p] ∧ ∀ s ∈ l, s = p) ∨ ∃ c rest, hullOf l = c :: rest ∧ Ring l c rest := by
  obtain ⟨pts, h, m⟩ := sorted_has l
  cases pts with
  | nil =>
    obtain ⟨x, hx⟩ := List.exists_mem_of_ne_nil l hne
    exact absurd ((m x).1 hx) (by simp)
  | cons p r =>
    cases r with
    | nil => exact .inl ⟨p, hull_one (p := p) (by intro s; rw [m s]; simp), fun s hs => by simpa using (m s).1 hs⟩
    | cons q r =>
      obtain ⟨c, rest, e, R⟩ := ring_of h (by simp)
      have back : ∀ s, s ∈ p :: q :: r ↔ s ∈ l := fun s => (m s).symm
      refine .inr ⟨c, rest, ring_hull R m, path_all back _ R.path, R.ne, fun s hs => R.low s ((m s).1 hs), R.nodup, fun s hs => (m s).2 (R.sub s hs), R.two⟩
/-! ### Sides by pairs -/
theorem path_pairs {S : List Pt} {z : Pt} : ∀ (l : List Pt) (c : Pt), Path S (c :: (l ++ [z])) → ∀ e ∈ (c :: l).zip (l ++ [z]), Side S e.1 e.2
  | [], c, h, e, he => by
    simp only [List.nil_append, List.zip_cons_cons, List.zip_nil_left, List.mem_cons, List.not_mem_nil, or_false] at he
    subst he
    exact h.1
  | q :: l, c, h, e, he => by
    simp only [List.cons_append, List.zip_cons_cons, List.mem_cons] at he
    rcases he with rfl | he
    · exact h.1
    · exact path_pairs l q h.2 e (by simpa using he)
theorem pair_pred {z : Pt} : ∀ (l : List Pt) (c v : Pt), v ∈ l ++ [z] → ∃ p, p ∈ c :: l ∧ (p, v) ∈ (c :: l).zip (l ++ [z])
  | [], c, v, h => ⟨c, by simp, by simpa using h⟩
  | q :: l, c, v, h => by
    simp only [List.cons_append, List.mem_cons] at h
    rcases h with rfl | h
    · exact ⟨c, by simp, by simp⟩
    · obtain ⟨p, hp, hz⟩ := pair_pred l q v (by simpa using h)
      refine ⟨p, List.mem_cons_of_mem _ hp, ?_⟩
      rw [List.cons_append, List.zip_cons_cons]
      exact List.mem_cons_of_mem _ hz
theorem pair_succ {z : Pt} : ∀ (l : List Pt) (c v : Pt), v ∈ c :: l → ∃ q, q ∈ l ++ [z] ∧ (v, q) ∈ (c :: l).zip (l ++ [z])
  | [], c, v, h => ⟨z, by simp, by simpa using h⟩
  | q :: l, c, v, h => by
    rcases List.mem_cons.1 h with rfl | h
    · exact ⟨q, by simp, by simp⟩
    · obtain ⟨p, hp, hz⟩ := pair_succ l q v h
      refine ⟨p, List.mem_cons_of_mem _ hp, ?_⟩
      rw [List.cons_append, List.zip_cons_cons]
      exact List.mem_cons_of_mem _ hz
theorem edges_cons (c : Pt) (rest : List Pt) : edges (c :: rest) = (c :: rest).zip (rest ++ [c]) := rfl
theorem ring_pred {S : List Pt} {c : Pt} {rest : List Pt} (R : Ring S c rest) {v : Pt} (hv : v ∈ c :: rest) :
    ∃ p, p ∈ c :: rest ∧ (p, v) ∈ edges (c :: rest) ∧ Side S p v := by
  obtain ⟨p, hp, he⟩ := pair_pred rest c v (z := c) (by
    rcases List.mem_cons.1 hv with rfl | h
    · simp
    · simp [h])
  exact ⟨p, hp, he, path_pairs rest c R.path _ he⟩
theorem ring_succ {S : List Pt} {c : Pt} {rest : List Pt} (R : Ring S c rest) {v : Pt} (hv : v ∈ c :: rest) :
    ∃ q, q ∈ c :: rest ∧ (v, q) ∈ edges (c :: rest) ∧ Side S v q := by
  obtain ⟨q, hq, he⟩ := pair_succ rest c v (z := c) hv
  refine ⟨q, ?_, he, path_pairs rest c R.path _ he⟩
  rcases List.mem_append.1 hq with h | h
  · simp [h]
  · simp only [List.mem_cons, List.not_mem_nil, or_false] at h; simp [h]
/-! ### How far a hull goes -/
theorem nonpos_of_mul {a b : Int} (h : a * b ≤ 0) (ha : 0 < a) : b ≤ 0 := by
  rcases Int.lt_or_le 0 b with k | k
  · have := Int.mul_pos ha k; omega
  · exact k
/-- Back and forth: what lies between p and v, and p between v and q. -/
theorem fold_back {p q v : Pt} (h1 : 0 ≤ dot (minus q p) (minus v q)) (h2 : 0 ≤ dot (minus p v) (minus q p)) : p = q := by
  by_cases e : q = p
  · exact e.symm
  · exfalso
    have := norm_pos e
    have : dot (minus q p) (minus v q) + dot (minus p v) (minus q p) = - dot (minus q p) (minus q p) := by
      simp only [dot, minus]; grind
    omega
/-- A corner that both neighbours are not beyond: nothing is. -/
theorem furthest {S : List Pt} {p v q n : Pt} (h1 : Side S p v) (h2 : Side S v q) (hp : dot p n ≤ dot v n) (hq : dot q n ≤ dot v n) :
    ∀ s ∈ S, dot s n ≤ dot v n := by
  intro s hs
  have a1 := h1.2.2.2 s hs
  have a2 := h2.2.2.2 s hs
  have d0 := h1.2.2.2 q h2.2.1
  rcases Int.lt_or_eq_of_le d0.1 with D | D
  · have i : cross (minus v p) (minus q p) * (dot s n - dot v n) =
      cross (minus v p) (minus s p) * (dot q n - dot v n) + cross (minus q v) (minus s v) * (dot p n - dot v n) := by
      simp only [cross, minus, dot]; grind
    have m1 := Int.mul_nonpos_of_nonneg_of_nonpos a1.1 (show dot q n - dot v n ≤ 0 by omega)
    have m2 := Int.mul_nonpos_of_nonneg_of_nonpos a2.1 (show dot p n - dot v n ≤ 0 by omega)
    have := nonpos_of_mul (a := cross (minus v p) (minus q p)) (b := dot s n - dot v n) (by omega) D
    omega
  · have e1 := d0.2 D.symm
    have e2 := (h2.2.2.2 p h1.1).2 (by
      have : cross (minus q v) (minus p v) = cross (minus v p) (minus q p) := by simp only [cross, minus]; grind
      omega)
    have pq : p = q := fold_back e1 e2
    subst pq
    have z : cross (minus v p) (minus s p) = 0 := by
      have : cross (minus p v) (minus s v) = - cross (minus v p) (minus s p) := by simp only [cross, minus]; grind
      omega
    have b := a1.2 z
    -- s lies between p and v
    have u := norm_pos (a := v) (b := p) (Ne.symm h1.2.2.1)
    have i : dot (minus v p) (minus v p) * (dot v n - dot s n) = dot (minus v s) (minus v p) * (dot v n - dot p n) + cross (minus v p) (minus s p) * (n.y * (v.x - p.x) - n.x * (v.y - p.y)) * (-1) := by
      simp only [cross, minus, dot]; grind
    have k : 0 ≤ dot (minus v s) (minus v p) := by
      have : dot (minus v s) (minus v p) = dot (minus s p) (minus v s) + dot (minus v s) (minus v s) := by simp only [dot, minus]; grind
      have := norm_nn (minus v s)
      omega
    have m := Int.mul_nonneg k (show 0 ≤ dot v n - dot p n by omega)
    rw [z] at i
    simp only [Int.zero_mul, Int.add_zero] at i
    have := nonpos_of_mul (a := dot (minus v p) (minus v p)) (b := dot s n - dot v n) (by
      have : dot (minus v p) (minus v p) * (dot s n - dot v n) = - (dot (minus v p) (minus v p) * (dot v n - dot s n)) := by grind
      omega) u
    omega
theorem best_of (f : Pt → Int) : ∀ (l : List Pt) (a : Pt), ∃ v ∈ a :: l, ∀ s ∈ a :: l, f s ≤ f v
  | [], a => ⟨a, by simp, by simp⟩
  | b :: l, a => by
    obtain ⟨v, hv, h⟩ := best_of f l b
    by_cases k : f a ≤ f v
    · refine ⟨v, List.mem_cons_of_mem _ hv, ?_⟩
      intro s hs
      rcases List.mem_cons.1 hs with rfl | hs
      · exact k
      · exact h s hs
    · refine ⟨a, by simp, ?_⟩
      intro s hs
      rcases List.mem_cons.1 hs with rfl | hs
      · exact Int.le_refl _
      · have := h s hs; omega
/-- Some corner of a hull lies as far as any of the places. -/
theorem hull_far {l : List Pt} (hne : l ≠ []) (n : Pt) : ∃ v ∈ hullOf l, ∀ s ∈ l, dot s n ≤ dot v n := by
  rcases hull_cases hne with ⟨p, e, h⟩ | ⟨c, rest, e, R⟩
  · exact ⟨p, by simp [e], fun s hs => by rw [h s hs]; exact Int.le_refl _⟩
  · obtain ⟨v, hv, h⟩ := best_of (fun s => dot s n) rest c
    obtain ⟨p, hp, _, s1⟩ := ring_pred R hv
    obtain ⟨q, hq, _, s2⟩ := ring_succ R hv
    exact ⟨v, by rw [e]; exact hv, furthest s1 s2 (h p hp) (h q hq)⟩
theorem hull_sub {l : List Pt} (hne : l ≠ []) : ∀ s ∈ hullOf l, s ∈ l := by
  rcases hull_cases hne with ⟨p, e, h⟩ | ⟨c, rest, e, R⟩
  · rw [e]
    intro s hs
    simp only [List.mem_cons, List.not_mem_nil, or_false] at hs
    subst hs
    obtain ⟨x, hx⟩ := List.exists_mem_of_ne_nil l hne
    have := h x hx
    exact this ▸ hx
  · rw [e]; exact R.sub
theorem max_fold (f : Pt → Int) : ∀ (l : List Pt) (z : Int), (z ≤ l.foldl (fun z v => max z (f v)) z) ∧ (∀ v ∈ l, f v ≤ l.foldl (fun z v => max z (f v)) z) ∧
    (l.foldl (fun z v => max z (f v)) z = z ∨ ∃ v ∈ l, f v = l.foldl (fun z v => max z (f v)) z)
  | [], z => ⟨Int.le_refl _, by simp, .inl rfl⟩
  | a :: l, z => by
    obtain ⟨h1, h2, h3⟩ := max_fold f l (max z (f a))
    rw [List.foldl_cons]
    refine ⟨by omega, ?_, ?_⟩
    · intro v hv
      rcases List.mem_cons.1 hv with rfl | hv
      · omega
      · exact h2 v hv
    · rcases h3 with h | ⟨v, hv, h⟩
      · rw [h]
        rcases Int.le_total z (f a) with k | k
        · right; exact ⟨a, by simp, by omega⟩
        · left; omega
      · right; exact ⟨v, by simp [hv], h⟩
/-- What the support is: reached at a corner, and nothing lies further. -/
theorem support_is {l : List Pt} (h0 : zero ∈ l) (n : Pt) :
    (∃ v ∈ hullOf l, dot v n = support (hullOf l) n) ∧ (∀ v ∈ l, dot v n ≤ support (hullOf l) n) ∧ 0 ≤ support (hullOf l) n := by
  have hne : l ≠ [] := by rintro rfl; cases h0
  obtain ⟨v, hv, h⟩ := hull_far hne n
  obtain ⟨m1, m2, m3⟩ := max_fold (fun v => dot v n) (hullOf l) 0
  have z := h zero h0
  have z0 : dot zero n = 0 := by simp [dot, zero]
  have hv2 := m2 v hv
  refine ⟨?_, ?_, m1⟩
  · rcases m3 with k | k
    · refine ⟨v, hv, ?_⟩
      simp only [support]
      omega
    · exact k
  · intro s hs
    have := h s hs
    simp only [support]
    omega
end Hu
set_option linter.unusedVariables false
set_option linter.unusedSimpArgs false
namespace Hu
open Vbreac
/-! ### Lowest terms -/
theorem plain_scale (n : Pt) (h : n ≠ zero) : ∃ g : Int, 0 < g ∧ n = scaled g (plain n) := by
  have hg : Nat.gcd n.x.natAbs n.y.natAbs ≠ 0 := by
    intro k
    rw [Nat.gcd_eq_zero_iff] at k
    exact h (pt_ext (by simp [zero]; omega) (by simp [zero]; omega))
  refine ⟨(Nat.gcd n.x.natAbs n.y.natAbs : Int), by omega, ?_⟩
  have d1 : ((Nat.gcd n.x.natAbs n.y.natAbs : Nat) : Int) ∣ n.x := Int.ofNat_dvd_left.2 (Nat.gcd_dvd_left _ _)
  have d2 : ((Nat.gcd n.x.natAbs n.y.natAbs : Nat) : Int) ∣ n.y := Int.ofNat_dvd_left.2 (Nat.gcd_dvd_right _ _)
  simp only [plain, if_neg hg, scaled]
  exact pt_ext (Int.mul_ediv_cancel' d1).symm (Int.mul_ediv_cancel' d2).symm
theorem cross_scaled (g : Int) (a b : Pt) : cross (scaled g a) b = g * cross a b := by simp only [cross, scaled]; grind
theorem dot_scaled (g : Int) (a b : Pt) : dot a (scaled g b) = g * dot a b := by simp only [dot, scaled]; grind
theorem cross_plain {m n : Pt} (hm : m ≠ zero) (h : 0 < cross m n) : 0 < cross (plain m) n := by
  obtain ⟨g, hg, e⟩ := plain_scale m hm
  rw [e, cross_scaled, Int.mul_comm] at h
  exact pos_of_mul h hg
theorem dot_plain {m a b : Pt} (hm : m ≠ zero) (h : dot a m ≤ dot b m) : dot a (plain m) ≤ dot b (plain m) := by
  obtain ⟨g, hg, e⟩ := plain_scale m hm
  rw [e, dot_scaled, dot_scaled] at h
  have : g * (dot a (plain m) - dot b (plain m)) ≤ 0 := by rw [Int.mul_sub]; omega
  have := nonpos_of_mul this hg
  omega
/-! ### The right end of a face -/
theorem right_fold (n : Pt) : ∀ (r : List Pt) (v : Pt), r.foldl (fun a q => if cross n q < cross n a then q else a) v ∈ v :: r ∧
    ∀ s ∈ v :: r, cross n (r.foldl (fun a q => if cross n q < cross n a then q else a) v) ≤ cross n s
  | [], v => ⟨by simp, by simp⟩
  | q :: r, v => by
    rw [List.foldl_cons]
    by_cases k : cross n q < cross n v
    · rw [if_pos k]
      obtain ⟨h1, h2⟩ := right_fold n r q
      refine ⟨List.mem_cons_of_mem _ h1, ?_⟩
      intro s hs
      rcases List.mem_cons.1 hs with rfl | hs
      · have := h2 q (by simp); omega
      · exact h2 s hs
    · rw [if_neg k]
      obtain ⟨h1, h2⟩ := right_fold n r v
      refine ⟨?_, ?_⟩
      · rcases List.mem_cons.1 h1 with h | h
        · rw [h]; simp
        · simp [h]
      · intro s hs
        rcases List.mem_cons.1 hs with rfl | hs
        · exact h2 s (by simp)
        · rcases List.mem_cons.1 hs with rfl | hs
          · have := h2 v (by simp); omega
          · exact h2 s (by simp [hs])
theorem right_is {l : List Pt} (h0 : zero ∈ l) (n : Pt) : rightEnd n (face (hullOf l) n) ∈ hullOf l ∧
    dot (rightEnd n (face (hullOf l) n)) n = support (hullOf l) n ∧
    ∀ s ∈ hullOf l, dot s n = support (hullOf l) n → cross n (rightEnd n (face (hullOf l) n)) ≤ cross n s := by
  obtain ⟨⟨v, hv, hd⟩, _, _⟩ := support_is h0 n
  have mem : ∀ s, s ∈ face (hullOf l) n ↔ s ∈ hullOf l ∧ dot s n = support (hullOf l) n := by
    intro s; simp [face]
  cases hf : face (hullOf l) n with
  | nil =>
    have := (mem v).2 ⟨hv, hd⟩
    rw [hf] at this
    cases this
  | cons a r =>
    obtain ⟨h1, h2⟩ := right_fold n r a
    rw [← hf] at h1 h2
    have h1' := (mem _).1 h1
    exact ⟨h1'.1, h1'.2, fun s hs hd => h2 s ((mem s).2 ⟨hs, hd⟩)⟩
theorem outward_mem {c p v : Pt} {rest : List Pt} (h2 : rest ≠ []) (he : (p, v) ∈ edges (c :: rest)) :
    plain ⟨v.y - p.y, p.x - v.x⟩ ∈ outward (c :: rest) := by
  have : ¬ (c :: rest).length < 2 := by
    cases rest with
    | nil => exact absurd rfl h2
    | cons a b => simp
  rw [outward, if_neg this]
  exact List.mem_map.2 ⟨(p, v), he, rfl⟩
theorem two_list {c p r : Pt} {rest : List Pt} (nd : (c :: rest).Nodup) (hp : p ∈ c :: rest) (hr : r ∈ c :: rest) (ne : p ≠ r)
    (all : ∀ v ∈ c :: rest, v = p ∨ v = r) : (c = p ∧ rest = [r]) ∨ (c = r ∧ rest = [p]) := by
  have nd' := List.nodup_cons.1 nd
  have h3 := nodup_len (c :: rest) [p, r] nd (by intro x hx; rcases all x hx with h | h <;> simp [h])
  simp only [List.length_cons, List.length_nil] at h3
  cases rest with
  | nil =>
    simp only [List.mem_cons, List.not_mem_nil, or_false] at hp hr
    exact absurd (hp.trans hr.symm) ne
  | cons a t =>
    cases t with
    | nil =>
      have nca : c ≠ a := fun e => nd'.1 (by simp [e])
      rcases all c (by simp) with h | h <;> rcases all a (by simp) with k | k
      · exact absurd (h.trans k.symm) nca
      · left; simp [h, k]
      · right; simp [h, k]
      · exact absurd (h.trans k.symm) nca
    | cons b t => simp only [List.length_cons] at h3; omega
/-- Beside a direction there is, on its right, one that looks out of this hull and in which the right end lies furthest. -/
theorem right_dir {l : List Pt} (h0 : zero ∈ l) {n : Pt} (hn : n ≠ zero) :
    (hullOf l = [rightEnd n (face (hullOf l) n)]) ∨ ∃ m ∈ outward (hullOf l) ++ lengthwise (hullOf l), 0 < cross m n ∧
      ∀ v ∈ hullOf l, dot v m ≤ dot (rightEnd n (face (hullOf l) n)) m := by
  have hne : l ≠ [] := by rintro rfl; cases h0
  obtain ⟨m1, m2, m3⟩ := right_is h0 n
  obtain ⟨_, far, _⟩ := support_is h0 n
  generalize hr : rightEnd n (face (hullOf l) n) = r at *
  rcases hull_cases hne with ⟨p, e, h⟩ | ⟨c, rest, e, R⟩
  · left
    rw [e] at m1 ⊢
    simp only [List.mem_cons, List.not_mem_nil, or_false] at m1
    rw [m1]
  · right
    rw [e] at m1
    obtain ⟨p, hp, he, sd⟩ := ring_pred R m1
    have pS := R.sub p hp
    have out := outward_mem R.two he
    have mz : (⟨r.y - p.y, p.x - r.x⟩ : Pt) ≠ zero := by
      intro k
      have k1 := congrArg Pt.x k
      have k2 := congrArg Pt.y k
      simp only [zero] at k1 k2
      exact sd.2.2.1 (pt_ext (by omega) (by omega))
    have dp : dot p n ≤ dot r n := by rw [m2]; exact far p pS
    have cr : cross ⟨r.y - p.y, p.x - r.x⟩ n = dot r n - dot p n := by simp only [cross, dot]; grind
    by_cases k : dot p n < dot r n
    · refine ⟨plain ⟨r.y - p.y, p.x - r.x⟩, by rw [e]; exact List.mem_append_left _ out, cross_plain mz (by omega), ?_⟩
      intro v hv
      refine dot_plain mz ?_
      have := (sd.2.2.2 v (hull_sub hne v hv)).1
      have i : dot r ⟨r.y - p.y, p.x - r.x⟩ - dot v ⟨r.y - p.y, p.x - r.x⟩ = cross (minus r p) (minus v p) := by
        simp only [cross, dot, minus]; grind
      omega
    · have deq : dot p n = dot r n := by omega
      have cle := m3 p (by rw [e]; exact hp) (by omega)
      -- u = r - p is square to n, on its right
      have i1 : dot (minus r p) n = 0 := by
        have : dot (minus r p) n = dot r n - dot p n := by simp only [dot, minus]; grind
        omega
      have i2 : cross n (minus r p) = cross n r - cross n p := by simp only [cross, minus]; grind
      have nn : 0 < dot n n := by
        have := norm_pos hn
        have e : minus n zero = n := by simp [minus, zero]
        rwa [e] at this
      have i3 : cross n (minus r p) ≠ 0 := by
        intro z
        have u := norm_pos (Ne.symm sd.2.2.1)
        have : dot n n * dot (minus r p) (minus r p) = dot (minus r p) n * dot (minus r p) n + cross n (minus r p) * cross n (minus r p) := by
          simp only [cross, dot]; grind
        rw [i1, z] at this
        have := Int.mul_pos nn u
        simp at *
        omega
      have i4 : cross n (minus r p) < 0 := by omega
      -- all lies on one line
      have flat : ∀ s ∈ l, cross (minus r p) (minus s p) = 0 := by
        intro s hs
        have a := (sd.2.2.2 s hs).1
        have b := far s hs
        have i : dot n n * cross (minus r p) (minus s p) = dot (minus r p) n * cross n (minus s p) + cross n (minus r p) * (dot r n - dot s n) + cross n (minus r p) * (dot p n - dot r n) := by
          simp only [cross, dot, minus]; grind
        rw [i1, deq] at i
        simp only [Int.zero_mul, Int.sub_self, Int.mul_zero, Int.add_zero, Int.zero_add] at i
        have := Int.mul_nonpos_of_nonpos_of_nonneg (Int.le_of_lt i4) (show 0 ≤ dot r n - dot s n by omega)
        have := nonpos_of_mul (a := dot n n) (b := cross (minus r p) (minus s p)) (by omega) nn
        omega
      have btw : ∀ s ∈ l, 0 ≤ dot (minus s p) (minus r s) := fun s hs => (sd.2.2.2 s hs).2 (flat s hs)
      have U := norm_pos (Ne.symm sd.2.2.1)
      have only : ∀ v ∈ c :: rest, v = p ∨ v = r := by
        intro v hv
        have vS := R.sub v hv
        by_cases e1 : v = p
        · exact .inl e1
        · by_cases e2 : v = r
          · exact .inr e2
          · exfalso
            obtain ⟨p', hp', _, sd'⟩ := ring_pred R hv
            have pS' := R.sub p' hp'
            have par : ∀ s ∈ l, scaled (dot (minus r p) (minus r p)) (minus s p) = scaled (dot (minus s p) (minus r p)) (minus r p) := by
              intro s hs
              have f := flat s hs
              simp only [cross, minus] at f
              refine pt_ext ?_ ?_
              · simp only [scaled, dot, minus]; grind
              · simp only [scaled, dot, minus]; grind
            have col : ∀ s ∈ l, cross (minus v p') (minus s p') = 0 := by
              intro s hs
              have f1 := par v vS
              have f2 := par s hs
              have f3 := par p' pS'
              have UU := Int.mul_pos U U
              have : (dot (minus r p) (minus r p) * dot (minus r p) (minus r p)) * cross (minus v p') (minus s p') = 0 := by
                have g : (dot (minus r p) (minus r p) * dot (minus r p) (minus r p)) * cross (minus v p') (minus s p') =
                  cross (minus (scaled (dot (minus r p) (minus r p)) (minus v p)) (scaled (dot (minus r p) (minus r p)) (minus p' p)))
                    (minus (scaled (dot (minus r p) (minus r p)) (minus s p)) (scaled (dot (minus r p) (minus r p)) (minus p' p))) := by
                  generalize dot (minus r p) (minus r p) = w
                  simp only [cross, minus, scaled]; grind
                rw [g, f1, f2, f3]
                generalize dot (minus v p) (minus r p) = w1
                generalize dot (minus s p) (minus r p) = w2
                generalize dot (minus p' p) (minus r p) = w3
                simp only [cross, minus, scaled]; grind
              rcases Int.mul_eq_zero.1 this with z | z
              · omega
              · exact z
            have b1 := (sd'.2.2.2 p pS).2 (col p pS)
            have b2 := (sd'.2.2.2 r sd.2.1).2 (col r sd.2.1)
            -- positions along the line
            have kv : dot (minus v p) (minus r p) > 0 := by
              have b := btw v vS
              have := norm_pos e1
              have i : dot (minus v p) (minus r p) = dot (minus v p) (minus r v) + dot (minus v p) (minus v p) := by simp only [dot, minus]; grind
              omega
            have kv2 : dot (minus v p) (minus r p) < dot (minus r p) (minus r p) := by
              have b := btw v vS
              have := norm_pos (Ne.symm e2)
              have i : dot (minus r p) (minus r p) = dot (minus v p) (minus r p) + (dot (minus v p) (minus r v) + dot (minus r v) (minus r v)) := by simp only [dot, minus]; grind
              omega
            have f1 := par v vS
            have f3 := par p' pS'
            generalize hk : dot (minus v p) (minus r p) = kk at *
            generalize hj : dot (minus p' p) (minus r p) = jj at *
            generalize hU : dot (minus r p) (minus r p) = UU at *
            have UUp := Int.mul_pos U U
            have c1 : 0 ≤ (-jj) * kk * UU := by
              have g : (UU * UU) * dot (minus p p') (minus v p) = (-jj) * kk * UU := by
                have : (UU * UU) * dot (minus p p') (minus v p) = - dot (scaled UU (minus p' p)) (scaled UU (minus v p)) := by
                  simp only [dot, minus, scaled]; grind
                rw [this, f1, f3, ← hU]
                simp only [dot, minus, scaled]; grind
              have := Int.mul_nonneg (Int.le_of_lt UUp) b1
              omega
            have c2 : 0 ≤ (UU - jj) * (kk - UU) * UU := by
              have g : (UU * UU) * dot (minus r p') (minus v r) = (UU - jj) * (kk - UU) * UU := by
                have : (UU * UU) * dot (minus r p') (minus v r) =
                  dot (minus (scaled UU (minus r p)) (scaled UU (minus p' p))) (minus (scaled UU (minus v p)) (scaled UU (minus r p))) := by
                  simp only [dot, minus, scaled]; grind
                rw [this, f1, f3]
                have : (UU - jj) * (kk - UU) * UU = (UU - jj) * (kk - UU) * dot (minus r p) (minus r p) := by rw [hU]
                rw [this]
                simp only [dot, minus, scaled]; grind
              have := Int.mul_nonneg (Int.le_of_lt UUp) b2
              omega
            have c1' := nn_of_mul c1 U
            have c2' := nn_of_mul c2 U
            have j0 : 0 ≤ -jj := nn_of_mul c1' kv
            have : 0 < (UU - jj) * (UU - kk) := Int.mul_pos (by omega) (by omega)
            have : (UU - jj) * (kk - UU) = - ((UU - jj) * (UU - kk)) := by grind
            omega
      have uz : minus r p ≠ zero := by
        intro k
        have k1 := congrArg Pt.x k
        have k2 := congrArg Pt.y k
        simp only [zero, minus] at k1 k2
        exact sd.2.2.1 (pt_ext (by omega) (by omega))
      refine ⟨plain (minus r p), ?_, cross_plain uz (by rw [neg_cross]; omega), ?_⟩
      · rw [e]
        refine List.mem_append_right _ ?_
        rcases two_list R.nodup hp m1 sd.2.2.1 only with ⟨rfl, rfl⟩ | ⟨rfl, rfl⟩ <;> simp [lengthwise]
      · intro v hv
        refine dot_plain uz ?_
        have b := btw v (hull_sub hne v hv)
        have := norm_nn (minus r v)
        have i : dot r (minus r p) - dot v (minus r p) = dot (minus v p) (minus r v) + dot (minus r v) (minus r v) := by simp only [dot, minus]; grind
        omega
/-! ### The closest direction on the right -/
theorem closest (n : Pt) : ∀ (l : List Pt), (∃ m ∈ l, 0 < cross m n) → ∃ b ∈ l, 0 < cross b n ∧ ∀ m ∈ l, 0 < cross m n → 0 ≤ cross m b
  | [], h => by obtain ⟨m, hm, _⟩ := h; cases hm
  | a :: l, h => by
    by_cases ha : 0 < cross a n
    · by_cases hl : ∃ m ∈ l, 0 < cross m n
      · obtain ⟨b, hb, k, f⟩ := closest n l hl
        by_cases c : 0 ≤ cross a b
        · refine ⟨b, by simp [hb], k, ?_⟩
          intro m hm hmn
          rcases List.mem_cons.1 hm with rfl | hm
          · exact c
          · exact f m hm hmn
        · refine ⟨a, by simp, ha, ?_⟩
          intro m hm hmn
          rcases List.mem_cons.1 hm with rfl | hm
          · simp only [cross]; grind
          · have f1 := f m hm hmn
            have i : cross m a * cross b n = cross m b * cross a n + cross b a * cross m n := by simp only [cross]; grind
            have i2 := neg_cross b a
            have m1 := Int.mul_nonneg f1 (Int.le_of_lt ha)
            have m2 := Int.mul_nonneg (show 0 ≤ cross b a by omega) (Int.le_of_lt hmn)
            exact nn_of_mul (by omega) k
      · refine ⟨a, by simp, ha, ?_⟩
        intro m hm hmn
        rcases List.mem_cons.1 hm with rfl | hm
        · simp only [cross]; grind
        · exact absurd ⟨m, hm, hmn⟩ hl
    · obtain ⟨b, hb, k, f⟩ := closest n l (by
        obtain ⟨m, hm, k⟩ := h
        rcases List.mem_cons.1 hm with rfl | hm
        · exact absurd k ha
        · exact ⟨m, hm, k⟩)
      refine ⟨b, by simp [hb], k, ?_⟩
      intro m hm hmn
      rcases List.mem_cons.1 hm with rfl | hm
      · exact absurd hmn ha
      · exact f m hm hmn
theorem firsts_mem : ∀ (l : List Pt) (s : Pt), s ∈ firsts l ↔ s ∈ l
  | [], s => by simp [firsts]
  | p :: l, s => by
    simp only [firsts, List.mem_cons, List.mem_filter, decide_eq_true_eq, firsts_mem l s]
    by_cases h : s = p <;> simp [h]
theorem axes_right {n : Pt} (hn : n ≠ zero) : ∃ m ∈ AXES, 0 < cross m n := by
  simp only [AXES]
  by_cases h1 : 0 < n.y
  · exact ⟨⟨1, 0⟩, by simp, by simp [cross]; omega⟩
  · by_cases h2 : n.y < 0
    · exact ⟨⟨-1, 0⟩, by simp, by simp [cross]; omega⟩
    · by_cases h3 : 0 < n.x
      · exact ⟨⟨0, -1⟩, by simp, by simp [cross]; omega⟩
      · refine ⟨⟨0, 1⟩, by simp, ?_⟩
        have : n.x ≠ 0 := fun k => hn (pt_ext (by simpa [zero] using k) (by simp [zero]; omega))
        simp [cross]; omega
/-- A sum of so many times each. -/
def total (f : List Pt → Int) : List (Int × List Pt) → Int
  | [] => 0
  | x :: r => x.1 * f x.2 + total f r
theorem total_le {f g : List Pt → Int} : ∀ (ps : List (Int × List Pt)), (∀ x ∈ ps, 0 ≤ x.1) → (∀ x ∈ ps, f x.2 ≤ g x.2) → total f ps ≤ total g ps
  | [], _, _ => Int.le_refl _
  | x :: r, h, k => by
    have := total_le r (fun y hy => h y (by simp [hy])) (fun y hy => k y (by simp [hy]))
    have := Int.mul_le_mul_of_nonneg_left (k x (by simp)) (h x (by simp))
    simp only [total]
    omega
/-- The sum of right ends, as a place. -/
def sumPt (r : List Pt → Pt) : List (Int × List Pt) → Pt
  | [] => zero
  | x :: ps => plus (scaled x.1 (r x.2)) (sumPt r ps)
theorem sum_dot (r : List Pt → Pt) (n : Pt) : ∀ ps, dot (sumPt r ps) n = total (fun h => dot (r h) n) ps
  | [] => by simp [sumPt, dot, zero, total]
  | x :: ps => by
    have := sum_dot r n ps
    simp only [sumPt, total, ← this]
    simp only [dot, plus, scaled]; grind
theorem sum_cross (r : List Pt → Pt) (n : Pt) : ∀ ps, cross n (sumPt r ps) = total (fun h => cross n (r h)) ps
  | [] => by simp [sumPt, cross, zero, total]
  | x :: ps => by
    have := sum_cross r n ps
    simp only [sumPt, total, ← this]
    simp only [cross, plus, scaled]; grind
/-- **With right ends alone one does not come further to the left than the place**: where no direction asks for more than is had, and n for just so much. -/
theorem right_enough {hs : List (List Pt)} (hh : ∀ h ∈ hs, ∃ l, zero ∈ l ∧ h = hullOf l) {ps : List (Int × List Pt)} (hps : ∀ x ∈ ps, 0 ≤ x.1 ∧ x.2 ∈ hs)
    {n d : Pt} (hn : n ≠ zero) (all : ∀ m ∈ directions hs, dot m d ≤ total (fun h => support h m) ps) (just : dot n d = total (fun h => support h n) ps) :
    total (fun h => cross n (rightEnd n (face h n))) ps ≤ cross n d := by
  have dm : ∀ m, m ∈ directions hs ↔ (∃ h ∈ hs, m ∈ outward h ++ lengthwise h) ∨ m ∈ AXES := by
    intro m
    rw [directions, firsts_mem, List.mem_append, List.mem_flatMap]
  obtain ⟨b, hb, bn, cl⟩ := closest n (directions hs) (by
    obtain ⟨m, hm, k⟩ := axes_right hn
    exact ⟨m, (dm m).2 (.inr hm), k⟩)
  -- each right end lies furthest in b too
  have far : ∀ h ∈ hs, support h b ≤ dot (rightEnd n (face h n)) b := by
    intro h hmem
    obtain ⟨l, h0, rfl⟩ := hh h hmem
    obtain ⟨⟨v, hv, e⟩, _, _⟩ := support_is h0 b
    rw [← e]
    obtain ⟨m1, m2, m3⟩ := right_is h0 n
    rcases right_dir h0 hn with k | ⟨m, hm, mn, f⟩
    · rw [k] at hv
      simp only [List.mem_cons, List.not_mem_nil, or_false] at hv
      rw [← hv]
      exact Int.le_refl _
    · have c1 := cl m ((dm m).2 (.inl ⟨_, hmem, hm⟩)) mn
      have f1 := f v hv
      have hne : l ≠ [] := by rintro rfl; cases h0
      have f2 := (support_is h0 n).2.1 v (hull_sub hne v hv)
      generalize rightEnd n (face (hullOf l) n) = r at *
      have i : cross m n * (dot v b - dot r b) = cross b n * (dot v m - dot r m) + cross m b * (dot v n - dot r n) := by
        simp only [cross, dot]; grind
      have a1 := Int.mul_nonpos_of_nonneg_of_nonpos (Int.le_of_lt bn) (show dot v m - dot r m ≤ 0 by omega)
      have a2 := Int.mul_nonpos_of_nonneg_of_nonpos c1 (show dot v n - dot r n ≤ 0 by omega)
      have := nonpos_of_mul (a := cross m n) (b := dot v b - dot r b) (by omega) mn
      omega
  have tot1 := total_le (f := fun h => support h b) (g := fun h => dot (rightEnd n (face h n)) b) ps (fun x hx => (hps x hx).1) (fun x hx => far x.2 (hps x hx).2)
  have tot2 := total_le (f := fun h => support h n) (g := fun h => dot (rightEnd n (face h n)) n) ps (fun x hx => (hps x hx).1) (fun x hx => by
    obtain ⟨l, h0, e⟩ := hh x.2 (hps x hx).2
    have := (right_is h0 n).2.1
    simp only [e]
    omega)
  have tot3 := total_le (g := fun h => support h n) (f := fun h => dot (rightEnd n (face h n)) n) ps (fun x hx => (hps x hx).1) (fun x hx => by
    obtain ⟨l, h0, e⟩ := hh x.2 (hps x hx).2
    have := (right_is h0 n).2.1
    simp only [e]
    omega)
  have s1 := sum_dot (fun h => rightEnd n (face h n)) b ps
  have s2 := sum_dot (fun h => rightEnd n (face h n)) n ps
  have s3 := sum_cross (fun h => rightEnd n (face h n)) n ps
  have ab := all b hb
  rw [← s3]
  generalize sumPt (fun h => rightEnd n (face h n)) ps = R at *
  have c1 : dot b d = dot d b := by simp only [dot]; grind
  have c2 : dot n d = dot d n := by simp only [dot]; grind
  have e0 : dot d n - dot R n = 0 := by omega
  have e1 : dot d b - dot R b ≤ 0 := by omega
  have nn : 0 < dot n n := by
    have := norm_pos hn
    have e : minus n zero = n := by simp [minus, zero]
    rwa [e] at this
  have i : (cross n d - cross n R) * cross b n = dot n b * (dot d n - dot R n) - dot n n * (dot d b - dot R b) := by
    simp only [cross, dot]; grind
  rw [e0, Int.mul_zero, Int.zero_sub] at i
  have := Int.mul_nonpos_of_nonneg_of_nonpos (Int.le_of_lt nn) e1
  have := nn_of_mul (a := cross n d - cross n R) (b := cross b n) (by omega) bn
  omega
end Hu
set_option maxHeartbeats 2000000
namespace Sw
open PySem PySem.Spec PyProof.Rows L2
open Vbreac (Pt)
/-! ### Places in the heap -/
/-- A place stands at an address as a tuple of two numbers. -/
def PtA (K : PySem.W.Frag) (H : Hp) (a : Addr) (p : Pt) : Prop := SqT K H a [.int p.x, .int p.y]
def Small (n : Int) : Prop := -(2 ^ 64) < n ∧ n < 2 ^ 64
/-- Not too far out: its numbers may be taken from one another and multiplied. -/
def Mid (p : Pt) : Prop := (-(2 ^ 62) ≤ p.x ∧ p.x ≤ 2 ^ 62) ∧ (-(2 ^ 62) ≤ p.y ∧ p.y ≤ 2 ^ 62)
theorem same_upd {H : Hp} {p : Addr} {o : HO} (h : H p = none) : Same H (upd H p o) := fun b x e => by
  rw [upd_ne (ne_of_none e h)]
  exact e
theorem same_sqT {K : PySem.W.Frag} {H H' : Hp} {a : Addr} {xs : List V} (s : Same H H') (h : SqT K H a xs) : SqT K H' a xs := sqT_extN (fun b o e _ => s b o e) h
theorem same_pt {K : PySem.W.Frag} {H H' : Hp} {a : Addr} {p : Pt} (s : Same H H') (h : PtA K H a p) : PtA K H' a p := same_sqT s h
/-- Addresses with the places that stand there. -/
abbrev Row := List (Addr × Pt)
def refsV (rs : Row) : List V := rs.map fun r => V.ref r.1
def pts (rs : Row) : List Pt := rs.map (·.2)
def RowA (K : PySem.W.Frag) (H : Hp) (rs : Row) : Prop := ∀ r ∈ rs, PtA K H r.1 r.2 ∧ Mid r.2
theorem RowA.same {K : PySem.W.Frag} {H H' : Hp} {rs : Row} (s : Same H H') (h : RowA K H rs) : RowA K H' rs := fun r hr => ⟨same_pt s (h r hr).1, (h r hr).2⟩
theorem refsV_len (rs : Row) : (refsV rs).length = rs.length := List.length_map ..
theorem refsV_get {rs : Row} {i : Nat} {x : V} (h : (refsV rs)[i]? = some x) : ∃ r, rs[i]? = some r ∧ x = .ref r.1 := by
  unfold refsV at h
  rw [List.getElem?_map] at h
  cases e : rs[i]? with
  | none => rw [e] at h; cases h
  | some r => rw [e] at h; exact ⟨r, rfl, (Option.some.inj h).symm⟩
section
variable {P : Program} {w : World} {K : PySem.W.Frag} {mg : Str → Option Value} {base : Heap}
/-! ### cross, how_far, difference, bends_left -/
def spCross (K : PySem.W.Frag) : Sp := fun vs H Q _ => ∃ (a b : Addr) (p q : Pt), vs = [.ref a, .ref b] ∧ PtA K H a p ∧ PtA K H b q ∧ Small p.x ∧ Small p.y ∧ Q (.int (Vbreac.cross p q)) H
theorem ok_cross {f : Addr} {fd : FuncData} {k : Nat} (F : Fun K "cross" "cross" s_cross f fd) : FnOk P w K mg base CX0 (k + 1) f fd ["p", "q"] (spCross K) := by
  refine F.ok sc_cross (fun vs H Q E h => ?_) (fun cdv A outer s H vs Q E hr h => ?_)
  · obtain ⟨a, b, p, q, rfl, _⟩ := h
    rfl
  · obtain ⟨a, b, p, q, rfl, ha, hb, s1, s2, k⟩ := h
    refine ⟨_, pss_one (ps_ret (pe_op op_sub (pe_op op_mul (pe_ix ix_tup (pv 0) pe_int (fun _ _ => rfl)) (pe_ix ix_tup (pv 1) pe_int (fun _ _ => rfl)))
      (pe_op op_mul (pe_ix ix_tup (pv 0) pe_int (fun _ _ => rfl)) (pe_ix ix_tup (pv 1) pe_int (fun _ _ => rfl))))), ?_⟩
    exact ⟨_, rfl, a, _, _, _, rfl, rfl, ha, atI_nat (j := 0) rfl, _, rfl, b, _, _, _, rfl, rfl, hb, atI_nat (j := 1) rfl, _, _, rfl, rfl, .inl s1,
      _, rfl, a, _, _, _, rfl, rfl, ha, atI_nat (j := 1) rfl, _, rfl, b, _, _, _, rfl, rfl, hb, atI_nat (j := 0) rfl, _, _, rfl, rfl, .inl s2, _, _, rfl, rfl, k⟩
def spFar (K : PySem.W.Frag) : Sp := fun vs H Q _ => ∃ (a b : Addr) (p q : Pt), vs = [.ref a, .ref b] ∧ PtA K H a p ∧ PtA K H b q ∧ Small p.x ∧ Small p.y ∧ Q (.int (Vbreac.dot q p)) H
theorem dot_comm (p q : Pt) : p.x * q.x + p.y * q.y = Vbreac.dot q p := by
  show _ = q.x * p.x + q.y * p.y
  rw [Int.mul_comm p.x, Int.mul_comm p.y]
theorem ok_far {f : Addr} {fd : FuncData} {k : Nat} (F : Fun K "how_far" "how_far" s_how_far f fd) : FnOk P w K mg base CX0 (k + 1) f fd ["direction", "velocity"] (spFar K) := by
  refine F.ok sc_how_far (fun vs H Q E h => ?_) (fun cdv A outer s H vs Q E hr h => ?_)
  · obtain ⟨a, b, p, q, rfl, _⟩ := h
    rfl
  · obtain ⟨a, b, p, q, rfl, ha, hb, s1, s2, k⟩ := h
    refine ⟨_, pss_one (ps_ret (pe_op op_add (pe_op op_mul (pe_ix ix_tup (pv 0) pe_int (fun _ _ => rfl)) (pe_ix ix_tup (pv 1) pe_int (fun _ _ => rfl)))
      (pe_op op_mul (pe_ix ix_tup (pv 0) pe_int (fun _ _ => rfl)) (pe_ix ix_tup (pv 1) pe_int (fun _ _ => rfl))))), ?_⟩
    refine ⟨_, rfl, a, _, _, _, rfl, rfl, ha, atI_nat (j := 0) rfl, _, rfl, b, _, _, _, rfl, rfl, hb, atI_nat (j := 0) rfl, _, _, rfl, rfl, .inl s1,
      _, rfl, a, _, _, _, rfl, rfl, ha, atI_nat (j := 1) rfl, _, rfl, b, _, _, _, rfl, rfl, hb, atI_nat (j := 1) rfl, _, _, rfl, rfl, .inl s2, _, _, rfl, rfl, ?_⟩
    show Q (.int (p.x * q.x + p.y * q.y)) H
    rw [dot_comm]
    exact k
def spDiff (K : PySem.W.Frag) : Sp := fun vs H Q _ => ∃ (a b : Addr) (p q : Pt), vs = [.ref a, .ref b] ∧ PtA K H a p ∧ PtA K H b q ∧
  ∀ t, H t = none → Q (.ref t) (upd H t (.tup [.int (Vbreac.minus q p).x, .int (Vbreac.minus q p).y]))
theorem ok_diff {f : Addr} {fd : FuncData} {k : Nat} (F : Fun K "difference" "difference" s_difference f fd) : FnOk P w K mg base CX0 (k + 1) f fd ["p", "q"] (spDiff K) := by
  refine F.ok sc_difference (fun vs H Q E h => ?_) (fun cdv A outer s H vs Q E hr h => ?_)
  · obtain ⟨a, b, p, q, rfl, _⟩ := h
    rfl
  · obtain ⟨a, b, p, q, rfl, ha, hb, k⟩ := h
    refine ⟨_, pss_one (ps_ret (pe_tup (pa_cons (pe_op op_sub (pe_ix ix_tup (pv 1) pe_int (fun _ _ => rfl)) (pe_ix ix_tup (pv 0) pe_int (fun _ _ => rfl)))
      (pa_cons (pe_op op_sub (pe_ix ix_tup (pv 1) pe_int (fun _ _ => rfl)) (pe_ix ix_tup (pv 0) pe_int (fun _ _ => rfl))) pa_nil)))), ?_⟩
    exact ⟨_, rfl, b, _, _, _, rfl, rfl, hb, atI_nat (j := 0) rfl, _, rfl, a, _, _, _, rfl, rfl, ha, atI_nat (j := 0) rfl, _, _, rfl, rfl,
      _, rfl, b, _, _, _, rfl, rfl, hb, atI_nat (j := 1) rfl, _, rfl, a, _, _, _, rfl, rfl, ha, atI_nat (j := 1) rfl, _, _, rfl, rfl, (by show 2 ≤ sizeLine; decide), k⟩
def spBends (K : PySem.W.Frag) : Sp := fun vs H Q _ => ∃ (a b c : Addr) (p q r : Pt), vs = [.ref a, .ref b, .ref c] ∧ PtA K H a p ∧ PtA K H b q ∧ PtA K H c r ∧ Mid p ∧ Mid q ∧
  ∀ H', Same H H' → Q (.bl (decide (Vbreac.cross (Vbreac.minus q p) (Vbreac.minus r q) > 0))) H'
theorem ok_bends {f fC fD : Addr} {fd fdC fdD : FuncData} {k : Nat} (F : Fun K "bends_left" "bends_left" s_bends_left f fd) (FC : Fun K "cross" "cross" s_cross fC fdC) (bC : Binds K fdC ["p", "q"] []) (gC : mg "cross" = some (.ref fC))
    (FD : Fun K "difference" "difference" s_difference fD fdD) (bD : Binds K fdD ["p", "q"] []) (gD : mg "difference" = some (.ref fD)) : FnOk P w K mg base CX0 (k + 2) f fd ["p", "q", "r"] (spBends K) := by
  have GC : FnOk P w K mg base CX0 (k + 1) fC fdC ["p", "q"] (spCross K) := ok_cross FC
  have GD : FnOk P w K mg base CX0 (k + 1) fD fdD ["p", "q"] (spDiff K) := ok_diff FD
  refine F.ok sc_bends_left (fun vs H Q E h => ?_) (fun cdv A outer s H vs Q E hr h => ?_)
  · obtain ⟨a, b, c, p, q, r, rfl, _⟩ := h
    rfl
  · obtain ⟨a, b, c, p, q, r, rfl, ha, hb, hc, mp, mq, k⟩ := h
    refine ⟨_, pss_one (ps_ret (pe_cmpR op_gt (pe_call GC hr rfl gC FC.kp bC .nil pass0 (pa_cons (pe_call GD hr rfl gD FD.kp bD .nil pass0 (pa_cons (pv 0) (pa_cons (pv 1) pa_nil)))
      (pa_cons (pe_call GD hr rfl gD FD.kp bD .nil pass0 (pa_cons (pv 1) (pa_cons (pv 2) pa_nil))) pa_nil))) pe_int (nomark _))), ?_⟩
    refine ⟨_, rfl, _, rfl, a, b, p, q, rfl, ha, hb, fun t nt => ?_⟩
    have s1 := same_upd (o := .tup [.int (Vbreac.minus q p).x, .int (Vbreac.minus q p).y]) nt
    refine ⟨_, rfl, _, rfl, b, c, q, r, rfl, same_pt s1 hb, same_pt s1 hc, fun u nu => ?_⟩
    have s2 := same_upd (o := .tup [.int (Vbreac.minus r q).x, .int (Vbreac.minus r q).y]) nu
    refine ⟨t, u, Vbreac.minus q p, Vbreac.minus r q, rfl, same_sqT s2 (SqT.of upd_same), SqT.of upd_same, ?_, ?_, _, _, rfl, rfl, k _ (s1.trans s2)⟩
    · simp only [Small, Vbreac.minus, Mid] at *; omega
    · simp only [Small, Vbreac.minus, Mid] at *; omega
/-! ### left_chain -/
def popA (x : Pt) : Row → Row
  | a :: b :: r => if 0 < Vbreac.cross (Vbreac.minus a.2 b.2) (Vbreac.minus x a.2) then a :: b :: r else popA x (b :: r)
  | l => l
theorem popA_pts (x : Pt) : ∀ l : Row, pts (popA x l) = Hu.popW x (pts l)
  | [] => rfl
  | [_] => rfl
  | a :: b :: r => by
    have ih := popA_pts x (b :: r)
    show pts (if _ then _ else _) = if _ then _ else _
    by_cases h : 0 < Vbreac.cross (Vbreac.minus a.2 b.2) (Vbreac.minus x a.2)
    · rw [if_pos h, if_pos h]
      rfl
    · rw [if_neg h, if_neg h]
      exact ih
theorem popA_sub (x : Pt) : ∀ (l : Row), ∀ r ∈ popA x l, r ∈ l
  | [], r, h => h
  | [_], r, h => h
  | a :: b :: l, r, h => by
    have h : r ∈ if 0 < Vbreac.cross (Vbreac.minus a.2 b.2) (Vbreac.minus x a.2) then a :: b :: l else popA x (b :: l) := h
    by_cases c : 0 < Vbreac.cross (Vbreac.minus a.2 b.2) (Vbreac.minus x a.2)
    · rw [if_pos c] at h
      exact h
    · rw [if_neg c] at h
      exact List.mem_cons_of_mem _ (popA_sub x (b :: l) r h)
theorem popA_len (x : Pt) : ∀ (l : Row), (popA x l).length ≤ l.length
  | [] => Nat.le_refl _
  | [_] => Nat.le_refl _
  | a :: b :: l => by
    show (if _ then _ else _ : Row).length ≤ _
    split
    · exact Nat.le_refl _
    · exact Nat.le_trans (popA_len x (b :: l)) (Nat.le_succ _)
def chainA (k rs : Row) : Row := rs.foldl (fun k x => x :: popA x.2 k) k
theorem chainA_pts : ∀ (rs k : Row), pts (chainA k rs) = Hu.chain (pts k) (pts rs)
  | [], _ => rfl
  | x :: rs, k => by
    have ih := chainA_pts rs (x :: popA x.2 k)
    show pts (chainA (x :: popA x.2 k) rs) = Hu.chain (x.2 :: Hu.popW x.2 (pts k)) (pts rs)
    rw [ih, ← popA_pts]
    rfl
theorem chainA_sub : ∀ (rs k : Row), ∀ r ∈ chainA k rs, r ∈ k ∨ r ∈ rs
  | [], _, r, h => .inl h
  | x :: rs, k, r, h => by
    rcases chainA_sub rs (x :: popA x.2 k) r h with z | z
    · rcases List.mem_cons.1 z with z | z
      · exact .inr (by rw [z]; simp)
      · exact .inl (popA_sub _ _ _ z)
    · exact .inr (by simp [z])
theorem chainA_len : ∀ (rs k : Row), (chainA k rs).length ≤ k.length + rs.length
  | [], _ => Nat.le_refl _
  | x :: rs, k => by
    have := chainA_len rs (x :: popA x.2 k)
    have := popA_len x.2 k
    show (chainA (x :: popA x.2 k) rs).length ≤ _
    simp only [List.length_cons] at *
    omega
theorem chainA_snoc (rs k : Row) (x : Addr × Pt) : chainA k (rs ++ [x]) = x :: popA x.2 (chainA k rs) := by
  unfold chainA
  rw [List.foldl_append]
  rfl
theorem take_snoc {α : Type} {l : List α} {i : Nat} {x : α} (h : l[i]? = some x) : l.take (i + 1) = l.take i ++ [x] := by
  rw [List.take_succ, h]
  rfl
theorem atI_one (xs : List V) (y z : V) : atI (xs ++ [y, z]) (-1) = some z := by
  have : xs ++ [y, z] = (xs ++ [y]) ++ [z] := by simp
  rw [this]
  exact atI_last _ _
theorem atI_two (xs : List V) (y z : V) : atI (xs ++ [y, z]) (-2) = some y := by
  unfold atI ixN
  rw [if_neg (by decide), if_pos (by simp; omega)]
  have e : ((-2 : Int) + ((xs ++ [y, z]).length : Nat)).toNat = xs.length := by simp; omega
  show (xs ++ [y, z])[((-2 : Int) + ((xs ++ [y, z]).length : Nat)).toNat]? = some y
  rw [e]
  simp
def lenAt (H : Hp) (a : Addr) : Nat := match H a with
  | some (.lst xs) => xs.length
  | _ => 0
theorem lenAt_is {H : Hp} {a : Addr} {xs : List V} (h : H a = some (.lst xs)) : lenAt H a = xs.length := by
  unfold lenAt
  rw [h]
def spChain (K : PySem.W.Frag) : Sp := fun vs H Q _ => ∃ (a : Addr) (rs : Row), vs = [.ref a] ∧ SqL K H a (refsV rs) ∧ RowA K H rs ∧ rs.length < 1000000 ∧
  ∀ H' q, Same H H' → H q = none → H' q = some (.lst (refsV (chainA [] rs).reverse)) → Q (.ref q) H'
theorem ok_chain {f fB : Addr} {fd fdB : FuncData} {k : Nat} (F : Fun K "left_chain" "left_chain" s_left_chain f fd) (FB : Fun K "bends_left" "bends_left" s_bends_left fB fdB) (bB : Binds K fdB ["p", "q", "r"] []) (gB : mg "bends_left" = some (.ref fB))
    (ml : mg "len" = none) (GB : FnOk P w K mg base CX0 (k + 2) fB fdB ["p", "q", "r"] (spBends K)) : FnOk P w K mg base CX0 (k + 3) f fd ["points"] (spChain K) := by
  refine F.ok sc_left_chain (fun vs H Q E h => ?_) (fun cdv A outer s H vs Q E hr h => ?_)
  · obtain ⟨a, rs, rfl, _⟩ := h
    rfl
  · obtain ⟨a, rs, rfl, hS, hR, hlen, k⟩ := h
    refine ⟨_, pss_cons (ps_set (i := 1) sc_left_chain.nd rfl (.inl rfl) (pe_lst pa_nil))
      (pss_cons (ps_for PassesOwn.never rfl (pi_list (pv 0)) (pg_name (i := 2) sc_left_chain.nd rfl (.inl rfl))
        (pss_cons (ps_while PassesOwn.never (PW.pt (pw_and (pt_cmpR op_gt (pe_callB call_len_seq (by rfl) ml PySem.boot_len (pa_cons (pv 1) pa_nil)) pe_int (nomark _))
            (pw_and1 (pt_not (pt_val (pe_call GB hr rfl gB FB.kp bB .nil pass0 (pa_cons (pe_ix ix_list (pv 1) (pe_un un_neg pe_int) (fun _ _ => rfl)) (pa_cons (pe_ix ix_list (pv 1) (pe_un un_neg pe_int) (fun _ _ => rfl)) (pa_cons (pv 2) pa_nil)))))))))
          (pss_one (ps_expr (pe_bm0 PySem.F.plainAttrs_list PySem.F.slot_list_pop PySem.F.type_list_pop mt_pop (pv 1)))))
        (pss_one (ps_expr (pe_bm PySem.F.plainAttrs_list PySem.F.slot_list_append PySem.F.type_list_append mt_append (pv 1) (pa_cons (pv 2) pa_nil))))))
      (pss_one (ps_ret (pv 1)))), ?_⟩
    refine ⟨Nat.zero_le _, fun o no => ?_⟩
    have s1 : Same H (upd H o (.lst [])) := same_upd no
    refine ⟨_, rfl, a, rfl, ⟨_, s1.seq hS⟩, for_list (K := K) (a := a) (xs := refsV rs) (fun i σ H' => ∃ v, σ = [some (.ref a), some (.ref o), v] ∧ Same H H' ∧ H' o = some (.lst (refsV (chainA [] (rs.take i)).reverse)))
      ⟨none, rfl, s1, upd_same⟩ (fun i σ H' _ ⟨_, _, s5, _⟩ => s5.seq hS) ?_ ?_⟩
    · rintro i x σ H' hi ⟨v, rfl, sm, ho⟩
      obtain ⟨r, hr', rfl⟩ := refsV_get hi
      refine while_by (fun σ H' => ∃ l : Row, σ = [some (.ref a), some (.ref o), some (.ref r.1)] ∧ Same H H' ∧ H' o = some (.lst (refsV l.reverse)) ∧ popA r.2 l = popA r.2 (chainA [] (rs.take i)) ∧ (∀ q ∈ l, q ∈ rs) ∧ l.length ≤ i)
        (fun _ H' => lenAt H' o) ⟨_, rfl, sm, ho, rfl, ?_, ?_⟩ ?_ ?_
      · intro q hq
        rcases chainA_sub _ _ q hq with z | z
        · cases z
        · exact List.mem_of_mem_take z
      · have := chainA_len (rs.take i) []
        simp only [List.length_nil, Nat.zero_add, List.length_take] at this
        omega
      · rintro σ H2 ⟨l, rfl, sm2, ho2, hp, hsub, hl⟩
        have fin : ∀ (H1 : Hp), Same H H1 → H1 o = some (.lst (refsV l.reverse)) → popA r.2 l = l → (∃ v, [some (V.ref a), some (V.ref o), some (V.ref r.1)] = [some (V.ref a), some (V.ref o), v] ∧ Same H (upd H1 o (.lst (refsV l.reverse ++ [.ref r.1]))) ∧
            upd H1 o (.lst (refsV l.reverse ++ [.ref r.1])) o = some (.lst (refsV (chainA [] (rs.take (i + 1))).reverse))) := fun H1 sm3 ho3 e => by
          refine ⟨_, rfl, fun b u q => by rw [upd_ne (ne_of_none q no)]; exact sm3 b u q, ?_⟩
          rw [upd_same, take_snoc hr', chainA_snoc, ← hp, e]
          simp [refsV]
        have hz : ∀ (l : Row), l.length ≤ i → (refsV l.reverse).length < sizeLine := fun l h => by
          rw [refsV_len, List.length_reverse, sizeLine_eq]
          have := (List.getElem?_eq_some_iff.mp hr').1
          omega
        refine ⟨_, rfl, o, _, rfl, .inl (SqL.of ho2), _, _, rfl, rfl, _, rfl, ite2 (fun e => ?_) (fun e => ?_)⟩
        · obtain ⟨p, q, l, rfl⟩ : ∃ p q l', l = p :: q :: l' := by
            match l, e with
            | [], e => simp [refsV] at e
            | [_], e => simp [refsV] at e
            | p :: q :: l, _ => exact ⟨p, q, l, rfl⟩
          have hrev : refsV (p :: q :: l).reverse = refsV l.reverse ++ [.ref q.1, .ref p.1] := by simp [refsV]
          rw [hrev] at ho2
          have hp' := hR p (hsub p (by simp))
          have hq' := hR q (hsub q (by simp))
          have hr2 := hR r (List.mem_of_getElem? hr')
          refine ⟨_, rfl, _, rfl, o, _, _, _, rfl, rfl, SqL.of ho2, atI_two _ _ _, _, rfl, _, rfl, o, _, _, _, rfl, rfl, SqL.of ho2, atI_one _ _ _, _, rfl, q.1, p.1, r.1, q.2, p.2, r.2, rfl, same_pt sm2 hq'.1, same_pt sm2 hp'.1, same_pt sm2 hr2.1, hq'.2, hp'.2, fun H3 sm3 => ?_⟩
          have ho3 := sm3 o _ ho2
          refine ⟨_, rfl, ite2 (fun c => ?_) (fun c => ?_)⟩
          · have c' : ¬ 0 < Vbreac.cross (Vbreac.minus p.2 q.2) (Vbreac.minus r.2 p.2) := by
              simp only [Bool.not_eq_true', decide_eq_false_iff_not] at c
              exact c
            refine ⟨_, rfl, .inl ⟨rfl, _, SqL.of ho3⟩, o, _, .ref p.1, rfl, rfl, ho3, by simp, ⟨q :: l, rfl, ?_, ?_, ?_, fun z hz => hsub z (List.mem_cons_of_mem _ hz), Nat.le_of_succ_le hl⟩, ?_⟩
            · intro b u e'
              rw [upd_ne (ne_of_none e' no)]
              exact sm3 b u (sm2 b u e')
            · rw [upd_same]
              congr 2
              simp [refsV, List.dropLast_append_cons]
            · rw [← hp]
              show _ = if _ then _ else _
              rw [if_neg c']
            · rw [lenAt_is upd_same, lenAt_is ho2]
              simp
          · have c' : 0 < Vbreac.cross (Vbreac.minus p.2 q.2) (Vbreac.minus r.2 p.2) := by
              simp only [Bool.not_eq_true', decide_eq_false_iff_not] at c
              exact Decidable.not_not.mp c
            rw [← hrev] at ho3
            exact ⟨_, rfl, .inl ⟨rfl, _, SqL.of ho3⟩, _, rfl, o, _, _, rfl, rfl, ho3, hz _ hl, fin H3 (sm2.trans sm3) ho3 (by show (if _ then _ else _) = _; rw [if_pos c'])⟩
        · have e' : popA r.2 l = l := by
            match l, e with
            | [], _ => rfl
            | [_], _ => rfl
            | p :: q :: l, e => exact absurd (by simp [refsV]; omega) e
          exact ⟨_, rfl, .inl ⟨rfl, _, SqL.of ho2⟩, _, rfl, o, _, _, rfl, rfl, ho2, hz _ hl, fin H2 sm2 ho2 e'⟩
      · intro σ H Q Q' hQ hc
        obtain ⟨v, e1, o', ys, e2, e3, i', j', e4, e5, kk, e6, hc⟩ := hc
        refine ⟨v, e1, o', ys, e2, e3, i', j', e4, e5, kk, e6, ?_⟩
        split at hc
        · rename_i hk
          rw [if_pos hk]
          obtain ⟨v1, f1, _, f2, a1, a2, a3, a4, f3, f4, f5, f6, v2, f7, _, f8, b1, b2, b3, b4, f9, f10, f11, f12, v3, f13, c1, c2, c3, c4, c5, c6, f14, g1, g2, g3, g4, g5, hc⟩ := hc
          refine ⟨v1, f1, _, f2, a1, a2, a3, a4, f3, f4, f5, f6, v2, f7, _, f8, b1, b2, b3, b4, f9, f10, f11, f12, v3, f13, c1, c2, c3, c4, c5, c6, f14, g1, g2, g3, g4, g5, fun H3 sm3 => ?_⟩
          obtain ⟨c, h1, h2⟩ := hc H3 sm3
          exact ⟨c, h1, hQ _ _ h2⟩
        · rename_i hk
          rw [if_neg hk]
          exact hQ _ _ hc
    · rintro σ H' ⟨v, rfl, sm, ho⟩
      rw [refsV_len, List.take_length] at ho
      exact ⟨_, rfl, k H' o sm no ho⟩
end
end Sw
set_option maxHeartbeats 2000000
namespace Sw
open PySem PySem.W PySem.Spec PyProof.Rows L2
open Vbreac (Pt)
/-! ### sorted(set(..)) of pairs of any numbers -/
def keyP (r : Addr × Pt) : Addr × List Int := (r.1, [r.2.x, r.2.y])
def lexLe (p q : Pt) : Prop := p.x < q.x ∨ (p.x = q.x ∧ p.y ≤ q.y)
def encP (r : Addr × Pt) : PyData := .tuple [.int r.2.x, .int r.2.y]
theorem pts_nodup {rs : Row} (h : ((rs.map keyP).map (·.2)).Nodup) : (pts rs).Nodup := by
  unfold pts
  rw [List.map_map, List.Nodup, List.pairwise_map] at h
  rw [List.Nodup, List.pairwise_map]
  exact h.imp (fun hne e => hne (by show [_, _] = [_, _]; rw [e]))
section
variable {P : Program} {w : World} {A : Around} {E : Value → Shared → Prop} {s : Shared}
theorem readsP {h : Heap} {r : Addr × Pt} (x : IsT P w h (keyP r).2 r.1) : Reads h (.ref r.1) (encP r) [] := by
  obtain ⟨b, items, e, ⟨o, ho, hc, n, hd⟩, hi⟩ := tupInts_of x
  cases e
  have hz : ∀ {vs : List Value}, IntsAre vs [r.2.x, r.2.y] → ReadsAll h vs [.int r.2.x, .int r.2.y] ([] ++ ([] ++ [])) := fun {vs} q => by
    cases q with
    | cons _ _ q =>
      cases q with
      | cons _ _ q =>
        cases q
        exact .cons (.int _ _) (.cons (.int _ _) .nil)
  exact .tuple ho hc hd (hz hi)
theorem each_refs : ∀ (rs : Row), EachIs (fun (v : Value) (b : Addr × Pt) => v = Value.ref b.1) (rs.map fun r => Value.ref r.1) rs
  | [] => .nil
  | r :: rs => .cons rfl (each_refs rs)
theorem refs_each : ∀ {vs : List Value} {rs : Row}, EachIs (fun (v : Value) (b : Addr × Pt) => v = Value.ref b.1) vs rs → vs = rs.map fun r => Value.ref r.1
  | _, _, .nil => rfl
  | _, _, .cons h t => by rw [h, refs_each t]; rfl
theorem each_all {R : Value → (Addr × Pt) → Prop} : ∀ (rs : Row), (∀ r ∈ rs, R (.ref r.1) r) → EachIs R (rs.map fun r => Value.ref r.1) rs
  | [], _ => .nil
  | r :: rs, h => .cons (h r (by simp)) (each_all rs fun q hq => h q (by simp [hq]))
theorem alikeP (rs : Row) : AllAlike (rs.map encP) := AllAlike.of fun b b' => by simp [encP, alike, alikeAll]
theorem sortP (rs : Row) : (rs.mergeSort (dataLe false encP)).Pairwise (fun p q => lexLe p.2 q.2) := by
  have e : dataLe false encP = fun p q => decide (p.2.x < q.2.x ∨ (p.2.x = q.2.x ∧ p.2.y ≤ q.2.y)) := dataLe_ii (fun r : Addr × Pt => r.2.x) (fun r => r.2.y)
  rw [e]
  have := List.pairwise_mergeSort (le := fun p q : Addr × Pt => decide (p.2.x < q.2.x ∨ (p.2.x = q.2.x ∧ p.2.y ≤ q.2.y))) (fun a b c h1 h2 => by simp only [decide_eq_true_eq] at *; omega)
    (fun a b => by
      simp only [Bool.or_eq_true, decide_eq_true_eq]
      omega) rs
  exact this.imp (fun h => by simpa [lexLe] using h)
/-- Values that are the refs of a row in some order: the row in that order. -/
theorem perm_back {α β : Type} (f : α → β) {l₁ l₂ : List β} (h : l₁.Perm l₂) : ∀ l : List α, l₂ = l.map f → ∃ l' : List α, l'.Perm l ∧ l₁ = l'.map f := by
  induction h with
  | nil => intro l e; exact ⟨l, .refl _, e⟩
  | @cons x a b _ ih =>
    intro l e
    cases l with
    | nil => cases e
    | cons y l =>
      simp only [List.map_cons, List.cons.injEq] at e
      obtain ⟨l', p, e'⟩ := ih l e.2
      exact ⟨y :: l', p.cons _, by rw [List.map_cons, e', e.1]⟩
  | swap x y l0 =>
    intro l e
    match l, e with
    | u :: v :: l, e =>
      simp only [List.map_cons, List.cons.injEq] at e
      exact ⟨v :: u :: l, .swap _ _ _, by simp [e.1, e.2.1, e.2.2]⟩
  | trans _ _ ih1 ih2 =>
    intro l e
    obtain ⟨l2, p2, e2⟩ := ih2 l e
    obtain ⟨l1, p1, e1⟩ := ih1 l2 e2
    exact ⟨l1, p1.trans p2, e1⟩
theorem row_of {rs : Row} {vs : List Value} (h : vs.Perm (rs.map fun r => Value.ref r.1)) : ∃ ks : Row, ks.Perm rs ∧ vs = ks.map fun r => Value.ref r.1 := perm_back _ h rs rfl
end
theorem vals_row : ∀ (ks : Row), Vals (refsV ks) (ks.map fun r => Value.ref r.1)
  | [] => .nil
  | _ :: ks => .cons rfl (vals_row ks)
end Sw
set_option maxHeartbeats 2000000
namespace Sw
open PySem PySem.Spec PyProof.Rows L2
open Vbreac (Pt)
section
variable {P : Program} {w : World} {K : PySem.W.Frag} {mg : Str → Option Value} {base : Heap}
theorem rd_updL {H : Hp} {D b : Addr} {ys xs : List V} {o : HO} (hD : H D = some (.lst ys)) (r : Rd H b (.tup xs)) : Rd (upd H D o) b (.tup xs) := by
  rcases r with r | ⟨z, r⟩
  · exact .inl (by rw [upd_ne (ne_of r hD (by intro q; cases q))]; exact r)
  · exact .inr ⟨z, by rw [upd_ne (ne_of r hD (by intro q; cases q))]; exact r⟩
/-- A tuple stands as it was where a list is written. -/
theorem sqT_updL {H : Hp} {D b : Addr} {ys xs : List V} {o : HO} (hD : H D = some (.lst ys)) (r : SqT K H b xs) : SqT K (upd H D o) b xs := by
  rcases r with r | r
  · exact .inl (rd_updL hD r)
  · exact .inr r
theorem RowA.updL {H : Hp} {D : Addr} {ys : List V} {rs : Row} {o : HO} (hD : H D = some (.lst ys)) (h : RowA K H rs) : RowA K (upd H D o) rs := fun r hr => ⟨sqT_updL hD (h r hr).1, (h r hr).2⟩
theorem RowA.snoc {H : Hp} {rs : Row} {u : Addr} {p : Pt} (h : RowA K H rs) (hu : PtA K H u p) (hm : Mid p) : RowA K H (rs ++ [(u, p)]) := fun r hr => by
  rcases List.mem_append.1 hr with z | z
  · exact h r z
  · simp only [List.mem_cons, List.not_mem_nil, or_false] at z
    rw [z]
    exact ⟨hu, hm⟩
/-- What was there before a list was made stands when it grows. -/
theorem same_grow {H0 H' : Hp} {D : Addr} {o : HO} (nD : H0 D = none) (s : Same H0 H') : Same H0 (upd H' D o) := fun b x e => by
  rw [upd_ne (fun z => by rw [z, nD] at e; cases e)]
  exact s b x e
theorem pts_len (rs : Row) : (pts rs).length = rs.length := List.length_map ..
theorem pts_get {rs : Row} {i : Nat} {r : Addr × Pt} (h : rs[i]? = some r) : (pts rs)[i]? = some r.2 := by
  unfold pts
  rw [List.getElem?_map, h]
  rfl
theorem pts_snoc (rs : Row) (u : Addr) (p : Pt) : pts (rs ++ [(u, p)]) = pts rs ++ [p] := by simp [pts]
theorem refsV_snoc (rs : Row) (u : Addr) (p : Pt) : refsV (rs ++ [(u, p)]) = refsV rs ++ [.ref u] := by simp [refsV]
/-! ### hull_corners -/
def flip (p : Pt) : Pt := ⟨p.y, p.x⟩
theorem flip_mid {p : Pt} (h : Mid p) : Mid (flip p) := ⟨h.2, h.1⟩
theorem flip_flip (p : Pt) : flip (flip p) = p := rfl
def unkey (p : Addr × List Int) : Addr × Pt := (p.1, ⟨p.2.getD 0 0, p.2.getD 1 0⟩)
theorem unkey_key (r : Addr × Pt) : unkey (keyP r) = r := rfl
theorem key_unkey {L : List (Addr × List Int)} {T : Row} (h : ∀ p ∈ L, p ∈ T.map keyP) : (L.map unkey).map keyP = L := by
  rw [List.map_map]
  conv => rhs; rw [← List.map_id L]
  refine List.map_congr_left fun p hp => ?_
  obtain ⟨r, _, rfl⟩ := List.mem_map.mp (h p hp)
  rfl
theorem lt_of_lex {p q : Pt} (h : lexLe (flip p) (flip q)) (ne : p ≠ q) : Hu.lt p q := by
  simp only [lexLe, flip, Hu.lt] at *
  rcases h with h | ⟨h1, h2⟩
  · exact .inl h
  · refine .inr ⟨h1, ?_⟩
    rcases Int.lt_or_eq_of_le h2 with z | z
    · exact z
    · exact absurd (Hu.pt_ext z h1) ne
theorem sorted_flip {ks : Row} (nd : (pts ks).Nodup) (pw : ks.Pairwise (fun p q => lexLe p.2 q.2)) : ((pts ks).map flip).Pairwise Hu.lt := by
  have h1 : (pts ks).Pairwise lexLe := by
    unfold pts
    rw [List.pairwise_map]
    exact pw
  rw [List.pairwise_map]
  refine (h1.and nd).imp fun {p q} h => lt_of_lex (p := flip p) (q := flip q) h.1 (fun e => h.2 ?_)
  have := congrArg flip e
  rwa [flip_flip, flip_flip] at this
theorem cut_last (xs : List V) : cutV xs none (some (-1)) = xs.dropLast := by
  unfold cutV
  rw [HT.sIx_none, List.drop_zero, Nat.sub_zero]
  have e : HT.sIx xs.length xs.length (some (-1)) = xs.length - 1 := by
    show (if (-1 : Int) < 0 then ((-1 : Int) + (xs.length : Int)).toNat else min (-1 : Int).toNat xs.length) = _
    rw [if_pos (by decide)]
    omega
  rw [e, List.dropLast_eq_take]
theorem refsV_dropLast (rs : Row) : (refsV rs).dropLast = refsV rs.dropLast := by
  unfold refsV
  rw [List.map_dropLast]
theorem pts_dropLast (rs : Row) : (pts rs).dropLast = pts rs.dropLast := by
  unfold pts
  rw [List.map_dropLast]
theorem refsV_app (rs ks : Row) : refsV rs ++ refsV ks = refsV (rs ++ ks) := by simp [refsV]
theorem pts_app (rs ks : Row) : pts rs ++ pts ks = pts (rs ++ ks) := by simp [pts]
theorem pts_rev (rs : Row) : (pts rs).reverse = pts rs.reverse := by simp [pts]
end
end Sw
set_option maxHeartbeats 2000000
namespace Sw
open PySem PySem.Spec PyProof.Rows L2
open Vbreac (Pt)
section
variable {P : Program} {w : World} {K : PySem.W.Frag} {mg : Str → Option Value} {base : Heap}
/-! ### neighbours -/
def ringR (rs : Row) : List ((Addr × Pt) × (Addr × Pt)) := rs.zip (rs.drop 1 ++ rs.take 1)
theorem cut_from1 (xs : List V) : cutV xs (some 1) none = xs.drop 1 := by
  unfold cutV
  rw [show HT.sIx xs.length 0 (some 1) = min 1 xs.length from HT.sIx_nat xs.length 0 1, HT.sIx_none]
  cases xs with
  | nil => rfl
  | cons x r =>
    rw [List.length_cons, Nat.min_eq_left (by omega), List.take_of_length_le (by simp)]
theorem cut_to1 (xs : List V) : cutV xs none (some 1) = xs.take 1 := by
  unfold cutV
  rw [show HT.sIx xs.length xs.length (some 1) = min 1 xs.length from HT.sIx_nat xs.length xs.length 1, HT.sIx_none, List.drop_zero, Nat.sub_zero]
  cases xs with
  | nil => rfl
  | cons x r => rw [List.length_cons, Nat.min_eq_left (by omega)]
theorem ring_len (rs : Row) : (rs.drop 1 ++ rs.take 1).length = rs.length := by
  cases rs with
  | nil => rfl
  | cons a r => simp
/-- Pairs of corners, each beside the next. -/
structure PairsA (H : Hp) (ps : List Addr) (es : List ((Addr × Pt) × (Addr × Pt))) : Prop where
  len : ps.length = es.length
  pair : ∀ (j : Nat) (p : Addr) (e : (Addr × Pt) × (Addr × Pt)), ps[j]? = some p → es[j]? = some e → H p = some (.tup [.ref e.1.1, .ref e.2.1])
theorem PairsA.same {H H' : Hp} {ps : List Addr} {es : List ((Addr × Pt) × (Addr × Pt))} (s : Same H H') (h : PairsA H ps es) : PairsA H' ps es := ⟨h.len, fun j p e a b => s _ _ (h.pair j p e a b)⟩
def spNb (K : PySem.W.Frag) : Sp := fun vs H Q _ => ∃ (a : Addr) (rs : Row), vs = [.ref a] ∧ SqL K H a (refsV rs) ∧ rs.length < 1000000 ∧
  ∀ H' q ps, Same H H' → H q = none → H' q = some (.lst (ps.map V.ref)) → PairsA H' ps (ringR rs) → Q (.ref q) H'
theorem ok_nb {f : Addr} {fd : FuncData} {k : Nat} (F : Fun K "neighbours" "neighbours" s_neighbours f fd) (mi : mg "list" = none) (mz : mg "zip" = none) : FnOk P w K mg base CX0 (k + 1) f fd ["corners"] (spNb K) := by
  refine F.ok sc_neighbours (fun vs H Q E h => ?_) (fun cdv A outer s H vs Q E hr h => ?_)
  · obtain ⟨a, rs, rfl, _⟩ := h
    rfl
  · obtain ⟨a, rs, rfl, hS, hlen, k⟩ := h
    refine ⟨_, pss_one (ps_ret (pe_listZip rfl rfl mi rfl mz (pa_cons (pv 0) (pa_cons (pe_op op_cat (pe_slice sl_list (pv 0) (po_some pe_int) po_none) (pe_slice sl_list (pv 0) po_none (po_some pe_int))) pa_nil)))), ?_⟩
    refine ⟨_, rfl, _, rfl, _, rfl, a, _, rfl, hS, fun c nc => ?_⟩
    rw [cut_from1]
    have s1 := same_upd (o := .lst ((refsV rs).drop 1)) nc
    refine ⟨_, rfl, _, rfl, a, _, rfl, s1.seq hS, fun d nd => ?_⟩
    rw [cut_to1]
    have s2 := same_upd (o := .lst ((refsV rs).take 1)) nd
    have e1 : (refsV rs).drop 1 ++ (refsV rs).take 1 = refsV (rs.drop 1 ++ rs.take 1) := by
      unfold refsV
      rw [List.map_append, List.map_drop, List.map_take]
    refine ⟨c, d, _, _, rfl, rfl, s2 _ _ upd_same, upd_same, ?_, fun e ne => ?_⟩
    · rw [← List.length_append, e1, refsV_len, ring_len, sizeLine_eq]
      omega
    rw [e1]
    have s3 := same_upd (o := .lst (refsV (rs.drop 1 ++ rs.take 1))) ne
    have sA := (s1.trans s2).trans s3
    refine ⟨a, e, refsV rs, _, rfl, sA.seq hS, SqL.of upd_same, by rw [refsV_len, refsV_len, ring_len], fun H' q ps Z => ?_⟩
    refine k H' q ps (sA.trans Z.same) (sA.free Z.new) Z.list ⟨?_, fun j p x h1 h2 => ?_⟩
    · rw [Z.len, refsV_len, ringR, List.length_zip, ring_len, Nat.min_self]
    · have h2 : (rs.zip (rs.drop 1 ++ rs.take 1))[j]? = some x := h2
      rw [List.getElem?_zip_eq_some] at h2
      exact Z.pair j p _ _ h1 (by unfold refsV; rw [List.getElem?_map, h2.1]; rfl) (by unfold refsV; rw [List.getElem?_map, h2.2]; rfl)
theorem addr_get {ps : List Addr} {i : Nat} {x : V} (h : (ps.map V.ref)[i]? = some x) : ∃ p, ps[i]? = some p ∧ x = .ref p := by
  rw [List.getElem?_map] at h
  cases e : ps[i]? with
  | none => rw [e] at h; cases h
  | some r => rw [e] at h; exact ⟨r, rfl, (Option.some.inj h).symm⟩
/-! ### hull_sides -/
def sidesOf (l : List Pt) : List Pt := if l.length = 1 then [] else (Vbreac.edges l).map fun e => Vbreac.minus e.2 e.1
/-- Not further out than a side of a hull may be. -/
def Big (p : Pt) : Prop := (-(2 ^ 63) ≤ p.x ∧ p.x ≤ 2 ^ 63) ∧ (-(2 ^ 63) ≤ p.y ∧ p.y ≤ 2 ^ 63)
def RowB (K : PySem.W.Frag) (H : Hp) (rs : Row) : Prop := ∀ r ∈ rs, PtA K H r.1 r.2 ∧ Big r.2
theorem RowB.same {H H' : Hp} {rs : Row} (s : Same H H') (h : RowB K H rs) : RowB K H' rs := fun r hr => ⟨same_pt s (h r hr).1, (h r hr).2⟩
theorem RowB.updL {H : Hp} {D : Addr} {ys : List V} {rs : Row} {o : HO} (hD : H D = some (.lst ys)) (h : RowB K H rs) : RowB K (upd H D o) rs := fun r hr => ⟨sqT_updL hD (h r hr).1, (h r hr).2⟩
theorem RowB.snoc {H : Hp} {rs : Row} {u : Addr} {p : Pt} (h : RowB K H rs) (hu : PtA K H u p) (hm : Big p) : RowB K H (rs ++ [(u, p)]) := fun r hr => by
  rcases List.mem_append.1 hr with z | z
  · exact h r z
  · simp only [List.mem_cons, List.not_mem_nil, or_false] at z
    rw [z]
    exact ⟨hu, hm⟩
theorem ring_edges (rs : Row) : (ringR rs).map (fun e => (e.1.2, e.2.2)) = Vbreac.edges (pts rs) := by
  unfold ringR Vbreac.edges pts
  rw [← List.map_drop, ← List.map_take, ← List.map_append, List.zip_map]
  rfl
theorem ring_mem {rs : Row} {e : (Addr × Pt) × (Addr × Pt)} (h : e ∈ ringR rs) : e.1 ∈ rs ∧ e.2 ∈ rs := by
  obtain ⟨h1, h2⟩ := List.of_mem_zip h
  refine ⟨h1, ?_⟩
  rcases List.mem_append.1 h2 with z | z
  · exact List.mem_of_mem_drop z
  · exact List.mem_of_mem_take z
theorem minus_big {p q : Pt} (hp : Mid p) (hq : Mid q) : Big (Vbreac.minus q p) := by
  simp only [Mid, Big, Vbreac.minus] at *
  omega
def spSides (K : PySem.W.Frag) : Sp := fun vs H Q _ => ∃ (a : Addr) (rs : Row), vs = [.ref a] ∧ SqL K H a (refsV rs) ∧ RowA K H rs ∧ rs.length < 1000000 ∧
  ∀ H' q ks, Same H H' → H q = none → H' q = some (.lst (refsV ks)) → RowB K H' ks → pts ks = sidesOf (pts rs) → Q (.ref q) H'
theorem ok_sides {f fN fD : Addr} {fd fdN fdD : FuncData} {k : Nat} (F : Fun K "hull_sides" "hull_sides" s_hull_sides f fd) (FN : Fun K "neighbours" "neighbours" s_neighbours fN fdN) (bN : Binds K fdN ["corners"] []) (gN : mg "neighbours" = some (.ref fN))
    (FD : Fun K "difference" "difference" s_difference fD fdD) (bD : Binds K fdD ["p", "q"] []) (gD : mg "difference" = some (.ref fD)) (ml : mg "len" = none) (mi : mg "list" = none) (mz : mg "zip" = none) : FnOk P w K mg base CX0 (k + 2) f fd ["corners"] (spSides K) := by
  have GN : FnOk P w K mg base CX0 (k + 1) fN fdN ["corners"] (spNb K) := ok_nb FN mi mz
  have GD : FnOk P w K mg base CX0 (k + 1) fD fdD ["p", "q"] (spDiff K) := ok_diff FD
  refine F.ok sc_hull_sides (fun vs H Q E h => ?_) (fun cdv A outer s H vs Q E hr h => ?_)
  · obtain ⟨a, rs, rfl, _⟩ := h
    rfl
  · obtain ⟨a, rs, rfl, hS, hR, hlen, k⟩ := h
    refine ⟨_, pss_cons (ps_if (pt_cmpR op_eq (pe_callB call_len_seq (by rfl) ml PySem.boot_len (pa_cons (pv 0) pa_nil)) pe_int (nomark _)) (pss_one (ps_ret (pe_lst pa_nil))) pss_nil)
      (pss_one (ps_ret (pe_lc (own := [("p", 1), ("q", 2)]) (g := gTup K 2 (gCons (gName 1) (gCons (gName 2) gNil))) (tt := tYes) rfl sc_hull_sides.nd (pi_list (pe_call GN hr rfl gN FN.kp bN .nil pass0 (pa_cons (pv 0) pa_nil)))
        (blkOk_by (N := ["corners", "p", "q"]) (sc := defScope s_hull_sides) (by decide +kernel))
        (fun _ _ _ _ _ => pg_tup rfl (pgs_cons (pg_name (i := 1) sc_hull_sides.nd rfl (.inl rfl)) (pgs_cons (pg_name (i := 2) sc_hull_sides.nd rfl (.inl rfl)) pgs_nil))) (fun _ _ _ _ _ => pts_nil)
        (fun _ _ _ _ _ => pe_call GD hr rfl gD FD.kp bD .nil pass0 (pa_cons (pv 1) (pa_cons (pv 2) pa_nil)))))), ?_⟩
    refine ⟨_, rfl, a, _, rfl, .inl hS, rfl, _, rfl, ite2 (fun e => ?_) (fun e => ?_)⟩
    · have e1 : ((refsV rs).length : Int) = 1 := V.int.inj (of_decide_eq_true e)
      rw [refsV_len] at e1
      refine ⟨Nat.zero_le _, fun q nq => k _ q [] (same_upd nq) nq upd_same (fun r hr => nomatch hr) ?_⟩
      rw [sidesOf, if_pos (by rw [pts_len]; omega)]
      rfl
    · have e1 : ¬ (pts rs).length = 1 := fun z => e (decide_eq_true (by
        rw [pts_len] at z
        rw [refsV_len, z]
        rfl))
      refine ⟨_, rfl, a, rs, rfl, hS, hlen, fun H1 q ps s1 nq hq hp => ⟨q, rfl, ⟨_, SqL.of hq⟩, fun D nD => lc_list (K := K) (a := q) (xs := ps.map V.ref)
        (fun i H' => ∃ ks : Row, Same H1 H' ∧ H' D = some (.lst (refsV ks)) ∧ RowB K H' ks ∧ pts ks = ((Vbreac.edges (pts rs)).take i).map fun e => Vbreac.minus e.2 e.1)
        ⟨[], same_upd nD, upd_same, (fun r hr => nomatch hr), rfl⟩ (fun i H' _ ⟨_, sm, _⟩ => SqL.of (sm _ _ hq)) ?_ ?_⟩⟩
      · rintro i x H' hi ⟨ks, sm, hD, hk, ek⟩
        obtain ⟨p, hp1, rfl⟩ := addr_get hi
        have il : i < (ringR rs).length := by rw [← hp.len]; exact (List.getElem?_eq_some_iff.mp hp1).1
        have he : (ringR rs)[i]? = some (ringR rs)[i] := List.getElem?_eq_getElem il
        obtain ⟨m1, m2⟩ := ring_mem (List.getElem_mem il)
        generalize (ringR rs)[i] = e at he m1 m2
        have hT := sm _ _ (hp.pair i p e hp1 he)
        have sA := s1.trans sm
        refine ⟨p, _, rfl, SqT.of hT, rfl, _, _, rfl, _, _, rfl, rfl, rfl, _, rfl, _, rfl, e.1.1, e.2.1, e.1.2, e.2.2, rfl, same_pt sA (hR _ m1).1, same_pt sA (hR _ m2).1, fun u nu => ?_⟩
        have s3 := same_upd (o := .tup [.int (Vbreac.minus e.2.2 e.1.2).x, .int (Vbreac.minus e.2.2 e.1.2).y]) nu
        have hD3 := s3 _ _ hD
        have hed : (Vbreac.edges (pts rs))[i]? = some (e.1.2, e.2.2) := by
          rw [← ring_edges, List.getElem?_map, he]
          rfl
        refine ⟨_, hD3, ?_, ks ++ [(u, Vbreac.minus e.2.2 e.1.2)], same_grow nD (sm.trans s3), ?_, RowB.updL hD3 ((hk.same s3).snoc (SqT.of upd_same) (minus_big (hR _ m1).2 (hR _ m2).2)), ?_⟩
        · have e1 := congrArg List.length ek
          have e2 := (List.getElem?_eq_some_iff.mp hed).1
          rw [pts_len, List.length_map, List.length_take] at e1
          rw [← ring_edges, List.length_map, ← hp.len] at e2
          have e3 := hp.len
          rw [ringR, List.length_zip, ring_len, Nat.min_self] at e3
          rw [refsV_len, sizeLine_eq]
          omega
        · rw [upd_same, refsV_snoc]
        · rw [pts_snoc, ek, take_snoc hed, List.map_append]
          rfl
      · rintro H' ⟨ks, sm, hD, hk, ek⟩
        rw [List.length_map, hp.len, ← List.length_map (f := fun e : (Addr × Pt) × (Addr × Pt) => (e.1.2, e.2.2)), ring_edges, List.take_length] at ek
        exact k H' D ks (s1.trans sm) (s1.free nD) hD hk (by rw [ek, sidesOf, if_neg e1])
/-! ### holds_origin_within -/
theorem small_mid {p : Pt} (h : Mid p) : Small p.x ∧ Small p.y := by
  simp only [Mid, Small] at *
  omega
theorem bool_get {bs : List Bool} {i : Nat} : (bs.map V.bl).length = bs.length := List.length_map ..
def withinOf (l : List Pt) : Bool := decide (3 ≤ l.length) && (Vbreac.edges l).all fun e => decide (Vbreac.cross e.1 e.2 > 0)
def spWithin (K : PySem.W.Frag) : Sp := fun vs H Q _ => ∃ (a : Addr) (rs : Row), vs = [.ref a] ∧ SqL K H a (refsV rs) ∧ RowA K H rs ∧ rs.length < 1000000 ∧
  ∀ H', Same H H' → Q (.bl (withinOf (pts rs))) H'
theorem ok_within {f fN fC : Addr} {fd fdN fdC : FuncData} {k : Nat} (F : Fun K "holds_origin_within" "holds_origin_within" s_holds_origin_within f fd) (FN : Fun K "neighbours" "neighbours" s_neighbours fN fdN) (bN : Binds K fdN ["corners"] []) (gN : mg "neighbours" = some (.ref fN))
    (FC : Fun K "cross" "cross" s_cross fC fdC) (bC : Binds K fdC ["p", "q"] []) (gC : mg "cross" = some (.ref fC)) (ml : mg "len" = none) (mi : mg "list" = none) (mz : mg "zip" = none) (ma : mg "all" = none) : FnOk P w K mg base CX0 (k + 2) f fd ["corners"] (spWithin K) := by
  have GN : FnOk P w K mg base CX0 (k + 1) fN fdN ["corners"] (spNb K) := ok_nb FN mi mz
  have GC : FnOk P w K mg base CX0 (k + 1) fC fdC ["p", "q"] (spCross K) := ok_cross FC
  refine F.ok sc_holds_origin_within (fun vs H Q E h => ?_) (fun cdv A outer s H vs Q E hr h => ?_)
  · obtain ⟨a, rs, rfl, _⟩ := h
    rfl
  · obtain ⟨a, rs, rfl, hS, hR, hlen, k⟩ := h
    refine ⟨_, pss_cons (ps_if (pt_cmpR op_lt (pe_callB call_len_seq (by rfl) ml PySem.boot_len (pa_cons (pv 0) pa_nil)) pe_int (nomark _)) (pss_one (ps_ret pe_bl)) pss_nil)
      (pss_one (ps_ret (pe_callB (cr_all rfl) (by rfl) ma (by decide +kernel) (pa_cons (pe_lc (own := [("p", 1), ("q", 2)]) (g := gTup K 2 (gCons (gName 1) (gCons (gName 2) gNil))) (tt := tYes) rfl sc_holds_origin_within.nd (pi_list (pe_call GN hr rfl gN FN.kp bN .nil pass0 (pa_cons (pv 0) pa_nil)))
        (blkOk_by (N := ["corners", "p", "q"]) (sc := defScope s_holds_origin_within) (by decide +kernel))
        (fun _ _ _ _ _ => pg_tup rfl (pgs_cons (pg_name (i := 1) sc_holds_origin_within.nd rfl (.inl rfl)) (pgs_cons (pg_name (i := 2) sc_holds_origin_within.nd rfl (.inl rfl)) pgs_nil))) (fun _ _ _ _ _ => pts_nil)
        (fun _ _ _ _ _ => pe_cmpR op_gt (pe_call GC hr rfl gC FC.kp bC .nil pass0 (pa_cons (pv 1) (pa_cons (pv 2) pa_nil))) pe_int (nomark _))) pa_nil)))), ?_⟩
    refine ⟨_, rfl, a, _, rfl, .inl hS, _, _, rfl, rfl, _, rfl, ite2 (fun e => ?_) (fun e => ?_)⟩
    · have e1 : ((refsV rs).length : Int) < 3 := of_decide_eq_true e
      rw [refsV_len] at e1
      have : withinOf (pts rs) = false := by
        rw [withinOf, decide_eq_false (by rw [pts_len]; omega), Bool.false_and]
      rw [← this]
      exact k H (fun b o e => e)
    · have e1 : decide (3 ≤ (pts rs).length) = true := decide_eq_true (by
        have : ¬ ((refsV rs).length : Int) < 3 := fun z => e (decide_eq_true z)
        rw [refsV_len] at this
        rw [pts_len]
        omega)
      refine ⟨_, rfl, a, rs, rfl, hS, hlen, fun H1 q ps s1 nq hq hp => ⟨q, rfl, ⟨_, SqL.of hq⟩, fun D nD => lc_list (K := K) (a := q) (xs := ps.map V.ref)
        (fun i H' => Same H1 H' ∧ H' D = some (.lst ((((Vbreac.edges (pts rs)).take i).map fun e => decide (Vbreac.cross e.1 e.2 > 0)).map V.bl)))
        ⟨same_upd nD, upd_same⟩ (fun i H' _ ⟨sm, _⟩ => SqL.of (sm _ _ hq)) ?_ ?_⟩⟩
      · rintro i x H' hi ⟨sm, hD⟩
        obtain ⟨p, hp1, rfl⟩ := addr_get hi
        have il : i < (ringR rs).length := by rw [← hp.len]; exact (List.getElem?_eq_some_iff.mp hp1).1
        have he : (ringR rs)[i]? = some (ringR rs)[i] := List.getElem?_eq_getElem il
        obtain ⟨m1, m2⟩ := ring_mem (List.getElem_mem il)
        generalize (ringR rs)[i] = e at he m1 m2
        have hT := sm _ _ (hp.pair i p e hp1 he)
        have sA := s1.trans sm
        have sm1 := small_mid (hR _ m1).2
        have hed : (Vbreac.edges (pts rs))[i]? = some (e.1.2, e.2.2) := by
          rw [← ring_edges, List.getElem?_map, he]
          rfl
        refine ⟨p, _, rfl, SqT.of hT, rfl, _, _, rfl, _, _, rfl, rfl, rfl, _, rfl, _, rfl, e.1.1, e.2.1, e.1.2, e.2.2, rfl, same_pt sA (hR _ m1).1, same_pt sA (hR _ m2).1, sm1.1, sm1.2, _, _, rfl, rfl, _, hD, ?_, same_grow nD sm, ?_⟩
        · have e2 := (List.getElem?_eq_some_iff.mp hed).1
          rw [← ring_edges, List.length_map, ringR, List.length_zip, ring_len, Nat.min_self] at e2
          rw [List.length_map, List.length_map, List.length_take, sizeLine_eq]
          omega
        · rw [upd_same, take_snoc hed, List.map_append, List.map_append]
          rfl
      · rintro H' ⟨sm, hD⟩
        rw [List.length_map, hp.len, ← List.length_map (f := fun e : (Addr × Pt) × (Addr × Pt) => (e.1.2, e.2.2)), ring_edges, List.take_length] at hD
        refine ⟨D, _, rfl, SqL.of hD, ?_⟩
        have : withinOf (pts rs) = ((Vbreac.edges (pts rs)).map fun e => decide (Vbreac.cross e.1 e.2 > 0)).all id := by
          rw [withinOf, e1, Bool.true_and, List.all_map]
          rfl
        show Q (.bl _) H'
        rw [← this]
        exact k H' (s1.trans sm)
/-! ### hull_support, furthest_corners -/
def spSupp (K : PySem.W.Frag) : Sp := fun vs H Q _ => ∃ (a b : Addr) (rs : Row) (n : Pt), vs = [.ref a, .ref b] ∧ SqL K H a (refsV rs) ∧ (∀ r ∈ rs, PtA K H r.1 r.2) ∧ PtA K H b n ∧ Small n.x ∧ Small n.y ∧ 0 < rs.length ∧ rs.length < 1000000 ∧
  ∀ H' M, Same H H' → (∃ p ∈ pts rs, Vbreac.dot p n = M) → (∀ p ∈ pts rs, Vbreac.dot p n ≤ M) → Q (.int M) H'
theorem ok_supp {f fH : Addr} {fd fdH : FuncData} {k : Nat} (F : Fun K "hull_support" "hull_support" s_hull_support f fd) (FH : Fun K "how_far" "how_far" s_how_far fH fdH) (bH : Binds K fdH ["direction", "velocity"] []) (gH : mg "how_far" = some (.ref fH)) (mm : mg "max" = none) :
    FnOk P w K mg base CX0 (k + 2) f fd ["corners", "direction"] (spSupp K) := by
  have GH : FnOk P w K mg base CX0 (k + 1) fH fdH ["direction", "velocity"] (spFar K) := ok_far FH
  refine F.ok sc_hull_support (fun vs H Q E h => ?_) (fun cdv A outer s H vs Q E hr h => ?_)
  · obtain ⟨a, b, rs, n, rfl, _⟩ := h
    rfl
  · obtain ⟨a, b, rs, n, rfl, hS, hR, hn, n1, n2, h0, hlen, k⟩ := h
    refine ⟨_, pss_one (ps_ret (pe_callB (cr_max rfl) (by rfl) mm (by decide +kernel) (pa_cons (pe_lc (own := [("corner", 2)]) (g := gName 2) (tt := tYes) rfl sc_hull_support.nd (pi_list (pv 0))
        (blkOk_by (N := ["corners", "direction", "corner"]) (sc := defScope s_hull_support) (by decide +kernel))
        (fun _ _ _ _ _ => pg_name (i := 2) sc_hull_support.nd rfl (.inl rfl)) (fun _ _ _ _ _ => pts_nil)
        (fun _ _ _ _ _ => pe_call GH hr rfl gH FH.kp bH .nil pass0 (pa_cons (pv 1) (pa_cons (pv 2) pa_nil)))) pa_nil))), ?_⟩
    refine ⟨_, rfl, a, rfl, ⟨_, hS⟩, fun D nD => lc_list (K := K) (a := a) (xs := refsV rs) (fun i H' => Same H H' ∧ H' D = some (.lst ((((pts rs).take i).map fun p => Vbreac.dot p n).map V.int)))
        ⟨same_upd nD, upd_same⟩ (fun i H' _ ⟨sm, _⟩ => sm.seq hS) ?_ ?_⟩
    · rintro i x H' hi ⟨sm, hD⟩
      obtain ⟨r, hr', rfl⟩ := refsV_get hi
      refine ⟨rfl, _, rfl, _, rfl, b, r.1, n, r.2, rfl, same_pt sm hn, same_pt sm (hR _ (List.mem_of_getElem? hr')), n1, n2, _, hD, ?_, same_grow nD sm, ?_⟩
      · have e2 := (List.getElem?_eq_some_iff.mp hr').1
        rw [List.length_map, List.length_map, List.length_take, sizeLine_eq]
        omega
      · rw [upd_same, take_snoc (pts_get hr'), List.map_append, List.map_append]
        rfl
    · rintro H' ⟨sm, hD⟩
      rw [refsV_len, ← pts_len, List.take_length] at hD
      refine ⟨D, _, rfl, SqL.of hD, by rw [List.length_map, pts_len]; exact h0, fun M h1 h2 => k H' M sm ?_ fun p hp => ?_⟩
      · obtain ⟨p, hp, e⟩ := List.mem_map.mp h1
        exact ⟨p, hp, e⟩
      · exact h2 _ (List.mem_map_of_mem hp)
end
end Sw
set_option maxHeartbeats 2000000
namespace Sw
open PySem PySem.Spec PyProof.Rows L2
open Vbreac (Pt)
section
variable {P : Program} {w : World} {K : PySem.W.Frag} {mg : Str → Option Value} {base : Heap}
/-! ### furthest_corners -/
def spFurth (K : PySem.W.Frag) : Sp := fun vs H Q _ => ∃ (a b : Addr) (rs : Row) (n : Pt), vs = [.ref a, .ref b] ∧ SqL K H a (refsV rs) ∧ (∀ r ∈ rs, PtA K H r.1 r.2) ∧ PtA K H b n ∧ Small n.x ∧ Small n.y ∧ 0 < rs.length ∧ rs.length < 1000000 ∧
  ∀ H' q M, Same H H' → H q = none → (∃ p ∈ pts rs, Vbreac.dot p n = M) → (∀ p ∈ pts rs, Vbreac.dot p n ≤ M) → H' q = some (.lst (refsV (rs.filter fun r => decide (Vbreac.dot r.2 n = M)))) → Q (.ref q) H'
theorem ok_furth {f fH fS : Addr} {fd fdH fdS : FuncData} {k : Nat} (F : Fun K "furthest_corners" "furthest_corners" s_furthest_corners f fd) (FH : Fun K "how_far" "how_far" s_how_far fH fdH) (bH : Binds K fdH ["direction", "velocity"] []) (gH : mg "how_far" = some (.ref fH))
    (FS : Fun K "hull_support" "hull_support" s_hull_support fS fdS) (bS : Binds K fdS ["corners", "direction"] []) (gS : mg "hull_support" = some (.ref fS)) (mm : mg "max" = none) : FnOk P w K mg base CX0 (k + 3) f fd ["corners", "direction"] (spFurth K) := by
  have GH : FnOk P w K mg base CX0 (k + 2) fH fdH ["direction", "velocity"] (spFar K) := ok_far FH
  have GS : FnOk P w K mg base CX0 (k + 2) fS fdS ["corners", "direction"] (spSupp K) := ok_supp FS FH bH gH mm
  refine F.ok sc_furthest_corners (fun vs H Q E h => ?_) (fun cdv A outer s H vs Q E hr h => ?_)
  · obtain ⟨a, b, rs, n, rfl, _⟩ := h
    rfl
  · obtain ⟨a, b, rs, n, rfl, hS, hR, hn, n1, n2, h0, hlen, k⟩ := h
    refine ⟨_, pss_cons (ps_set (i := 2) sc_furthest_corners.nd rfl (.inr rfl) (pe_call GS hr rfl gS FS.kp bS .nil pass0 (pa_cons (pv 0) (pa_cons (pv 1) pa_nil))))
      (pss_one (ps_ret (pe_lc (own := [("corner", 3)]) (g := gName 3) rfl sc_furthest_corners.nd (pi_list (pv 0))
        (blkOk_by (N := ["corners", "direction", "furthest", "corner"]) (sc := defScope s_furthest_corners) (by decide +kernel))
        (fun _ _ _ _ _ => pg_name (i := 3) sc_furthest_corners.nd rfl (.inl rfl)) (fun _ _ _ _ _ => pts_one (pt_cmpR op_eq (pe_call GH hr rfl gH FH.kp bH .nil pass0 (pa_cons (pv 1) (pa_cons (pv 3) pa_nil))) (pv 2) (nomark _)))
        (fun _ _ _ _ _ => pv 3)))), ?_⟩
    refine ⟨_, rfl, _, rfl, a, b, rs, n, rfl, hS, hR, hn, n1, n2, h0, hlen, fun H1 M s1 m1 m2 => ?_⟩
    refine ⟨_, rfl, a, rfl, ⟨_, s1.seq hS⟩, fun D nD => lc_list (K := K) (a := a) (xs := refsV rs) (fun i H' => Same H1 H' ∧ H' D = some (.lst (refsV ((rs.take i).filter fun r => decide (Vbreac.dot r.2 n = M)))))
        ⟨same_upd nD, upd_same⟩ (fun i H' _ ⟨sm, _⟩ => (s1.trans sm).seq hS) ?_ ?_⟩
    · rintro i x H' hi ⟨sm, hD⟩
      obtain ⟨r, hr', rfl⟩ := refsV_get hi
      have sA := s1.trans sm
      refine ⟨rfl, _, rfl, _, rfl, b, r.1, n, r.2, rfl, same_pt sA hn, same_pt sA (hR _ (List.mem_of_getElem? hr')), n1, n2, _, rfl, rfl, _, rfl, ?_⟩
      have hi' := (List.getElem?_eq_some_iff.mp hr').1
      refine ite2 (fun e => ?_) (fun e => ?_)
      · have e1 : Vbreac.dot r.2 n = M := V.int.inj (of_decide_eq_true e)
        refine ⟨_, rfl, _, hD, ?_, same_grow nD sm, ?_⟩
        · rw [refsV_len, sizeLine_eq]
          have := List.length_filter_le (fun r : Addr × Pt => decide (Vbreac.dot r.2 n = M)) (rs.take i)
          rw [List.length_take] at this
          omega
        · rw [upd_same, take_snoc hr', List.filter_append, List.filter_cons, if_pos (decide_eq_true e1)]
          simp [refsV]
      · have e1 : ¬ Vbreac.dot r.2 n = M := fun z => e (decide_eq_true (by rw [z]))
        refine ⟨sm, ?_⟩
        rw [hD, take_snoc hr', List.filter_append, List.filter_cons, if_neg (by simpa using e1)]
        simp
    · rintro H' ⟨sm, hD⟩
      rw [refsV_len, List.take_length] at hD
      exact k H' D M (s1.trans sm) (s1.free nD) m1 m2 hD
/-! ### greatest_divisor, lowest_terms, ratio_text -/
theorem abs_is (i : Int) : (if i < 0 then -i else i) = (i.natAbs : Int) := by
  split <;> omega
def slotI (σ : L2.St) (i : Nat) : Nat := match σ[i]? with
  | some (some (.int n)) => n.toNat
  | _ => 0
def spGcd : Sp := fun vs H Q _ => ∃ m n : Int, vs = [.int m, .int n] ∧ Q (.int (Nat.gcd m.natAbs n.natAbs : Nat)) H
theorem ok_gcd {f : Addr} {fd : FuncData} {k : Nat} (F : Fun K "greatest_divisor" "greatest_divisor" s_greatest_divisor f fd) (ma : mg "abs" = none) : FnOk P w K mg base CX0 (k + 1) f fd ["m", "n"] spGcd := by
  refine F.ok sc_greatest_divisor (fun vs H Q E h => ?_) (fun cdv A outer s H vs Q E hr h => ?_)
  · obtain ⟨m, n, rfl, _⟩ := h
    rfl
  · obtain ⟨m, n, rfl, k⟩ := h
    refine ⟨_, pss_cons (ps_set (i := 0) sc_greatest_divisor.nd rfl (.inl rfl) (pe_callB call_abs (by rfl) ma (by decide +kernel) (pa_cons (pv 0) pa_nil)))
      (pss_cons (ps_set (i := 1) sc_greatest_divisor.nd rfl (.inl rfl) (pe_callB call_abs (by rfl) ma (by decide +kernel) (pa_cons (pv 1) pa_nil)))
      (pss_cons (ps_while PassesOwn.never (pt_cmpR op_gt (pv 1) pe_int (nomark _))
        (pss_cons (ps_set (i := 2) sc_greatest_divisor.nd rfl (.inl rfl) (pe_op op_mod (pv 0) (pv 1)))
        (pss_cons (ps_set (i := 0) sc_greatest_divisor.nd rfl (.inl rfl) (pv 1))
        (pss_one (ps_set (i := 1) sc_greatest_divisor.nd rfl (.inl rfl) (pv 2))))))
      (pss_one (ps_ret (pv 0))))), ?_⟩
    refine ⟨_, rfl, _, rfl, _, rfl, _, rfl, ?_⟩
    refine while_by (fun σ H' => ∃ (a b : Nat) (v : Option V), σ = [some (.int a), some (.int b), v] ∧ H' = H ∧ Nat.gcd a b = Nat.gcd m.natAbs n.natAbs) (fun σ _ => slotI σ 1) ⟨m.natAbs, n.natAbs, none, ?_, rfl, rfl⟩ ?_ ?_
    · show [some (V.int _), some (V.int _), none] = _
      rw [abs_is, abs_is]
    · rintro σ H' ⟨a, b, v, rfl, rfl, e⟩
      refine ⟨_, rfl, _, _, rfl, rfl, _, rfl, ite2 (fun c => ?_) (fun c => ?_)⟩
      · have c' : (0 : Int) < b := of_decide_eq_true c
        refine ⟨_, rfl, _, rfl, _, _, rfl, rfl, c', _, rfl, _, rfl, ⟨b, a % b, some (.int ((a % b : Nat) : Int)), ?_, rfl, ?_⟩, ?_⟩
        · show [some (V.int _), some (V.int _), some (V.int _)] = _
          rw [Int.natCast_emod]
        · rw [← e, Nat.gcd_comm b, ← Nat.gcd_rec, Nat.gcd_comm]
        · show ((a : Int) % (b : Int)).toNat < (b : Int).toNat
          have := Int.emod_lt_of_pos (a : Int) c'
          have := Int.emod_nonneg (a : Int) (show (b : Int) ≠ 0 by omega)
          omega
      · have c' : b = 0 := by
          have : ¬ (0 : Int) < b := fun z => c (decide_eq_true z)
          omega
        refine ⟨_, rfl, ?_⟩
        rw [c', Nat.gcd_zero_right] at e
        rw [← e] at k
        exact k
    · rintro σ H Q Q' hQ ⟨v, e1, i, j, e2, e3, b, e4, h⟩
      exact ⟨v, e1, i, j, e2, e3, b, e4, hQ _ _ h⟩
end
end Sw
set_option maxHeartbeats 2000000
namespace Sw
open PySem PySem.Spec PyProof.Rows L2
open Vbreac (Pt Frac)
section
variable {P : Program} {w : World} {K : PySem.W.Frag} {mg : Str → Option Value} {base : Heap}
/-- A number of no more than so many bits. -/
def Bits (b : Nat) (n : Int) : Prop := n.natAbs < 2 ^ b
def fracV (f : Frac) : HO := .tup [.int f.num, .int (f.den : Int)]
theorem gcd_le_right (m n : Int) (h : 0 < n) : (Nat.gcd m.natAbs n.natAbs : Int) ≤ n ∧ 0 < (Nat.gcd m.natAbs n.natAbs : Int) := by
  have h1 := Nat.gcd_le_right m.natAbs (show 0 < n.natAbs by omega)
  have h2 := Nat.gcd_pos_of_pos_right m.natAbs (show 0 < n.natAbs by omega)
  omega
theorem lowest_num (n : Int) {d : Int} (h : 0 < d) : (Vbreac.lowest n d.toNat).num = n / (Nat.gcd n.natAbs d.natAbs : Nat) := by
  have : d.toNat = d.natAbs := by omega
  simp only [Vbreac.lowest, this]
theorem lowest_den (n : Int) {d : Int} (h : 0 < d) : ((Vbreac.lowest n d.toNat).den : Int) = d / (Nat.gcd n.natAbs d.natAbs : Nat) := by
  have e : d.toNat = d.natAbs := by omega
  have : ((d.natAbs / Nat.gcd n.natAbs d.natAbs : Nat) : Int) = (d.natAbs : Int) / (Nat.gcd n.natAbs d.natAbs : Nat) := Int.natCast_ediv _ _
  simp only [Vbreac.lowest, e]
  rw [this]
  congr 1
  omega
def spLow : Sp := fun vs H Q _ => ∃ n d : Int, vs = [.int n, .int d] ∧ 0 < d ∧ Bits 9000 d ∧ ∀ t, H t = none → Q (.ref t) (upd H t (fracV (Vbreac.lowest n d.toNat)))
theorem ok_low {f fG : Addr} {fd fdG : FuncData} {k : Nat} (F : Fun K "lowest_terms" "lowest_terms" s_lowest_terms f fd) (FG : Fun K "greatest_divisor" "greatest_divisor" s_greatest_divisor fG fdG) (bG : Binds K fdG ["m", "n"] []) (gG : mg "greatest_divisor" = some (.ref fG)) (ma : mg "abs" = none) :
    FnOk P w K mg base CX0 (k + 2) f fd ["upper", "lower"] spLow := by
  have GG : FnOk P w K mg base CX0 (k + 1) fG fdG ["m", "n"] spGcd := ok_gcd FG ma
  refine F.ok sc_lowest_terms (fun vs H Q E h => ?_) (fun cdv A outer s H vs Q E hr h => ?_)
  · obtain ⟨n, d, rfl, _⟩ := h
    rfl
  · obtain ⟨n, d, rfl, hd, hb, k⟩ := h
    refine ⟨_, pss_cons (ps_set (i := 2) sc_lowest_terms.nd rfl (.inl rfl) (pe_call GG hr rfl gG FG.kp bG .nil pass0 (pa_cons (pv 0) (pa_cons (pv 1) pa_nil))))
      (pss_one (ps_ret (pe_tup (pa_cons (pe_op op_fdivW (pv 0) (pv 2)) (pa_cons (pe_op op_fdivW (pv 1) (pv 2)) pa_nil))))), ?_⟩
    obtain ⟨g1, g2⟩ := gcd_le_right n d hd
    have gb : (Nat.gcd n.natAbs d.natAbs : Int).natAbs < 2 ^ 9000 := Nat.lt_of_le_of_lt (by omega) hb
    refine ⟨_, rfl, _, rfl, n, d, rfl, _, rfl, _, rfl, _, _, rfl, rfl, wide_div g2 gb (by decide) (by decide), _, rfl, _, rfl, _, _, rfl, rfl, wide_div g2 gb (by decide) (by decide), (by show 2 ≤ sizeLine; decide), fun t nt => ?_⟩
    have := k t nt
    rw [fracV, lowest_num n hd, lowest_den n hd] at this
    exact this
theorem log_of {n : Int} (h : Bits 1900 n) : n.natAbs.log2 < 1920 := Nat.lt_of_lt_of_le (PySem.Flt.log2_lt_of (by decide) h) (by decide)
theorem len_of {n : Int} (h : Bits 1900 n) : (Str.ofString (toString n)).length ≤ 1921 := PyProof.Rows.int_text_len_1921 (log_of h)
def txt (f : Frac) : Str := Str.empty ++ (toString f.num : String) ++ "/" ++ (toString (f.den : Int) : String)
def spText : Sp := fun vs H Q _ => ∃ (a : Addr) (f : Frac), vs = [.ref a] ∧ H a = some (fracV f) ∧ Bits 1900 f.num ∧ Bits 1900 f.den ∧ Q (.str (txt f)) H
theorem ok_text {f : Addr} {fd : FuncData} {k : Nat} (F : Fun K "ratio_text" "ratio_text" s_ratio_text f fd) : FnOk P w K mg base CX0 (k + 1) f fd ["ratio"] spText := by
  refine F.ok sc_ratio_text (fun vs H Q E h => ?_) (fun cdv A outer s H vs Q E hr h => ?_)
  · obtain ⟨a, f, rfl, _⟩ := h
    rfl
  · obtain ⟨a, f, rfl, ha, b1, b2, k⟩ := h
    refine ⟨_, pss_cons (ps_set (i := 1) sc_ratio_text.nd rfl (.inl rfl) (pe_ix ix_tup (pv 0) pe_int (fun _ _ => rfl)))
      (pss_cons (ps_set (i := 2) sc_ratio_text.nd rfl (.inl rfl) (pe_ix ix_tup (pv 0) pe_int (fun _ _ => rfl)))
      (pss_one (ps_ret (pe_joined (.cons (pe_fmt (pv 1)) (.cons pe_str (.cons (pe_fmt (pv 2)) .nil))))))), ?_⟩
    refine ⟨_, rfl, a, _, _, _, rfl, rfl, SqT.of ha, atI_nat (j := 0) rfl, _, rfl, a, _, _, _, rfl, rfl, SqT.of ha, atI_nat (j := 1) rfl, _, rfl, .inr ⟨_, rfl, ?_, _, rfl, ?_, _, rfl, ?_, _, rfl, .inr ⟨_, rfl, ?_, _, rfl, ?_, k⟩⟩⟩
    · exact log_of b1
    · rw [strLen_append]; have := len_of b1; show 0 + _ ≤ _; rw [sizeLine_eq]; omega
    · rw [strLen_append, strLen_append]; have := len_of b1; show 0 + _ + 1 ≤ _; rw [sizeLine_eq]; omega
    · exact log_of b2
    · rw [strLen_append, strLen_append, strLen_append]; have := len_of b1; have := len_of b2; show 0 + _ + 1 + _ ≤ _; rw [sizeLine_eq]; omega
end
end Sw
set_option maxHeartbeats 2000000
namespace Sw
open PySem PySem.Spec PyProof.Rows L2
open Vbreac (Pt)
/-! ### A dict of pairs, each with True: its keys may be pairs of the program's own text -/
def keyK (p : Pt) : List Key := [Sum.inl p.x, Sum.inl p.y]
def entD (r : Addr × Pt) : List Key × Addr × Value := (keyK r.2, r.1, Value.bool true)
theorem keyK_inj {p q : Pt} (h : keyK p = keyK q) : p = q := by
  simp only [keyK, List.cons.injEq, Sum.inl.injEq, and_true] at h
  exact Hu.pt_ext h.1 h.2
structure IsDirD (P : Program) (w : World) (h : Heap) (a : Addr) (rs : Row) : Prop where
  sys : (a == sysModules) = false
  ob : ∃ o es ep, h.get? a = some o ∧ o.ExactDict ∧ o.data = .dict es ep ∧ es.toList = (rs.map entD).map (entryOfKey (tupleKind (mixKind P w)))
  nd : (pts rs).Nodup
def DirD (P : Program) (w : World) (a : Addr) (rs : Row) : HO := .ext fun h => IsDirD P w h a rs
theorem dirD_ok {P : Program} {w : World} {H : Hp} {h : Heap} {a : Addr} {rs : Row} (d : IsDirD P w h a rs) : ObjOk P w H h a (DirD P w a rs) := by
  obtain ⟨o, es, ep, ho, r⟩ := d.ob
  refine ⟨d, ⟨o, ho⟩, fun h1 h2 q k => ?_⟩
  obtain ⟨o', es', ep', ho', r'⟩ := q.ob
  exact ⟨q.sys, ⟨o', es', ep', k o' ho', r'⟩, q.nd⟩
theorem dirD_keys {rs : Row} (h : (pts rs).Nodup) : ((rs.map entD).map (·.1)).Nodup := by
  rw [List.map_map, List.Nodup, List.pairwise_map]
  rw [pts, List.Nodup, List.pairwise_map] at h
  exact h.imp fun hne e => hne (keyK_inj e)
/-- A direction put among those that are known. -/
def addRow (rs : Row) (r : Addr × Pt) : Row := if r.2 ∈ pts rs then rs else rs ++ [r]
theorem stored_is (rs : Row) (r : Addr × Pt) : storedH (rs.map entD) (keyK r.2) r.1 (Value.bool true) = (addRow rs r).map entD := by
  have put : ∀ l : Row, (l.map entD).map (putAt (keyK r.2) (Value.bool true)) = l.map entD := fun l => by
    rw [List.map_map]
    refine List.map_congr_left fun q _ => ?_
    show (if keyK q.2 = keyK r.2 then _ else _) = _
    split <;> rfl
  unfold storedH addRow
  by_cases h : r.2 ∈ pts rs
  · rw [if_pos h, if_pos, put]
    unfold atKey
    rw [Option.isSome_map, List.find?_isSome]
    obtain ⟨q, hq, e⟩ := List.mem_map.mp h
    exact ⟨entD q, List.mem_map_of_mem hq, decide_eq_true (by show keyK q.2 = _; rw [e])⟩
  · rw [if_neg h, if_neg]
    · rw [List.map_append]
      rfl
    · unfold atKey
      rw [Option.isSome_map, List.find?_isSome]
      rintro ⟨x, hx, e⟩
      obtain ⟨q, hq, rfl⟩ := List.mem_map.mp hx
      exact h (List.mem_map.mpr ⟨q, hq, keyK_inj (of_decide_eq_true e)⟩)
section
variable {X : Cx}
theorem inv_isP {pins : List (Addr × Obj)} {σ : L2.St} {H : Hp} {s : Shared} {b : Addr} {p : Pt} (I : Inv X pins σ H s) (h : PtA X.K H b p) : (tupleKind (mixKind X.prog X.w)).is s.heap (keyK p) b := by
  obtain ⟨its, r, ⟨o, ho, hc, n, hd⟩, _⟩ := I.tuple h
  exact ⟨o, its.toArray, n, ho, hc, hd, by simpa using items_are (ks := keyK p) r⟩
theorem dirD_full {pins : List (Addr × Obj)} {σ : L2.St} {H : Hp} {s : Shared} {a : Addr} {rs : Row} (I : Inv X pins σ H s) (d : IsDirD X.prog X.w s.heap a rs) (hk : ∀ r ∈ rs, PtA X.K H r.1 r.2) : s.heap.DictOfH (tupleKind (mixKind X.prog X.w)) a (rs.map entD) := by
  obtain ⟨o, es, ep, h1, h2, h3, h4⟩ := d.ob
  refine ⟨o, es, ep, h1, h2, h3, h4, fun x hx => ?_, dirD_keys d.nd⟩
  obtain ⟨r, hr, rfl⟩ := List.mem_map.mp hx
  exact inv_isP I (hk r hr)
def tNewD (P : Program) (w : World) : TE := fun _ H Q => ∀ p, H p = none → Q (.ref p) (upd H p (DirD P w p []))
theorem pe_dnewD {pos : Pos} : PE X (.Dict [] [] pos) (tNewD X.prog X.w) := ⟨fun pins s σ H Q I h =>
  wpAny_Dict_empty ⟨.ref s.heap.objs.size, _, I.laid (a := s.heap.objs.size) (o := DirD X.prog X.w s.heap.objs.size []) (t' := s.toks) (fun _ _ q => Heap.get?_push_of_some _ q) (Nat.le_refl _)
    (dirD_ok ⟨beq_eq_false_iff_ne.mpr (Ne.symm (Nat.ne_of_lt I.big)), ⟨_, #[], 0, Heap.get?_push_size _ rfl, ⟨rfl, rfl, rfl⟩, rfl, rfl⟩, List.nodup_nil⟩), rfl, h _ (I.hok.fresh (Nat.le_refl _))⟩⟩
def sPutD (K : PySem.W.Frag) (P : Program) (w : World) (td ty tv : TE) : TS := fun D σ H => tv σ H fun v H1 => td σ H1 fun x H2 => ty σ H2 fun y H3 => ∃ (a b : Addr) (rs : Row) (p : Pt), v = .bl true ∧ x = .ref a ∧ y = .ref b ∧
  H3 a = some (DirD P w a rs) ∧ (∀ r ∈ rs, PtA K H3 r.1 r.2) ∧ PtA K H3 b p ∧ rs.length < 1000000 ∧ D.nx σ (upd H3 a (DirD P w a (addRow rs (b, p))))
theorem ps_putD {o i value : Expr} {pos pos' : Pos} {td ty tv : TE} (hu : X.A.units + 1 < cLine) (ho : PE X o td) (hi : PE X i ty) (hv : PE X value tv) (hs : swapsWith value (some (.Subscript o i pos')) pos.line X.env = pure false) :
    PS X (.Assign [.Subscript o i pos'] value pos) (sPutD X.K X.prog X.w td ty tv) := by
  refine ⟨fun pins s σ H D I h => ?_⟩
  refine wpAny_Assign_Subscript (thn (hv.run pins s σ H _ I h) fun r s1 ⟨v, H1, I1, rv, q1⟩ => thn (ho.run pins s1 σ H1 _ I1 q1) fun u s2 ⟨x, H2, I2, rx, q2⟩ => thn (hi.run pins s2 σ H2 _ I2 q2) fun iv s3 ⟨y, H3, I3, ry, q3⟩ => ?_) hs
  obtain ⟨a, b, rs, p, rfl, rfl, rfl, ha, hk, hp, hlen, q⟩ := q3
  obtain rfl : u = Value.ref a := rx
  obtain rfl : iv = Value.ref b := ry
  obtain rfl : r = Value.bool true := rv
  have d : IsDirD X.prog X.w s3.heap a rs := (I3.hok a _ ha).1
  refine wpAny_setItem_heap (hsz := by rw [List.length_map, sizeLine_eq]; omega) (tupleKind_room_in1 hu) (inv_isP I3 hp) (dirD_full I3 d hk) fun h' dd' hsb => ⟨σ, _, d_write I3 (by rw [ha]; exact True.intro) hsb ?_ (dirD_ok ?_), q⟩
  · obtain ⟨o, _, _, ho, _⟩ := dd'
    exact ⟨o, ho⟩
  · obtain ⟨o, es, ep, h1, h2, h3, h4, _, h5⟩ := dd'
    rw [stored_is rs (b, p)] at h4 h5
    refine ⟨d.sys, ⟨o, es, ep, h1, h2, h3, h4⟩, ?_⟩
    rw [List.map_map, List.Nodup, List.pairwise_map] at h5
    rw [pts, List.Nodup, List.pairwise_map]
    exact h5.imp fun hne e => hne (by show keyK _ = keyK _; rw [e])
/-- list of such a dict: its keys, in order. -/
theorem call_listDir (hc : X.calm = true) : CallR X (.type "list") (fun xs H Q => ∃ (d : Addr) (rs : Row), xs = [V.ref d] ∧ H d = some (DirD X.prog X.w d rs) ∧ rs.length < 1000000 ∧ ∀ p, H p = none → Q (.ref p) (upd H p (.lst (refsV rs)))) := by
  intro pins s σ H xs us Q I r h
  obtain ⟨d, rs, rfl, hd, hl, q⟩ := h
  obtain ⟨u, rfl, rx⟩ := r.one
  cases rx
  have D : IsDirD X.prog X.w s.heap d rs := (I.hok d _ hd).1
  obtain ⟨o, es, ep, ho, hx, hdt, he⟩ := D.ob
  have l1 : es.size = rs.length := by
    have := congrArg List.length he
    simpa using this
  refine PySem.W.kdl_call (kdl_raw D.sys hx hdt) (I.ok.hd hc) ho (by rw [l1, sizeLine_eq]; omega) fun h' tk acc' c' kp e it => ?_
  have ea : acc'.toList = rs.map fun x => Value.ref x.1 := by
    apply List.ext_getElem?
    intro j
    rw [List.getElem?_map]
    cases hj : acc'.toList[j]? with
    | none =>
      have h1 := List.getElem?_eq_none_iff.mp hj
      rw [Array.length_toList, it.1, l1] at h1
      rw [List.getElem?_eq_none h1]
      rfl
    | some v =>
      obtain ⟨en, hen, hv⟩ := it.2 j v (by rw [← Array.getElem?_toList]; exact hj)
      rw [← Array.getElem?_toList, he, List.map_map, List.getElem?_map] at hen
      cases hb : rs[j]? with
      | none => rw [hb] at hen; cases hen
      | some b =>
        rw [hb] at hen
        have e2 := Option.some.inj hen
        rw [hv, ← e2]
        rfl
  refine ⟨.ref s.heap.objs.size, _, I.laid (t' := tk) (o := .lst (refsV rs)) kp (Nat.le_refl _) ⟨by rw [refsV_len, sizeLine_eq]; omega, acc'.toList, c', by rw [ea]; exact vals_row rs, by rw [Array.toArray_toList]; exact e⟩, rfl, q _ (I.hok.fresh (Nat.le_refl _))⟩
end
end Sw
set_option maxHeartbeats 2000000
namespace Sw
open PySem PySem.Spec PyProof.Rows L2
open Vbreac (Pt Frac)
section
variable {P : Program} {w : World} {K : PySem.W.Frag} {mg : Str → Option Value} {base : Heap}
/-! ### lowest_direction -/
theorem plain_gcd {n : Pt} (h : n ≠ Vbreac.zero) : 0 < (Nat.gcd n.x.natAbs n.y.natAbs : Int) ∧ Vbreac.plain n = ⟨n.x / (Nat.gcd n.x.natAbs n.y.natAbs : Nat), n.y / (Nat.gcd n.x.natAbs n.y.natAbs : Nat)⟩ := by
  have hg : Nat.gcd n.x.natAbs n.y.natAbs ≠ 0 := by
    intro k
    rw [Nat.gcd_eq_zero_iff] at k
    exact h (Hu.pt_ext (by simp [Vbreac.zero]; omega) (by simp [Vbreac.zero]; omega))
  refine ⟨by omega, ?_⟩
  simp only [Vbreac.plain, if_neg hg]
theorem gcd_bits {n : Pt} (h : Big n) (h0 : n ≠ Vbreac.zero) : (Nat.gcd n.x.natAbs n.y.natAbs : Int).natAbs < 2 ^ 64 := by
  have : Nat.gcd n.x.natAbs n.y.natAbs ≤ 2 ^ 63 := by
    by_cases hx : n.x = 0
    · have hy : 0 < n.y.natAbs := by
        rcases Nat.eq_zero_or_pos n.y.natAbs with z | z
        · exact absurd (Hu.pt_ext (by simpa [Vbreac.zero] using hx) (by simp [Vbreac.zero]; omega)) h0
        · exact z
      have := Nat.gcd_le_right n.x.natAbs hy
      simp only [Big] at h
      omega
    · have := Nat.gcd_le_left n.y.natAbs (show 0 < n.x.natAbs by omega)
      simp only [Big] at h
      omega
  omega
def spLowDir : Sp := fun vs H Q _ => ∃ n : Pt, vs = [.int n.x, .int n.y] ∧ n ≠ Vbreac.zero ∧ Big n ∧ ∀ t, H t = none → Q (.ref t) (upd H t (.tup [.int (Vbreac.plain n).x, .int (Vbreac.plain n).y]))
theorem ok_lowdir {f fG : Addr} {fd fdG : FuncData} {k : Nat} (F : Fun K "lowest_direction" "lowest_direction" s_lowest_direction f fd) (FG : Fun K "greatest_divisor" "greatest_divisor" s_greatest_divisor fG fdG) (bG : Binds K fdG ["m", "n"] []) (gG : mg "greatest_divisor" = some (.ref fG)) (ma : mg "abs" = none) :
    FnOk P w K mg base CX0 (k + 2) f fd ["a", "b"] spLowDir := by
  have GG : FnOk P w K mg base CX0 (k + 1) fG fdG ["m", "n"] spGcd := ok_gcd FG ma
  refine F.ok sc_lowest_direction (fun vs H Q E h => ?_) (fun cdv A outer s H vs Q E hr h => ?_)
  · obtain ⟨n, rfl, _⟩ := h
    rfl
  · obtain ⟨n, rfl, hn, hb, k⟩ := h
    refine ⟨_, pss_cons (ps_set (i := 2) sc_lowest_direction.nd rfl (.inl rfl) (pe_call GG hr rfl gG FG.kp bG .nil pass0 (pa_cons (pv 0) (pa_cons (pv 1) pa_nil))))
      (pss_one (ps_ret (pe_tup (pa_cons (pe_op op_fdivW (pv 0) (pv 2)) (pa_cons (pe_op op_fdivW (pv 1) (pv 2)) pa_nil))))), ?_⟩
    obtain ⟨g2, e⟩ := plain_gcd hn
    have gb := gcd_bits hb hn
    refine ⟨_, rfl, _, rfl, n.x, n.y, rfl, _, rfl, _, rfl, _, _, rfl, rfl, wide_div g2 gb (by decide) (by decide), _, rfl, _, rfl, _, _, rfl, rfl, wide_div g2 gb (by decide) (by decide), (by show 2 ≤ sizeLine; decide), fun t nt => ?_⟩
    have := k t nt
    rw [e] at this
    exact this
/-! ### hull_directions -/
theorem big_small {p : Pt} (h : Big p) : Small p.x ∧ Small p.y := by
  simp only [Big, Small] at *
  omega
theorem div_le (a : Int) {g : Int} (h : 0 < g) : -(2 ^ 63) ≤ a → a ≤ 2 ^ 63 → -(2 ^ 63) ≤ a / g ∧ a / g ≤ 2 ^ 63 := fun h1 h2 => by
  constructor
  · rw [Int.le_ediv_iff_mul_le h]
    have := Int.mul_le_mul_of_nonpos_left (show (-(2 ^ 63) : Int) ≤ 0 by decide) (show (1 : Int) ≤ g by omega)
    omega
  · exact Int.ediv_le_of_le_mul h (by
      have := Int.mul_le_mul_of_nonneg_left (show (1 : Int) ≤ g by omega) (show (0 : Int) ≤ 2 ^ 63 by decide)
      omega)
theorem plain_big {n : Pt} (h : Big n) (h0 : n ≠ Vbreac.zero) : Big (Vbreac.plain n) := by
  obtain ⟨g2, e⟩ := plain_gcd h0
  rw [e]
  exact ⟨div_le _ g2 h.1.1 h.1.2, div_le _ g2 h.2.1 h.2.2⟩
def out (p : Pt) : Pt := ⟨p.y, -p.x⟩
def lookedAt (l : List Pt) : List Pt := (sidesOf l).map out ++ if l.length = 2 then sidesOf l else []
theorem out_minus (p q : Pt) : out (Vbreac.minus q p) = ⟨q.y - p.y, p.x - q.x⟩ := Hu.pt_ext rfl (by show -(q.x - p.x) = p.x - q.x; omega)
theorem dirs_are {l : List Pt} (hl : 0 < l.length) : (lookedAt l).map Vbreac.plain = Vbreac.outward l ++ Vbreac.lengthwise l := by
  unfold lookedAt sidesOf Vbreac.outward Vbreac.lengthwise
  match l, hl with
  | [a], _ => rfl
  | [a, b], _ =>
    show ([out (Vbreac.minus b a), out (Vbreac.minus a b)] ++ [Vbreac.minus b a, Vbreac.minus a b]).map Vbreac.plain = _
    rw [out_minus, out_minus]
    rfl
  | a :: b :: c :: r, _ =>
    have h1 : ¬ (a :: b :: c :: r).length = 1 := by simp
    have h2 : ¬ (a :: b :: c :: r).length < 2 := by simp
    have h3 : ¬ (a :: b :: c :: r).length = 2 := by simp
    rw [if_neg h1, if_neg h2, if_neg h3, List.append_nil, List.append_nil, List.map_map, List.map_map]
    refine List.map_congr_left fun e _ => ?_
    show Vbreac.plain (out (Vbreac.minus e.2 e.1)) = _
    rw [out_minus]
theorem out_big {p : Pt} (h : Big p) : Big (out p) := by
  simp only [Big, out] at *
  omega
theorem out_zero {p : Pt} (h : p ≠ Vbreac.zero) : out p ≠ Vbreac.zero := fun e => h (by
  have h1 := congrArg Pt.x e
  have h2 := congrArg Pt.y e
  simp only [out, Vbreac.zero] at h1 h2
  exact Hu.pt_ext (by simp [Vbreac.zero]; omega) (by simpa [Vbreac.zero] using h1))
def spDirs (K : PySem.W.Frag) : Sp := fun vs H Q _ => ∃ (a : Addr) (rs : Row), vs = [.ref a] ∧ SqL K H a (refsV rs) ∧ RowA K H rs ∧ 0 < rs.length ∧ rs.length < 1000000 ∧ (∀ s ∈ sidesOf (pts rs), s ≠ Vbreac.zero) ∧
  ∀ H' q ks, Same H H' → H q = none → H' q = some (.lst (refsV ks)) → RowB K H' ks → pts ks = Vbreac.outward (pts rs) ++ Vbreac.lengthwise (pts rs) → Q (.ref q) H'
theorem ok_dirs {f fS fL : Addr} {fd fdS fdL : FuncData} {k : Nat} (F : Fun K "hull_directions" "hull_directions" s_hull_directions f fd) (FS : Fun K "hull_sides" "hull_sides" s_hull_sides fS fdS) (bS : Binds K fdS ["corners"] []) (gS : mg "hull_sides" = some (.ref fS))
    (FL : Fun K "lowest_direction" "lowest_direction" s_lowest_direction fL fdL) (bL : Binds K fdL ["a", "b"] []) (gL : mg "lowest_direction" = some (.ref fL)) (ml : mg "len" = none)
    (GS : FnOk P w K mg base CX0 (k + 2) fS fdS ["corners"] (spSides K)) (GL : FnOk P w K mg base CX0 (k + 2) fL fdL ["a", "b"] spLowDir) : FnOk P w K mg base CX0 (k + 3) f fd ["corners"] (spDirs K) := by
  refine F.ok sc_hull_directions (fun vs H Q E h => ?_) (fun cdv A outer s H vs Q E hr h => ?_)
  · obtain ⟨a, rs, rfl, _⟩ := h
    rfl
  · obtain ⟨a, rs, rfl, hS, hR, h0, hlen, hz, k⟩ := h
    refine ⟨_, pss_cons (ps_set (i := 1) sc_hull_directions.nd rfl (.inl rfl) (pe_call GS hr rfl gS FS.kp bS .nil pass0 (pa_cons (pv 0) pa_nil)))
      (pss_cons (ps_setLc (i := 2) (own := [("x", 3), ("y", 4)]) (g := gTup K 2 (gCons (gName 3) (gCons (gName 4) gNil))) (tt := tYes) rfl sc_hull_directions.nd rfl rfl (sw_true rfl rfl rfl (by decide +kernel)) (pi_list (pv 1))
          (blkOk_by (N := ["corners", "sides", "looked_at", "x", "y", "a", "b"]) (sc := defScope s_hull_directions) (by decide +kernel))
          (fun _ _ _ _ _ => pg_tup rfl (pgs_cons (pg_name (i := 3) sc_hull_directions.nd rfl (.inl rfl)) (pgs_cons (pg_name (i := 4) sc_hull_directions.nd rfl (.inl rfl)) pgs_nil))) (fun _ _ _ _ _ => pts_nil) (fun _ _ _ _ _ => pe_tup (pa_cons (pv 4) (pa_cons (pe_un un_neg (pv 3)) pa_nil))))
      (pss_cons (ps_if (pt_cmpR op_eq (pe_callB call_len_seq (by rfl) ml PySem.boot_len (pa_cons (pv 0) pa_nil)) pe_int (nomark _)) (pss_one (ps_set (i := 2) sc_hull_directions.nd rfl (.inl rfl) (pe_op op_cat (pv 2) (pv 1)))) pss_nil)
      (pss_one (ps_ret (pe_lc (own := [("a", 5), ("b", 6)]) (g := gTup K 2 (gCons (gName 5) (gCons (gName 6) gNil))) (tt := tYes) rfl sc_hull_directions.nd (pi_list (pv 2))
          (blkOk_by (N := ["corners", "sides", "looked_at", "x", "y", "a", "b"]) (sc := defScope s_hull_directions) (by decide +kernel))
          (fun _ _ _ _ _ => pg_tup rfl (pgs_cons (pg_name (i := 5) sc_hull_directions.nd rfl (.inl rfl)) (pgs_cons (pg_name (i := 6) sc_hull_directions.nd rfl (.inl rfl)) pgs_nil))) (fun _ _ _ _ _ => pts_nil)
          (fun _ _ _ _ _ => pe_call GL hr rfl gL FL.kp bL .nil pass0 (pa_cons (pv 5) (pa_cons (pv 6) pa_nil)))))))), ?_⟩
    refine ⟨_, rfl, a, rs, rfl, hS, hR, hlen, fun H1 q ks s1 nq hq hk ek => ?_⟩
    have lks : ks.length ≤ rs.length := by
      have := congrArg List.length ek
      rw [pts_len, sidesOf] at this
      split at this
      · rw [List.length_nil] at this; omega
      · rw [List.length_map, ← ring_edges, List.length_map, ringR, List.length_zip, ring_len, Nat.min_self] at this
        omega
    have kz : ∀ r ∈ ks, r.2 ≠ Vbreac.zero := fun r hr' => hz _ (by rw [← ek]; exact List.mem_map_of_mem hr')
    refine ⟨_, rfl, q, rfl, ⟨_, SqL.of hq⟩, fun D nD => lc_list (K := K) (a := q) (xs := refsV ks) (fun i H' => ∃ us : Row, Same H1 H' ∧ H' D = some (.lst (refsV us)) ∧ RowB K H' us ∧ pts us = ((pts ks).take i).map out)
        ⟨[], same_upd nD, upd_same, (fun r hr => nomatch hr), rfl⟩ (fun i H' _ ⟨_, sm, _⟩ => SqL.of (sm _ _ hq)) ?_ ?_⟩
    · rintro i x H' hi ⟨us, sm, hD, hu, eu⟩
      obtain ⟨r, hr', rfl⟩ := refsV_get hi
      have hr2 := (hk.same sm) r (List.mem_of_getElem? hr')
      refine ⟨r.1, _, rfl, hr2.1, rfl, _, _, rfl, _, _, rfl, rfl, rfl, _, rfl, _, rfl, _, rfl, (by show 2 ≤ sizeLine; decide), fun u nu => ?_⟩
      have s3 := same_upd (o := .tup [.int r.2.y, .int (-r.2.x)]) nu
      have hD3 := s3 _ _ hD
      refine ⟨_, hD3, ?_, us ++ [(u, out r.2)], same_grow nD (sm.trans s3), ?_, RowB.updL hD3 ((hu.same s3).snoc (SqT.of upd_same) (out_big hr2.2)), ?_⟩
      · have e1 := congrArg List.length eu
        have e2 := (List.getElem?_eq_some_iff.mp hr').1
        rw [pts_len, List.length_map, List.length_take] at e1
        rw [refsV_len, sizeLine_eq]
        omega
      · rw [upd_same, refsV_snoc]
      · rw [pts_snoc, eu, take_snoc (pts_get hr'), List.map_append]
        rfl
    · rintro H2 ⟨us, sm, hD, hu, eu⟩
      rw [refsV_len, ← pts_len, List.take_length] at eu
      have lus : us.length ≤ rs.length := by
        have := congrArg List.length eu
        rw [pts_len, List.length_map, pts_len] at this
        omega
      have uz : ∀ r ∈ us, r.2 ≠ Vbreac.zero := fun r hr' e => by
        have : r.2 ∈ (pts ks).map out := by rw [← eu]; exact List.mem_map_of_mem hr'
        obtain ⟨p, hp, e2⟩ := List.mem_map.mp this
        obtain ⟨y, hy, rfl⟩ := List.mem_map.mp hp
        exact out_zero (kz y hy) (by rw [e2]; exact e)
      -- the last row, from any list of looked-at directions
      have fin : ∀ (H3 : Hp) (c : Addr) (ls : Row), Same H2 H3 → H3 c = some (.lst (refsV ls)) → RowB K H3 ls → (∀ r ∈ ls, r.2 ≠ Vbreac.zero) → ls.length < 3000000 → pts ls = lookedAt (pts rs) →
          tRet (tLc (iList K (tVar 2)) (gTup K 2 (gCons (gName 5) (gCons (gName 6) gNil))) tYes (tCall spLowDir [] E0 (tCons (tVar 5) (tCons (tVar 6) tNil))) [5, 6]) { nx := fun x H' => Q V.non H', rt := Q } [some (.ref a), some (.ref q), some (.ref c), none, none, none, none] H3 := by
        intro H3 c ls s5 hc hls lz ll el
        refine ⟨_, rfl, c, rfl, ⟨_, SqL.of hc⟩, fun D2 nD2 => lc_list (K := K) (a := c) (xs := refsV ls) (fun i H' => ∃ us : Row, Same H3 H' ∧ H' D2 = some (.lst (refsV us)) ∧ RowB K H' us ∧ pts us = ((pts ls).take i).map Vbreac.plain)
          ⟨[], same_upd nD2, upd_same, (fun r hr => nomatch hr), rfl⟩ (fun i H' _ ⟨_, sm, _⟩ => SqL.of (sm _ _ hc)) ?_ ?_⟩
        · rintro i x H' hi ⟨us, sm, hD, hu, eu⟩
          obtain ⟨r, hr', rfl⟩ := refsV_get hi
          have hr2 := (hls.same sm) r (List.mem_of_getElem? hr')
          have rz := lz r (List.mem_of_getElem? hr')
          refine ⟨r.1, _, rfl, hr2.1, rfl, _, _, rfl, _, _, rfl, rfl, rfl, _, rfl, _, rfl, r.2, rfl, rz, hr2.2, fun u nu => ?_⟩
          have s3 := same_upd (o := .tup [.int (Vbreac.plain r.2).x, .int (Vbreac.plain r.2).y]) nu
          have hD3 := s3 _ _ hD
          refine ⟨_, hD3, ?_, us ++ [(u, Vbreac.plain r.2)], same_grow nD2 (sm.trans s3), ?_, RowB.updL hD3 ((hu.same s3).snoc (SqT.of upd_same) (plain_big hr2.2 rz)), ?_⟩
          · have e1 := congrArg List.length eu
            have e2 := (List.getElem?_eq_some_iff.mp hr').1
            rw [pts_len, List.length_map, List.length_take] at e1
            rw [refsV_len, sizeLine_eq]
            omega
          · rw [upd_same, refsV_snoc]
          · rw [pts_snoc, eu, take_snoc (pts_get hr'), List.map_append]
            rfl
        · rintro H4 ⟨us, sm, hD, hu, eu⟩
          rw [refsV_len, ← pts_len, List.take_length, el, dirs_are (by rw [pts_len]; exact h0)] at eu
          have sB := (s1.trans ‹Same H1 H2›).trans s5
          exact k H4 D2 us (sB.trans sm) (sB.free nD2) hD hu eu
      have eo : (sidesOf (pts rs)).map out = pts us := by rw [eu, ek]
      refine ⟨_, rfl, a, _, rfl, .inl ((s1.trans sm).seq hS), rfl, _, rfl, ite2 (fun e => ?_) (fun e => ?_)⟩
      · have e1 : ((refsV rs).length : Int) = 2 := V.int.inj (of_decide_eq_true e)
        rw [refsV_len] at e1
        refine ⟨_, rfl, _, rfl, D, q, _, _, rfl, rfl, hD, sm _ _ hq, by rw [refsV_len, refsV_len, sizeLine_eq]; omega, fun c nc => ?_⟩
        rw [refsV_app]
        have s4 := same_upd (o := .lst (refsV (us ++ ks))) nc
        refine fin _ c (us ++ ks) s4 upd_same (fun r hr' => ?_) (fun r hr' => ?_) (by rw [List.length_append]; omega) ?_
        · rcases List.mem_append.1 hr' with z | z
          · exact (hu.same s4) r z
          · exact ((hk.same sm).same s4) r z
        · rcases List.mem_append.1 hr' with z | z
          · exact uz r z
          · exact kz r z
        · rw [← pts_app, lookedAt, if_pos (by rw [pts_len]; omega), eo, ek]
      · have e1 : ¬ (pts rs).length = 2 := fun z => e (decide_eq_true (by
          rw [pts_len] at z
          rw [refsV_len, z]
          rfl))
        exact fin H2 D us (fun _ _ z => z) hD hu uz (by omega) (by rw [lookedAt, if_neg e1, eo, List.append_nil])
end
end Sw
set_option maxHeartbeats 2000000
namespace Sw
open PySem PySem.Spec PyProof.Rows L2
open Vbreac (Pt Frac)
section
variable {P : Program} {w : World} {K : PySem.W.Frag} {mg : Str → Option Value} {base : Heap}
/-! ### all_directions -/
def addP (l : List Pt) (p : Pt) : List Pt := if p ∈ l then l else l ++ [p]
theorem addRow_pts (rs : Row) (r : Addr × Pt) : pts (addRow rs r) = addP (pts rs) r.2 := by
  unfold addRow addP
  split
  · rfl
  · rw [← pts_app]
    rfl
theorem addRow_len (rs : Row) (r : Addr × Pt) : (addRow rs r).length ≤ rs.length + 1 := by
  unfold addRow
  split
  · omega
  · simp
theorem fold_firsts : ∀ (L acc : List Pt), L.foldl addP acc = acc ++ (Vbreac.firsts L).filter fun q => decide (q ∉ acc)
  | [], acc => by simp [Vbreac.firsts]
  | p :: L, acc => by
    rw [List.foldl_cons, fold_firsts L, Vbreac.firsts]
    unfold addP
    by_cases h : p ∈ acc
    · rw [if_pos h, List.filter_cons, if_neg (by simpa using h), List.filter_filter]
      congr 1
      refine List.filter_congr fun q _ => ?_
      by_cases hq : q ∈ acc
      · simp [hq]
      · have : q ≠ p := fun e => hq (e ▸ h)
        simp [hq, this]
    · rw [if_neg h, List.filter_cons, if_pos (by simpa using h), List.filter_filter, List.append_assoc]
      congr 1
      show p :: _ = p :: _
      congr 1
      refine List.filter_congr fun q _ => ?_
      by_cases hq : q ∈ acc <;> by_cases hp : q = p <;> simp [hq, hp]
theorem known_dirs (L : List Pt) : L.foldl addP [] = Vbreac.firsts L := by
  rw [fold_firsts, List.nil_append, List.filter_eq_self.mpr]
  simp
/-- A tuple stands as it was where something else is written. -/
theorem sqT_upd {H : Hp} {D b : Addr} {xs : List V} {u o : HO} (hD : H D = some u) (h1 : ∀ ys, u ≠ .tup ys) (h2 : ∀ z y, u ≠ .frz z y) (r : SqT K H b xs) : SqT K (upd H D o) b xs := by
  rcases r with r | r
  · rcases r with r | ⟨z, r⟩
    · exact .inl (.inl (by rw [upd_ne (ne_of r hD (fun q => h1 _ q.symm))]; exact r))
    · exact .inl (.inr ⟨z, by rw [upd_ne (ne_of r hD (fun q => h2 _ _ q.symm))]; exact r⟩)
  · exact .inr r
theorem sqL_upd {H : Hp} {D b : Addr} {xs : List V} {u o : HO} (hD : H D = some u) (h1 : ∀ ys, u ≠ .lst ys) (h2 : ∀ z y, u ≠ .frz z y) (r : SqL K H b xs) : SqL K (upd H D o) b xs := by
  rcases r with r | r
  · rcases r with r | ⟨z, r⟩
    · exact .inl (.inl (by rw [upd_ne (ne_of r hD (fun q => h1 _ q.symm))]; exact r))
    · exact .inl (.inr ⟨z, by rw [upd_ne (ne_of r hD (fun q => h2 _ _ q.symm))]; exact r⟩)
  · exact .inr r
theorem RowB.updD {H : Hp} {D : Addr} {rs us : Row} {o : HO} (hD : H D = some (DirD P w D us)) (h : RowB K H rs) : RowB K (upd H D o) rs := fun r hr => ⟨sqT_upd hD (fun _ z => by unfold DirD at z; cases z) (fun _ _ z => by unfold DirD at z; cases z) (h r hr).1, (h r hr).2⟩
theorem RowB.add {H : Hp} {rs : Row} {r : Addr × Pt} (h : RowB K H rs) (hr : PtA K H r.1 r.2 ∧ Big r.2) : RowB K H (addRow rs r) := fun q hq => by
  unfold addRow at hq
  split at hq
  · exact h q hq
  · rcases List.mem_append.1 hq with z | z
    · exact h q z
    · simp only [List.mem_cons, List.not_mem_nil, or_false] at z
      rw [z]
      exact hr
/-- A hull as the program keeps it. -/
structure HullA (K : PySem.W.Frag) (H : Hp) (h : Addr × Row) : Prop where
  list : SqL K H h.1 (refsV h.2)
  row : RowA K H h.2
  pos : 0 < h.2.length
  few : h.2.length < 1000
  side : ∀ s ∈ sidesOf (pts h.2), s ≠ Vbreac.zero
theorem HullA.same {H H' : Hp} {h : Addr × Row} (s : Same H H') (x : HullA K H h) : HullA K H' h := ⟨s.seq x.list, x.row.same s, x.pos, x.few, x.side⟩
def hullsV (hs : List (Addr × Row)) : List V := hs.map fun h => V.ref h.1
structure AxesA (K : PySem.W.Frag) (mg : Str → Option Value) (aX : Addr) (xs : Row) : Prop where
  glob : mg "AXES" = some (.ref aX)
  tup : ∀ H, SqT K H aX (refsV xs)
  row : ∀ H, RowB K H xs
  pts : pts xs = Vbreac.AXES
def spAll (K : PySem.W.Frag) : Sp := fun vs H Q _ => ∃ (a : Addr) (hs : List (Addr × Row)), vs = [.ref a] ∧ SqL K H a (hullsV hs) ∧ (∀ h ∈ hs, HullA K H h) ∧ hs.length < 100 ∧
  ∀ H' q ks, Same H H' → H q = none → H' q = some (.lst (refsV ks)) → RowB K H' ks → ks.length < 400000 → pts ks = Vbreac.directions (hs.map fun h => pts h.2) → Q (.ref q) H'
theorem hulls_get {hs : List (Addr × Row)} {i : Nat} {x : V} (h : (hullsV hs)[i]? = some x) : ∃ r, hs[i]? = some r ∧ x = .ref r.1 := by
  unfold hullsV at h
  rw [List.getElem?_map] at h
  cases e : hs[i]? with
  | none => rw [e] at h; cases h
  | some r => rw [e] at h; exact ⟨r, rfl, (Option.some.inj h).symm⟩
def dirsOf (h : List Pt) : List Pt := Vbreac.outward h ++ Vbreac.lengthwise h
theorem dirs_len (l : List Pt) : (Vbreac.outward l ++ Vbreac.lengthwise l).length ≤ l.length + 2 := by
  rw [List.length_append]
  have h1 : (Vbreac.outward l).length ≤ l.length := by
    unfold Vbreac.outward
    split
    · exact Nat.zero_le _
    · rw [List.length_map, Vbreac.edges, List.length_zip]
      exact Nat.min_le_left _ _
  have h2 : (Vbreac.lengthwise l).length ≤ 2 := by
    unfold Vbreac.lengthwise
    split <;> simp
  omega
theorem ok_all {f fD : Addr} {fd fdD : FuncData} {aX : Addr} {xs : Row} {k : Nat} (F : Fun K "all_directions" "all_directions" s_all_directions f fd) (FD : Fun K "hull_directions" "hull_directions" s_hull_directions fD fdD) (bD : Binds K fdD ["corners"] []) (gD : mg "hull_directions" = some (.ref fD))
    (mi : mg "list" = none) (AX : AxesA K mg aX xs) (GD : FnOk P w K mg base CX0 (k + 3) fD fdD ["corners"] (spDirs K)) : FnOk P w K mg base CX0 (k + 4) f fd ["hulls"] (spAll K) := by
  refine F.ok sc_all_directions (fun vs H Q E h => ?_) (fun cdv A outer s H vs Q E hr h => ?_)
  · obtain ⟨a, hs, rfl, _⟩ := h
    rfl
  · obtain ⟨a, hs, rfl, hS, hH, hlen, k⟩ := h
    have hu := hu_of hr
    refine ⟨_, pss_cons (ps_set (i := 1) sc_all_directions.nd rfl (.inl rfl) pe_dnewD)
      (pss_cons (ps_for PassesOwn.never rfl (pi_list (pv 0)) (pg_name (i := 2) sc_all_directions.nd rfl (.inl rfl))
        (pss_one (ps_for PassesOwn.never rfl (pi_list (pe_call GD hr rfl gD FD.kp bD .nil pass0 (pa_cons (pv 2) pa_nil))) (pg_name (i := 3) sc_all_directions.nd rfl (.inl rfl))
          (pss_one (ps_putD hu (pv 1) (pv 3) pe_bl rfl)))))
      (pss_cons (ps_for PassesOwn.never rfl (pi_tup (pe_glob rfl AX.glob (show RelV (V.ref aX) (Value.ref aX) from rfl))) (pg_name (i := 4) sc_all_directions.nd rfl (.inl rfl))
          (pss_one (ps_putD hu (pv 1) (pv 4) pe_bl rfl)))
      (pss_one (ps_ret (pe_callTy (call_listDir rfl) (by rfl) mi (by decide +kernel) (pa_cons (pv 1) pa_nil)))))), ?_⟩
    intro d nd
    have s1 : Same H (upd H d (DirD P w d [])) := same_upd nd
    refine ⟨_, rfl, a, rfl, ⟨_, s1.seq hS⟩, for_list (K := K) (a := a) (xs := hullsV hs) (fun i σ H' => ∃ (v2 v3 : Option V) (rs : Row), σ = [some (.ref a), some (.ref d), v2, v3, none] ∧ Same H H' ∧ H' d = some (DirD P w d rs) ∧ RowB K H' rs ∧ rs.length ≤ 3000 * i ∧ pts rs = ((hs.take i).flatMap fun h => dirsOf (pts h.2)).foldl addP [])
      ⟨none, none, [], rfl, s1, upd_same, (fun r hr => nomatch hr), Nat.zero_le _, rfl⟩ (fun i σ H' _ ⟨_, _, _, _, s5, _⟩ => s5.seq hS) ?_ ?_⟩
    · rintro i x σ H' hi ⟨v2, v3, rs, rfl, sm, hd, hrs, lrs, ers⟩
      obtain ⟨h, hh, rfl⟩ := hulls_get hi
      have hA := (hH h (List.mem_of_getElem? hh)).same sm
      refine ⟨_, rfl, h.1, h.2, rfl, hA.list, hA.row, hA.pos, Nat.lt_trans hA.few (by decide), hA.side, fun H2 q ks s2 nq hq hk ek => ?_⟩
      have lks : ks.length < 3000 := by
        have e1 := congrArg List.length ek
        have e2 := dirs_len (pts h.2)
        have e3 := hA.few
        rw [pts_len] at e1 e2
        omega
      refine ⟨q, rfl, ⟨_, SqL.of hq⟩, for_list (K := K) (a := q) (xs := refsV ks) (fun j σ H' => ∃ (v3 : Option V) (us : Row), σ = [some (.ref a), some (.ref d), some (.ref h.1), v3, none] ∧ Same H H' ∧ H' q = some (.lst (refsV ks)) ∧ RowB K H' ks ∧ H' d = some (DirD P w d us) ∧ RowB K H' us ∧ us.length ≤ 3000 * i + j ∧ pts us = ((pts ks).take j).foldl addP (pts rs))
        ⟨v3, rs, rfl, sm.trans s2, hq, hk, s2 _ _ hd, hrs.same s2, lrs, rfl⟩ (fun j σ H' _ ⟨_, _, _, _, z, _⟩ => SqL.of z) ?_ ?_⟩
      · rintro j y σ H3 hj ⟨v3, us, rfl, sm3, hq3, hk3, hd3, hus, lus, eus⟩
        obtain ⟨r, hr', rfl⟩ := refsV_get hj
        have hr2 := hk3 r (List.mem_of_getElem? hr')
        have jl := (List.getElem?_eq_some_iff.mp hr').1
        have il := (List.getElem?_eq_some_iff.mp hh).1
        refine ⟨_, rfl, _, rfl, d, r.1, us, r.2, rfl, rfl, rfl, hd3, fun z hz => (hus z hz).1, hr2.1, by omega, ?_⟩
        refine ⟨_, addRow us r, rfl, same_grow nd sm3, ?_, RowB.updD hd3 hk3, upd_same, RowB.updD hd3 (hus.add hr2), ?_, ?_⟩
        · rw [upd_ne (ne_of hq3 hd3 (by intro z; unfold DirD at z; cases z))]
          exact hq3
        · have := addRow_len us r
          omega
        · rw [addRow_pts, eus, take_snoc (pts_get hr'), List.foldl_append]
          rfl
      · rintro σ H3 ⟨v3, us, rfl, sm3, hq3, hk3, hd3, hus, lus, eus⟩
        rw [refsV_len] at lus
        rw [refsV_len, ← pts_len, List.take_length] at eus
        refine ⟨_, _, us, rfl, sm3, hd3, hus, by omega, ?_⟩
        rw [eus, ers, take_snoc hh, List.flatMap_append, List.foldl_append, ek]
        simp [dirsOf]
    · rintro σ H2 ⟨v2, v3, rs, rfl, sm, hd, hrs, lrs, ers⟩
      rw [hullsV, List.length_map] at lrs ers
      rw [List.take_length] at ers
      refine ⟨aX, rfl, ⟨_, AX.tup _⟩, for_tup (K := K) (a := aX) (xs := refsV xs) (fun j σ H' => ∃ (v4 : Option V) (us : Row), σ = [some (.ref a), some (.ref d), v2, v3, v4] ∧ Same H H' ∧ H' d = some (DirD P w d us) ∧ RowB K H' us ∧ us.length ≤ 300000 + j ∧ pts us = ((pts xs).take j).foldl addP (pts rs))
        ⟨none, rs, rfl, sm, hd, hrs, by omega, rfl⟩ (fun j σ H' _ _ => AX.tup _) ?_ ?_⟩
      · rintro j y σ H3 hj ⟨v4, us, rfl, sm3, hd3, hus, lus, eus⟩
        obtain ⟨r, hr', rfl⟩ := refsV_get hj
        have hr2 := AX.row H3 r (List.mem_of_getElem? hr')
        have jl := (List.getElem?_eq_some_iff.mp hr').1
        have xl : xs.length = 4 := by rw [← pts_len, AX.pts]; rfl
        refine ⟨_, rfl, _, rfl, d, r.1, us, r.2, rfl, rfl, rfl, hd3, fun z hz => (hus z hz).1, hr2.1, by omega, ?_⟩
        refine ⟨_, addRow us r, rfl, same_grow nd sm3, upd_same, RowB.updD hd3 (hus.add hr2), ?_, ?_⟩
        · have := addRow_len us r
          omega
        · rw [addRow_pts, eus, take_snoc (pts_get hr'), List.foldl_append]
          rfl
      · rintro σ H3 ⟨v4, us, rfl, sm3, hd3, hus, lus, eus⟩
        have xl : xs.length = 4 := by rw [← pts_len, AX.pts]; rfl
        rw [refsV_len] at lus
        rw [refsV_len, ← pts_len, List.take_length, AX.pts, ers, ← List.foldl_append, known_dirs] at eus
        refine ⟨_, rfl, d, us, rfl, hd3, by omega, fun p np => k _ p us (sm3.trans (same_upd np)) (sm3.free np) upd_same (hus.same (same_upd np)) (by omega) ?_⟩
        rw [eus, Vbreac.directions, List.flatMap_map]
        rfl
end
end Sw
set_option maxHeartbeats 2000000
namespace Sw
open PySem PySem.Spec PyProof.Rows L2 LamX
open Vbreac (Pt Frac)
section
variable {P : Program} {w : World} {K : PySem.W.Frag} {mg : Str → Option Value} {base : Heap}
/-! ### support_row -/
def IsSail (h : List Pt) : Prop := ∃ l : List Pt, Vbreac.zero ∈ l ∧ h = Vbreac.hullOf l
theorem supp_eq {h : List Pt} {n : Pt} {M : Int} (hs : IsSail h) (h1 : ∃ p ∈ h, Vbreac.dot p n = M) (h2 : ∀ p ∈ h, Vbreac.dot p n ≤ M) : M = Vbreac.support h n := by
  obtain ⟨l, h0, rfl⟩ := hs
  have hne : l ≠ [] := by rintro rfl; cases h0
  obtain ⟨⟨v, hv, e⟩, f, _⟩ := Hu.support_is h0 n
  obtain ⟨p, hp, ep⟩ := h1
  have a := h2 v hv
  have b := f p (Hu.hull_sub hne p hp)
  omega
def spRow (K : PySem.W.Frag) : Sp := fun vs H Q _ => ∃ (a b : Addr) (rs ds : Row), vs = [.ref a, .ref b] ∧ SqL K H a (refsV rs) ∧ RowA K H rs ∧ 0 < rs.length ∧ rs.length < 1000000 ∧ IsSail (pts rs) ∧ SqL K H b (refsV ds) ∧ RowB K H ds ∧ ds.length < 1000000 ∧
  ∀ H' q, Same H H' → H q = none → H' q = some (.lst (((pts ds).map fun n => Vbreac.support (pts rs) n).map V.int)) → Q (.ref q) H'
theorem ok_row {f fS : Addr} {fd fdS : FuncData} {k : Nat} (F : Fun K "support_row" "support_row" s_support_row f fd) (FS : Fun K "hull_support" "hull_support" s_hull_support fS fdS) (bS : Binds K fdS ["corners", "direction"] []) (gS : mg "hull_support" = some (.ref fS))
    (GS : FnOk P w K mg base CX0 (k + 2) fS fdS ["corners", "direction"] (spSupp K)) : FnOk P w K mg base CX0 (k + 3) f fd ["corners", "directions"] (spRow K) := by
  refine F.ok sc_support_row (fun vs H Q E h => ?_) (fun cdv A outer s H vs Q E hr h => ?_)
  · obtain ⟨a, b, rs, ds, rfl, _⟩ := h
    rfl
  · obtain ⟨a, b, rs, ds, rfl, hS, hR, h0, hlen, hsl, hD, hds, dlen, k⟩ := h
    refine ⟨_, pss_one (ps_ret (pe_lc (own := [("direction", 2)]) (g := gName 2) (tt := tYes) rfl sc_support_row.nd (pi_list (pv 1))
        (blkOk_by (N := ["corners", "directions", "direction"]) (sc := defScope s_support_row) (by decide +kernel))
        (fun _ _ _ _ _ => pg_name (i := 2) sc_support_row.nd rfl (.inl rfl)) (fun _ _ _ _ _ => pts_nil)
        (fun _ _ _ _ _ => pe_call GS hr rfl gS FS.kp bS .nil pass0 (pa_cons (pv 0) (pa_cons (pv 2) pa_nil))))), ?_⟩
    refine ⟨_, rfl, b, rfl, ⟨_, hD⟩, fun D nD => lc_list (K := K) (a := b) (xs := refsV ds) (fun i H' => Same H H' ∧ H' D = some (.lst ((((pts ds).take i).map fun n => Vbreac.support (pts rs) n).map V.int)))
        ⟨same_upd nD, upd_same⟩ (fun i H' _ ⟨sm, _⟩ => sm.seq hD) ?_ ?_⟩
    · rintro i x H' hi ⟨sm, hDD⟩
      obtain ⟨r, hr', rfl⟩ := refsV_get hi
      have hr2 := hds r (List.mem_of_getElem? hr')
      have sb := big_small hr2.2
      refine ⟨rfl, _, rfl, _, rfl, a, r.1, rs, r.2, rfl, sm.seq hS, fun q hq => same_pt sm (hR q hq).1, same_pt sm hr2.1, sb.1, sb.2, h0, hlen, fun H2 M s2 m1 m2 => ?_⟩
      rw [supp_eq hsl m1 m2]
      have il := (List.getElem?_eq_some_iff.mp hr').1
      refine ⟨_, s2 _ _ hDD, ?_, same_grow nD (sm.trans s2), ?_⟩
      · rw [List.length_map, List.length_map, List.length_take, sizeLine_eq]
        omega
      · rw [upd_same, take_snoc (pts_get hr'), List.map_append, List.map_append]
        rfl
    · rintro H' ⟨sm, hDD⟩
      rw [refsV_len, ← pts_len, List.take_length] at hDD
      exact k H' D sm nD hDD
/-! ### outer_corners -/
theorem first_min (g : Pt → Int) : ∀ (r : List Pt) (v : Pt) (i : Nat) (p : Pt), (v :: r)[i]? = some p → (∀ q ∈ v :: r, ¬ g q < g p) → (∀ (j : Nat) (q : Pt), j < i → (v :: r)[j]? = some q → g p < g q) →
    r.foldl (fun a q => if g q < g a then q else a) v = p
  | [], v, i, p, h, _, _ => by
    cases i with
    | zero => exact Option.some.inj h
    | succ i => simp at h
  | u :: r, v, i, p, h, h1, h2 => by
    rw [List.foldl_cons]
    cases i with
    | zero =>
      have e : v = p := Option.some.inj h
      subst e
      rw [if_neg (h1 u (by simp))]
      exact first_min g r v 0 v rfl (fun q hq => h1 q (by rcases List.mem_cons.1 hq with z | z <;> simp [z])) (fun j q hj => by omega)
    | succ i =>
      have h' : (u :: r)[i]? = some p := h
      by_cases c : g u < g v
      · rw [if_pos c]
        exact first_min g r u i p h' (fun q hq => h1 q (List.mem_cons_of_mem _ hq)) (fun j q hj hq => h2 (j + 1) q (by omega) hq)
      · rw [if_neg c]
        have pv : g p < g v := h2 0 v (by omega) rfl
        cases i with
        | zero =>
          have e : u = p := Option.some.inj h'
          subst e
          exact absurd pv c
        | succ i =>
          refine first_min g r v (i + 1) p h' (fun q hq => h1 q (by rcases List.mem_cons.1 hq with z | z <;> simp [z])) (fun j q hj hq => ?_)
          cases j with
          | zero =>
            have e : v = q := Option.some.inj hq
            subst e
            exact pv
          | succ j => exact h2 (j + 2) q (by omega) hq
theorem right_at {n : Pt} {f : List Pt} {i : Nat} {p : Pt} (h : f[i]? = some p) (h1 : ∀ q ∈ f, ¬ Vbreac.cross n q < Vbreac.cross n p) (h2 : ∀ (j : Nat) (q : Pt), j < i → f[j]? = some q → Vbreac.cross n p < Vbreac.cross n q) : Vbreac.rightEnd n f = p := by
  cases f with
  | nil => simp at h
  | cons v r => exact first_min (Vbreac.cross n) r v i p h h1 h2
theorem left_at {n : Pt} {f : List Pt} {i : Nat} {p : Pt} (h : f[i]? = some p) (h1 : ∀ q ∈ f, ¬ Vbreac.cross n q > Vbreac.cross n p) (h2 : ∀ (j : Nat) (q : Pt), j < i → f[j]? = some q → Vbreac.cross n p > Vbreac.cross n q) : Vbreac.leftEnd n f = p := by
  cases f with
  | nil => simp at h
  | cons v r =>
    have := first_min (fun q => - Vbreac.cross n q) r v i p h (fun q hq => by have := h1 q hq; omega) (fun j q hj hq => by have := h2 j q hj hq; omega)
    have e : (fun (a q : Pt) => if - Vbreac.cross n q < - Vbreac.cross n a then q else a) = fun a q => if Vbreac.cross n a < Vbreac.cross n q then q else a := by
      funext a q
      by_cases c : Vbreac.cross n a < Vbreac.cross n q
      · rw [if_pos (by omega), if_pos c]
      · rw [if_neg (by omega), if_neg c]
    rw [e] at this
    exact this
/-- What stays where lambdas are made: all but the tables of code objects, which grow. -/
structure Keep (T : List (Addr × Str)) (H H' : Hp) : Prop where
  ext : ExtN H H'
  tabs : Tabs T H'
theorem Keep.pt {T : List (Addr × Str)} {H H' : Hp} {a : Addr} {p : Pt} (k : Keep T H H') (h : PtA K H a p) : PtA K H' a p := sqT_extN k.ext h
def spOuter (K : PySem.W.Frag) (T : List (Addr × Str)) : Sp := fun vs H Q _ => ∃ (a b : Addr) (rs : Row) (n : Pt), vs = [.ref a, .ref b] ∧ SqL K H a (refsV rs) ∧ (∀ r ∈ rs, PtA K H r.1 r.2) ∧ PtA K H b n ∧ Small n.x ∧ Small n.y ∧ 0 < rs.length ∧ rs.length < 1000000 ∧ IsSail (pts rs) ∧ Tabs T H ∧
  ∀ H' t (r l : Addr × Pt), Keep T H H' → H' t = some (.tup [.ref r.1, .ref l.1]) → r ∈ rs → l ∈ rs → r.2 = Vbreac.rightEnd n (Vbreac.face (pts rs) n) → l.2 = Vbreac.leftEnd n (Vbreac.face (pts rs) n) → Q (.ref t) H'
theorem face_row {rs : Row} {n : Pt} {M : Int} (e : M = Vbreac.support (pts rs) n) : pts (rs.filter fun r => decide (Vbreac.dot r.2 n = M)) = Vbreac.face (pts rs) n := by
  subst e
  unfold Vbreac.face pts
  rw [List.filter_map]
  rfl
/-- The rule for a def, its code object told. -/
theorem okC {x qual : Str} {st : Stmt} {f : Addr} {fd : FuncData} {N ps : List Str} {k : Nat} {sp : Sp} (F : Fun K x qual st f fd) (S : FnScope N ps (defScope st)) (len : ∀ vs H Q E, sp vs H Q E → vs.length = ps.length)
    (hbody : ∀ (cdv : Value) (A : Around) (outer : List Env) (s : Shared) (H : Hp) (vs : List V) (Q : VK) (E : XK), fd.code = cdv → Room k (A.deeper (envOfC qual (defScope st) s.heap.objs.size f cdv)) → sp vs H Q E →
      ∃ t, PSs (cxOf CX0 P w K mg base N qual (defScope st) f cdv A outer s H E).nox (defBody st) t ∧ t { nx := fun _ H' => Q .non H', rt := Q } (L2.start N vs) H) : FnOk P w K mg base CX0 (k + 1) f fd ps sp := by
  obtain ⟨oc, od, kV, doc, pm, an, cdv, ct, osl, rfl, lk, hcd⟩ := F.ex
  refine fn_of lk hcd S len fun A outer s H vs Q E hr hsp => ?_
  obtain ⟨t, h, q⟩ := hbody cdv A outer s H vs Q E rfl hr hsp
  exact ⟨t, h.nox, q⟩
def lamTabs (tb : Addr) : List (Addr × Str) := [(tb, ("outer_corners" : Str) ++ ".<locals>." ++ "<lambda>")]
theorem ok_outer {f fF fC c tb : Addr} {fd fdF fdC : FuncData} {k : Nat} (F : Fun K "outer_corners" "outer_corners" s_outer_corners f fd) (hcd : fd.code = .ref c) (TB : TabB base mg c tb) (FF : Fun K "furthest_corners" "furthest_corners" s_furthest_corners fF fdF) (bF : Binds K fdF ["corners", "direction"] []) (gF : mg "furthest_corners" = some (.ref fF))
    (FC : Fun K "cross" "cross" s_cross fC fdC) (bC : Binds K fdC ["p", "q"] []) (gC : mg "cross" = some (.ref fC)) (mn : mg "min" = none) (mm : mg "max" = none) (GF : FnOk P w K mg base CX0 (k + 3) fF fdF ["corners", "direction"] (spFurth K)) :
    FnOk P w K mg base CX0 (k + 4) f fd ["corners", "direction"] (spOuter K (lamTabs tb)) := by
  have GC : FnOk P w K mg base CX0 (k + 1) fC fdC ["p", "q"] (spCross K) := ok_cross FC
  refine okC F sc_outer_corners (fun vs H Q E h => ?_) (fun cdv A outer s H vs Q E hcc hr h => ?_)
  · obtain ⟨a, b, rs, n, rfl, _⟩ := h
    rfl
  · obtain ⟨a, b, rs, n, rfl, hS, hR, hn, n1, n2, h0, hlen, hsl, hT, kq⟩ := h
    have hcode : cdv = .ref c := hcc.symm.trans hcd
    subst hcode
    refine ⟨_, pss_cons (ps_set (i := 2) sc_outer_corners.nd rfl (.inl rfl) (pe_call GF hr rfl gF FF.kp bF .nil pass0 (pa_cons (pv 0) (pa_cons (pv 1) pa_nil))))
      (pss_cons (ps_set (i := 3) sc_outer_corners.nd rfl (.inl rfl) (pe_minKey (T := lamTabs tb) (par := "corner") (fr := ["direction"]) (js := [1]) (k := k + 1) rfl rfl mn (pa_cons (pv 2) pa_nil) TB rfl List.mem_cons_self (fun q hq _ => by rw [List.mem_singleton.mp hq]; rfl) (lamP_by (sc := defScope s_outer_corners) (by decide +kernel)) hr
          (fun fl cl A outer s H hr2 => pe_call GC hr2 rfl gC FC.kp bC .nil pass0 (pa_cons (pv 1) (pa_cons (pv 0) pa_nil))) (by decide) rfl))
      (pss_cons (ps_set (i := 4) sc_outer_corners.nd rfl (.inl rfl) (pe_maxKey (T := lamTabs tb) (par := "corner") (fr := ["direction"]) (js := [1]) (k := k + 1) rfl rfl mm (pa_cons (pv 2) pa_nil) TB rfl List.mem_cons_self (fun q hq _ => by rw [List.mem_singleton.mp hq]; rfl) (lamP_by (sc := defScope s_outer_corners) (by decide +kernel)) hr
          (fun fl cl A outer s H hr2 => pe_call GC hr2 rfl gC FC.kp bC .nil pass0 (pa_cons (pv 1) (pa_cons (pv 0) pa_nil))) (by decide) rfl))
      (pss_one (ps_ret (pe_tup (pa_cons (pv 3) (pa_cons (pv 4) pa_nil))))))), ?_⟩
    refine ⟨_, rfl, _, rfl, a, b, rs, n, rfl, hS, hR, hn, n1, n2, h0, hlen, fun H1 q M s1 nq m1 m2 hq => ?_⟩
    have eM := supp_eq hsl m1 m2
    generalize hfs : (rs.filter fun r => decide (Vbreac.dot r.2 n = M)) = fs at hq
    have ef : pts fs = Vbreac.face (pts rs) n := by rw [← hfs]; exact face_row eM
    have fsub : ∀ r ∈ fs, r ∈ rs := fun r hr' => by rw [← hfs] at hr'; exact (List.mem_filter.mp hr').1
    have fne : fs.map (·.1) ≠ [] := fun z => by
      obtain ⟨p, hp, e⟩ := m1
      obtain ⟨r, hr', rfl⟩ := List.mem_map.mp hp
      have : r ∈ fs := by rw [← hfs]; exact List.mem_filter.mpr ⟨hr', decide_eq_true e⟩
      rw [List.map_eq_nil_iff] at z
      rw [z] at this
      cases this
    have er : refsV fs = (fs.map (·.1)).map V.ref := by
      unfold refsV
      rw [List.map_map]
      rfl
    have at_ : ∀ {i : Nat} {p : Addr}, (fs.map (·.1))[i]? = some p → ∃ r, fs[i]? = some r ∧ r.1 = p ∧ r ∈ rs := fun {i p} hi => by
      rw [List.getElem?_map] at hi
      cases e : fs[i]? with
      | none => rw [e] at hi; cases hi
      | some r => rw [e] at hi; exact ⟨r, rfl, Option.some.inj hi, fsub r (List.mem_of_getElem? e)⟩
    have kfi : ∀ {i : Nat} {r : Addr × Pt}, fs[i]? = some r → (fun i => Vbreac.cross n (((fs[i]?).map (·.2)).getD Vbreac.zero)) i = Vbreac.cross n r.2 := fun {i r} h => by
      show Vbreac.cross n (((fs[i]?).map (·.2)).getD Vbreac.zero) = _
      rw [h]
      rfl
    have T1 : Tabs (lamTabs tb) H1 := hT.ext fun x o e => s1 x o e
    have keys : ∀ (H2 : Hp), ExtN H1 H2 → ∀ (i : Nat) (p : Addr) (H' : Hp), (fs.map (·.1))[i]? = some p → ExtN H2 H' → Tabs (lamTabs tb) H' →
        tCall (spCross K) [] E0 (tCons (tVar 1) (tCons (tVar 0) tNil)) [some (.ref p), some (.ref b)] H' (fun r H'' => r = .int ((fun i => Vbreac.cross n (((fs[i]?).map (·.2)).getD Vbreac.zero)) i) ∧ ExtN H' H'' ∧ Tabs (lamTabs tb) H'') := by
      intro H2 e2 i p H' hi e3 t3
      obtain ⟨r, hr1, rfl, hr2⟩ := at_ hi
      have sE : ExtN H H' := ((ExtN.of s1).trans e2).trans e3
      exact ⟨_, rfl, _, rfl, b, r.1, n, r.2, rfl, sqT_extN sE hn, sqT_extN sE (hR r hr2), n1, n2, by rw [kfi hr1], ExtN.refl _, t3⟩
    refine ⟨_, rfl, q, fs.map (·.1), fun i => Vbreac.cross n (((fs[i]?).map (·.2)).getD Vbreac.zero), rfl, SqL.of (by rw [hq, er]), fne, T1, keys H1 (ExtN.refl _), fun i p H2 hi b1 b2 e2 t2 => ?_⟩
    obtain ⟨r, hr1, rfl, hr2⟩ := at_ hi
    refine ⟨_, rfl, q, fs.map (·.1), fun i => Vbreac.cross n (((fs[i]?).map (·.2)).getD Vbreac.zero), rfl, sqL_extN e2 (SqL.of (by rw [hq, er])), fne, t2, keys H2 e2, fun j p3 H3 hj c1 c2 e3 t3 => ?_⟩
    obtain ⟨l, hl1, rfl, hl2⟩ := at_ hj
    refine ⟨_, rfl, _, rfl, (by show 2 ≤ sizeLine; decide), fun t nt => ?_⟩
    have sE : ExtN H H3 := ((ExtN.of s1).trans e2).trans e3
    have s4 := same_upd (o := .tup [.ref r.1, .ref l.1]) nt
    have pfs : ∀ {i : Nat} {p : Pt}, (Vbreac.face (pts rs) n)[i]? = some p → ∃ r, fs[i]? = some r ∧ r.2 = p := fun {i p} h => by
      rw [← ef, pts, List.getElem?_map] at h
      cases e : fs[i]? with
      | none => rw [e] at h; cases h
      | some r => rw [e] at h; exact ⟨r, rfl, Option.some.inj h⟩
    refine kq _ t r l ⟨sE.trans (ExtN.of s4), t3.ext s4⟩ upd_same hr2 hl2 ?_ ?_
    · refine (right_at (i := i) (by rw [← ef]; exact pts_get hr1) (fun z hz => ?_) (fun j z hj hz => ?_)).symm
      · rw [← ef] at hz
        obtain ⟨j, hj, ez⟩ := List.mem_iff_getElem.mp hz
        obtain ⟨y, hy, rfl⟩ := pfs (i := j) (p := z) (by rw [← ef, List.getElem?_eq_getElem hj, ez])
        have := b1 j (by rw [List.length_map]; exact (List.getElem?_eq_some_iff.mp hy).1)
        rw [kfi hy, kfi hr1] at this
        exact this
      · obtain ⟨y, hy, rfl⟩ := pfs hz
        have := b2 j hj
        rw [kfi hy, kfi hr1] at this
        exact this
    · refine (left_at (i := j) (by rw [← ef]; exact pts_get hl1) (fun z hz => ?_) (fun i z hi hz => ?_)).symm
      · rw [← ef] at hz
        obtain ⟨i, hi, ez⟩ := List.mem_iff_getElem.mp hz
        obtain ⟨y, hy, rfl⟩ := pfs (i := i) (p := z) (by rw [← ef, List.getElem?_eq_getElem hi, ez])
        have := c1 i (by rw [List.length_map]; exact (List.getElem?_eq_some_iff.mp hy).1)
        rw [kfi hy, kfi hl1] at this
        exact this
      · obtain ⟨y, hy, rfl⟩ := pfs hz
        have := c2 i hi
        rw [kfi hy, kfi hl1] at this
        exact this
end
end Sw
set_option maxHeartbeats 2000000
namespace Sw
open PySem PySem.Spec PyProof.Rows L2 LamX
open Vbreac (Pt Frac)
/-! ### What the program's top has left -/
structure D (K : PySem.W.Frag) (mg : Str → Option Value) (x : Str) (st : Stmt) (ps : List Str) where
  f : Addr
  fd : FuncData
  fn : Fun K x x st f fd
  b : Binds K fd ps []
  g : mg x = some (.ref f)
structure M (K : PySem.W.Frag) (C : Addr) (x q : Str) (st : Stmt) (ps : List Str) where
  f : Addr
  fd : FuncData
  fn : Fun K x q st f fd
  b : Binds K fd ps []
  m : Meth K C x f
structure CI (mg : Str → Option Value) (x : Str) (n : Int) where
  t : Tok
  g : mg x = some (.int n t)
structure CT (K : PySem.W.Frag) (mg : Str → Option Value) (x : Str) (ns : List Int) where
  a : Addr
  g : mg x = some (.ref a)
  tup : ∀ H, SqT K H a (ns.map V.int)
theorem CI.rel {mg : Str → Option Value} {x : Str} {n : Int} (c : CI mg x n) : RelV (V.int n) (Value.int n c.t) := ⟨_, rfl⟩
theorem CT.rel {K : PySem.W.Frag} {mg : Str → Option Value} {x : Str} {ns : List Int} (c : CT K mg x ns) : RelV (V.ref c.a) (Value.ref c.a) := rfl
structure Nb (mg : Str → Option Value) : Prop where
  len_ : mg "len" = none
  max_ : mg "max" = none
  min_ : mg "min" = none
  abs_ : mg "abs" = none
  enumerate_ : mg "enumerate" = none
  zip_ : mg "zip" = none
  list_ : mg "list" = none
  all_ : mg "all" = none
  sum_ : mg "sum" = none
  sorted_ : mg "sorted" = none
  set_ : mg "set" = none
  reversed_ : mg "reversed" = none
  range_ : mg "range" = none
  tuple_ : mg "tuple" = none
  ord_ : mg "ord" = none
structure Tx (K : PySem.W.Frag) (mg : Str → Option Value) where
  nb : Nb mg
  cross : D K mg "cross" s_cross ["p", "q"]
  how_far : D K mg "how_far" s_how_far ["direction", "velocity"]
  difference : D K mg "difference" s_difference ["p", "q"]
  bends_left : D K mg "bends_left" s_bends_left ["p", "q", "r"]
  left_chain : D K mg "left_chain" s_left_chain ["points"]
  hull_corners : D K mg "hull_corners" s_hull_corners ["velocities"]
  neighbours : D K mg "neighbours" s_neighbours ["corners"]
  hull_sides : D K mg "hull_sides" s_hull_sides ["corners"]
  holds_origin_within : D K mg "holds_origin_within" s_holds_origin_within ["corners"]
  hull_support : D K mg "hull_support" s_hull_support ["corners", "direction"]
  furthest_corners : D K mg "furthest_corners" s_furthest_corners ["corners", "direction"]
  greatest_divisor : D K mg "greatest_divisor" s_greatest_divisor ["m", "n"]
  lowest_terms : D K mg "lowest_terms" s_lowest_terms ["upper", "lower"]
  ratio_text : D K mg "ratio_text" s_ratio_text ["ratio"]
  lowest_direction : D K mg "lowest_direction" s_lowest_direction ["a", "b"]
  hull_directions : D K mg "hull_directions" s_hull_directions ["corners"]
  all_directions : D K mg "all_directions" s_all_directions ["hulls"]
  support_row : D K mg "support_row" s_support_row ["corners", "directions"]
  CForecast : Addr
  cForecast : Cls K CForecast
  gForecast : mg "Forecast" = some (.ref CForecast)
  Forecast_init : M K CForecast "__init__" "Forecast.__init__" s_Forecast___init__ ["self"]
  Forecast_forget_slices : M K CForecast "forget_slices" "Forecast.forget_slices" s_Forecast_forget_slices ["self"]
  Forecast_add_slice : M K CForecast "add_slice" "Forecast.add_slice" s_Forecast_add_slice ["self", "begin", "velocities"]
  Forecast_forget_findings : M K CForecast "forget_findings" "Forecast.forget_findings" s_Forecast_forget_findings ["self"]
  Forecast_has_slice : M K CForecast "has_slice" "Forecast.has_slice" s_Forecast_has_slice ["self", "number"]
  Forecast_is_empty : M K CForecast "is_empty" "Forecast.is_empty" s_Forecast_is_empty ["self"]
  Forecast_weigh_directions : M K CForecast "weigh_directions" "Forecast.weigh_directions" s_Forecast_weigh_directions ["self"]
  Forecast_as_one_slice : M K CForecast "as_one_slice" "Forecast.as_one_slice" s_Forecast_as_one_slice ["self"]
  kForecast : Mk K CForecast Forecast_init.f
  nForecast_begins : NoAttr K CForecast "begins"
  nForecast_hulls : NoAttr K CForecast "hulls"
  nForecast_directions : NoAttr K CForecast "directions"
  nForecast_supports : NoAttr K CForecast "supports"
  nForecast_joined : NoAttr K CForecast "joined"
  lone_slice : D K mg "lone_slice" s_lone_slice ["velocities"]
  CArrival : Addr
  cArrival : Cls K CArrival
  gArrival : mg "Arrival" = some (.ref CArrival)
  Arrival_init : M K CArrival "__init__" "Arrival.__init__" s_Arrival___init__ ["self", "number", "since", "takes", "proof"]
  Arrival_happens : M K CArrival "happens" "Arrival.happens" s_Arrival_happens ["self"]
  Arrival_time : M K CArrival "time" "Arrival.time" s_Arrival_time ["self"]
  Arrival_happens_by : M K CArrival "happens_by" "Arrival.happens_by" s_Arrival_happens_by ["self", "u"]
  kArrival : Mk K CArrival Arrival_init.f
  nArrival_number : NoAttr K CArrival "number"
  nArrival_since : NoAttr K CArrival "since"
  nArrival_takes : NoAttr K CArrival "takes"
  nArrival_proof : NoAttr K CArrival "proof"
  stretches : D K mg "stretches" s_stretches ["begins", "t"]
  longest_take : D K mg "longest_take" s_longest_take ["lacking", "row"]
  ends_here : D K mg "ends_here" s_ends_here ["upper", "lower", "lasting"]
  least_time : D K mg "least_time" s_least_time ["forecast", "x", "y", "start"]
  total : D K mg "total" s_total ["p", "q"]
  stretched : D K mg "stretched" s_stretched ["p", "times"]
  spans_between : D K mg "spans_between" s_spans_between ["begins", "t", "u"]
  comes_before : D K mg "comes_before" s_comes_before ["p", "q"]
  merged_sides : D K mg "merged_sides" s_merged_sides ["ones", "others"]
  corners_along : D K mg "corners_along" s_corners_along ["first", "sides"]
  set_corners : D K mg "set_corners" s_set_corners ["forecast", "t", "u"]
  leg_times : D K mg "leg_times" s_leg_times ["forecast", "start", "places"]
  row_bound : D K mg "row_bound" s_row_bound ["forecast", "places"]
  are_in_order : D K mg "are_in_order" s_are_in_order ["t", "claims"]
  can_follow : D K mg "can_follow" s_can_follow ["forecast", "before", "claim"]
  first_false_claim : D K mg "first_false_claim" s_first_false_claim ["forecast", "t", "claims"]
  LAST_TIME : CI mg "LAST_TIME" (1000000)
  FURTHEST_PLACE : CI mg "FURTHEST_PLACE" (1000000)
  FASTEST : CI mg "FASTEST" (1000)
  MOST_VELOCITIES : CI mg "MOST_VELOCITIES" (24)
  is_time : D K mg "is_time" s_is_time ["t"]
  is_span : D K mg "is_span" s_is_span ["t", "u"]
  is_place : D K mg "is_place" s_is_place ["x", "y"]
  is_velocity : D K mg "is_velocity" s_is_velocity ["a", "b"]
  is_direction : D K mg "is_direction" s_is_direction ["a", "b"]
  grouped : D K mg "grouped" s_grouped ["numbers", "size"]
  are_velocities : D K mg "are_velocities" s_are_velocities ["numbers"]
  are_places : D K mg "are_places" s_are_places ["numbers"]
  are_claims : D K mg "are_claims" s_are_claims ["numbers"]
  greatest_speed : D K mg "greatest_speed" s_greatest_speed ["corners", "a", "b"]
  sailed_spans : D K mg "sailed_spans" s_sailed_spans ["begins", "t", "arrival"]
  outer_corners : D K mg "outer_corners" s_outer_corners ["corners", "direction"]
  sailed_slices : D K mg "sailed_slices" s_sailed_slices ["forecast", "t", "arrival"]
  add_piece : D K mg "add_piece" s_add_piece ["pieces", "number", "velocity", "upper", "lower"]
  way_pieces : D K mg "way_pieces" s_way_pieces ["forecast", "x", "y", "t", "arrival"]
  OUT_OF_RANGE : CI mg "OUT_OF_RANGE" (-1)
  NO_SUCH_SLICE : CI mg "NO_SUCH_SLICE" (-2)
  NOT_LATER : CI mg "NOT_LATER" (-2)
  TOO_MANY_SLICES : CI mg "TOO_MANY_SLICES" (-3)
  NO_SLICES : CI mg "NO_SLICES" (-4)
  NOT_IN_ORDER : CI mg "NOT_IN_ORDER" (-5)
  NEVER_ARRIVES : CI mg "NEVER_ARRIVES" (-6)
  MOST_SLICES : CI mg "MOST_SLICES" (12)
  may_begin : D K mg "may_begin" s_may_begin ["begins", "t"]
  task_refusal : D K mg "task_refusal" s_task_refusal ["forecast", "x", "y", "t"]
  ratio_reply : D K mg "ratio_reply" s_ratio_reply ["ratio"]
  corners_reply : D K mg "corners_reply" s_corners_reply ["corners"]
  reply_begin : D K mg "reply_begin" s_reply_begin ["forecast"]
  reply_slice : D K mg "reply_slice" s_reply_slice ["forecast", "t", "numbers"]
  reply_hull : D K mg "reply_hull" s_reply_hull ["forecast", "i"]
  reply_inside : D K mg "reply_inside" s_reply_inside ["forecast", "i"]
  reply_support : D K mg "reply_support" s_reply_support ["forecast", "i", "a", "b"]
  reply_least : D K mg "reply_least" s_reply_least ["forecast", "x", "y", "t"]
  reply_way : D K mg "reply_way" s_reply_way ["forecast", "x", "y", "t"]
  reply_reach : D K mg "reply_reach" s_reply_reach ["forecast", "x", "y", "t", "u"]
  reply_set : D K mg "reply_set" s_reply_set ["forecast", "t", "u"]
  reply_course : D K mg "reply_course" s_reply_course ["forecast", "t", "numbers"]
  reply_all : D K mg "reply_all" s_reply_all ["forecast"]
  reply_bound : D K mg "reply_bound" s_reply_bound ["forecast", "numbers"]
  reply_check : D K mg "reply_check" s_reply_check ["forecast", "t", "numbers"]
  reply_speed : D K mg "reply_speed" s_reply_speed ["forecast", "i", "a", "b"]
  reply_slices : D K mg "reply_slices" s_reply_slices ["forecast"]
  PLAIN_NUMBERS : CT K mg "PLAIN_NUMBERS" [0, 1, 1, 1, 3, 3, 3, 4, 2, 1, 0, 0, 1, 3, 0]
  CALLS_WITH_LIST : CT K mg "CALLS_WITH_LIST" [1, 9, 11, 12]
  call_end : D K mg "call_end" s_call_end ["calls", "at"]
  reply_to_early : D K mg "reply_to_early" s_reply_to_early ["forecast", "call"]
  reply_to_late : D K mg "reply_to_late" s_reply_to_late ["forecast", "call"]
  reply_to : D K mg "reply_to" s_reply_to ["forecast", "call"]
  answers : D K mg "answers" s_answers ["calls"]
  aAXES : Addr
  xAXES : Row
  AXES : AxesA K mg aAXES xAXES
end Sw
set_option maxHeartbeats 2000000
namespace Sw
open PySem PySem.Spec PyProof.Rows L2 LamX
open Vbreac (Pt Frac)
section
variable {P : Program} {w : World} {K : PySem.W.Frag} {mg : Str → Option Value} {base : Heap}
/-! ### Which numbers a call may be handed -/
def spB1 (f : Int → Bool) : Sp := fun vs H Q _ => ∃ t : Int, vs = [.int t] ∧ Q (.bl (f t)) H
def spB2 (f : Int → Int → Bool) : Sp := fun vs H Q _ => ∃ t u : Int, vs = [.int t, .int u] ∧ Q (.bl (f t u)) H
theorem okIsTime (T : Tx K mg) {k : Nat} : FnOk P w K mg base CX0 (k + 1) T.is_time.f T.is_time.fd ["t"] (spB1 Vbreac.timeOk) := by
  refine T.is_time.fn.ok sc_is_time (fun vs H Q E h => ?_) (fun cdv A outer s H vs Q E hr h => ?_)
  · obtain ⟨t, rfl, _⟩ := h
    rfl
  · obtain ⟨t, rfl, k⟩ := h
    refine ⟨_, pss_one (ps_ret (pe_chain op_le op_le pe_int (pv 0) (pe_glob rfl T.LAST_TIME.g T.LAST_TIME.rel))), ?_⟩
    refine ⟨_, rfl, _, _, rfl, rfl, _, rfl, ite2 (fun e => ⟨_, _, rfl, rfl, ?_⟩) (fun e => ?_)⟩
    · have e : (0 : Int) ≤ t := of_decide_eq_true e
      rwa [show Vbreac.timeOk t = decide (t ≤ 1000000) by simp [Vbreac.timeOk, Vbreac.within, Vbreac.FAR, e]] at k
    · have e : ¬ (0 : Int) ≤ t := fun z => e (decide_eq_true z)
      rwa [show Vbreac.timeOk t = false by simp [Vbreac.timeOk, Vbreac.within, Vbreac.FAR, e]] at k
def spanOk (t u : Int) : Bool := Vbreac.timeOk t && (Vbreac.timeOk u && decide (t ≤ u))
theorem okIsSpan (T : Tx K mg) {k : Nat} : FnOk P w K mg base CX0 (k + 2) T.is_span.f T.is_span.fd ["t", "u"] (spB2 spanOk) := by
  have G : FnOk P w K mg base CX0 (k + 1) T.is_time.f T.is_time.fd ["t"] (spB1 Vbreac.timeOk) := okIsTime T
  refine T.is_span.fn.ok sc_is_span (fun vs H Q E h => ?_) (fun cdv A outer s H vs Q E hr h => ?_)
  · obtain ⟨t, u, rfl, _⟩ := h
    rfl
  · obtain ⟨t, u, rfl, k⟩ := h
    refine ⟨_, pss_one (ps_ret (pe_and (pe_call G hr rfl T.is_time.g T.is_time.fn.kp T.is_time.b .nil pass0 (pa_cons (pv 0) pa_nil))
      (pe_and (pe_call G hr rfl T.is_time.g T.is_time.fn.kp T.is_time.b .nil pass0 (pa_cons (pv 1) pa_nil)) (pe_one (pe_cmpR op_le (pv 0) (pv 1) (nomark _)))))), ?_⟩
    unfold spanOk at k
    refine ⟨_, rfl, t, rfl, _, rfl, ite2 (fun e => ⟨_, rfl, u, rfl, _, rfl, ite2 (fun e2 => ⟨_, rfl, _, rfl, _, _, rfl, rfl, ?_⟩) (fun e2 => ?_)⟩) (fun e => ?_)⟩
    · rwa [e, e2, Bool.true_and, Bool.true_and] at k
    · rwa [e, Bool.eq_false_iff.mpr e2, Bool.true_and, Bool.false_and] at k
    · rwa [Bool.eq_false_iff.mpr e, Bool.false_and] at k
def nearOk (n : Int) (x y : Int) : Bool := Vbreac.within x (-n) n && Vbreac.within y (-n) n
theorem near_tt {n x y : Int} (h1 : -n ≤ x) (h2 : x ≤ n) (h3 : -n ≤ y) : nearOk n x y = decide (y ≤ n) := by simp [nearOk, Vbreac.within, h1, h2, h3]
theorem near_f1 {n x y : Int} (h1 : ¬ -n ≤ x) : nearOk n x y = false := by simp [nearOk, Vbreac.within, h1]
theorem near_f2 {n x y : Int} (h1 : ¬ x ≤ n) : nearOk n x y = false := by simp [nearOk, Vbreac.within, h1]
theorem near_f3 {n x y : Int} (h1 : ¬ -n ≤ y) : nearOk n x y = false := by simp [nearOk, Vbreac.within, h1]
theorem okIsPlace (T : Tx K mg) {k : Nat} : FnOk P w K mg base CX0 (k + 1) T.is_place.f T.is_place.fd ["x", "y"] (spB2 (nearOk 1000000)) := by
  refine T.is_place.fn.ok sc_is_place (fun vs H Q E h => ?_) (fun cdv A outer s H vs Q E hr h => ?_)
  · obtain ⟨x, y, rfl, _⟩ := h
    rfl
  · obtain ⟨x, y, rfl, k⟩ := h
    refine ⟨_, pss_one (ps_ret (pe_and (pe_chain op_le op_le (pe_un un_neg (pe_glob rfl T.FURTHEST_PLACE.g T.FURTHEST_PLACE.rel)) (pv 0) (pe_glob rfl T.FURTHEST_PLACE.g T.FURTHEST_PLACE.rel))
      (pe_one (pe_chain op_le op_le (pe_un un_neg (pe_glob rfl T.FURTHEST_PLACE.g T.FURTHEST_PLACE.rel)) (pv 1) (pe_glob rfl T.FURTHEST_PLACE.g T.FURTHEST_PLACE.rel))))), ?_⟩
    refine ⟨_, rfl, _, rfl, _, _, rfl, rfl, _, rfl, ite2 (fun e1 => ⟨_, _, rfl, rfl, _, rfl, ite2 (fun e2 => ⟨_, rfl, _, rfl, _, _, rfl, rfl, _, rfl, ite2 (fun e3 => ⟨_, _, rfl, rfl, ?_⟩) (fun e3 => ?_)⟩) (fun e2 => ?_)⟩) (fun e1 => ⟨_, rfl, iteF ?_⟩)⟩
    · rwa [near_tt (of_decide_eq_true e1) (of_decide_eq_true e2) (of_decide_eq_true e3)] at k
    · rwa [near_f3 (fun z => e3 (decide_eq_true z))] at k
    · rwa [near_f2 (fun z => e2 (decide_eq_true z))] at k
    · rwa [near_f1 (fun z => e1 (decide_eq_true z))] at k
theorem okIsVel (T : Tx K mg) {k : Nat} : FnOk P w K mg base CX0 (k + 1) T.is_velocity.f T.is_velocity.fd ["a", "b"] (spB2 (nearOk 1000)) := by
  refine T.is_velocity.fn.ok sc_is_velocity (fun vs H Q E h => ?_) (fun cdv A outer s H vs Q E hr h => ?_)
  · obtain ⟨x, y, rfl, _⟩ := h
    rfl
  · obtain ⟨x, y, rfl, k⟩ := h
    refine ⟨_, pss_one (ps_ret (pe_and (pe_chain op_le op_le (pe_un un_neg (pe_glob rfl T.FASTEST.g T.FASTEST.rel)) (pv 0) (pe_glob rfl T.FASTEST.g T.FASTEST.rel))
      (pe_one (pe_chain op_le op_le (pe_un un_neg (pe_glob rfl T.FASTEST.g T.FASTEST.rel)) (pv 1) (pe_glob rfl T.FASTEST.g T.FASTEST.rel))))), ?_⟩
    refine ⟨_, rfl, _, rfl, _, _, rfl, rfl, _, rfl, ite2 (fun e1 => ⟨_, _, rfl, rfl, _, rfl, ite2 (fun e2 => ⟨_, rfl, _, rfl, _, _, rfl, rfl, _, rfl, ite2 (fun e3 => ⟨_, _, rfl, rfl, ?_⟩) (fun e3 => ?_)⟩) (fun e2 => ?_)⟩) (fun e1 => ⟨_, rfl, iteF ?_⟩)⟩
    · rwa [near_tt (of_decide_eq_true e1) (of_decide_eq_true e2) (of_decide_eq_true e3)] at k
    · rwa [near_f3 (fun z => e3 (decide_eq_true z))] at k
    · rwa [near_f2 (fun z => e2 (decide_eq_true z))] at k
    · rwa [near_f1 (fun z => e1 (decide_eq_true z))] at k
end
end Sw
set_option linter.unusedVariables false
set_option linter.unusedSimpArgs false
namespace Gr
open Vbreac
/-! ### A list's numbers, so many together -/
def chunks (size n : Nat) (l : List Int) : List (List Int) := (List.range n).map fun i => (l.drop (i * size)).take size
theorem chunks_succ (size n : Nat) (l : List Int) : chunks size (n + 1) l = l.take size :: chunks size n (l.drop size) := by
  unfold chunks
  rw [List.range_succ_eq_map, List.map_cons, List.map_map]
  simp only [Nat.zero_mul, List.drop_zero, List.cons.injEq, true_and]
  refine List.map_congr_left fun i _ => ?_
  simp only [Function.comp, Nat.succ_eq_add_one, List.drop_drop]
  rw [Nat.succ_mul, Nat.add_comm]
theorem pairs_some : ∀ (n : Nat) (l : List Int), l.length = 2 * n → ∃ v, pairs l = some v ∧ v.length = n ∧ chunks 2 n l = v.map fun p => [p.x, p.y]
  | 0, l, h => by
    have : l = [] := List.eq_nil_of_length_eq_zero (by omega)
    subst this
    exact ⟨[], rfl, rfl, rfl⟩
  | n + 1, l, h => by
    match l, h with
    | x :: y :: r, h =>
      obtain ⟨v, h1, h2, h3⟩ := pairs_some n r (by simp only [List.length_cons] at h; omega)
      refine ⟨⟨x, y⟩ :: v, by rw [pairs, h1]; rfl, by rw [List.length_cons, h2], ?_⟩
      rw [chunks_succ]
      show [x, y] :: chunks 2 n r = _
      rw [h3]
      rfl
    | [x], h => simp only [List.length_cons, List.length_nil] at h; omega
    | [], h => simp only [List.length_nil] at h; omega
theorem pairs_none : ∀ (l : List Int), l.length % 2 = 1 → pairs l = none
  | [], h => by simp at h
  | [x], h => rfl
  | x :: y :: r, h => by
    rw [pairs, pairs_none r (by simp only [List.length_cons] at h; omega)]
    rfl
theorem triples_some : ∀ (n : Nat) (l : List Int), l.length = 3 * n → ∃ v, triples l = some v ∧ v.length = n ∧ chunks 3 n l = v.map fun p => [p.1.x, p.1.y, p.2]
  | 0, l, h => by
    have : l = [] := List.eq_nil_of_length_eq_zero (by omega)
    subst this
    exact ⟨[], rfl, rfl, rfl⟩
  | n + 1, l, h => by
    match l, h with
    | x :: y :: z :: r, h =>
      obtain ⟨v, h1, h2, h3⟩ := triples_some n r (by simp only [List.length_cons] at h; omega)
      refine ⟨(⟨x, y⟩, z) :: v, by rw [triples, h1]; rfl, by rw [List.length_cons, h2], ?_⟩
      rw [chunks_succ]
      show [x, y, z] :: chunks 3 n r = _
      rw [h3]
      rfl
    | [x, y], h => simp only [List.length_cons, List.length_nil] at h; omega
    | [x], h => simp only [List.length_cons, List.length_nil] at h; omega
    | [], h => simp only [List.length_nil] at h; omega
theorem triples_none : ∀ (l : List Int), l.length % 3 ≠ 0 → triples l = none
  | [], h => by simp at h
  | [x], h => rfl
  | [x, y], h => rfl
  | x :: y :: z :: r, h => by
    rw [triples, triples_none r (by simp only [List.length_cons] at h; omega)]
    rfl
end Gr
set_option maxHeartbeats 2000000
namespace Sw
open PySem PySem.Spec PyProof.Rows L2 LamX
open Vbreac (Pt Frac)
section
variable {P : Program} {w : World} {K : PySem.W.Frag} {mg : Str → Option Value} {base : Heap}
/-! ### grouped -/
abbrev Grp := List (Addr × List Int)
def grpV (gs : Grp) : List V := gs.map fun g => V.ref g.1
def GrpA (H : Hp) (gs : Grp) : Prop := ∀ g ∈ gs, H g.1 = some (.tup (g.2.map V.int))
theorem GrpA.same {H H' : Hp} {gs : Grp} (s : Same H H') (h : GrpA H gs) : GrpA H' gs := fun g hg => s _ _ (h g hg)
theorem cut_mid (xs : List V) (i j : Nat) (h : i + j ≤ xs.length) : cutV xs (some (i : Int)) (some ((i : Int) + (j : Int))) = (xs.drop i).take j := by
  unfold cutV
  have e : ((i : Int) + (j : Int)) = ((i + j : Nat) : Int) := by omega
  rw [e, HT.sIx_nat, HT.sIx_nat, Nat.min_eq_left (by omega), Nat.min_eq_left (by omega), Nat.add_sub_cancel_left]
theorem rgSize_of {size n : Nat} (h : 0 < size) : Builtin.Range.rangeSize 0 ((size * n : Nat) : Int) (size : Int) = n := by
  unfold Builtin.Range.rangeSize
  rw [if_pos (by omega)]
  by_cases z : n = 0
  · subst z
    rw [if_neg (by omega)]
    rfl
  · have np : 0 < n := by omega
    have p : 0 < size * n := Nat.mul_pos h np
    rw [if_pos (by omega)]
    have e : ((size * n : Nat) : Int) - 0 - 1 = ((size : Int) - 1) + (size : Int) * ((n : Int) - 1) := by
      push_cast
      rw [Int.mul_sub]
      omega
    rw [e, Int.add_mul_ediv_left _ _ (by omega), Int.ediv_eq_zero_of_lt (by omega) (by omega)]
    omega
theorem rgC_of {size n : Nat} (h : 0 < size) (h3 : size ≤ 3) (hn : n ≤ 1000) : RgC 0 ((size * n : Nat) : Int) (size : Int) n := by
  refine ⟨by omega, by omega, ?_, ?_⟩
  · have le : size * n ≤ 3000 := by
      have := Nat.mul_le_mul h3 hn
      omega
    unfold Builtin.Range.small
    rw [rgSize_of h]
    simp only [Builtin.Range.rangeFitsLong, Bool.and_eq_true, Bool.or_eq_true, decide_eq_true_eq, beq_iff_eq]
    have e : ((size * n : Nat) : Int) ≤ 3000 ∧ 0 ≤ ((size * n : Nat) : Int) := by omega
    generalize ((size * n : Nat) : Int) = L at e
    rw [if_pos (by omega)]
    simp only [Bool.and_eq_true, decide_eq_true_eq]
    omega
  · exact rgSize_of h
def rTupOf (K : PySem.W.Frag) : List V → Hp → VK → Prop := fun xs H Q => ∃ p ys, xs = [.ref p] ∧ ((SqL K H p ys ∧ ∀ l, H l = none → Q (.ref l) (upd H l (.tup ys))) ∨ (SqT K H p ys ∧ Q (.ref p) H))
theorem call_tupK {X : Cx} (h : X.K = K) : CallR X (.type "tuple") (rTupOf K) := by
  subst h
  exact call_tuple_of
theorem sl_listK {X : Cx} (h : X.K = K) : SlR X (rSlL K) := by
  subst h
  exact sl_list
def spGroup (K : PySem.W.Frag) : Sp := fun vs H Q _ => ∃ (a : Addr) (ns : List Int) (size n : Nat), vs = [.ref a, .int (size : Int)] ∧ SqL K H a (ns.map V.int) ∧ ns.length = size * n ∧ 0 < size ∧ size ≤ 3 ∧ n ≤ 1000 ∧
  ∀ H' q gs, Same H H' → H q = none → H' q = some (.lst (grpV gs)) → GrpA H' gs → gs.map (·.2) = Gr.chunks size n ns → Q (.ref q) H'
theorem okGrouped (T : Tx K mg) {k : Nat} : FnOk P w K mg base CX0 (k + 1) T.grouped.f T.grouped.fd ["numbers", "size"] (spGroup K) := by
  refine T.grouped.fn.ok sc_grouped (fun vs H Q E h => ?_) (fun cdv A outer s H vs Q E hr h => ?_)
  · obtain ⟨a, ns, size, n, rfl, _⟩ := h
    rfl
  · obtain ⟨a, ns, size, n, rfl, hS, hlen, h0, h3, hn, k⟩ := h
    refine ⟨_, pss_one (ps_ret (pe_lc (own := [("k", 2)]) (g := gName 2) (tt := tYes) rfl sc_grouped.nd (pi_range3 rfl T.nb.range_ (pa_cons pe_int (pa_cons (pe_callB call_len_seq (by rfl) T.nb.len_ PySem.boot_len (pa_cons (pv 0) pa_nil)) (pa_cons (pv 1) pa_nil))))
      (blkOk_by (N := ["numbers", "size", "k"]) (sc := defScope s_grouped) (by decide +kernel)) (fun _ _ _ _ _ => pg_name (i := 2) sc_grouped.nd rfl (.inl rfl)) (fun _ _ _ _ _ => pts_nil)
      (fun _ _ _ _ _ => pe_callTy (call_tupK (K := K) rfl) (by rfl) T.nb.tuple_ (by decide +kernel) (pa_cons (pe_slice (sl_listK (K := K) rfl) (pv 0) (po_some (pv 2)) (po_some (pe_op op_add (pv 2) (pv 1)))) pa_nil)))), ?_⟩
    refine ⟨_, rfl, a, _, rfl, .inl hS, _, rfl, 0, _, size, n, rfl, ?_, fun D nD => ?_⟩
    · have := rgC_of h0 h3 hn
      rw [List.length_map, hlen]
      exact this
    refine lc_it walk_rangeC (fun i H' => ∃ gs : Grp, Same H H' ∧ H' D = some (.lst (grpV gs)) ∧ GrpA H' gs ∧ gs.map (·.2) = (Gr.chunks size n ns).take i)
      ⟨[], same_upd nD, upd_same, (fun g hg => nomatch hg), rfl⟩ (fun _ _ _ _ => trivial) ?_ ?_
    · rintro i x H' _ hi ⟨gs, sm, hD, hg, eg⟩ ⟨rfl, rfl⟩
      have le : i * size + size ≤ ns.length := by
        rw [hlen, Nat.mul_comm size n, ← Nat.succ_mul]
        exact Nat.mul_le_mul_right _ hi
      refine ⟨rfl, _, rfl, _, rfl, _, rfl, _, rfl, _, rfl, _, _, rfl, rfl, _, rfl, a, _, rfl, sm.seq hS, fun c nc => ?_⟩
      have e0 : (0 : Int) + (i : Nat) * (size : Int) = ((i * size : Nat) : Int) := by push_cast; omega
      rw [e0, cut_mid _ _ _ (by rw [List.length_map]; exact le)]
      have s1 := same_upd (o := .lst (((ns.map V.int).drop (i * size)).take size)) nc
      refine ⟨c, _, rfl, .inl ⟨SqL.of upd_same, fun t nt => ?_⟩⟩
      have s2 := same_upd (o := .tup (((ns.map V.int).drop (i * size)).take size)) nt
      have sA := sm.trans (s1.trans s2)
      have hD2 := (s1.trans s2) _ _ hD
      have eT : ((ns.map V.int).drop (i * size)).take size = ((ns.drop (i * size)).take size).map V.int := by rw [List.map_take, List.map_drop]
      have hc : (Gr.chunks size n ns)[i]? = some ((ns.drop (i * size)).take size) := by
        unfold Gr.chunks
        rw [List.getElem?_map, List.getElem?_range hi]
        rfl
      refine ⟨_, hD2, ?_, gs ++ [(t, (ns.drop (i * size)).take size)], same_grow nD sA, ?_, ?_, ?_⟩
      · have e1 := congrArg List.length eg
        rw [List.length_map, List.length_take] at e1
        rw [grpV, List.length_map, sizeLine_eq]
        omega
      · rw [upd_same]
        simp [grpV]
      · intro g hg'
        rcases List.mem_append.1 hg' with z | z
        · have q := (s1.trans s2) _ _ (hg g z)
          rw [upd_ne (ne_of q hD2 (by intro z; cases z))]
          exact q
        · simp only [List.mem_cons, List.not_mem_nil, or_false] at z
          subst z
          have q : ∀ H9 : Hp, upd H9 t (.tup (((ns.map V.int).drop (i * size)).take size)) t = some (.tup (((ns.drop (i * size)).take size).map V.int)) := fun H9 => by rw [upd_same, eT]
          rw [upd_ne (ne_of (q _) hD2 (by intro z; cases z))]
          exact q _
      · rw [List.map_append, eg, take_snoc hc]
        rfl
    · rintro H' ⟨gs, sm, hD, hg, eg⟩
      have e1 : (Gr.chunks size n ns).length = n := by simp [Gr.chunks]
      rw [List.take_of_length_le (by omega)] at eg
      exact k H' D gs sm nD hD hg eg
end
end Sw
set_option maxHeartbeats 2000000
namespace Sw
open PySem PySem.Spec PyProof.Rows L2 LamX
open Vbreac (Pt Frac)
section
variable {P : Program} {w : World} {K : PySem.W.Frag} {mg : Str → Option Value} {base : Heap}
theorem eqv_pt (a b c d : Int) : PyData.eqv (.tuple [.int a, .int b]) (.tuple [.int c, .int d]) = (decide (a = c) && decide (b = d)) := by
  simp [PyData.eqv, PyData.eqvAll]
  rfl
theorem dp_pt {H : Hp} {t : Addr} {a b : Int} (h : SqT K H t [.int a, .int b]) : Dp K H (.ref t) (.tuple [.int a, .int b]) := .tup h (.cons (.int _) (.cons (.int _) .nil))
def dirOk (a b : Int) : Bool := nearOk 1000 a b && !(a == 0 && b == 0)
def spB2s (f : Int → Int → Bool) : Sp := fun vs H Q _ => ∃ t u : Int, vs = [.int t, .int u] ∧ ∀ H', Same H H' → Q (.bl (f t u)) H'
theorem okIsDir (T : Tx K mg) {k : Nat} : FnOk P w K mg base CX0 (k + 2) T.is_direction.f T.is_direction.fd ["a", "b"] (spB2s dirOk) := by
  have G : FnOk P w K mg base CX0 (k + 1) T.is_velocity.f T.is_velocity.fd ["a", "b"] (spB2 (nearOk 1000)) := okIsVel T
  refine T.is_direction.fn.ok sc_is_direction (fun vs H Q E h => ?_) (fun cdv A outer s H vs Q E hr h => ?_)
  · obtain ⟨t, u, rfl, _⟩ := h
    rfl
  · obtain ⟨t, u, rfl, k⟩ := h
    refine ⟨_, pss_one (ps_ret (pe_and (pe_call G hr rfl T.is_velocity.g T.is_velocity.fn.kp T.is_velocity.b .nil pass0 (pa_cons (pv 0) (pa_cons (pv 1) pa_nil)))
      (pe_one (pe_cmpR (op_neD hr.units) (pe_tup (pa_cons (pv 0) (pa_cons (pv 1) pa_nil))) (pe_tup (pa_cons pe_int (pa_cons pe_int pa_nil))) (nomark _))))), ?_⟩
    unfold dirOk at k
    refine ⟨_, rfl, _, rfl, t, u, rfl, _, rfl, ite2 (fun e => ?_) (fun e => ?_)⟩
    · rw [e, Bool.true_and] at k
      refine ⟨_, rfl, _, rfl, (by show 2 ≤ sizeLine; decide), fun c nc => ?_⟩
      have s1 := same_upd (o := .tup [.int t, .int u]) nc
      refine ⟨(by show 2 ≤ sizeLine; decide), fun d nd => ?_⟩
      have s2 := same_upd (o := .tup [.int 0, .int 0]) nd
      refine ⟨_, _, dp_pt (same_sqT s2 (SqT.of upd_same)), dp_pt (SqT.of upd_same), rfl, rfl, ?_⟩
      rw [eqv_pt]
      exact k _ (s1.trans s2)
    · rw [Bool.eq_false_iff.mpr e, Bool.false_and] at k
      exact k _ (Same.refl _)
/-! ### are_velocities, are_places, are_claims -/
def velsOk (ns : List Int) : Bool := match Vbreac.pairs ns with
  | none => false
  | some v => decide (1 ≤ v.length ∧ v.length ≤ 24) && v.all fun p => nearOk 1000 p.x p.y
def placesOk (ns : List Int) : Bool := match Vbreac.pairs ns with
  | none => false
  | some v => decide (2 ≤ v.length) && v.all fun p => nearOk 1000000 p.x p.y
def claimsOk (ns : List Int) : Bool := match Vbreac.triples ns with
  | none => false
  | some v => decide (1 ≤ v.length) && v.all fun c => nearOk 1000000 c.1.x c.1.y && Vbreac.timeOk c.2
def spTest (K : PySem.W.Frag) (f : List Int → Bool) : Sp := fun vs H Q _ => ∃ (a : Addr) (ns : List Int), vs = [.ref a] ∧ SqL K H a (ns.map V.int) ∧ ns.length ≤ 100 ∧ ∀ H', Same H H' → Q (.bl (f ns)) H'
theorem grp_get {gs : Grp} {i : Nat} {x : V} (h : (grpV gs)[i]? = some x) : ∃ g, gs[i]? = some g ∧ x = .ref g.1 := by
  unfold grpV at h
  rw [List.getElem?_map] at h
  cases e : gs[i]? with
  | none => rw [e] at h; cases h
  | some r => rw [e] at h; exact ⟨r, rfl, (Option.some.inj h).symm⟩
theorem grp_at {α : Type} {gs : Grp} {v : List α} {f : α → List Int} (e : gs.map (·.2) = v.map f) {i : Nat} {g : Addr × List Int} (h : gs[i]? = some g) : ∃ p, v[i]? = some p ∧ g.2 = f p := by
  have q := congrArg (·[i]?) e
  simp only [List.getElem?_map, h, Option.map_some] at q
  cases z : v[i]? with
  | none => rw [z] at q; cases q
  | some p => rw [z] at q; exact ⟨p, rfl, Option.some.inj q⟩
theorem grp_len {α : Type} {gs : Grp} {v : List α} {f : α → List Int} (e : gs.map (·.2) = v.map f) : gs.length = v.length := by
  have := congrArg List.length e
  rwa [List.length_map, List.length_map] at this
theorem all_map {α : Type} (v : List α) (f : α → Bool) : (v.map f).all id = v.all f := by
  rw [List.all_map]
  rfl
theorem okVels (T : Tx K mg) {k : Nat} : FnOk P w K mg base CX0 (k + 2) T.are_velocities.f T.are_velocities.fd ["numbers"] (spTest K velsOk) := by
  have GG : FnOk P w K mg base CX0 (k + 1) T.grouped.f T.grouped.fd ["numbers", "size"] (spGroup K) := okGrouped T
  have GV : FnOk P w K mg base CX0 (k + 1) T.is_velocity.f T.is_velocity.fd ["a", "b"] (spB2 (nearOk 1000)) := okIsVel T
  refine T.are_velocities.fn.ok sc_are_velocities (fun vs H Q E h => ?_) (fun cdv A outer s H vs Q E hr h => ?_)
  · obtain ⟨a, ns, rfl, _⟩ := h
    rfl
  · obtain ⟨a, ns, rfl, hS, hlen, k⟩ := h
    refine ⟨_, pss_cons (ps_if (PW.pt (pw_or (pt_cmpR op_eq (pe_op op_mod (pe_callB call_len_seq (by rfl) T.nb.len_ PySem.boot_len (pa_cons (pv 0) pa_nil)) pe_int) pe_int (nomark _))
        (pw_or1 (pt_not (pt_chain op_le op_le pe_int (pe_op op_fdiv (pe_callB call_len_seq (by rfl) T.nb.len_ PySem.boot_len (pa_cons (pv 0) pa_nil)) pe_int) (pe_glob rfl T.MOST_VELOCITIES.g T.MOST_VELOCITIES.rel)))))) (pss_one (ps_ret pe_bl)) pss_nil)
      (pss_one (ps_ret (pe_callB (cr_all rfl) (by rfl) T.nb.all_ (by decide +kernel) (pa_cons (pe_lc (own := [("x", 1), ("y", 2)]) (g := gTup K 2 (gCons (gName 1) (gCons (gName 2) gNil))) (tt := tYes) rfl sc_are_velocities.nd
        (pi_list (pe_call GG hr rfl T.grouped.g T.grouped.fn.kp T.grouped.b .nil pass0 (pa_cons (pv 0) (pa_cons pe_int pa_nil))))
        (blkOk_by (N := ["numbers", "x", "y"]) (sc := defScope s_are_velocities) (by decide +kernel))
        (fun _ _ _ _ _ => pg_tup rfl (pgs_cons (pg_name (i := 1) sc_are_velocities.nd rfl (.inl rfl)) (pgs_cons (pg_name (i := 2) sc_are_velocities.nd rfl (.inl rfl)) pgs_nil))) (fun _ _ _ _ _ => pts_nil)
        (fun _ _ _ _ _ => pe_call GV hr rfl T.is_velocity.g T.is_velocity.fn.kp T.is_velocity.b .nil pass0 (pa_cons (pv 1) (pa_cons (pv 2) pa_nil)))) pa_nil)))), ?_⟩
    refine ⟨_, rfl, a, _, rfl, .inl hS, _, _, rfl, rfl, (by show (0 : Int) < 2; decide), rfl, _, rfl, ?_⟩
    rw [List.length_map]
    refine ite2 (fun e => iteT ?_) (fun e => ?_)
    · have e1 : ((ns.length : Int) % 2) = 1 := V.int.inj (of_decide_eq_true e)
      have := k H (Same.refl _)
      rwa [velsOk, Gr.pairs_none ns (by omega)] at this
    · have e1 : ¬ ((ns.length : Int) % 2) = 1 := fun z => e (decide_eq_true (congrArg V.int z))
      obtain ⟨v, hv, lv, cv⟩ := Gr.pairs_some (ns.length / 2) ns (by omega)
      unfold velsOk at k
      simp only [hv] at k
      have no : ¬ (1 ≤ ns.length / 2 ∧ ns.length / 2 ≤ 24) → Q (.bl false) H := fun z => by
        have := k H (Same.refl _)
        rwa [lv, decide_eq_false z, Bool.false_and] at this
      have dv : (ns.length : Int) / 2 = ((ns.length / 2 : Nat) : Int) := by omega
      refine ⟨_, rfl, a, _, rfl, .inl hS, _, _, rfl, rfl, ⟨by decide, by decide⟩, _, _, rfl, rfl, _, rfl, ?_⟩
      rw [List.length_map, dv]
      refine ite2 (fun e2 => ⟨_, _, rfl, rfl, _, rfl, ?_⟩) (fun e2 => ⟨_, rfl, iteT ?_⟩)
      · have e2 : (1 : Int) ≤ ((ns.length / 2 : Nat) : Int) := of_decide_eq_true e2
        refine ite2 (fun e3 => ?_) (fun e3 => ?_)
        · have e3 : ¬ ((ns.length / 2 : Nat) : Int) ≤ 24 := by simpa using e3
          exact no (by omega)
        · have e3 : ((ns.length / 2 : Nat) : Int) ≤ 24 := by simpa using e3
          refine ⟨_, rfl, a, ns, 2, ns.length / 2, rfl, hS, by omega, by decide, by decide, by omega, fun H1 q gs s1 nq hq hg eg => ?_⟩
          rw [cv] at eg
          refine ⟨q, rfl, ⟨_, SqL.of hq⟩, fun D nD => lc_list (K := K) (a := q) (xs := grpV gs) (fun i H' => Same H1 H' ∧ H' D = some (.lst (((v.take i).map fun p => nearOk 1000 p.x p.y).map V.bl)))
            ⟨same_upd nD, upd_same⟩ (fun i H' _ ⟨sm, _⟩ => SqL.of (sm _ _ hq)) ?_ ?_⟩
          · rintro i x H' hi ⟨sm, hD⟩
            obtain ⟨g, hg1, rfl⟩ := grp_get hi
            obtain ⟨p, hp, ep⟩ := grp_at eg hg1
            have hT := sm _ _ (hg g (List.mem_of_getElem? hg1))
            rw [ep] at hT
            refine ⟨g.1, _, rfl, SqT.of hT, rfl, _, _, rfl, _, _, rfl, rfl, rfl, _, rfl, _, rfl, p.x, p.y, rfl, _, hD, ?_, same_grow nD sm, ?_⟩
            · rw [List.length_map, List.length_map, List.length_take, sizeLine_eq]
              omega
            · rw [upd_same, take_snoc hp, List.map_append, List.map_append]
              rfl
          · rintro H' ⟨sm, hD⟩
            rw [grpV, List.length_map, grp_len eg, List.take_length] at hD
            refine ⟨D, _, rfl, SqL.of hD, ?_⟩
            have := k H' (s1.trans sm)
            rwa [lv, decide_eq_true (show 1 ≤ ns.length / 2 ∧ ns.length / 2 ≤ 24 by omega), Bool.true_and, ← all_map] at this
      · have e2 : ¬ (1 : Int) ≤ ((ns.length / 2 : Nat) : Int) := fun z => e2 (decide_eq_true z)
        exact no (by omega)
theorem okPlaces (T : Tx K mg) {k : Nat} : FnOk P w K mg base CX0 (k + 2) T.are_places.f T.are_places.fd ["numbers"] (spTest K placesOk) := by
  have GG : FnOk P w K mg base CX0 (k + 1) T.grouped.f T.grouped.fd ["numbers", "size"] (spGroup K) := okGrouped T
  have GV : FnOk P w K mg base CX0 (k + 1) T.is_place.f T.is_place.fd ["x", "y"] (spB2 (nearOk 1000000)) := okIsPlace T
  refine T.are_places.fn.ok sc_are_places (fun vs H Q E h => ?_) (fun cdv A outer s H vs Q E hr h => ?_)
  · obtain ⟨a, ns, rfl, _⟩ := h
    rfl
  · obtain ⟨a, ns, rfl, hS, hlen, k⟩ := h
    refine ⟨_, pss_cons (ps_if (PW.pt (pw_or (pt_cmpR op_eq (pe_op op_mod (pe_callB call_len_seq (by rfl) T.nb.len_ PySem.boot_len (pa_cons (pv 0) pa_nil)) pe_int) pe_int (nomark _))
        (pw_or1 (pt_cmpR op_lt (pe_callB call_len_seq (by rfl) T.nb.len_ PySem.boot_len (pa_cons (pv 0) pa_nil)) pe_int (nomark _))))) (pss_one (ps_ret pe_bl)) pss_nil)
      (pss_one (ps_ret (pe_callB (cr_all rfl) (by rfl) T.nb.all_ (by decide +kernel) (pa_cons (pe_lc (own := [("x", 1), ("y", 2)]) (g := gTup K 2 (gCons (gName 1) (gCons (gName 2) gNil))) (tt := tYes) rfl sc_are_places.nd
        (pi_list (pe_call GG hr rfl T.grouped.g T.grouped.fn.kp T.grouped.b .nil pass0 (pa_cons (pv 0) (pa_cons pe_int pa_nil))))
        (blkOk_by (N := ["numbers", "x", "y"]) (sc := defScope s_are_places) (by decide +kernel))
        (fun _ _ _ _ _ => pg_tup rfl (pgs_cons (pg_name (i := 1) sc_are_places.nd rfl (.inl rfl)) (pgs_cons (pg_name (i := 2) sc_are_places.nd rfl (.inl rfl)) pgs_nil))) (fun _ _ _ _ _ => pts_nil)
        (fun _ _ _ _ _ => pe_call GV hr rfl T.is_place.g T.is_place.fn.kp T.is_place.b .nil pass0 (pa_cons (pv 1) (pa_cons (pv 2) pa_nil)))) pa_nil)))), ?_⟩
    refine ⟨_, rfl, a, _, rfl, .inl hS, _, _, rfl, rfl, (by show (0 : Int) < 2; decide), rfl, _, rfl, ?_⟩
    rw [List.length_map]
    refine ite2 (fun e => iteT ?_) (fun e => ?_)
    · have e1 : ((ns.length : Int) % 2) = 1 := V.int.inj (of_decide_eq_true e)
      have := k H (Same.refl _)
      rwa [placesOk, Gr.pairs_none ns (by omega)] at this
    · have e1 : ¬ ((ns.length : Int) % 2) = 1 := fun z => e (decide_eq_true (congrArg V.int z))
      obtain ⟨v, hv, lv, cv⟩ := Gr.pairs_some (ns.length / 2) ns (by omega)
      unfold placesOk at k
      simp only [hv] at k
      refine ⟨_, rfl, a, _, rfl, .inl hS, _, _, rfl, rfl, _, rfl, ?_⟩
      rw [List.length_map]
      refine ite2 (fun e3 => ?_) (fun e3 => ?_)
      · have e3 : (ns.length : Int) < 4 := of_decide_eq_true e3
        have := k H (Same.refl _)
        rwa [lv, decide_eq_false (by omega), Bool.false_and] at this
      · have e3 : ¬ (ns.length : Int) < 4 := fun z => e3 (decide_eq_true z)
        refine ⟨_, rfl, a, ns, 2, ns.length / 2, rfl, hS, by omega, by decide, by decide, by omega, fun H1 q gs s1 nq hq hg eg => ?_⟩
        rw [cv] at eg
        refine ⟨q, rfl, ⟨_, SqL.of hq⟩, fun D nD => lc_list (K := K) (a := q) (xs := grpV gs) (fun i H' => Same H1 H' ∧ H' D = some (.lst (((v.take i).map fun p => nearOk 1000000 p.x p.y).map V.bl)))
          ⟨same_upd nD, upd_same⟩ (fun i H' _ ⟨sm, _⟩ => SqL.of (sm _ _ hq)) ?_ ?_⟩
        · rintro i x H' hi ⟨sm, hD⟩
          obtain ⟨g, hg1, rfl⟩ := grp_get hi
          obtain ⟨p, hp, ep⟩ := grp_at eg hg1
          have hT := sm _ _ (hg g (List.mem_of_getElem? hg1))
          rw [ep] at hT
          refine ⟨g.1, _, rfl, SqT.of hT, rfl, _, _, rfl, _, _, rfl, rfl, rfl, _, rfl, _, rfl, p.x, p.y, rfl, _, hD, ?_, same_grow nD sm, ?_⟩
          · rw [List.length_map, List.length_map, List.length_take, sizeLine_eq]
            omega
          · rw [upd_same, take_snoc hp, List.map_append, List.map_append]
            rfl
        · rintro H' ⟨sm, hD⟩
          rw [grpV, List.length_map, grp_len eg, List.take_length] at hD
          refine ⟨D, _, rfl, SqL.of hD, ?_⟩
          have := k H' (s1.trans sm)
          rwa [lv, decide_eq_true (show 2 ≤ ns.length / 2 by omega), Bool.true_and, ← all_map] at this
theorem okClaims (T : Tx K mg) {k : Nat} : FnOk P w K mg base CX0 (k + 2) T.are_claims.f T.are_claims.fd ["numbers"] (spTest K claimsOk) := by
  have GG : FnOk P w K mg base CX0 (k + 1) T.grouped.f T.grouped.fd ["numbers", "size"] (spGroup K) := okGrouped T
  have GV : FnOk P w K mg base CX0 (k + 1) T.is_place.f T.is_place.fd ["x", "y"] (spB2 (nearOk 1000000)) := okIsPlace T
  have GT : FnOk P w K mg base CX0 (k + 1) T.is_time.f T.is_time.fd ["t"] (spB1 Vbreac.timeOk) := okIsTime T
  refine T.are_claims.fn.ok sc_are_claims (fun vs H Q E h => ?_) (fun cdv A outer s H vs Q E hr h => ?_)
  · obtain ⟨a, ns, rfl, _⟩ := h
    rfl
  · obtain ⟨a, ns, rfl, hS, hlen, k⟩ := h
    refine ⟨_, pss_cons (ps_if (PW.pt (pw_or (pt_cmpR op_ne (pe_op op_mod (pe_callB call_len_seq (by rfl) T.nb.len_ PySem.boot_len (pa_cons (pv 0) pa_nil)) pe_int) pe_int (nomark _))
        (pw_or1 (pt_cmpR op_lt (pe_callB call_len_seq (by rfl) T.nb.len_ PySem.boot_len (pa_cons (pv 0) pa_nil)) pe_int (nomark _))))) (pss_one (ps_ret pe_bl)) pss_nil)
      (pss_one (ps_ret (pe_callB (cr_all rfl) (by rfl) T.nb.all_ (by decide +kernel) (pa_cons (pe_lc (own := [("x", 1), ("y", 2), ("u", 3)]) (g := gTup K 3 (gCons (gName 1) (gCons (gName 2) (gCons (gName 3) gNil)))) (tt := tYes) rfl sc_are_claims.nd
        (pi_list (pe_call GG hr rfl T.grouped.g T.grouped.fn.kp T.grouped.b .nil pass0 (pa_cons (pv 0) (pa_cons pe_int pa_nil))))
        (blkOk_by (N := ["numbers", "x", "y", "u"]) (sc := defScope s_are_claims) (by decide +kernel))
        (fun _ _ _ _ _ => pg_tup rfl (pgs_cons (pg_name (i := 1) sc_are_claims.nd rfl (.inl rfl)) (pgs_cons (pg_name (i := 2) sc_are_claims.nd rfl (.inl rfl)) (pgs_cons (pg_name (i := 3) sc_are_claims.nd rfl (.inl rfl)) pgs_nil)))) (fun _ _ _ _ _ => pts_nil)
        (fun _ _ _ _ _ => pe_and (pe_call GV hr rfl T.is_place.g T.is_place.fn.kp T.is_place.b .nil pass0 (pa_cons (pv 1) (pa_cons (pv 2) pa_nil))) (pe_one (pe_call GT hr rfl T.is_time.g T.is_time.fn.kp T.is_time.b .nil pass0 (pa_cons (pv 3) pa_nil))))) pa_nil)))), ?_⟩
    refine ⟨_, rfl, a, _, rfl, .inl hS, _, _, rfl, rfl, (by show (0 : Int) < 3; decide), rfl, _, rfl, ?_⟩
    rw [List.length_map]
    refine ite2 (fun e => iteT ?_) (fun e => ?_)
    · have e1 : ¬ ((ns.length : Int) % 3) = 0 := fun z => by
        have q : (!decide (V.int ((ns.length : Int) % 3) = V.int 0)) = true := e
        rw [z] at q
        simp at q
      have := k H (Same.refl _)
      rwa [claimsOk, Gr.triples_none ns (by omega)] at this
    · have e1 : ((ns.length : Int) % 3) = 0 := by
        refine Decidable.byContradiction fun z => e ?_
        show (!decide (V.int ((ns.length : Int) % 3) = V.int 0)) = true
        simp [z]
      obtain ⟨v, hv, lv, cv⟩ := Gr.triples_some (ns.length / 3) ns (by omega)
      unfold claimsOk at k
      simp only [hv] at k
      refine ⟨_, rfl, a, _, rfl, .inl hS, _, _, rfl, rfl, _, rfl, ?_⟩
      rw [List.length_map]
      refine ite2 (fun e3 => ?_) (fun e3 => ?_)
      · have e3 : (ns.length : Int) < 3 := of_decide_eq_true e3
        have := k H (Same.refl _)
        rwa [lv, decide_eq_false (by omega), Bool.false_and] at this
      · have e3 : ¬ (ns.length : Int) < 3 := fun z => e3 (decide_eq_true z)
        refine ⟨_, rfl, a, ns, 3, ns.length / 3, rfl, hS, by omega, by decide, by decide, by omega, fun H1 q gs s1 nq hq hg eg => ?_⟩
        rw [cv] at eg
        refine ⟨q, rfl, ⟨_, SqL.of hq⟩, fun D nD => lc_list (K := K) (a := q) (xs := grpV gs) (fun i H' => Same H1 H' ∧ H' D = some (.lst (((v.take i).map fun c => nearOk 1000000 c.1.x c.1.y && Vbreac.timeOk c.2).map V.bl)))
          ⟨same_upd nD, upd_same⟩ (fun i H' _ ⟨sm, _⟩ => SqL.of (sm _ _ hq)) ?_ ?_⟩
        · rintro i x H' hi ⟨sm, hD⟩
          obtain ⟨g, hg1, rfl⟩ := grp_get hi
          obtain ⟨p, hp, ep⟩ := grp_at eg hg1
          have hT := sm _ _ (hg g (List.mem_of_getElem? hg1))
          rw [ep] at hT
          have fin : ∀ b, b = (nearOk 1000000 p.1.x p.1.y && Vbreac.timeOk p.2) → ∃ acc, H' D = some (.lst acc) ∧ acc.length < sizeLine ∧ (Same H1 (upd H' D (.lst (acc ++ [.bl b]))) ∧ upd H' D (.lst (acc ++ [.bl b])) D = some (.lst (((v.take (i + 1)).map fun c => nearOk 1000000 c.1.x c.1.y && Vbreac.timeOk c.2).map V.bl))) := fun b eb => by
            refine ⟨_, hD, ?_, same_grow nD sm, ?_⟩
            · rw [List.length_map, List.length_map, List.length_take, sizeLine_eq]
              omega
            · rw [upd_same, take_snoc hp, List.map_append, List.map_append, eb]
              rfl
          refine ⟨g.1, _, rfl, SqT.of hT, rfl, _, _, rfl, _, _, rfl, _, _, rfl, rfl, rfl, _, rfl, _, rfl, p.1.x, p.1.y, rfl, _, rfl, ite2 (fun c => ⟨_, rfl, p.2, rfl, fin _ (by rw [c, Bool.true_and])⟩) (fun c => fin _ (by rw [Bool.eq_false_iff.mpr c, Bool.false_and]))⟩
        · rintro H' ⟨sm, hD⟩
          rw [grpV, List.length_map, grp_len eg, List.take_length] at hD
          refine ⟨D, _, rfl, SqL.of hD, ?_⟩
          have := k H' (s1.trans sm)
          rwa [lv, decide_eq_true (show 1 ≤ ns.length / 3 by omega), Bool.true_and, ← all_map] at this
end
end Sw
set_option linter.unusedVariables false
set_option linter.unusedSimpArgs false
namespace Mk
open Vbreac Hu
/-! ### A corner of all stays a corner of fewer -/
theorem bound_of (f : Pt → Int) : ∀ S : List Pt, ∃ M : Int, 0 < M ∧ ∀ s ∈ S, - f s < M
  | [] => ⟨1, by decide, by simp⟩
  | a :: S => by
    obtain ⟨M, hM, h⟩ := bound_of f S
    refine ⟨max M (1 - f a), by omega, ?_⟩
    intro s hs
    rcases List.mem_cons.1 hs with rfl | hs
    · omega
    · have := h s hs; omega
/-- A direction in which one corner lies further than all else. -/
theorem alone {S : List Pt} {p q : Pt} (h : Side S p q) : ∃ n, ∀ s ∈ S, s ≠ p → dot s n < dot p n := by
  obtain ⟨M, hM, hb⟩ := bound_of (fun s => dot (minus q p) (minus s p)) S
  refine ⟨⟨M * (q.y - p.y) - (q.x - p.x), - (M * (q.x - p.x)) - (q.y - p.y)⟩, ?_⟩
  intro s hs ne
  have k := h.2.2.2 s hs
  have b := hb s hs
  have i : dot p ⟨M * (q.y - p.y) - (q.x - p.x), - (M * (q.x - p.x)) - (q.y - p.y)⟩ - dot s ⟨M * (q.y - p.y) - (q.x - p.x), - (M * (q.x - p.x)) - (q.y - p.y)⟩ =
      M * cross (minus q p) (minus s p) + dot (minus q p) (minus s p) := by
    simp only [dot, cross, minus]; grind
  rcases Int.lt_or_eq_of_le k.1 with c | c
  · have : M * 1 ≤ M * cross (minus q p) (minus s p) := Int.mul_le_mul_of_nonneg_left (by omega) (by omega)
    omega
  · have d := k.2 c.symm
    have u := norm_pos ne
    have : dot (minus s p) (minus q s) = dot (minus q p) (minus s p) - dot (minus s p) (minus s p) := by simp only [dot, minus]; grind
    rw [← c, Int.mul_zero] at i
    omega
theorem corner_stays {S T : List Pt} {p q : Pt} (h : Side S p q) (hT : ∀ s ∈ T, s ∈ S) (hp : p ∈ T) : p ∈ hullOf T := by
  obtain ⟨n, hn⟩ := alone h
  have ne : T ≠ [] := by rintro rfl; cases hp
  obtain ⟨v, hv, f⟩ := hull_far ne n
  have hv' := hull_sub ne v hv
  by_cases e : v = p
  · exact e ▸ hv
  · have := hn v (hT v hv') e
    have := f p hp
    omega
theorem path_sub {S T : List Pt} (hT : ∀ s ∈ T, s ∈ S) : ∀ l : List Pt, (∀ s ∈ l, s ∈ T) → Path S l → Path T l
  | [], _, _ => trivial
  | [_], _, _ => trivial
  | p :: q :: r, h, k => ⟨⟨h p (by simp), h q (by simp), k.1.2.2.1, fun s hs => k.1.2.2.2 s (hT s hs)⟩, path_sub hT (q :: r) (fun s hs => h s (List.mem_cons_of_mem _ hs)) k.2⟩
theorem ring_sub {S T : List Pt} {c : Pt} {rest : List Pt} (R : Ring S c rest) (hT : ∀ s ∈ T, s ∈ S) (hc : ∀ s ∈ c :: rest, s ∈ T) : Ring T c rest where
  path := path_sub hT _ (by
    intro s hs
    simp only [List.mem_cons, List.mem_append, List.not_mem_nil, or_false] at hs
    rcases hs with h | h | h
    · exact hc s (by simp [h])
    · exact hc s (by simp [h])
    · exact hc s (by simp [h])) R.path
  ne := R.ne
  low := fun s hs => R.low s (hT s hs)
  nodup := R.nodup
  sub := hc
  two := R.two
/-- **The hull of all is the hull of all corners.** -/
theorem hull_of_hulls {V : List (List Pt)} : sail (V.flatMap sail) = sail (V.flatMap id) := by
  have sub : ∀ s ∈ zero :: V.flatMap sail, s ∈ zero :: V.flatMap id := by
    intro s hs
    rcases List.mem_cons.1 hs with h | h
    · simp [h]
    · obtain ⟨v, hv, h⟩ := List.mem_flatMap.1 h
      have := hull_sub (l := zero :: v) (by simp) s h
      rcases List.mem_cons.1 this with k | k
      · simp [k]
      · exact List.mem_cons_of_mem _ (List.mem_flatMap.2 ⟨v, hv, k⟩)
  unfold sail at *
  rcases hull_cases (l := zero :: V.flatMap id) (by simp) with ⟨p, e, h⟩ | ⟨c, rest, e, R⟩
  · rw [e]
    refine hull_one ?_
    intro s
    constructor
    · intro hs; exact h s (sub s hs)
    · intro hs
      have := h zero (by simp)
      rw [hs, ← this]; simp
  · rw [e]
    refine ring_hull (ring_sub R sub ?_) (fun s => Iff.rfl)
    intro s hs
    obtain ⟨q, _, _, sd⟩ := ring_succ R hs
    have := R.sub s hs
    rcases List.mem_cons.1 this with k | k
    · simp [k]
    · obtain ⟨v, hv, k⟩ := List.mem_flatMap.1 k
      refine List.mem_cons_of_mem _ (List.mem_flatMap.2 ⟨v, hv, ?_⟩)
      refine corner_stays (T := zero :: v) sd ?_ (List.mem_cons_of_mem _ k)
      intro s hs
      rcases List.mem_cons.1 hs with h | h
      · simp [h]
      · exact List.mem_cons_of_mem _ (List.mem_flatMap.2 ⟨v, hv, h⟩)
theorem hull_again {S : List Pt} {c : Pt} {rest : List Pt} (R : Ring S c rest) : Ring (c :: rest) c rest := ring_sub R R.sub (fun s hs => hs)
/-! ### Angles, by half turns -/
structure Ang where
  lev : Int
  v : Pt
def alt (P Q : Ang) : Prop := P.lev < Q.lev ∨ (P.lev = Q.lev ∧ 0 < cross P.v Q.v)
def ale (P Q : Ang) : Prop := P.lev < Q.lev ∨ (P.lev = Q.lev ∧ 0 ≤ cross P.v Q.v)
def half (P : Ang) : Ang := ⟨P.lev + 1, P.v⟩
def real (P : Ang) : Pt := if P.lev % 2 = 0 then P.v else neg P.v
theorem alt_ale {P Q R : Ang} (hP : pos P.v) (hQ : pos Q.v) (hR : pos R.v) (h : alt P Q) (k : ale Q R) : alt P R := by
  rcases h with h | ⟨h, h'⟩ <;> rcases k with k | ⟨k, k'⟩
  · exact .inl (by omega)
  · exact .inl (by omega)
  · exact .inl (by omega)
  · exact .inr ⟨by omega, trans_sw hP hQ hR h' k'⟩
theorem ale_alt {P Q R : Ang} (hP : pos P.v) (hQ : pos Q.v) (hR : pos R.v) (h : ale P Q) (k : alt Q R) : alt P R := by
  rcases h with h | ⟨h, h'⟩ <;> rcases k with k | ⟨k, k'⟩
  · exact .inl (by omega)
  · exact .inl (by omega)
  · exact .inl (by omega)
  · exact .inr ⟨by omega, trans_ws hP hQ hR h' k'⟩
theorem alt.ale {P Q : Ang} (h : alt P Q) : Mk.ale P Q := by
  rcases h with h | ⟨h, h'⟩
  · exact .inl h
  · exact .inr ⟨h, Int.le_of_lt h'⟩
theorem alt.half {P Q : Ang} (h : alt P Q) : alt (Mk.half P) (Mk.half Q) := by
  rcases h with h | ⟨h, h'⟩
  · exact .inl (by show P.lev + 1 < Q.lev + 1; omega)
  · exact .inr ⟨by show P.lev + 1 = Q.lev + 1; omega, h'⟩
/-- Ahead, by less than half a turn. -/
theorem left_of {P Q : Ang} (h : alt P Q) (k : alt Q (half P)) : 0 < cross (real P) (real Q) := by
  rcases h with h | ⟨h, h'⟩
  · rcases k with k | ⟨k, k'⟩
    · exfalso
      have : Q.lev < P.lev + 1 := k
      omega
    · have k : Q.lev = P.lev + 1 := k
      have k' : 0 < cross Q.v P.v := k'
      unfold real
      by_cases c : P.lev % 2 = 0
      · rw [if_pos c, if_neg (by omega)]
        simp only [cross, Hu.neg] at *; grind
      · rw [if_neg c, if_pos (by omega)]
        simp only [cross, Hu.neg] at *; grind
  · unfold real
    by_cases c : P.lev % 2 = 0
    · rw [if_pos c, if_pos (by omega)]; exact h'
    · rw [if_neg c, if_neg (by omega)]
      simp only [cross, Hu.neg] at *; grind
/-- Neither ahead: they point alike. -/
theorem alike_of {P Q : Ang} (hP : pos P.v) (hQ : pos Q.v) (h : ¬ alt P Q) (k : ¬ alt Q P) : P.lev = Q.lev ∧ cross P.v Q.v = 0 := by
  have e : P.lev = Q.lev := by
    rcases Int.lt_trichotomy P.lev Q.lev with c | c | c
    · exact absurd (.inl c) h
    · exact c
    · exact absurd (.inl c) k
  refine ⟨e, ?_⟩
  have h1 : ¬ 0 < cross P.v Q.v := fun c => h (.inr ⟨e, c⟩)
  have h2 : ¬ 0 < cross Q.v P.v := fun c => k (.inr ⟨e.symm, c⟩)
  have := neg_cross P.v Q.v
  omega
end Mk
set_option linter.unusedVariables false
set_option linter.unusedSimpArgs false
namespace Mk
open Vbreac Hu
/-- A corner further than both neighbours is further than all else. -/
theorem further {S : List Pt} {p v q n : Pt} (h1 : Side S p v) (h2 : Side S v q) (hp : dot p n < dot v n) (hq : dot q n < dot v n) :
    ∀ s ∈ S, s ≠ v → dot s n < dot v n := by
  intro s hs ne
  have le := furthest h1 h2 (Int.le_of_lt hp) (Int.le_of_lt hq) s hs
  rcases Int.lt_or_eq_of_le le with c | c
  · exact c
  · exfalso
    have a1 := h1.2.2.2 s hs
    have a2 := h2.2.2.2 s hs
    have d0 := h1.2.2.2 q h2.2.1
    rcases Int.lt_or_eq_of_le d0.1 with D | D
    · have i : cross (minus v p) (minus q p) * (dot s n - dot v n) =
        cross (minus v p) (minus s p) * (dot q n - dot v n) + cross (minus q v) (minus s v) * (dot p n - dot v n) := by
        simp only [cross, minus, dot]; grind
      rw [c, Int.sub_self, Int.mul_zero] at i
      have m1 := Int.mul_nonpos_of_nonneg_of_nonpos a1.1 (show dot q n - dot v n ≤ 0 by omega)
      have m2 := Int.mul_nonpos_of_nonneg_of_nonpos a2.1 (show dot p n - dot v n ≤ 0 by omega)
      have z1 : cross (minus v p) (minus s p) * (dot q n - dot v n) = 0 := by omega
      have z2 : cross (minus q v) (minus s v) * (dot p n - dot v n) = 0 := by omega
      have y1 : cross (minus v p) (minus s p) = 0 := by rcases Int.mul_eq_zero.1 z1 with k | k <;> omega
      have y2 : cross (minus q v) (minus s v) = 0 := by rcases Int.mul_eq_zero.1 z2 with k | k <;> omega
      have ix : cross (minus v p) (minus q p) * (s.x - v.x) = cross (minus v p) (minus s p) * (q.x - v.x) - cross (minus q v) (minus s v) * (v.x - p.x) := by
        simp only [cross, minus]; grind
      have iy : cross (minus v p) (minus q p) * (s.y - v.y) = cross (minus v p) (minus s p) * (q.y - v.y) - cross (minus q v) (minus s v) * (v.y - p.y) := by
        simp only [cross, minus]; grind
      rw [y1, y2] at ix iy
      simp only [Int.zero_mul, Int.sub_self] at ix iy
      have ex : s.x - v.x = 0 := by rcases Int.mul_eq_zero.1 ix with k | k <;> omega
      have ey : s.y - v.y = 0 := by rcases Int.mul_eq_zero.1 iy with k | k <;> omega
      exact ne (pt_ext (by omega) (by omega))
    · have e1 := d0.2 D.symm
      have e2 := (h2.2.2.2 p h1.1).2 (by
        have : cross (minus q v) (minus p v) = cross (minus v p) (minus q p) := by simp only [cross, minus]; grind
        omega)
      have pq : p = q := fold_back e1 e2
      subst pq
      have z : cross (minus v p) (minus s p) = 0 := by
        have : cross (minus p v) (minus s v) = - cross (minus v p) (minus s p) := by simp only [cross, minus]; grind
        omega
      have b := a1.2 z
      have i : dot (minus v p) (minus v p) * (dot v n - dot s n) = dot (minus v s) (minus v p) * (dot v n - dot p n) + cross (minus v p) (minus s p) * (n.y * (v.x - p.x) - n.x * (v.y - p.y)) * (-1) := by
        simp only [cross, minus, dot]; grind
      rw [z, c, Int.sub_self, Int.mul_zero] at i
      simp only [Int.zero_mul, Int.add_zero] at i
      have k0 : dot (minus v s) (minus v p) = 0 := by rcases Int.mul_eq_zero.1 i.symm with k | k <;> omega
      have k1 : dot (minus v s) (minus v p) = dot (minus s p) (minus v s) + dot (minus v s) (minus v s) := by simp only [dot, minus]; grind
      have := norm_pos (a := v) (b := s) (Ne.symm ne)
      omega
/-- One step of a figure: where it leads, and its angle. -/
abbrev Step := Pt × Ang
def nextAng (N : Ang) : List Step → Ang
  | [] => N
  | s :: _ => s.2
def nextPt (n1 : Pt) : List Step → Pt
  | [] => n1
  | s :: _ => s.1
/-- From a corner on, round to the first one; pa lies before it. -/
def Track (S : List Pt) (c : Pt) (N : Ang) : Pt → Pt → Ang → List Step → Prop
  | pa, a, P, [] => a = c ∧ Side S pa a ∧ minus a pa = real P ∧ pos P.v ∧ alt P N ∧ ale N (half P)
  | pa, a, P, s :: r => Side S pa a ∧ minus a pa = real P ∧ pos P.v ∧ alt P s.2 ∧ ale s.2 (half P) ∧ (s.2.lev = 0 ∨ s.2.lev = 1) ∧ Track S c N a s.1 s.2 r
/-- What closes a figure: its first side, a round later. -/
structure Close (S : List Pt) (c n1 : Pt) (N : Ang) : Prop where
  side : Side S c n1
  is : minus n1 c = real N
  pos : pos N.v
  lev : N.lev = 2
  low : ∀ s ∈ S, le c s
theorem Track.here {S c N pa a P sa} (T : Track S c N pa a P sa) : Side S pa a ∧ minus a pa = real P ∧ pos P.v := by
  cases sa with
  | nil => exact ⟨T.2.1, T.2.2.1, T.2.2.2.1⟩
  | cons s r => exact ⟨T.1, T.2.1, T.2.2.1⟩
theorem Track.next {S c n1 N pa a P sa} (T : Track S c N pa a P sa) (C : Close S c n1 N) :
    Side S a (nextPt n1 sa) ∧ minus (nextPt n1 sa) a = real (nextAng N sa) ∧ pos (nextAng N sa).v ∧ alt P (nextAng N sa) ∧ ale (nextAng N sa) (half P) := by
  cases sa with
  | nil =>
    obtain ⟨rfl, _, _, _, h1, h2⟩ := T
    exact ⟨C.side, C.is, C.pos, h1, h2⟩
  | cons s r =>
    obtain ⟨_, _, _, h1, h2, _, T'⟩ := T
    have := T'.here
    exact ⟨this.1, this.2.1, this.2.2, h1, h2⟩
/-- All of a figure lies on the left of a direction through the corner that it fits in at, and nothing else on the line. -/
theorem fits_in {S c n1 N pa a P sa} (T : Track S c N pa a P sa) (C : Close S c n1 N) {Z : Ang} (hZ : pos Z.v) (h1 : alt P Z) (h2 : alt Z (nextAng N sa)) :
    ∀ s ∈ S, 0 ≤ cross (real Z) (minus s a) ∧ (cross (real Z) (minus s a) = 0 → s = a) := by
  obtain ⟨s1, e1, p1⟩ := T.here
  obtain ⟨s2, e2, p2, a1, a2⟩ := T.next C
  have l1 : 0 < cross (real P) (real Z) := left_of h1 (alt_ale hZ p2 p1 h2 a2)
  have l2 : 0 < cross (real Z) (real (nextAng N sa)) := left_of h2 (ale_alt (Q := half P) (R := half Z) p2 p1 hZ a2 h1.half)
  rw [← e1] at l1
  rw [← e2] at l2
  have tr : ∀ s : Pt, dot a ⟨(real Z).y, -(real Z).x⟩ - dot s ⟨(real Z).y, -(real Z).x⟩ = cross (real Z) (minus s a) := by
    intro s; simp only [dot, cross, minus]; grind
  have F := further (n := ⟨(real Z).y, -(real Z).x⟩) s1 s2 (by
    have := tr pa
    have : cross (real Z) (minus pa a) = cross (minus a pa) (real Z) := by simp only [cross, minus]; grind
    omega) (by
    have := tr (nextPt n1 sa)
    omega)
  intro s hs
  by_cases e : s = a
  · subst e
    have : cross (real Z) (minus s s) = 0 := by simp only [cross, minus]; grind
    exact ⟨by omega, fun _ => rfl⟩
  · have := F s hs e
    have := tr s
    exact ⟨by omega, fun z => by omega⟩
def sums (A B : List Pt) : List Pt := A.flatMap fun p => B.map fun q => plus p q
theorem mem_sums {A B : List Pt} {s : Pt} : s ∈ sums A B ↔ ∃ p ∈ A, ∃ q ∈ B, s = plus p q := by
  simp only [sums, List.mem_flatMap, List.mem_map]
  constructor
  · rintro ⟨p, hp, q, hq, e⟩; exact ⟨p, hp, q, hq, e.symm⟩
  · rintro ⟨p, hp, q, hq, e⟩; exact ⟨p, hp, q, hq, e.symm⟩
theorem minus_plus (s t a b : Pt) : minus (plus s t) (plus a b) = plus (minus s a) (minus t b) := by
  simp only [minus, plus]; exact pt_ext (by simp; omega) (by simp; omega)
/-- A step along the first figure alone. -/
theorem side_left {A B : List Pt} {a a1 b : Pt} (sd : Side A a a1) (hb : b ∈ B) (f : ∀ s ∈ B, 0 ≤ cross (minus a1 a) (minus s b) ∧ (cross (minus a1 a) (minus s b) = 0 → s = b)) :
    Side (sums A B) (plus a b) (plus a1 b) := by
  refine ⟨mem_sums.2 ⟨a, sd.1, b, hb, rfl⟩, mem_sums.2 ⟨a1, sd.2.1, b, hb, rfl⟩, ?_, ?_⟩
  · intro e
    have ex := congrArg Pt.x e
    have ey := congrArg Pt.y e
    simp only [plus] at ex ey
    exact sd.2.2.1 (pt_ext (by omega) (by omega))
  · intro s hs
    obtain ⟨s1, h1, s2, h2, rfl⟩ := mem_sums.1 hs
    have k1 := sd.2.2.2 s1 h1
    have k2 := f s2 h2
    have e : cross (minus (plus a1 b) (plus a b)) (minus (plus s1 s2) (plus a b)) = cross (minus a1 a) (minus s1 a) + cross (minus a1 a) (minus s2 b) := by
      simp only [cross, minus, plus]; grind
    rw [e]
    refine ⟨by omega, fun z => ?_⟩
    have z2 := k2.2 (by omega)
    subst z2
    have z1 := k1.2 (by omega)
    have e2 : dot (minus (plus s1 s2) (plus a s2)) (minus (plus a1 s2) (plus s1 s2)) = dot (minus s1 a) (minus a1 s1) := by
      simp only [dot, minus, plus]; grind
    rw [e2]; exact z1
theorem plus_comm (a b : Pt) : plus a b = plus b a := by simp only [plus]; exact pt_ext (by simp; omega) (by simp; omega)
theorem sums_comm {A B : List Pt} : ∀ s, s ∈ sums A B ↔ s ∈ sums B A := by
  intro s
  rw [mem_sums, mem_sums]
  constructor
  · rintro ⟨p, hp, q, hq, e⟩; exact ⟨q, hq, p, hp, by rw [e, plus_comm]⟩
  · rintro ⟨p, hp, q, hq, e⟩; exact ⟨q, hq, p, hp, by rw [e, plus_comm]⟩
theorem side_right {A B : List Pt} {a b b1 : Pt} (sd : Side B b b1) (ha : a ∈ A) (f : ∀ s ∈ A, 0 ≤ cross (minus b1 b) (minus s a) ∧ (cross (minus b1 b) (minus s a) = 0 → s = a)) :
    Side (sums A B) (plus a b) (plus a b1) := by
  have := side_left sd ha f
  rw [plus_comm b a, plus_comm b1 a] at this
  exact mem_all (fun s => (sums_comm s).symm) this
theorem along_dot {x u v : Pt} (hx : 0 < dot x x) (c1 : cross x u = 0) (c2 : cross x v = 0) (d1 : 0 ≤ dot x u) (d2 : 0 ≤ dot x v) : 0 ≤ dot u v := by
  have i : dot u v * dot x x = dot x u * dot x v + cross x u * cross x v := by simp only [dot, cross]; grind
  rw [c1, Int.zero_mul, Int.add_zero] at i
  have := Int.mul_nonneg d1 d2
  exact nn_of_mul (by omega) hx
theorem btw_dot {x u : Pt} (c : cross x u = 0) (b : 0 ≤ dot u (minus x u)) : 0 ≤ dot x u ∧ 0 ≤ dot x (minus x u) := by
  have e1 : dot u (minus x u) = dot x u - dot u u := by simp only [dot, minus]; grind
  have n1 := norm_nn u
  refine ⟨by omega, ?_⟩
  have e2 : dot x (minus x u) = dot x x - dot x u := by simp only [dot, minus]; grind
  have e3 : dot (minus x u) (minus x u) = dot x x - dot x u - (dot x u - dot u u) := by simp only [dot, minus]; grind
  have n2 := norm_nn (minus x u)
  omega
/-- A step along both figures at once. -/
theorem side_both {A B : List Pt} {a a1 b b1 : Pt} (sa : Side A a a1) (sb : Side B b b1) (c : cross (minus a1 a) (minus b1 b) = 0) (d : 0 < dot (minus a1 a) (minus b1 b)) :
    Side (sums A B) (plus a b) (plus a1 b1) := by
  have na := norm_pos (Ne.symm sa.2.2.1)
  have nb := norm_pos (Ne.symm sb.2.2.1)
  refine ⟨mem_sums.2 ⟨a, sa.1, b, sb.1, rfl⟩, mem_sums.2 ⟨a1, sa.2.1, b1, sb.2.1, rfl⟩, ?_, ?_⟩
  · intro e
    have ex := congrArg Pt.x e
    have ey := congrArg Pt.y e
    simp only [plus] at ex ey
    have e1 : dot (minus a1 a) (minus b1 b) = - dot (minus a1 a) (minus a1 a) := by
      have h1 : b1.x - b.x = -(a1.x - a.x) := by omega
      have h2 : b1.y - b.y = -(a1.y - a.y) := by omega
      simp only [dot, minus, h1, h2]; grind
    omega
  · intro s hs
    obtain ⟨s1, h1, s2, h2, rfl⟩ := mem_sums.1 hs
    have k1 := sa.2.2.2 s1 h1
    have k2 := sb.2.2.2 s2 h2
    generalize hx : minus a1 a = x at *
    generalize hy : minus b1 b = y at *
    -- y points as x does
    have sc1 : cross x (minus s2 b) * dot y y = dot x y * cross y (minus s2 b) + cross x y * dot y (minus s2 b) := by simp only [cross, dot]; grind
    have sc2 : cross y (minus s1 a) * dot x x = dot x y * cross x (minus s1 a) - cross x y * dot x (minus s1 a) := by simp only [cross, dot]; grind
    rw [c, Int.zero_mul] at sc1 sc2
    have n1 : 0 ≤ cross x (minus s2 b) := nn_of_mul (a := cross x (minus s2 b)) (b := dot y y) (by
      have := Int.mul_nonneg (Int.le_of_lt d) k2.1; omega) nb
    have n2 : 0 ≤ cross y (minus s1 a) := nn_of_mul (a := cross y (minus s1 a)) (b := dot x x) (by
      have := Int.mul_nonneg (Int.le_of_lt d) k1.1; omega) na
    have e : cross (minus (plus a1 b1) (plus a b)) (minus (plus s1 s2) (plus a b)) = (cross x (minus s1 a) + cross x (minus s2 b)) + (cross y (minus s1 a) + cross y (minus s2 b)) := by
      rw [minus_plus, minus_plus, hx, hy]
      simp only [cross, plus]; grind
    rw [e]
    refine ⟨by omega, fun z => ?_⟩
    have z1 : cross x (minus s1 a) = 0 := by omega
    have z2 : cross y (minus s2 b) = 0 := by omega
    have z3 : cross x (minus s2 b) = 0 := by omega
    have b1' := k1.2 z1
    have b2' := k2.2 z2
    have r1 : minus a1 s1 = minus x (minus s1 a) := by rw [← hx]; simp only [minus]; exact pt_ext (by simp; omega) (by simp; omega)
    have r2 : minus b1 s2 = minus y (minus s2 b) := by rw [← hy]; simp only [minus]; exact pt_ext (by simp; omega) (by simp; omega)
    rw [r1] at b1'
    rw [r2] at b2'
    obtain ⟨p1, p2⟩ := btw_dot z1 b1'
    obtain ⟨q1, q2⟩ := btw_dot z2 b2'
    have e2 : dot (minus (plus s1 s2) (plus a b)) (minus (plus a1 b1) (plus s1 s2)) = dot (plus (minus s1 a) (minus s2 b)) (plus (minus x (minus s1 a)) (minus y (minus s2 b))) := by
      rw [minus_plus, minus_plus, r1, r2]
    rw [e2]
    -- all four point as x does
    have t1 : 0 ≤ dot x (minus s2 b) := by
      have i : dot x (minus s2 b) * dot y y = dot x y * dot y (minus s2 b) - cross x y * cross y (minus s2 b) := by simp only [cross, dot]; grind
      rw [c, Int.zero_mul] at i
      have := Int.mul_nonneg (Int.le_of_lt d) q1
      exact nn_of_mul (by omega) nb
    have t2 : 0 ≤ dot x (minus y (minus s2 b)) := by
      have i : dot x (minus y (minus s2 b)) * dot y y = dot x y * dot y (minus y (minus s2 b)) + cross x y * cross y (minus s2 b) := by simp only [cross, dot, minus]; grind
      rw [c, Int.zero_mul] at i
      have := Int.mul_nonneg (Int.le_of_lt d) q2
      exact nn_of_mul (by omega) nb
    have u1 : cross x (minus x (minus s1 a)) = 0 := by
      have : cross x (minus x (minus s1 a)) = - cross x (minus s1 a) := by simp only [cross, minus]; grind
      omega
    have u2 : cross x (minus y (minus s2 b)) = 0 := by
      have : cross x (minus y (minus s2 b)) = cross x y - cross x (minus s2 b) := by simp only [cross, minus]; grind
      omega
    have f1 := along_dot na z1 u1 p1 p2
    have f2 := along_dot na z1 u2 p1 t2
    have f3 := along_dot na z3 u1 t1 p2
    have f4 := along_dot na z3 u2 t1 t2
    have : dot (plus (minus s1 a) (minus s2 b)) (plus (minus x (minus s1 a)) (minus y (minus s2 b))) = dot (minus s1 a) (minus x (minus s1 a)) + dot (minus s1 a) (minus y (minus s2 b)) + (dot (minus s2 b) (minus x (minus s1 a)) + dot (minus s2 b) (minus y (minus s2 b))) := by
      simp only [dot, plus]; grind
    omega
end Mk
set_option linter.unusedVariables false
set_option linter.unusedSimpArgs false
namespace Mk
open Vbreac Hu
def mergeS : List Pt → List Pt → List Pt
  | [], bs => bs
  | x :: as, [] => x :: as
  | x :: as, y :: bs => if 0 < cross x y then x :: mergeS as (y :: bs) else if 0 < cross y x then y :: mergeS (x :: as) bs else plus x y :: mergeS as bs
termination_by as bs => as.length + bs.length
/-- The corners come to, one after another. -/
def walk (p : Pt) : List Pt → List Pt
  | [] => []
  | e :: r => plus p e :: walk (plus p e) r
def PathTo (S : List Pt) (c : Pt) : Pt → List Pt → Prop
  | p, [] => p = c
  | p, q :: r => Side S p q ∧ (r ≠ [] → lt c q) ∧ PathTo S c q r
theorem real_up {P : Ang} (h : P.lev = 0) : real P = P.v := by rw [real, h]; rfl
theorem real_down {P : Ang} (h : P.lev = 1) : real P = Hu.neg P.v := by rw [real, h]; rfl
theorem lt_up {a b : Pt} {P : Ang} (hP : pos P.v) (h : P.lev = 0) (e : minus b a = real P) : lt a b := by
  rw [real_up h] at e
  rw [← e] at hP
  simp only [pos, minus, lt] at *; omega
theorem lt_down {a b : Pt} {P : Ang} (hP : pos P.v) (h : P.lev = 1) (e : minus b a = real P) : lt b a := by
  rw [real_down h] at e
  have e' : P.v = minus a b := by
    have ex := congrArg Pt.x e
    have ey := congrArg Pt.y e
    simp only [minus, Hu.neg] at ex ey
    exact pt_ext (by simp [minus]; omega) (by simp [minus]; omega)
  rw [e'] at hP
  simp only [pos, minus, lt] at *; omega
theorem lt_plus {a b c d : Pt} (h : lt a b) (k : le c d) : lt (plus a c) (plus b d) := by
  simp only [lt, le, plus] at *; omega
theorem le_plus {a b c d : Pt} (h : le a b) (k : le c d) : le (plus a c) (plus b d) := by
  simp only [le, plus] at *; omega
theorem plus_minus (a b : Pt) : plus a (minus b a) = b := by
  simp only [plus, minus]; exact pt_ext (by simp; omega) (by simp; omega)
theorem plus_minus2 (a b c : Pt) : plus (plus a c) (minus b a) = plus b c := by
  simp only [plus, minus]; exact pt_ext (by simp; omega) (by simp; omega)
theorem plus_minus3 (a b c : Pt) : plus (plus c a) (minus b a) = plus c b := by
  simp only [plus, minus]; exact pt_ext (by simp; omega) (by simp; omega)
theorem plus_both (a a1 b b1 : Pt) : plus (plus a b) (plus (minus a1 a) (minus b1 b)) = plus a1 b1 := by
  simp only [plus, minus]; exact pt_ext (by simp; omega) (by simp; omega)
/-- Where the next step leads down one stands above the lowest. -/
theorem inner {S c n1 N pa a P sa} (T : Track S c N pa a P sa) (C : Close S c n1 N) (h : sa ≠ []) (hl : 1 ≤ (nextAng N sa).lev) : lt c a := by
  cases sa with
  | nil => exact absurd rfl h
  | cons s r =>
    obtain ⟨s2, e2, p2, _, _⟩ := T.next C
    have lv : s.2.lev = 1 := by
      have h1 : 1 ≤ s.2.lev := hl
      rcases T.2.2.2.2.2.1 with k | k <;> omega
    exact le_lt (C.low _ s2.2.1) (lt_down p2 lv e2)
theorem alt_lev {P Q : Ang} (h : alt P Q) : P.lev ≤ Q.lev := by rcases h with h | h <;> omega
theorem Track.mem {S c N pa a P sa} (T : Track S c N pa a P sa) : a ∈ S := T.here.1.2.1
theorem pos_dot {a b : Pt} (ha : pos a) (hb : pos b) (h : cross a b = 0) : 0 < dot a b := by
  have d := line_dot ha.nng hb.nng h
  rcases Int.lt_or_eq_of_le d with c | c
  · exact c
  · exfalso
    have i : dot a a * dot b b = dot a b * dot a b + cross a b * cross a b := by simp only [dot, cross]; grind
    rw [← c, h] at i
    have na : 0 < dot a a := by
      have := norm_pos (a := a) (b := zero) (by rintro rfl; simp [pos, zero] at ha)
      have e : minus a zero = a := by simp [minus, zero]
      rwa [e] at this
    have nb : 0 < dot b b := by
      have := norm_pos (a := b) (b := zero) (by rintro rfl; simp [pos, zero] at hb)
      have e : minus b zero = b := by simp [minus, zero]
      rwa [e] at this
    have := Int.mul_pos na nb
    simp at i
    omega
theorem real_alike {P Q : Ang} (hP : pos P.v) (hQ : pos Q.v) (hl : P.lev = Q.lev) (hc : cross P.v Q.v = 0) : cross (real P) (real Q) = 0 ∧ 0 < dot (real P) (real Q) := by
  have d := pos_dot hP hQ hc
  unfold real
  rw [← hl]
  by_cases c : P.lev % 2 = 0
  · rw [if_pos c, if_pos c]; exact ⟨hc, d⟩
  · rw [if_neg c, if_neg c]
    refine ⟨?_, ?_⟩
    · have : cross (Hu.neg P.v) (Hu.neg Q.v) = cross P.v Q.v := by simp only [cross, Hu.neg]; grind
      omega
    · have : dot (Hu.neg P.v) (Hu.neg Q.v) = dot P.v Q.v := by simp only [dot, Hu.neg]; grind
      omega
def realsOf (sa : List Step) : List Pt := sa.map fun s => real s.2
/-- The sides of two figures in one order lead round their sum. -/
theorem merge_path {A B : List Pt} {cA cB nA nB : Pt} {NA NB : Ang} (CA : Close A cA nA NA) (CB : Close B cB nB NB) :
    ∀ (k : Nat) (sa sb : List Step) (pa a : Pt) (P : Ang) (pb b : Pt) (Q : Ang), sa.length + sb.length = k → Track A cA NA pa a P sa → Track B cB NB pb b Q sb →
      alt P (nextAng NB sb) → alt Q (nextAng NA sa) → PathTo (sums A B) (plus cA cB) (plus a b) (walk (plus a b) (mergeS (realsOf sa) (realsOf sb))) := by
  intro k
  induction k using Nat.strongRecOn with
  | ind k ih =>
    intro sa sb pa a P pb b Q hk TA TB hPB hQA
    obtain ⟨sX, eX, pX, aX, bX⟩ := TA.next CA
    obtain ⟨sY, eY, pY, aY, bY⟩ := TB.next CB
    have leA := CA.low a TA.mem
    have leB := CB.low b TB.mem
    have pP := TA.here.2.2
    have pQ := TB.here.2.2
    -- a step along the first
    have goA : ∀ (s : Step) (r : List Step), sa = s :: r → alt s.2 (nextAng NB sb) → PathTo (sums A B) (plus cA cB) (plus a b) (walk (plus a b) (real s.2 :: mergeS (realsOf r) (realsOf sb))) := by
      intro s r e hlt
      subst e
      obtain ⟨_, _, _, _, _, lv, T'⟩ := TA
      have e1 : minus s.1 a = real s.2 := eX
      have F := fits_in TB CB (Z := s.2) pX hQA hlt
      have sd : Side (sums A B) (plus a b) (plus s.1 b) := side_left sX TB.mem (by rw [e1]; exact F)
      have nx := ih (r.length + sb.length) (by rw [← hk]; simp) r sb a s.1 s.2 pb b Q rfl T' TB hlt (by
        have n2 := T'.next CA
        exact alt_ale pQ pX n2.2.2.1 hQA n2.2.2.2.1.ale)
      have w : plus (plus a b) (real s.2) = plus s.1 b := by rw [← e1, plus_minus2]
      show PathTo _ _ _ (plus (plus a b) (real s.2) :: walk (plus (plus a b) (real s.2)) _)
      rw [w]
      refine ⟨sd, fun hne => ?_, nx⟩
      rcases lv with lv | lv
      · have up := lt_up pX lv eX
        exact le_lt (le_plus leA leB) (lt_plus up (le_refl b))
      · -- next comes another step down
        have n2 := T'.next CA
        have l1 := alt_lev n2.2.2.2.1
        have l2 := alt_lev hlt
        by_cases c : r = []
        · by_cases d : sb = []
          · subst c d
            simp [realsOf, mergeS, walk] at hne
          · have := inner TB CB d (by omega)
            have h2 := lt_plus this (CA.low s.1 T'.mem)
            rw [plus_comm cB, plus_comm b] at h2
            exact h2
        · exact lt_plus (inner T' CA c (by omega)) leB
    have goB : ∀ (s : Step) (r : List Step), sb = s :: r → alt s.2 (nextAng NA sa) → PathTo (sums A B) (plus cA cB) (plus a b) (walk (plus a b) (real s.2 :: mergeS (realsOf sa) (realsOf r))) := by
      intro s r e hlt
      subst e
      obtain ⟨_, _, _, _, _, lv, T'⟩ := TB
      have e1 : minus s.1 b = real s.2 := eY
      have F := fits_in TA CA (Z := s.2) pY hPB hlt
      have sd : Side (sums A B) (plus a b) (plus a s.1) := side_right sY TA.mem (by rw [e1]; exact F)
      have nx := ih (sa.length + r.length) (by rw [← hk]; simp) sa r pa a P b s.1 s.2 rfl TA T' (by
        have n2 := T'.next CB
        exact alt_ale pP pY n2.2.2.1 hPB n2.2.2.2.1.ale) hlt
      have w : plus (plus a b) (real s.2) = plus a s.1 := by rw [← e1, plus_minus3]
      show PathTo _ _ _ (plus (plus a b) (real s.2) :: walk (plus (plus a b) (real s.2)) _)
      rw [w]
      refine ⟨sd, fun hne => ?_, nx⟩
      rcases lv with lv | lv
      · have up : lt b s.1 := lt_up pY lv eY
        have h2 := lt_plus up (le_refl a)
        rw [plus_comm b, plus_comm s.1] at h2
        exact le_lt (le_plus leA leB) h2
      · have n2 := T'.next CB
        have l1 := alt_lev n2.2.2.2.1
        have l2 := alt_lev hlt
        by_cases c : r = []
        · by_cases d : sa = []
          · subst c d
            simp [realsOf, mergeS, walk] at hne
          · exact lt_plus (inner TA CA d (by omega)) (CB.low s.1 T'.mem)
        · have := inner T' CB c (by omega)
          have h2 := lt_plus this leA
          rw [plus_comm cB, plus_comm s.1] at h2
          exact h2
    cases sa with
    | nil =>
      cases sb with
      | nil =>
        have e1 : a = cA := TA.1
        have e2 : b = cB := TB.1
        simp only [realsOf, List.map_nil, mergeS, walk, PathTo]
        rw [e1, e2]
      | cons s r =>
        have lv := TB.2.2.2.2.2.1
        have := goB s r rfl (.inl (by show s.2.lev < NA.lev; rw [CA.lev]; omega))
        simpa only [realsOf, List.map_nil, List.map_cons, mergeS] using this
    | cons s r =>
      cases sb with
      | nil =>
        have lv := TA.2.2.2.2.2.1
        have := goA s r rfl (.inl (by show s.2.lev < NB.lev; rw [CB.lev]; omega))
        cases r with
        | nil => simpa only [realsOf, List.map_nil, List.map_cons, mergeS] using this
        | cons s2 r2 => simpa only [realsOf, List.map_nil, List.map_cons, mergeS] using this
      | cons u q =>
        have eX' : minus s.1 a = real s.2 := eX
        have eY' : minus u.1 b = real u.2 := eY
        have pX' : pos s.2.v := pX
        have pY' : pos u.2.v := pY
        have hPB' : alt P u.2 := hPB
        have hQA' : alt Q s.2 := hQA
        have bX' : ale s.2 (half P) := bX
        have bY' : ale u.2 (half Q) := bY
        show PathTo _ _ _ (walk _ (mergeS (real s.2 :: realsOf r) (real u.2 :: realsOf q)))
        rw [mergeS]
        by_cases h1 : alt s.2 u.2
        · have c1 := left_of h1 (ale_alt (Q := half Q) (R := half s.2) pY' pQ pX' bY' hQA'.half)
          rw [if_pos c1]
          exact goA s r rfl h1
        · by_cases h2 : alt u.2 s.2
          · have c2 := left_of h2 (ale_alt (Q := half P) (R := half u.2) pX' pP pY' bX' hPB'.half)
            have c1 : ¬ 0 < cross (real s.2) (real u.2) := by
              have := neg_cross (real s.2) (real u.2)
              omega
            rw [if_neg c1, if_pos c2]
            exact goB u q rfl h2
          · obtain ⟨l0, c0⟩ := alike_of pX' pY' h1 h2
            obtain ⟨c1, d1⟩ := real_alike pX' pY' l0 c0
            have c2 : cross (real u.2) (real s.2) = 0 := by
              have := neg_cross (real u.2) (real s.2)
              omega
            rw [if_neg (by omega), if_neg (by omega)]
            obtain ⟨_, _, _, _, _, lvA, TA'⟩ := TA
            obtain ⟨_, _, _, _, _, lvB, TB'⟩ := TB
            have sd : Side (sums A B) (plus a b) (plus s.1 u.1) := side_both sX sY (by rw [eX', eY']; exact c1) (by rw [eX', eY']; exact d1)
            have nA2 := TA'.next CA
            have nB2 := TB'.next CB
            -- both angles lie before both next ones
            have su : ale s.2 u.2 := .inr ⟨l0, by omega⟩
            have us : ale u.2 s.2 := .inr ⟨l0.symm, by have := neg_cross u.2.v s.2.v; omega⟩
            have nx := ih (r.length + q.length) (by rw [← hk]; simp; omega) r q a s.1 s.2 b u.1 u.2 rfl TA' TB' (ale_alt pX' pY' nB2.2.2.1 su nB2.2.2.2.1) (ale_alt pY' pX' nA2.2.2.1 us nA2.2.2.2.1)
            have w : plus (plus a b) (plus (real s.2) (real u.2)) = plus s.1 u.1 := by rw [← eX', ← eY', plus_both]
            show PathTo _ _ _ (plus (plus a b) (plus (real s.2) (real u.2)) :: walk (plus (plus a b) (plus (real s.2) (real u.2))) _)
            rw [w]
            refine ⟨sd, fun hne => ?_, nx⟩
            rcases lvA with lv | lv
            · have up := lt_up pX' lv eX'
              have up2 := lt_up pY' (by omega) eY'
              exact lt_plus (le_lt leA up) (le_lt leB up2).le
            · have l1 := alt_lev nA2.2.2.2.1
              have l2 := alt_lev nB2.2.2.2.1
              by_cases c : r = []
              · by_cases d : q = []
                · subst c d
                  simp [realsOf, mergeS, walk] at hne
                · have := inner TB' CB d (by omega)
                  have h2 := lt_plus this (CA.low s.1 TA'.mem)
                  rw [plus_comm cB, plus_comm u.1] at h2
                  exact h2
              · exact lt_plus (inner TA' CA c (by omega)) (CB.low u.1 TB'.mem)
end Mk
set_option linter.unusedVariables false
set_option linter.unusedSimpArgs false
namespace Mk
open Vbreac Hu
/-! ### A ring's sides, by their angles -/
open Classical in
noncomputable def angOf (p q : Pt) : Ang := if pos (minus q p) then ⟨0, minus q p⟩ else ⟨1, minus p q⟩
theorem pos_or {p q : Pt} (h : p ≠ q) (k : ¬ pos (minus q p)) : pos (minus p q) := by
  simp only [pos, minus] at *
  by_cases e : p.y = q.y
  · have : p.x ≠ q.x := fun z => h (pt_ext z e)
    omega
  · omega
theorem ang_facts {p q : Pt} (h : p ≠ q) : pos (angOf p q).v ∧ minus q p = real (angOf p q) ∧ ((angOf p q).lev = 0 ∨ (angOf p q).lev = 1) := by
  unfold angOf
  by_cases c : pos (minus q p)
  · rw [if_pos c]
    exact ⟨c, by rw [real_up rfl], .inl rfl⟩
  · rw [if_neg c]
    refine ⟨pos_or h c, ?_, .inr rfl⟩
    rw [real_down rfl]
    simp only [minus, Hu.neg]; exact pt_ext (by simp; omega) (by simp; omega)
theorem turn {S : List Pt} {p q r : Pt} (h : Side S p q) (hr : r ∈ S) : 0 ≤ cross (minus q p) (minus r q) := by
  have := (h.2.2.2 r hr).1
  rw [cross_shift] at this
  exact this
theorem turn_strict {S : List Pt} {p q r : Pt} (h : Side S p q) (k : Side S q r) (d : cross (minus q p) (minus r q) = 0 → 0 ≤ dot (minus q p) (minus r q)) : 0 < cross (minus q p) (minus r q) := by
  rcases Int.lt_or_eq_of_le (turn h k.2.1) with c | c
  · exact c
  · exfalso
    have b := (h.2.2.2 r k.2.1).2 (by rw [cross_shift]; exact c.symm)
    have n := norm_pos (Ne.symm k.2.2.1)
    have d := d c.symm
    have e : dot (minus r p) (minus q r) = - dot (minus q p) (minus r q) - dot (minus r q) (minus r q) := by simp only [dot, minus]; grind
    omega
/-- A corner with both neighbours above is the lowest. -/
theorem local_low {S : List Pt} {p v q : Pt} (h1 : Side S p v) (h2 : Side S v q) (hp : lt v p) (hq : lt v q) : ∀ s ∈ S, le v s := by
  obtain ⟨M, hM, hb⟩ := bound_of (fun s => s.x - v.x) S
  obtain ⟨M', hM', hb'⟩ := bound_of (fun s => v.x - s.x) S
  have key : ∀ s ∈ S, dot s ⟨-1, -(max M M')⟩ ≤ dot v ⟨-1, -(max M M')⟩ ↔ le v s := by
    intro s hs
    have b1 := hb s hs
    have b2 := hb' s hs
    have i : dot v ⟨-1, -(max M M')⟩ - dot s ⟨-1, -(max M M')⟩ = (s.x - v.x) + (max M M') * (s.y - v.y) := by simp only [dot]; grind
    constructor
    · intro h
      rcases Int.lt_trichotomy s.y v.y with c | c | c
      · exfalso
        have : (max M M') * (s.y - v.y) ≤ (max M M') * (-1) := Int.mul_le_mul_of_nonneg_left (by omega) (by omega)
        omega
      · right
        rw [c, Int.sub_self, Int.mul_zero] at i
        exact ⟨c.symm, by omega⟩
      · left; exact c
    · intro h
      rcases h with h | ⟨h, h'⟩
      · have : (max M M') * 1 ≤ (max M M') * (s.y - v.y) := Int.mul_le_mul_of_nonneg_left (by omega) (by omega)
        omega
      · rw [h, Int.sub_self, Int.mul_zero] at i
        omega
  intro s hs
  exact (key s hs).1 (furthest h1 h2 ((key p h1.1).2 hp.le) ((key q h2.2.1).2 hq.le) s hs)
theorem lt_of_pos {p q : Pt} (h : pos (minus q p)) : lt p q := by simp only [pos, minus, lt] at *; omega
/-- From one side to the next, not at the lowest corner. -/
theorem ang_next {S : List Pt} {p q r c : Pt} (h : Side S p q) (k : Side S q r) (low : ∀ s ∈ S, le c s) (hc : c ∈ S) (ne : q ≠ c) : alt (angOf p q) (angOf q r) ∧ ale (angOf q r) (half (angOf p q)) := by
  have np := h.2.2.1
  have nq := k.2.2.1
  have t := turn h k.2.1
  unfold angOf
  by_cases c1 : pos (minus q p) <;> by_cases c2 : pos (minus r q)
  · rw [if_pos c1, if_pos c2]
    refine ⟨.inr ⟨rfl, ?_⟩, .inl (by show (0 : Int) < 0 + 1; decide)⟩
    exact turn_strict h k fun z => line_dot c1.nng c2.nng z
  · rw [if_pos c1, if_neg c2]
    refine ⟨.inl (by show (0 : Int) < 1; decide), .inr ⟨rfl, ?_⟩⟩
    show 0 ≤ cross (minus q r) (minus q p)
    have : cross (minus q r) (minus q p) = cross (minus q p) (minus r q) := by simp only [cross, minus]; grind
    omega
  · exfalso
    have l1 := lt_of_pos (pos_or np c1)
    have l2 := lt_of_pos c2
    have := local_low h k l1 l2 c hc
    exact ne (le_antisymm this (low q h.2.1))
  · rw [if_neg c1, if_neg c2]
    have d1 := pos_or np c1
    have d2 := pos_or nq c2
    refine ⟨.inr ⟨rfl, ?_⟩, .inl (by show (1 : Int) < 1 + 1; decide)⟩
    show 0 < cross (minus p q) (minus q r)
    have e : cross (minus p q) (minus q r) = cross (minus q p) (minus r q) := by simp only [cross, minus]; grind
    rw [e]
    refine turn_strict h k fun z => ?_
    have := line_dot d1.nng d2.nng (by rw [e]; exact z)
    have e2 : dot (minus p q) (minus q r) = dot (minus q p) (minus r q) := by simp only [dot, minus]; grind
    omega
noncomputable def stepsFrom (p : Pt) : List Pt → List Step
  | [] => []
  | q :: r => (q, angOf p q) :: stepsFrom q r
def diffs (p : Pt) : List Pt → List Pt
  | [] => []
  | q :: r => minus q p :: diffs q r
theorem steps_real : ∀ (l : List Pt) (p : Pt), Path S (p :: l) → realsOf (stepsFrom p l) = diffs p l
  | [], _, _ => rfl
  | q :: r, p, h => by
    have := steps_real r q h.2
    simp only [realsOf, stepsFrom, List.map_cons, diffs] at *
    rw [this, ← (ang_facts h.1.2.2.1).2.1]
/-- On from a corner to the lowest one. -/
theorem track_of {S : List Pt} {c : Pt} (low : ∀ s ∈ S, le c s) (hc : c ∈ S) {N : Ang} : ∀ (l : List Pt) (pa a : Pt) (P : Ang), Side S pa a → minus a pa = real P → pos P.v → Path S (a :: (l ++ [c])) →
    (∀ s ∈ l, s ≠ c) → (∀ q, (l ++ [c]).head? = some q → alt P (angOf a q) ∧ ale (angOf a q) (half P)) →
    (∀ z, Side S z c → alt (angOf z c) N ∧ ale N (half (angOf z c))) → Track S c N pa a P (stepsFrom a (l ++ [c]))
  | [], pa, a, P, sd, e, hp, pth, _, hn, hN => by
    have h := hn c rfl
    have f := ang_facts pth.1.2.2.1
    have n := hN a pth.1
    exact ⟨sd, e, hp, h.1, h.2, f.2.2, rfl, pth.1, f.2.1, f.1, n.1, n.2⟩
  | q :: l, pa, a, P, sd, e, hp, pth, ne, hn, hN => by
    have h := hn q rfl
    have f := ang_facts pth.1.2.2.1
    refine ⟨sd, e, hp, h.1, h.2, f.2.2, ?_⟩
    refine track_of low hc l a q (angOf a q) pth.1 f.2.1 f.1 pth.2 (fun s hs => ne s (by simp [hs])) (fun r hr => ?_) hN
    have hq := ne q (by simp)
    have p2 : Side S q r := by
      cases l with
      | nil =>
        simp only [List.nil_append, List.head?_cons, Option.some.injEq] at hr
        subst hr
        exact pth.2.1
      | cons u l =>
        simp only [List.cons_append, List.head?_cons, Option.some.injEq] at hr
        subst hr
        exact pth.2.1
    exact ang_next pth.1 p2 low hc hq
/-- A ring, as a figure that can be added. -/
theorem ring_track {S : List Pt} {c : Pt} {rest : List Pt} (R : Ring S c rest) : ∃ (n1 pa : Pt) (N P : Ang), Close S c n1 N ∧ Track S c N pa c P (stepsFrom c (rest ++ [c])) ∧ P.lev = -1 ∧ (nextAng N (stepsFrom c (rest ++ [c]))).lev = 0 := by
  have hc : c ∈ S := R.sub c (by simp)
  obtain ⟨n1, r, er⟩ : ∃ n1 r, rest = n1 :: r := by
    cases h : rest with
    | nil => exact absurd h R.two
    | cons n1 r => exact ⟨n1, r, rfl⟩
  have s1 : Side S c n1 := by have := R.path; rw [er] at this; exact this.1
  obtain ⟨z, hz, _, sz⟩ := ring_pred R (v := c) (by simp)
  have zc : z ≠ c := sz.2.2.1
  have up1 : pos (minus n1 c) := pos_minus (by
    have := R.low n1 s1.2.1
    have ne := s1.2.2.1
    simp only [le, lt] at *
    by_cases e : c.y = n1.y ∧ c.x = n1.x
    · exact absurd (pt_ext e.2 e.1) ne
    · omega)
  have above : ∀ z, Side S z c → pos (minus z c) := by
    intro z sz
    have := R.low z sz.1
    have ne := sz.2.2.1
    refine pos_minus ?_
    simp only [le, lt] at *
    by_cases e : c.y = z.y ∧ c.x = z.x
    · exact absurd (pt_ext e.2.symm e.1.symm) ne
    · omega
  have down : ∀ z, Side S z c → angOf z c = ⟨1, minus z c⟩ := by
    intro z sz
    have a := above z sz
    unfold angOf
    rw [if_neg]
    intro k
    simp only [pos, minus] at *; omega
  have first : angOf c n1 = ⟨0, minus n1 c⟩ := by unfold angOf; rw [if_pos up1]
  have cr : ∀ z, Side S z c → 0 ≤ cross (minus n1 c) (minus z c) := by
    intro z sz
    have := turn sz s1.2.1
    have e : cross (minus n1 c) (minus z c) = cross (minus c z) (minus n1 c) := by simp only [cross, minus]; grind
    omega
  refine ⟨n1, z, ⟨2, minus n1 c⟩, ⟨-1, minus z c⟩, ⟨s1, by rfl, up1, rfl, R.low⟩, ?_, rfl, ?_⟩
  · refine track_of R.low hc rest z c ⟨-1, minus z c⟩ sz ?_ (above z sz) R.path R.ne ?_ ?_
    · show minus c z = real ⟨-1, minus z c⟩
      have : real ⟨-1, minus z c⟩ = Hu.neg (minus z c) := rfl
      rw [this]
      simp only [minus, Hu.neg]; exact pt_ext (by simp; omega) (by simp; omega)
    · intro q hq
      rw [er] at hq
      simp only [List.cons_append, List.head?_cons, Option.some.injEq] at hq
      subst hq
      rw [first]
      refine ⟨.inl (by show (-1 : Int) < 0; decide), .inr ⟨rfl, ?_⟩⟩
      exact cr z sz
    · intro y sy
      rw [down y sy]
      exact ⟨.inl (by show (1 : Int) < 2; decide), .inr ⟨rfl, cr y sy⟩⟩
  · rw [er]
    show (angOf c n1).lev = 0
    rw [first]
theorem merge_len : ∀ (k : Nat) (as bs : List Pt), as.length + bs.length = k → (mergeS as bs).length ≤ as.length + bs.length := by
  intro k
  induction k using Nat.strongRecOn with
  | ind k ih =>
    intro as bs hk
    cases as with
    | nil => simp [mergeS]
    | cons x as =>
      cases bs with
      | nil => simp [mergeS]
      | cons y bs =>
        rw [mergeS]
        simp only [List.length_cons] at hk ⊢
        split
        · have := ih (as.length + (bs.length + 1)) (by omega) as (y :: bs) (by simp)
          simp only [List.length_cons] at *; omega
        · split
          · have := ih ((as.length + 1) + bs.length) (by omega) (x :: as) bs (by simp)
            simp only [List.length_cons] at *; omega
          · have := ih (as.length + bs.length) (by omega) as bs rfl
            simp only [List.length_cons] at *; omega
theorem walk_len : ∀ (l : List Pt) (p : Pt), (walk p l).length = l.length
  | [], _ => rfl
  | e :: r, p => by simp [walk, walk_len r]
/-- A closed path: the corners, then the first again. -/
theorem path_to {S : List Pt} {c : Pt} : ∀ (l : List Pt) (p : Pt), PathTo S c p l → l ≠ [] → ∃ rest, l = rest ++ [c] ∧ Path S (p :: l) ∧ ∀ s ∈ rest, lt c s
  | [], _, _, h => absurd rfl h
  | [q], p, h, _ => by
    have e : q = c := h.2.2
    subst e
    exact ⟨[], rfl, ⟨h.1, trivial⟩, by simp⟩
  | q :: u :: r, p, h, _ => by
    obtain ⟨rest, e, pt, f⟩ := path_to (u :: r) q h.2.2 (by simp)
    refine ⟨q :: rest, by rw [e]; rfl, ⟨h.1, pt⟩, ?_⟩
    intro s hs
    rcases List.mem_cons.1 hs with rfl | hs
    · exact h.2.1 (by simp)
    · exact f s hs
theorem diffs_len : ∀ (l : List Pt) (p : Pt), (diffs p l).length = l.length
  | [], _ => rfl
  | q :: r, p => by simp [diffs, diffs_len r]
theorem sums_len (A B : List Pt) : (sums A B).length = A.length * B.length := by
  induction A with
  | nil => simp [sums]
  | cons a A ih =>
    have : sums (a :: A) B = B.map (fun q => plus a q) ++ sums A B := by simp [sums]
    rw [this, List.length_append, ih, List.length_map, List.length_cons, Nat.add_mul, Nat.one_mul, Nat.add_comm]
/-- **The sum of two figures: their sides in one order.** -/
theorem sum_ring {SA SB : List Pt} {cA cB : Pt} {rA rB : List Pt} (RA : Ring SA cA rA) (RB : Ring SB cB rB) :
    ∃ rest, walk (plus cA cB) (mergeS (diffs cA (rA ++ [cA])) (diffs cB (rB ++ [cB]))) = rest ++ [plus cA cB] ∧
      hullOf (sums (cA :: rA) (cB :: rB)) = plus cA cB :: rest := by
  have A := hull_again RA
  have B := hull_again RB
  obtain ⟨nA, pa, NA, P, CA, TA, lP, fA⟩ := ring_track A
  obtain ⟨nB, pb, NB, Q, CB, TB, lQ, fB⟩ := ring_track B
  have M := merge_path CA CB _ _ _ _ _ _ _ _ _ rfl TA TB (.inl (by rw [lP, fB]; decide)) (.inl (by rw [lQ, fA]; decide))
  rw [steps_real _ _ A.path, steps_real _ _ B.path] at M
  have hne : walk (plus cA cB) (mergeS (diffs cA (rA ++ [cA])) (diffs cB (rB ++ [cB]))) ≠ [] := by
    intro z
    rw [z] at M
    -- the merge of lists that are not empty is not empty
    have hz : (mergeS (diffs cA (rA ++ [cA])) (diffs cB (rB ++ [cB]))).length = 0 := by rw [← walk_len _ (plus cA cB), z]; rfl
    obtain ⟨x, as, ea⟩ : ∃ x as, diffs cA (rA ++ [cA]) = x :: as := by
      cases h : rA with
      | nil => exact ⟨_, _, rfl⟩
      | cons u v => exact ⟨_, _, rfl⟩
    obtain ⟨y, bs, eb⟩ : ∃ y bs, diffs cB (rB ++ [cB]) = y :: bs := by
      cases h : rB with
      | nil => exact ⟨_, _, rfl⟩
      | cons u v => exact ⟨_, _, rfl⟩
    rw [ea, eb, mergeS] at hz
    split at hz
    · simp at hz
    · split at hz <;> simp at hz
  obtain ⟨rest, e, pt, f⟩ := path_to _ _ M hne
  refine ⟨rest, e, ?_⟩
  rw [e] at pt
  have low : ∀ s ∈ sums (cA :: rA) (cB :: rB), le (plus cA cB) s := by
    intro s hs
    obtain ⟨p, hp, q, hq, rfl⟩ := mem_sums.1 hs
    exact le_plus (A.low p hp) (B.low q hq)
  have len : rest.length + 1 ≤ (sums (cA :: rA) (cB :: rB)).length := by
    have h1 := congrArg List.length e
    rw [walk_len, List.length_append] at h1
    have h2 := merge_len _ (diffs cA (rA ++ [cA])) (diffs cB (rB ++ [cB])) rfl
    rw [diffs_len, diffs_len, List.length_append, List.length_append] at h2
    rw [sums_len]
    simp only [List.length_cons, List.length_nil] at *
    have a2 : 1 ≤ rA.length := by have := A.two; cases h : rA with
      | nil => exact absurd h this
      | cons u v => simp
    have b2 : 1 ≤ rB.length := by have := B.two; cases h : rB with
      | nil => exact absurd h this
      | cons u v => simp
    have : (rA.length + 1) * (rB.length + 1) = rA.length * rB.length + rA.length + rB.length + 1 := by grind
    have : 1 * 1 ≤ rA.length * rB.length := Nat.mul_le_mul a2 b2
    omega
  cases hs : sums (cA :: rA) (cB :: rB) with
  | nil => rw [hs] at len; simp at len
  | cons p r =>
    rw [hs] at low len pt
    have mem : plus cA cB ∈ p :: r := by rw [← hs]; exact mem_sums.2 ⟨cA, by simp, cB, by simp, rfl⟩
    have lw : lowestOf p r = plus cA cB := lowest_is r p _ low mem
    simp only [hullOf, lw]
    rw [round_is (S := p :: r) (fun s => Iff.rfl) rest (plus cA cB) (r.length + 1) pt (fun s hs e => by subst e; exact lt_irrefl (f _ hs)) (by simp only [List.length_cons] at len; omega)]
end Mk
set_option linter.unusedVariables false
set_option linter.unusedSimpArgs false
namespace Fr
open Vbreac
/-- The fraction n over d. -/
def Rep (f : Frac) (n : Int) (d : Nat) : Prop := 0 < d ∧ f = lowest n d
theorem low_num (n : Int) (d : Nat) : (lowest n d).num = n / ((Nat.gcd n.natAbs d : Nat) : Int) := rfl
theorem low_den (n : Int) (d : Nat) : (lowest n d).den = d / Nat.gcd n.natAbs d := rfl
theorem frac_ext {f g : Frac} (h1 : f.num = g.num) (h2 : f.den = g.den) : f = g := by
  cases f; cases g; simp_all
theorem gcd_pos {n : Int} {d : Nat} (h : 0 < d) : 0 < Nat.gcd n.natAbs d := Nat.gcd_pos_of_pos_right _ h
/-- num * d = n * den. -/
theorem low_cross {n : Int} {d : Nat} (h : 0 < d) : (lowest n d).num * d = n * (lowest n d).den := by
  rw [low_num, low_den]
  obtain ⟨a, ha⟩ : ((Nat.gcd n.natAbs d : Nat) : Int) ∣ n := Int.ofNat_dvd_left.2 (Nat.gcd_dvd_left _ _)
  obtain ⟨b, hb⟩ := Nat.gcd_dvd_right n.natAbs d
  have g := gcd_pos (n := n) h
  generalize hg : Nat.gcd n.natAbs d = k at *
  have e1 : n / (k : Int) = a := by rw [ha]; exact Int.mul_ediv_cancel_left a (by omega)
  have e2 : d / k = b := by rw [hb]; exact Nat.mul_div_cancel_left b g
  rw [e1, e2, ha, hb]
  push_cast
  rw [← Int.mul_assoc, Int.mul_comm a]
theorem den_pos {n : Int} {d : Nat} (h : 0 < d) : 0 < (lowest n d).den := by
  rw [low_den]
  exact Nat.div_pos (Nat.le_of_dvd h (Nat.gcd_dvd_right _ _)) (gcd_pos h)
theorem low_coprime {n : Int} {d : Nat} (h : 0 < d) : Nat.gcd (lowest n d).num.natAbs (lowest n d).den = 1 := by
  rw [low_num, low_den]
  have e : (n / ((Nat.gcd n.natAbs d : Nat) : Int)).natAbs = n.natAbs / Nat.gcd n.natAbs d := by
    obtain ⟨a, ha⟩ : ((Nat.gcd n.natAbs d : Nat) : Int) ∣ n := Int.ofNat_dvd_left.2 (Nat.gcd_dvd_left _ _)
    have g := gcd_pos (n := n) h
    generalize hg : Nat.gcd n.natAbs d = k at *
    have e1 : n / (k : Int) = a := by rw [ha]; exact Int.mul_ediv_cancel_left a (by omega)
    rw [e1]
    have e2 : n.natAbs = k * a.natAbs := by rw [ha, Int.natAbs_mul]; rfl
    rw [e2, Nat.mul_div_cancel_left _ g]
  rw [e]
  exact Nat.gcd_div_gcd_div_gcd_of_pos_right h
/-- Two fractions in lowest terms that are worth the same are the same. -/
theorem eq_of_cross {f g : Frac} (hf : Nat.gcd f.num.natAbs f.den = 1) (hg : Nat.gcd g.num.natAbs g.den = 1) (pf : 0 < f.den) (pg : 0 < g.den) (h : f.num * g.den = g.num * f.den) : f = g := by
  have hn : f.num.natAbs * g.den = g.num.natAbs * f.den := by
    have := congrArg Int.natAbs h
    rw [Int.natAbs_mul, Int.natAbs_mul] at this
    simpa using this
  have d1 : f.den ∣ g.den := by
    have : f.den ∣ f.num.natAbs * g.den := ⟨g.num.natAbs, by rw [hn, Nat.mul_comm]⟩
    exact Nat.Coprime.dvd_of_dvd_mul_left (Nat.Coprime.symm hf) this
  have d2 : g.den ∣ f.den := by
    have : g.den ∣ g.num.natAbs * f.den := ⟨f.num.natAbs, by rw [← hn, Nat.mul_comm]⟩
    exact Nat.Coprime.dvd_of_dvd_mul_left (Nat.Coprime.symm hg) this
  have ed : f.den = g.den := Nat.dvd_antisymm d1 d2
  refine frac_ext ?_ ed
  rw [ed] at h
  exact Int.eq_of_mul_eq_mul_right (by omega) h
theorem low_eq {n m : Int} {d e : Nat} (hd : 0 < d) (he : 0 < e) (h : n * e = m * d) : lowest n d = lowest m e := by
  refine eq_of_cross (low_coprime hd) (low_coprime he) (den_pos hd) (den_pos he) ?_
  have c1 := low_cross (n := n) hd
  have c2 := low_cross (n := m) he
  have p1 := den_pos (n := n) hd
  have p2 := den_pos (n := m) he
  generalize (lowest n d).num = a at *
  generalize (lowest n d).den = b at *
  generalize (lowest m e).num = a' at *
  generalize (lowest m e).den = b' at *
  -- a d = n b, a' e = m b', n e = m d
  have : (a * b') * ((d : Int) * e) = (a' * b) * ((d : Int) * e) := by grind
  exact Int.eq_of_mul_eq_mul_right (by have := Int.mul_pos (show (0 : Int) < d by omega) (show (0 : Int) < e by omega); omega) this
theorem cross_of {n m : Int} {d e : Nat} (hd : 0 < d) (he : 0 < e) (h : lowest n d = lowest m e) : n * e = m * d := by
  have c1 := low_cross (n := n) hd
  have c2 := low_cross (n := m) he
  rw [h] at c1
  have p2 := den_pos (n := m) he
  generalize (lowest m e).num = a' at *
  generalize (lowest m e).den = b' at *
  have : (n * e) * (b' : Int) = (m * d) * b' := by grind
  exact Int.eq_of_mul_eq_mul_right (by omega) this
theorem Rep.self {f : Frac} {n : Int} {d : Nat} (h : Rep f n d) : Rep f f.num f.den := by
  obtain ⟨hd, rfl⟩ := h
  exact ⟨den_pos hd, low_eq hd (den_pos hd) (low_cross hd).symm⟩
theorem Rep.to {f : Frac} {n m : Int} {d e : Nat} (h : Rep f n d) (he : 0 < e) (c : n * e = m * d) : Rep f m e := ⟨he, by rw [h.2]; exact low_eq h.1 he c⟩
theorem Rep.eq {f g : Frac} {n m : Int} {d e : Nat} (h : Rep f n d) (k : Rep g m e) (c : n * e = m * d) : f = g := by rw [h.2, k.2]; exact low_eq h.1 k.1 c
theorem rep_whole (n : Int) : Rep (whole n) n 1 := ⟨by decide, by
  refine frac_ext ?_ ?_
  · rw [low_num, Nat.gcd_one_right]; simp [whole]
  · rw [low_den, Nat.gcd_one_right]; rfl⟩
theorem rep_low {n : Int} {d : Nat} (h : 0 < d) : Rep (lowest n d) n d := ⟨h, rfl⟩
theorem Rep.val {f : Frac} {n : Int} {d : Nat} (h : Rep f n d) : f.num * d = n * f.den ∧ 0 < f.den := by
  rw [h.2]
  exact ⟨low_cross h.1, den_pos h.1⟩
theorem Rep.add {f g : Frac} {n m : Int} {d e : Nat} (h : Rep f n d) (k : Rep g m e) : Rep (add f g) (n * e + m * d) (d * e) := by
  obtain ⟨v1, p1⟩ := h.val
  obtain ⟨v2, p2⟩ := k.val
  refine Rep.to (rep_low (Nat.mul_pos p1 p2)) (Nat.mul_pos h.1 k.1) ?_
  push_cast
  grind
theorem Rep.neg {f : Frac} {n : Int} {d : Nat} (h : Rep f n d) : Rep (neg f) (-n) d := by
  obtain ⟨v1, p1⟩ := h.val
  have hs := h.self
  have hp : Nat.gcd f.num.natAbs f.den = 1 := by rw [h.2]; exact low_coprime h.1
  have e : Vbreac.neg f = lowest (-f.num) f.den := by
    refine frac_ext ?_ ?_
    · rw [low_num, Int.natAbs_neg, hp]; simp [Vbreac.neg]
    · rw [low_den, Int.natAbs_neg, hp]; simp [Vbreac.neg]
  rw [e]
  exact Rep.to (rep_low p1) h.1 (by grind)
theorem Rep.sub {f g : Frac} {n m : Int} {d e : Nat} (h : Rep f n d) (k : Rep g m e) : Rep (sub f g) (n * e - m * d) (d * e) :=
  Rep.to (h.add k.neg) (Nat.mul_pos h.1 k.1) (by grind)
theorem Rep.times {f : Frac} {n : Int} {d : Nat} (h : Rep f n d) (z : Int) : Rep (times f z) (n * z) d := by
  obtain ⟨v1, p1⟩ := h.val
  exact Rep.to (rep_low p1) h.1 (by grind)
theorem Rep.over {f : Frac} {n : Int} {d : Nat} (h : Rep f n d) {z : Nat} (hz : 0 < z) : Rep (over f z) n (d * z) := by
  obtain ⟨v1, p1⟩ := h.val
  refine Rep.to (rep_low (Nat.mul_pos p1 hz)) (Nat.mul_pos h.1 hz) ?_
  push_cast
  grind
theorem mul_lt_iff {a b c : Int} (h : 0 < c) : a * c < b * c ↔ a < b := ⟨fun k => Int.lt_of_mul_lt_mul_right k (Int.le_of_lt h), fun k => Int.mul_lt_mul_of_pos_right k h⟩
theorem Rep.less {f g : Frac} {n m : Int} {d e : Nat} (h : Rep f n d) (k : Rep g m e) : less f g = decide (n * e < m * d) := by
  obtain ⟨v1, p1⟩ := h.val
  obtain ⟨v2, p2⟩ := k.val
  have hd : (0 : Int) < d := by have := h.1; omega
  have he : (0 : Int) < e := by have := k.1; omega
  have q1 : (0 : Int) < f.den := by omega
  have q2 : (0 : Int) < g.den := by omega
  unfold Vbreac.less
  congr 1
  rw [← mul_lt_iff (Int.mul_pos hd he), ← mul_lt_iff (a := n * e) (Int.mul_pos q1 q2)]
  have e1 : f.num * g.den * ((d : Int) * e) = n * e * ((f.den : Int) * g.den) := by grind
  have e2 : g.num * f.den * ((d : Int) * e) = m * d * ((f.den : Int) * g.den) := by grind
  rw [e1, e2]
theorem Rep.less_iff {f g : Frac} {n m : Int} {d e : Nat} (h : Rep f n d) (k : Rep g m e) : Vbreac.less f g = true ↔ n * e < m * d := by
  rw [h.less k, decide_eq_true_eq]
theorem Rep.atMost_iff {f g : Frac} {n m : Int} {d e : Nat} (h : Rep f n d) (k : Rep g m e) : Vbreac.atMost f g = true ↔ n * e ≤ m * d := by
  unfold Vbreac.atMost
  rw [k.less h, Bool.not_eq_true', decide_eq_false_iff_not]
  omega
end Fr
set_option linter.unusedVariables false
set_option linter.unusedSimpArgs false
namespace Lt
open Vbreac Fr
/-! ### The program's least time, in whole numbers -/
abbrev Best := Int × Int × Option Nat
def takeStep (lacking row : List Int) (k : Nat) (b : Best) : Best :=
  if 0 < lacking.getD k 0 ∧ b.1 * row.getD k 0 < lacking.getD k 0 * b.2.1 then (lacking.getD k 0, row.getD k 0, some k) else b
def takeN (lacking row : List Int) : Nat → Best
  | 0 => (0, 1, none)
  | k + 1 => takeStep lacking row k (takeN lacking row k)
def dirOf (dirs : List Pt) : Option Nat → Pt
  | none => zero
  | some k => dirs.getD k zero
theorem support_nn (h : List Pt) (n : Pt) : 0 ≤ support h n := (Hu.max_fold (fun v => dot v n) h 0).1
/-- What the specification has found so far, and what the program has. -/
def Like (parts : Nat) (dirs : List Pt) (b : Option Frac × Pt) (z : Best) : Prop :=
  b.2 = dirOf dirs z.2.2 ∧ ((b.1 = none ∧ z.2.1 = 0 ∧ 0 < z.1) ∨ ∃ f l, b.1 = some f ∧ z.2.1 = ((l : Nat) : Int) ∧ 0 < l ∧ 0 ≤ z.1 ∧ Rep f z.1 (parts * l))
theorem long_like {parts : Nat} (hp : 0 < parts) {dirs : List Pt} {h : List Pt} {needs : List Need} {lacking : List Int} (hd : needs.map (·.1) = dirs) (hl : lacking.length = dirs.length)
    (hr : ∀ (k : Nat) (n : Need) (z : Int), needs[k]? = some n → lacking[k]? = some z → Rep n.2 z parts) :
    ∀ (m k : Nat) (b : Option Frac × Pt), k + m = dirs.length → Like parts dirs b (takeN lacking (dirs.map (support h)) k) →
      Like parts dirs (longest h (needs.drop k) b) (takeN lacking (dirs.map (support h)) dirs.length)
  | 0, k, b, e, L => by
    have hn : needs.length = dirs.length := by rw [← hd, List.length_map]
    rw [List.drop_eq_nil_of_le (by omega)]
    have : k = dirs.length := by omega
    subst this
    exact L
  | m + 1, k, b, e, L => by
    have hn : needs.length = dirs.length := by rw [← hd, List.length_map]
    have ks : k < needs.length := by omega
    have kl : k < lacking.length := by omega
    rw [List.drop_eq_getElem_cons ks]
    have n1 : needs[k]? = some needs[k] := List.getElem?_eq_getElem ks
    have l1 : lacking[k]? = some lacking[k] := List.getElem?_eq_getElem kl
    have R := hr k _ _ n1 l1
    have d1 : dirs[k]? = some needs[k].1 := by rw [← hd, List.getElem?_map, n1]; rfl
    have gl : lacking.getD k 0 = lacking[k] := by rw [List.getD_eq_getElem?_getD, l1]; rfl
    have gr : (dirs.map (support h)).getD k 0 = support h needs[k].1 := by rw [List.getD_eq_getElem?_getD, List.getElem?_map, d1]; rfl
    have gd : dirs.getD k zero = needs[k].1 := by rw [List.getD_eq_getElem?_getD, d1]; rfl
    have sn := support_nn h needs[k].1
    have ih := fun b L => long_like hp hd hl hr (h := h) m (k + 1) b (by omega) L
    generalize needs[k] = n at *
    generalize lacking[k] = z at *
    have nx : takeN lacking (dirs.map (support h)) (k + 1) = takeStep lacking (dirs.map (support h)) k (takeN lacking (dirs.map (support h)) k) := rfl
    rw [nx] at ih
    unfold takeStep at ih
    rw [gl, gr] at ih
    generalize takeN lacking (dirs.map (support h)) k = st at *
    rw [longest]
    have am : atMost n.2 (whole 0) = true ↔ z ≤ 0 := by
      rw [R.atMost_iff (rep_whole 0)]
      simp
    by_cases c : atMost n.2 (whole 0) = true
    · rw [if_pos c]
      rw [if_neg (by have := am.1 c; omega)] at ih
      exact ih b L
    · rw [if_neg c]
      have zp : 0 < z := by
        rcases Int.lt_or_le 0 z with q | q
        · exact q
        · exact absurd (am.2 q) c
      obtain ⟨L2, L1⟩ := L
      rcases L1 with ⟨b0, l0, u0⟩ | ⟨f, l, b0, l0, lp, u0, Rf⟩
      · have st0 : ¬ (0 < z ∧ st.1 * support h n.1 < z * st.2.1) := by
          rw [l0, Int.mul_zero]
          have := Int.mul_nonneg (Int.le_of_lt u0) sn
          omega
        rw [if_neg st0] at ih
        have := ih b ⟨L2, .inl ⟨b0, l0, u0⟩⟩
        have stop : ∀ r : List Need, longest h r b = b := by
          intro r
          induction r with
          | nil => rfl
          | cons a r ih =>
            rw [longest]
            split
            · exact ih
            · rw [b0]
        rw [stop] at this
        rw [b0]
        exact this
      · rw [b0]
        simp only
        by_cases s0 : support h n.1 = 0
        · rw [if_pos s0]
          have st0 : 0 < z ∧ st.1 * support h n.1 < z * st.2.1 := by
            refine ⟨zp, ?_⟩
            rw [s0, Int.mul_zero, l0]
            exact Int.mul_pos zp (by omega)
          rw [if_pos st0] at ih
          have := ih (none, n.1) ⟨gd.symm, .inl ⟨rfl, s0, zp⟩⟩
          have stop : ∀ r : List Need, longest h r (none, n.1) = (none, n.1) := by
            intro r
            induction r with
            | nil => rfl
            | cons a r ih =>
              rw [longest]
              split
              · exact ih
              · rfl
          rw [stop] at this
          exact this
        · rw [if_neg s0]
          have sp : 0 < (support h n.1).toNat := by omega
          have Ru := R.over sp
          have es : (((support h n.1).toNat : Nat) : Int) = support h n.1 := by omega
          have lt := Rf.less_iff Ru
          have key : less f (over n.2 (support h n.1).toNat) = true ↔ st.1 * support h n.1 < z * st.2.1 := by
            rw [lt, l0]
            push_cast
            rw [es]
            have p1 : (0 : Int) < parts := by omega
            have e1 : st.1 * ((parts : Int) * support h n.1) = (st.1 * support h n.1) * parts := by grind
            have e2 : z * ((parts : Int) * l) = (z * l) * parts := by grind
            rw [e1, e2, mul_lt_iff p1]
          by_cases q : st.1 * support h n.1 < z * st.2.1
          · rw [if_pos (key.2 q)]
            rw [if_pos ⟨zp, q⟩] at ih
            exact ih _ ⟨gd.symm, .inr ⟨_, (support h n.1).toNat, rfl, es.symm, sp, Int.le_of_lt zp, Ru⟩⟩
          · rw [if_neg (fun k => q (key.1 k))]
            rw [if_neg (fun k => q k.2)] at ih
            exact ih _ ⟨L2, .inr ⟨f, l, b0, l0, lp, u0, Rf⟩⟩
theorem like_all {parts : Nat} (hp : 0 < parts) {dirs : List Pt} {h : List Pt} {needs : List Need} {lacking : List Int} (hd : needs.map (·.1) = dirs) (hl : lacking.length = dirs.length)
    (hr : ∀ (k : Nat) (n : Need) (z : Int), needs[k]? = some n → lacking[k]? = some z → Rep n.2 z parts) :
    Like parts dirs (longest h needs (some (whole 0), zero)) (takeN lacking (dirs.map (support h)) dirs.length) := by
  have := long_like hp hd hl hr (h := h) dirs.length 0 (some (whole 0), zero) (by omega) ⟨rfl, .inr ⟨whole 0, 1, rfl, rfl, by decide, Int.le_refl 0, by
    have := Rep.to (rep_whole 0) (m := 0) (e := parts * 1) (by omega) (by simp)
    exact this⟩⟩
  simpa using this
end Lt
set_option linter.unusedVariables false
set_option linter.unusedSimpArgs false
namespace Lt
open Vbreac Fr
/-- A slice one is in: its number, from when, how long (none: for ever). -/
abbrev Span := Nat × Int × Option Int
def stretches (t : Int) : Nat → Int → List Int → List Span
  | i, b, [] => [(i, max t b, none)]
  | i, b, e :: r => if t < e then (i, max t b, some (e - max t b)) :: stretches t (i + 1) e r else stretches t (i + 1) e r
def endsHere (upper lower : Int) : Option Int → Bool
  | none => true
  | some d => decide (0 < lower) && decide (upper ≤ d * lower)
structure Arr where
  number : Nat
  since : Int
  upper : Int
  lower : Int
  proof : Pt
def lessOf (lacking row : List Int) (d : Int) : List Int := List.zipWith (fun l s => l - s * d) lacking row
def rowOf (dirs : List Pt) (hulls : List (List Pt)) (i : Nat) : List Int := dirs.map (support (hulls.getD i []))
def bestOf (dirs : List Pt) (hulls : List (List Pt)) (i : Nat) (lacking : List Int) : Best := takeN lacking (rowOf dirs hulls i) dirs.length
def seek (dirs : List Pt) (hulls : List (List Pt)) : List Span → List Int → Option Arr
  | [], _ => none
  | s :: r, lacking =>
    if endsHere (bestOf dirs hulls s.1 lacking).1 (bestOf dirs hulls s.1 lacking).2.1 s.2.2 = true then
      some ⟨s.1, s.2.1, (bestOf dirs hulls s.1 lacking).1, (bestOf dirs hulls s.1 lacking).2.1, dirOf dirs (bestOf dirs hulls s.1 lacking).2.2⟩
    else seek dirs hulls r (lessOf lacking (rowOf dirs hulls s.1) (s.2.2.getD 0))
def timeOf (parts : Nat) (a : Arr) : Frac := lowest (a.since * (a.lower * parts) + a.upper * parts) ((parts * (a.lower * parts)).toNat)
def ansOf (parts : Nat) : Option Arr → Answer
  | none => .never zero
  | some a => if a.lower = 0 then .never a.proof else .at_ (timeOf parts a) a.number a.proof
/-- The wind's slices by their beginnings and hulls. -/
structure Fits (w : Wind) (begins : List Int) (hulls : List (List Pt)) : Prop where
  b : begins = w.map (·.from_)
  h : hulls = sails w
  up : begins.Pairwise (· < ·)
theorem Fits.len {w begins hulls} (F : Fits w begins hulls) : begins.length = w.length ∧ hulls.length = w.length := by
  rw [F.b, F.h]; simp [sails]
theorem Fits.sail {w begins hulls} (F : Fits w begins hulls) (i : Nat) : sailOf w i = hulls.getD i [] := by
  rw [F.h, sailOf, sails, List.getD_eq_getElem?_getD, List.getElem?_map]
theorem Fits.end_ {w begins hulls} (F : Fits w begins hulls) (i : Nat) : endOf w i = begins[i + 1]? := by
  rw [F.b, endOf, List.getElem?_map]
theorem Fits.from_ {w begins hulls} (F : Fits w begins hulls) (i : Nat) : ((w[i]?).map fun s => s.from_).getD 0 = begins.getD i 0 := by
  rw [F.b, List.getD_eq_getElem?_getD, List.getElem?_map]
theorem rep_greater {f g : Frac} {n m : Int} {d : Nat} (h : Rep f n d) (k : Rep g m d) : Rep (greater f g) (max n m) d := by
  have p : (0 : Int) < d := by have := h.1; omega
  unfold greater
  by_cases c : less f g = true
  · rw [if_pos c]
    rw [h.less_iff k, mul_lt_iff p] at c
    rw [Int.max_eq_right (by omega)]
    exact k
  · rw [if_neg c]
    rw [h.less_iff k, mul_lt_iff p] at c
    rw [Int.max_eq_left (by omega)]
    exact h
theorem rep_wholeP (b : Int) {parts : Nat} (hp : 0 < parts) : Rep (whole b) (b * parts) parts := Rep.to (rep_whole b) hp (by simp)
theorem Fits.enter {w begins hulls} (F : Fits w begins hulls) {t : Frac} {tn : Int} {parts : Nat} (ht : Rep t tn parts) {i : Nat} {b : Int} (hb : begins[i]? = some b) :
    Rep (entered w t i) (max tn (b * parts)) parts := by
  unfold entered
  rw [F.from_, List.getD_eq_getElem?_getD, hb]
  exact rep_greater ht (rep_wholeP b ht.1)
theorem rep_same {f g : Frac} {n m : Int} {d : Nat} (h : Rep f n d) (k : Rep g m d) : Rep (sub f g) (n - m) d :=
  Rep.to (h.sub k) h.1 (by push_cast; grind)
theorem Fits.stays {w begins hulls} (F : Fits w begins hulls) {t : Frac} {tn : Int} {parts : Nat} (ht : Rep t tn parts) {i : Nat} {b e : Int} (hb : begins[i]? = some b) (he : begins[i + 1]? = some e) :
    Rep (stay w t i) (max 0 (e * parts - max tn (b * parts))) parts := by
  unfold stay
  rw [F.end_, he]
  refine rep_greater ?_ (rep_same (rep_wholeP e ht.1) (F.enter ht hb))
  have := rep_wholeP 0 ht.1
  rwa [Int.zero_mul] at this
/-- Needs and what is lacking, place by place. -/
structure Needed (parts : Nat) (dirs : List Pt) (needs : List Need) (lacking : List Int) : Prop where
  d : needs.map (·.1) = dirs
  l : lacking.length = dirs.length
  r : ∀ (k : Nat) (n : Need) (z : Int), needs[k]? = some n → lacking[k]? = some z → Rep n.2 z parts
theorem Needed.next {parts dirs needs lacking} (N : Needed parts dirs needs lacking) {h : List Pt} {f : Frac} {d : Int} (hf : Rep f d parts) :
    Needed parts dirs (needs.map fun n => (n.1, sub n.2 (times f (support h n.1)))) (lessOf lacking (dirs.map (support h)) d) where
  d := by rw [← N.d, List.map_map]; rfl
  l := by rw [lessOf, List.length_zipWith, List.length_map, N.l, Nat.min_self]
  r := by
    intro k n z hn hz
    rw [List.getElem?_map] at hn
    rw [lessOf, List.getElem?_zipWith, List.getElem?_map] at hz
    cases e1 : needs[k]? with
    | none => rw [e1] at hn; cases hn
    | some m =>
      have ed : dirs[k]? = some m.1 := by rw [← N.d, List.getElem?_map, e1]; rfl
      cases e2 : lacking[k]? with
      | none => rw [e2] at hz; simp at hz
      | some y =>
        rw [e1] at hn
        rw [e2, ed] at hz
        simp only [Option.map_some, Option.some.injEq] at hn hz
        subst hn hz
        have := rep_same (N.r k m y e1 e2) (hf.times (support h m.1))
        rwa [Int.mul_comm d] at this
theorem Needed.skip {parts dirs needs lacking} (N : Needed parts dirs needs lacking) {h : List Pt} {f : Frac} (hf : Rep f 0 parts) :
    Needed parts dirs (needs.map fun n => (n.1, sub n.2 (times f (support h n.1)))) lacking := by
  have := N.next (h := h) hf
  have e : lessOf lacking (dirs.map (support h)) 0 = lacking := by
    refine List.ext_getElem? fun k => ?_
    rw [lessOf, List.getElem?_zipWith, List.getElem?_map]
    by_cases q : k < lacking.length
    · have q' : k < dirs.length := by rw [← N.l]; exact q
      rw [List.getElem?_eq_getElem q, List.getElem?_eq_getElem q']
      simp
    · rw [List.getElem?_eq_none (by omega)]
  rwa [e] at this
theorem like_at {parts : Nat} (hp : 0 < parts) {dirs : List Pt} {hulls : List (List Pt)} {i : Nat} {needs : List Need} {lacking : List Int} (N : Needed parts dirs needs lacking) :
    Like parts dirs (longest (hulls.getD i []) needs (some (whole 0), zero)) (bestOf dirs hulls i lacking) := like_all hp N.d N.l N.r
theorem time_eq {parts : Nat} {ent u : Frac} {since upper : Int} {l : Nat} {i : Nat} {p : Pt} (he : Rep ent since parts) (hu : Rep u upper (parts * l)) (lp : 0 < l) :
    add ent u = timeOf parts ⟨i, since, upper, l, p⟩ := by
  have a := he.add hu
  have hp := he.1
  have p2 : 0 < parts * (l * parts) := Nat.mul_pos hp (Nat.mul_pos lp hp)
  have e : ((parts : Int) * ((l : Int) * parts)).toNat = parts * (l * parts) := by
    have : (parts : Int) * ((l : Int) * parts) = ((parts * (l * parts) : Nat) : Int) := by push_cast; rfl
    rw [this, Int.toNat_natCast]
  refine Rep.eq a ⟨?_, rfl⟩ ?_
  · show 0 < ((parts : Int) * ((l : Int) * parts)).toNat
    rw [e]; exact p2
  · show _ * (((parts : Int) * ((l : Int) * parts)).toNat : Int) = _
    rw [e]
    push_cast
    grind
theorem search_eq {w begins hulls} (F : Fits w begins hulls) {t : Frac} {tn : Int} {parts : Nat} (ht : Rep t tn parts) {dirs : List Pt} :
    ∀ (rest : List Int) (i f : Nat) (b : Int) (needs : List Need) (lacking : List Int), begins.drop i = b :: rest → rest.length < f → Needed parts dirs needs lacking →
      search w t f i needs = ansOf parts (seek dirs hulls (stretches tn i (b * parts) (rest.map (· * (parts : Int)))) lacking)
  | rest, i, 0, b, needs, lacking, _, hf, _ => by omega
  | [], i, f + 1, b, needs, lacking, hd, _, N => by
    have hb : begins[i]? = some b := by
      have := congrArg (·[0]?) hd
      simpa using this
    have he : begins[i + 1]? = none := by
      have := congrArg (·[1]?) hd
      simpa using this
    have L := like_at ht.1 (hulls := hulls) (i := i) N
    rw [search]
    simp only [F.end_, he, F.sail]
    simp only [List.map_nil, stretches, seek]
    generalize hB : bestOf dirs hulls i lacking = B at *
    rw [if_pos (show endsHere B.1 B.2.1 none = true from rfl)]
    generalize longest (hulls.getD i []) needs (some (whole 0), zero) = bb at *
    obtain ⟨L2, ⟨b0, l0, _⟩ | ⟨z, l, b0, l0, lp, u0, R⟩⟩ := L
    · rw [b0]
      simp only [ansOf]
      rw [if_pos l0, L2]
    · rw [b0]
      simp only [ansOf]
      rw [if_neg (by omega), time_eq (i := i) (p := bb.2) (F.enter ht hb) R lp, L2, l0]
  | e :: rest, i, f + 1, b, needs, lacking, hd, hf, N => by
    have hb : begins[i]? = some b := by
      have := congrArg (·[0]?) hd
      simpa using this
    have he : begins[i + 1]? = some e := by
      have := congrArg (·[1]?) hd
      simpa using this
    have hd' : begins.drop (i + 1) = e :: rest := by
      have := congrArg List.tail hd
      simpa using this
    have L := like_at ht.1 (hulls := hulls) (i := i) N
    have S := F.stays ht hb he
    have E := F.enter ht hb
    have pp : (0 : Int) < parts := by have := ht.1; omega
    have be : b < e := by
      have up := F.up.drop (i := i)
      rw [hd] at up
      exact (List.pairwise_cons.1 up).1 e (by simp)
    have bep : b * (parts : Int) < e * parts := (mul_lt_iff pp).2 be
    have ih := fun nd lk N' => search_eq F ht (dirs := dirs) rest (i + 1) f e nd lk hd' (by simp only [List.length_cons] at hf; omega) N'
    rw [search]
    simp only [F.end_, he, F.sail]
    simp only [List.map_cons, stretches]
    by_cases c : tn < e * parts
    · have m : max 0 (e * (parts : Int) - max tn (b * parts)) = e * parts - max tn (b * parts) := by omega
      rw [m] at S
      have dp : 0 < e * (parts : Int) - max tn (b * parts) := by omega
      have lz : less (whole 0) (stay w t i) = true := by
        rw [(rep_wholeP 0 ht.1).less_iff S, Int.zero_mul, Int.zero_mul]
        exact Int.mul_pos dp pp
      rw [if_pos c]
      have nx := ih _ _ (N.next (h := hulls.getD i []) S)
      simp only [seek]
      rw [nx]
      generalize hB : bestOf dirs hulls i lacking = B at *
      generalize longest (hulls.getD i []) needs (some (whole 0), zero) = bb at *
      obtain ⟨L2, ⟨b0, l0, _⟩ | ⟨z, l, b0, l0, lp, u0, R⟩⟩ := L
      · rw [b0]
        have ne : ¬ endsHere B.1 B.2.1 (some (e * (parts : Int) - max tn (b * parts))) = true := by
          simp [endsHere, l0]
        rw [if_neg ne]
        rfl
      · rw [b0]
        simp only
        have am : atMost z (stay w t i) = true ↔ B.1 ≤ (e * (parts : Int) - max tn (b * parts)) * B.2.1 := by
          rw [R.atMost_iff S, l0]
          push_cast
          have e1 : (e * (parts : Int) - max tn (b * parts)) * ((parts : Int) * l) = ((e * (parts : Int) - max tn (b * parts)) * l) * parts := by grind
          rw [e1]
          exact Int.mul_le_mul_right pp
        have eh : endsHere B.1 B.2.1 (some (e * (parts : Int) - max tn (b * parts))) = true ↔ B.1 ≤ (e * (parts : Int) - max tn (b * parts)) * B.2.1 := by
          simp only [endsHere, Bool.and_eq_true, decide_eq_true_eq]
          rw [l0]
          constructor
          · exact fun h => h.2
          · exact fun h => ⟨by omega, h⟩
        by_cases q : B.1 ≤ (e * (parts : Int) - max tn (b * parts)) * B.2.1
        · rw [if_pos ⟨am.2 q, lz⟩, if_pos (eh.2 q)]
          simp only [ansOf]
          rw [if_neg (by omega), time_eq (i := i) (p := bb.2) E R lp, L2, l0]
        · rw [if_neg (fun h => q (am.1 h.1)), if_neg (fun h => q (eh.1 h))]
          rfl
    · have m : max 0 (e * (parts : Int) - max tn (b * parts)) = 0 := by omega
      rw [m] at S
      have lz : ¬ less (whole 0) (stay w t i) = true := by
        rw [(rep_wholeP 0 ht.1).less_iff S, Int.zero_mul]
        omega
      rw [if_neg c]
      have nx := ih _ _ (N.skip (h := hulls.getD i []) S)
      rw [nx]
      generalize longest (hulls.getD i []) needs (some (whole 0), zero) = bb at *
      cases e1 : bb.1 with
      | none => rfl
      | some u => simp only; rw [if_neg (fun h => lz h.2)]
/-- The program's least time. -/
def leastM (begins : List Int) (hulls : List (List Pt)) (d : Pt) (tn : Int) (parts : Nat) : Option Arr :=
  match begins.map (· * (parts : Int)) with
  | [] => none
  | b :: rest => seek (directions hulls) hulls (stretches tn 0 b rest) ((directions hulls).map fun n => dot n d * (parts : Int))
theorem least_eq {w begins hulls} (F : Fits w begins hulls) (hne : begins ≠ []) {t : Frac} {tn : Int} {parts : Nat} (ht : Rep t tn parts) (d : Pt) :
    least w t d = ansOf parts (leastM begins hulls d tn parts) := by
  cases hb : begins with
  | nil => exact absurd hb hne
  | cons b rest =>
    have ln := F.len.1
    have N : Needed parts (directions hulls) ((directions (sails w)).map fun n => (n, whole (dot n d))) ((directions hulls).map fun n => dot n d * (parts : Int)) := by
      rw [F.h]
      refine ⟨by rw [List.map_map]; exact List.map_id _, by simp, ?_⟩
      intro k n z hn hz
      rw [List.getElem?_map] at hn hz
      cases e : (directions (sails w))[k]? with
      | none => rw [e] at hn; cases hn
      | some m =>
        rw [e] at hn hz
        simp only [Option.map_some, Option.some.injEq] at hn hz
        subst hn hz
        exact rep_wholeP _ ht.1
    have := search_eq F ht rest 0 (w.length + 1) b _ _ (by rw [List.drop_zero, hb]) (by rw [← ln, hb]; simp only [List.length_cons]; omega) N
    rw [least, this]
    rfl
end Lt
set_option linter.unusedVariables false
set_option linter.unusedSimpArgs false
namespace Lt
open Vbreac Fr
/-! ### What the found arrival tells -/
def Ascend (sp : List Span) : Prop := sp.Pairwise fun a b => a.1 < b.1
theorem stretch_lo (t : Int) : ∀ (rest : List Int) (i : Nat) (b : Int), ∀ s ∈ stretches t i b rest, i ≤ s.1
  | [], i, b, s, h => by
    simp only [stretches, List.mem_cons, List.not_mem_nil, or_false] at h
    subst h; exact Nat.le_refl _
  | e :: r, i, b, s, h => by
    simp only [stretches] at h
    split at h
    · rcases List.mem_cons.1 h with h | h
      · subst h; exact Nat.le_refl _
      · have := stretch_lo t r (i + 1) e s h; omega
    · have := stretch_lo t r (i + 1) e s h; omega
theorem stretch_up (t : Int) : ∀ (rest : List Int) (i : Nat) (b : Int), Ascend (stretches t i b rest)
  | [], i, b => by simp [stretches, Ascend]
  | e :: r, i, b => by
    have ih := stretch_up t r (i + 1) e
    simp only [stretches]
    split
    · refine List.pairwise_cons.2 ⟨?_, ih⟩
      intro s hs
      have := stretch_lo t r (i + 1) e s hs
      simp only; omega
    · exact ih
/-- The slices sailed till the arrival, how long in its parts. -/
def sailed (sp : List Span) (a : Arr) : List (Nat × Int) :=
  (sp.filter fun s => decide (s.1 < a.number)).map (fun s => (s.1, s.2.2.getD 0 * a.lower)) ++ [(a.number, a.upper)]
def had (rows : Nat → Int) : List (Nat × Int) → Int
  | [] => 0
  | s :: r => s.2 * rows s.1 + had rows r
theorem had_append (rows : Nat → Int) : ∀ a b, had rows (a ++ b) = had rows a + had rows b
  | [], b => by simp [had]
  | s :: a, b => by simp only [List.cons_append, had, had_append rows a b]; omega
theorem seek_num {dirs hulls} : ∀ (sp : List Span) (lacking : List Int) (a : Arr), seek dirs hulls sp lacking = some a → ∃ s ∈ sp, s.1 = a.number ∧ s.2.1 = a.since
  | [], _, _, h => by cases h
  | s :: r, lacking, a, h => by
    simp only [seek] at h
    split at h
    · simp only [Option.some.injEq] at h
      subst h
      exact ⟨s, by simp, rfl, rfl⟩
    · obtain ⟨x, hx, h'⟩ := seek_num r _ a h
      exact ⟨x, by simp [hx], h'⟩
theorem row_get {dirs : List Pt} {hulls : List (List Pt)} {i k : Nat} (hk : k < dirs.length) : (rowOf dirs hulls i).getD k 0 = support (hulls.getD i []) (dirs.getD k zero) := by
  simp only [rowOf, List.getD_eq_getElem?_getD, List.getElem?_map, List.getElem?_eq_getElem hk]
  rfl
/-- The most that is taken. -/
structure Most (lacking row : List Int) (m : Nat) (b : Best) : Prop where
  nn : 0 ≤ b.1
  lnn : 0 ≤ b.2.1
  le : 0 < b.2.1 → ∀ k, k < m → lacking.getD k 0 * b.2.1 ≤ b.1 * row.getD k 0
  eq : (b.2.2 = none ∧ b.1 = 0 ∧ b.2.1 = 1) ∨ ∃ k, k < m ∧ b.2.2 = some k ∧ b.1 = lacking.getD k 0 ∧ b.2.1 = row.getD k 0
theorem take_most {lacking row : List Int} (hr : ∀ k, 0 ≤ row.getD k 0) : ∀ m, Most lacking row m (takeN lacking row m)
  | 0 => ⟨Int.le_refl 0, show (0 : Int) ≤ 1 by decide, fun _ k h => by omega, .inl ⟨rfl, rfl, rfl⟩⟩
  | m + 1 => by
    have ih := take_most hr (lacking := lacking) m
    have e : takeN lacking row (m + 1) = takeStep lacking row m (takeN lacking row m) := rfl
    rw [e]
    generalize takeN lacking row m = b at *
    have r0 := hr m
    unfold takeStep
    by_cases c : 0 < lacking.getD m 0 ∧ b.1 * row.getD m 0 < lacking.getD m 0 * b.2.1
    · rw [if_pos c]
      refine ⟨Int.le_of_lt c.1, r0, ?_, .inr ⟨m, by omega, rfl, rfl, rfl⟩⟩
      intro lp k hk
      simp only at lp ⊢
      by_cases q : k = m
      · subst q; exact Int.le_refl _
      · have b2 : 0 < b.2.1 := by
          rcases Int.lt_or_le 0 b.2.1 with z | z
          · exact z
          · exfalso
            have z0 : b.2.1 = 0 := by have := ih.lnn; omega
            have := c.2
            rw [z0, Int.mul_zero] at this
            have := Int.mul_nonneg ih.nn r0
            omega
        have h1 := ih.le b2 k (by omega)
        have rk := hr k
        -- lack_k * row_m * b2 <= b1 row_k row_m <= lack_m row_k b2
        have m1 := Int.mul_le_mul_of_nonneg_right h1 (Int.le_of_lt lp)
        have m2 := Int.mul_le_mul_of_nonneg_right (Int.le_of_lt c.2) rk
        have e1 : lacking.getD k 0 * b.2.1 * row.getD m 0 = (lacking.getD k 0 * row.getD m 0) * b.2.1 := by grind
        have e2 : lacking.getD m 0 * b.2.1 * row.getD k 0 = (lacking.getD m 0 * row.getD k 0) * b.2.1 := by grind
        have e3 : b.1 * row.getD m 0 * row.getD k 0 = b.1 * row.getD k 0 * row.getD m 0 := by grind
        have : (lacking.getD k 0 * row.getD m 0) * b.2.1 ≤ (lacking.getD m 0 * row.getD k 0) * b.2.1 := by omega
        exact Int.le_of_mul_le_mul_right this b2
    · rw [if_neg c]
      refine ⟨ih.nn, ih.lnn, ?_, ?_⟩
      · intro lp k hk
        by_cases q : k = m
        · subst q
          rcases Int.lt_or_le 0 (lacking.getD k 0) with z | z
          · have : ¬ b.1 * row.getD k 0 < lacking.getD k 0 * b.2.1 := fun h => c ⟨z, h⟩
            omega
          · have h1 := Int.mul_nonneg ih.nn r0
            have h2 := Int.mul_nonpos_of_nonpos_of_nonneg z (Int.le_of_lt lp)
            omega
        · exact ih.le lp k (by omega)
      · rcases ih.eq with h | ⟨k, hk, h⟩
        · exact .inl h
        · exact .inr ⟨k, by omega, h⟩
theorem row_nn (dirs : List Pt) (hulls : List (List Pt)) (i : Nat) : ∀ k, 0 ≤ (rowOf dirs hulls i).getD k 0 := by
  intro k
  rw [rowOf, List.getD_eq_getElem?_getD, List.getElem?_map]
  cases e : dirs[k]? with
  | none => exact Int.le_refl _
  | some n => exact support_nn _ _
theorem less_get {lacking row : List Int} {d : Int} {k : Nat} (h1 : k < lacking.length) (h2 : k < row.length) : (lessOf lacking row d).getD k 0 = lacking.getD k 0 - row.getD k 0 * d := by
  rw [lessOf, List.getD_eq_getElem?_getD, List.getElem?_zipWith, List.getD_eq_getElem?_getD, List.getD_eq_getElem?_getD, List.getElem?_eq_getElem h1, List.getElem?_eq_getElem h2]
  rfl
theorem less_len {lacking : List Int} {dirs : List Pt} {hulls : List (List Pt)} {i : Nat} {d : Int} (h : lacking.length = dirs.length) : (lessOf lacking (rowOf dirs hulls i) d).length = dirs.length := by
  rw [lessOf, List.length_zipWith, rowOf, List.length_map, h, Nat.min_self]
theorem seek_lower {dirs hulls} : ∀ (sp : List Span) (lacking : List Int) (a : Arr), seek dirs hulls sp lacking = some a → 0 ≤ a.lower ∧ 0 ≤ a.upper
  | [], _, _, h => by cases h
  | s :: r, lacking, a, h => by
    simp only [seek] at h
    split at h
    · simp only [Option.some.injEq] at h
      subst h
      have := take_most (lacking := lacking) (row_nn dirs hulls s.1) dirs.length
      exact ⟨this.lnn, this.nn⟩
    · exact seek_lower r _ a h
/-- **All directions are had, and the proof's just so.** -/
theorem seek_facts {dirs : List Pt} {hulls : List (List Pt)} : ∀ (sp : List Span) (lacking : List Int) (a : Arr), Ascend sp → lacking.length = dirs.length → seek dirs hulls sp lacking = some a → 0 < a.lower →
    (∀ k, k < dirs.length → lacking.getD k 0 * a.lower ≤ had (fun i => (rowOf dirs hulls i).getD k 0) (sailed sp a)) ∧
    (a.proof = zero ∨ ∃ k, k < dirs.length ∧ a.proof = dirs.getD k zero ∧ lacking.getD k 0 * a.lower = had (fun i => (rowOf dirs hulls i).getD k 0) (sailed sp a))
  | [], _, _, _, _, h, _ => by cases h
  | s :: r, lacking, a, up, hl, h, lp => by
    have up' := List.pairwise_cons.1 up
    have M := take_most (lacking := lacking) (row_nn dirs hulls s.1) dirs.length
    simp only [seek] at h
    split at h
    · simp only [Option.some.injEq] at h
      subst h
      have M : Most lacking (rowOf dirs hulls s.1) dirs.length (bestOf dirs hulls s.1 lacking) := M
      generalize bestOf dirs hulls s.1 lacking = b at *
      have none_ : ∀ x ∈ s :: r, ¬ decide (x.1 < s.1) = true := by
        intro x hx
        rw [decide_eq_true_eq]
        rcases List.mem_cons.1 hx with rfl | hx
        · exact Nat.lt_irrefl _
        · have := up'.1 x hx; omega
      have e : sailed (s :: r) ⟨s.1, s.2.1, b.1, b.2.1, dirOf dirs b.2.2⟩ = [(s.1, b.1)] := by
        rw [sailed, List.filter_eq_nil_iff.2 none_]
        rfl
      rw [e]
      simp only [had, Int.add_zero]
      refine ⟨fun k hk => M.le lp k hk, ?_⟩
      rcases M.eq with ⟨h1, _, _⟩ | ⟨k, hk, h1, h2, h3⟩
      · left; rw [h1]; rfl
      · right
        refine ⟨k, hk, by rw [h1]; rfl, ?_⟩
        rw [← h2, ← h3]
    · have nm := seek_num r _ a h
      obtain ⟨x, hx, xe, _⟩ := nm
      have sa : s.1 < a.number := by rw [← xe]; exact up'.1 x hx
      have ih := seek_facts r _ a up'.2 (less_len hl) h lp
      have e : sailed (s :: r) a = (s.1, s.2.2.getD 0 * a.lower) :: sailed r a := by
        rw [sailed, List.filter_cons_of_pos (by simpa using sa)]
        rfl
      rw [e]
      simp only [had]
      have key : ∀ k, k < dirs.length → (lessOf lacking (rowOf dirs hulls s.1) (s.2.2.getD 0)).getD k 0 * a.lower = lacking.getD k 0 * a.lower - s.2.2.getD 0 * a.lower * (rowOf dirs hulls s.1).getD k 0 := by
        intro k hk
        rw [less_get (by omega) (by rw [rowOf, List.length_map]; exact hk), Int.sub_mul]
        have : (rowOf dirs hulls s.1).getD k 0 * s.2.2.getD 0 * a.lower = s.2.2.getD 0 * a.lower * (rowOf dirs hulls s.1).getD k 0 := by grind
        omega
      refine ⟨fun k hk => ?_, ?_⟩
      · have := ih.1 k hk
        rw [key k hk] at this
        omega
      · rcases ih.2 with h | ⟨k, hk, h1, h2⟩
        · exact .inl h
        · right
          refine ⟨k, hk, h1, ?_⟩
          rw [key k hk] at h2
          omega
theorem seek_some {dirs : List Pt} {hulls : List (List Pt)} (t : Int) : ∀ (rest : List Int) (i : Nat) (b : Int) (lacking : List Int), ∃ a, seek dirs hulls (stretches t i b rest) lacking = some a
  | [], i, b, lacking => ⟨_, by simp only [stretches, seek]; rw [if_pos (by rfl)]⟩
  | e :: r, i, b, lacking => by
    simp only [stretches]
    split
    · simp only [seek]
      split
      · exact ⟨_, rfl⟩
      · exact seek_some t r (i + 1) e _
    · exact seek_some t r (i + 1) e _
theorem leastM_some {begins : List Int} (hne : begins ≠ []) (hulls : List (List Pt)) (d : Pt) (tn : Int) (parts : Nat) : ∃ a, leastM begins hulls d tn parts = some a := by
  cases begins with
  | nil => exact absurd rfl hne
  | cons b r => exact seek_some tn _ 0 _ _
end Lt
set_option linter.unusedVariables false
set_option linter.unusedSimpArgs false
namespace Lt
open Vbreac Fr
/-! ### The way, in whole numbers -/
/-- A slice sailed: its number, how long in parts, its right and left velocity. -/
abbrev Sailed := Nat × Int × Pt × Pt
abbrev PieceM := Nat × Pt × Frac
def addM (i : Nat) (v : Pt) (upper lower : Int) : List PieceM := if 0 < upper ∧ v ≠ zero then [(i, v, lowest upper lower.toNat)] else []
def gainOf (n : Pt) (s : Sailed) : Int := cross n s.2.2.2 - cross n s.2.2.1
def madeOf (n : Pt) (s : Sailed) (missing : Int) : Int := min missing (gainOf n s * s.2.1)
def shareOf (n : Pt) (s : Sailed) : Int := max (gainOf n s) 1
def pieceM (n : Pt) (parts : Int) (s : Sailed) (missing : Int) : List PieceM :=
  addM s.1 s.2.2.1 (shareOf n s * s.2.1 - madeOf n s missing) (shareOf n s * parts) ++ addM s.1 s.2.2.2 (madeOf n s missing) (shareOf n s * parts)
def piecesM (n : Pt) (parts : Int) : List Sailed → Int → List PieceM
  | [], _ => []
  | s :: r, missing => pieceM n parts s missing ++ piecesM n parts r (missing - madeOf n s missing)
def rightM (n : Pt) : List Sailed → Int
  | [] => 0
  | s :: r => cross n s.2.2.1 * s.2.1 + rightM n r
/-- What the specification sails, and what the program does: slices of no length may be left out. -/
inductive Alike (n : Pt) (parts : Nat) : List (Nat × List Pt × Frac) → List Sailed → Prop
  | nil : Alike n parts [] []
  | skip {x L M} : Rep x.2.2 0 parts → Alike n parts L M → Alike n parts (x :: L) M
  | keep {i f q z L M} : Rep q z parts → 0 ≤ z → f ≠ [] → Alike n parts L M → Alike n parts ((i, f, q) :: L) ((i, z, rightEnd n f, leftEnd n f) :: M)
def toM (p : Piece) : PieceM := (p.slice, p.v, p.long)
theorem rep_mul {f : Frac} {n : Int} {d : Nat} (h : Rep f n d) {k : Nat} (hk : 0 < k) : Rep f (k * n) (k * d) := h.to (Nat.mul_pos hk h.1) (by push_cast; grind)
theorem left_fold (n : Pt) : ∀ (r : List Pt) (v : Pt), r.foldl (fun a q => if cross n a < cross n q then q else a) v ∈ v :: r ∧
    ∀ s ∈ v :: r, cross n s ≤ cross n (r.foldl (fun a q => if cross n a < cross n q then q else a) v)
  | [], v => ⟨by simp, by simp⟩
  | q :: r, v => by
    rw [List.foldl_cons]
    by_cases k : cross n v < cross n q
    · rw [if_pos k]
      obtain ⟨h1, h2⟩ := left_fold n r q
      refine ⟨List.mem_cons_of_mem _ h1, ?_⟩
      intro s hs
      rcases List.mem_cons.1 hs with rfl | hs
      · have := h2 q (by simp); omega
      · exact h2 s hs
    · rw [if_neg k]
      obtain ⟨h1, h2⟩ := left_fold n r v
      refine ⟨?_, ?_⟩
      · rcases List.mem_cons.1 h1 with h | h
        · rw [h]; simp
        · simp [h]
      · intro s hs
        rcases List.mem_cons.1 hs with rfl | hs
        · exact h2 s (by simp)
        · rcases List.mem_cons.1 hs with rfl | hs
          · have := h2 v (by simp); omega
          · exact h2 s (by simp [hs])
theorem ends_order (n : Pt) {f : List Pt} (hf : f ≠ []) : cross n (rightEnd n f) ≤ cross n (leftEnd n f) := by
  cases f with
  | nil => exact absurd rfl hf
  | cons v r =>
    have h1 := (Hu.right_fold n r v).2 v (by simp)
    have h2 := (left_fold n r v).2 v (by simp)
    exact Int.le_trans h1 h2
theorem piece_filter {i : Nat} {v : Pt} {q : Frac} {u l : Int} (hl : 0 < l) (h : Rep q u l.toNat) (hu : 0 ≤ u) :
    ([(⟨i, v, q⟩ : Piece)].filter fun p => less (whole 0) p.long && p.v != zero).map toM = addM i v u l := by
  have e : less (whole 0) q = true ↔ 0 < u := by
    rw [(rep_whole 0).less_iff h]
    simp
  unfold addM
  by_cases c : 0 < u ∧ v ≠ zero
  · rw [if_pos c, List.filter_cons_of_pos (by simp only [Bool.and_eq_true, bne_iff_ne]; exact ⟨e.2 c.1, c.2⟩)]
    simp only [List.filter_nil, List.map_cons, List.map_nil, toM]
    rw [h.2]
  · rw [if_neg c, List.filter_cons_of_neg (by
      simp only [Bool.and_eq_true, bne_iff_ne]
      exact fun k => c ⟨e.1 k.1, k.2⟩)]
    rfl
theorem zero_rep {f : Frac} {d : Nat} (h : Rep f 0 d) : f = whole 0 := h.eq (rep_whole 0) (by simp)
theorem rep_zero {d : Nat} (h : 0 < d) : Rep (whole 0) 0 d := by
  have := rep_wholeP 0 h
  rwa [Int.zero_mul] at this
theorem pieces_eq {n : Pt} {parts : Nat} (hp : 0 < parts) : ∀ {L : List (Nat × List Pt × Frac)} {M : List Sailed}, Alike n parts L M → ∀ (lack : Frac) (missing : Int), Rep lack missing parts → 0 ≤ missing →
    (pieces n L lack).map toM = piecesM n parts M missing := by
  intro L M h
  induction h with
  | nil => intro _ _ _ _; rfl
  | @skip x L M hx _ ih =>
    intro lack missing hl hm
    rw [pieces]
    have q0 := zero_rep hx
    have l0 : (if cross n (leftEnd n x.2.1) - cross n (rightEnd n x.2.1) ≤ 0 ∨ atMost lack (whole 0) = true then whole 0 else
        if less x.2.2 (over lack (cross n (leftEnd n x.2.1) - cross n (rightEnd n x.2.1)).toNat) = true then x.2.2 else over lack (cross n (leftEnd n x.2.1) - cross n (rightEnd n x.2.1)).toNat) = whole 0 := by
      by_cases c : cross n (leftEnd n x.2.1) - cross n (rightEnd n x.2.1) ≤ 0 ∨ atMost lack (whole 0) = true
      · rw [if_pos c]
      · rw [if_neg c]
        have c1 : 0 < (cross n (leftEnd n x.2.1) - cross n (rightEnd n x.2.1)).toNat := by
          have : ¬ cross n (leftEnd n x.2.1) - cross n (rightEnd n x.2.1) ≤ 0 := fun k => c (.inl k)
          omega
        have c2 : 0 < missing := by
          have : ¬ atMost lack (whole 0) = true := fun k => c (.inr k)
          rw [hl.atMost_iff (rep_whole 0)] at this
          simp at this
          exact this
        rw [q0, if_pos]
        rw [(rep_whole 0).less_iff (hl.over c1)]
        simp
        exact c2
    simp only [l0]
    simp only [q0]
    have s0 : sub (whole 0) (whole 0) = whole 0 := zero_rep (by simpa using rep_same (rep_whole 0) (rep_whole 0))
    rw [s0]
    have lz : less (whole 0) (whole 0) = false := by decide
    have nx : Rep (sub lack (times (whole 0) (cross n (leftEnd n x.2.1) - cross n (rightEnd n x.2.1)))) missing parts := by
      have := rep_same hl ((rep_zero hp).times (cross n (leftEnd n x.2.1) - cross n (rightEnd n x.2.1)))
      simpa using this
    rw [List.map_append, ih _ missing nx hm]
    simp [lz]
  | @keep i f q z L M hq hz hf _ ih =>
    intro lack missing hl hm
    rw [pieces, piecesM]
    have od := ends_order n hf
    have pp : (0 : Int) < parts := by omega
    generalize hw : cross n (leftEnd n f) - cross n (rightEnd n f) = wide at *
    have wn : 0 ≤ wide := by omega
    have gw : gainOf n (i, z, rightEnd n f, leftEnd n f) = wide := hw
    have mk : madeOf n (i, z, rightEnd n f, leftEnd n f) missing = min missing (wide * z) := by rw [madeOf, gw]
    have sh : shareOf n (i, z, rightEnd n f, leftEnd n f) = max wide 1 := by rw [shareOf, gw]
    have wz := Int.mul_nonneg wn hz
    -- the left one's length
    have hL : ∃ l, (if wide ≤ 0 ∨ atMost lack (whole 0) = true then whole 0 else if less q (over lack wide.toNat) = true then q else over lack wide.toNat) = l ∧
        Rep l (min missing (wide * z)) (max wide 1 * parts).toNat := by
      have sp : 0 < (max wide 1 * (parts : Int)).toNat := by
        have := Int.mul_pos (show 0 < max wide 1 by omega) pp
        omega
      by_cases c : wide ≤ 0 ∨ atMost lack (whole 0) = true
      · refine ⟨_, if_pos c, ?_⟩
        have : min missing (wide * z) = 0 := by
          rcases c with c | c
          · have : wide = 0 := by omega
            rw [this, Int.zero_mul]; omega
          · rw [hl.atMost_iff (rep_whole 0)] at c
            simp at c
            omega
        rw [this]
        exact rep_zero sp
      · have c1 : 0 < wide := by
          have : ¬ wide ≤ 0 := fun k => c (.inl k)
          omega
        have ov := hl.over (show 0 < wide.toNat by omega)
        have m1 : max wide 1 = wide := by omega
        have e1 : (wide * (parts : Int)).toNat = parts * wide.toNat := by
          have : wide * (parts : Int) = ((parts * wide.toNat : Nat) : Int) := by
            push_cast
            rw [Int.toNat_of_nonneg wn, Int.mul_comm]
          rw [this, Int.toNat_natCast]
        rw [if_neg c, m1, e1]
        by_cases c2 : less q (over lack wide.toNat) = true
        · refine ⟨_, if_pos c2, ?_⟩
          rw [hq.less_iff ov] at c2
          push_cast at c2
          rw [Int.toNat_of_nonneg wn] at c2
          have c3 : z * wide < missing := by
            have : z * ((parts : Int) * wide) = (z * wide) * parts := by grind
            rw [this, mul_lt_iff pp] at c2
            exact c2
          have : min missing (wide * z) = wide * z := by
            have : wide * z = z * wide := Int.mul_comm _ _
            omega
          rw [this]
          refine hq.to (Nat.mul_pos hp (by omega)) ?_
          push_cast
          rw [Int.toNat_of_nonneg wn]
          grind
        · refine ⟨_, if_neg c2, ?_⟩
          rw [hq.less_iff ov] at c2
          push_cast at c2
          rw [Int.toNat_of_nonneg wn] at c2
          have c3 : ¬ z * wide < missing := by
            have : z * ((parts : Int) * wide) = (z * wide) * parts := by grind
            rw [this, mul_lt_iff pp] at c2
            exact c2
          have : min missing (wide * z) = missing := by
            have : wide * z = z * wide := Int.mul_comm _ _
            omega
          rw [this]
          exact ov
    obtain ⟨l, el, rl⟩ := hL
    simp only [hw]
    rw [el]
    have sp : 0 < max wide 1 * (parts : Int) := Int.mul_pos (by omega) pp
    have mn : 0 ≤ min missing (wide * z) := by omega
    have rq : Rep q (max wide 1 * z) (max wide 1 * (parts : Int)).toNat := by
      refine hq.to (by omega) ?_
      rw [Int.toNat_of_nonneg (Int.le_of_lt sp)]
      grind
    have rr := rep_same rq rl
    have nn : 0 ≤ max wide 1 * z - min missing (wide * z) := by
      have : wide * z ≤ max wide 1 * z := Int.mul_le_mul_of_nonneg_right (by omega) hz
      omega
    have f1 := piece_filter (i := i) (v := rightEnd n f) sp rr nn
    have f2 := piece_filter (i := i) (v := leftEnd n f) sp rl mn
    have nx : Rep (sub lack (times l wide)) (missing - min missing (wide * z)) parts := by
      have a := hl.sub (rl.times wide)
      refine a.to hp ?_
      push_cast
      rw [Int.toNat_of_nonneg (Int.le_of_lt sp)]
      rcases Int.lt_or_eq_of_le wn with c | c
      · have m1 : max wide 1 = wide := by omega
        rw [m1]
        grind
      · have : wide = 0 := c.symm
        subst this
        have : min missing (0 * z) = 0 := by rw [Int.zero_mul]; omega
        rw [this]
        simp
        grind
    have ih' := ih _ _ nx (by omega)
    rw [List.map_append, ih']
    rw [show ([⟨i, rightEnd n f, sub q l⟩, ⟨i, leftEnd n f, l⟩] : List Piece) = [⟨i, rightEnd n f, sub q l⟩] ++ [⟨i, leftEnd n f, l⟩] from rfl, List.filter_append, List.map_append, f1, f2]
    simp only [pieceM, mk, sh]
theorem right_eq {n : Pt} {parts : Nat} : ∀ {L : List (Nat × List Pt × Frac)} {M : List Sailed}, Alike n parts L M → ∀ (a : Frac) (k : Int), Rep a k parts →
    Rep (L.foldl (fun z s => add z (times s.2.2 (cross n (rightEnd n s.2.1)))) a) (k + rightM n M) parts := by
  have same : ∀ {f g : Frac} {x y : Int}, Rep f x parts → Rep g y parts → Rep (add f g) (x + y) parts := fun {f g x y} h k => (h.add k).to h.1 (by push_cast; grind)
  intro L M h
  induction h with
  | nil => intro a k ha; simpa [rightM] using ha
  | @skip x L M hx _ ih =>
    intro a k ha
    rw [List.foldl_cons]
    have := same ha (hx.times (cross n (rightEnd n x.2.1)))
    rw [Int.zero_mul, Int.add_zero] at this
    exact ih _ k this
  | @keep i f q z L M hq hz hf _ ih =>
    intro a k ha
    rw [List.foldl_cons]
    have := ih _ _ (same ha (hq.times (cross n (rightEnd n f))))
    rw [rightM]
    have e : k + (cross n (rightEnd n f) * z + rightM n M) = k + z * cross n (rightEnd n f) + rightM n M := by
      rw [Int.mul_comm z]; omega
    rw [show (i, z, rightEnd n f, leftEnd n f).2.2.1 = rightEnd n f from rfl, show (i, z, rightEnd n f, leftEnd n f).2.1 = z from rfl, e]
    exact this
end Lt
set_option linter.unusedVariables false
set_option linter.unusedSimpArgs false
namespace Lt
open Vbreac Fr
def IsSail (h : List Pt) : Prop := ∃ l : List Pt, zero ∈ l ∧ h = hullOf l
theorem face_ne {h : List Pt} (hs : IsSail h) (n : Pt) : face h n ≠ [] := by
  obtain ⟨l, h0, rfl⟩ := hs
  obtain ⟨⟨v, hv, e⟩, _, _⟩ := Hu.support_is h0 n
  intro z
  have : v ∈ face (hullOf l) n := by simp [face, hv, e]
  rw [z] at this
  cases this
theorem Fits.isSail {w begins hulls} (F : Fits w begins hulls) {i : Nat} (hi : i < begins.length) : IsSail (hulls.getD i []) := by
  have : i < w.length := by rw [← F.len.1]; exact hi
  rw [F.h, sails, List.getD_eq_getElem?_getD, List.getElem?_map, List.getElem?_eq_getElem this]
  exact ⟨_, List.mem_cons_self, rfl⟩
def withEnds (n : Pt) (hulls : List (List Pt)) (s : Nat × Int) : Sailed := (s.1, s.2, rightEnd n (face (hulls.getD s.1 []) n), leftEnd n (face (hulls.getD s.1 []) n))
def partAt (w : Wind) (t : Frac) (time : Frac) (i : Nat) (n : Pt) (j : Nat) : Nat × List Pt × Frac := (j, face (sailOf w j) n, if j = i then sub time (entered w t i) else stay w t j)
theorem alike_from {w begins hulls} (F : Fits w begins hulls) {tn : Int} {a : Arr} {n : Pt} {time : Frac} {l : Nat} (hl : a.lower = (l : Int)) (lp : 0 < l) (hu : 0 ≤ a.upper)
    (ht : Rep (sub time (entered w (whole tn) a.number)) a.upper l) (hi : a.number < begins.length) :
    ∀ (rest : List Int) (k : Nat) (b : Int), begins.drop k = b :: rest → k ≤ a.number →
      Alike n l ((List.range' k (a.number + 1 - k)).map (partAt w (whole tn) time a.number n)) ((sailed (stretches tn k b rest) a).map (withEnds n hulls))
  | rest, k, b, hd, hk => by
    by_cases c : k = a.number
    · subst c
      have e1 : a.number + 1 - a.number = 1 := by omega
      have e2 : (stretches tn a.number b rest).filter (fun s => decide (s.1 < a.number)) = [] := by
        refine List.filter_eq_nil_iff.2 ?_
        intro s hs
        have := stretch_lo tn rest a.number b s hs
        simp; omega
      rw [e1, sailed, e2]
      simp only [List.range'_one, List.map_cons, List.map_nil, List.nil_append, withEnds]
      have fs := F.sail a.number
      rw [show partAt w (whole tn) time a.number n a.number = (a.number, face (hulls.getD a.number []) n, sub time (entered w (whole tn) a.number)) by
        rw [partAt, fs, if_pos rfl]]
      exact .keep ht hu (face_ne (F.isSail hi) n) .nil
    · have kl : k < a.number := by omega
      have hb : begins[k]? = some b := by
        have := congrArg (·[0]?) hd
        simpa using this
      cases rest with
      | nil =>
        have := congrArg List.length hd
        simp at this
        omega
      | cons e r =>
        have he : begins[k + 1]? = some e := by
          have := congrArg (·[1]?) hd
          simpa using this
        have hd' : begins.drop (k + 1) = e :: r := by
          have := congrArg List.tail hd
          simpa using this
        have be : b < e := by
          have up := F.up.drop (i := k)
          rw [hd] at up
          exact (List.pairwise_cons.1 up).1 e (by simp)
        have ih := alike_from F (n := n) hl lp hu ht hi r (k + 1) e hd' (by omega)
        have e1 : a.number + 1 - k = (a.number + 1 - (k + 1)) + 1 := by omega
        rw [e1, List.range'_succ, List.map_cons]
        have S := F.stays (rep_whole tn) hb he
        simp only [Int.natCast_one, Int.mul_one] at S
        have pa : partAt w (whole tn) time a.number n k = (k, face (hulls.getD k []) n, stay w (whole tn) k) := by
          rw [partAt, F.sail, if_neg c]
        rw [pa, stretches]
        by_cases q : tn < e
        · rw [if_pos q]
          have m : max 0 (e - max tn b) = e - max tn b := by omega
          rw [m] at S
          rw [show sailed ((k, max tn b, some (e - max tn b)) :: stretches tn (k + 1) e r) a = (k, (e - max tn b) * a.lower) :: sailed (stretches tn (k + 1) e r) a by
            rw [sailed, List.filter_cons_of_pos (by simpa using kl)]; rfl]
          rw [List.map_cons]
          refine .keep ?_ ?_ (face_ne (F.isSail (by omega)) n) ih
          · refine S.to lp ?_
            rw [hl]; simp
          · exact Int.mul_nonneg (by omega) (by omega)
        · rw [if_neg q]
          have m : max 0 (e - max tn b) = 0 := by omega
          rw [m] at S
          refine .skip ?_ ih
          exact S.to lp (by simp)
theorem right_had (n : Pt) (hulls : List (List Pt)) : ∀ l : List (Nat × Int), rightM n (l.map (withEnds n hulls)) = had (fun i => cross n (rightEnd n (face (hulls.getD i []) n))) l
  | [] => rfl
  | s :: l => by
    simp only [List.map_cons, rightM, had, right_had n hulls l, withEnds]
    rw [Int.mul_comm]
theorem had_total (f : List Pt → Int) (hulls : List (List Pt)) : ∀ l : List (Nat × Int), had (fun i => f (hulls.getD i [])) l = Hu.total f (l.map fun s => (s.2, hulls.getD s.1 []))
  | [] => rfl
  | s :: l => by simp only [List.map_cons, had, Hu.total, had_total f hulls l]
theorem had_congr {f g : Nat → Int} : ∀ l : List (Nat × Int), (∀ s ∈ l, f s.1 = g s.1) → had f l = had g l
  | [], _ => rfl
  | s :: l, h => by simp only [had, h s (by simp), had_congr l (fun x hx => h x (by simp [hx]))]
theorem stretch_facts (t : Int) : ∀ (rest : List Int) (i : Nat) (b : Int), (b :: rest).Pairwise (· < ·) → ∀ s ∈ stretches t i b rest, s.1 < i + rest.length + 1 ∧ ∀ d, s.2.2 = some d → 0 < d
  | [], i, b, _, s, h => by
    simp only [stretches, List.mem_cons, List.not_mem_nil, or_false] at h
    subst h
    refine ⟨by simp, by intro d hd; cases hd⟩
  | e :: r, i, b, up, s, h => by
    have up' := List.pairwise_cons.1 up
    have ih := stretch_facts t r (i + 1) e up'.2
    simp only [stretches] at h
    simp only [List.length_cons]
    split at h
    · rcases List.mem_cons.1 h with h | h
      · subst h
        refine ⟨by simp; omega, ?_⟩
        intro d hd
        simp only [Option.some.injEq] at hd
        have := up'.1 e (by simp)
        omega
      · have := ih s h
        exact ⟨by omega, this.2⟩
    · have := ih s h
      exact ⟨by omega, this.2⟩
theorem sailed_mem {sp : List Span} {a : Arr} {s : Nat × Int} (h : s ∈ sailed sp a) : (s = (a.number, a.upper)) ∨ ∃ x ∈ sp, x.1 < a.number ∧ s = (x.1, x.2.2.getD 0 * a.lower) := by
  rw [sailed, List.mem_append, List.mem_map] at h
  rcases h with ⟨x, hx, e⟩ | h
  · rw [List.mem_filter, decide_eq_true_eq] at hx
    exact .inr ⟨x, hx.1, hx.2, e.symm⟩
  · simp only [List.mem_cons, List.not_mem_nil, or_false] at h
    exact .inl h
/-- With right ends alone nobody comes too far left. -/
theorem missing_nn {w begins hulls} (F : Fits w begins hulls) {b : Int} {rest : List Int} (hb : begins = b :: rest) {tn : Int} {d : Pt} {a : Arr}
    (ha : seek (directions hulls) hulls (stretches tn 0 b rest) ((directions hulls).map fun n => dot n d * ((1 : Nat) : Int)) = some a) (lp : 0 < a.lower) :
    0 ≤ cross a.proof d * a.lower - rightM a.proof ((sailed (stretches tn 0 b rest) a).map (withEnds a.proof hulls)) := by
  have up : (b :: rest).Pairwise (· < ·) := hb ▸ F.up
  obtain ⟨f1, f2⟩ := seek_facts _ _ _ (stretch_up tn rest 0 b) (by simp) ha lp
  have un := (seek_lower _ _ _ ha).2
  rw [right_had]
  by_cases hz : a.proof = zero
  · rw [hz]
    have e : ∀ p, cross zero p = 0 := by intro p; simp [cross, zero]
    rw [e, had_congr (g := fun _ => 0) _ (fun s _ => e _)]
    have : ∀ l : List (Nat × Int), had (fun _ => 0) l = 0 := by
      intro l
      induction l with
      | nil => rfl
      | cons s l ih => simp [had, ih]
    rw [this]; simp
  · rcases f2 with h | ⟨k, hk, e1, e2⟩
    · exact absurd h hz
    · have num : a.number < hulls.length := by
        obtain ⟨x, hx, xe, _⟩ := seek_num _ _ _ ha
        have := (stretch_facts tn rest 0 b up x hx).1
        have l1 := F.len
        rw [hb] at l1
        simp only [List.length_cons] at l1
        omega
      have mem : ∀ s ∈ sailed (stretches tn 0 b rest) a, 0 ≤ s.2 ∧ s.1 < hulls.length := by
        intro s hs
        rcases sailed_mem hs with e | ⟨x, hx, xl, e⟩
        · rw [e]; exact ⟨un, num⟩
        · rw [e]
          refine ⟨?_, by simp only; omega⟩
          have := (stretch_facts tn rest 0 b up x hx).2
          cases q : x.2.2 with
          | none => simp [q]
          | some z =>
            have := this z q
            simp only [q, Option.getD_some]
            exact Int.mul_nonneg (by omega) (Int.le_of_lt lp)
      have R := Hu.right_enough (hs := hulls) (ps := (sailed (stretches tn 0 b rest) a).map fun s => (s.2, hulls.getD s.1 [])) (n := a.proof) (d := scaled a.lower d) (by
        intro h hh
        rw [F.h, sails] at hh
        obtain ⟨s, _, rfl⟩ := List.mem_map.1 hh
        exact ⟨_, List.mem_cons_self, rfl⟩) (by
        intro x hx
        obtain ⟨s, hs, rfl⟩ := List.mem_map.1 hx
        have := mem s hs
        refine ⟨this.1, ?_⟩
        simp only
        rw [List.getD_eq_getElem?_getD, List.getElem?_eq_getElem this.2]
        exact List.getElem_mem _) hz (by
        intro m hm
        obtain ⟨j, hj, rfl⟩ := List.mem_iff_getElem.1 hm
        have h1 := f1 j hj
        rw [← had_total (fun h => support h (directions hulls)[j])]
        rw [had_congr (g := fun i => support (hulls.getD i []) (directions hulls)[j]) _ (fun s _ => by
          rw [row_get hj, List.getD_eq_getElem?_getD (l := directions hulls), List.getElem?_eq_getElem hj]; rfl)] at h1
        rw [List.getD_eq_getElem?_getD, List.getElem?_map, List.getElem?_eq_getElem hj] at h1
        simp only [Option.map_some, Option.getD_some, Int.natCast_one, Int.mul_one] at h1
        have : dot (directions hulls)[j] (scaled a.lower d) = dot (directions hulls)[j] d * a.lower := by simp only [dot, scaled]; grind
        rw [this]
        exact h1) (by
        rw [← had_total (fun h => support h a.proof)]
        rw [had_congr (g := fun i => support (hulls.getD i []) a.proof) _ (fun s _ => by rw [row_get hk, ← e1])] at e2
        rw [List.getD_eq_getElem?_getD, List.getElem?_map, List.getElem?_eq_getElem hk] at e2
        simp only [Option.map_some, Option.getD_some, Int.natCast_one, Int.mul_one] at e2
        have e3 : (directions hulls)[k] = a.proof := by rw [e1, List.getD_eq_getElem?_getD, List.getElem?_eq_getElem hk]; rfl
        rw [e3] at e2
        have : dot a.proof (scaled a.lower d) = dot a.proof d * a.lower := by simp only [dot, scaled]; grind
        rw [this]
        exact e2)
      rw [← had_total (fun h => cross a.proof (rightEnd a.proof (face h a.proof)))] at R
      have e5 : cross a.proof (scaled a.lower d) = cross a.proof d * a.lower := by simp only [cross, scaled]; grind
      rw [e5] at R
      omega
/-- The pieces of the program's way. -/
def wayM (begins : List Int) (hulls : List (List Pt)) (d : Pt) (tn : Int) (a : Arr) : List PieceM :=
  match begins with
  | [] => []
  | b :: rest => piecesM a.proof a.lower ((sailed (stretches tn 0 b rest) a).map (withEnds a.proof hulls)) (cross a.proof d * a.lower - rightM a.proof ((sailed (stretches tn 0 b rest) a).map (withEnds a.proof hulls)))
theorem way_eq {w begins hulls} (F : Fits w begins hulls) {tn : Int} {d : Pt} {a : Arr} (ha : leastM begins hulls d tn 1 = some a) (lp : 0 < a.lower) : (way w (whole tn) d).map toM = wayM begins hulls d tn a := by
  cases hb : begins with
  | nil => rw [hb] at ha; cases ha
  | cons b rest =>
    have hne : begins ≠ [] := by rw [hb]; simp
    have LE := least_eq F hne (rep_whole tn) d
    have one : (b :: rest).map (· * ((1 : Nat) : Int)) = b :: rest := by simp
    have ha' : seek (directions hulls) hulls (stretches tn 0 b rest) ((directions hulls).map fun n => dot n d * ((1 : Nat) : Int)) = some a := by
      rw [hb, leastM, one] at ha
      exact ha
    have un := (seek_lower _ _ _ ha').2
    have nn := missing_nn F hb ha' lp
    obtain ⟨x, hx, xe, xs⟩ := seek_num _ _ _ ha'
    have up : (b :: rest).Pairwise (· < ·) := hb ▸ F.up
    have num : a.number < begins.length := by
      have := (stretch_facts tn rest 0 b up x hx).1
      rw [hb]
      simp only [List.length_cons]
      omega
    obtain ⟨l, hl⟩ : ∃ l : Nat, a.lower = (l : Int) := ⟨a.lower.toNat, by omega⟩
    have lp' : 0 < l := by omega
    rw [ha] at LE
    simp only [ansOf] at LE
    rw [if_neg (by omega)] at LE
    -- the time in the slice of arrival
    have hbi : begins[a.number]? = some begins[a.number] := List.getElem?_eq_getElem num
    have E := F.enter (rep_whole tn) hbi
    simp only [Int.natCast_one, Int.mul_one] at E
    have since : ∀ (r : List Int) (i : Nat) (c : Int), begins.drop i = c :: r → ∀ s ∈ stretches tn i c r, ∀ z, begins[s.1]? = some z → s.2.1 = max tn z := by
      intro r
      induction r with
      | nil =>
        intro i c hd s hs z hz
        simp only [stretches, List.mem_cons, List.not_mem_nil, or_false] at hs
        subst hs
        have h0 : begins[i]? = some c := by
          have := congrArg (·[0]?) hd
          simpa using this
        rw [h0] at hz
        simp only [Option.some.injEq] at hz
        subst hz
        rfl
      | cons e r ih =>
        intro i c hd s hs z hz
        have h0 : begins[i]? = some c := by
          have := congrArg (·[0]?) hd
          simpa using this
        have hd' : begins.drop (i + 1) = e :: r := by
          have := congrArg List.tail hd
          simpa using this
        simp only [stretches] at hs
        split at hs
        · rcases List.mem_cons.1 hs with hs | hs
          · subst hs
            rw [h0] at hz
            simp only [Option.some.injEq] at hz
            subst hz
            rfl
          · exact ih (i + 1) e hd' s hs z hz
        · exact ih (i + 1) e hd' s hs z hz
    have sa := since rest 0 b (by rw [List.drop_zero, hb]) x hx begins[a.number] (by rw [xe]; exact hbi)
    rw [xs] at sa
    rw [← sa] at E
    have te : add (entered w (whole tn) a.number) (lowest a.upper l) = timeOf 1 a := by
      have := time_eq (i := a.number) (p := a.proof) (u := lowest a.upper l) E (by rw [Nat.one_mul]; exact rep_low lp') lp'
      rw [this]
      simp only [timeOf, hl]
    have Rt : Rep (sub (timeOf 1 a) (entered w (whole tn) a.number)) a.upper l := by
      rw [← te]
      refine ((E.add (rep_low (n := a.upper) lp')).sub E).to lp' ?_
      push_cast
      grind
    have AL := alike_from F (n := a.proof) hl lp' un Rt num rest 0 b (by rw [List.drop_zero, hb]) (Nat.zero_le _)
    have RS := right_eq AL (whole 0) 0 (rep_zero lp')
    rw [Int.zero_add] at RS
    have cd : Rep (whole (cross a.proof d)) (cross a.proof d * a.lower) l := by rw [hl]; exact rep_wholeP _ lp'
    have RL := rep_same cd RS
    have P := pieces_eq lp' AL _ _ RL nn
    rw [← hl] at P
    rw [wayM, ← P, way, LE]
    simp only [List.range_eq_range']
    rfl
end Lt
set_option linter.unusedVariables false
set_option linter.unusedSimpArgs false
namespace Mk
open Vbreac Hu Lt
theorem walk_diffs : ∀ (l : List Pt) (p : Pt), walk p (diffs p l) = l
  | [], _ => rfl
  | q :: r, p => by
    simp only [diffs, walk, plus_minus]
    rw [walk_diffs r q]
theorem diffs_walk : ∀ (l : List Pt) (p : Pt), diffs p (walk p l) = l
  | [], _ => rfl
  | e :: r, p => by
    have : minus (plus p e) p = e := by simp only [minus, plus]; exact pt_ext (by simp; omega) (by simp; omega)
    simp only [diffs, walk, this]
    rw [diffs_walk r]
theorem walk_drop : ∀ (l : List Pt) (p : Pt), walk p l.dropLast = (walk p l).dropLast
  | [], _ => rfl
  | [_], _ => rfl
  | e :: f :: r, p => by
    have := walk_drop (f :: r) (plus p e)
    simp only [List.dropLast_cons_cons, walk] at *
    rw [this]
def sidesM (l : List Pt) : List Pt := if l.length = 1 then [] else (edges l).map fun e => minus e.2 e.1
theorem zip_diffs {c : Pt} : ∀ (rest : List Pt) (p : Pt), ((p :: rest).zip (rest ++ [c])).map (fun e => minus e.2 e.1) = diffs p (rest ++ [c])
  | [], p => rfl
  | q :: r, p => by
    have := zip_diffs r q (c := c)
    simp only [List.cons_append, List.zip_cons_cons, List.map_cons, diffs] at *
    rw [this]
theorem sides_diffs {c : Pt} {rest : List Pt} (h : rest ≠ []) : sidesM (c :: rest) = diffs c (rest ++ [c]) := by
  have : ¬ (c :: rest).length = 1 := by
    cases rest with
    | nil => exact absurd rfl h
    | cons a b => simp
  rw [sidesM, if_neg this, edges_cons, zip_diffs]
def cornersAlong (first : Pt) (sides : List Pt) : List Pt := first :: walk first sides.dropLast
/-- The specification's corners, and what the program keeps of them. -/
inductive Fig : List Pt → Pt → List Pt → Prop
  | one : Fig [zero] zero []
  | ring {S c rest} : Ring S c rest → Fig (c :: rest) c (diffs c (rest ++ [c]))
theorem Fig.corners {h first sides} (F : Fig h first sides) : cornersAlong first sides = h := by
  cases F with
  | one => rfl
  | @ring S c rest R => rw [cornersAlong, walk_drop, walk_diffs, List.dropLast_concat]
theorem scaled_side {S : List Pt} {k : Int} (hk : 0 < k) {p q : Pt} (h : Side S p q) : Side (S.map (scaled k)) (scaled k p) (scaled k q) := by
  refine ⟨List.mem_map_of_mem h.1, List.mem_map_of_mem h.2.1, ?_, ?_⟩
  · intro e
    have ex := congrArg Pt.x e
    have ey := congrArg Pt.y e
    simp only [scaled] at ex ey
    exact h.2.2.1 (pt_ext (Int.eq_of_mul_eq_mul_left (by omega) ex) (Int.eq_of_mul_eq_mul_left (by omega) ey))
  · intro s hs
    obtain ⟨t, ht, rfl⟩ := List.mem_map.1 hs
    have a := h.2.2.2 t ht
    have kk := Int.mul_pos hk hk
    have e1 : cross (minus (scaled k q) (scaled k p)) (minus (scaled k t) (scaled k p)) = (k * k) * cross (minus q p) (minus t p) := by simp only [cross, minus, scaled]; grind
    have e2 : dot (minus (scaled k t) (scaled k p)) (minus (scaled k q) (scaled k t)) = (k * k) * dot (minus t p) (minus q t) := by simp only [dot, minus, scaled]; grind
    rw [e1, e2]
    refine ⟨Int.mul_nonneg (Int.le_of_lt kk) a.1, fun z => Int.mul_nonneg (Int.le_of_lt kk) (a.2 ?_)⟩
    rcases Int.mul_eq_zero.1 z with y | y
    · omega
    · exact y
theorem scaled_path {S : List Pt} {k : Int} (hk : 0 < k) : ∀ l : List Pt, Path S l → Path (S.map (scaled k)) (l.map (scaled k))
  | [], _ => trivial
  | [_], _ => trivial
  | p :: q :: r, h => ⟨scaled_side hk h.1, scaled_path hk (q :: r) h.2⟩
theorem scaled_inj {k : Int} (hk : 0 < k) {p q : Pt} (e : scaled k p = scaled k q) : p = q := by
  have ex := congrArg Pt.x e
  have ey := congrArg Pt.y e
  simp only [scaled] at ex ey
  exact pt_ext (Int.eq_of_mul_eq_mul_left (by omega) ex) (Int.eq_of_mul_eq_mul_left (by omega) ey)
theorem scaled_le {k : Int} (hk : 0 < k) {p q : Pt} (h : le p q) : le (scaled k p) (scaled k q) := by
  simp only [le, scaled] at *
  rcases h with h | ⟨h, h'⟩
  · exact .inl (Int.mul_lt_mul_of_pos_left h hk)
  · exact .inr ⟨by rw [h], Int.mul_le_mul_of_nonneg_left h' (Int.le_of_lt hk)⟩
theorem scaled_ring {S : List Pt} {c : Pt} {rest : List Pt} (R : Ring S c rest) {k : Int} (hk : 0 < k) : Ring (S.map (scaled k)) (scaled k c) (rest.map (scaled k)) where
  path := by
    have := scaled_path hk _ R.path
    simpa using this
  ne := by
    intro s hs
    obtain ⟨t, ht, rfl⟩ := List.mem_map.1 hs
    exact fun e => R.ne t ht (scaled_inj hk e)
  low := by
    intro s hs
    obtain ⟨t, ht, rfl⟩ := List.mem_map.1 hs
    exact scaled_le hk (R.low t ht)
  nodup := by
    have := R.nodup
    rw [← List.map_cons, List.Nodup, List.pairwise_map]
    exact List.Pairwise.imp (fun h e => h (scaled_inj hk e)) this
  sub := by
    intro s hs
    rw [← List.map_cons] at hs
    obtain ⟨t, ht, rfl⟩ := List.mem_map.1 hs
    exact List.mem_map_of_mem (R.sub t ht)
  two := by
    have := R.two
    simpa using this
theorem scaled_diffs {k : Int} : ∀ (l : List Pt) (p : Pt), (diffs p l).map (scaled k) = diffs (scaled k p) (l.map (scaled k))
  | [], _ => rfl
  | q :: r, p => by
    have : scaled k (minus q p) = minus (scaled k q) (scaled k p) := by simp only [scaled, minus]; exact pt_ext (by simp; grind) (by simp; grind)
    simp only [diffs, List.map_cons, this]
    rw [scaled_diffs r q]
/-- One slice more. -/
theorem Fig.add {h first sides} (F : Fig h first sides) {s : List Pt} (hs : IsSail s) {k : Int} (hk : 0 < k) :
    Fig (sumOf h (s.map (scaled k))) (plus first (scaled k (s.getD 0 zero))) (mergeS sides ((sidesM s).map (scaled k))) := by
  have pz : ∀ p : Pt, plus p zero = p := by intro p; simp only [plus, zero]; exact pt_ext (by simp) (by simp)
  have zp : ∀ p : Pt, plus zero p = p := by intro p; simp only [plus, zero]; exact pt_ext (by simp) (by simp)
  obtain ⟨l, h0, rfl⟩ := hs
  have hne : l ≠ [] := by rintro rfl; cases h0
  rcases hull_cases hne with ⟨p, e, all⟩ | ⟨c, rest, e, R⟩
  · have p0 : p = zero := (all zero h0).symm
    subst p0
    rw [e]
    have sz : scaled k zero = zero := by simp [scaled, zero]
    have e1 : ([zero].map (scaled k)) = [zero] := by simp [sz]
    have e2 : (sidesM [zero]).map (scaled k) = [] := rfl
    have e3 : mergeS sides [] = sides := by cases sides <;> simp [mergeS]
    have e4 : plus first (scaled k ([zero].getD 0 zero)) = first := by simp only [List.getD_cons_zero, sz, pz]
    have e5 : (h.flatMap fun p => [zero].map fun q => plus p q) = h := by
      simp only [List.map_cons, List.map_nil, pz]
      induction h with
      | nil => rfl
      | cons a b ih =>
        clear F
        simp
    rw [e1, e2, e3, e4, sumOf, e5]
    cases F with
    | one => exact .one
    | @ring S c rest R =>
      rw [ring_hull (hull_again R) (fun s => Iff.rfl)]
      exact .ring R
  · rw [e]
    have RB := scaled_ring R hk
    have e2 : (sidesM (c :: rest)).map (scaled k) = diffs (scaled k c) (rest.map (scaled k) ++ [scaled k c]) := by
      rw [sides_diffs R.two, scaled_diffs]; simp
    have e3 : (c :: rest).getD 0 zero = c := rfl
    rw [e2, e3, List.map_cons]
    cases F with
    | one =>
      have e1 : sumOf [zero] (scaled k c :: rest.map (scaled k)) = scaled k c :: rest.map (scaled k) := by
        have : ([zero].flatMap fun p => (scaled k c :: rest.map (scaled k)).map fun q => plus p q) = scaled k c :: rest.map (scaled k) := by
          simp [zp]
        rw [sumOf, this, ring_hull (hull_again RB) (fun s => Iff.rfl)]
      rw [e1, zp]
      have : mergeS [] (diffs (scaled k c) (rest.map (scaled k) ++ [scaled k c])) = diffs (scaled k c) (rest.map (scaled k) ++ [scaled k c]) := by simp [mergeS]
      rw [this]
      exact .ring RB
    | @ring S _ rA RA =>
      obtain ⟨rs, ew, eh⟩ := sum_ring RA RB
      have esum : sumOf (first :: rA) (scaled k c :: rest.map (scaled k)) = plus first (scaled k c) :: rs := eh
      rw [esum]
      have em : mergeS (diffs first (rA ++ [first])) (diffs (scaled k c) (rest.map (scaled k) ++ [scaled k c])) = diffs (plus first (scaled k c)) (rs ++ [plus first (scaled k c)]) := by
        rw [← ew, diffs_walk]
      rw [em]
      have sne : sums (first :: rA) (scaled k c :: rest.map (scaled k)) ≠ [] := by
        intro z
        have : plus first (scaled k c) ∈ sums (first :: rA) (scaled k c :: rest.map (scaled k)) := mem_sums.2 ⟨first, by simp, _, by simp, rfl⟩
        rw [z] at this
        cases this
      rcases hull_cases sne with ⟨p, ep, allp⟩ | ⟨c', r', ec, R'⟩
      · exfalso
        obtain ⟨a1, r1, er⟩ : ∃ a1 r1, rA = a1 :: r1 := by
          cases q : rA with
          | nil => exact absurd q RA.two
          | cons a1 r1 => exact ⟨a1, r1, rfl⟩
        have m1 := allp (plus first (scaled k c)) (mem_sums.2 ⟨first, by simp, _, by simp, rfl⟩)
        have m2 := allp (plus a1 (scaled k c)) (mem_sums.2 ⟨a1, by simp [er], _, by simp, rfl⟩)
        have e := m2.trans m1.symm
        have ex := congrArg Pt.x e
        have ey := congrArg Pt.y e
        simp only [plus] at ex ey
        exact RA.ne a1 (by simp [er]) (pt_ext (by omega) (by omega))
      · rw [eh] at ec
        simp only [List.cons.injEq] at ec
        rw [← ec.1, ← ec.2] at R'
        exact .ring R'
/-- How long one is in each slice between t and u. -/
def lastsTill (u : Int) (s : Span) : Int := match s.2.2 with
  | none => u - s.2.1
  | some d => min (u - s.2.1) d
def spansTill (u : Int) (sp : List Span) : List (Nat × Int) := (sp.filter fun s => decide (0 < lastsTill u s)).map fun s => (s.1, lastsTill u s)
def setStep (hulls : List (List Pt)) (x : Pt × List Pt) (s : Nat × Int) : Pt × List Pt :=
  (plus x.1 (scaled s.2 ((hulls.getD s.1 []).getD 0 zero)), mergeS x.2 ((sidesM (hulls.getD s.1 [])).map (scaled s.2)))
def setM (begins : List Int) (hulls : List (List Pt)) (t u : Int) : List Pt :=
  match begins with
  | [] => []
  | b :: rest =>
    let x := (spansTill u (stretches t 0 b rest)).foldl (setStep hulls) (zero, [])
    cornersAlong x.1 x.2
def reachStep (w : Wind) (t u : Int) (h : List Pt) (i : Nat) : List Pt :=
  let a := max t (((w[i]?).map fun s => s.from_).getD 0)
  let b := match endOf w i with
    | some e => min u e
    | none => u
  if a < b then sumOf h ((sailOf w i).map (scaled (b - a))) else h
theorem set_from {w begins hulls} (F : Fits w begins hulls) {t u : Int} : ∀ (rest : List Int) (k : Nat) (b : Int) (h : List Pt) (x : Pt × List Pt), begins.drop k = b :: rest → Fig h x.1 x.2 →
    ∃ y : Pt × List Pt, (spansTill u (stretches t k b rest)).foldl (setStep hulls) x = y ∧ Fig ((List.range' k (w.length - k)).foldl (reachStep w t u) h) y.1 y.2
  | [], k, b, h, x, hd, G => by
    have hb : begins[k]? = some b := by
      have := congrArg (·[0]?) hd
      simpa using this
    have he : begins[k + 1]? = none := by
      have := congrArg (·[1]?) hd
      simpa using this
    have kl : w.length - k = 1 := by
      have := congrArg List.length hd
      rw [List.length_drop, F.len.1] at this
      simpa using this
    have fb : begins.getD k 0 = b := by rw [List.getD_eq_getElem?_getD, hb]; rfl
    rw [kl, List.range'_one]
    simp only [List.foldl_cons, List.foldl_nil, reachStep, F.end_, he, F.from_, fb, F.sail, stretches]
    have ls : lastsTill u (k, max t b, none) = u - max t b := rfl
    by_cases c : max t b < u
    · rw [if_pos c, spansTill, List.filter_cons_of_pos (by simp [ls]; omega)]
      simp only [List.filter_nil, List.map_cons, List.map_nil, List.foldl_cons, List.foldl_nil, ls]
      exact ⟨_, rfl, G.add (F.isSail (List.getElem?_eq_some_iff.1 hb).1) (by omega)⟩
    · rw [if_neg c, spansTill, List.filter_cons_of_neg (by simp [ls]; omega)]
      exact ⟨_, rfl, G⟩
  | e :: r, k, b, h, x, hd, G => by
    have hb : begins[k]? = some b := by
      have := congrArg (·[0]?) hd
      simpa using this
    have he : begins[k + 1]? = some e := by
      have := congrArg (·[1]?) hd
      simpa using this
    have hd' : begins.drop (k + 1) = e :: r := by
      have := congrArg List.tail hd
      simpa using this
    have be : b < e := by
      have up := F.up.drop (i := k)
      rw [hd] at up
      exact (List.pairwise_cons.1 up).1 e (by simp)
    have kl : w.length - k = (w.length - (k + 1)) + 1 := by
      have := congrArg List.length hd
      rw [List.length_drop, F.len.1] at this
      simp only [List.length_cons] at this
      omega
    have fb : begins.getD k 0 = b := by rw [List.getD_eq_getElem?_getD, hb]; rfl
    rw [kl, List.range'_succ, List.foldl_cons]
    have rs : reachStep w t u h k = if max t b < min u e then sumOf h ((hulls.getD k []).map (scaled (min u e - max t b))) else h := by
      simp only [reachStep, F.end_, he, F.from_, fb, F.sail]
    rw [rs]
    simp only [stretches]
    by_cases q : t < e
    · rw [if_pos q]
      have ls : lastsTill u (k, max t b, some (e - max t b)) = min u e - max t b := by
        show min (u - max t b) (e - max t b) = _
        omega
      by_cases c : max t b < min u e
      · rw [if_pos c, spansTill, List.filter_cons_of_pos (by simp only [ls, decide_eq_true_eq]; omega)]
        simp only [List.map_cons, List.foldl_cons, ls]
        exact set_from F r (k + 1) e _ _ hd' (G.add (F.isSail (List.getElem?_eq_some_iff.1 hb).1) (by omega))
      · rw [if_neg c, spansTill, List.filter_cons_of_neg (by simp only [ls, decide_eq_true_eq]; omega)]
        exact set_from F r (k + 1) e _ _ hd' G
    · rw [if_neg q, if_neg (by omega)]
      exact set_from F r (k + 1) e _ _ hd' G
theorem reach_eq {w begins hulls} (F : Fits w begins hulls) (hne : begins ≠ []) (t u : Int) : setM begins hulls t u = reachable w t u := by
  cases hb : begins with
  | nil => exact absurd hb hne
  | cons b rest =>
    obtain ⟨y, e, G⟩ := set_from F (t := t) (u := u) rest 0 b [zero] (zero, []) (by rw [List.drop_zero, hb]) .one
    have := G.corners
    rw [setM]
    simp only [e]
    rw [this, Nat.sub_zero, ← List.range_eq_range']
    rfl
end Mk
set_option linter.unusedVariables false
set_option linter.unusedSimpArgs false
namespace Bd
open Vbreac Hu Lt Fr
/-! ### How large the numbers may become -/
def Within (n : Int) (p : Pt) : Prop := (-n ≤ p.x ∧ p.x ≤ n) ∧ (-n ≤ p.y ∧ p.y ≤ n)
theorem hull_ne {l : List Pt} (h : l ≠ []) : hullOf l ≠ [] := by
  rcases hull_cases h with ⟨p, e, _⟩ | ⟨c, rest, e, _⟩ <;> rw [e] <;> simp
theorem hull_nodup {l : List Pt} (h : l ≠ []) : (hullOf l).Nodup := by
  rcases hull_cases h with ⟨p, e, _⟩ | ⟨c, rest, e, R⟩
  · rw [e]; simp
  · rw [e]; exact R.nodup
theorem hull_len {l : List Pt} (h : l ≠ []) : (hullOf l).length ≤ l.length := nodup_len _ _ (hull_nodup h) (hull_sub h)
theorem sail_ne (v : List Pt) : sail v ≠ [] := hull_ne (by simp)
theorem sail_len (v : List Pt) : (sail v).length ≤ v.length + 1 := hull_len (l := zero :: v) (by simp)
theorem sail_sub {v : List Pt} {p : Pt} (h : p ∈ sail v) : p = zero ∨ p ∈ v := by
  have := hull_sub (l := zero :: v) (by simp) p h
  simpa using this
theorem sail_within {v : List Pt} {n : Int} (hn : 0 ≤ n) (h : ∀ p ∈ v, Within n p) : ∀ p ∈ sail v, Within n p := by
  intro p hp
  rcases sail_sub hp with e | e
  · subst e
    simp only [Within, zero]
    omega
  · exact h p e
theorem sides_ne {l : List Pt} (h : l ≠ []) : ∀ s ∈ Mk.sidesM (hullOf l), s ≠ zero := by
  intro s hs
  rcases hull_cases h with ⟨p, e, _⟩ | ⟨c, rest, e, R⟩
  · rw [e, Mk.sidesM, if_pos (show [p].length = 1 from rfl)] at hs
    cases hs
  · rw [e, Mk.sidesM] at hs
    split at hs
    · cases hs
    · obtain ⟨q, hq, rfl⟩ := List.mem_map.1 hs
      rw [edges_cons] at hq
      have sd := path_pairs rest c R.path q hq
      intro z
      refine sd.2.2.1 ?_
      have zx := congrArg Pt.x z
      have zy := congrArg Pt.y z
      simp only [minus, zero] at zx zy
      exact pt_ext (by omega) (by omega)
theorem plain_within {n : Int} {p : Pt} (h : Within n p) : Within n (plain p) := by
  unfold plain
  simp only
  split
  · exact h
  · rename_i g
    have key : ∀ x : Int, (-n ≤ x ∧ x ≤ n) → -n ≤ x / ((Nat.gcd p.x.natAbs p.y.natAbs : Nat) : Int) ∧ x / ((Nat.gcd p.x.natAbs p.y.natAbs : Nat) : Int) ≤ n := by
      intro x hx
      have gp : (0 : Int) < ((Nat.gcd p.x.natAbs p.y.natAbs : Nat) : Int) := by omega
      generalize ((Nat.gcd p.x.natAbs p.y.natAbs : Nat) : Int) = d at gp
      constructor
      · refine (Int.le_ediv_iff_mul_le gp).2 ?_
        have : -n * d ≤ -n := by
          have n0 : 0 ≤ n := by omega
          have := Int.mul_le_mul_of_nonneg_left (show (1 : Int) ≤ d by omega) n0
          rw [Int.neg_mul]
          omega
        omega
      · refine Int.ediv_le_of_le_mul gp ?_
        have n0 : 0 ≤ n := by omega
        have := Int.mul_le_mul_of_nonneg_left (show (1 : Int) ≤ d by omega) n0
        omega
    exact ⟨key _ h.1, key _ h.2⟩
theorem edges_mem {h : List Pt} {e : Pt × Pt} (he : e ∈ edges h) : e.1 ∈ h ∧ e.2 ∈ h := by
  obtain ⟨h1, h2⟩ := List.of_mem_zip he
  refine ⟨h1, ?_⟩
  rcases List.mem_append.1 h2 with z | z
  · exact List.mem_of_mem_drop z
  · exact List.mem_of_mem_take z
theorem dirs_within {n : Int} (h1 : 1 ≤ n) {hs : List (List Pt)} (h : ∀ l ∈ hs, ∀ p ∈ l, Within n p) : ∀ d ∈ directions hs, Within (2 * n) d := by
  intro d hd
  unfold directions at hd
  rw [firsts_mem, List.mem_append] at hd
  rcases hd with hd | hd
  · obtain ⟨l, hl, hd⟩ := List.mem_flatMap.1 hd
    rcases List.mem_append.1 hd with hd | hd
    · unfold outward at hd
      split at hd
      · cases hd
      · obtain ⟨e, he, rfl⟩ := List.mem_map.1 hd
        obtain ⟨m1, m2⟩ := edges_mem he
        have a := h l hl _ m1
        have b := h l hl _ m2
        refine plain_within ?_
        simp only [Within] at *
        omega
    · unfold lengthwise at hd
      split at hd
      · rename_i a b _
        have ha := h _ hl a (by simp)
        have hb := h _ hl b (by simp)
        simp only [List.mem_cons, List.not_mem_nil, or_false] at hd
        rcases hd with rfl | rfl
        · refine plain_within ?_
          simp only [Within, minus] at *
          omega
        · refine plain_within ?_
          simp only [Within, minus] at *
          omega
      · cases hd
  · simp only [AXES, List.mem_cons, List.not_mem_nil, or_false] at hd
    rcases hd with rfl | rfl | rfl | rfl <;> simp only [Within] <;> omega
theorem mul_within {a b m n : Int} (ha : -m ≤ a ∧ a ≤ m) (hb : -n ≤ b ∧ b ≤ n) : -(m * n) ≤ a * b ∧ a * b ≤ m * n := by
  have h1 : (a * b).natAbs ≤ (m * n).natAbs := by
    rw [Int.natAbs_mul, Int.natAbs_mul]
    exact Nat.mul_le_mul (by omega) (by omega)
  have h2 : 0 ≤ m * n := Int.mul_nonneg (by omega) (by omega)
  omega
theorem dot_within {p q : Pt} {m n : Int} (hp : Within m p) (hq : Within n q) : -(2 * (m * n)) ≤ dot p q ∧ dot p q ≤ 2 * (m * n) := by
  have a := mul_within hp.1 hq.1
  have b := mul_within hp.2 hq.2
  unfold dot
  omega
theorem cross_within {p q : Pt} {m n : Int} (hp : Within m p) (hq : Within n q) : -(2 * (m * n)) ≤ cross p q ∧ cross p q ≤ 2 * (m * n) := by
  have a := mul_within hp.1 hq.2
  have b := mul_within hp.2 hq.1
  unfold cross
  omega
theorem support_le {h : List Pt} {n : Pt} {m k : Int} (hm : 0 ≤ m) (hk : 0 ≤ k) (hp : ∀ p ∈ h, Within m p) (hn : Within k n) : 0 ≤ support h n ∧ support h n ≤ 2 * (m * k) := by
  refine ⟨support_nn h n, ?_⟩
  have z : (0 : Int) ≤ 2 * (m * k) := by
    have := Int.mul_nonneg hm hk
    omega
  unfold support
  have key : ∀ (l : List Pt) (z0 : Int), (∀ p ∈ l, Within m p) → z0 ≤ 2 * (m * k) → l.foldl (fun z v => max z (dot v n)) z0 ≤ 2 * (m * k) := by
    intro l
    induction l with
    | nil => intro z0 _ h; exact h
    | cons p l ih =>
      intro z0 hl h
      rw [List.foldl_cons]
      refine ih _ (fun q hq => hl q (by simp [hq])) ?_
      have := dot_within (hl p (by simp)) hn
      omega
  exact key h 0 hp z
/-! ### The arrival's numbers -/
structure Sized (parts : Nat) (tn : Int) (a : Arr) : Prop where
  l0 : 0 ≤ a.lower
  l1 : a.lower ≤ 4000000
  u0 : 0 ≤ a.upper
  u1 : a.upper ≤ 100000000000000 * (parts : Int)
  s0 : 0 ≤ a.since
  s1 : a.since ≤ max tn (1000000 * (parts : Int))
  pr : Within 2000 a.proof
theorem best_sized {dirs : List Pt} {hulls : List (List Pt)} {i : Nat} {lacking : List Int} {M : Int} (hM : 0 ≤ M) (hd : ∀ d ∈ dirs, Within 2000 d) (hh : ∀ l ∈ hulls, ∀ p ∈ l, Within 1000 p)
    (hl : ∀ z ∈ lacking, z ≤ M) : 0 ≤ (bestOf dirs hulls i lacking).1 ∧ (bestOf dirs hulls i lacking).1 ≤ M ∧ 0 ≤ (bestOf dirs hulls i lacking).2.1 ∧ (bestOf dirs hulls i lacking).2.1 ≤ 4000000 ∧ Within 2000 (dirOf dirs (bestOf dirs hulls i lacking).2.2) := by
  have B := take_most (lacking := lacking) (row_nn dirs hulls i) dirs.length
  unfold bestOf
  have hz : Within 2000 zero := by simp only [Within, zero]; omega
  refine ⟨B.nn, ?_, B.lnn, ?_, ?_⟩
  · rcases B.eq with ⟨_, e, _⟩ | ⟨k, _, _, e, _⟩
    · rw [e]; exact hM
    · rw [e, List.getD_eq_getElem?_getD]
      cases q : lacking[k]? with
      | none => exact hM
      | some z => exact hl z (List.mem_of_getElem? q)
  · rcases B.eq with ⟨_, _, e⟩ | ⟨k, hk, _, _, e⟩
    · rw [e]; decide
    · rw [e, row_get hk]
      have hi : ∀ p ∈ hulls.getD i [], Within 1000 p := by
        rw [List.getD_eq_getElem?_getD]
        cases q : hulls[i]? with
        | none => intro p hp; cases hp
        | some l => exact hh l (List.mem_of_getElem? q)
      have hn : Within 2000 (dirs.getD k zero) := by
        rw [List.getD_eq_getElem?_getD]
        cases q : dirs[k]? with
        | none => exact hz
        | some l => exact hd l (List.mem_of_getElem? q)
      exact (support_le (by decide) (by decide) hi hn).2
  · rcases B.eq with ⟨e, _⟩ | ⟨k, hk, e, _⟩
    · rw [e]; exact hz
    · rw [e]
      show Within 2000 (dirs.getD k zero)
      rw [List.getD_eq_getElem?_getD]
      cases q : dirs[k]? with
      | none => exact hz
      | some l => exact hd l (List.mem_of_getElem? q)
theorem less_le {lacking row : List Int} {d M : Int} (hd : 0 ≤ d) (hr : ∀ z ∈ row, 0 ≤ z) (hl : ∀ z ∈ lacking, z ≤ M) : ∀ z ∈ lessOf lacking row d, z ≤ M := by
  intro z hz
  unfold lessOf at hz
  obtain ⟨i, hi, e⟩ := List.mem_iff_getElem.1 hz
  have hi' := hi
  rw [List.length_zipWith] at hi'
  rw [List.getElem_zipWith] at e
  have h1 := hl _ (List.getElem_mem (l := lacking) (show i < lacking.length by omega))
  have h2 := hr _ (List.getElem_mem (l := row) (show i < row.length by omega))
  have := Int.mul_nonneg h2 hd
  omega
theorem row_mem_nn {dirs : List Pt} {hulls : List (List Pt)} {i : Nat} : ∀ z ∈ rowOf dirs hulls i, 0 ≤ z := by
  intro z hz
  obtain ⟨d, _, rfl⟩ := List.mem_map.1 hz
  exact support_nn _ _
theorem seek_sized {dirs : List Pt} {hulls : List (List Pt)} {parts : Nat} {tn : Int} (hd : ∀ d ∈ dirs, Within 2000 d) (hh : ∀ l ∈ hulls, ∀ p ∈ l, Within 1000 p) :
    ∀ (sp : List Span) (lacking : List Int) (a : Arr), (∀ s ∈ sp, (0 ≤ s.2.1 ∧ s.2.1 ≤ max tn (1000000 * (parts : Int))) ∧ 0 ≤ s.2.2.getD 0) → (∀ z ∈ lacking, z ≤ 100000000000000 * (parts : Int)) → seek dirs hulls sp lacking = some a → Sized parts tn a
  | [], lacking, a, _, _, h => by cases h
  | s :: r, lacking, a, hs, hl, h => by
    rw [seek] at h
    split at h
    · have e := Option.some.inj h
      have b := best_sized (i := s.1) (M := 100000000000000 * (parts : Int)) (by omega) hd hh hl
      have q := hs s (by simp)
      rw [← e]
      exact ⟨b.2.2.1, b.2.2.2.1, b.1, b.2.1, q.1.1, q.1.2, b.2.2.2.2⟩
    · refine seek_sized hd hh r _ a (fun x hx => hs x (by simp [hx])) ?_ h
      exact less_le (hs s (by simp)).2 row_mem_nn hl
theorem stretch_sized {t M : Int} (ht : 0 ≤ t) : ∀ (rest : List Int) (i : Nat) (b : Int), 0 ≤ b → b ≤ M → (∀ x ∈ rest, 0 ≤ x ∧ x ≤ M) → ∀ s ∈ stretches t i b rest, (0 ≤ s.2.1 ∧ s.2.1 ≤ max t M) ∧ True
  | [], i, b, h0, h1, _, s, hs => by
    simp only [stretches, List.mem_cons, List.not_mem_nil, or_false] at hs
    subst hs
    refine ⟨?_, trivial⟩
    simp only
    omega
  | e :: r, i, b, h0, h1, hr, s, hs => by
    have he := hr e (by simp)
    simp only [stretches] at hs
    split at hs
    · rcases List.mem_cons.1 hs with hs | hs
      · subst hs
        refine ⟨?_, trivial⟩
        simp only
        omega
      · exact stretch_sized ht r (i + 1) e he.1 he.2 (fun x hx => hr x (by simp [hx])) s hs
    · exact stretch_sized ht r (i + 1) e he.1 he.2 (fun x hx => hr x (by simp [hx])) s hs
theorem least_sized {begins : List Int} {hulls : List (List Pt)} {d : Pt} {tn : Int} {parts : Nat} {a : Arr} (hp : 0 < parts) (ht : 0 ≤ tn) (hb : ∀ b ∈ begins, 0 ≤ b ∧ b ≤ 1000000) (up : begins.Pairwise (· < ·)) (hh : ∀ l ∈ hulls, ∀ p ∈ l, Within 1000 p)
    (hd : Within 2000000 d) (h : leastM begins hulls d tn parts = some a) : Sized parts tn a := by
  have hds := dirs_within (n := 1000) (by decide) hh
  cases hbb : begins with
  | nil => rw [hbb] at h; cases h
  | cons b rest =>
    rw [hbb] at h hb up
    have h : seek (directions hulls) hulls (stretches tn 0 (b * (parts : Int)) (rest.map (· * (parts : Int)))) ((directions hulls).map fun n => dot n d * (parts : Int)) = some a := h
    have pp : (0 : Int) < parts := by omega
    have sc : ∀ x : Int, 0 ≤ x ∧ x ≤ 1000000 → 0 ≤ x * (parts : Int) ∧ x * (parts : Int) ≤ 1000000 * (parts : Int) := fun x hx => ⟨Int.mul_nonneg hx.1 (by omega), Int.mul_le_mul_of_nonneg_right hx.2 (by omega)⟩
    refine seek_sized (dirs := directions hulls) hds hh _ _ a (fun s hs => ⟨?_, ?_⟩) ?_ h
    · refine (stretch_sized ht _ _ _ (sc b (hb b (by simp))).1 (sc b (hb b (by simp))).2 ?_ s hs).1
      intro x hx
      obtain ⟨y, hy, rfl⟩ := List.mem_map.1 hx
      exact sc y (hb y (by simp [hy]))
    · have pw : ((b :: rest).map (· * (parts : Int))).Pairwise (· < ·) := by
        rw [List.pairwise_map]
        exact up.imp fun h => (mul_lt_iff pp).2 h
      have := (stretch_facts tn _ 0 _ pw s hs).2
      cases q : s.2.2 with
      | none => simp
      | some z => have := this z q; simp; omega
    · intro z hz
      obtain ⟨n, hn, rfl⟩ := List.mem_map.1 hz
      have a := (dot_within (hds n hn) hd).2
      exact Int.mul_le_mul_of_nonneg_right (by omega) (by omega)
end Bd
set_option maxHeartbeats 2000000
namespace Sw
open PySem PySem.Spec PyProof.Rows L2 LamX
open Vbreac (Pt Frac Wind)
/-! ### Heaps in which instances may change, and tables grow -/
def KeptI (H H' : Hp) : Prop := ∀ b o, H b = some o → (∀ C dx fs, o ≠ .ins C dx fs) → (∀ ps, o ≠ .tbl ps) → H' b = some o
/-- All but what stands at one address. -/
def Kept1 (a : Addr) (H H' : Hp) : Prop := ∀ b o, H b = some o → b ≠ a → H' b = some o
theorem KeptI.refl (H : Hp) : KeptI H H := fun _ _ h _ _ => h
theorem KeptI.trans {H H1 H2 : Hp} (a : KeptI H H1) (b : KeptI H1 H2) : KeptI H H2 := fun c o h n m => b c o (a c o h n m) n m
theorem KeptI.of {H H' : Hp} (s : Same H H') : KeptI H H' := fun b o h _ _ => s b o h
theorem KeptI.ofN {H H' : Hp} (s : ExtN H H') : KeptI H H' := fun b o h _ n => s b o h n
theorem KeptI.of1 {H H' : Hp} {a C dx : Addr} {fs : List (Str × V)} (s : Kept1 a H H') (h : H a = some (.ins C dx fs)) : KeptI H H' := fun b o e n _ => s b o e fun z => by
  rw [z, h] at e
  exact n _ _ _ (Option.some.inj e).symm
theorem Kept1.refl (a : Addr) (H : Hp) : Kept1 a H H := fun _ _ h _ => h
theorem Kept1.trans {a : Addr} {H H1 H2 : Hp} (x : Kept1 a H H1) (y : Kept1 a H1 H2) : Kept1 a H H2 := fun c o h n => y c o (x c o h n) n
theorem Kept1.of {a : Addr} {H H' : Hp} (s : Same H H') : Kept1 a H H' := fun b o h _ => s b o h
theorem Kept1.upd {a : Addr} {H : Hp} {o : HO} : Kept1 a H (upd H a o) := fun b u h n => by rw [upd_ne n]; exact h
theorem Kept1.same {a : Addr} {H H' : Hp} (s : Kept1 a H H') (n : H a = none) : Same H H' := fun b o h => s b o h (ne_of_none h n)
theorem Kept1.tabs {a C dx : Addr} {H H' : Hp} {fs : List (Str × V)} {T : List (Addr × Str)} (s : Kept1 a H H') (h : H a = some (.ins C dx fs)) (t : Tabs T H) : Tabs T H' := fun p hp => by
  obtain ⟨ps, h1, h2, h3⟩ := t p hp
  have k1 := s _ _ h1 (ne_of h1 h (by intro z; cases z))
  refine ⟨ps, k1, h2, fun pos cv hc => ?_⟩
  obtain ⟨c, e1, e2⟩ := h3 pos cv hc
  exact ⟨c, e1, s _ _ e2 (ne_of e2 h (by intro z; cases z))⟩
section
variable {P : Program} {w : World} {K : PySem.W.Frag} {mg : Str → Option Value} {base : Heap} {H H' : Hp}
theorem KeptI.sqL {a : Addr} {xs : List V} (s : KeptI H H') (h : SqL K H a xs) : SqL K H' a xs := by
  rcases h with (h | ⟨o, h⟩) | h
  · exact .inl (.inl (s _ _ h (fun _ _ _ z => by cases z) (fun _ z => by cases z)))
  · exact .inl (.inr ⟨o, s _ _ h (fun _ _ _ z => by cases z) (fun _ z => by cases z)⟩)
  · exact .inr h
theorem KeptI.sqT {a : Addr} {xs : List V} (s : KeptI H H') (h : SqT K H a xs) : SqT K H' a xs := by
  rcases h with (h | ⟨o, h⟩) | h
  · exact .inl (.inl (s _ _ h (fun _ _ _ z => by cases z) (fun _ z => by cases z)))
  · exact .inl (.inr ⟨o, s _ _ h (fun _ _ _ z => by cases z) (fun _ z => by cases z)⟩)
  · exact .inr h
theorem KeptI.lst {a : Addr} {xs : List V} (s : KeptI H H') (h : H a = some (.lst xs)) : H' a = some (.lst xs) := s _ _ h (fun _ _ _ z => by cases z) (fun _ z => by cases z)
theorem KeptI.tup {a : Addr} {xs : List V} (s : KeptI H H') (h : H a = some (.tup xs)) : H' a = some (.tup xs) := s _ _ h (fun _ _ _ z => by cases z) (fun _ z => by cases z)
theorem KeptI.own {a x : Addr} (s : KeptI H H') (h : H a = some (.own x)) : H' a = some (.own x) := s _ _ h (fun _ _ _ z => by cases z) (fun _ z => by cases z)
theorem KeptI.frz {a : Addr} {o : Obj} {u : HO} (s : KeptI H H') (h : H a = some (.frz o u)) : H' a = some (.frz o u) := s _ _ h (fun _ _ _ z => by cases z) (fun _ z => by cases z)
theorem KeptI.pt {a : Addr} {p : Pt} (s : KeptI H H') (h : PtA K H a p) : PtA K H' a p := s.sqT h
theorem KeptI.rowA {rs : Row} (s : KeptI H H') (h : RowA K H rs) : RowA K H' rs := fun r hr => ⟨s.pt (h r hr).1, (h r hr).2⟩
theorem KeptI.rowB {rs : Row} (s : KeptI H H') (h : RowB K H rs) : RowB K H' rs := fun r hr => ⟨s.pt (h r hr).1, (h r hr).2⟩
theorem KeptI.hull {h : Addr × Row} (s : KeptI H H') (x : HullA K H h) : HullA K H' h := ⟨s.sqL x.list, s.rowA x.row, x.pos, x.few, x.side⟩
theorem KeptI.grp {gs : Grp} (s : KeptI H H') (h : GrpA H gs) : GrpA H' gs := fun g hg => s.tup (h g hg)
/-! ### Attributes -/
theorem lk_here {k : Str} {v : V} {r : List (Str × V)} : List.lookup k ((k, v) :: r) = some v := by
  have e : (k == k) = true := beq_self_eq_true k
  simp only [List.lookup, e]
theorem lk_past {k g : Str} {v : V} {r : List (Str × V)} (h : (k == g) = false) : List.lookup k ((g, v) :: r) = List.lookup k r := by
  simp only [List.lookup, h]
theorem put_here {f : Str} {v x : V} {r : List (Str × V)} : putF f v ((f, x) :: r) = (f, v) :: r := if_pos rfl
theorem put_past {f g : Str} {v x : V} {r : List (Str × V)} (h : ¬ g = f) : putF f v ((g, x) :: r) = (g, x) :: putF f v r := if_neg h
/-! ### Arrival -/
def arF (n s t p : V) : List (Str × V) := [("number", n), ("since", s), ("takes", t), ("proof", p)]
theorem ar_number (n s t p : V) : (arF n s t p).lookup ("number" : Str) = some n := lk_here
theorem ar_since (n s t p : V) : (arF n s t p).lookup ("since" : Str) = some s := (lk_past (by decide +kernel)).trans lk_here
theorem ar_takes (n s t p : V) : (arF n s t p).lookup ("takes" : Str) = some t := (lk_past (by decide +kernel)).trans ((lk_past (by decide +kernel)).trans lk_here)
theorem ar_proof (n s t p : V) : (arF n s t p).lookup ("proof" : Str) = some p := (lk_past (by decide +kernel)).trans ((lk_past (by decide +kernel)).trans ((lk_past (by decide +kernel)).trans lk_here))
theorem ar_no {m : Str} (h1 : (m == ("number" : Str)) = false) (h2 : (m == ("since" : Str)) = false) (h3 : (m == ("takes" : Str)) = false) (h4 : (m == ("proof" : Str)) = false) (n s t p : V) : (arF n s t p).lookup m = none :=
  (lk_past h1).trans ((lk_past h2).trans ((lk_past h3).trans ((lk_past h4).trans rfl)))
def arF1 (n : V) : List (Str × V) := [("number", n)]
def arF2 (n s : V) : List (Str × V) := [("number", n), ("since", s)]
def arF3 (n s t : V) : List (Str × V) := [("number", n), ("since", s), ("takes", t)]
theorem ar_put1 (n : V) : putF "number" n [] = arF1 n := rfl
theorem ar_put2 (n s : V) : putF "since" s (arF1 n) = arF2 n s := (put_past (by decide +kernel)).trans rfl
theorem ar_put3 (n s t : V) : putF "takes" t (arF2 n s) = arF3 n s t := (put_past (by decide +kernel)).trans (congrArg _ ((put_past (by decide +kernel)).trans rfl))
theorem ar_put4 (n s t p : V) : putF "proof" p (arF3 n s t) = arF n s t p := (put_past (by decide +kernel)).trans (congrArg _ ((put_past (by decide +kernel)).trans (congrArg _ ((put_past (by decide +kernel)).trans rfl))))
def spArrInit (C : Addr) : Sp := fun vs H Q _ => ∃ (x dx : Addr) (n s t p : V), vs = [.ref x, n, s, t, p] ∧ H x = some (.ins C dx []) ∧ Q .non (upd H x (.ins C dx (arF n s t p)))
theorem okArrInit (T : Tx K mg) {k : Nat} : FnOk P w K mg base CX0 (k + 1) T.Arrival_init.f T.Arrival_init.fd ["self", "number", "since", "takes", "proof"] (spArrInit T.CArrival) := by
  refine T.Arrival_init.fn.ok sc_Arrival___init__ (fun vs H Q E h => ?_) (fun cdv A outer s H vs Q E hr h => ?_)
  · obtain ⟨x, dx, n, s, t, p, rfl, _⟩ := h
    rfl
  · obtain ⟨x, dx, n, s, t, p, rfl, hx, k⟩ := h
    refine ⟨_, pss_cons (ps_fld (pv 0) (pv 1) rfl) (pss_cons (ps_fld (pv 0) (pv 2) rfl) (pss_cons (ps_fld (pv 0) (pv 3) rfl) (pss_one (ps_fld (pv 0) (pv 4) rfl)))), ?_⟩
    refine ⟨_, rfl, _, rfl, x, T.CArrival, dx, _, rfl, hx, T.cArrival, T.nArrival_number, (by decide), ?_⟩
    rw [ar_put1]
    refine ⟨_, rfl, _, rfl, x, T.CArrival, dx, _, rfl, upd_same, T.cArrival, T.nArrival_since, (by show 1 < 1000; decide), ?_⟩
    rw [upd_upd, ar_put2]
    refine ⟨_, rfl, _, rfl, x, T.CArrival, dx, _, rfl, upd_same, T.cArrival, T.nArrival_takes, (by show 2 < 1000; decide), ?_⟩
    rw [upd_upd, ar_put3]
    refine ⟨_, rfl, _, rfl, x, T.CArrival, dx, _, rfl, upd_same, T.cArrival, T.nArrival_proof, (by show 3 < 1000; decide), ?_⟩
    rw [upd_upd, ar_put4]
    exact k
/-- An arrival as the program keeps it. -/
structure ArrA (K : PySem.W.Frag) (C : Addr) (H : Hp) (x : Addr) (a : Lt.Arr) (parts : Nat) : Prop where
  ob : ∃ dx s t p, H x = some (.ins C dx (arF (.int a.number) (.ref s) (.ref t) (.ref p))) ∧ SqT K H s [.int a.since, .int parts] ∧ SqT K H t [.int a.upper, .int (a.lower * parts)] ∧ PtA K H p a.proof
def spHapp (K : PySem.W.Frag) (C : Addr) : Sp := fun vs H Q _ => ∃ (x : Addr) (a : Lt.Arr) (parts : Nat), vs = [.ref x] ∧ ArrA K C H x a parts ∧ 0 < parts ∧ Q (.bl (decide (0 < a.lower))) H
theorem mul_pos_iff {l : Int} {parts : Nat} (h : 0 < parts) : 0 < l * (parts : Int) ↔ 0 < l := by
  constructor
  · intro z
    exact Int.pos_of_mul_pos_left z (by omega)
  · intro z
    exact Int.mul_pos z (by omega)
theorem okHapp (T : Tx K mg) {k : Nat} : FnOk P w K mg base CX0 (k + 1) T.Arrival_happens.f T.Arrival_happens.fd ["self"] (spHapp K T.CArrival) := by
  refine T.Arrival_happens.fn.ok sc_Arrival_happens (fun vs H Q E h => ?_) (fun cdv A outer s H vs Q E hr h => ?_)
  · obtain ⟨x, a, parts, rfl, _⟩ := h
    rfl
  · obtain ⟨x, a, parts, rfl, ⟨dx, s, t, p, hx, hs, ht, hp⟩, h0, k⟩ := h
    refine ⟨_, pss_one (ps_ret (pe_cmpR op_gt (pe_ix ix_tup (pe_fld (pv 0) rfl) pe_int (fun _ _ => rfl)) pe_int (nomark _))), ?_⟩
    refine ⟨_, rfl, x, T.CArrival, dx, _, _, rfl, hx, T.cArrival, T.nArrival_takes, ar_takes _ _ _ _, t, _, _, _, rfl, rfl, ht, atI_nat (j := 1) rfl, _, _, rfl, rfl, ?_⟩
    show Q (.bl (decide (0 < a.lower * (parts : Int)))) H
    rwa [show decide (0 < a.lower * (parts : Int)) = decide (0 < a.lower) from decide_eq_decide.mpr (mul_pos_iff h0)]
def Bt (n : Int) : Prop := n.natAbs < 2 ^ 2000
theorem bt_mul {a b : Int} (ha : Bt a) (hb : Bt b) : (a * b).natAbs < 2 ^ 4000 := by
  unfold Bt at *
  rw [Int.natAbs_mul]
  have e : (2 : Nat) ^ 4000 = 2 ^ 2000 * 2 ^ 2000 := by rw [← Nat.pow_add]
  rw [e]
  exact Nat.mul_lt_mul'' ha hb
def spTime (K : PySem.W.Frag) (C : Addr) : Sp := fun vs H Q _ => ∃ (x : Addr) (a : Lt.Arr) (parts : Nat), vs = [.ref x] ∧ ArrA K C H x a parts ∧ 0 < parts ∧ 0 < a.lower ∧ Bt a.since ∧ Bt a.upper ∧ Bt (a.lower * parts) ∧ Bt parts ∧
  ∀ t, H t = none → Q (.ref t) (upd H t (fracV (Lt.timeOf parts a)))
theorem okTime (T : Tx K mg) {k : Nat} : FnOk P w K mg base CX0 (k + 3) T.Arrival_time.f T.Arrival_time.fd ["self"] (spTime K T.CArrival) := by
  have GL : FnOk P w K mg base CX0 (k + 2) T.lowest_terms.f T.lowest_terms.fd ["upper", "lower"] spLow := ok_low T.lowest_terms.fn T.greatest_divisor.fn T.greatest_divisor.b T.greatest_divisor.g T.nb.abs_
  refine T.Arrival_time.fn.ok sc_Arrival_time (fun vs H Q E h => ?_) (fun cdv A outer s H vs Q E hr h => ?_)
  · obtain ⟨x, a, parts, rfl, _⟩ := h
    rfl
  · obtain ⟨x, a, parts, rfl, ⟨dx, s, t, p, hx, hs, ht, hp⟩, h0, hl, b1, b2, b3, b4, k⟩ := h
    refine ⟨_, pss_cons (ps_set (i := 1) sc_Arrival_time.nd rfl (.inl rfl) (pe_op op_add (pe_op op_mulW (pe_ix ix_tup (pe_fld (pv 0) rfl) pe_int (fun _ _ => rfl)) (pe_ix ix_tup (pe_fld (pv 0) rfl) pe_int (fun _ _ => rfl)))
        (pe_op op_mulW (pe_ix ix_tup (pe_fld (pv 0) rfl) pe_int (fun _ _ => rfl)) (pe_ix ix_tup (pe_fld (pv 0) rfl) pe_int (fun _ _ => rfl)))))
      (pss_one (ps_ret (pe_call GL hr rfl T.lowest_terms.g T.lowest_terms.fn.kp T.lowest_terms.b .nil pass0 (pa_cons (pv 1) (pa_cons (pe_op op_mulW (pe_ix ix_tup (pe_fld (pv 0) rfl) pe_int (fun _ _ => rfl)) (pe_ix ix_tup (pe_fld (pv 0) rfl) pe_int (fun _ _ => rfl))) pa_nil))))), ?_⟩
    refine ⟨_, rfl, x, T.CArrival, dx, _, _, rfl, hx, T.cArrival, T.nArrival_since, ar_since _ _ _ _, s, _, _, _, rfl, rfl, hs, atI_nat (j := 0) rfl,
      _, rfl, x, T.CArrival, dx, _, _, rfl, hx, T.cArrival, T.nArrival_takes, ar_takes _ _ _ _, t, _, _, _, rfl, rfl, ht, atI_nat (j := 1) rfl, _, _, rfl, rfl, wide_mul b1 b3 (by decide) (by decide) (by decide), ?_⟩
    refine ⟨_, rfl, x, T.CArrival, dx, _, _, rfl, hx, T.cArrival, T.nArrival_takes, ar_takes _ _ _ _, t, _, _, _, rfl, rfl, ht, atI_nat (j := 0) rfl,
      _, rfl, x, T.CArrival, dx, _, _, rfl, hx, T.cArrival, T.nArrival_since, ar_since _ _ _ _, s, _, _, _, rfl, rfl, hs, atI_nat (j := 1) rfl, _, _, rfl, rfl, wide_mul b2 b4 (by decide) (by decide) (by decide), _, _, rfl, rfl, ?_⟩
    refine ⟨_, rfl, _, rfl, x, T.CArrival, dx, _, _, rfl, hx, T.cArrival, T.nArrival_since, ar_since _ _ _ _, s, _, _, _, rfl, rfl, hs, atI_nat (j := 1) rfl,
      _, rfl, x, T.CArrival, dx, _, _, rfl, hx, T.cArrival, T.nArrival_takes, ar_takes _ _ _ _, t, _, _, _, rfl, rfl, ht, atI_nat (j := 1) rfl, _, _, rfl, rfl, wide_mul b4 b3 (by decide) (by decide) (by decide), ?_⟩
    have pp : (0 : Int) < (parts : Int) * (a.lower * (parts : Int)) := Int.mul_pos (by omega) ((mul_pos_iff h0).mpr hl)
    refine ⟨_, _, rfl, pp, ?_, k⟩
    exact Nat.lt_trans (bt_mul b4 b3) (Nat.pow_lt_pow_right (by decide) (by decide))
def byOf (u : Int) (parts : Nat) (a : Lt.Arr) : Bool := decide (0 < a.lower) && decide ((Lt.timeOf parts a).num ≤ u * ((Lt.timeOf parts a).den : Int))
def spBy (K : PySem.W.Frag) (C : Addr) : Sp := fun vs H Q _ => ∃ (x : Addr) (a : Lt.Arr) (parts : Nat) (u : Int), vs = [.ref x, .int u] ∧ ArrA K C H x a parts ∧ 0 < parts ∧ Bt a.since ∧ Bt a.upper ∧ Bt (a.lower * parts) ∧ Bt parts ∧ Small u ∧
  ∀ H', Same H H' → Q (.bl (byOf u parts a)) H'
theorem okBy (T : Tx K mg) {k : Nat} : FnOk P w K mg base CX0 (k + 4) T.Arrival_happens_by.f T.Arrival_happens_by.fd ["self", "u"] (spBy K T.CArrival) := by
  have GH : FnOk P w K mg base CX0 (k + 3) T.Arrival_happens.f T.Arrival_happens.fd ["self"] (spHapp K T.CArrival) := okHapp T
  have GT : FnOk P w K mg base CX0 (k + 3) T.Arrival_time.f T.Arrival_time.fd ["self"] (spTime K T.CArrival) := okTime T
  refine T.Arrival_happens_by.fn.ok sc_Arrival_happens_by (fun vs H Q E h => ?_) (fun cdv A outer s H vs Q E hr h => ?_)
  · obtain ⟨x, a, parts, u, rfl, _⟩ := h
    rfl
  · obtain ⟨x, a, parts, u, rfl, hA, h0, b1, b2, b3, b4, su, k⟩ := h
    have hA' := hA
    obtain ⟨dx, s, t, p, hx, hs, ht, hp⟩ := hA'
    refine ⟨_, pss_cons (ps_if (pt_not (pt_val (pe_meth0 (pv 0) T.cArrival T.Arrival_happens.m GH hr T.Arrival_happens.b .nil pass0))) (pss_one (ps_ret pe_bl)) pss_nil)
      (pss_cons (ps_set (i := 2) sc_Arrival_happens_by.nd rfl (.inl rfl) (pe_meth0 (pv 0) T.cArrival T.Arrival_time.m GT hr T.Arrival_time.b .nil pass0))
      (pss_one (ps_ret (pe_cmpR op_le (pe_ix ix_tup (pv 2) pe_int (fun _ _ => rfl)) (pe_op op_mul (pv 1) (pe_ix ix_tup (pv 2) pe_int (fun _ _ => rfl))) (nomark _))))), ?_⟩
    refine ⟨_, rfl, x, dx, _, rfl, hx, ar_no (by decide +kernel) (by decide +kernel) (by decide +kernel) (by decide +kernel) _ _ _ _, x, a, parts, rfl, hA, h0, _, rfl, ite2 (fun e => ?_) (fun e => ?_)⟩
    · have e : ¬ 0 < a.lower := by simpa using e
      have := k H (Same.refl _)
      unfold byOf at this
      rwa [decide_eq_false e, Bool.false_and] at this
    · have e : 0 < a.lower := by simpa using e
      refine ⟨_, rfl, x, dx, _, rfl, hx, ar_no (by decide +kernel) (by decide +kernel) (by decide +kernel) (by decide +kernel) _ _ _ _, x, a, parts, rfl, hA, h0, e, b1, b2, b3, b4, fun t nt => ?_⟩
      refine ⟨_, rfl, t, _, _, _, rfl, rfl, SqT.of upd_same, atI_nat (j := 0) rfl, _, rfl, _, rfl, t, _, _, _, rfl, rfl, SqT.of upd_same, atI_nat (j := 1) rfl, _, _, rfl, rfl, .inl su, _, _, rfl, rfl, ?_⟩
      have := k _ (same_upd (o := fracV (Lt.timeOf parts a)) nt)
      unfold byOf at this
      rwa [decide_eq_true e, Bool.true_and] at this
end
end Sw
set_option maxHeartbeats 2000000
namespace Sw
open PySem PySem.Spec PyProof.Rows L2 LamX
open Vbreac (Pt Frac Wind)
section
variable {P : Program} {w : World} {K : PySem.W.Frag} {mg : Str → Option Value} {base : Heap}
/-! ### stretches -/
abbrev Sps := List (Addr × Lt.Span)
def lastV : Option Int → V
  | none => .non
  | some d => .int d
def spsV (ss : Sps) : List V := ss.map fun s => V.ref s.1
def SpsA (H : Hp) (ss : Sps) : Prop := ∀ s ∈ ss, H s.1 = some (.tup [.int (s.2.1 : Nat), .int s.2.2.1, lastV s.2.2.2])
def sps (ss : Sps) : List Lt.Span := ss.map (·.2)
theorem SpsA.same {H H' : Hp} {ss : Sps} (s : Same H H') (h : SpsA H ss) : SpsA H' ss := fun x hx => s _ _ (h x hx)
theorem SpsA.keptI {H H' : Hp} {ss : Sps} (s : KeptI H H') (h : SpsA H ss) : SpsA H' ss := fun x hx => s.tup (h x hx)
theorem sps_get {ss : Sps} {i : Nat} {x : V} (h : (spsV ss)[i]? = some x) : ∃ s, ss[i]? = some s ∧ x = .ref s.1 := by
  unfold spsV at h
  rw [List.getElem?_map] at h
  cases e : ss[i]? with
  | none => rw [e] at h; cases h
  | some r => rw [e] at h; exact ⟨r, rfl, (Option.some.inj h).symm⟩
theorem ints_get {ns : List Int} {i : Nat} {x : V} (h : (ns.map V.int)[i]? = some x) : ∃ n, ns[i]? = some n ∧ x = .int n := by
  rw [List.getElem?_map] at h
  cases e : ns[i]? with
  | none => rw [e] at h; cases h
  | some r => rw [e] at h; exact ⟨r, rfl, (Option.some.inj h).symm⟩
theorem max_is (i j : Int) : (if j > i then j else i) = max i j := by
  split <;> omega
theorem min_is (i j : Int) : (if j < i then j else i) = min i j := by
  split <;> omega
/-- A list that grows by a new tuple. -/
theorem SpsA.snoc {H : Hp} {D : Addr} {ys : List V} {o : HO} {ss : Sps} {t : Addr} {s : Lt.Span} (hD : H D = some (.lst ys)) (h : SpsA H ss) (ht : H t = some (.tup [.int (s.1 : Nat), .int s.2.1, lastV s.2.2])) : SpsA (upd H D o) (ss ++ [(t, s)]) := fun x hx => by
  rcases List.mem_append.1 hx with z | z
  · have q := h x z
    rw [upd_ne (ne_of q hD (by intro z; cases z))]
    exact q
  · simp only [List.mem_cons, List.not_mem_nil, or_false] at z
    subst z
    rw [upd_ne (ne_of ht hD (by intro z; cases z))]
    exact ht
theorem stretch_len (t : Int) : ∀ (rest : List Int) (i : Nat) (b : Int), (Lt.stretches t i b rest).length ≤ rest.length + 1
  | [], i, b => by simp [Lt.stretches]
  | e :: r, i, b => by
    have := stretch_len t r (i + 1) e
    simp only [Lt.stretches]
    split <;> simp only [List.length_cons] <;> omega
def spStretch (K : PySem.W.Frag) : Sp := fun vs H Q _ => ∃ (a : Addr) (b : Int) (rest : List Int) (t : Int), vs = [.ref a, .int t] ∧ SqL K H a ((b :: rest).map V.int) ∧ rest.length < 1000 ∧
  ∀ H' q ss, Same H H' → H q = none → H' q = some (.lst (spsV ss)) → SpsA H' ss → sps ss = Lt.stretches t 0 b rest → Q (.ref q) H'
theorem okStretch (T : Tx K mg) {k : Nat} : FnOk P w K mg base CX0 (k + 1) T.stretches.f T.stretches.fd ["begins", "t"] (spStretch K) := by
  refine T.stretches.fn.ok sc_stretches (fun vs H Q E h => ?_) (fun cdv A outer s H vs Q E hr h => ?_)
  · obtain ⟨a, b, rest, t, rfl, _⟩ := h
    rfl
  · obtain ⟨a, b, rest, t, rfl, hS, hlen, k⟩ := h
    refine ⟨_, pss_cons (ps_set (i := 2) sc_stretches.nd rfl (.inl rfl) (pe_lst pa_nil))
      (pss_cons (ps_for PassesOwn.never rfl (pi_enum (by rfl) T.nb.enumerate_ (pa_cons (pe_slice sl_list (pv 0) (po_some pe_int) po_none) pa_nil))
          (pg_tup rfl (pgs_cons (pg_name (i := 3) sc_stretches.nd rfl (.inl rfl)) (pgs_cons (pg_name (i := 4) sc_stretches.nd rfl (.inl rfl)) pgs_nil)))
        (pss_one (ps_if (pt_cmpR op_gt (pv 4) (pv 1) (nomark _))
          (pss_cons (ps_set (i := 5) sc_stretches.nd rfl (.inl rfl) (pe_callB (call_max2 rfl) (by rfl) T.nb.max_ (by decide +kernel) (pa_cons (pv 1) (pa_cons (pe_ix ix_list (pv 0) (pv 3) (fun _ _ => rfl)) pa_nil))))
            (pss_one (ps_expr (pe_bm PySem.F.plainAttrs_list PySem.F.slot_list_append PySem.F.type_list_append mt_append (pv 2) (pa_cons (pe_tup (pa_cons (pv 3) (pa_cons (pv 5) (pa_cons (pe_op op_sub (pv 4) (pv 5)) pa_nil)))) pa_nil)))))
          pss_nil)))
      (pss_cons (ps_expr (pe_bm PySem.F.plainAttrs_list PySem.F.slot_list_append PySem.F.type_list_append mt_append (pv 2) (pa_cons (pe_tup (pa_cons (pe_op op_sub (pe_callB call_len_seq (by rfl) T.nb.len_ PySem.boot_len (pa_cons (pv 0) pa_nil)) pe_int)
          (pa_cons (pe_callB (call_max2 rfl) (by rfl) T.nb.max_ (by decide +kernel) (pa_cons (pv 1) (pa_cons (pe_ix ix_list (pv 0) (pe_un un_neg pe_int) (fun _ _ => rfl)) pa_nil))) (pa_cons pe_non pa_nil)))) pa_nil)))
      (pss_one (ps_ret (pv 2))))), ?_⟩
    refine ⟨Nat.zero_le _, fun o no => ?_⟩
    have s1 : Same H (upd H o (.lst [])) := same_upd no
    refine ⟨_, rfl, _, rfl, a, _, rfl, s1.seq hS, fun c nc => ?_⟩
    rw [cut_from1]
    have s2 := s1.trans (same_upd (o := .lst (((b :: rest).map V.int).drop 1)) nc)
    have hc0 : (upd (upd H o (.lst [])) c (.lst (((b :: rest).map V.int).drop 1))) c = some (.lst (rest.map V.int)) := upd_same
    have ho0 : (upd (upd H o (.lst [])) c (.lst (((b :: rest).map V.int).drop 1))) o = some (.lst []) := by rw [upd_ne (ne_of_none upd_same nc)]; exact upd_same
    refine ⟨c, rest.map V.int, rfl, SqL.of hc0, for_it (walk_enum (K := K) (a := c) (xs := rest.map V.int)) (fun i σ H' => ∃ (v3 v4 v5 : Option V) (ss : Sps), σ = [some (.ref a), some (.int t), some (.ref o), v3, v4, v5] ∧ Same H H' ∧ H' c = some (.lst (rest.map V.int)) ∧ H' o = some (.lst (spsV ss)) ∧ o ≠ c ∧ SpsA H' ss ∧ ss.length ≤ i ∧ sps ss ++ Lt.stretches t i ((b :: rest).getD i 0) (rest.drop i) = Lt.stretches t 0 b rest)
      ⟨none, none, none, [], rfl, s2, hc0, ho0, ne_of_none upd_same nc, (fun s hs => nomatch hs), Nat.le_refl _, rfl⟩ (fun i σ H' _ ⟨_, _, _, _, _, _, z, _⟩ => SqL.of z) ?_ ?_⟩
    · rintro i x σ H1 H2 hi ⟨v3, v4, v5, ss, rfl, sm, hc, ho, noc, hss, lss, ess⟩ ⟨TT, x1, y1, rfl, nT, rfl, hx1, hy1⟩
      cases hx1
      obtain ⟨e, he, rfl⟩ := ints_get hy1
      have sT := same_upd (o := .tup [.int (i : Nat), .int e]) nT
      have hcT := sT _ _ hc
      have hoT := sT _ _ ho
      have hi' : i < rest.length := by simpa using hi
      have hget : (b :: rest)[i]? = some ((b :: rest).getD i 0) := by
        rw [List.getD_eq_getElem?_getD, List.getElem?_eq_getElem (by simp; omega)]
        rfl
      have hd : rest.drop i = e :: rest.drop (i + 1) := by
        rw [← List.getElem_cons_drop (h := hi')]
        rw [List.getElem?_eq_getElem hi'] at he
        rw [Option.some.inj he]
      have nxt : (b :: rest).getD (i + 1) 0 = e := by
        rw [List.getD_cons_succ, List.getD_eq_getElem?_getD, he]
        rfl
      refine ⟨TT, _, rfl, SqT.of upd_same, rfl, _, _, rfl, _, _, rfl, rfl, _, rfl, _, rfl, _, _, rfl, rfl, _, rfl, ite2 (fun q => ?_) (fun q => ?_)⟩
      · have q : t < e := of_decide_eq_true q
        refine ⟨_, rfl, _, rfl, _, rfl, a, _, _, _, rfl, rfl, (sm.trans sT).seq hS, atI_nat (j := i) (by rw [List.getElem?_map, hget]; rfl), _, _, rfl, ?_⟩
        rw [max_is]
        refine ⟨_, rfl, .inl ⟨rfl, _, SqL.of hoT⟩, _, rfl, _, rfl, _, rfl, _, rfl, _, _, rfl, rfl, (by show 3 ≤ sizeLine; decide), fun u nu => ?_⟩
        have sU := same_upd (o := .tup [.int (i : Nat), .int (max t ((b :: rest).getD i 0)), .int (e - max t ((b :: rest).getD i 0))]) nu
        have hoU := sU _ _ hoT
        refine ⟨o, _, _, rfl, rfl, hoU, ?_, ?_⟩
        · rw [spsV, List.length_map, sizeLine_eq]
          omega
        refine ⟨_, _, _, ss ++ [(u, (i, max t ((b :: rest).getD i 0), some (e - max t ((b :: rest).getD i 0))))], rfl, ?_, ?_, ?_, noc, ?_, ?_, ?_⟩
        · exact same_grow no (sm.trans (sT.trans sU))
        · rw [upd_ne (Ne.symm noc)]
          exact sU _ _ hcT
        · rw [upd_same, spsV, spsV, List.map_append]
          rfl
        · exact SpsA.snoc hoU ((hss.same sT).same sU) upd_same
        · rw [List.length_append]
          simp only [List.length_cons, List.length_nil]
          omega
        · rw [← ess, hd, Lt.stretches, if_pos q, nxt, sps, sps, List.map_append, List.append_assoc]
          rfl
      · have q : ¬ t < e := fun z => q (decide_eq_true z)
        refine ⟨_, _, _, ss, rfl, sm.trans sT, hcT, hoT, noc, hss.same sT, by omega, ?_⟩
        rw [← ess, hd, Lt.stretches, if_neg q, nxt]
    · rintro σ H1 ⟨v3, v4, v5, ss, rfl, sm, hc, ho, noc, hss, lss, ess⟩
      rw [List.length_map] at lss ess
      rw [List.drop_length, Lt.stretches] at ess
      have eLast : atI ((b :: rest).map V.int) (-1) = some (.int ((b :: rest).getD rest.length 0)) := by
        have : (b :: rest).map V.int = ((b :: rest).dropLast.map V.int) ++ [.int ((b :: rest).getD rest.length 0)] := by
          have hne : (b :: rest) ≠ [] := by simp
          have e1 : (b :: rest).getD rest.length 0 = (b :: rest).getLast hne := by
            rw [List.getD_eq_getElem?_getD, List.getLast_eq_getElem, List.getElem?_eq_getElem (by simp)]
            rfl
          rw [e1]
          conv => lhs; rw [← List.dropLast_concat_getLast hne]
          rw [List.map_append]
          rfl
        rw [this]
        exact atI_last _ _
      refine ⟨_, rfl, .inl ⟨rfl, _, SqL.of ho⟩, _, rfl, a, _, rfl, .inl (sm.seq hS), _, _, rfl, rfl, _, rfl, _, rfl, _, rfl, a, _, _, _, rfl, rfl, sm.seq hS, eLast, _, _, rfl, ?_⟩
      rw [max_is]
      have eN : (((b :: rest).map V.int).length : Int) - 1 = ((rest.length : Nat) : Int) := by simp
      refine ⟨(by show 3 ≤ sizeLine; decide), fun u nu => ?_⟩
      have sU := same_upd (o := .tup [.int ((((b :: rest).map V.int).length : Int) - 1), .int (max t ((b :: rest).getD rest.length 0)), .non]) nu
      have hoU := sU _ _ ho
      refine ⟨o, _, _, rfl, rfl, hoU, ?_, ?_⟩
      · rw [spsV, List.length_map, sizeLine_eq]
        omega
      refine ⟨_, rfl, k _ o (ss ++ [(u, (rest.length, max t ((b :: rest).getD rest.length 0), none))]) (same_grow no (sm.trans sU)) no ?_ (SpsA.snoc hoU (hss.same sU) (upd_same.trans (by show some (HO.tup [.int ((((b :: rest).map V.int).length : Int) - 1), _, _]) = _; rw [eN]; rfl))) ?_⟩
      · rw [upd_same, spsV, spsV, List.map_append]
        rfl
      · rw [← ess, sps, sps, List.map_append]
        rfl
end
end Sw
set_option maxHeartbeats 2000000
namespace Sw
open PySem PySem.Spec PyProof.Rows L2 LamX
open Vbreac (Pt Frac Wind)
section
variable {P : Program} {w : World} {K : PySem.W.Frag} {mg : Str → Option Value} {base : Heap}
/-! ### longest_take, ends_here -/
def placeV : Option Nat → V
  | none => .non
  | some k => .int (k : Nat)
def spTake (K : PySem.W.Frag) : Sp := fun vs H Q _ => ∃ (a b : Addr) (lacking row : List Int), vs = [.ref a, .ref b] ∧ SqL K H a (lacking.map V.int) ∧ SqL K H b (row.map V.int) ∧ lacking.length = row.length ∧ lacking.length < 1000000 ∧ (∀ z ∈ row, Small z) ∧
  ∀ H' t, Same H H' → H t = none → H' t = some (.tup [.int (Lt.takeN lacking row lacking.length).1, .int (Lt.takeN lacking row lacking.length).2.1, placeV (Lt.takeN lacking row lacking.length).2.2]) → Q (.ref t) H'
theorem take_small {lacking row : List Int} (h : ∀ z ∈ row, Small z) : ∀ k, Small (Lt.takeN lacking row k).2.1
  | 0 => by
    show Small 1
    simp only [Small]
    omega
  | k + 1 => by
    have ih := take_small (lacking := lacking) h k
    show Small (Lt.takeStep lacking row k (Lt.takeN lacking row k)).2.1
    unfold Lt.takeStep
    split
    · show Small (row.getD k 0)
      rw [List.getD_eq_getElem?_getD]
      cases e : row[k]? with
      | none => simp only [Option.getD_none, Small]; omega
      | some z => exact h z (List.mem_of_getElem? e)
    · exact ih
theorem okTake (T : Tx K mg) {k : Nat} : FnOk P w K mg base CX0 (k + 1) T.longest_take.f T.longest_take.fd ["lacking", "row"] (spTake K) := by
  refine T.longest_take.fn.ok sc_longest_take (fun vs H Q E h => ?_) (fun cdv A outer s H vs Q E hr h => ?_)
  · obtain ⟨a, b, lacking, row, rfl, _⟩ := h
    rfl
  · obtain ⟨a, b, lacking, row, rfl, hA, hB, hl, hlen, hsm, k⟩ := h
    refine ⟨_, pss_cons (ps_set (i := 2) sc_longest_take.nd rfl (.inl rfl) pe_int)
      (pss_cons (ps_set (i := 3) sc_longest_take.nd rfl (.inl rfl) pe_int)
      (pss_cons (ps_set (i := 4) sc_longest_take.nd rfl (.inl rfl) pe_non)
      (pss_cons (ps_for PassesOwn.never rfl (pi_enum (by rfl) T.nb.enumerate_ (pa_cons (pv 0) pa_nil))
          (pg_tup rfl (pgs_cons (pg_name (i := 5) sc_longest_take.nd rfl (.inl rfl)) (pgs_cons (pg_name (i := 6) sc_longest_take.nd rfl (.inl rfl)) pgs_nil)))
        (pss_one (ps_if (PW.pt (pw_and (pt_cmpR op_gt (pv 6) pe_int (nomark _)) (pw_and1 (pt_cmpR op_gt (pe_op op_mul (pv 6) (pv 3)) (pe_op op_mul (pv 2) (pe_ix ix_list (pv 1) (pv 5) (fun _ _ => rfl))) (nomark _)))))
          (pss_cons (ps_set (i := 2) sc_longest_take.nd rfl (.inl rfl) (pv 6))
          (pss_cons (ps_set (i := 3) sc_longest_take.nd rfl (.inl rfl) (pe_ix ix_list (pv 1) (pv 5) (fun _ _ => rfl)))
          (pss_one (ps_set (i := 4) sc_longest_take.nd rfl (.inl rfl) (pv 5)))))
          pss_nil)))
      (pss_one (ps_ret (pe_tup (pa_cons (pv 2) (pa_cons (pv 3) (pa_cons (pv 4) pa_nil))))))))), ?_⟩
    refine ⟨_, rfl, a, _, rfl, hA, for_it (walk_enum (K := K) (a := a) (xs := lacking.map V.int)) (fun i σ H' => ∃ (v5 v6 : Option V), σ = [some (.ref a), some (.ref b), some (.int (Lt.takeN lacking row i).1), some (.int (Lt.takeN lacking row i).2.1), some (placeV (Lt.takeN lacking row i).2.2), v5, v6] ∧ Same H H')
      ⟨none, none, rfl, Same.refl _⟩ (fun i σ H' _ ⟨_, _, _, z⟩ => z.seq hA) ?_ ?_⟩
    · rintro i x σ H1 H2 hi ⟨v5, v6, rfl, sm⟩ ⟨TT, x1, y1, rfl, nT, rfl, hx1, hy1⟩
      cases hx1
      obtain ⟨e, he, rfl⟩ := ints_get hy1
      have sT := same_upd (o := .tup [.int (i : Nat), .int e]) nT
      have s2 := sm.trans sT
      have hi' : i < lacking.length := by simpa using hi
      have ge : lacking.getD i 0 = e := by rw [List.getD_eq_getElem?_getD, he]; rfl
      have hrw : row[i]? = some (row.getD i 0) := by
        rw [List.getD_eq_getElem?_getD, List.getElem?_eq_getElem (by omega)]
        rfl
      have sr : Small (row.getD i 0) := hsm _ (List.mem_of_getElem? hrw)
      have hat : atI (row.map V.int) (i : Nat) = some (.int (row.getD i 0)) := atI_nat (j := i) (by rw [List.getElem?_map, hrw]; rfl)
      have no : ¬ (0 < lacking.getD i 0 ∧ (Lt.takeN lacking row i).1 * row.getD i 0 < lacking.getD i 0 * (Lt.takeN lacking row i).2.1) → Lt.takeN lacking row (i + 1) = Lt.takeN lacking row i := fun z => by
        show Lt.takeStep _ _ _ _ = _
        rw [Lt.takeStep, if_neg z]
      refine ⟨TT, _, rfl, SqT.of upd_same, rfl, _, _, rfl, _, _, rfl, rfl, _, rfl, _, _, rfl, rfl, _, rfl, ite2 (fun q => ?_) (fun q => iteF ?_)⟩
      · have q : 0 < e := of_decide_eq_true q
        refine ⟨_, rfl, _, rfl, _, _, rfl, rfl, .inr (take_small hsm i), _, rfl, _, rfl, _, rfl, b, _, _, _, rfl, rfl, s2.seq hB, hat, _, _, rfl, rfl, .inr sr, _, _, rfl, rfl, _, rfl, ite2 (fun q2 => ?_) (fun q2 => ?_)⟩
        · have q2 : (Lt.takeN lacking row i).1 * row.getD i 0 < e * (Lt.takeN lacking row i).2.1 := of_decide_eq_true q2
          have yes : Lt.takeN lacking row (i + 1) = (e, row.getD i 0, some i) := by
            show Lt.takeStep _ _ _ _ = _
            rw [Lt.takeStep, ge, if_pos ⟨q, q2⟩]
          refine ⟨_, rfl, _, rfl, _, rfl, b, _, _, _, rfl, rfl, s2.seq hB, hat, _, rfl, ?_⟩
          refine ⟨some (.int (i : Nat)), some (.int e), ?_, s2⟩
          rw [yes]
          rfl
        · have q2 : ¬ (Lt.takeN lacking row i).1 * row.getD i 0 < e * (Lt.takeN lacking row i).2.1 := fun z => q2 (decide_eq_true z)
          refine ⟨some (.int (i : Nat)), some (.int e), ?_, s2⟩
          rw [no (by rw [ge]; exact fun z => q2 z.2)]
          rfl
      · have q : ¬ 0 < e := fun z => q (decide_eq_true z)
        refine ⟨some (.int (i : Nat)), some (.int e), ?_, s2⟩
        rw [no (by rw [ge]; exact fun z => q z.1)]
        rfl
    · rintro σ H1 ⟨v5, v6, rfl, sm⟩
      rw [List.length_map]
      refine ⟨_, rfl, _, rfl, _, rfl, (by show 3 ≤ sizeLine; decide), fun u nu => ?_⟩
      exact k _ u (sm.trans (same_upd nu)) (sm.free nu) upd_same
def spEnds : Sp := fun vs H Q _ => ∃ (u l : Int) (d : Option Int), vs = [.int u, .int l, lastV d] ∧ Small l ∧ Q (.bl (Lt.endsHere u l d)) H
theorem okEnds (T : Tx K mg) {k : Nat} : FnOk P w K mg base CX0 (k + 1) T.ends_here.f T.ends_here.fd ["upper", "lower", "lasting"] spEnds := by
  refine T.ends_here.fn.ok sc_ends_here (fun vs H Q E h => ?_) (fun cdv A outer s H vs Q E hr h => ?_)
  · obtain ⟨u, l, d, rfl, _⟩ := h
    rfl
  · obtain ⟨u, l, d, rfl, sl, k⟩ := h
    refine ⟨_, pss_cons (ps_if (pt_cmpR op_isN (pv 2) pe_non (nomark _)) (pss_one (ps_ret pe_bl)) pss_nil)
      (pss_one (ps_ret (pe_and (pe_cmpR op_gt (pv 1) pe_int (nomark _)) (pe_one (pe_cmpR op_le (pv 0) (pe_op op_mul (pv 2) (pv 1)) (nomark _)))))), ?_⟩
    refine ⟨_, rfl, rfl, _, rfl, ?_⟩
    cases d with
    | none => exact ite2 (fun e => k) (fun e => absurd rfl e)
    | some d =>
      refine ite2 (fun e => ?_) (fun e => ?_)
      · have e : decide (V.int d = V.non) = true := e
        simp at e
      · have k : Q (.bl (decide (0 < l) && decide (u ≤ d * l))) H := k
        refine ⟨_, rfl, _, _, rfl, rfl, _, rfl, ite2 (fun e1 => ?_) (fun e1 => ?_)⟩
        · have e1 : 0 < l := of_decide_eq_true e1
          rw [decide_eq_true e1, Bool.true_and] at k
          exact ⟨_, rfl, _, rfl, _, rfl, _, _, rfl, rfl, .inr sl, _, _, rfl, rfl, k⟩
        · have e1 : ¬ 0 < l := fun z => e1 (decide_eq_true z)
          rw [decide_eq_false e1, Bool.false_and] at k
          exact k
end
end Sw
set_option maxHeartbeats 2000000
namespace Sw
open PySem PySem.Spec PyProof.Rows L2 LamX
open Vbreac (Pt Frac Wind)
/-! ### Forecast: how it lies in the heap -/
structure Fnd where
  ad : Addr
  ds : Row
  as : Addr
  rows : List Addr
structure Fc where
  dx : Addr
  ab : Addr
  ah : Addr
  hs : List (Addr × Row)
  fnd : Option Fnd
  jn : V
def dV : Option Fnd → V
  | none => .non
  | some f => .ref f.ad
def sV : Option Fnd → V
  | none => .non
  | some f => .ref f.as
def fcF (b h d s j : V) : List (Str × V) := [("begins", b), ("hulls", h), ("directions", d), ("supports", s), ("joined", j)]
theorem fc_begins (b h d s j : V) : (fcF b h d s j).lookup ("begins" : Str) = some b := lk_here
theorem fc_hulls (b h d s j : V) : (fcF b h d s j).lookup ("hulls" : Str) = some h := (lk_past (by decide +kernel)).trans lk_here
theorem fc_directions (b h d s j : V) : (fcF b h d s j).lookup ("directions" : Str) = some d := (lk_past (by decide +kernel)).trans ((lk_past (by decide +kernel)).trans lk_here)
theorem fc_supports (b h d s j : V) : (fcF b h d s j).lookup ("supports" : Str) = some s := (lk_past (by decide +kernel)).trans ((lk_past (by decide +kernel)).trans ((lk_past (by decide +kernel)).trans lk_here))
theorem fc_joined (b h d s j : V) : (fcF b h d s j).lookup ("joined" : Str) = some j := (lk_past (by decide +kernel)).trans ((lk_past (by decide +kernel)).trans ((lk_past (by decide +kernel)).trans ((lk_past (by decide +kernel)).trans lk_here)))
theorem fc_no {m : Str} (h1 : (m == ("begins" : Str)) = false) (h2 : (m == ("hulls" : Str)) = false) (h3 : (m == ("directions" : Str)) = false) (h4 : (m == ("supports" : Str)) = false) (h5 : (m == ("joined" : Str)) = false) (b h d s j : V) : (fcF b h d s j).lookup m = none :=
  (lk_past h1).trans ((lk_past h2).trans ((lk_past h3).trans ((lk_past h4).trans ((lk_past h5).trans rfl))))
def fcF1 (b : V) : List (Str × V) := [("begins", b)]
def fcF2 (b h : V) : List (Str × V) := [("begins", b), ("hulls", h)]
def fcF3 (b h d : V) : List (Str × V) := [("begins", b), ("hulls", h), ("directions", d)]
def fcF4 (b h d s : V) : List (Str × V) := [("begins", b), ("hulls", h), ("directions", d), ("supports", s)]
theorem fc_n1 (b : V) : putF "begins" b [] = fcF1 b := rfl
theorem fc_n2 (b h : V) : putF "hulls" h (fcF1 b) = fcF2 b h := (put_past (by decide +kernel)).trans rfl
theorem fc_n3 (b h d : V) : putF "directions" d (fcF2 b h) = fcF3 b h d := (put_past (by decide +kernel)).trans (congrArg _ ((put_past (by decide +kernel)).trans rfl))
theorem fc_n4 (b h d s : V) : putF "supports" s (fcF3 b h d) = fcF4 b h d s := (put_past (by decide +kernel)).trans (congrArg _ ((put_past (by decide +kernel)).trans (congrArg _ ((put_past (by decide +kernel)).trans rfl))))
theorem fc_n5 (b h d s j : V) : putF "joined" j (fcF4 b h d s) = fcF b h d s j := (put_past (by decide +kernel)).trans (congrArg _ ((put_past (by decide +kernel)).trans (congrArg _ ((put_past (by decide +kernel)).trans (congrArg _ ((put_past (by decide +kernel)).trans rfl))))))
theorem fc_p1 (b h d s j x : V) : putF "begins" x (fcF b h d s j) = fcF x h d s j := put_here
theorem fc_p2 (b h d s j x : V) : putF "hulls" x (fcF b h d s j) = fcF b x d s j := (put_past (by decide +kernel)).trans (congrArg _ put_here)
theorem fc_p3 (b h d s j x : V) : putF "directions" x (fcF b h d s j) = fcF b h x s j := (put_past (by decide +kernel)).trans (congrArg _ ((put_past (by decide +kernel)).trans (congrArg _ put_here)))
theorem fc_p4 (b h d s j x : V) : putF "supports" x (fcF b h d s j) = fcF b h d x j := (put_past (by decide +kernel)).trans (congrArg _ ((put_past (by decide +kernel)).trans (congrArg _ ((put_past (by decide +kernel)).trans (congrArg _ put_here)))))
theorem fc_p5 (b h d s j x : V) : putF "joined" x (fcF b h d s j) = fcF b h d s x := (put_past (by decide +kernel)).trans (congrArg _ ((put_past (by decide +kernel)).trans (congrArg _ ((put_past (by decide +kernel)).trans (congrArg _ ((put_past (by decide +kernel)).trans (congrArg _ put_here)))))))
/-- What was worked out of the slices. -/
structure FndA (K : PySem.W.Frag) (H : Hp) (hulls : List (List Pt)) (f : Fnd) : Prop where
  ld : H f.ad = some (.lst (refsV f.ds))
  rd : RowB K H f.ds
  pd : pts f.ds = Vbreac.directions hulls
  few : f.ds.length < 400000
  ls : H f.as = some (.lst (f.rows.map V.ref))
  len : f.rows.length = hulls.length
  row : ∀ (i : Nat) (r : Addr), f.rows[i]? = some r → H r = some (.lst ((Lt.rowOf (Vbreac.directions hulls) hulls i).map V.int))
theorem FndA.keep {K : PySem.W.Frag} {H H' : Hp} {hulls : List (List Pt)} {f : Fnd} (s : KeptI H H') (x : FndA K H hulls f) : FndA K H' hulls f :=
  ⟨s.lst x.ld, s.rowB x.rd, x.pd, x.few, s.lst x.ls, x.len, fun i r h => s.lst (x.row i r h)⟩
/-- The slices of a wind as the program keeps them. -/
structure FcA (K : PySem.W.Frag) (C : Addr) (H : Hp) (a : Addr) (v : Wind) (F : Fc) : Prop where
  ob : H a = some (.ins C F.dx (fcF (.ref F.ab) (.ref F.ah) (dV F.fnd) (sV F.fnd) F.jn))
  bg : H F.ab = some (.lst ((v.map (·.from_)).map V.int))
  hl : H F.ah = some (.lst (hullsV F.hs))
  hu : ∀ h ∈ F.hs, HullA K H h
  hh : ∀ h ∈ F.hs, H h.1 = some (.lst (refsV h.2))
  hp : F.hs.map (fun h => pts h.2) = Vbreac.sails v
  ne : F.ab ≠ F.ah
  apart : ∀ h ∈ F.hs, h.1 ≠ F.ab ∧ h.1 ≠ F.ah
  fn : ∀ f, F.fnd = some f → FndA K H (Vbreac.sails v) f
theorem FcA.keep {K : PySem.W.Frag} {C : Addr} {H H' : Hp} {a : Addr} {v : Wind} {F : Fc} (s : KeptI H H') (e : H' a = H a) (x : FcA K C H a v F) : FcA K C H' a v F :=
  ⟨by rw [e]; exact x.ob, s.lst x.bg, s.lst x.hl, fun h hh => s.hull (x.hu h hh), fun h hh => s.lst (x.hh h hh), x.hp, x.ne, x.apart, fun f hf => (x.fn f hf).keep s⟩
theorem FcA.same {K : PySem.W.Frag} {C : Addr} {H H' : Hp} {a : Addr} {v : Wind} {F : Fc} (s : Same H H') (x : FcA K C H a v F) : FcA K C H' a v F := x.keep (.of s) (by rw [x.ob]; exact s _ _ x.ob)
theorem FcA.keepN {K : PySem.W.Frag} {C : Addr} {H H' : Hp} {a : Addr} {v : Wind} {F : Fc} (s : ExtN H H') (x : FcA K C H a v F) : FcA K C H' a v F := x.keep (.ofN s) (by rw [x.ob]; exact s _ _ x.ob (fun _ z => by cases z))
theorem FcA.kept1 {K : PySem.W.Frag} {C C' b dx : Addr} {fs : List (Str × V)} {H H' : Hp} {a : Addr} {v : Wind} {F : Fc} (s : Kept1 b H H') (hb : H b = some (.ins C' dx fs)) (ne : a ≠ b) (x : FcA K C H a v F) : FcA K C H' a v F := x.keep (.of1 s hb) (by rw [x.ob]; exact s _ _ x.ob ne)
theorem FcA.len {K : PySem.W.Frag} {C : Addr} {H : Hp} {a : Addr} {v : Wind} {F : Fc} (x : FcA K C H a v F) : F.hs.length = v.length := by
  have := congrArg List.length x.hp
  simpa [Vbreac.sails] using this
/-- None of the lists that the slices are kept in. -/
structure Off (o : Addr) (F : Fc) : Prop where
  ab : o ≠ F.ab
  ah : o ≠ F.ah
  hs : ∀ h ∈ F.hs, o ≠ h.1
  fnd : ∀ f, F.fnd = some f → o ≠ f.ad ∧ o ≠ f.as ∧ ∀ r ∈ f.rows, o ≠ r
theorem FcA.off {K : PySem.W.Frag} {C : Addr} {H : Hp} {a o : Addr} {v : Wind} {F : Fc} (x : FcA K C H a v F) (n : H o = none) : Off o F :=
  ⟨(ne_of_none x.bg n).symm, (ne_of_none x.hl n).symm, fun h hh => (ne_of_none (x.hh h hh) n).symm, fun f hf => ⟨(ne_of_none (x.fn f hf).ld n).symm, (ne_of_none (x.fn f hf).ls n).symm, fun r hr => by
    obtain ⟨i, hi, e⟩ := List.getElem_of_mem hr
    exact (ne_of_none ((x.fn f hf).row i r (by rw [List.getElem?_eq_getElem hi, e])) n).symm⟩⟩
theorem rowB_updL {K : PySem.W.Frag} {H : Hp} {D : Addr} {ys : List V} {rs : Row} {o : HO} (hD : H D = some (.lst ys)) (h : RowB K H rs) : RowB K (upd H D o) rs := RowB.updL hD h
theorem FcA.updL {K : PySem.W.Frag} {C : Addr} {H : Hp} {a o : Addr} {v : Wind} {F : Fc} {ys : List V} {u : HO} (x : FcA K C H a v F) (f : Off o F) (ho : H o = some (.lst ys)) : FcA K C (upd H o u) a v F := by
  have ne : ∀ {b : Addr} {z : HO}, H b = some z → o ≠ b → upd H o u b = some z := fun {b z} h n => by rw [upd_ne (Ne.symm n)]; exact h
  refine ⟨ne x.ob (ne_of ho x.ob (by intro z; cases z)), ne x.bg f.ab, ne x.hl f.ah, fun h hh => ?_, fun h hh => ne (x.hh h hh) (f.hs h hh), x.hp, x.ne, x.apart, fun g hg => ?_⟩
  · have y := x.hu h hh
    exact ⟨SqL.of (ne (x.hh h hh) (f.hs h hh)), RowA.updL ho y.row, y.pos, y.few, y.side⟩
  · have y := x.fn g hg
    have z := f.fnd g hg
    exact ⟨ne y.ld z.1, RowB.updL ho y.rd, y.pd, y.few, ne y.ls z.2.1, y.len, fun i r hr => ne (y.row i r hr) (z.2.2 r (List.mem_of_getElem? hr))⟩
structure WOk (m : Nat) (v : Wind) : Prop where
  up : (v.map (·.from_)).Pairwise (· < ·)
  rg : ∀ s ∈ v, 0 ≤ s.from_ ∧ s.from_ ≤ 1000000
  vel : ∀ s ∈ v, s.velocities.length ≤ m ∧ ∀ p ∈ s.velocities, Bd.Within 1000 p
  len : v.length ≤ 12
section
variable {P : Program} {w : World} {K : PySem.W.Frag} {mg : Str → Option Value} {base : Heap}
/-! ### Small methods -/
def spFcInit (K : PySem.W.Frag) (C : Addr) : Sp := fun vs H Q _ => ∃ (x dx : Addr), vs = [.ref x] ∧ H x = some (.ins C dx []) ∧
  ∀ H' F, Kept1 x H H' → FcA K C H' x [] F → F.jn = .non → H F.ab = none → H F.ah = none → (∀ o u, H o = some u → Off o F) → Q .non H'
theorem fc_fresh {C x dx ab ah : Addr} {H : Hp} {fs : List (Str × V)} (hx : H x = some (.ins C dx fs)) (nb : H ab = none) (nh : upd H ab (.lst []) ah = none) :
    FcA K C (upd (upd (upd H ab (.lst [])) ah (.lst [])) x (.ins C dx (fcF (.ref ab) (.ref ah) .non .non .non))) x [] ⟨dx, ab, ah, [], none, .non⟩ := by
  have e1 : ab ≠ x := fun z => by rw [z, hx] at nb; cases nb
  have hx1 : upd H ab (.lst []) x = some (.ins C dx fs) := by rw [upd_ne (Ne.symm e1)]; exact hx
  have e2 : ah ≠ x := fun z => by rw [z, hx1] at nh; cases nh
  have e3 : ab ≠ ah := fun z => by rw [← z, upd_same] at nh; cases nh
  refine ⟨upd_same, ?_, ?_, (fun h hh => nomatch hh), (fun h hh => nomatch hh), rfl, e3, (fun h hh => nomatch hh), (fun f hf => nomatch hf)⟩
  · show (upd (upd (upd H ab (.lst [])) ah (.lst [])) x _) ab = _
    rw [upd_ne e1, upd_ne e3, upd_same]
    rfl
  · show (upd (upd (upd H ab (.lst [])) ah (.lst [])) x _) ah = _
    rw [upd_ne e2, upd_same]
    rfl
theorem fc_freshK {C x dx ab ah : Addr} {H : Hp} {o : HO} (nb : H ab = none) (nh : upd H ab (.lst []) ah = none) : Kept1 x H (upd (upd (upd H ab (.lst [])) ah (.lst [])) x o) := fun b u e n => by
  have s := same_upd (o := .lst []) nb
  rw [upd_ne n]
  exact same_upd nh _ _ (s _ _ e)
theorem okFcInit (T : Tx K mg) {k : Nat} : FnOk P w K mg base CX0 (k + 1) T.Forecast_init.f T.Forecast_init.fd ["self"] (spFcInit K T.CForecast) := by
  refine T.Forecast_init.fn.ok sc_Forecast___init__ (fun vs H Q E h => ?_) (fun cdv A outer s H vs Q E hr h => ?_)
  · obtain ⟨x, dx, rfl, _⟩ := h
    rfl
  · obtain ⟨x, dx, rfl, hx, k⟩ := h
    refine ⟨_, pss_cons (ps_fld (pv 0) (pe_lst pa_nil) rfl) (pss_cons (ps_fld (pv 0) (pe_lst pa_nil) rfl) (pss_cons (ps_fld (pv 0) pe_non rfl) (pss_cons (ps_fld (pv 0) pe_non rfl) (pss_one (ps_fld (pv 0) pe_non rfl))))), ?_⟩
    refine ⟨Nat.zero_le _, fun ab nb => ?_⟩
    have e1 : ab ≠ x := fun z => by rw [z, hx] at nb; cases nb
    have hx1 : upd H ab (.lst []) x = some (.ins T.CForecast dx []) := by rw [upd_ne (Ne.symm e1)]; exact hx
    refine ⟨_, rfl, x, T.CForecast, dx, _, rfl, hx1, T.cForecast, T.nForecast_begins, (by decide), ?_⟩
    rw [fc_n1]
    refine ⟨Nat.zero_le _, fun ah nh0 => ?_⟩
    have e2 : ah ≠ x := fun z => by rw [z, upd_same] at nh0; cases nh0
    have nh : upd H ab (.lst []) ah = none := by rw [upd_ne e2] at nh0; exact nh0
    have c1 : upd (upd (upd H ab (.lst [])) x (.ins T.CForecast dx (fcF1 (.ref ab)))) ah (.lst []) = upd (upd (upd H ab (.lst [])) ah (.lst [])) x (.ins T.CForecast dx (fcF1 (.ref ab))) := by
      funext b
      unfold upd
      by_cases z1 : b = ah
      · rw [if_pos z1, if_neg (fun z2 => e2 (z1.symm.trans z2)), if_pos z1]
      · rw [if_neg z1, if_neg z1]
    show sFld K (tVar 0) (tC (.ref ah)) "hulls" _ _ (upd (upd (upd H ab (.lst [])) x (.ins T.CForecast dx (fcF1 (.ref ab)))) ah (.lst []))
    rw [c1]
    refine ⟨_, rfl, x, T.CForecast, dx, _, rfl, upd_same, T.cForecast, T.nForecast_hulls, (by show 1 < 1000; decide), ?_⟩
    rw [upd_upd, fc_n2]
    refine ⟨_, rfl, x, T.CForecast, dx, _, rfl, upd_same, T.cForecast, T.nForecast_directions, (by show 2 < 1000; decide), ?_⟩
    rw [upd_upd, fc_n3]
    refine ⟨_, rfl, x, T.CForecast, dx, _, rfl, upd_same, T.cForecast, T.nForecast_supports, (by show 3 < 1000; decide), ?_⟩
    rw [upd_upd, fc_n4]
    refine ⟨_, rfl, x, T.CForecast, dx, _, rfl, upd_same, T.cForecast, T.nForecast_joined, (by show 4 < 1000; decide), ?_⟩
    rw [upd_upd, fc_n5]
    exact k _ ⟨dx, ab, ah, [], none, .non⟩ (fc_freshK (C := T.CForecast) (dx := dx) nb nh) (fc_fresh hx nb nh) rfl nb ((same_upd nb).free nh) (fun o u ho => ⟨ne_of_none ho nb, ne_of_none ho ((same_upd nb).free nh), (fun h hh => nomatch hh), (fun f hf => nomatch hf)⟩)
def spForget (C : Addr) : Sp := fun vs H Q _ => ∃ (a dx : Addr) (b h d s j : V), vs = [.ref a] ∧ H a = some (.ins C dx (fcF b h d s j)) ∧ Q .non (upd H a (.ins C dx (fcF b h .non .non .non)))
theorem okForget (T : Tx K mg) {k : Nat} : FnOk P w K mg base CX0 (k + 1) T.Forecast_forget_findings.f T.Forecast_forget_findings.fd ["self"] (spForget T.CForecast) := by
  refine T.Forecast_forget_findings.fn.ok sc_Forecast_forget_findings (fun vs H Q E h => ?_) (fun cdv A outer s H vs Q E hr h => ?_)
  · obtain ⟨a, dx, b, hh, d, s, j, rfl, _⟩ := h
    rfl
  · obtain ⟨a, dx, b, hh, d, s, j, rfl, ha, k⟩ := h
    refine ⟨_, pss_cons (ps_fld (pv 0) pe_non rfl) (pss_cons (ps_fld (pv 0) pe_non rfl) (pss_one (ps_fld (pv 0) pe_non rfl))), ?_⟩
    refine ⟨_, rfl, a, T.CForecast, dx, _, rfl, ha, T.cForecast, T.nForecast_directions, (by show 5 < 1000; decide), ?_⟩
    rw [fc_p3]
    refine ⟨_, rfl, a, T.CForecast, dx, _, rfl, upd_same, T.cForecast, T.nForecast_supports, (by show 5 < 1000; decide), ?_⟩
    rw [upd_upd, fc_p4]
    refine ⟨_, rfl, a, T.CForecast, dx, _, rfl, upd_same, T.cForecast, T.nForecast_joined, (by show 5 < 1000; decide), ?_⟩
    rw [upd_upd, fc_p5]
    exact k
def spForgetAll (K : PySem.W.Frag) (C : Addr) : Sp := fun vs H Q _ => ∃ (a : Addr) (v : Wind) (F : Fc), vs = [.ref a] ∧ FcA K C H a v F ∧
  ∀ H' F', Kept1 a H H' → FcA K C H' a [] F' → F'.jn = .non → H F'.ab = none → H F'.ah = none → (∀ o u, H o = some u → Off o F') → Q .non H'
theorem okForgetAll (T : Tx K mg) {k : Nat} : FnOk P w K mg base CX0 (k + 2) T.Forecast_forget_slices.f T.Forecast_forget_slices.fd ["self"] (spForgetAll K T.CForecast) := by
  have GF : FnOk P w K mg base CX0 (k + 1) T.Forecast_forget_findings.f T.Forecast_forget_findings.fd ["self"] (spForget T.CForecast) := okForget T
  refine T.Forecast_forget_slices.fn.ok sc_Forecast_forget_slices (fun vs H Q E h => ?_) (fun cdv A outer s H vs Q E hr h => ?_)
  · obtain ⟨a, v, F, rfl, _⟩ := h
    rfl
  · obtain ⟨x, v, F, rfl, hF, k⟩ := h
    refine ⟨_, pss_cons (ps_fld (pv 0) (pe_lst pa_nil) rfl) (pss_cons (ps_fld (pv 0) (pe_lst pa_nil) rfl) (pss_one (ps_expr (pe_meth0 (pv 0) T.cForecast T.Forecast_forget_findings.m GF hr T.Forecast_forget_findings.b .nil pass0)))), ?_⟩
    have hx := hF.ob
    refine ⟨Nat.zero_le _, fun ab nb => ?_⟩
    have e1 : ab ≠ x := fun z => by rw [z, hx] at nb; cases nb
    have hx1 : upd H ab (.lst []) x = some (.ins T.CForecast F.dx (fcF (.ref F.ab) (.ref F.ah) (dV F.fnd) (sV F.fnd) F.jn)) := by rw [upd_ne (Ne.symm e1)]; exact hx
    refine ⟨_, rfl, x, T.CForecast, F.dx, _, rfl, hx1, T.cForecast, T.nForecast_begins, (by show 5 < 1000; decide), ?_⟩
    rw [fc_p1]
    refine ⟨Nat.zero_le _, fun ah nh0 => ?_⟩
    have e2 : ah ≠ x := fun z => by rw [z, upd_same] at nh0; cases nh0
    have nh : upd H ab (.lst []) ah = none := by rw [upd_ne e2] at nh0; exact nh0
    have c1 : upd (upd (upd H ab (.lst [])) x (.ins T.CForecast F.dx (fcF (.ref ab) (.ref F.ah) (dV F.fnd) (sV F.fnd) F.jn))) ah (.lst []) = upd (upd (upd H ab (.lst [])) ah (.lst [])) x (.ins T.CForecast F.dx (fcF (.ref ab) (.ref F.ah) (dV F.fnd) (sV F.fnd) F.jn)) := by
      funext b
      unfold upd
      by_cases z1 : b = ah
      · rw [if_pos z1, if_neg (fun z2 => e2 (z1.symm.trans z2)), if_pos z1]
      · rw [if_neg z1, if_neg z1]
    show sFld K (tVar 0) (tC (.ref ah)) "hulls" _ _ (upd (upd (upd H ab (.lst [])) x (.ins T.CForecast F.dx (fcF (.ref ab) (.ref F.ah) (dV F.fnd) (sV F.fnd) F.jn))) ah (.lst []))
    rw [c1]
    refine ⟨_, rfl, x, T.CForecast, F.dx, _, rfl, upd_same, T.cForecast, T.nForecast_hulls, (by show 5 < 1000; decide), ?_⟩
    rw [upd_upd, fc_p2]
    refine ⟨_, rfl, x, F.dx, _, rfl, upd_same, fc_no (by decide +kernel) (by decide +kernel) (by decide +kernel) (by decide +kernel) (by decide +kernel) _ _ _ _ _, x, F.dx, _, _, _, _, _, rfl, upd_same, ?_⟩
    rw [upd_upd]
    exact k _ ⟨F.dx, ab, ah, [], none, .non⟩ (fc_freshK (C := T.CForecast) (dx := F.dx) nb nh) (fc_fresh hx nb nh) rfl nb ((same_upd nb).free nh) (fun o u ho => ⟨ne_of_none ho nb, ne_of_none ho ((same_upd nb).free nh), (fun h hh => nomatch hh), (fun f hf => nomatch hf)⟩)
def spHas (K : PySem.W.Frag) (C : Addr) : Sp := fun vs H Q _ => ∃ (a : Addr) (v : Wind) (F : Fc) (i : Int), vs = [.ref a, .int i] ∧ FcA K C H a v F ∧ Q (.bl (Vbreac.within i 0 ((v.length : Int) - 1))) H
theorem okHas (T : Tx K mg) {k : Nat} : FnOk P w K mg base CX0 (k + 1) T.Forecast_has_slice.f T.Forecast_has_slice.fd ["self", "number"] (spHas K T.CForecast) := by
  refine T.Forecast_has_slice.fn.ok sc_Forecast_has_slice (fun vs H Q E h => ?_) (fun cdv A outer s H vs Q E hr h => ?_)
  · obtain ⟨a, v, F, i, rfl, _⟩ := h
    rfl
  · obtain ⟨a, v, F, i, rfl, hF, k⟩ := h
    refine ⟨_, pss_one (ps_ret (pe_chain op_le op_lt pe_int (pv 1) (pe_callB call_len_seq (by rfl) T.nb.len_ PySem.boot_len (pa_cons (pe_fld (pv 0) rfl) pa_nil)))), ?_⟩
    refine ⟨_, rfl, _, _, rfl, rfl, _, rfl, ite2 (fun e => ?_) (fun e => ?_)⟩
    · have e : (0 : Int) ≤ i := of_decide_eq_true e
      refine ⟨_, rfl, a, T.CForecast, F.dx, _, _, rfl, hF.ob, T.cForecast, T.nForecast_begins, fc_begins _ _ _ _ _, F.ab, _, rfl, .inl (SqL.of hF.bg), _, _, rfl, rfl, ?_⟩
      show Q (.bl (decide (i < ((((v.map (·.from_)).map V.int).length : Nat) : Int)))) H
      rw [List.length_map, List.length_map]
      rwa [show Vbreac.within i 0 ((v.length : Int) - 1) = decide (i < (v.length : Int)) by unfold Vbreac.within; exact decide_eq_decide.mpr (by omega)] at k
    · have e : ¬ (0 : Int) ≤ i := fun z => e (decide_eq_true z)
      rwa [show Vbreac.within i 0 ((v.length : Int) - 1) = false by unfold Vbreac.within; exact decide_eq_false (by omega)] at k
def spEmpty (K : PySem.W.Frag) (C : Addr) : Sp := fun vs H Q _ => ∃ (a : Addr) (v : Wind) (F : Fc), vs = [.ref a] ∧ FcA K C H a v F ∧ Q (.bl v.isEmpty) H
theorem okEmpty (T : Tx K mg) {k : Nat} : FnOk P w K mg base CX0 (k + 1) T.Forecast_is_empty.f T.Forecast_is_empty.fd ["self"] (spEmpty K T.CForecast) := by
  refine T.Forecast_is_empty.fn.ok sc_Forecast_is_empty (fun vs H Q E h => ?_) (fun cdv A outer s H vs Q E hr h => ?_)
  · obtain ⟨a, v, F, rfl, _⟩ := h
    rfl
  · obtain ⟨a, v, F, rfl, hF, k⟩ := h
    refine ⟨_, pss_one (ps_ret (pe_cmpR op_eq (pe_callB call_len_seq (by rfl) T.nb.len_ PySem.boot_len (pa_cons (pe_fld (pv 0) rfl) pa_nil)) pe_int (nomark _))), ?_⟩
    refine ⟨_, rfl, a, T.CForecast, F.dx, _, _, rfl, hF.ob, T.cForecast, T.nForecast_begins, fc_begins _ _ _ _ _, F.ab, _, rfl, .inl (SqL.of hF.bg), rfl, ?_⟩
    show Q (.bl (decide (V.int ((((v.map (·.from_)).map V.int).length : Nat) : Int) = V.int 0))) H
    rw [List.length_map, List.length_map]
    cases v with
    | nil => exact k
    | cons s r =>
      rwa [show decide (V.int (((s :: r).length : Nat) : Int) = V.int 0) = false by
        refine decide_eq_false fun z => ?_
        have := V.int.inj z
        simp only [List.length_cons] at this
        omega]
end
end Sw
set_option maxHeartbeats 2000000
namespace Sw
open PySem PySem.Spec PyProof.Rows L2 LamX
open Vbreac (Pt Frac Wind)
def spHullN (K : PySem.W.Frag) : Sp := fun vs H Q _ => ∃ (a : Addr) (rs : Row), vs = [.ref a] ∧ SqL K H a (refsV rs) ∧ RowA K H rs ∧ rs.length ≤ 300 ∧
  ∀ H' q ks, Same H H' → H q = none → H' q = some (.lst (refsV ks)) → RowA K H' ks → pts ks = Vbreac.sail (pts rs) → Q (.ref q) H'
/-- What the walks from here on lean on. -/
structure Bs (P : Program) (w : World) (K : PySem.W.Frag) (mg : Str → Option Value) (base : Heap) (T : Tx K mg) (tb : Addr) : Prop where
  hull : ∀ k, FnOk P w K mg base CX0 (k + 4) T.hull_corners.f T.hull_corners.fd ["velocities"] (spHullN K)
  lam : ∃ c, T.outer_corners.fd.code = .ref c ∧ TabB base mg c tb
section
variable {P : Program} {w : World} {K : PySem.W.Frag} {mg : Str → Option Value} {base : Heap}
theorem okAllDirs (T : Tx K mg) {k : Nat} : FnOk P w K mg base CX0 (k + 4) T.all_directions.f T.all_directions.fd ["hulls"] (spAll K) :=
  ok_all T.all_directions.fn T.hull_directions.fn T.hull_directions.b T.hull_directions.g T.nb.list_ T.AXES
    (ok_dirs T.hull_directions.fn T.hull_sides.fn T.hull_sides.b T.hull_sides.g T.lowest_direction.fn T.lowest_direction.b T.lowest_direction.g T.nb.len_
      (ok_sides T.hull_sides.fn T.neighbours.fn T.neighbours.b T.neighbours.g T.difference.fn T.difference.b T.difference.g T.nb.len_ T.nb.list_ T.nb.zip_)
      (ok_lowdir T.lowest_direction.fn T.greatest_divisor.fn T.greatest_divisor.b T.greatest_divisor.g T.nb.abs_))
theorem okSupp (T : Tx K mg) {k : Nat} : FnOk P w K mg base CX0 (k + 2) T.hull_support.f T.hull_support.fd ["corners", "direction"] (spSupp K) :=
  ok_supp T.hull_support.fn T.how_far.fn T.how_far.b T.how_far.g T.nb.max_
theorem okRow (T : Tx K mg) {k : Nat} : FnOk P w K mg base CX0 (k + 3) T.support_row.f T.support_row.fd ["corners", "directions"] (spRow K) :=
  ok_row T.support_row.fn T.hull_support.fn T.hull_support.b T.hull_support.g (okSupp T)
theorem sails_sail {v : Wind} {i : Nat} {h : List Pt} (e : (Vbreac.sails v)[i]? = some h) : IsSail h := by
  unfold Vbreac.sails at e
  rw [List.getElem?_map] at e
  cases q : v[i]? with
  | none => rw [q] at e; cases e
  | some s =>
    rw [q] at e
    exact ⟨Vbreac.zero :: s.velocities, by simp, (Option.some.inj e).symm⟩
theorem pe_fldK {X : Cx} {e : Expr} {f : Str} {pos : Pos} {ta : TE} (h : X.K = K) (he : PE X e ta) (hb : attributeBase e f X.env (eval e X.env) = eval e X.env) : PE X (.Attribute e f pos) (tFld K ta f) := by
  subst h
  exact pe_fld he hb
/-! ### weigh_directions -/
def spWeigh (K : PySem.W.Frag) (C : Addr) : Sp := fun vs H Q _ => ∃ (a : Addr) (v : Wind) (F : Fc), vs = [.ref a] ∧ FcA K C H a v F ∧ v.length ≤ 12 ∧
  ∀ H' f, Kept1 a H H' → FcA K C H' a v { F with fnd := some f } → (∀ o u, H o = some u → Off o F → Off o { F with fnd := some f }) → Q .non H'
theorem okWeigh (T : Tx K mg) {k : Nat} : FnOk P w K mg base CX0 (k + 5) T.Forecast_weigh_directions.f T.Forecast_weigh_directions.fd ["self"] (spWeigh K T.CForecast) := by
  have GA : FnOk P w K mg base CX0 (k + 4) T.all_directions.f T.all_directions.fd ["hulls"] (spAll K) := okAllDirs T
  have GR : FnOk P w K mg base CX0 (k + 4) T.support_row.f T.support_row.fd ["corners", "directions"] (spRow K) := okRow T
  refine T.Forecast_weigh_directions.fn.ok sc_Forecast_weigh_directions (fun vs H Q E h => ?_) (fun cdv A outer s H vs Q E hr h => ?_)
  · obtain ⟨a, v, F, rfl, _⟩ := h
    rfl
  · obtain ⟨a, v, F, rfl, hF, hv, k⟩ := h
    refine ⟨_, pss_one (ps_if (pt_cmpR op_isN (pe_fld (pv 0) rfl) pe_non (nomark _))
      (pss_cons (ps_fld (pv 0) (pe_call GA hr rfl T.all_directions.g T.all_directions.fn.kp T.all_directions.b .nil pass0 (pa_cons (pe_fld (pv 0) rfl) pa_nil)) rfl)
      (pss_one (ps_fld (pv 0) (pe_lc (own := [("corners", 1)]) (g := gName 1) (tt := tYes) rfl sc_Forecast_weigh_directions.nd (pi_list (pe_fld (pv 0) rfl))
        (blkOk_by (N := ["self", "corners"]) (sc := defScope s_Forecast_weigh_directions) (by decide +kernel))
        (fun _ _ _ _ _ => pg_name (i := 1) sc_Forecast_weigh_directions.nd rfl (.inl rfl)) (fun _ _ _ _ _ => pts_nil)
        (fun _ _ _ _ _ => pe_call GR hr rfl T.support_row.g T.support_row.fn.kp T.support_row.b .nil pass0 (pa_cons (pv 1) (pa_cons (pe_fldK (K := K) rfl (pv 0) rfl) pa_nil)))) rfl)))
      pss_nil), ?_⟩
    have nDir := T.nForecast_directions
    refine ⟨_, rfl, a, T.CForecast, F.dx, _, _, rfl, hF.ob, T.cForecast, T.nForecast_directions, fc_directions _ _ _ _ _, rfl, _, rfl, ?_⟩
    cases ef : F.fnd with
    | some f =>
      refine ite2 (fun e => ?_) (fun e => ?_)
      · have e : decide (V.ref f.ad = V.non) = true := e
        simp at e
      · have : ({ F with fnd := some f } : Fc) = F := by rw [← ef]
        refine k H f (Kept1.refl _ _) ?_ ?_
        · rw [this]
          exact hF
        · rw [this]
          exact fun _ _ _ z => z
    | none =>
      refine ite2 (fun e => ?_) (fun e => absurd rfl e)
      have ob : H a = some (.ins T.CForecast F.dx (fcF (.ref F.ab) (.ref F.ah) .non .non F.jn)) := by
        have := hF.ob
        rw [ef] at this
        exact this
      have lhs := hF.len
      refine ⟨_, rfl, a, T.CForecast, F.dx, _, _, rfl, ob, T.cForecast, T.nForecast_hulls, fc_hulls _ _ _ _ _, F.ah, F.hs, rfl, SqL.of hF.hl, hF.hu, by omega, fun H1 ad ds s1 nad had hds lds eds => ?_⟩
      have ob1 := s1 _ _ ob
      refine ⟨_, rfl, a, T.CForecast, F.dx, _, rfl, ob1, T.cForecast, T.nForecast_directions, (by show 5 < 1000; decide), ?_⟩
      rw [fc_p3]
      have k1 : Kept1 a H1 (upd H1 a (.ins T.CForecast F.dx (fcF (.ref F.ab) (.ref F.ah) (.ref ad) .non F.jn))) := Kept1.upd
      have i1 := KeptI.of1 k1 ob1
      have hF1 := (KeptI.of s1).trans i1
      refine ⟨_, rfl, a, T.CForecast, F.dx, _, _, rfl, upd_same, T.cForecast, T.nForecast_hulls, fc_hulls _ _ _ _ _, F.ah, rfl, ⟨_, SqL.of (hF1.lst hF.hl)⟩, fun D nD =>
        lc_list (K := K) (a := F.ah) (xs := hullsV F.hs) (fun i H' => ∃ rows : List Addr, Same (upd H1 a (.ins T.CForecast F.dx (fcF (.ref F.ab) (.ref F.ah) (.ref ad) .non F.jn))) H' ∧ H' D = some (.lst (rows.map V.ref)) ∧ rows.length = i ∧ (∀ r ∈ rows, H r = none) ∧ (∀ (j : Nat) (r : Addr), rows[j]? = some r → r ≠ D ∧ H' r = some (.lst ((Lt.rowOf (Vbreac.directions (Vbreac.sails v)) (Vbreac.sails v) j).map V.int))))
        ⟨[], same_upd nD, upd_same, rfl, (fun r hr => nomatch hr), fun j r h => by simp at h⟩ (fun i H' _ ⟨_, sm, _⟩ => SqL.of (sm _ _ (hF1.lst hF.hl))) ?_ ?_⟩
      · rintro i x H' hi ⟨rows, sm, hD, lr, nrows, hrows⟩
        obtain ⟨h, hh, rfl⟩ := hulls_get hi
        have hmem := List.mem_of_getElem? hh
        have iA := hF1.trans (KeptI.of sm)
        have hA := iA.hull (hF.hu h hmem)
        have ehs : (Vbreac.sails v)[i]? = some (pts h.2) := by
          rw [← hF.hp, List.getElem?_map, hh]
          rfl
        have ob2 := sm _ _ (upd_same (H := H1) (a := a) (o := .ins T.CForecast F.dx (fcF (.ref F.ab) (.ref F.ah) (.ref ad) .non F.jn)))
        have i2 := i1.trans (KeptI.of sm)
        refine ⟨rfl, _, rfl, _, rfl, a, T.CForecast, F.dx, _, _, rfl, ob2, T.cForecast, T.nForecast_directions, fc_directions _ _ _ _ _, h.1, ad, h.2, ds, rfl, hA.list, hA.row, hA.pos, Nat.lt_trans hA.few (by decide), sails_sail ehs, SqL.of (i2.lst had), i2.rowB hds, by omega, fun H2 q s2 nq hq => ?_⟩
        have hD2 := s2 _ _ hD
        have nqD : q ≠ D := fun z => by rw [z, hD] at nq; cases nq
        have il := (List.getElem?_eq_some_iff.mp hh).1
        refine ⟨_, hD2, ?_, rows ++ [q], same_grow nD (sm.trans s2), ?_, ?_, ?_, ?_⟩
        · rw [List.length_map, sizeLine_eq]
          omega
        · rw [upd_same, List.map_append]
          rfl
        · rw [List.length_append]
          simp only [List.length_cons, List.length_nil]
          omega
        · intro r hr
          rcases List.mem_append.1 hr with z | z
          · exact nrows r z
          · simp only [List.mem_cons, List.not_mem_nil, or_false] at z
            subst z
            have n1 := sm.free nq
            by_cases za : r = a
            · rw [za, upd_same] at n1
              cases n1
            · rw [upd_ne za] at n1
              exact s1.free n1
        · intro j r hj
          by_cases c : j < rows.length
          · rw [List.getElem?_append_left c] at hj
            obtain ⟨n1, h1⟩ := hrows j r hj
            exact ⟨n1, by rw [upd_ne n1]; exact s2 _ _ h1⟩
          · rw [List.getElem?_append_right (by omega)] at hj
            have ej : j - rows.length = 0 := by
              have := (List.getElem?_eq_some_iff.mp hj).1
              simpa using this
            rw [ej] at hj
            have er : q = r := Option.some.inj hj
            subst er
            refine ⟨nqD, ?_⟩
            rw [upd_ne nqD, hq, eds]
            have : j = i := by omega
            subst this
            unfold Lt.rowOf
            rw [List.getD_eq_getElem?_getD, ehs, ← hF.hp]
            rfl
      · rintro H2 ⟨rows, sm, hD, lr, nrows, hrows⟩
        have ob2 := sm _ _ (upd_same (H := H1) (a := a) (o := .ins T.CForecast F.dx (fcF (.ref F.ab) (.ref F.ah) (.ref ad) .non F.jn)))
        refine ⟨_, rfl, a, T.CForecast, F.dx, _, rfl, ob2, T.cForecast, T.nForecast_supports, (by show 5 < 1000; decide), ?_⟩
        rw [fc_p4]
        have k2 : Kept1 a H2 (upd H2 a (.ins T.CForecast F.dx (fcF (.ref F.ab) (.ref F.ah) (.ref ad) (.ref D) F.jn))) := Kept1.upd
        have kA : Kept1 a H (upd H2 a (.ins T.CForecast F.dx (fcF (.ref F.ab) (.ref F.ah) (.ref ad) (.ref D) F.jn))) := (Kept1.of s1).trans (k1.trans ((Kept1.of sm).trans k2))
        have iA := KeptI.of1 kA ob
        have i2 := KeptI.of1 k2 ob2
        have i12 := i1.trans ((KeptI.of sm).trans i2)
        rw [hullsV, List.length_map] at lr
        refine k _ ⟨ad, ds, D, rows⟩ kA ⟨upd_same, iA.lst hF.bg, iA.lst hF.hl, fun h hh => iA.hull (hF.hu h hh), fun h hh => iA.lst (hF.hh h hh), hF.hp, hF.ne, hF.apart, fun f hf => ?_⟩ (fun o u ho fo => ⟨fo.ab, fo.ah, fo.hs, fun f hf => ?_⟩)
        · have := Option.some.inj hf
          subst this
          exact ⟨i12.lst had, i12.rowB hds, by rw [eds, hF.hp], lds, i2.lst hD, by rw [lr, ← hF.hp, List.length_map], fun i r h => i2.lst (hrows i r h).2⟩
        · have := Option.some.inj hf
          subst this
          refine ⟨ne_of_none ho nad, ?_, fun r hr => ne_of_none ho (nrows r hr)⟩
          have ho1 := s1 _ _ ho
          by_cases za : o = a
          · intro z
            have z : o = D := z
            rw [← z, za, upd_same] at nD
            cases nD
          · have ho2 := k1 _ _ ho1 za
            exact ne_of_none ho2 nD
end
end Sw
set_option maxHeartbeats 2000000
namespace Sw
open PySem PySem.Spec PyProof.Rows L2 LamX
open Vbreac (Pt Frac Wind)
section
variable {P : Program} {w : World} {K : PySem.W.Frag} {mg : Str → Option Value} {base : Heap}
/-! ### add_slice -/
/-- All but an instance and two lists. -/
def Kept3 (a b c : Addr) (H H' : Hp) : Prop := ∀ x o, H x = some o → x ≠ a → x ≠ b → x ≠ c → H' x = some o
theorem Kept3.sqT {H H' : Hp} {a b c C dx x : Addr} {fs : List (Str × V)} {ys zs xs : List V} (k : Kept3 a b c H H') (ha : H a = some (.ins C dx fs)) (hb : H b = some (.lst ys)) (hc : H c = some (.lst zs)) (h : SqT K H x xs) : SqT K H' x xs := by
  rcases h with (h | ⟨o, h⟩) | h
  · exact .inl (.inl (k _ _ h (ne_of h ha (by intro z; cases z)) (ne_of h hb (by intro z; cases z)) (ne_of h hc (by intro z; cases z))))
  · exact .inl (.inr ⟨o, k _ _ h (ne_of h ha (by intro z; cases z)) (ne_of h hb (by intro z; cases z)) (ne_of h hc (by intro z; cases z))⟩)
  · exact .inr h
theorem sail_pos (l : List Pt) : 0 < (Vbreac.sail l).length := List.length_pos_iff.mpr (Bd.sail_ne l)
def spAdd (K : PySem.W.Frag) (C : Addr) : Sp := fun vs H Q _ => ∃ (a : Addr) (v : Wind) (F : Fc) (z : Int) (b : Addr) (rs : Row), vs = [.ref a, .int z, .ref b] ∧ FcA K C H a v F ∧ H b = some (.lst (refsV rs)) ∧ RowA K H rs ∧ rs.length ≤ 300 ∧ v.length ≤ 12 ∧ b ≠ F.ab ∧ b ≠ F.ah ∧
  ∀ H' F', Kept3 a F.ab F.ah H H' → FcA K C H' a (v ++ [⟨z, pts rs⟩]) F' → F'.ab = F.ab → F'.ah = F.ah → F'.jn = .non → (∀ o u, H o = some u → Off o F → Off o F') → Q .non H'
theorem okAdd (T : Tx K mg) {tb : Addr} (N : Bs P w K mg base T tb) {k : Nat} : FnOk P w K mg base CX0 (k + 5) T.Forecast_add_slice.f T.Forecast_add_slice.fd ["self", "begin", "velocities"] (spAdd K T.CForecast) := by
  have GH := N.hull k
  have GF : FnOk P w K mg base CX0 (k + 4) T.Forecast_forget_findings.f T.Forecast_forget_findings.fd ["self"] (spForget T.CForecast) := okForget T
  refine T.Forecast_add_slice.fn.ok sc_Forecast_add_slice (fun vs H Q E h => ?_) (fun cdv A outer s H vs Q E hr h => ?_)
  · obtain ⟨a, v, F, z, b, rs, rfl, _⟩ := h
    rfl
  · obtain ⟨a, v, F, z, b, rs, rfl, hF, hb, hR, hlen, hv, nb1, nb2, k⟩ := h
    refine ⟨_, pss_cons (ps_expr (pe_bm PySem.F.plainAttrs_list PySem.F.slot_list_append PySem.F.type_list_append mt_append (pe_fld (pv 0) rfl) (pa_cons (pv 1) pa_nil)))
      (pss_cons (ps_expr (pe_bm PySem.F.plainAttrs_list PySem.F.slot_list_append PySem.F.type_list_append mt_append (pe_fld (pv 0) rfl) (pa_cons (pe_call GH hr rfl T.hull_corners.g T.hull_corners.fn.kp T.hull_corners.b .nil pass0 (pa_cons (pv 2) pa_nil)) pa_nil)))
      (pss_one (ps_expr (pe_meth0 (pv 0) T.cForecast T.Forecast_forget_findings.m GF hr T.Forecast_forget_findings.b .nil pass0)))), ?_⟩
    have ob := hF.ob
    have lhs := hF.len
    have ea1 : a ≠ F.ab := ne_of ob hF.bg (by intro z; cases z)
    have ea2 : a ≠ F.ah := ne_of ob hF.hl (by intro z; cases z)
    refine ⟨_, rfl, a, T.CForecast, F.dx, _, _, rfl, ob, T.cForecast, T.nForecast_begins, fc_begins _ _ _ _ _, .inl ⟨rfl, _, SqL.of hF.bg⟩, _, rfl, F.ab, _, _, rfl, rfl, hF.bg, ?_, ?_⟩
    · rw [List.length_map, List.length_map, sizeLine_eq]
      omega
    have k1 : ∀ x o, H x = some o → x ≠ F.ab → (upd H F.ab (.lst ((v.map (·.from_)).map V.int ++ [.int z]))) x = some o := fun x o e n => by rw [upd_ne n]; exact e
    have ob1 := k1 _ _ ob ea1
    have hl1 := k1 _ _ hF.hl (Ne.symm hF.ne)
    refine ⟨_, rfl, a, T.CForecast, F.dx, _, _, rfl, ob1, T.cForecast, T.nForecast_hulls, fc_hulls _ _ _ _ _, .inl ⟨rfl, _, SqL.of hl1⟩, _, rfl, b, rs, rfl, SqL.of (k1 _ _ hb nb1), RowA.updL hF.bg hR, hlen, fun H2 q ks s2 nq hq hk ek => ?_⟩
    have hl2 := s2 _ _ hl1
    have ob2 := s2 _ _ ob1
    have hb2 := s2 _ _ (upd_same (H := H) (a := F.ab) (o := .lst ((v.map (·.from_)).map V.int ++ [.int z])))
    refine ⟨F.ah, _, _, rfl, rfl, hl2, ?_, ?_⟩
    · rw [hullsV, List.length_map, sizeLine_eq]
      omega
    have ob3 : upd H2 F.ah (.lst (hullsV F.hs ++ [.ref q])) a = some (.ins T.CForecast F.dx (fcF (.ref F.ab) (.ref F.ah) (dV F.fnd) (sV F.fnd) F.jn)) := by
      rw [upd_ne ea2]
      exact ob2
    refine ⟨_, rfl, a, F.dx, _, rfl, ob3, fc_no (by decide +kernel) (by decide +kernel) (by decide +kernel) (by decide +kernel) (by decide +kernel) _ _ _ _ _, a, F.dx, _, _, _, _, _, rfl, ob3, ?_⟩
    have nqb : q ≠ F.ab := fun e => by rw [e, upd_same] at nq; cases nq
    have nqh : q ≠ F.ah := fun e => by rw [e, hl1] at nq; cases nq
    have nqa : q ≠ a := fun e => by rw [e, ob1] at nq; cases nq
    have fr : Kept3 a F.ab F.ah H (upd (upd H2 F.ah (.lst (hullsV F.hs ++ [.ref q]))) a (.ins T.CForecast F.dx (fcF (.ref F.ab) (.ref F.ah) .non .non .non))) := fun x o e n1 n2 n3 => by
      rw [upd_ne n1, upd_ne n3]
      exact s2 _ _ (k1 _ _ e n2)
    have row2 : ∀ {r : Row}, RowA K H2 r → RowA K (upd (upd H2 F.ah (.lst (hullsV F.hs ++ [.ref q]))) a (.ins T.CForecast F.dx (fcF (.ref F.ab) (.ref F.ah) .non .non .non))) r := fun {r} h x hx => by
      have h3 := (RowA.updL (o := .lst (hullsV F.hs ++ [.ref q])) hl2 h) x hx
      exact ⟨(KeptI.of1 Kept1.upd ob3).pt h3.1, h3.2⟩
    have lks : ks.length ≤ 301 := by
      have e1 := congrArg List.length ek
      have e2 := Bd.sail_len (pts rs)
      rw [pts_len] at e1 e2
      omega
    have hq4 : (upd (upd H2 F.ah (.lst (hullsV F.hs ++ [.ref q]))) a (.ins T.CForecast F.dx (fcF (.ref F.ab) (.ref F.ah) .non .non .non))) q = some (.lst (refsV ks)) := by
      rw [upd_ne nqa, upd_ne nqh]
      exact hq
    have old : ∀ h ∈ F.hs, (upd (upd H2 F.ah (.lst (hullsV F.hs ++ [.ref q]))) a (.ins T.CForecast F.dx (fcF (.ref F.ab) (.ref F.ah) .non .non .non))) h.1 = some (.lst (refsV h.2)) := fun h hh =>
      fr _ _ (hF.hh h hh) (ne_of (hF.hh h hh) ob (by intro z; cases z)) (hF.apart h hh).1 (hF.apart h hh).2
    refine k _ ⟨F.dx, F.ab, F.ah, F.hs ++ [(q, ks)], none, .non⟩ fr ⟨upd_same, ?_, ?_, fun h hh => ?_, fun h hh => ?_, ?_, hF.ne, fun h hh => ?_, (fun f hf => nomatch hf)⟩ rfl rfl rfl (fun o u ho fo => ⟨fo.ab, fo.ah, fun h hh => ?_, (fun f hf => nomatch hf)⟩)
    · show (upd (upd H2 F.ah _) a _) F.ab = _
      rw [upd_ne (Ne.symm ea1), upd_ne hF.ne, hb2, List.map_append, List.map_append]
      rfl
    · show (upd (upd H2 F.ah _) a _) F.ah = _
      rw [upd_ne (Ne.symm ea2), upd_same, hullsV, hullsV, List.map_append]
      rfl
    · rcases List.mem_append.1 hh with z | z
      · have x := hF.hu h z
        exact ⟨SqL.of (old h z), fun r hr => ⟨fr.sqT ob hF.bg hF.hl (x.row r hr).1, (x.row r hr).2⟩, x.pos, x.few, x.side⟩
      · simp only [List.mem_cons, List.not_mem_nil, or_false] at z
        subst z
        refine ⟨SqL.of hq4, row2 hk, ?_, by show ks.length < 1000; omega, ?_⟩
        · have := sail_pos (pts rs)
          rw [← ek, pts_len] at this
          exact this
        · show ∀ s ∈ sidesOf (pts ks), s ≠ Vbreac.zero
          rw [ek]
          exact Bd.sides_ne (by simp)
    · rcases List.mem_append.1 hh with z | z
      · exact old h z
      · simp only [List.mem_cons, List.not_mem_nil, or_false] at z
        subst z
        exact hq4
    · show (F.hs ++ [(q, ks)]).map (fun h => pts h.2) = _
      rw [List.map_append, hF.hp, Vbreac.sails, Vbreac.sails, List.map_append]
      show _ ++ [pts ks] = _ ++ [Vbreac.sail (pts rs)]
      rw [ek]
    · rcases List.mem_append.1 hh with z | z
      · exact hF.apart h z
      · simp only [List.mem_cons, List.not_mem_nil, or_false] at z
        subst z
        exact ⟨nqb, nqh⟩
    · rcases List.mem_append.1 hh with z | z
      · exact fo.hs h z
      · simp only [List.mem_cons, List.not_mem_nil, or_false] at z
        subst z
        exact ne_of_none (k1 _ _ ho fo.ab) nq
/-! ### lone_slice -/
def spLone (K : PySem.W.Frag) (C : Addr) : Sp := fun vs H Q _ => ∃ (b : Addr) (rs : Row), vs = [.ref b] ∧ H b = some (.lst (refsV rs)) ∧ RowA K H rs ∧ rs.length ≤ 300 ∧
  ∀ H' x F, Same H H' → H x = none → FcA K C H' x [⟨0, pts rs⟩] F → F.jn = .non → (∀ o u, H o = some u → Off o F) → Q (.ref x) H'
theorem okLone (T : Tx K mg) {tb : Addr} (N : Bs P w K mg base T tb) {k : Nat} : FnOk P w K mg base CX0 (k + 6) T.lone_slice.f T.lone_slice.fd ["velocities"] (spLone K T.CForecast) := by
  have GI : FnOk P w K mg base CX0 (k + 4) T.Forecast_init.f T.Forecast_init.fd ["self"] (spFcInit K T.CForecast) := okFcInit T
  have GA : FnOk P w K mg base CX0 (k + 5) T.Forecast_add_slice.f T.Forecast_add_slice.fd ["self", "begin", "velocities"] (spAdd K T.CForecast) := okAdd T N
  refine T.lone_slice.fn.ok sc_lone_slice (fun vs H Q E h => ?_) (fun cdv A outer s H vs Q E hr h => ?_)
  · obtain ⟨b, rs, rfl, _⟩ := h
    rfl
  · obtain ⟨b, rs, rfl, hb, hR, hlen, k⟩ := h
    refine ⟨_, pss_cons (ps_set (i := 1) sc_lone_slice.nd rfl (.inl rfl) (pe_make0 T.kForecast GI hr rfl T.gForecast T.Forecast_init.b .nil pass0))
      (pss_cons (ps_expr (pe_meth (pv 1) T.cForecast T.Forecast_add_slice.m GA hr T.Forecast_add_slice.b .nil pass0 (pa_cons pe_int (pa_cons (pv 0) pa_nil))))
      (pss_one (ps_ret (pv 1)))), ?_⟩
    intro x dx nx nd ne
    refine ⟨x, dx, rfl, upd_same, fun H1 F k1 hF hj nb nh fo => ⟨rfl, ?_⟩⟩
    have s1 : Same H H1 := Same.made nx nd k1
    have hb0 : (upd (upd H dx (.own x)) x (.ins T.CForecast dx [])) b = some (.lst (refsV rs)) := by rw [upd_ne (ne_of_none hb nx), upd_ne (ne_of_none hb nd)]; exact hb
    have eb1 : b ≠ F.ab := ne_of_none hb0 nb
    have eb2 : b ≠ F.ah := ne_of_none hb0 nh
    refine ⟨_, rfl, x, F.dx, _, rfl, hF.ob, fc_no (by decide +kernel) (by decide +kernel) (by decide +kernel) (by decide +kernel) (by decide +kernel) _ _ _ _ _, _, rfl, x, [], F, 0, b, rs, rfl, hF, s1 _ _ hb, hR.same s1, hlen, by decide, eb1, eb2, fun H2 F2 k2 hF2 e1 e2 e3 fo2 => ?_⟩
    have nf : ∀ {y : Addr}, (upd (upd H dx (.own x)) x (.ins T.CForecast dx [])) y = none → H y = none := fun {y} e => by
      by_cases z1 : y = x
      · rw [z1]; exact nx
      · rw [upd_ne z1] at e
        by_cases z2 : y = dx
        · rw [z2]; exact nd
        · rw [upd_ne z2] at e
          exact e
    refine ⟨_, rfl, k H2 x F2 (fun y o e => k2 _ _ (s1 _ _ e) (ne_of_none e nx) (ne_of_none e (nf nb)) (ne_of_none e (nf nh))) nx hF2 e3 (fun o u ho => fo2 o u (s1 _ _ ho) (fo o u (by rw [upd_ne (ne_of_none ho nx), upd_ne (ne_of_none ho nd)]; exact ho)))⟩
/-! ### as_one_slice -/
def FcJ (K : PySem.W.Frag) (C : Addr) (H : Hp) (a : Addr) (v : Wind) (F : Fc) (J : Option (Addr × Fc)) : Prop := FcA K C H a v F ∧ match J with
  | none => F.jn = .non
  | some (x, G) => F.jn = .ref x ∧ x ≠ a ∧ FcA K C H x (Vbreac.everything v) G ∧ G.jn = .non
def OffJ (o : Addr) (F : Fc) (J : Option (Addr × Fc)) : Prop := Off o F ∧ ∀ x G, J = some (x, G) → Off o G
theorem FcA.wind {C : Addr} {H : Hp} {a : Addr} {v v' : Wind} {F : Fc} (e1 : v.map (·.from_) = v'.map (·.from_)) (e2 : Vbreac.sails v = Vbreac.sails v') (x : FcA K C H a v F) : FcA K C H a v' F :=
  ⟨x.ob, by rw [← e1]; exact x.bg, x.hl, x.hu, x.hh, x.hp.trans e2, x.ne, x.apart, fun f hf => by rw [← e2]; exact x.fn f hf⟩
theorem one_sails (v : Wind) : Vbreac.sails [⟨0, (Vbreac.sails v).flatMap id⟩] = Vbreac.sails (Vbreac.everything v) := by
  have := Mk.hull_of_hulls (V := v.map (·.velocities))
  unfold Vbreac.sails Vbreac.everything
  simp only [List.map_cons, List.map_nil]
  rw [List.flatMap_map] at this ⊢
  rw [List.flatMap_map] at this
  simp only [id] at this ⊢
  rw [this]
theorem hull_few {C : Addr} {H : Hp} {a : Addr} {v : Wind} {F : Fc} (hF : FcA K C H a v F) {m : Nat} (W : WOk m v) : ∀ h ∈ F.hs, h.2.length ≤ m + 1 := fun h hh => by
  have e : pts h.2 ∈ Vbreac.sails v := by
    rw [← hF.hp]
    exact List.mem_map_of_mem hh
  obtain ⟨s, hs, e⟩ := List.mem_map.mp e
  have e1 := congrArg List.length e
  have e2 := Bd.sail_len s.velocities
  have e3 := (W.vel s hs).1
  rw [pts_len] at e1
  omega
theorem flat_len {hs : List (Addr × Row)} {n : Nat} (h : ∀ x ∈ hs, x.2.length ≤ n) : (hs.flatMap (·.2)).length ≤ n * hs.length := by
  induction hs with
  | nil => simp
  | cons x r ih =>
    have h1 := h x (by simp)
    have h2 := ih fun y hy => h y (by simp [hy])
    rw [List.flatMap_cons, List.length_append, List.length_cons, Nat.mul_succ]
    omega
def spOne (K : PySem.W.Frag) (C : Addr) : Sp := fun vs H Q _ => ∃ (a : Addr) (v : Wind) (F : Fc) (J : Option (Addr × Fc)), vs = [.ref a] ∧ FcJ K C H a v F J ∧ WOk 24 v ∧
  ∀ H' x G, Kept1 a H H' → FcA K C H' a v { F with jn := .ref x } → x ≠ a → FcA K C H' x (Vbreac.everything v) G → G.jn = .non → (∀ o u, H o = some u → OffJ o F J → Off o G) → Q (.ref x) H'
theorem okOne (T : Tx K mg) {tb : Addr} (N : Bs P w K mg base T tb) {k : Nat} : FnOk P w K mg base CX0 (k + 7) T.Forecast_as_one_slice.f T.Forecast_as_one_slice.fd ["self"] (spOne K T.CForecast) := by
  have GL : FnOk P w K mg base CX0 (k + 6) T.lone_slice.f T.lone_slice.fd ["velocities"] (spLone K T.CForecast) := okLone T N
  refine T.Forecast_as_one_slice.fn.ok sc_Forecast_as_one_slice (fun vs H Q E h => ?_) (fun cdv A outer s H vs Q E hr h => ?_)
  · obtain ⟨a, v, F, J, rfl, _⟩ := h
    rfl
  · obtain ⟨a, v, F, J, rfl, hJ, W, k⟩ := h
    refine ⟨_, pss_cons (ps_if (pt_cmpR op_isN (pe_fld (pv 0) rfl) pe_non (nomark _))
        (pss_cons (ps_set (i := 1) sc_Forecast_as_one_slice.nd rfl (.inl rfl) (pe_lst pa_nil))
        (pss_cons (ps_for PassesOwn.never rfl (pi_list (pe_fld (pv 0) rfl)) (pg_name (i := 2) sc_Forecast_as_one_slice.nd rfl (.inl rfl))
          (pss_one (ps_expr (pe_bm PySem.F.plainAttrs_list PySem.F.slot_list_extend PySem.F.type_list_extend mt_extend (pv 1) (pa_cons (pv 2) pa_nil)))))
        (pss_one (ps_fld (pv 0) (pe_call GL hr rfl T.lone_slice.g T.lone_slice.fn.kp T.lone_slice.b .nil pass0 (pa_cons (pv 1) pa_nil)) rfl)))) pss_nil)
      (pss_one (ps_ret (pe_fld (pv 0) rfl))), ?_⟩
    obtain ⟨hF, hj⟩ := hJ
    have ob := hF.ob
    have lhs := hF.len
    refine ⟨_, rfl, a, T.CForecast, F.dx, _, _, rfl, ob, T.cForecast, T.nForecast_joined, fc_joined _ _ _ _ _, rfl, _, rfl, ?_⟩
    match J, hj, k with
    | none, ej, k =>
      refine ite2 (fun _ => ?_) (fun e => absurd (decide_eq_true ej) e)
      refine ⟨Nat.zero_le _, fun y ny => ?_⟩
      have s1 := same_upd (o := .lst []) ny
      refine ⟨_, rfl, a, T.CForecast, F.dx, _, _, rfl, s1 _ _ ob, T.cForecast, T.nForecast_hulls, fc_hulls _ _ _ _ _, F.ah, rfl, ⟨_, SqL.of (s1 _ _ hF.hl)⟩, for_list (K := K) (a := F.ah) (xs := hullsV F.hs) (fun i σ H' => ∃ v2 : Option V, σ = [some (.ref a), some (.ref y), v2] ∧ Same H H' ∧ H' y = some (.lst (refsV ((F.hs.take i).flatMap (·.2)))))
        ⟨none, rfl, s1, upd_same⟩ (fun i σ H' _ ⟨_, _, sm, _⟩ => SqL.of (sm _ _ hF.hl)) ?_ ?_⟩
      · rintro i x σ H' hi ⟨v2, rfl, sm, hy⟩
        obtain ⟨h, hh, rfl⟩ := hulls_get hi
        have hmem := List.mem_of_getElem? hh
        refine ⟨_, rfl, .inl ⟨rfl, _, SqL.of hy⟩, _, rfl, y, h.1, _, _, rfl, rfl, hy, sm _ _ (hF.hh h hmem), ?_, _, rfl, same_grow ny sm, ?_⟩
        · have e1 := flat_len (hs := F.hs.take i) (n := 25) (fun z hz => hull_few hF W z (List.mem_of_mem_take hz))
          have e2 := hull_few hF W h hmem
          rw [List.length_take] at e1
          have e3 := W.len
          have e4 : min i F.hs.length ≤ 12 := by omega
          have e5 := Nat.mul_le_mul_left 25 e4
          rw [refsV_len, refsV_len, sizeLine_eq]
          omega
        · rw [upd_same, take_snoc hh, List.flatMap_append, refsV_app]
          simp
      · rintro σ H1 ⟨v2, rfl, sm, hy⟩
        rw [hullsV, List.length_map, List.take_length] at hy
        have lfl : (F.hs.flatMap (·.2)).length ≤ 300 := by
          have e1 := flat_len (hs := F.hs) (n := 25) (fun z hz => hull_few hF W z hz)
          have e3 := W.len
          have e5 := Nat.mul_le_mul_left 25 (show F.hs.length ≤ 12 by omega)
          omega
        refine ⟨_, rfl, y, F.hs.flatMap (·.2), rfl, hy, fun r hr => ?_, lfl, fun H2 x G s2 nx hG gj fo => ?_⟩
        · obtain ⟨h, hh, hr⟩ := List.mem_flatMap.mp hr
          exact ((hF.hu h hh).row.same sm) r hr
        · have sA := sm.trans s2
          have ob2 := sA _ _ ob
          have nxa : x ≠ a := fun e => by rw [e, sm _ _ ob] at nx; cases nx
          refine ⟨_, rfl, a, T.CForecast, F.dx, _, rfl, ob2, T.cForecast, T.nForecast_joined, (by show 5 < 1000; decide), ?_⟩
          rw [fc_p5]
          have k2 : Kept1 a H2 (upd H2 a (.ins T.CForecast F.dx (fcF (.ref F.ab) (.ref F.ah) (dV F.fnd) (sV F.fnd) (.ref x)))) := Kept1.upd
          have i2 := KeptI.of1 k2 ob2
          have iA := (KeptI.of sA).trans i2
          refine ⟨_, rfl, a, T.CForecast, F.dx, _, _, rfl, upd_same, T.cForecast, T.nForecast_joined, fc_joined _ _ _ _ _, ?_⟩
          refine k _ x G ((Kept1.of sA).trans k2) ⟨upd_same, iA.lst hF.bg, iA.lst hF.hl, fun h hh => iA.hull (hF.hu h hh), fun h hh => iA.lst (hF.hh h hh), hF.hp, hF.ne, hF.apart, fun f hf => (hF.fn f hf).keep iA⟩ nxa ?_ gj (fun o u ho _ => fo o u (sm _ _ ho))
          refine FcA.wind (v := [⟨0, pts (F.hs.flatMap (·.2))⟩]) (v' := Vbreac.everything v) rfl ?_ (hG.kept1 k2 ob2 nxa)
          rw [← one_sails, ← hF.hp]
          congr 3
          rw [List.flatMap_map]
          unfold pts
          rw [List.map_flatMap]
          rfl
    | some (x, G), ⟨ej, nx, hG, gj⟩, k =>
      refine ite2 (fun e => ?_) (fun _ => ?_)
      · have e : decide (F.jn = V.non) = true := e
        rw [ej] at e
        simp at e
      · refine ⟨_, rfl, a, T.CForecast, F.dx, _, _, rfl, ob, T.cForecast, T.nForecast_joined, fc_joined _ _ _ _ _, ?_⟩
        rw [ej]
        refine k H x G (Kept1.refl _ _) ?_ nx hG gj (fun o u _ fo => fo.2 x G rfl)
        have : ({ F with jn := .ref x } : Fc) = F := by rw [← ej]
        rw [this]
        exact hF
end
end Sw
set_option maxHeartbeats 4000000
namespace Sw
open PySem PySem.Spec PyProof.Rows L2 LamX
open Vbreac (Pt Frac Wind)
section
variable {P : Program} {w : World} {K : PySem.W.Frag} {mg : Str → Option Value} {base : Heap}
theorem _root_.L2.Same.sqT {H H' : Hp} {a : Addr} {xs : List V} (s : Same H H') (h : SqT K H a xs) : SqT K H' a xs := same_sqT s h
theorem Kept1.free {a x : Addr} {o : HO} {H H' : Hp} (s : Kept1 a H H') (h : H' x = none) (ha : H' a = some o) : H x = none := by
  cases e : H x with
  | none => rfl
  | some u =>
    by_cases z : x = a
    · rw [z, ha] at h
      cases h
    · rw [s _ _ e z] at h
      cases h
/-! ### least_time -/
theorem sails_within {m : Nat} {v : Wind} (W : WOk m v) : ∀ l ∈ Vbreac.sails v, ∀ p ∈ l, Bd.Within 1000 p := fun l hl => by
  obtain ⟨s, hs, rfl⟩ := List.mem_map.mp hl
  exact Bd.sail_within (by decide) (W.vel s hs).2
theorem dirs_in {m : Nat} {v : Wind} (W : WOk m v) : ∀ d ∈ Vbreac.directions (Vbreac.sails v), Bd.Within 2000 d := Bd.dirs_within (n := 1000) (by decide) (sails_within W)
theorem row_small {m : Nat} {v : Wind} (W : WOk m v) (i : Nat) : ∀ z ∈ Lt.rowOf (Vbreac.directions (Vbreac.sails v)) (Vbreac.sails v) i, Small z := fun z hz => by
  obtain ⟨d, hd, rfl⟩ := List.mem_map.mp hz
  have hi : ∀ p ∈ (Vbreac.sails v).getD i [], Bd.Within 1000 p := by
    rw [List.getD_eq_getElem?_getD]
    cases q : (Vbreac.sails v)[i]? with
    | none => intro p hp; cases hp
    | some l => exact sails_within W l (List.mem_of_getElem? q)
  have := Bd.support_le (m := 1000) (k := 2000) (by decide) (by decide) hi (dirs_in W d hd)
  simp only [Small]
  omega
theorem within_small {n : Int} {p : Pt} (hn : n ≤ 2 ^ 60) (h : Bd.Within n p) : Small p.x ∧ Small p.y := by
  simp only [Bd.Within, Small] at *
  omega
theorem stretch_lt (t : Int) : ∀ (rest : List Int) (i : Nat) (b : Int), ∀ s ∈ Lt.stretches t i b rest, s.1 < i + rest.length + 1
  | [], i, b, s, hs => by
    simp only [Lt.stretches, List.mem_cons, List.not_mem_nil, or_false] at hs
    rw [hs]
    simp
  | e :: r, i, b, s, hs => by
    have ih := stretch_lt t r (i + 1) e s
    simp only [Lt.stretches] at hs
    simp only [List.length_cons]
    split at hs
    · rcases List.mem_cons.1 hs with z | z
      · rw [z]
        show i < _
        omega
      · have := ih z
        omega
    · have := ih hs
      omega
def spLeast (K : PySem.W.Frag) (C CA : Addr) : Sp := fun vs H Q _ => ∃ (fa : Addr) (v : Wind) (F : Fc) (d : Pt) (st : Addr) (tn : Int) (parts m : Nat), vs = [.ref fa, .int d.x, .int d.y, .ref st] ∧ FcA K C H fa v F ∧ v ≠ [] ∧ WOk m v ∧ SqT K H st [.int tn, .int parts] ∧ 0 < parts ∧ Bd.Within 2000000 d ∧
  ∀ H' q a f, Kept1 fa H H' → H q = none → FcA K C H' fa v { F with fnd := some f } → ArrA K CA H' q a parts → Lt.leastM (v.map (·.from_)) (Vbreac.sails v) d tn parts = some a → (∀ o u, H o = some u → Off o F → Off o { F with fnd := some f }) → Q (.ref q) H'
theorem okLeast (T : Tx K mg) {k : Nat} : FnOk P w K mg base CX0 (k + 6) T.least_time.f T.least_time.fd ["forecast", "x", "y", "start"] (spLeast K T.CForecast T.CArrival) := by
  have GW : FnOk P w K mg base CX0 (k + 5) T.Forecast_weigh_directions.f T.Forecast_weigh_directions.fd ["self"] (spWeigh K T.CForecast) := okWeigh T
  have GS : FnOk P w K mg base CX0 (k + 5) T.stretches.f T.stretches.fd ["begins", "t"] (spStretch K) := okStretch T
  have GT : FnOk P w K mg base CX0 (k + 5) T.longest_take.f T.longest_take.fd ["lacking", "row"] (spTake K) := okTake T
  have GE : FnOk P w K mg base CX0 (k + 5) T.ends_here.f T.ends_here.fd ["upper", "lower", "lasting"] spEnds := okEnds T
  have GI : FnOk P w K mg base CX0 (k + 4) T.Arrival_init.f T.Arrival_init.fd ["self", "number", "since", "takes", "proof"] (spArrInit T.CArrival) := okArrInit T
  refine T.least_time.fn.ok sc_least_time (fun vs H Q E h => ?_) (fun cdv A outer s H vs Q E hr h => ?_)
  · obtain ⟨fa, v, F, d, st, tn, parts, m, rfl, _⟩ := h
    rfl
  · obtain ⟨fa, v, F, d, st, tn, parts, m, rfl, hF, hv, W, hst, hp, hd, k⟩ := h
    refine ⟨_, pss_cons (ps_expr (pe_meth0 (pv 0) T.cForecast T.Forecast_weigh_directions.m GW hr T.Forecast_weigh_directions.b .nil pass0))
      (pss_cons (ps_set (i := 4) sc_least_time.nd rfl (.inr rfl) (pe_ix ix_tup (pv 3) pe_int (fun _ _ => rfl)))
      (pss_cons (ps_setLc (i := 5) (own := [("a", 13), ("b", 14)]) (g := gTup K 2 (gCons (gName 13) (gCons (gName 14) gNil))) (tt := tYes) rfl sc_least_time.nd rfl rfl (sw_true rfl rfl rfl (by decide +kernel))
          (pi_list (pe_fld (pv 0) rfl))
          (blkOk_by (N := ["forecast", "x", "y", "start", "parts", "lacking", "begins", "number", "since", "lasting", "row", "longest", "proof", "a", "b", "begin", "lack", "support"]) (sc := defScope s_least_time) (by decide +kernel))
          (fun _ _ _ _ _ => pg_tup rfl (pgs_cons (pg_name (i := 13) sc_least_time.nd rfl (.inl rfl)) (pgs_cons (pg_name (i := 14) sc_least_time.nd rfl (.inl rfl)) pgs_nil))) (fun _ _ _ _ _ => pts_nil)
          (fun _ _ _ _ _ => pe_op op_mul (pe_op op_add (pe_op op_mul (pv 13) (pv 1)) (pe_op op_mul (pv 14) (pv 2))) (pv 4)))
      (pss_cons (ps_setLc (i := 6) (own := [("begin", 15)]) (g := gName 15) (tt := tYes) rfl sc_least_time.nd rfl rfl (sw_true rfl rfl rfl (by decide +kernel))
          (pi_list (pe_fld (pv 0) rfl))
          (blkOk_by (N := ["forecast", "x", "y", "start", "parts", "lacking", "begins", "number", "since", "lasting", "row", "longest", "proof", "a", "b", "begin", "lack", "support"]) (sc := defScope s_least_time) (by decide +kernel))
          (fun _ _ _ _ _ => pg_name (i := 15) sc_least_time.nd rfl (.inl rfl)) (fun _ _ _ _ _ => pts_nil)
          (fun _ _ _ _ _ => pe_op op_mul (pv 15) (pv 4)))
      (pss_one (ps_for PassesOwn.never rfl (pi_list (pe_call GS hr rfl T.stretches.g T.stretches.fn.kp T.stretches.b .nil pass0 (pa_cons (pv 6) (pa_cons (pe_ix ix_tup (pv 3) pe_int (fun _ _ => rfl)) pa_nil))))
          (pg_tup rfl (pgs_cons (pg_name (i := 7) sc_least_time.nd rfl (.inl rfl)) (pgs_cons (pg_name (i := 8) sc_least_time.nd rfl (.inl rfl)) (pgs_cons (pg_name (i := 9) sc_least_time.nd rfl (.inr rfl)) pgs_nil))))
        (pss_cons (ps_set (i := 10) sc_least_time.nd rfl (.inl rfl) (pe_ix ix_list (pe_fld (pv 0) rfl) (pv 7) (fun _ _ => rfl)))
        (pss_cons (ps_set (i := 11) sc_least_time.nd rfl (.inl rfl) (pe_call GT hr rfl T.longest_take.g T.longest_take.fn.kp T.longest_take.b .nil pass0 (pa_cons (pv 5) (pa_cons (pv 10) pa_nil))))
        (pss_cons (ps_if (pt_val (pe_call GE hr rfl T.ends_here.g T.ends_here.fn.kp T.ends_here.b .nil pass0 (pa_cons (pe_ix ix_tup (pv 11) pe_int (fun _ _ => rfl)) (pa_cons (pe_ix ix_tup (pv 11) pe_int (fun _ _ => rfl)) (pa_cons (pv 9) pa_nil)))))
          (pss_cons (ps_set (i := 12) sc_least_time.nd rfl (.inl rfl) (pe_ifExp (pt_cmpR op_isN (pe_ix ix_tup (pv 11) pe_int (fun _ _ => rfl)) pe_non (nomark _)) (pe_tup (pa_cons pe_int (pa_cons pe_int pa_nil))) (pe_ix ix_list (pe_fld (pv 0) rfl) (pe_ix ix_tup (pv 11) pe_int (fun _ _ => rfl)) (fun _ _ => rfl))))
          (pss_one (ps_ret (pe_make T.kArrival GI hr rfl T.gArrival T.Arrival_init.b .nil pass0 (pa_cons (pv 7) (pa_cons (pe_tup (pa_cons (pv 8) (pa_cons (pv 4) pa_nil)))
            (pa_cons (pe_tup (pa_cons (pe_ix ix_tup (pv 11) pe_int (fun _ _ => rfl)) (pa_cons (pe_op op_mul (pe_ix ix_tup (pv 11) pe_int (fun _ _ => rfl)) (pv 4)) pa_nil))) (pa_cons (pv 12) pa_nil))))))))
          pss_nil)
        (pss_one (ps_setLc (i := 5) (own := [("lack", 16), ("support", 17)]) (g := gTup K 2 (gCons (gName 16) (gCons (gName 17) gNil))) (tt := tYes) rfl sc_least_time.nd rfl rfl (sw_true rfl rfl rfl (by decide +kernel))
          (pi_zip (by rfl) T.nb.zip_ (pa_cons (pv 5) (pa_cons (pv 10) pa_nil)))
          (blkOk_by (N := ["forecast", "x", "y", "start", "parts", "lacking", "begins", "number", "since", "lasting", "row", "longest", "proof", "a", "b", "begin", "lack", "support"]) (sc := defScope s_least_time) (by decide +kernel))
          (fun _ _ _ _ _ => pg_tup rfl (pgs_cons (pg_name (i := 16) sc_least_time.nd rfl (.inl rfl)) (pgs_cons (pg_name (i := 17) sc_least_time.nd rfl (.inl rfl)) pgs_nil))) (fun _ _ _ _ _ => pts_nil)
          (fun _ _ _ _ _ => pe_op op_sub (pv 16) (pe_op op_mul (pv 17) (pv 9))))))))))))), ?_⟩
    refine ⟨_, rfl, fa, F.dx, _, rfl, hF.ob, fc_no (by decide +kernel) (by decide +kernel) (by decide +kernel) (by decide +kernel) (by decide +kernel) _ _ _ _ _, fa, v, F, rfl, hF, W.len, fun H1 f k1 hF1 fo => ?_⟩
    have i1 := KeptI.of1 k1 hF.ob
    have fd := hF1.fn f rfl
    have hst1 := i1.sqT hst
    have ob1 : H1 fa = some (.ins T.CForecast F.dx (fcF (.ref F.ab) (.ref F.ah) (.ref f.ad) (.ref f.as) F.jn)) := hF1.ob
    have hdirs : ∀ r ∈ f.ds, Bd.Within 2000 r.2 := fun r hr' => by
      refine dirs_in W r.2 ?_
      rw [← fd.pd]
      exact List.mem_map_of_mem hr'
    have len1 : f.ds.length = (Vbreac.directions (Vbreac.sails v)).length := by rw [← fd.pd, pts_len]
    refine ⟨_, rfl, st, _, _, _, rfl, rfl, hst1, atI_nat (j := 1) rfl, ?_⟩
    refine ⟨_, rfl, fa, T.CForecast, F.dx, _, _, rfl, ob1, T.cForecast, T.nForecast_directions, fc_directions _ _ _ _ _, f.ad, rfl, ⟨_, SqL.of fd.ld⟩, fun D nD =>
      lc_list (K := K) (a := f.ad) (xs := refsV f.ds) (fun i H' => Same H1 H' ∧ H' D = some (.lst ((((pts f.ds).take i).map fun n => Vbreac.dot n d * (parts : Int)).map V.int)))
        ⟨same_upd nD, upd_same⟩ (fun i H' _ ⟨sm, _⟩ => SqL.of (sm _ _ fd.ld)) ?_ ?_⟩
    · rintro i x H' hi ⟨sm, hD⟩
      obtain ⟨r, hr', rfl⟩ := refsV_get hi
      have hmem := List.mem_of_getElem? hr'
      have hw := hdirs r hmem
      have hsm := within_small (by decide) hw
      have il := (List.getElem?_eq_some_iff.mp hr').1
      have hdot := Bd.dot_within hw hd
      refine ⟨r.1, _, rfl, same_pt sm (fd.rd r hmem).1, rfl, _, _, rfl, _, _, rfl, rfl, rfl, _, rfl, _, rfl, _, _, rfl, rfl, .inl hsm.1, _, rfl, _, rfl, _, _, rfl, rfl, .inl hsm.2, _, _, rfl, rfl, _, rfl, _, _, rfl, rfl, .inl ?_, _, hD, ?_, same_grow nD sm, ?_⟩
      · show Small (Vbreac.dot r.2 d)
        simp only [Small]
        omega
      · have := fd.few
        rw [List.length_map, List.length_map, List.length_take, sizeLine_eq]
        omega
      · rw [upd_same, take_snoc (pts_get hr'), List.map_append, List.map_append]
        rfl
    · rintro H2 ⟨sm2, hD⟩
      rw [refsV_len, ← pts_len, List.take_length, fd.pd] at hD
      have ob2 := sm2 _ _ ob1
      have hbg2 := sm2 _ _ hF1.bg
      refine ⟨_, rfl, fa, T.CForecast, F.dx, _, _, rfl, ob2, T.cForecast, T.nForecast_begins, fc_begins _ _ _ _ _, F.ab, rfl, ⟨_, SqL.of hbg2⟩, fun D2 nD2 =>
        lc_list (K := K) (a := F.ab) (xs := (v.map (·.from_)).map V.int) (fun i H' => Same H2 H' ∧ H' D2 = some (.lst ((((v.map (·.from_)).take i).map (· * (parts : Int))).map V.int)))
          ⟨same_upd nD2, upd_same⟩ (fun i H' _ ⟨sm, _⟩ => SqL.of (sm _ _ hbg2)) ?_ ?_⟩
      · rintro i x H' hi ⟨sm, hD2⟩
        obtain ⟨b, hb, rfl⟩ := ints_get hi
        have hmem := List.mem_of_getElem? hb
        obtain ⟨s0, hs0, rfl⟩ := List.mem_map.mp hmem
        have hb2 := W.rg s0 hs0
        have il := (List.getElem?_eq_some_iff.mp hb).1
        have vl := W.len
        rw [List.length_map] at il
        refine ⟨rfl, _, rfl, _, rfl, _, _, rfl, rfl, .inl ?_, _, hD2, ?_, same_grow nD2 sm, ?_⟩
        · show Small s0.from_
          simp only [Small]
          omega
        · rw [List.length_map, List.length_map, List.length_take, sizeLine_eq]
          omega
        · rw [upd_same, take_snoc hb, List.map_append, List.map_append]
          rfl
      · rintro H3 ⟨sm3, hD2⟩
        rw [List.length_map, List.take_length] at hD2
        have s13 := sm2.trans sm3
        obtain ⟨b, rest, ebr⟩ : ∃ b rest, (v.map (·.from_)).map (· * (parts : Int)) = b :: rest := by
          cases v with
          | nil => exact absurd rfl hv
          | cons s0 r => exact ⟨_, _, rfl⟩
        have lrest : rest.length + 1 = v.length := by
          have := congrArg List.length ebr
          simp only [List.length_map, List.length_cons] at this
          omega
        have vl := W.len
        rw [ebr] at hD2
        have hD3 := sm3 _ _ hD
        refine ⟨_, rfl, _, rfl, st, _, _, _, rfl, rfl, s13.sqT hst1, atI_nat (j := 0) rfl, D2, b, rest, tn, rfl, SqL.of hD2, by omega, fun H4 q ss s4 nq hq hss ess => ?_⟩
        obtain ⟨arr, harr⟩ := Lt.leastM_some (begins := v.map (·.from_)) (by simpa using hv) (Vbreac.sails v) d tn parts
        have hseek : Lt.seek (Vbreac.directions (Vbreac.sails v)) (Vbreac.sails v) (Lt.stretches tn 0 b rest) ((Vbreac.directions (Vbreac.sails v)).map fun n => Vbreac.dot n d * (parts : Int)) = some arr := by
          have := harr
          unfold Lt.leastM at this
          rw [ebr] at this
          exact this
        have s14 := s13.trans s4
        refine ⟨q, rfl, ⟨_, SqL.of hq⟩, for_list (K := K) (a := q) (xs := spsV ss) (fun i σ H' => ∃ (v7 v8 v9 v10 v11 v12 : Option V) (la : Addr) (L : List Int), σ = [some (.ref fa), some (.int d.x), some (.int d.y), some (.ref st), some (.int parts), some (.ref la), some (.ref D2), v7, v8, v9, v10, v11, v12, none, none, none, none, none] ∧ Same H1 H' ∧ H' q = some (.lst (spsV ss)) ∧ SpsA H' ss ∧ H' la = some (.lst (L.map V.int)) ∧
            L.length = (Vbreac.directions (Vbreac.sails v)).length ∧ Lt.seek (Vbreac.directions (Vbreac.sails v)) (Vbreac.sails v) ((sps ss).drop i) L = some arr)
          ⟨none, none, none, none, none, none, D, _, rfl, s14, hq, hss, s4 _ _ hD3, by rw [List.length_map], by rw [List.drop_zero, ess]; exact hseek⟩ (fun i σ H' _ ⟨_, _, _, _, _, _, _, _, _, _, z, _⟩ => SqL.of z) ?_ ?_⟩
        · rintro i x σ H5 hi ⟨v7, v8, v9, v10, v11, v12, la, L, rfl, s5, hq5, hss5, hla, lL, hsk⟩
          obtain ⟨sp, hsp, rfl⟩ := sps_get hi
          have hmem := List.mem_of_getElem? hsp
          have hspT := hss5 sp hmem
          have isp := (List.getElem?_eq_some_iff.mp hsp).1
          have hdrop : (sps ss).drop i = sp.2 :: (sps ss).drop (i + 1) := by
            have h1 : (sps ss)[i]? = some sp.2 := by rw [sps, List.getElem?_map, hsp]; rfl
            obtain ⟨h2, h3⟩ := List.getElem?_eq_some_iff.mp h1
            rw [← List.getElem_cons_drop (h := h2), h3]
          rw [hdrop, Lt.seek] at hsk
          have hnum : sp.2.1 < (Vbreac.sails v).length := by
            have := stretch_lt tn rest 0 b sp.2 (by rw [← ess]; exact List.mem_map_of_mem hmem)
            have e1 : (Vbreac.sails v).length = v.length := by simp [Vbreac.sails]
            omega
          obtain ⟨rw_, hrw⟩ : ∃ r, f.rows[sp.2.1]? = some r := ⟨_, List.getElem?_eq_getElem (by rw [fd.len]; exact hnum)⟩
          have hrow := s5 _ _ (fd.row _ _ hrw)
          have ob5 := s5 _ _ ob1
          have lrow : (Lt.rowOf (Vbreac.directions (Vbreac.sails v)) (Vbreac.sails v) sp.2.1).length = L.length := by rw [Lt.rowOf, List.length_map, lL]
          have fewd := fd.few
          refine ⟨sp.1, _, rfl, SqT.of hspT, rfl, _, _, rfl, _, _, rfl, _, _, rfl, rfl, _, rfl, fa, T.CForecast, F.dx, _, _, rfl, ob5, T.cForecast, T.nForecast_supports, fc_supports _ _ _ _ _, _, rfl, f.as, _, _, _, rfl, rfl, SqL.of (s5 _ _ fd.ls), atI_nat (j := sp.2.1) (by rw [List.getElem?_map, hrw]; rfl), ?_⟩
          refine ⟨_, rfl, _, rfl, la, rw_, L, _, rfl, SqL.of hla, SqL.of hrow, lrow.symm, by omega, row_small W _, fun H6 t s6 nt ht => ?_⟩
          have s16 := s5.trans s6
          rw [lL] at ht
          have eb : Lt.bestOf (Vbreac.directions (Vbreac.sails v)) (Vbreac.sails v) sp.2.1 L = Lt.takeN L (Lt.rowOf (Vbreac.directions (Vbreac.sails v)) (Vbreac.sails v) sp.2.1) (Vbreac.directions (Vbreac.sails v)).length := rfl
          rw [← eb] at ht
          have sml : Small (Lt.bestOf (Vbreac.directions (Vbreac.sails v)) (Vbreac.sails v) sp.2.1 L).2.1 := take_small (row_small W _) _
          have most := Lt.take_most (lacking := L) (Lt.row_nn (Vbreac.directions (Vbreac.sails v)) (Vbreac.sails v) sp.2.1) (Vbreac.directions (Vbreac.sails v)).length
          rw [← eb] at most
          generalize hB : Lt.bestOf (Vbreac.directions (Vbreac.sails v)) (Vbreac.sails v) sp.2.1 L = B at ht sml hsk most
          refine ⟨_, rfl, t, _, _, _, rfl, rfl, SqT.of ht, atI_nat (j := 0) rfl, _, rfl, t, _, _, _, rfl, rfl, SqT.of ht, atI_nat (j := 1) rfl, _, rfl, B.1, B.2.1, sp.2.2.2, rfl, sml, _, rfl, ite2 (fun ends => ?_) (fun ends => ?_)⟩
          · rw [if_pos ends] at hsk
            have earr := Option.some.inj hsk
            subst earr
            cases eP : B.2.2 with
            | none =>
              refine ⟨_, rfl, t, _, _, _, rfl, rfl, SqT.of ht, atI_nat (j := 2) rfl, rfl, _, rfl, ?_⟩
              rw [eP]
              refine iteT ⟨(by show 2 ≤ sizeLine; decide), fun pa npa => ?_⟩
              have s7 := same_upd (o := .tup [.int 0, .int 0]) npa
              have hpa : PtA K (upd H6 pa (.tup [.int 0, .int 0])) pa (Lt.dirOf (Vbreac.directions (Vbreac.sails v)) B.2.2) := by
                rw [eP]
                exact SqT.of upd_same
              have s17 := s16.trans s7
              have ht7 := s7 _ _ ht
              refine ⟨_, rfl, _, rfl, _, rfl, (by show 2 ≤ sizeLine; decide), fun u1 nu1 => ?_⟩
              have sa := same_upd (o := .tup [.int sp.2.2.1, .int (parts : Int)]) nu1
              refine ⟨_, rfl, t, _, _, _, rfl, rfl, SqT.of (sa _ _ ht7), atI_nat (j := 0) rfl, _, rfl, t, _, _, _, rfl, rfl, SqT.of (sa _ _ ht7), atI_nat (j := 1) rfl, _, rfl, _, _, rfl, rfl, .inl sml, (by show 2 ≤ sizeLine; decide), fun u2 nu2 => ?_⟩
              have sb := same_upd (o := .tup [.int B.1, .int (B.2.1 * (parts : Int))]) nu2
              refine ⟨_, rfl, fun x dx nx nd ne => ⟨x, dx, _, _, _, _, rfl, upd_same, rfl, ?_⟩⟩
              rw [upd_upd]
              have sc := Same.made (C := T.CArrival) (H1 := upd (upd _ dx (.own x)) x (.ins T.CArrival dx (arF (.int (sp.2.1 : Nat)) (.ref u1) (.ref u2) (.ref pa)))) nx nd (fun b o e n => by rw [upd_ne n] at e ⊢; exact e)
              have sd := sa.trans (sb.trans sc)
              have sA := s17.trans sd
              refine k _ x _ f (k1.trans (Kept1.of sA)) ?_ (hF1.same sA) ⟨dx, u1, u2, pa, ?_, SqT.of (sb.trans sc _ _ upd_same), SqT.of (sc _ _ upd_same), ?_⟩ harr fo
              · exact k1.free ((s17.trans (sa.trans sb)).free nx) ob1
              · exact upd_same
              · exact same_pt sd hpa
            | some kk =>
              have hkk : kk < (Vbreac.directions (Vbreac.sails v)).length := by
                rcases most.eq with ⟨z, _⟩ | ⟨k0, h0, z, _⟩
                · rw [eP] at z
                  cases z
                · rw [eP] at z
                  rw [Option.some.inj z]
                  exact h0
              obtain ⟨⟨pa, pq⟩, hr1⟩ : ∃ r, f.ds[kk]? = some r := ⟨_, List.getElem?_eq_getElem (by rw [len1]; exact hkk)⟩
              refine ⟨_, rfl, t, _, _, _, rfl, rfl, SqT.of ht, atI_nat (j := 2) rfl, rfl, _, rfl, ?_⟩
              rw [eP]
              refine iteF ?_
              refine ⟨_, rfl, fa, T.CForecast, F.dx, _, _, rfl, s6 _ _ ob5, T.cForecast, T.nForecast_directions, fc_directions _ _ _ _ _, _, rfl, t, _, _, _, rfl, rfl, SqT.of ht, atI_nat (j := 2) rfl, f.ad, _, _, _, rfl, by rw [eP]; rfl, SqL.of (s16 _ _ fd.ld), atI_nat (j := kk) (by unfold refsV; rw [List.getElem?_map, hr1]; rfl), ?_⟩
              have s7 := Same.refl H6
              have hpa : PtA K H6 pa (Lt.dirOf (Vbreac.directions (Vbreac.sails v)) B.2.2) := by
                rw [eP]
                show PtA K H6 pa ((Vbreac.directions (Vbreac.sails v)).getD kk Vbreac.zero)
                rw [← fd.pd, List.getD_eq_getElem?_getD, pts, List.getElem?_map, hr1]
                exact same_pt s16 (fd.rd (pa, pq) (List.mem_of_getElem? hr1)).1
              have s17 := s16.trans s7
              have ht7 := s7 _ _ ht
              refine ⟨_, rfl, _, rfl, _, rfl, (by show 2 ≤ sizeLine; decide), fun u1 nu1 => ?_⟩
              have sa := same_upd (o := .tup [.int sp.2.2.1, .int (parts : Int)]) nu1
              refine ⟨_, rfl, t, _, _, _, rfl, rfl, SqT.of (sa _ _ ht7), atI_nat (j := 0) rfl, _, rfl, t, _, _, _, rfl, rfl, SqT.of (sa _ _ ht7), atI_nat (j := 1) rfl, _, rfl, _, _, rfl, rfl, .inl sml, (by show 2 ≤ sizeLine; decide), fun u2 nu2 => ?_⟩
              have sb := same_upd (o := .tup [.int B.1, .int (B.2.1 * (parts : Int))]) nu2
              refine ⟨_, rfl, fun x dx nx nd ne => ⟨x, dx, _, _, _, _, rfl, upd_same, rfl, ?_⟩⟩
              rw [upd_upd]
              have sc := Same.made (C := T.CArrival) (H1 := upd (upd _ dx (.own x)) x (.ins T.CArrival dx (arF (.int (sp.2.1 : Nat)) (.ref u1) (.ref u2) (.ref pa)))) nx nd (fun b o e n => by rw [upd_ne n] at e ⊢; exact e)
              have sd := sa.trans (sb.trans sc)
              have sA := s17.trans sd
              refine k _ x _ f (k1.trans (Kept1.of sA)) ?_ (hF1.same sA) ⟨dx, u1, u2, pa, ?_, SqT.of (sb.trans sc _ _ upd_same), SqT.of (sc _ _ upd_same), ?_⟩ harr fo
              · exact k1.free ((s17.trans (sa.trans sb)).free nx) ob1
              · exact upd_same
              · exact same_pt sd hpa
          · rw [if_neg ends] at hsk
            cases eD : sp.2.2.2 with
            | none =>
              rw [eD] at ends
              exact absurd rfl ends
            | some dd =>
              rw [eD] at hsk
              have hsk : Lt.seek (Vbreac.directions (Vbreac.sails v)) (Vbreac.sails v) ((sps ss).drop (i + 1)) (Lt.lessOf L (Lt.rowOf (Vbreac.directions (Vbreac.sails v)) (Vbreac.sails v) sp.2.1) dd) = some arr := hsk
              have hla6 := s6 _ _ hla
              have hrow6 := s6 _ _ hrow
              have hsmr := row_small W sp.2.1
              generalize hrr : Lt.rowOf (Vbreac.directions (Vbreac.sails v)) (Vbreac.sails v) sp.2.1 = rr at hsk hrow6 lrow hsmr
              refine ⟨_, rfl, _, rfl, la, rw_, _, _, rfl, SqL.of hla6, SqL.of hrow6, fun D3 nD3 =>
                lc_it (walk_zip (K := K) (a := la) (b := rw_) (xs := L.map V.int) (ys := rr.map V.int) (n := L.length) (by rw [List.length_map, List.length_map, lrow, Nat.min_self]))
                  (fun j H' => Same H6 H' ∧ H' D3 = some (.lst (((Lt.lessOf L rr dd).take j).map V.int)))
                  ⟨same_upd nD3, upd_same⟩ (fun j H' _ ⟨sm, _⟩ => ⟨SqL.of (sm _ _ hla6), SqL.of (sm _ _ hrow6)⟩) ?_ ?_⟩
              · rintro j x H7 H8 hj ⟨sm, hD3⟩ ⟨TT, x1, y1, rfl, nT, rfl, hx1, hy1⟩
                obtain ⟨l1, hl1, rfl⟩ := ints_get hx1
                obtain ⟨r1, hr1, rfl⟩ := ints_get hy1
                have sT := same_upd (o := .tup [.int l1, .int r1]) nT
                have hz : (Lt.lessOf L rr dd)[j]? = some (l1 - r1 * dd) := by
                  unfold Lt.lessOf
                  rw [List.getElem?_zipWith, hl1, hr1]
                refine ⟨TT, _, rfl, SqT.of upd_same, rfl, _, _, rfl, _, _, rfl, rfl, rfl, _, rfl, _, rfl, _, rfl, _, dd, rfl, rfl, .inl (hsmr _ (List.mem_of_getElem? hr1)), _, _, rfl, rfl, _, sT _ _ hD3, ?_, same_grow nD3 (sm.trans sT), ?_⟩
                · rw [List.length_map, List.length_take, sizeLine_eq]
                  omega
                · rw [upd_same, take_snoc hz, List.map_append]
                  rfl
              · rintro H7 ⟨sm, hD3⟩
                have ll : (Lt.lessOf L rr dd).length = L.length := by
                  unfold Lt.lessOf
                  rw [List.length_zipWith, lrow, Nat.min_self]
                rw [← ll, List.take_length] at hD3
                have sA := s16.trans sm
                have s67 := s6.trans sm
                exact ⟨_, _, _, _, _, _, D3, _, rfl, sA, s67 _ _ hq5, (hss5.same s67), hD3, by rw [ll, lL], hsk⟩
        · rintro σ H5 ⟨v7, v8, v9, v10, v11, v12, la, L, rfl, s5, hq5, hss5, hla, lL, hsk⟩
          have e0 : (sps ss).drop (spsV ss).length = [] := by
            apply List.drop_eq_nil_of_le
            simp [sps, spsV]
          rw [e0] at hsk
          cases hsk
end
end Sw
set_option linter.unusedVariables false
set_option linter.unusedSimpArgs false
namespace Sz
open Vbreac Hu Lt Fr Bd
/-! ### Times, leg by leg: how large they may become -/
structure FOk (n : Nat) (f : Frac) : Prop where
  rep : Rep f f.num f.den
  n0 : 0 ≤ f.num
  n1 : f.num < 2 ^ (60 + 24 * n)
  d1 : f.den ≤ 2 ^ (22 * n)
theorem whole_ok {t : Int} (h : 0 ≤ t ∧ t ≤ 1000000) : FOk 0 (whole t) :=
  ⟨(rep_whole t), h.1, by show t < 2 ^ 60; omega, by show 1 ≤ 1; exact Nat.le_refl _⟩
theorem time_rep {parts : Nat} {a : Arr} (hp : 0 < parts) (hl : 0 < a.lower) : Rep (timeOf parts a) (a.since * a.lower + a.upper) (a.lower.toNat * parts) := by
  obtain ⟨l, hl'⟩ : ∃ l : Nat, a.lower = (l : Int) := ⟨a.lower.toNat, by omega⟩
  have lp : 0 < l := by omega
  have e : a.lower.toNat = l := by omega
  have pos : 0 < parts * (l * parts) := Nat.mul_pos hp (Nat.mul_pos lp hp)
  have e2 : ((parts : Int) * (a.lower * (parts : Int))).toNat = parts * (l * parts) := by
    rw [hl']
    have : (parts : Int) * ((l : Int) * (parts : Int)) = ((parts * (l * parts) : Nat) : Int) := by push_cast; rfl
    rw [this]
    rfl
  have r : Rep (timeOf parts a) (a.since * (a.lower * parts) + a.upper * parts) (parts * (l * parts)) := by
    unfold timeOf
    rw [e2]
    exact rep_low pos
  refine r.to (by rw [e]; exact Nat.mul_pos lp hp) ?_
  rw [e, hl']
  push_cast
  grind
theorem low_le {f : Frac} {n : Int} {d : Nat} (h : Rep f n d) (hn : 0 ≤ n) : 0 ≤ f.num ∧ f.num ≤ n ∧ f.den ≤ d := by
  obtain ⟨hd, e⟩ := h
  have g := gcd_pos (n := n) hd
  rw [e, low_num, low_den]
  have gp : (0 : Int) < ((Nat.gcd n.natAbs d : Nat) : Int) := by omega
  refine ⟨Int.ediv_nonneg hn (by omega), ?_, Nat.div_le_self _ _⟩
  exact Int.ediv_le_self _ hn
theorem pow_split (n : Nat) : (2 : Int) ^ (60 + 24 * n) = 2 ^ (22 * n) * 2 ^ (60 + 2 * n) := by
  rw [← Int.pow_add]
  congr 1
  omega
theorem pow_big (n : Nat) : (2 : Int) ^ 60 ≤ 2 ^ (60 + 2 * n) := by
  have : (2 : Nat) ^ 60 ≤ 2 ^ (60 + 2 * n) := Nat.pow_le_pow_right (by decide) (by omega)
  exact_mod_cast this
theorem pow_one (n : Nat) : (1 : Int) ≤ 2 ^ n := by
  have : 1 ≤ 2 ^ n := Nat.one_le_two_pow
  exact_mod_cast this
/-- What an arrival's numbers are at most. -/
structure Lim (n : Nat) (t : Frac) (a : Arr) : Prop where
  s : 0 ≤ a.since ∧ a.since ≤ 2 ^ (60 + 24 * n)
  u : 0 ≤ a.upper ∧ a.upper ≤ 2 ^ (60 + 24 * n)
  l : 0 ≤ a.lower ∧ a.lower ≤ 4000000
  p : (t.den : Int) ≤ 2 ^ (22 * n)
theorem lim_of {n : Nat} {t : Frac} (ht : FOk n t) {a : Arr} (S : Sized t.den t.num a) : Lim n t a := by
  have hd : (t.den : Int) ≤ 2 ^ (22 * n) := by exact_mod_cast ht.d1
  have e1 := pow_split n
  have e2 := pow_big n
  have e3 := pow_one (22 * n)
  have n1 := ht.n1
  have big : (2 : Int) ^ (22 * n) * 2 ^ 60 ≤ 2 ^ (60 + 24 * n) := by
    rw [e1]
    exact Int.mul_le_mul_of_nonneg_left e2 (by omega)
  have s0 := S.s0
  have s1 := S.s1
  have u0 := S.u0
  have u1 := S.u1
  have c : (2 : Int) ^ 60 = 1152921504606846976 := by decide
  rw [c] at big
  have key : a.since ≤ 2 ^ (60 + 24 * n) ∧ a.upper ≤ 2 ^ (60 + 24 * n) := by
    clear e1 e2
    generalize (2 : Int) ^ (60 + 24 * n) = N at *
    generalize (2 : Int) ^ (22 * n) = M at *
    omega
  exact ⟨⟨s0, key.1⟩, ⟨u0, key.2⟩, ⟨S.l0, S.l1⟩, hd⟩
theorem step_ok {n : Nat} {t : Frac} (ht : FOk n t) {a : Arr} (S : Sized t.den t.num a) (hl : 0 < a.lower) : FOk (n + 1) (timeOf t.den a) := by
  have L := lim_of ht S
  have hp : 0 < t.den := ht.rep.1
  have r := time_rep hp hl
  have sl : 0 ≤ a.since * a.lower := Int.mul_nonneg L.s.1 L.l.1
  have q := low_le r (by have := L.u.1; omega)
  refine ⟨r.self, q.1, ?_, ?_⟩
  · have e : (2 : Int) ^ (60 + 24 * (n + 1)) = 2 ^ (60 + 24 * n) * 16777216 := by
      rw [show 60 + 24 * (n + 1) = (60 + 24 * n) + 24 by omega, Int.pow_add]
      rfl
    rw [e]
    have h1 : a.since * a.lower ≤ 2 ^ (60 + 24 * n) * 4000000 := by
      have a1 := Int.mul_le_mul_of_nonneg_right L.s.2 L.l.1
      have a2 := Int.mul_le_mul_of_nonneg_left L.l.2 (show (0 : Int) ≤ 2 ^ (60 + 24 * n) by have := pow_one (60 + 24 * n); omega)
      omega
    have h2 := L.u.2
    have h3 := pow_one (60 + 24 * n)
    generalize (2 : Int) ^ (60 + 24 * n) = N at *
    omega
  · have h1 : a.lower.toNat * t.den ≤ 2 ^ 22 * 2 ^ (22 * n) := Nat.mul_le_mul (by have := L.l; omega) ht.d1
    have e : 2 ^ (22 * (n + 1)) = 2 ^ 22 * 2 ^ (22 * n) := by rw [← Nat.pow_add]; congr 1; omega
    omega
theorem bits_of {x : Int} {m : Nat} (h0 : 0 ≤ x) (h1 : x ≤ 2 ^ m) {k : Nat} (hk : m < k) : x.natAbs < 2 ^ k := by
  have : x.natAbs ≤ 2 ^ m := by
    have : (x.natAbs : Int) ≤ ((2 ^ m : Nat) : Int) := by
      push_cast
      omega
    exact_mod_cast this
  exact Nat.lt_of_le_of_lt this (Nat.pow_lt_pow_right (by decide) hk)
theorem FOk.bits {n : Nat} {f : Frac} (h : FOk n f) (hn : n ≤ 30) {k : Nat} (hk : 1000 ≤ k) : f.num.natAbs < 2 ^ k ∧ (f.den : Int).natAbs < 2 ^ k := by
  have h1 := h.n1
  exact ⟨bits_of h.n0 (by omega) (show 60 + 24 * n < k by omega), bits_of (by omega) (show (f.den : Int) ≤ 2 ^ (22 * n) by exact_mod_cast h.d1) (by omega)⟩
theorem Lim.bits {n : Nat} {t : Frac} {a : Arr} (h : Lim n t a) (hn : n ≤ 30) {k : Nat} (hk : 1000 ≤ k) : a.since.natAbs < 2 ^ k ∧ a.upper.natAbs < 2 ^ k ∧ (a.lower * (t.den : Int)).natAbs < 2 ^ k ∧ (t.den : Int).natAbs < 2 ^ k := by
  refine ⟨bits_of h.s.1 h.s.2 (by omega), bits_of h.u.1 h.u.2 (by omega), ?_, bits_of (by omega) h.p (by omega)⟩
  refine bits_of (m := 22 + 22 * n) (Int.mul_nonneg h.l.1 (by omega)) ?_ (by omega)
  rw [Int.pow_add]
  have a1 := Int.mul_le_mul_of_nonneg_right h.l.2 (show (0 : Int) ≤ (t.den : Int) by omega)
  have a2 := Int.mul_le_mul_of_nonneg_left h.p (show (0 : Int) ≤ 4000000 by decide)
  have a3 := pow_one (22 * n)
  have c : (2 : Int) ^ 22 = 4194304 := by decide
  rw [c]
  generalize (2 : Int) ^ (22 * n) = M at *
  omega
/-! ### What the specification says of an arrival -/
theorem least_at {v : Wind} (up : (v.map (·.from_)).Pairwise (· < ·)) (hne : v ≠ []) {t : Frac} (ht : Rep t t.num t.den) {d : Pt} {a : Arr} (h : leastM (v.map (·.from_)) (sails v) d t.num t.den = some a) :
    least v t d = if a.lower = 0 then .never a.proof else .at_ (timeOf t.den a) a.number a.proof := by
  rw [least_eq (begins := v.map (·.from_)) (hulls := sails v) ⟨rfl, rfl, up⟩ (by simpa using hne) ht d, h]
  rfl
theorem least_yes {v : Wind} (up : (v.map (·.from_)).Pairwise (· < ·)) (hne : v ≠ []) {t : Frac} (ht : Rep t t.num t.den) {d : Pt} {a : Arr} (h : leastM (v.map (·.from_)) (sails v) d t.num t.den = some a) (hl : 0 < a.lower) :
    least v t d = .at_ (timeOf t.den a) a.number a.proof := by
  rw [least_at up hne ht h, if_neg (by omega)]
theorem least_no {v : Wind} (up : (v.map (·.from_)).Pairwise (· < ·)) (hne : v ≠ []) {t : Frac} (ht : Rep t t.num t.den) {d : Pt} {a : Arr} (h : leastM (v.map (·.from_)) (sails v) d t.num t.den = some a) (l0 : 0 ≤ a.lower) (hl : ¬ 0 < a.lower) :
    least v t d = .never a.proof := by
  rw [least_at up hne ht h, if_pos (by omega)]
/-! ### Rows of places -/
def got (v : Wind) (t : Frac) (ps : List Pt) : List Frac := (arrivals v t ps).filterMap id
theorem got_yes {v : Wind} {t u : Frac} {p q n : Pt} {i : Nat} {r : List Pt} (h : least v t (minus q p) = .at_ u i n) : got v t (p :: q :: r) = u :: got v u (q :: r) := by
  unfold got
  simp only [arrivals, h, List.filterMap_cons, id]
theorem got_no {v : Wind} {t : Frac} {p q n : Pt} {r : List Pt} (h : least v t (minus q p) = .never n) : got v t (p :: q :: r) = [] := by
  unfold got
  simp only [arrivals, h]
  rfl
theorem got_one (v : Wind) (t : Frac) (ps : List Pt) (h : ps.length ≤ 1) : got v t ps = [] := by
  match ps, h with
  | [], _ => rfl
  | [p], _ => rfl
theorem arr_form (v : Wind) : ∀ (ps : List Pt) (t : Frac), (arrivals v t ps = (got v t ps).map some ∧ (got v t ps).length = ps.length - 1) ∨ (arrivals v t ps = (got v t ps).map some ++ [none] ∧ (got v t ps).length < ps.length - 1)
  | [], t => .inl ⟨rfl, rfl⟩
  | [p], t => .inl ⟨rfl, rfl⟩
  | p :: q :: r, t => by
    cases h : least v t (minus q p) with
    | never n =>
      right
      rw [got_no h]
      simp only [arrivals, h, List.length_cons, List.map_nil, List.nil_append, List.length_nil, true_and]
      omega
    | at_ u i n =>
      rw [got_yes h]
      have e : arrivals v t (p :: q :: r) = some u :: arrivals v u (q :: r) := by simp only [arrivals, h]
      rcases arr_form v (q :: r) u with ⟨h1, h2⟩ | ⟨h1, h2⟩
      · left
        rw [e, h1]
        simp only [List.length_cons] at h2 ⊢
        exact ⟨rfl, by omega⟩
      · right
        rw [e, h1]
        simp only [List.length_cons] at h2 ⊢
        exact ⟨rfl, by omega⟩
theorem bound_is (v : Wind) (ps : List Pt) (h : 2 ≤ ps.length) : bound v ps = if (got (everything v) (whole 0) ps).length < ps.length - 1 then none else (got (everything v) (whole 0) ps).getLast? := by
  unfold bound
  rcases arr_form (everything v) ps (whole 0) with ⟨h1, h2⟩ | ⟨h1, h2⟩
  · rw [if_neg (by omega), h1]
    generalize got (everything v) (whole 0) ps = g at h2
    cases g with
    | nil => simp at h2; omega
    | cons x r =>
      show ((some x :: r.map some).getLast?).join = _
      rw [← List.map_cons, List.getLast?_map]
      cases (x :: r).getLast? <;> rfl
  · rw [if_pos h2, h1]
    have e : ((got (everything v) (whole 0) ps).map some ++ [none] : List (Option Frac)).getLast? = some none := by simp
    generalize ((got (everything v) (whole 0) ps).map some ++ [none] : List (Option Frac)) = L at e
    cases L with
    | nil => cases e
    | cons x r =>
      show ((x :: r).getLast?).join = none
      rw [e]
      rfl
theorem course_flat (v : Wind) (t : Frac) (ps : List Pt) : ((arrivals v t ps).flatMap fun x => match x with | some f => text f | none => []) = (got v t ps).flatMap text := by
  unfold got
  generalize arrivals v t ps = L
  induction L with
  | nil => rfl
  | cons x r ih =>
    cases x with
    | none =>
      rw [List.flatMap_cons, List.filterMap_cons]
      simpa using ih
    | some f =>
      rw [List.flatMap_cons, List.filterMap_cons]
      simp only [id, List.flatMap_cons]
      rw [ih]
end Sz
set_option maxHeartbeats 4000000
namespace Sw
open PySem PySem.Spec PyProof.Rows L2 LamX
open Vbreac (Pt Frac Wind)
section
variable {P : Program} {w : World} {K : PySem.W.Frag} {mg : Str → Option Value} {base : Heap}
/-! ### Places out of groups -/
theorem grp_row {gs : Grp} : ∀ {v : List Pt}, gs.map (·.2) = v.map (fun p => [p.x, p.y]) → ∃ rs : Row, refsV rs = grpV gs ∧ pts rs = v ∧ ∀ H : Hp, GrpA H gs → ∀ r ∈ rs, PtA K H r.1 r.2 := by
  induction gs with
  | nil =>
    intro v e
    cases v with
    | nil => exact ⟨[], rfl, rfl, fun _ _ r hr => nomatch hr⟩
    | cons p v => cases e
  | cons g gs ih =>
    intro v e
    cases v with
    | nil => cases e
    | cons p v =>
      rw [List.map_cons, List.map_cons] at e
      obtain ⟨e1, e2⟩ := List.cons.inj e
      obtain ⟨rs, h1, h2, h3⟩ := ih e2
      refine ⟨(g.1, p) :: rs, ?_, ?_, fun H hA r hr => ?_⟩
      · show V.ref g.1 :: refsV rs = V.ref g.1 :: grpV gs
        rw [h1]
      · show p :: pts rs = _
        rw [h2]
      · rcases List.mem_cons.1 hr with z | z
        · subst z
          have := hA g (by simp)
          rw [e1] at this
          exact SqT.of this
        · exact h3 H (fun q hq => hA q (by simp [hq])) r z
/-! ### leg_times -/
abbrev Frs := List (Addr × Frac)
def frsV (fs : Frs) : List V := fs.map fun f => V.ref f.1
def FrsA (H : Hp) (fs : Frs) : Prop := ∀ f ∈ fs, H f.1 = some (fracV f.2)
theorem FrsA.keptI {H H' : Hp} {fs : Frs} (s : KeptI H H') (h : FrsA H fs) : FrsA H' fs := fun x hx => s.tup (h x hx)
theorem FrsA.same {H H' : Hp} {fs : Frs} (s : Same H H') (h : FrsA H fs) : FrsA H' fs := fun x hx => s _ _ (h x hx)
theorem FrsA.snoc {H : Hp} {D : Addr} {ys : List V} {o : HO} {fs : Frs} {t : Addr} {f : Frac} (hD : H D = some (.lst ys)) (h : FrsA H fs) (ht : H t = some (fracV f)) : FrsA (upd H D o) (fs ++ [(t, f)]) := fun x hx => by
  rcases List.mem_append.1 hx with z | z
  · have q := h x z
    rw [upd_ne (ne_of q hD (by intro z; cases z))]
    exact q
  · simp only [List.mem_cons, List.not_mem_nil, or_false] at z
    subst z
    rw [upd_ne (ne_of ht hD (by intro z; cases z))]
    exact ht
/-- The same slices, whatever was found out of them. -/
structure Alike (F F' : Fc) : Prop where
  ab : F'.ab = F.ab
  ah : F'.ah = F.ah
  jn : F'.jn = F.jn
  hs : F'.hs = F.hs
theorem Alike.refl (F : Fc) : Alike F F := ⟨rfl, rfl, rfl, rfl⟩
theorem Alike.trans {F F' F2 : Fc} (a : Alike F F') (b : Alike F' F2) : Alike F F2 := ⟨b.ab.trans a.ab, b.ah.trans a.ah, b.jn.trans a.jn, b.hs.trans a.hs⟩
theorem Alike.fnd {F F' : Fc} {f : Fnd} (a : Alike F F') : Alike F { F' with fnd := some f } := ⟨a.ab, a.ah, a.jn, a.hs⟩
theorem minus_in {p q : Pt} (hp : Bd.Within 1000000 p) (hq : Bd.Within 1000000 q) : Bd.Within 2000000 (Vbreac.minus q p) := by
  simp only [Bd.Within, Vbreac.minus] at *
  omega
theorem begins_in {m : Nat} {v : Wind} (W : WOk m v) : ∀ b ∈ v.map (·.from_), 0 ≤ b ∧ b ≤ 1000000 := fun b hb => by
  obtain ⟨s, hs, rfl⟩ := List.mem_map.mp hb
  exact W.rg s hs
theorem sized_of {m : Nat} {v : Wind} (W : WOk m v) {d : Pt} {t : Frac} {n : Nat} (ht : Sz.FOk n t) (hd : Bd.Within 2000000 d) {a : Lt.Arr} (h : Lt.leastM (v.map (·.from_)) (Vbreac.sails v) d t.num t.den = some a) : Bd.Sized t.den t.num a :=
  Bd.least_sized ht.rep.1 ht.n0 (begins_in W) W.up (sails_within W) hd h
def spLegs (K : PySem.W.Frag) (C : Addr) : Sp := fun vs H Q _ => ∃ (fa : Addr) (v : Wind) (F : Fc) (st : Addr) (t : Frac) (q : Addr) (rs : Row) (m : Nat), vs = [.ref fa, .ref st, .ref q] ∧ FcA K C H fa v F ∧ v ≠ [] ∧ WOk m v ∧ SqT K H st [.int t.num, .int t.den] ∧ Sz.FOk 0 t ∧ SqL K H q (refsV rs) ∧ (∀ r ∈ rs, PtA K H r.1 r.2) ∧ (∀ r ∈ rs, Bd.Within 1000000 r.2) ∧ rs.length ≤ 30 ∧
  ∀ H' o fs F', Kept1 fa H H' → H o = none → H' o = some (.lst (frsV fs)) → FrsA H' fs → (∀ f ∈ fs, ∃ n, n ≤ 30 ∧ Sz.FOk n f.2) → fs.length ≤ 30 → fs.map (·.2) = Sz.got v t (pts rs) → FcA K C H' fa v F' → Alike F F' → (∀ z u, H z = some u → Off z F → Off z F') → Q (.ref o) H'
theorem okLegs (T : Tx K mg) {k : Nat} : FnOk P w K mg base CX0 (k + 7) T.leg_times.f T.leg_times.fd ["forecast", "start", "places"] (spLegs K T.CForecast) := by
  have GL : FnOk P w K mg base CX0 (k + 6) T.least_time.f T.least_time.fd ["forecast", "x", "y", "start"] (spLeast K T.CForecast T.CArrival) := okLeast T
  have GH : FnOk P w K mg base CX0 (k + 6) T.Arrival_happens.f T.Arrival_happens.fd ["self"] (spHapp K T.CArrival) := okHapp T
  have GT : FnOk P w K mg base CX0 (k + 6) T.Arrival_time.f T.Arrival_time.fd ["self"] (spTime K T.CArrival) := okTime T
  refine T.leg_times.fn.ok sc_leg_times (fun vs H Q E h => ?_) (fun cdv A outer s H vs Q E hr h => ?_)
  · obtain ⟨fa, v, F, st, t, q, rs, m, rfl, _⟩ := h
    rfl
  · obtain ⟨fa, v, F, st, t, q, rs, m, rfl, hF, hv, W, hst, ht, hq, hR, hRw, hlen, k⟩ := h
    refine ⟨_, pss_cons (ps_set (i := 3) sc_leg_times.nd rfl (.inl rfl) (pe_lst pa_nil))
      (pss_cons (ps_set (i := 4) sc_leg_times.nd rfl (.inl rfl) (pv 1))
      (pss_cons (ps_for PassesOwn.never rfl (pi_zip (by rfl) T.nb.zip_ (pa_cons (pv 2) (pa_cons (pe_slice sl_list (pv 2) (po_some pe_int) po_none) pa_nil)))
          (pg_tup rfl (pgs_cons (pg_name (i := 5) sc_leg_times.nd rfl (.inl rfl)) (pgs_cons (pg_name (i := 6) sc_leg_times.nd rfl (.inl rfl)) pgs_nil)))
        (pss_cons (ps_set (i := 7) sc_leg_times.nd rfl (.inl rfl) (pe_call GL hr rfl T.least_time.g T.least_time.fn.kp T.least_time.b .nil pass0 (pa_cons (pv 0)
            (pa_cons (pe_op op_sub (pe_ix ix_tup (pv 6) pe_int (fun _ _ => rfl)) (pe_ix ix_tup (pv 5) pe_int (fun _ _ => rfl)))
            (pa_cons (pe_op op_sub (pe_ix ix_tup (pv 6) pe_int (fun _ _ => rfl)) (pe_ix ix_tup (pv 5) pe_int (fun _ _ => rfl))) (pa_cons (pv 4) pa_nil))))))
        (pss_cons (ps_if (pt_not (pt_val (pe_meth0 (pv 7) T.cArrival T.Arrival_happens.m GH hr T.Arrival_happens.b .nil pass0))) (pss_one (ps_ret (pv 3))) pss_nil)
        (pss_cons (ps_set (i := 4) sc_leg_times.nd rfl (.inl rfl) (pe_meth0 (pv 7) T.cArrival T.Arrival_time.m GT hr T.Arrival_time.b .nil pass0))
        (pss_one (ps_expr (pe_bm PySem.F.plainAttrs_list PySem.F.slot_list_append PySem.F.type_list_append mt_append (pv 3) (pa_cons (pv 4) pa_nil))))))))
      (pss_one (ps_ret (pv 3))))), ?_⟩
    refine ⟨Nat.zero_le _, fun o no => ⟨_, rfl, ?_⟩⟩
    have s1 : Same H (upd H o (.lst [])) := same_upd no
    refine ⟨_, rfl, _, rfl, _, rfl, q, _, rfl, s1.seq hq, fun c nc => ?_⟩
    rw [cut_from1]
    have s2 := s1.trans (same_upd (o := .lst ((refsV rs).drop 1)) nc)
    have ho0 : (upd (upd H o (.lst [])) c (.lst ((refsV rs).drop 1))) o = some (.lst []) := by rw [upd_ne (ne_of_none upd_same nc)]; exact upd_same
    have noc : o ≠ c := ne_of_none upd_same nc
    have nfa : fa ≠ o := ne_of_none hF.ob no
    refine ⟨q, c, refsV rs, (refsV rs).drop 1, rfl, s2.seq hq, SqL.of upd_same, for_it (walk_zip (K := K) (a := q) (b := c) (xs := refsV rs) (ys := (refsV rs).drop 1) (n := rs.length - 1) (by rw [List.length_drop, refsV_len]; omega))
      (fun i σ H' => ∃ (v5 v6 v7 : Option V) (na : Addr) (f : Frac) (fs : Frs) (F' : Fc), σ = [some (.ref fa), some (.ref st), some (.ref q), some (.ref o), some (.ref na), v5, v6, v7] ∧ Kept1 fa H H' ∧ H' c = some (.lst ((refsV rs).drop 1)) ∧ H' o = some (.lst (frsV fs)) ∧ FrsA H' fs ∧ fs.length = i ∧ (∀ x ∈ fs, ∃ n, n ≤ 30 ∧ Sz.FOk n x.2) ∧ SqT K H' na [.int f.num, .int f.den] ∧ Sz.FOk i f ∧ FcA K T.CForecast H' fa v F' ∧ Alike F F' ∧ Off o F' ∧ (∀ z u, H z = some u → Off z F → Off z F') ∧ fs.map (·.2) ++ Sz.got v f ((pts rs).drop i) = Sz.got v t (pts rs))
      ⟨none, none, none, st, t, [], F, rfl, Kept1.of s2, upd_same, ho0, (fun f hf => nomatch hf), rfl, (fun f hf => nomatch hf), s2.sqT hst, ht, hF.same s2, Alike.refl F, hF.off no, (fun _ _ _ z => z), rfl⟩
      (fun i σ H' _ ⟨_, _, _, _, _, _, _, _, z1, z2, _⟩ => ⟨(KeptI.of1 z1 hF.ob).sqL hq, SqL.of z2⟩) ?_ ?_⟩
    · rintro i x σ H1 H2 hi ⟨v5, v6, v7, na, f, fs, F', rfl, k1, hc, ho, hfs, lfs, bfs, hna, hf, hF1, al, fo1, fo2, ess⟩ ⟨TT, x1, y1, rfl, nT, rfl, hx1, hy1⟩
      obtain ⟨p, hp, rfl⟩ := refsV_get hx1
      have hy1 : ((refsV rs).drop 1)[i]? = some y1 := hy1
      rw [List.getElem?_drop] at hy1
      obtain ⟨r, hr', rfl⟩ := refsV_get hy1
      have sT := same_upd (o := .tup [.ref p.1, .ref r.1]) nT
      have i1 := KeptI.of1 k1 hF.ob
      have pp := i1.pt (hR p (List.mem_of_getElem? hp))
      have pr := i1.pt (hR r (List.mem_of_getElem? hr'))
      have wp := hRw p (List.mem_of_getElem? hp)
      have wr := hRw r (List.mem_of_getElem? hr')
      have hdrop : (pts rs).drop i = p.2 :: r.2 :: (pts rs).drop (i + 2) := by
        have h1 := pts_get hp
        have h2 := pts_get hr'
        obtain ⟨a1, b1⟩ := List.getElem?_eq_some_iff.mp h1
        rw [Nat.add_comm 1 i] at h2
        obtain ⟨a2, b2⟩ := List.getElem?_eq_some_iff.mp h2
        rw [← List.getElem_cons_drop (h := a1), b1, ← List.getElem_cons_drop (h := a2), b2]
      have hdrop1 : (pts rs).drop (i + 1) = r.2 :: (pts rs).drop (i + 2) := by
        have h2 := pts_get hr'
        rw [Nat.add_comm 1 i] at h2
        obtain ⟨a2, b2⟩ := List.getElem?_eq_some_iff.mp h2
        rw [← List.getElem_cons_drop (h := a2), b2]
      have hd := minus_in wp wr
      refine ⟨TT, _, rfl, SqT.of upd_same, rfl, _, _, rfl, _, _, rfl, rfl, _, rfl, _, rfl, r.1, _, _, _, rfl, rfl, same_pt sT pr, atI_nat (j := 0) rfl, _, rfl, p.1, _, _, _, rfl, rfl, same_pt sT pp, atI_nat (j := 0) rfl, _, _, rfl, rfl,
        _, rfl, r.1, _, _, _, rfl, rfl, same_pt sT pr, atI_nat (j := 1) rfl, _, rfl, p.1, _, _, _, rfl, rfl, same_pt sT pp, atI_nat (j := 1) rfl, _, _, rfl, rfl, _, rfl,
        fa, v, F', Vbreac.minus r.2 p.2, na, f.num, f.den, m, rfl, hF1.same sT, hv, W, sT.sqT hna, hf.rep.1, hd, fun H3 xa a fn k3 nxa hF3 hA harr fo => ?_⟩
      have hS := sized_of W hf hd harr
      have fo3 : ∀ z u, H z = some u → Off z F → Off z { F' with fnd := some fn } := fun z u hz zF => by
        have zF' := fo2 z u hz zF
        by_cases ez : z = fa
        · rw [ez]
          rw [ez] at zF'
          exact fo fa _ (sT _ _ hF1.ob) zF'
        · exact fo z u (sT _ _ (k1 _ _ hz ez)) zF'
      have hL := Sz.lim_of hf hS
      have hbt := hL.bits (by omega) (k := 2000) (by decide)
      obtain ⟨dxa, sa, ta, pa, hxa, _⟩ := hA
      have hA : ArrA K T.CArrival H3 xa a f.den := ⟨⟨dxa, sa, ta, pa, hxa, by assumption⟩⟩
      refine ⟨_, rfl, xa, dxa, _, rfl, hxa, ar_no (by decide +kernel) (by decide +kernel) (by decide +kernel) (by decide +kernel) _ _ _ _, xa, a, f.den, rfl, hA, hf.rep.1, _, rfl, ite2 (fun e => ?_) (fun e => ?_)⟩
      · have e : ¬ 0 < a.lower := by simpa using e
        have kA : Kept1 fa H H3 := k1.trans ((Kept1.of sT).trans k3)
        have i3 := KeptI.of1 k3 (sT _ _ hF1.ob)
        refine ⟨_, rfl, k H3 o fs _ kA no (i3.lst (sT _ _ ho)) ((hfs.same sT).keptI i3) bfs (by omega) ?_ hF3 al.fnd fo3⟩
        rw [← ess, hdrop, Sz.got_no (Sz.least_no W.up hv hf.rep harr hL.l.1 e), List.append_nil]
      · have e : 0 < a.lower := by simpa using e
        refine ⟨_, rfl, xa, dxa, _, rfl, hxa, ar_no (by decide +kernel) (by decide +kernel) (by decide +kernel) (by decide +kernel) _ _ _ _, xa, a, f.den, rfl, hA, hf.rep.1, e, hbt.1, hbt.2.1, hbt.2.2.1, hbt.2.2.2, fun u nu => ?_⟩
        have sU := same_upd (o := fracV (Lt.timeOf f.den a)) nu
        have i3 := KeptI.of1 k3 (sT _ _ hF1.ob)
        have ho3 := sU _ _ (i3.lst (sT _ _ ho))
        refine ⟨_, rfl, .inl ⟨rfl, _, SqL.of ho3⟩, _, rfl, o, _, _, rfl, rfl, ho3, ?_, ?_⟩
        · rw [frsV, List.length_map, sizeLine_eq]
          omega
        have kD : ∀ (b : Addr) (z : HO), (upd H3 u (fracV (Lt.timeOf f.den a))) b = some z → b ≠ o → (upd (upd H3 u (fracV (Lt.timeOf f.den a))) o (.lst (frsV fs ++ [.ref u]))) b = some z := fun b z e n => by rw [upd_ne n]; exact e
        have nuo : u ≠ o := fun z => by rw [z] at nu; rw [i3.lst (sT _ _ ho)] at nu; cases nu
        have step := Sz.step_ok hf hS e
        have kA : Kept1 fa H (upd (upd H3 u (fracV (Lt.timeOf f.den a))) o (.lst (frsV fs ++ [.ref u]))) := fun b z h n => kD _ _ (sU _ _ (k3 _ _ (sT _ _ (k1 _ _ h n)) n)) (ne_of_none h no)
        refine ⟨_, _, _, u, Lt.timeOf f.den a, fs ++ [(u, Lt.timeOf f.den a)], { F' with fnd := some fn }, rfl, kA, kD _ _ (sU _ _ (i3.lst (sT _ _ hc))) (Ne.symm noc), ?_, ?_, ?_, ?_, ?_, step, ?_, al.fnd, fo o _ (sT _ _ ho) fo1, fo3, ?_⟩
        · rw [upd_same, frsV, frsV, List.map_append]
          rfl
        · exact FrsA.snoc ho3 (((hfs.same sT).keptI i3).same sU) upd_same
        · rw [List.length_append, lfs]
          rfl
        · intro x hx
          rcases List.mem_append.1 hx with z | z
          · exact bfs x z
          · simp only [List.mem_cons, List.not_mem_nil, or_false] at z
            subst z
            exact ⟨i + 1, by omega, step⟩
        · exact SqT.of (kD _ _ upd_same nuo)
        · exact (hF3.same sU).updL (fo o _ (sT _ _ ho) fo1) ho3
        · rw [← ess, hdrop, Sz.got_yes (Sz.least_yes W.up hv hf.rep harr e), hdrop1, List.map_append, List.append_assoc]
          rfl
    · rintro σ H1 ⟨v5, v6, v7, na, f, fs, F', rfl, k1, hc, ho, hfs, lfs, bfs, hna, hf, hF1, al, fo1, fo2, ess⟩
      refine ⟨_, rfl, k H1 o fs F' k1 no ho hfs bfs (by omega) ?_ hF1 al fo2⟩
      rw [← ess, Sz.got_one _ _ _ (by rw [List.length_drop, pts_len]; omega), List.append_nil]
end
end Sw
set_option maxHeartbeats 4000000
namespace Sw
open PySem PySem.Spec PyProof.Rows L2 LamX
open Vbreac (Pt Frac Wind)
section
variable {P : Program} {w : World} {K : PySem.W.Frag} {mg : Str → Option Value} {base : Heap}
/-! ### What a call leaves of the heap -/
def Go (K : PySem.W.Frag) (C : Addr) (H H' : Hp) (a : Addr) (v : Wind) (F : Fc) (J : Option (Addr × Fc)) : Prop :=
  ∃ F' J', KeptI H H' ∧ (∀ T, Tabs T H → Tabs T H') ∧ FcJ K C H' a v F' J' ∧ F'.ab = F.ab ∧ F'.ah = F.ah ∧ F'.hs = F.hs ∧ ∀ o u, H o = some u → OffJ o F J → OffJ o F' J'
theorem FcJ.same {C : Addr} {H H' : Hp} {a : Addr} {v : Wind} {F : Fc} {J : Option (Addr × Fc)} (s : Same H H') (x : FcJ K C H a v F J) : FcJ K C H' a v F J := by
  refine ⟨x.1.same s, ?_⟩
  match J, x.2 with
  | none, e => exact e
  | some (y, G), ⟨e1, e2, e3, e4⟩ => exact ⟨e1, e2, e3.same s, e4⟩
theorem FcJ.keepN {C : Addr} {H H' : Hp} {a : Addr} {v : Wind} {F : Fc} {J : Option (Addr × Fc)} (s : ExtN H H') (x : FcJ K C H a v F J) : FcJ K C H' a v F J := by
  refine ⟨x.1.keepN s, ?_⟩
  match J, x.2 with
  | none, e => exact e
  | some (y, G), ⟨e1, e2, e3, e4⟩ => exact ⟨e1, e2, e3.keepN s, e4⟩
theorem FcJ.updL {C : Addr} {H : Hp} {a o : Addr} {v : Wind} {F : Fc} {J : Option (Addr × Fc)} {ys : List V} {u : HO} (x : FcJ K C H a v F J) (f : OffJ o F J) (ho : H o = some (.lst ys)) : FcJ K C (upd H o u) a v F J := by
  refine ⟨x.1.updL f.1 ho, ?_⟩
  match J, x.2, f.2 with
  | none, e, _ => exact e
  | some (y, G), ⟨e1, e2, e3, e4⟩, f2 => exact ⟨e1, e2, e3.updL (f2 y G rfl) ho, e4⟩
theorem FcJ.off {C : Addr} {H : Hp} {a o : Addr} {v : Wind} {F : Fc} {J : Option (Addr × Fc)} (x : FcJ K C H a v F J) (n : H o = none) : OffJ o F J := by
  refine ⟨x.1.off n, fun y G e => ?_⟩
  subst e
  exact x.2.2.2.1.off n
theorem Go.same {C : Addr} {H H' : Hp} {a : Addr} {v : Wind} {F : Fc} {J : Option (Addr × Fc)} (x : FcJ K C H a v F J) (s : Same H H') : Go K C H H' a v F J :=
  ⟨F, J, .of s, fun T t => t.ext s, x.same s, rfl, rfl, rfl, fun _ _ _ z => z⟩
theorem Go.of1 {C : Addr} {H H' : Hp} {a : Addr} {v : Wind} {F F' : Fc} {J : Option (Addr × Fc)} (x : FcJ K C H a v F J) (k : Kept1 a H H') (f : FcA K C H' a v F') (al : Alike F F') (fo : ∀ o u, H o = some u → Off o F → Off o F') : Go K C H H' a v F J := by
  refine ⟨F', J, .of1 k x.1.ob, fun T t => k.tabs x.1.ob t, ⟨f, ?_⟩, al.ab, al.ah, al.hs, fun o u h z => ⟨fo o u h z.1, z.2⟩⟩
  match J, x.2 with
  | none, e => exact al.jn.trans e
  | some (y, G), ⟨e1, e2, e3, e4⟩ => exact ⟨al.jn.trans e1, e2, e3.kept1 k x.1.ob e2, e4⟩
theorem Go.then {C : Addr} {H H1 H2 : Hp} {a : Addr} {v : Wind} {F : Fc} {J : Option (Addr × Fc)} (g : Go K C H H1 a v F J) (s : Same H1 H2) : Go K C H H2 a v F J := by
  obtain ⟨F', J', h1, h2, h3, h4, h5, h6, h7⟩ := g
  exact ⟨F', J', h1.trans (.of s), fun T t => (h2 T t).ext s, h3.same s, h4, h5, h6, h7⟩
theorem Go.after {C : Addr} {H H1 H2 : Hp} {a : Addr} {v : Wind} {F : Fc} {J : Option (Addr × Fc)} (s : Same H H1) (g : Go K C H1 H2 a v F J) : Go K C H H2 a v F J := by
  obtain ⟨F', J', h1, h2, h3, h4, h5, h6, h7⟩ := g
  exact ⟨F', J', (KeptI.of s).trans h1, fun T t => h2 T (t.ext s), h3, h4, h5, h6, fun o u h z => h7 o u (s _ _ h) z⟩
theorem Go.keptI {C : Addr} {H H1 : Hp} {a : Addr} {v : Wind} {F : Fc} {J : Option (Addr × Fc)} (g : Go K C H H1 a v F J) : KeptI H H1 := g.elim fun _ ⟨_, h, _⟩ => h
theorem every_ok {v : Wind} (W : WOk 24 v) : WOk 288 (Vbreac.everything v) := by
  refine ⟨by simp [Vbreac.everything], fun s hs => ?_, fun s hs => ?_, by simp [Vbreac.everything]⟩
  · simp only [Vbreac.everything, List.mem_cons, List.not_mem_nil, or_false] at hs
    subst hs
    simp
  · simp only [Vbreac.everything, List.mem_cons, List.not_mem_nil, or_false] at hs
    subst hs
    refine ⟨?_, fun p hp => ?_⟩
    · have key : ∀ l : Wind, (∀ s ∈ l, s.velocities.length ≤ 24) → (l.flatMap fun s => s.velocities).length ≤ 24 * l.length := by
        intro l
        induction l with
        | nil => intro _; simp
        | cons x r ih =>
          intro h
          have h1 := h x (by simp)
          have h2 := ih fun y hy => h y (by simp [hy])
          rw [List.flatMap_cons, List.length_append, List.length_cons, Nat.mul_succ]
          omega
      have h1 := key v fun s hs => (W.vel s hs).1
      have h2 := W.len
      show (v.flatMap fun s => s.velocities).length ≤ 288
      omega
    · obtain ⟨s, hs, hp⟩ := List.mem_flatMap.mp hp
      exact (W.vel s hs).2 p hp
/-! ### row_bound -/
def spBound (K : PySem.W.Frag) (C : Addr) : Sp := fun vs H Q _ => ∃ (a : Addr) (v : Wind) (F : Fc) (J : Option (Addr × Fc)) (q : Addr) (rs : Row), vs = [.ref a, .ref q] ∧ FcJ K C H a v F J ∧ v ≠ [] ∧ WOk 24 v ∧ SqL K H q (refsV rs) ∧ (∀ r ∈ rs, PtA K H r.1 r.2) ∧ (∀ r ∈ rs, Bd.Within 1000000 r.2) ∧ 2 ≤ rs.length ∧ rs.length ≤ 30 ∧
  (Vbreac.bound v (pts rs) = none → ∀ H', Go K C H H' a v F J → Q .non H') ∧ (∀ f, Vbreac.bound v (pts rs) = some f → ∀ H' t, Go K C H H' a v F J → H' t = some (fracV f) → (∃ n, n ≤ 30 ∧ Sz.FOk n f) → Q (.ref t) H')
theorem okBound (T : Tx K mg) {tb : Addr} (N : Bs P w K mg base T tb) {k : Nat} : FnOk P w K mg base CX0 (k + 8) T.row_bound.f T.row_bound.fd ["forecast", "places"] (spBound K T.CForecast) := by
  have GO : FnOk P w K mg base CX0 (k + 7) T.Forecast_as_one_slice.f T.Forecast_as_one_slice.fd ["self"] (spOne K T.CForecast) := okOne T N
  have GL : FnOk P w K mg base CX0 (k + 7) T.leg_times.f T.leg_times.fd ["forecast", "start", "places"] (spLegs K T.CForecast) := okLegs T
  refine T.row_bound.fn.ok sc_row_bound (fun vs H Q E h => ?_) (fun cdv A outer s H vs Q E hr h => ?_)
  · obtain ⟨a, v, F, J, q, rs, rfl, _⟩ := h
    rfl
  · obtain ⟨a, v, F, J, q, rs, rfl, hJ, hv, W, hq, hR, hRw, h2, h30, kn, ks⟩ := h
    refine ⟨_, pss_cons (ps_set (i := 2) sc_row_bound.nd rfl (.inl rfl) (pe_call GL hr rfl T.leg_times.g T.leg_times.fn.kp T.leg_times.b .nil pass0 (pa_cons (pe_meth0 (pv 0) T.cForecast T.Forecast_as_one_slice.m GO hr T.Forecast_as_one_slice.b .nil pass0) (pa_cons (pe_tup (pa_cons pe_int (pa_cons pe_int pa_nil))) (pa_cons (pv 1) pa_nil)))))
      (pss_cons (ps_if (pt_cmpR op_lt (pe_callB call_len_seq (by rfl) T.nb.len_ PySem.boot_len (pa_cons (pv 2) pa_nil)) (pe_op op_sub (pe_callB call_len_seq (by rfl) T.nb.len_ PySem.boot_len (pa_cons (pv 1) pa_nil)) pe_int) (nomark _)) (pss_one (ps_ret pe_non)) pss_nil)
      (pss_one (ps_ret (pe_ix ix_list (pv 2) (pe_un un_neg pe_int) (fun _ _ => rfl))))), ?_⟩
    refine ⟨_, rfl, a, F.dx, _, rfl, hJ.1.ob, fc_no (by decide +kernel) (by decide +kernel) (by decide +kernel) (by decide +kernel) (by decide +kernel) _ _ _ _ _, a, v, F, J, rfl, hJ, W, fun H1 x G k1 hF1 nx hG gj fo => ?_⟩
    have i1 := KeptI.of1 k1 hJ.1.ob
    refine ⟨(by show 2 ≤ sizeLine; decide), fun st nst => ?_⟩
    have s2 := same_upd (o := .tup [.int 0, .int 1]) nst
    have i2 := i1.trans (.of s2)
    refine ⟨_, rfl, x, Vbreac.everything v, G, st, Vbreac.whole 0, q, rs, 288, rfl, hG.same s2, by simp [Vbreac.everything], every_ok W, SqT.of upd_same, Sz.whole_ok (by decide), i2.sqL hq, fun r hr' => i2.pt (hR r hr'), hRw, h30, fun H3 o fs G' k3 no ho hfs bfs lfs efs hG' al fo2 => ?_⟩
    have i3 := KeptI.of1 k3 (s2 _ _ hG.ob)
    have go : Go K T.CForecast H H3 a v F J := by
      refine ⟨{ F with jn := .ref x }, some (x, G'), i2.trans i3, fun T' t => k3.tabs (s2 _ _ hG.ob) ((k1.tabs hJ.1.ob t).ext s2), ⟨((hF1.same s2).kept1 k3 (s2 _ _ hG.ob) (Ne.symm nx)), rfl, nx, hG', al.jn.trans gj⟩, rfl, rfl, rfl, fun z u hz zJ => ⟨⟨zJ.1.ab, zJ.1.ah, zJ.1.hs, zJ.1.fnd⟩, fun y G2 e => ?_⟩⟩
      have e := Option.some.inj e
      cases e
      have zG := fo z u hz zJ
      by_cases ez : z = a
      · rw [ez] at zG ⊢
        exact fo2 a _ (s2 _ _ hF1.ob) zG
      · exact fo2 z u (s2 _ _ (k1 _ _ hz ez)) zG
    have lf : fs.length = (Sz.got (Vbreac.everything v) (Vbreac.whole 0) (pts rs)).length := by rw [← efs, List.length_map]
    have hb := Sz.bound_is v (pts rs) (by rw [pts_len]; exact h2)
    rw [← efs, pts_len, List.length_map] at hb
    refine ⟨_, rfl, o, _, rfl, .inl (SqL.of ho), _, rfl, q, _, rfl, .inl ((i2.trans i3).sqL hq), _, _, rfl, rfl, _, _, rfl, rfl, _, rfl, ?_⟩
    rw [frsV, List.length_map, refsV_len]
    refine ite2 (fun e => ?_) (fun e => ?_)
    · have e : (fs.length : Int) < (rs.length : Int) - 1 := of_decide_eq_true e
      rw [if_pos (by omega)] at hb
      exact kn hb H3 go
    · have e : ¬ (fs.length : Int) < (rs.length : Int) - 1 := fun z => e (decide_eq_true z)
      rw [if_neg (by omega)] at hb
      have hne : fs ≠ [] := by
        intro z
        rw [z] at e
        simp only [List.length_nil] at e
        omega
      obtain ⟨f0, hf0⟩ : ∃ f0, fs.getLast? = some f0 := ⟨_, List.getLast?_eq_some_getLast hne⟩
      rw [List.getLast?_map, hf0] at hb
      have hmem : f0 ∈ fs := List.mem_of_getLast? hf0
      have eL : atI (fs.map fun f => V.ref f.1) (-1) = some (.ref f0.1) := by
        obtain ⟨pre, hpre⟩ := List.getLast?_eq_some_iff.mp hf0
        rw [hpre, List.map_append]
        exact atI_last _ _
      exact ⟨_, rfl, _, rfl, o, _, _, _, rfl, rfl, SqL.of ho, eL, ks f0.2 hb H3 f0.1 go (hfs f0 hmem) (bfs f0 hmem)⟩
end
end Sw
set_option maxHeartbeats 4000000
namespace Sw
open PySem PySem.Spec PyProof.Rows L2 LamX
open Vbreac (Pt Frac Wind)
section
variable {P : Program} {w : World} {K : PySem.W.Frag} {mg : Str → Option Value} {base : Heap}
/-! ### are_in_order -/
def claimL (c : Pt × Int) : List Int := [c.1.x, c.1.y, c.2]
def orderOk (t : Int) (q : List (Pt × Int)) : Bool := ((t :: q.map fun x : Pt × Int => x.2).zip (q.map fun x : Pt × Int => x.2)).all fun x => decide (x.1 ≤ x.2)
def spOrder (K : PySem.W.Frag) : Sp := fun vs H Q _ => ∃ (t : Int) (a : Addr) (gs : Grp) (q : List (Pt × Int)), vs = [.int t, .ref a] ∧ SqL K H a (grpV gs) ∧ GrpA H gs ∧ gs.map (·.2) = q.map claimL ∧ q.length ≤ 100 ∧ ∀ H', Same H H' → Q (.bl (orderOk t q)) H'
theorem GrpA.same' {H H' : Hp} {gs : Grp} (s : Same H H') (h : GrpA H gs) : GrpA H' gs := GrpA.same s h
theorem okOrder (T : Tx K mg) {k : Nat} : FnOk P w K mg base CX0 (k + 1) T.are_in_order.f T.are_in_order.fd ["t", "claims"] (spOrder K) := by
  refine T.are_in_order.fn.ok sc_are_in_order (fun vs H Q E h => ?_) (fun cdv A outer s H vs Q E hr h => ?_)
  · obtain ⟨t, a, gs, q, rfl, _⟩ := h
    rfl
  · obtain ⟨t, a, gs, q, rfl, hS, hG, eg, hq, k⟩ := h
    refine ⟨_, pss_cons (ps_set (i := 2) sc_are_in_order.nd rfl (.inl rfl) (pe_op op_cat (pe_lst (pa_cons (pv 0) pa_nil))
        (pe_lc (own := [("x", 3), ("y", 4), ("u", 5)]) (g := gTup K 3 (gCons (gName 3) (gCons (gName 4) (gCons (gName 5) gNil)))) (tt := tYes) rfl sc_are_in_order.nd (pi_list (pv 1))
          (blkOk_by (N := ["t", "claims", "times", "x", "y", "u", "sooner", "later"]) (sc := defScope s_are_in_order) (by decide +kernel))
          (fun _ _ _ _ _ => pg_tup rfl (pgs_cons (pg_name (i := 3) sc_are_in_order.nd rfl (.inl rfl)) (pgs_cons (pg_name (i := 4) sc_are_in_order.nd rfl (.inl rfl)) (pgs_cons (pg_name (i := 5) sc_are_in_order.nd rfl (.inl rfl)) pgs_nil)))) (fun _ _ _ _ _ => pts_nil)
          (fun _ _ _ _ _ => pv 5))))
      (pss_one (ps_ret (pe_callB (cr_all rfl) (by rfl) T.nb.all_ (by decide +kernel) (pa_cons (pe_lc (own := [("sooner", 6), ("later", 7)]) (g := gTup K 2 (gCons (gName 6) (gCons (gName 7) gNil))) (tt := tYes) rfl sc_are_in_order.nd
          (pi_zip (by rfl) T.nb.zip_ (pa_cons (pv 2) (pa_cons (pe_slice sl_list (pv 2) (po_some pe_int) po_none) pa_nil)))
          (blkOk_by (N := ["t", "claims", "times", "x", "y", "u", "sooner", "later"]) (sc := defScope s_are_in_order) (by decide +kernel))
          (fun _ _ _ _ _ => pg_tup rfl (pgs_cons (pg_name (i := 6) sc_are_in_order.nd rfl (.inl rfl)) (pgs_cons (pg_name (i := 7) sc_are_in_order.nd rfl (.inl rfl)) pgs_nil))) (fun _ _ _ _ _ => pts_nil)
          (fun _ _ _ _ _ => pe_cmpR op_le (pv 6) (pv 7) (nomark _))) pa_nil)))), ?_⟩
    refine ⟨_, rfl, (by show 1 ≤ sizeLine; decide), fun l nl => ?_⟩
    have s1 := same_upd (o := .lst [.int t]) nl
    refine ⟨_, rfl, a, rfl, ⟨_, s1.seq hS⟩, fun D nD => lc_list (K := K) (a := a) (xs := grpV gs) (fun i H' => Same (upd H l (.lst [.int t])) H' ∧ H' D = some (.lst (((q.take i).map fun x : Pt × Int => x.2).map V.int)))
      ⟨same_upd nD, upd_same⟩ (fun i H' _ ⟨sm, _⟩ => (s1.trans sm).seq hS) ?_ ?_⟩
    · rintro i x H' hi ⟨sm, hD⟩
      obtain ⟨g, hg1, rfl⟩ := grp_get hi
      obtain ⟨p, hp, ep⟩ := grp_at eg hg1
      have hT := (s1.trans sm) _ _ (hG g (List.mem_of_getElem? hg1))
      rw [ep] at hT
      have il := (List.getElem?_eq_some_iff.mp hp).1
      refine ⟨g.1, _, rfl, SqT.of hT, rfl, _, _, rfl, _, _, rfl, _, _, rfl, rfl, rfl, _, rfl, _, hD, ?_, same_grow nD sm, ?_⟩
      · rw [List.length_map, List.length_map, List.length_take, sizeLine_eq]
        omega
      · rw [upd_same, take_snoc hp, List.map_append, List.map_append]
        rfl
    · rintro H1 ⟨sm, hD⟩
      rw [grpV, List.length_map, grp_len eg, List.take_length] at hD
      refine ⟨l, D, _, _, rfl, rfl, sm _ _ upd_same, hD, ?_, fun e ne => ?_⟩
      · rw [List.length_map, List.length_map, sizeLine_eq]
        show 1 + _ ≤ _
        omega
      have eT : [V.int t] ++ (q.map fun x : Pt × Int => x.2).map V.int = (t :: q.map fun x : Pt × Int => x.2).map V.int := rfl
      have s3 := same_upd (o := .lst ([V.int t] ++ (q.map fun x : Pt × Int => x.2).map V.int)) ne
      refine ⟨_, rfl, _, rfl, _, rfl, e, _, rfl, SqL.of upd_same, fun c nc => ?_⟩
      rw [cut_from1]
      have s4 := same_upd (o := .lst (([V.int t] ++ (q.map fun x : Pt × Int => x.2).map V.int).drop 1)) nc
      have he4 := s4 _ _ (upd_same (H := H1) (a := e) (o := .lst ([V.int t] ++ (q.map fun x : Pt × Int => x.2).map V.int)))
      refine ⟨e, c, (t :: q.map fun x : Pt × Int => x.2).map V.int, (q.map fun x : Pt × Int => x.2).map V.int, rfl, SqL.of he4, SqL.of upd_same, fun D2 nD2 =>
        lc_it (walk_zip (K := K) (a := e) (b := c) (xs := (t :: q.map fun x : Pt × Int => x.2).map V.int) (ys := (q.map fun x : Pt × Int => x.2).map V.int) (n := q.length) (by simp))
          (fun j H' => Same (upd (upd H1 e (.lst ([V.int t] ++ (q.map fun x : Pt × Int => x.2).map V.int))) c (.lst (([V.int t] ++ (q.map fun x : Pt × Int => x.2).map V.int).drop 1))) H' ∧ H' D2 = some (.lst (((((t :: q.map fun x : Pt × Int => x.2).zip (q.map fun x : Pt × Int => x.2)).take j).map fun x => decide (x.1 ≤ x.2)).map V.bl)))
          ⟨same_upd nD2, upd_same⟩ (fun j H' _ ⟨sm, _⟩ => ⟨SqL.of (sm _ _ he4), SqL.of (sm _ _ upd_same)⟩) ?_ ?_⟩
      · rintro j x H7 H8 hj ⟨sm7, hD2⟩ ⟨TT, x1, y1, rfl, nT, rfl, hx1, hy1⟩
        obtain ⟨l1, hl1, rfl⟩ := ints_get hx1
        obtain ⟨r1, hr1, rfl⟩ := ints_get hy1
        have sT := same_upd (o := .tup [.int l1, .int r1]) nT
        have hz : ((t :: q.map fun x : Pt × Int => x.2).zip (q.map fun x : Pt × Int => x.2))[j]? = some (l1, r1) := List.getElem?_zip_eq_some.mpr ⟨hl1, hr1⟩
        refine ⟨TT, _, rfl, SqT.of upd_same, rfl, _, _, rfl, _, _, rfl, rfl, rfl, _, rfl, _, rfl, _, _, rfl, rfl, _, sT _ _ hD2, ?_, same_grow nD2 (sm7.trans sT), ?_⟩
        · rw [List.length_map, List.length_map, List.length_take, sizeLine_eq]
          omega
        · rw [upd_same, take_snoc hz, List.map_append, List.map_append]
          rfl
      · rintro H7 ⟨sm7, hD2⟩
        rw [List.take_of_length_le (by simp)] at hD2
        refine ⟨D2, _, rfl, SqL.of hD2, ?_⟩
        rw [all_map]
        exact k _ ((s1.trans sm).trans (s3.trans (s4.trans sm7)))
/-! ### can_follow, first_false_claim -/
def folOk (v : Wind) (t : Int) (p : Pt) (x : Pt × Int) : Bool := match Vbreac.least v (Vbreac.whole t) (Vbreac.minus x.1 p) with
  | .at_ u _ _ => !Vbreac.less (Vbreac.whole x.2) u
  | .never _ => false
theorem by_fol {m : Nat} {v : Wind} (W : WOk m v) (hv : v ≠ []) {t : Int} (ht : 0 ≤ t ∧ t ≤ 1000000) {p : Pt} {x : Pt × Int} {a : Lt.Arr} (hd : Bd.Within 2000000 (Vbreac.minus x.1 p))
    (h : Lt.leastM (v.map (·.from_)) (Vbreac.sails v) (Vbreac.minus x.1 p) t 1 = some a) : byOf x.2 1 a = folOk v t p x := by
  have hf := Sz.whole_ok ht
  have hS := sized_of W hf hd h
  unfold byOf folOk
  by_cases e : 0 < a.lower
  · rw [Sz.least_yes W.up hv hf.rep h e, decide_eq_true e, Bool.true_and]
    show decide ((Lt.timeOf 1 a).num ≤ x.2 * ((Lt.timeOf 1 a).den : Int)) = !decide (x.2 * ((Lt.timeOf 1 a).den : Int) < (Lt.timeOf 1 a).num * 1)
    rw [← decide_not]
    exact decide_eq_decide.mpr (by omega)
  · rw [Sz.least_no W.up hv hf.rep h hS.l0 e, decide_eq_false e, Bool.false_and]
def spFollow (K : PySem.W.Frag) (C : Addr) : Sp := fun vs H Q _ => ∃ (fa : Addr) (v : Wind) (F : Fc) (b c : Addr) (p : Pt) (t : Int) (x : Pt × Int) (m : Nat), vs = [.ref fa, .ref b, .ref c] ∧ FcA K C H fa v F ∧ v ≠ [] ∧ WOk m v ∧ SqT K H b [.int p.x, .int p.y, .int t] ∧ SqT K H c [.int x.1.x, .int x.1.y, .int x.2] ∧ Bd.Within 1000000 p ∧ Bd.Within 1000000 x.1 ∧ (0 ≤ t ∧ t ≤ 1000000) ∧ (0 ≤ x.2 ∧ x.2 ≤ 1000000) ∧
  ∀ H' F', Kept1 fa H H' → FcA K C H' fa v F' → Alike F F' → (∀ z u, H z = some u → Off z F → Off z F') → Q (.bl (folOk v t p x)) H'
theorem okFollow (T : Tx K mg) {k : Nat} : FnOk P w K mg base CX0 (k + 7) T.can_follow.f T.can_follow.fd ["forecast", "before", "claim"] (spFollow K T.CForecast) := by
  have GL : FnOk P w K mg base CX0 (k + 6) T.least_time.f T.least_time.fd ["forecast", "x", "y", "start"] (spLeast K T.CForecast T.CArrival) := okLeast T
  have GB : FnOk P w K mg base CX0 (k + 6) T.Arrival_happens_by.f T.Arrival_happens_by.fd ["self", "u"] (spBy K T.CArrival) := okBy T
  refine T.can_follow.fn.ok sc_can_follow (fun vs H Q E h => ?_) (fun cdv A outer s H vs Q E hr h => ?_)
  · obtain ⟨fa, v, F, b, c, p, t, x, m, rfl, _⟩ := h
    rfl
  · obtain ⟨fa, v, F, b, c, p, t, x, m, rfl, hF, hv, W, hb, hc, wp, wx, ht, hx, k⟩ := h
    refine ⟨_, pss_cons (ps_set (i := 3) sc_can_follow.nd rfl (.inl rfl) (pe_call GL hr rfl T.least_time.g T.least_time.fn.kp T.least_time.b .nil pass0 (pa_cons (pv 0)
            (pa_cons (pe_op op_sub (pe_ix ix_tup (pv 2) pe_int (fun _ _ => rfl)) (pe_ix ix_tup (pv 1) pe_int (fun _ _ => rfl)))
            (pa_cons (pe_op op_sub (pe_ix ix_tup (pv 2) pe_int (fun _ _ => rfl)) (pe_ix ix_tup (pv 1) pe_int (fun _ _ => rfl))) (pa_cons (pe_tup (pa_cons (pe_ix ix_tup (pv 1) pe_int (fun _ _ => rfl)) (pa_cons pe_int pa_nil))) pa_nil))))))
      (pss_one (ps_ret (pe_meth (pv 3) T.cArrival T.Arrival_happens_by.m GB hr T.Arrival_happens_by.b .nil pass0 (pa_cons (pe_ix ix_tup (pv 2) pe_int (fun _ _ => rfl)) pa_nil)))), ?_⟩
    have hd := minus_in wp wx
    refine ⟨_, rfl, _, rfl, c, _, _, _, rfl, rfl, hc, atI_nat (j := 0) rfl, _, rfl, b, _, _, _, rfl, rfl, hb, atI_nat (j := 0) rfl, _, _, rfl, rfl,
      _, rfl, c, _, _, _, rfl, rfl, hc, atI_nat (j := 1) rfl, _, rfl, b, _, _, _, rfl, rfl, hb, atI_nat (j := 1) rfl, _, _, rfl, rfl,
      _, rfl, b, _, _, _, rfl, rfl, hb, atI_nat (j := 2) rfl, (by show 2 ≤ sizeLine; decide), fun st nst => ?_⟩
    have s1 := same_upd (o := .tup [.int t, .int 1]) nst
    refine ⟨fa, v, F, Vbreac.minus x.1 p, st, t, 1, m, rfl, hF.same s1, hv, W, SqT.of upd_same, by decide, hd, fun H3 xa a fn k3 nxa hF3 hA harr fo => ?_⟩
    have hf := Sz.whole_ok ht
    have hS := sized_of W hf hd harr
    have hbt := (Sz.lim_of hf hS).bits (by omega) (k := 2000) (by decide)
    have i3 := KeptI.of1 k3 (s1 _ _ hF.ob)
    obtain ⟨dxa, sa, ta, pa, hxa, _⟩ := hA
    have hA : ArrA K T.CArrival H3 xa a 1 := ⟨⟨dxa, sa, ta, pa, hxa, by assumption⟩⟩
    refine ⟨_, rfl, xa, dxa, _, rfl, hxa, ar_no (by decide +kernel) (by decide +kernel) (by decide +kernel) (by decide +kernel) _ _ _ _, _, rfl, c, _, _, _, rfl, rfl, ((KeptI.of s1).trans i3).sqT hc, atI_nat (j := 2) rfl, xa, a, 1, x.2, rfl, hA, by decide, hbt.1, hbt.2.1, hbt.2.2.1, hbt.2.2.2, ?_, fun H4 s4 => ?_⟩
    · simp only [Small]
      omega
    · rw [by_fol W hv ht hd harr]
      exact k H4 _ ((Kept1.of s1).trans (k3.trans (Kept1.of s4))) (hF3.same s4) (Alike.refl F).fnd (fun z u hz zF => fo z u (s1 _ _ hz) zF)
theorem fast_cons (v : Wind) (n : Nat) (t : Int) (p : Pt) (x : Pt × Int) (r : List (Pt × Int)) : Vbreac.tooFast v n t p (x :: r) = if folOk v t p x = true then Vbreac.tooFast v (n + 1) x.2 x.1 r else some n := by
  cases h : Vbreac.least v (Vbreac.whole t) (Vbreac.minus x.1 p) with
  | never n =>
    simp only [Vbreac.tooFast, folOk, h]
    rfl
  | at_ u i q =>
    simp only [Vbreac.tooFast, folOk, h]
    cases Vbreac.less (Vbreac.whole x.2) u <;> rfl
def spFalse (K : PySem.W.Frag) (C : Addr) : Sp := fun vs H Q _ => ∃ (fa : Addr) (v : Wind) (F : Fc) (t : Int) (a : Addr) (gs : Grp) (q : List (Pt × Int)) (m : Nat), vs = [.ref fa, .int t, .ref a] ∧ FcA K C H fa v F ∧ v ≠ [] ∧ WOk m v ∧ SqL K H a (grpV gs) ∧ GrpA H gs ∧ gs.map (·.2) = q.map claimL ∧ q.length ≤ 100 ∧ (0 ≤ t ∧ t ≤ 1000000) ∧ (∀ x ∈ q, Bd.Within 1000000 x.1 ∧ (0 ≤ x.2 ∧ x.2 ≤ 1000000)) ∧
  ∀ H' F', Kept1 fa H H' → FcA K C H' fa v F' → Alike F F' → (∀ z u, H z = some u → Off z F → Off z F') → Q (placeV (Vbreac.tooFast v 0 t Vbreac.zero q)) H'
theorem okFalse (T : Tx K mg) {k : Nat} : FnOk P w K mg base CX0 (k + 8) T.first_false_claim.f T.first_false_claim.fd ["forecast", "t", "claims"] (spFalse K T.CForecast) := by
  have GF : FnOk P w K mg base CX0 (k + 7) T.can_follow.f T.can_follow.fd ["forecast", "before", "claim"] (spFollow K T.CForecast) := okFollow T
  refine T.first_false_claim.fn.ok sc_first_false_claim (fun vs H Q E h => ?_) (fun cdv A outer s H vs Q E hr h => ?_)
  · obtain ⟨fa, v, F, t, a, gs, q, m, rfl, _⟩ := h
    rfl
  · obtain ⟨fa, v, F, t, a, gs, q, m, rfl, hF, hv, W, hS, hG, eg, hq, ht, hw, k⟩ := h
    refine ⟨_, pss_cons (ps_set (i := 3) sc_first_false_claim.nd rfl (.inl rfl) (pe_tup (pa_cons pe_int (pa_cons pe_int (pa_cons (pv 1) pa_nil)))))
      (pss_cons (ps_for PassesOwn.never rfl (pi_enum (by rfl) T.nb.enumerate_ (pa_cons (pv 2) pa_nil))
          (pg_tup rfl (pgs_cons (pg_name (i := 4) sc_first_false_claim.nd rfl (.inl rfl)) (pgs_cons (pg_name (i := 5) sc_first_false_claim.nd rfl (.inl rfl)) pgs_nil)))
        (pss_cons (ps_if (pt_not (pt_val (pe_call GF hr rfl T.can_follow.g T.can_follow.fn.kp T.can_follow.b .nil pass0 (pa_cons (pv 0) (pa_cons (pv 3) (pa_cons (pv 5) pa_nil)))))) (pss_one (ps_ret (pv 4))) pss_nil)
        (pss_one (ps_set (i := 3) sc_first_false_claim.nd rfl (.inl rfl) (pv 5)))))
      (pss_one (ps_ret pe_non))), ?_⟩
    refine ⟨_, rfl, (by show 3 ≤ sizeLine; decide), fun b0 nb0 => ?_⟩
    have s1 := same_upd (o := .tup [.int 0, .int 0, .int t]) nb0
    refine ⟨_, rfl, a, _, rfl, s1.seq hS, for_it (walk_enum (K := K) (a := a) (xs := grpV gs)) (fun i σ H' => ∃ (v4 v5 : Option V) (ba : Addr) (p : Pt) (tt : Int) (F' : Fc), σ = [some (.ref fa), some (.int t), some (.ref a), some (.ref ba), v4, v5] ∧ Kept1 fa H H' ∧ SqT K H' ba [.int p.x, .int p.y, .int tt] ∧ Bd.Within 1000000 p ∧ (0 ≤ tt ∧ tt ≤ 1000000) ∧ FcA K T.CForecast H' fa v F' ∧ Alike F F' ∧ (∀ z u, H z = some u → Off z F → Off z F') ∧ Vbreac.tooFast v i tt p (q.drop i) = Vbreac.tooFast v 0 t Vbreac.zero q)
      ⟨none, none, b0, Vbreac.zero, t, F, rfl, Kept1.of s1, SqT.of upd_same, by simp [Bd.Within, Vbreac.zero], ht, hF.same s1, Alike.refl F, (fun _ _ _ z => z), rfl⟩
      (fun i σ H' _ ⟨_, _, _, _, _, _, _, z, _⟩ => (KeptI.of1 z hF.ob).sqL hS) ?_ ?_⟩
    · rintro i x σ H1 H2 hi ⟨v4, v5, ba, p, tt, F', rfl, k1, hba, wp, htt, hF1, al, fo, ess⟩ ⟨TT, x1, y1, rfl, nT, rfl, hx1, hy1⟩
      cases hx1
      obtain ⟨g, hg1, rfl⟩ := grp_get hy1
      obtain ⟨c, hc, ec⟩ := grp_at eg hg1
      have sT := same_upd (o := .tup [.int (i : Nat), .ref g.1]) nT
      have i1 := KeptI.of1 k1 hF.ob
      have hT := sT _ _ (i1.tup (hG g (List.mem_of_getElem? hg1)))
      rw [ec] at hT
      have hcw := hw c (List.mem_of_getElem? hc)
      have hdrop : q.drop i = c :: q.drop (i + 1) := by
        obtain ⟨a1, b1⟩ := List.getElem?_eq_some_iff.mp hc
        rw [← List.getElem_cons_drop (h := a1), b1]
      rw [hdrop, fast_cons] at ess
      refine ⟨TT, _, rfl, SqT.of upd_same, rfl, _, _, rfl, _, _, rfl, rfl, _, rfl, _, rfl, _, rfl, fa, v, F', ba, g.1, p, tt, c, m, rfl, hF1.same sT, hv, W, sT.sqT hba, SqT.of hT, wp, hcw.1, htt, hcw.2, fun H3 F3 k3 hF3 al3 fo3 => ?_⟩
      have kA : Kept1 fa H H3 := k1.trans ((Kept1.of sT).trans k3)
      have foA : ∀ z u, H z = some u → Off z F → Off z F3 := fun z u hz zF => by
        have zF' := fo z u hz zF
        by_cases ez : z = fa
        · rw [ez] at zF' ⊢
          exact fo3 fa _ (sT _ _ hF1.ob) zF'
        · exact fo3 z u (sT _ _ (k1 _ _ hz ez)) zF'
      refine ⟨_, rfl, ite2 (fun e => ?_) (fun e => ?_)⟩
      · have e : ¬ folOk v tt p c = true := by simpa using e
        rw [if_neg e] at ess
        refine ⟨_, rfl, ?_⟩
        have := k H3 F3 kA hF3 (al.trans al3) foA
        rw [← ess] at this
        exact this
      · have e : folOk v tt p c = true := by simpa using e
        rw [if_pos e] at ess
        have i3 := KeptI.of1 k3 (sT _ _ hF1.ob)
        exact ⟨_, rfl, _, _, g.1, c.1, c.2, F3, rfl, kA, SqT.of (i3.tup hT), hcw.1, hcw.2, hF3, al.trans al3, foA, ess⟩
    · rintro σ H1 ⟨v4, v5, ba, p, tt, F', rfl, k1, hba, wp, htt, hF1, al, fo, ess⟩
      rw [grpV, List.length_map, grp_len eg, List.drop_length] at ess
      have := k H1 F' k1 hF1 al fo
      rw [← ess] at this
      exact this
end
end Sw
set_option maxHeartbeats 4000000
namespace Sw
open PySem PySem.Spec PyProof.Rows L2 LamX
open Vbreac (Pt Frac Wind)
section
variable {P : Program} {w : World} {K : PySem.W.Frag} {mg : Str → Option Value} {base : Heap}
/-! ### greatest_speed -/
theorem axis_ahead {d : Pt} (h : d ≠ Vbreac.zero) : ∃ n ∈ Vbreac.AXES, 0 < Vbreac.dot n d := by
  by_cases hx : 0 < d.x
  · exact ⟨⟨1, 0⟩, by simp [Vbreac.AXES], by simp [Vbreac.dot]; omega⟩
  · by_cases hx2 : d.x < 0
    · exact ⟨⟨-1, 0⟩, by simp [Vbreac.AXES], by simp [Vbreac.dot]; omega⟩
    · by_cases hy : 0 < d.y
      · exact ⟨⟨0, 1⟩, by simp [Vbreac.AXES], by simp [Vbreac.dot]; omega⟩
      · by_cases hy2 : d.y < 0
        · exact ⟨⟨0, -1⟩, by simp [Vbreac.AXES], by simp [Vbreac.dot]; omega⟩
        · exact absurd (Hu.pt_ext (by show d.x = 0; omega) (by show d.y = 0; omega)) h
theorem speed_pos {h : List Pt} {d : Pt} (hd : d ≠ Vbreac.zero) {a : Lt.Arr} (e : Lt.leastM [0] [h] d 0 1 = some a) (hl : 0 < a.lower) : 0 < a.upper := by
  have e : some (Lt.Arr.mk 0 (max 0 (0 * ((1 : Nat) : Int))) (Lt.bestOf (Vbreac.directions [h]) [h] 0 ((Vbreac.directions [h]).map fun n => Vbreac.dot n d * ((1 : Nat) : Int))).1 (Lt.bestOf (Vbreac.directions [h]) [h] 0 ((Vbreac.directions [h]).map fun n => Vbreac.dot n d * ((1 : Nat) : Int))).2.1 (Lt.dirOf (Vbreac.directions [h]) (Lt.bestOf (Vbreac.directions [h]) [h] 0 ((Vbreac.directions [h]).map fun n => Vbreac.dot n d * ((1 : Nat) : Int))).2.2)) = some a := e
  have e := Option.some.inj e
  subst e
  have most := Lt.take_most (lacking := (Vbreac.directions [h]).map fun n => Vbreac.dot n d * ((1 : Nat) : Int)) (Lt.row_nn (Vbreac.directions [h]) [h] 0) (Vbreac.directions [h]).length
  obtain ⟨n, hn, hp⟩ := axis_ahead hd
  have hmem : n ∈ Vbreac.directions [h] := by
    unfold Vbreac.directions
    rw [Hu.firsts_mem, List.mem_append]
    exact .inr hn
  obtain ⟨k, hk, ek⟩ := List.getElem_of_mem hmem
  have le := most.le hl k hk
  have gl : ((Vbreac.directions [h]).map fun n => Vbreac.dot n d * ((1 : Nat) : Int)).getD k 0 = Vbreac.dot n d := by
    rw [List.getD_eq_getElem?_getD, List.getElem?_map, List.getElem?_eq_getElem hk, ek]
    show Vbreac.dot n d * 1 = _
    omega
  rw [gl] at le
  have nn := most.nn
  have l2 : 0 < Vbreac.dot n d * (Lt.takeN ((Vbreac.directions [h]).map fun n => Vbreac.dot n d * ((1 : Nat) : Int)) (Lt.rowOf (Vbreac.directions [h]) [h] 0) (Vbreac.directions [h]).length).2.1 := Int.mul_pos hp hl
  show 0 < (Lt.takeN _ _ _).1
  rcases Int.lt_or_eq_of_le nn with z | z
  · exact z
  · exfalso
    rw [← z, Int.zero_mul] at le
    omega
theorem along_is {h : List Pt} {d : Pt} {a : Lt.Arr} (hl : Vbreac.least [⟨0, h⟩] (Vbreac.whole 0) d = .at_ (Lt.timeOf 1 a) a.number a.proof) (hp : 0 < (Lt.timeOf 1 a).num) (hr : Fr.Rep (Lt.timeOf 1 a) (Lt.timeOf 1 a).num (Lt.timeOf 1 a).den) :
    Vbreac.along h d = ⟨((Lt.timeOf 1 a).den : Int), (Lt.timeOf 1 a).num.natAbs⟩ := by
  unfold Vbreac.along
  rw [hl]
  simp only
  rw [if_neg (by omega)]
  have g : Nat.gcd (Lt.timeOf 1 a).num.natAbs (Lt.timeOf 1 a).den = 1 := by
    have := Fr.low_coprime (n := (Lt.timeOf 1 a).num) hr.1
    rwa [← hr.2] at this
  have g2 : Nat.gcd ((Lt.timeOf 1 a).den : Int).natAbs (Lt.timeOf 1 a).num.natAbs = 1 := by
    rw [Int.natAbs_natCast, Nat.gcd_comm]
    exact g
  simp only [Vbreac.lowest, g2, Nat.div_one]
  simp
def spSpeed (K : PySem.W.Frag) : Sp := fun vs H Q _ => ∃ (q : Addr) (rs : Row) (d : Pt), vs = [.ref q, .int d.x, .int d.y] ∧ H q = some (.lst (refsV rs)) ∧ RowA K H rs ∧ rs.length ≤ 300 ∧ (∀ r ∈ rs, Bd.Within 1000 r.2) ∧ d ≠ Vbreac.zero ∧ Bd.Within 1000 d ∧
  ∀ H' t, Same H H' → H' t = some (fracV (Vbreac.along (pts rs) d)) → Bits 1900 (Vbreac.along (pts rs) d).num → Bits 1900 (Vbreac.along (pts rs) d).den → Q (.ref t) H'
theorem okSpeed (T : Tx K mg) {tb : Addr} (N : Bs P w K mg base T tb) {k : Nat} : FnOk P w K mg base CX0 (k + 7) T.greatest_speed.f T.greatest_speed.fd ["corners", "a", "b"] (spSpeed K) := by
  have GO : FnOk P w K mg base CX0 (k + 6) T.lone_slice.f T.lone_slice.fd ["velocities"] (spLone K T.CForecast) := okLone T N
  have GL : FnOk P w K mg base CX0 (k + 6) T.least_time.f T.least_time.fd ["forecast", "x", "y", "start"] (spLeast K T.CForecast T.CArrival) := okLeast T
  have GH : FnOk P w K mg base CX0 (k + 6) T.Arrival_happens.f T.Arrival_happens.fd ["self"] (spHapp K T.CArrival) := okHapp T
  have GT : FnOk P w K mg base CX0 (k + 6) T.Arrival_time.f T.Arrival_time.fd ["self"] (spTime K T.CArrival) := okTime T
  refine T.greatest_speed.fn.ok sc_greatest_speed (fun vs H Q E h => ?_) (fun cdv A outer s H vs Q E hr h => ?_)
  · obtain ⟨q, rs, d, rfl, _⟩ := h
    rfl
  · obtain ⟨q, rs, d, rfl, hq, hR, hlen, hw, hd0, hd, k⟩ := h
    refine ⟨_, pss_cons (ps_set (i := 3) sc_greatest_speed.nd rfl (.inl rfl) (pe_call GL hr rfl T.least_time.g T.least_time.fn.kp T.least_time.b .nil pass0 (pa_cons (pe_call GO hr rfl T.lone_slice.g T.lone_slice.fn.kp T.lone_slice.b .nil pass0 (pa_cons (pv 0) pa_nil))
            (pa_cons (pv 1) (pa_cons (pv 2) (pa_cons (pe_tup (pa_cons pe_int (pa_cons pe_int pa_nil))) pa_nil))))))
      (pss_cons (ps_if (pt_not (pt_val (pe_meth0 (pv 3) T.cArrival T.Arrival_happens.m GH hr T.Arrival_happens.b .nil pass0))) (pss_one (ps_ret (pe_tup (pa_cons pe_int (pa_cons pe_int pa_nil))))) pss_nil)
      (pss_cons (ps_set (i := 4) sc_greatest_speed.nd rfl (.inl rfl) (pe_meth0 (pv 3) T.cArrival T.Arrival_time.m GT hr T.Arrival_time.b .nil pass0))
      (pss_one (ps_ret (pe_tup (pa_cons (pe_ix ix_tup (pv 4) pe_int (fun _ _ => rfl)) (pa_cons (pe_ix ix_tup (pv 4) pe_int (fun _ _ => rfl)) pa_nil))))))), ?_⟩
    have W : WOk 300 [⟨0, pts rs⟩] := by
      refine ⟨by simp, fun s hs => ?_, fun s hs => ?_, by simp⟩
      · simp only [List.mem_cons, List.not_mem_nil, or_false] at hs
        subst hs
        simp
      · simp only [List.mem_cons, List.not_mem_nil, or_false] at hs
        subst hs
        refine ⟨by rw [pts_len]; exact hlen, fun p hp => ?_⟩
        obtain ⟨r, hr', rfl⟩ := List.mem_map.mp hp
        exact hw r hr'
    refine ⟨_, rfl, q, rs, rfl, hq, hR, hlen, fun H1 x F s1 nx hF fj fo => ?_⟩
    refine ⟨_, rfl, _, rfl, (by show 2 ≤ sizeLine; decide), fun st nst => ?_⟩
    have s2 := same_upd (o := .tup [.int 0, .int 1]) nst
    have hd2 : Bd.Within 2000000 d := by
      simp only [Bd.Within] at *
      omega
    refine ⟨x, _, F, d, st, 0, 1, 300, rfl, hF.same s2, by simp, W, SqT.of upd_same, by decide, hd2, fun H3 xa a fn k3 nxa hF3 hA harr fo3 => ?_⟩
    have hf : Sz.FOk 0 (Vbreac.whole 0) := Sz.whole_ok (by decide)
    have hS := sized_of W hf hd2 harr
    have hbt := (Sz.lim_of hf hS).bits (by omega) (k := 2000) (by decide)
    have sA : Same H H3 := fun b o e => k3 _ _ ((s1.trans s2) _ _ e) (ne_of_none e nx)
    obtain ⟨dxa, sa, ta, pa, hxa, _⟩ := hA
    have hA : ArrA K T.CArrival H3 xa a 1 := ⟨⟨dxa, sa, ta, pa, hxa, by assumption⟩⟩
    refine ⟨_, rfl, xa, dxa, _, rfl, hxa, ar_no (by decide +kernel) (by decide +kernel) (by decide +kernel) (by decide +kernel) _ _ _ _, xa, a, 1, rfl, hA, by decide, _, rfl, ite2 (fun e => ?_) (fun e => ?_)⟩
    · have e : ¬ 0 < a.lower := by simpa using e
      have ea : Vbreac.along (pts rs) d = Vbreac.whole 0 := by
        unfold Vbreac.along
        rw [Sz.least_no W.up (by simp) hf.rep harr hS.l0 e]
      refine ⟨(by show 2 ≤ sizeLine; decide), fun t nt => k _ t (sA.trans (same_upd nt)) ?_ ?_ ?_⟩
      · rw [ea]
        exact upd_same
      · rw [ea]
        show (0 : Int).natAbs < 2 ^ 1900
        exact Nat.two_pow_pos _
      · rw [ea]
        show (1 : Int).natAbs < 2 ^ 1900
        exact Nat.one_lt_two_pow (by decide)
    · have e : 0 < a.lower := by simpa using e
      refine ⟨_, rfl, xa, dxa, _, rfl, hxa, ar_no (by decide +kernel) (by decide +kernel) (by decide +kernel) (by decide +kernel) _ _ _ _, xa, a, 1, rfl, hA, by decide, e, hbt.1, hbt.2.1, hbt.2.2.1, hbt.2.2.2, fun u nu => ?_⟩
      have sU := same_upd (o := fracV (Lt.timeOf 1 a)) nu
      have step : Sz.FOk 1 (Lt.timeOf 1 a) := Sz.step_ok hf hS e
      have up := speed_pos hd0 harr e
      have np : 0 < (Lt.timeOf 1 a).num := by
        have r := Sz.time_rep (parts := 1) (a := a) (by decide) e
        have := r.val
        have p1 : 0 < a.since * a.lower + a.upper := by
          have := Int.mul_nonneg hS.s0 hS.l0
          omega
        have p2 : 0 < (a.since * a.lower + a.upper) * ((Lt.timeOf 1 a).den : Int) := Int.mul_pos p1 (by omega)
        rw [← this.1] at p2
        exact Int.pos_of_mul_pos_left p2 (by have := r.1; omega)
      have ea := along_is (Sz.least_yes W.up (by simp) hf.rep harr e) np step.rep
      have bits := step.bits (by omega) (k := 1900) (by decide)
      refine ⟨_, rfl, u, _, _, _, rfl, rfl, SqT.of upd_same, atI_nat (j := 1) rfl, _, rfl, u, _, _, _, rfl, rfl, SqT.of upd_same, atI_nat (j := 0) rfl, (by show 2 ≤ sizeLine; decide), fun t nt => k _ t (sA.trans (sU.trans (same_upd nt))) ?_ ?_ ?_⟩
      · rw [ea, upd_same]
        show _ = some (HO.tup [.int ((Lt.timeOf 1 a).den : Int), .int (((Lt.timeOf 1 a).num.natAbs : Nat) : Int)])
        rw [Int.natAbs_of_nonneg (by omega)]
      · rw [ea]
        exact bits.2
      · rw [ea]
        show (((Lt.timeOf 1 a).num.natAbs : Nat) : Int).natAbs < 2 ^ 1900
        rw [Int.natAbs_natCast]
        exact bits.1
end
end Sw
set_option maxHeartbeats 4000000
namespace Sw
open PySem PySem.Spec PyProof.Rows L2 LamX
open Vbreac (Pt Frac Wind)
section
variable {P : Program} {w : World} {K : PySem.W.Frag} {mg : Str → Option Value} {base : Heap}
/-! ### total, stretched, comes_before -/
def RowP (K : PySem.W.Frag) (H : Hp) (rs : Row) : Prop := ∀ r ∈ rs, PtA K H r.1 r.2
theorem RowP.same {H H' : Hp} {rs : Row} (s : Same H H') (h : RowP K H rs) : RowP K H' rs := fun r hr => same_pt s (h r hr)
theorem RowP.updL {H : Hp} {D : Addr} {ys : List V} {rs : Row} {o : HO} (hD : H D = some (.lst ys)) (h : RowP K H rs) : RowP K (upd H D o) rs := fun r hr => sqT_updL hD (h r hr)
theorem RowP.snoc {H : Hp} {rs : Row} {u : Addr} {p : Pt} (h : RowP K H rs) (hu : PtA K H u p) : RowP K H (rs ++ [(u, p)]) := fun r hr => by
  rcases List.mem_append.1 hr with z | z
  · exact h r z
  · simp only [List.mem_cons, List.not_mem_nil, or_false] at z
    rw [z]
    exact hu
def spTot (K : PySem.W.Frag) : Sp := fun vs H Q _ => ∃ (a b : Addr) (p q : Pt), vs = [.ref a, .ref b] ∧ PtA K H a p ∧ PtA K H b q ∧
  ∀ t, H t = none → Q (.ref t) (upd H t (.tup [.int (Vbreac.plus p q).x, .int (Vbreac.plus p q).y]))
theorem okTot (T : Tx K mg) {k : Nat} : FnOk P w K mg base CX0 (k + 1) T.total.f T.total.fd ["p", "q"] (spTot K) := by
  refine T.total.fn.ok sc_total (fun vs H Q E h => ?_) (fun cdv A outer s H vs Q E hr h => ?_)
  · obtain ⟨a, b, p, q, rfl, _⟩ := h
    rfl
  · obtain ⟨a, b, p, q, rfl, ha, hb, k⟩ := h
    refine ⟨_, pss_one (ps_ret (pe_tup (pa_cons (pe_op op_add (pe_ix ix_tup (pv 0) pe_int (fun _ _ => rfl)) (pe_ix ix_tup (pv 1) pe_int (fun _ _ => rfl)))
      (pa_cons (pe_op op_add (pe_ix ix_tup (pv 0) pe_int (fun _ _ => rfl)) (pe_ix ix_tup (pv 1) pe_int (fun _ _ => rfl))) pa_nil)))), ?_⟩
    exact ⟨_, rfl, a, _, _, _, rfl, rfl, ha, atI_nat (j := 0) rfl, _, rfl, b, _, _, _, rfl, rfl, hb, atI_nat (j := 0) rfl, _, _, rfl, rfl,
      _, rfl, a, _, _, _, rfl, rfl, ha, atI_nat (j := 1) rfl, _, rfl, b, _, _, _, rfl, rfl, hb, atI_nat (j := 1) rfl, _, _, rfl, rfl, (by show 2 ≤ sizeLine; decide), k⟩
def spStr (K : PySem.W.Frag) : Sp := fun vs H Q _ => ∃ (a : Addr) (p : Pt) (n : Int), vs = [.ref a, .int n] ∧ PtA K H a p ∧ Small n ∧
  ∀ t, H t = none → Q (.ref t) (upd H t (.tup [.int (Vbreac.scaled n p).x, .int (Vbreac.scaled n p).y]))
theorem okStr (T : Tx K mg) {k : Nat} : FnOk P w K mg base CX0 (k + 1) T.stretched.f T.stretched.fd ["p", "times"] (spStr K) := by
  refine T.stretched.fn.ok sc_stretched (fun vs H Q E h => ?_) (fun cdv A outer s H vs Q E hr h => ?_)
  · obtain ⟨a, p, n, rfl, _⟩ := h
    rfl
  · obtain ⟨a, p, n, rfl, ha, sn, k⟩ := h
    refine ⟨_, pss_one (ps_ret (pe_tup (pa_cons (pe_op op_mul (pe_ix ix_tup (pv 0) pe_int (fun _ _ => rfl)) (pv 1))
      (pa_cons (pe_op op_mul (pe_ix ix_tup (pv 0) pe_int (fun _ _ => rfl)) (pv 1)) pa_nil)))), ?_⟩
    refine ⟨_, rfl, a, _, _, _, rfl, rfl, ha, atI_nat (j := 0) rfl, _, rfl, _, _, rfl, rfl, .inr sn,
      _, rfl, a, _, _, _, rfl, rfl, ha, atI_nat (j := 1) rfl, _, rfl, _, _, rfl, rfl, .inr sn, (by show 2 ≤ sizeLine; decide), fun t nt => ?_⟩
    have := k t nt
    simp only [Vbreac.scaled] at this
    rw [Int.mul_comm n p.x, Int.mul_comm n p.y] at this
    exact this
def spBefore (K : PySem.W.Frag) : Sp := fun vs H Q _ => ∃ (a b : Addr) (p q : Pt), vs = [.ref a, .ref b] ∧ PtA K H a p ∧ PtA K H b q ∧ Small p.x ∧ Small p.y ∧ Q (.bl (decide (0 < Vbreac.cross p q))) H
theorem okBefore (T : Tx K mg) {k : Nat} : FnOk P w K mg base CX0 (k + 2) T.comes_before.f T.comes_before.fd ["p", "q"] (spBefore K) := by
  have GC : FnOk P w K mg base CX0 (k + 1) T.cross.f T.cross.fd ["p", "q"] (spCross K) := ok_cross T.cross.fn
  refine T.comes_before.fn.ok sc_comes_before (fun vs H Q E h => ?_) (fun cdv A outer s H vs Q E hr h => ?_)
  · obtain ⟨a, b, p, q, rfl, _⟩ := h
    rfl
  · obtain ⟨a, b, p, q, rfl, ha, hb, s1, s2, k⟩ := h
    refine ⟨_, pss_one (ps_ret (pe_cmpR op_gt (pe_call GC hr rfl T.cross.g T.cross.fn.kp T.cross.b .nil pass0 (pa_cons (pv 0) (pa_cons (pv 1) pa_nil))) pe_int (nomark _))), ?_⟩
    exact ⟨_, rfl, _, rfl, a, b, p, q, rfl, ha, hb, s1, s2, _, _, rfl, rfl, k⟩
/-! ### spans_between -/
abbrev Prs := List (Addr × (Nat × Int))
def prV (ss : Prs) : List V := ss.map fun s => V.ref s.1
def PrA (H : Hp) (ss : Prs) : Prop := ∀ s ∈ ss, H s.1 = some (.tup [.int (s.2.1 : Nat), .int s.2.2])
theorem PrA.same {H H' : Hp} {ss : Prs} (s : Same H H') (h : PrA H ss) : PrA H' ss := fun x hx => s _ _ (h x hx)
theorem pr_get {ss : Prs} {i : Nat} {x : V} (h : (prV ss)[i]? = some x) : ∃ s, ss[i]? = some s ∧ x = .ref s.1 := by
  unfold prV at h
  rw [List.getElem?_map] at h
  cases e : ss[i]? with
  | none => rw [e] at h; cases h
  | some r => rw [e] at h; exact ⟨r, rfl, (Option.some.inj h).symm⟩
theorem PrA.snoc {H : Hp} {D : Addr} {ys : List V} {o : HO} {ss : Prs} {t : Addr} {s : Nat × Int} (hD : H D = some (.lst ys)) (h : PrA H ss) (ht : H t = some (.tup [.int (s.1 : Nat), .int s.2])) : PrA (upd H D o) (ss ++ [(t, s)]) := fun x hx => by
  rcases List.mem_append.1 hx with z | z
  · have q := h x z
    rw [upd_ne (ne_of q hD (by intro z; cases z))]
    exact q
  · simp only [List.mem_cons, List.not_mem_nil, or_false] at z
    subst z
    rw [upd_ne (ne_of ht hD (by intro z; cases z))]
    exact ht
theorem spans_snoc (u : Int) (l : List Lt.Span) (s : Lt.Span) : Mk.spansTill u (l ++ [s]) = Mk.spansTill u l ++ (if 0 < Mk.lastsTill u s then [(s.1, Mk.lastsTill u s)] else []) := by
  unfold Mk.spansTill
  rw [List.filter_append, List.map_append]
  congr 1
  by_cases h : 0 < Mk.lastsTill u s
  · rw [List.filter_cons, if_pos (decide_eq_true h), if_pos h]
    rfl
  · rw [List.filter_cons, if_neg (by simpa using h), if_neg h]
    rfl
def spSpans (K : PySem.W.Frag) : Sp := fun vs H Q _ => ∃ (a : Addr) (b : Int) (rest : List Int) (t u : Int), vs = [.ref a, .int t, .int u] ∧ SqL K H a ((b :: rest).map V.int) ∧ rest.length < 1000 ∧
  ∀ H' q ss, Same H H' → H q = none → H' q = some (.lst (prV ss)) → PrA H' ss → ss.map (·.2) = Mk.spansTill u (Lt.stretches t 0 b rest) → Q (.ref q) H'
theorem okSpans (T : Tx K mg) {k : Nat} : FnOk P w K mg base CX0 (k + 2) T.spans_between.f T.spans_between.fd ["begins", "t", "u"] (spSpans K) := by
  have GS : FnOk P w K mg base CX0 (k + 1) T.stretches.f T.stretches.fd ["begins", "t"] (spStretch K) := okStretch T
  refine T.spans_between.fn.ok sc_spans_between (fun vs H Q E h => ?_) (fun cdv A outer s H vs Q E hr h => ?_)
  · obtain ⟨a, b, rest, t, u, rfl, _⟩ := h
    rfl
  · obtain ⟨a, b, rest, t, u, rfl, hS, hlen, k⟩ := h
    refine ⟨_, pss_cons (ps_set (i := 3) sc_spans_between.nd rfl (.inl rfl) (pe_lst pa_nil))
      (pss_cons (ps_for PassesOwn.never rfl (pi_list (pe_call GS hr rfl T.stretches.g T.stretches.fn.kp T.stretches.b .nil pass0 (pa_cons (pv 0) (pa_cons (pv 1) pa_nil))))
          (pg_tup rfl (pgs_cons (pg_name (i := 4) sc_spans_between.nd rfl (.inl rfl)) (pgs_cons (pg_name (i := 5) sc_spans_between.nd rfl (.inl rfl)) (pgs_cons (pg_name (i := 6) sc_spans_between.nd rfl (.inl rfl)) pgs_nil))))
        (pss_cons (ps_set (i := 7) sc_spans_between.nd rfl (.inl rfl) (pe_op op_sub (pv 2) (pv 5)))
        (pss_cons (ps_if (pt_cmpR op_notN (pv 6) pe_non (nomark _)) (pss_one (ps_set (i := 7) sc_spans_between.nd rfl (.inl rfl) (pe_callB (call_min2 rfl) (by rfl) T.nb.min_ (by decide +kernel) (pa_cons (pv 7) (pa_cons (pv 6) pa_nil))))) pss_nil)
        (pss_one (ps_if (pt_cmpR op_gt (pv 7) pe_int (nomark _)) (pss_one (ps_expr (pe_bm PySem.F.plainAttrs_list PySem.F.slot_list_append PySem.F.type_list_append mt_append (pv 3) (pa_cons (pe_tup (pa_cons (pv 4) (pa_cons (pv 7) pa_nil))) pa_nil)))) pss_nil)))))
      (pss_one (ps_ret (pv 3)))), ?_⟩
    refine ⟨Nat.zero_le _, fun o no => ?_⟩
    have s1 : Same H (upd H o (.lst [])) := same_upd no
    refine ⟨_, rfl, _, rfl, a, b, rest, t, rfl, s1.seq hS, hlen, fun H1 q ss s2 nq hq hss ess => ?_⟩
    have lss : ss.length ≤ 1000 := by
      have e1 := congrArg List.length ess
      have e2 := stretch_len t rest 0 b
      rw [sps, List.length_map] at e1
      omega
    have noq : o ≠ q := fun z => by rw [← z, upd_same] at nq; cases nq
    refine ⟨q, rfl, ⟨_, SqL.of hq⟩, for_list (K := K) (a := q) (xs := spsV ss) (fun i σ H' => ∃ (v4 v5 v6 v7 : Option V) (ps : Prs), σ = [some (.ref a), some (.int t), some (.int u), some (.ref o), v4, v5, v6, v7] ∧ Same H H' ∧ H' q = some (.lst (spsV ss)) ∧ SpsA H' ss ∧ H' o = some (.lst (prV ps)) ∧ PrA H' ps ∧ ps.length ≤ i ∧ ps.map (·.2) = Mk.spansTill u ((sps ss).take i))
      ⟨none, none, none, none, [], rfl, s1.trans s2, hq, hss, s2 _ _ upd_same, (fun s hs => nomatch hs), Nat.le_refl _, rfl⟩ (fun i σ H' _ ⟨_, _, _, _, _, _, _, z, _⟩ => SqL.of z) ?_ ?_⟩
    · rintro i x σ H2 hi ⟨v4, v5, v6, v7, ps, rfl, sm, hq2, hss2, ho, hps, lps, eps⟩
      obtain ⟨sp, hsp, rfl⟩ := sps_get hi
      have hspT := hss2 sp (List.mem_of_getElem? hsp)
      have isp := (List.getElem?_eq_some_iff.mp hsp).1
      have h1 : (sps ss)[i]? = some sp.2 := by rw [sps, List.getElem?_map, hsp]; rfl
      have close : ∀ (H3 : Hp) (z : Int), z = Mk.lastsTill u sp.2 → 0 < z → ∀ t', H2 t' = none → H3 = upd (upd H2 t' (.tup [.int (sp.2.1 : Nat), .int z])) o (.lst (prV ps ++ [.ref t'])) →
          Same H H3 ∧ H3 q = some (.lst (spsV ss)) ∧ SpsA H3 ss ∧ H3 o = some (.lst (prV (ps ++ [(t', (sp.2.1, z))]))) ∧ PrA H3 (ps ++ [(t', (sp.2.1, z))]) ∧ (ps ++ [(t', (sp.2.1, z))]).length ≤ i + 1 ∧ (ps ++ [(t', (sp.2.1, z))]).map (·.2) = Mk.spansTill u ((sps ss).take (i + 1)) := by
        intro H3 z ez zp t' nt' e3
        subst e3
        have sT := same_upd (o := .tup [.int (sp.2.1 : Nat), .int z]) nt'
        have hoT := sT _ _ ho
        refine ⟨same_grow no (sm.trans sT), ?_, fun x hx => ?_, ?_, PrA.snoc hoT (hps.same sT) upd_same, ?_, ?_⟩
        · rw [upd_ne (Ne.symm noq)]
          exact sT _ _ hq2
        · have q2 := sT _ _ (hss2 x hx)
          rw [upd_ne (ne_of q2 hoT (by intro z; cases z))]
          exact q2
        · rw [upd_same, prV, prV, List.map_append]
          rfl
        · rw [List.length_append]
          simp only [List.length_cons, List.length_nil]
          omega
        · rw [List.map_append, eps, take_snoc h1, spans_snoc, if_pos (by rw [← ez]; exact zp), ← ez]
          rfl
      have skip : ∀ (z : Int), z = Mk.lastsTill u sp.2 → ¬ 0 < z → ps.map (·.2) = Mk.spansTill u ((sps ss).take (i + 1)) := fun z ez zp => by
        rw [take_snoc h1, spans_snoc, if_neg (by rw [← ez]; exact zp), List.append_nil]
        exact eps
      refine ⟨sp.1, _, rfl, SqT.of hspT, rfl, _, _, rfl, _, _, rfl, _, _, rfl, rfl, _, rfl, _, rfl, _, _, rfl, rfl, _, rfl, rfl, _, rfl, ?_⟩
      cases eD : sp.2.2.2 with
      | none =>
        have ez : u - sp.2.2.1 = Mk.lastsTill u sp.2 := by unfold Mk.lastsTill; rw [eD]
        refine ite2 (fun e => absurd e (by decide)) (fun _ => ?_)
        refine ⟨_, rfl, _, _, rfl, rfl, _, rfl, ite2 (fun e => ?_) (fun e => ?_)⟩
        · have e : 0 < u - sp.2.2.1 := of_decide_eq_true e
          refine ⟨_, rfl, .inl ⟨rfl, _, SqL.of ho⟩, _, rfl, _, rfl, (by show 2 ≤ sizeLine; decide), fun t' nt' => ?_⟩
          have sT := same_upd (o := .tup [.int (sp.2.1 : Nat), .int (u - sp.2.2.1)]) nt'
          refine ⟨o, _, _, rfl, rfl, sT _ _ ho, ?_, ?_⟩
          · rw [prV, List.length_map, sizeLine_eq]
            omega
          exact ⟨_, _, _, _, ps ++ [(t', (sp.2.1, u - sp.2.2.1))], rfl, close _ _ ez e t' nt' rfl⟩
        · have e : ¬ 0 < u - sp.2.2.1 := fun z => e (decide_eq_true z)
          exact ⟨_, _, _, _, ps, rfl, sm, hq2, hss2, ho, hps, by omega, skip _ ez e⟩
      | some dd =>
        have ez : min (u - sp.2.2.1) dd = Mk.lastsTill u sp.2 := by unfold Mk.lastsTill; rw [eD]
        refine ite2 (fun _ => ?_) (fun e => absurd rfl e)
        refine ⟨_, rfl, _, rfl, _, _, rfl, ?_⟩
        rw [min_is]
        refine ⟨_, rfl, _, _, rfl, rfl, _, rfl, ite2 (fun e => ?_) (fun e => ?_)⟩
        · have e : 0 < min (u - sp.2.2.1) dd := of_decide_eq_true e
          refine ⟨_, rfl, .inl ⟨rfl, _, SqL.of ho⟩, _, rfl, _, rfl, (by show 2 ≤ sizeLine; decide), fun t' nt' => ?_⟩
          have sT := same_upd (o := .tup [.int (sp.2.1 : Nat), .int (min (u - sp.2.2.1) dd)]) nt'
          refine ⟨o, _, _, rfl, rfl, sT _ _ ho, ?_, ?_⟩
          · rw [prV, List.length_map, sizeLine_eq]
            omega
          exact ⟨_, _, _, _, ps ++ [(t', (sp.2.1, min (u - sp.2.2.1) dd))], rfl, close _ _ ez e t' nt' rfl⟩
        · have e : ¬ 0 < min (u - sp.2.2.1) dd := fun z => e (decide_eq_true z)
          exact ⟨_, _, _, _, ps, rfl, sm, hq2, hss2, ho, hps, by omega, skip _ ez e⟩
    · rintro σ H2 ⟨v4, v5, v6, v7, ps, rfl, sm, hq2, hss2, ho, hps, lps, eps⟩
      rw [spsV, List.length_map] at eps
      rw [List.take_of_length_le (by simp [sps]), ess] at eps
      exact ⟨_, rfl, k H2 o ps sm no ho hps eps⟩
end
end Sw
set_option maxHeartbeats 4000000
namespace Sw
open PySem PySem.Spec PyProof.Rows L2 LamX
open Vbreac (Pt Frac Wind)
section
variable {P : Program} {w : World} {K : PySem.W.Frag} {mg : Str → Option Value} {base : Heap}
/-! ### merged_sides -/
theorem cut_from (xs : List V) (i : Nat) (h : i ≤ xs.length) : cutV xs (some (i : Int)) none = xs.drop i := by
  unfold cutV
  rw [HT.sIx_nat, HT.sIx_none, Nat.min_eq_left h, List.take_of_length_le (by simp)]
theorem merge_nil (as : List Pt) : Mk.mergeS as [] = as := by
  cases as with
  | nil => rw [Mk.mergeS]
  | cons x as => rw [Mk.mergeS]
theorem merge_left (bs : List Pt) : Mk.mergeS [] bs = bs := by rw [Mk.mergeS]
theorem merge_within {A B : Int} (hA : 0 ≤ A) (hB : 0 ≤ B) : ∀ (k : Nat) (as bs : List Pt), as.length + bs.length ≤ k → (∀ s ∈ as, Bd.Within A s) → (∀ s ∈ bs, Bd.Within B s) → ∀ s ∈ Mk.mergeS as bs, Bd.Within (A + B) s := by
  have wa : ∀ s, Bd.Within A s → Bd.Within (A + B) s := fun s h => by simp only [Bd.Within] at *; omega
  have wb : ∀ s, Bd.Within B s → Bd.Within (A + B) s := fun s h => by simp only [Bd.Within] at *; omega
  intro k
  induction k with
  | zero =>
    intro as bs e ha hb s hs
    have e1 : as = [] := List.eq_nil_of_length_eq_zero (by omega)
    have e2 : bs = [] := List.eq_nil_of_length_eq_zero (by omega)
    subst e1 e2
    rw [merge_left] at hs
    cases hs
  | succ k ih =>
    intro as bs e ha hb s hs
    match as, bs, e, ha, hb, hs with
    | [], bs, e, ha, hb, hs =>
      rw [merge_left] at hs
      exact wb s (hb s hs)
    | x :: as, [], e, ha, hb, hs =>
      rw [merge_nil] at hs
      exact wa s (ha s hs)
    | x :: as, y :: bs, e, ha, hb, hs =>
      rw [Mk.mergeS] at hs
      simp only [List.length_cons] at e
      split at hs
      · rcases List.mem_cons.1 hs with z | z
        · rw [z]; exact wa x (ha x (by simp))
        · exact ih as (y :: bs) (by simp only [List.length_cons]; omega) (fun q hq => ha q (by simp [hq])) hb s z
      · split at hs
        · rcases List.mem_cons.1 hs with z | z
          · rw [z]; exact wb y (hb y (by simp))
          · exact ih (x :: as) bs (by simp only [List.length_cons]; omega) ha (fun q hq => hb q (by simp [hq])) s z
        · rcases List.mem_cons.1 hs with z | z
          · rw [z]
            have h1 := ha x (by simp)
            have h2 := hb y (by simp)
            simp only [Bd.Within, Vbreac.plus] at *
            omega
          · exact ih as bs (by omega) (fun q hq => ha q (by simp [hq])) (fun q hq => hb q (by simp [hq])) s z
theorem pts_drop (rs : Row) (i : Nat) : (pts rs).drop i = pts (rs.drop i) := by
  unfold pts
  rw [List.map_drop]
theorem refsV_drop (rs : Row) (i : Nat) : (refsV rs).drop i = refsV (rs.drop i) := by
  unfold refsV
  rw [List.map_drop]
theorem row_drop {rs : Row} {i : Nat} {r : Addr × Pt} (h : rs[i]? = some r) : rs.drop i = r :: rs.drop (i + 1) := by
  obtain ⟨a1, b1⟩ := List.getElem?_eq_some_iff.mp h
  rw [← List.getElem_cons_drop (h := a1), b1]
theorem refsV_snoc' (ms : Row) (x : Addr × Pt) : refsV ms ++ [.ref x.1] = refsV (ms ++ [x]) := by
  unfold refsV
  rw [List.map_append]
  rfl
def spMerge (K : PySem.W.Frag) : Sp := fun vs H Q _ => ∃ (a b : Addr) (rs ks : Row), vs = [.ref a, .ref b] ∧ H a = some (.lst (refsV rs)) ∧ H b = some (.lst (refsV ks)) ∧ RowP K H rs ∧ RowP K H ks ∧ (∀ r ∈ rs, Bd.Within (2 ^ 60) r.2) ∧ (∀ r ∈ ks, Bd.Within (2 ^ 60) r.2) ∧ rs.length ≤ 100000 ∧ ks.length ≤ 100000 ∧
  ∀ H' q ms, Same H H' → H q = none → H' q = some (.lst (refsV ms)) → RowP K H' ms → pts ms = Mk.mergeS (pts rs) (pts ks) → Q (.ref q) H'
theorem okMerge (T : Tx K mg) {k : Nat} : FnOk P w K mg base CX0 (k + 3) T.merged_sides.f T.merged_sides.fd ["ones", "others"] (spMerge K) := by
  have GB : FnOk P w K mg base CX0 (k + 2) T.comes_before.f T.comes_before.fd ["p", "q"] (spBefore K) := okBefore T
  have GT : FnOk P w K mg base CX0 (k + 2) T.total.f T.total.fd ["p", "q"] (spTot K) := okTot T
  refine T.merged_sides.fn.ok sc_merged_sides (fun vs H Q E h => ?_) (fun cdv A outer s H vs Q E hr h => ?_)
  · obtain ⟨a, b, rs, ks, rfl, _⟩ := h
    rfl
  · obtain ⟨a, b, rs, ks, rfl, ha, hb, hrs, hks, wr, wk, lr, lk, k⟩ := h
    refine ⟨_, pss_cons (ps_set (i := 2) sc_merged_sides.nd rfl (.inl rfl) (pe_lst pa_nil))
      (pss_cons (ps_set (i := 3) sc_merged_sides.nd rfl (.inl rfl) pe_int)
      (pss_cons (ps_set (i := 4) sc_merged_sides.nd rfl (.inl rfl) pe_int)
      (pss_cons (ps_while PassesOwn.never (PW.pt (pw_and (pt_cmpR op_lt (pv 3) (pe_callB call_len_seq (by rfl) T.nb.len_ PySem.boot_len (pa_cons (pv 0) pa_nil)) (nomark _))
            (pw_and1 (pt_cmpR op_lt (pv 4) (pe_callB call_len_seq (by rfl) T.nb.len_ PySem.boot_len (pa_cons (pv 1) pa_nil)) (nomark _)))))
        (pss_one (ps_if (pt_val (pe_call GB hr rfl T.comes_before.g T.comes_before.fn.kp T.comes_before.b .nil pass0 (pa_cons (pe_ix ix_list (pv 0) (pv 3) (fun _ _ => rfl)) (pa_cons (pe_ix ix_list (pv 1) (pv 4) (fun _ _ => rfl)) pa_nil))))
          (pss_cons (ps_expr (pe_bm PySem.F.plainAttrs_list PySem.F.slot_list_append PySem.F.type_list_append mt_append (pv 2) (pa_cons (pe_ix ix_list (pv 0) (pv 3) (fun _ _ => rfl)) pa_nil)))
            (pss_one (ps_set (i := 3) sc_merged_sides.nd rfl (.inl rfl) (pe_op op_add (pv 3) pe_int))))
          (pss_one (ps_if (pt_val (pe_call GB hr rfl T.comes_before.g T.comes_before.fn.kp T.comes_before.b .nil pass0 (pa_cons (pe_ix ix_list (pv 1) (pv 4) (fun _ _ => rfl)) (pa_cons (pe_ix ix_list (pv 0) (pv 3) (fun _ _ => rfl)) pa_nil))))
            (pss_cons (ps_expr (pe_bm PySem.F.plainAttrs_list PySem.F.slot_list_append PySem.F.type_list_append mt_append (pv 2) (pa_cons (pe_ix ix_list (pv 1) (pv 4) (fun _ _ => rfl)) pa_nil)))
              (pss_one (ps_set (i := 4) sc_merged_sides.nd rfl (.inl rfl) (pe_op op_add (pv 4) pe_int))))
            (pss_cons (ps_expr (pe_bm PySem.F.plainAttrs_list PySem.F.slot_list_append PySem.F.type_list_append mt_append (pv 2) (pa_cons (pe_call GT hr rfl T.total.g T.total.fn.kp T.total.b .nil pass0 (pa_cons (pe_ix ix_list (pv 0) (pv 3) (fun _ _ => rfl)) (pa_cons (pe_ix ix_list (pv 1) (pv 4) (fun _ _ => rfl)) pa_nil))) pa_nil)))
              (pss_cons (ps_set (i := 3) sc_merged_sides.nd rfl (.inl rfl) (pe_op op_add (pv 3) pe_int))
              (pss_one (ps_set (i := 4) sc_merged_sides.nd rfl (.inl rfl) (pe_op op_add (pv 4) pe_int))))))))))
      (pss_one (ps_ret (pe_op op_cat (pe_op op_cat (pv 2) (pe_slice sl_list (pv 0) (po_some (pv 3)) po_none)) (pe_slice sl_list (pv 1) (po_some (pv 4)) po_none))))))), ?_⟩
    refine ⟨Nat.zero_le _, fun o no => ?_⟩
    have s1 : Same H (upd H o (.lst [])) := same_upd no
    refine while_by (fun σ H' => ∃ (i j : Nat) (ms : Row), σ = [some (.ref a), some (.ref b), some (.ref o), some (.int i), some (.int j)] ∧ Same H H' ∧ H' o = some (.lst (refsV ms)) ∧ RowP K H' ms ∧ i ≤ rs.length ∧ j ≤ ks.length ∧ ms.length ≤ i + j ∧ pts ms ++ Mk.mergeS ((pts rs).drop i) ((pts ks).drop j) = Mk.mergeS (pts rs) (pts ks))
      (fun σ _ => (rs.length - slotI σ 3) + (ks.length - slotI σ 4)) ⟨0, 0, [], rfl, s1, upd_same, (fun r hr => nomatch hr), Nat.zero_le _, Nat.zero_le _, Nat.le_refl _, rfl⟩ ?_ ?_
    · rintro σ H1 ⟨i, j, ms, rfl, sm, ho, hms, li, lj, lms, ems⟩
      have ha1 := sm _ _ ha
      have hb1 := sm _ _ hb
      have fin : ¬ (i < rs.length ∧ j < ks.length) → pts (ms ++ rs.drop i ++ ks.drop j) = Mk.mergeS (pts rs) (pts ks) := fun z => by
        rw [← ems, ← pts_app, ← pts_app, List.append_assoc, pts_drop, pts_drop]
        congr 1
        by_cases c : i < rs.length
        · have : ks.drop j = [] := List.drop_eq_nil_of_le (by omega)
          rw [this]
          show pts (rs.drop i) ++ [] = Mk.mergeS (pts (rs.drop i)) []
          rw [merge_nil, List.append_nil]
        · have : rs.drop i = [] := List.drop_eq_nil_of_le (by omega)
          rw [this]
          show [] ++ pts (ks.drop j) = Mk.mergeS [] (pts (ks.drop j))
          rw [merge_left, List.nil_append]
      refine ⟨_, rfl, _, rfl, a, _, rfl, .inl (SqL.of ha1), _, _, rfl, rfl, _, rfl, ?_⟩
      rw [refsV_len]
      refine ite2 (fun e1 => ?_) (fun e1 => ?_)
      · have e1 : (i : Int) < (rs.length : Int) := of_decide_eq_true e1
        refine ⟨_, rfl, _, rfl, b, _, rfl, .inl (SqL.of hb1), _, _, rfl, rfl, _, rfl, ?_⟩
        rw [refsV_len]
        refine ite2 (fun e2 => ?_) (fun e2 => ?_)
        · have e2 : (j : Int) < (ks.length : Int) := of_decide_eq_true e2
          obtain ⟨x, hx⟩ : ∃ x, rs[i]? = some x := ⟨_, List.getElem?_eq_getElem (by omega)⟩
          obtain ⟨y, hy⟩ : ∃ y, ks[j]? = some y := ⟨_, List.getElem?_eq_getElem (by omega)⟩
          have mx := List.mem_of_getElem? hx
          have my := List.mem_of_getElem? hy
          have hxa : atI (refsV rs) (i : Nat) = some (.ref x.1) := atI_nat (j := i) (by unfold refsV; rw [List.getElem?_map, hx]; rfl)
          have hya : atI (refsV ks) (j : Nat) = some (.ref y.1) := atI_nat (j := j) (by unfold refsV; rw [List.getElem?_map, hy]; rfl)
          have sx := within_small (by decide) (wr x mx)
          have sy := within_small (by decide) (wk y my)
          refine ⟨_, rfl, _, rfl, a, _, _, _, rfl, rfl, SqL.of ha1, hxa, _, rfl, _, rfl, b, _, _, _, rfl, rfl, SqL.of hb1, hya, x.1, y.1, x.2, y.2, rfl, same_pt sm (hrs x mx), same_pt sm (hks y my), sx.1, sx.2, _, rfl, ite2 (fun c1 => ?_) (fun c1 => ?_)⟩
          · have c1 : 0 < Vbreac.cross x.2 y.2 := of_decide_eq_true c1
            have nxt : Mk.mergeS ((pts rs).drop i) ((pts ks).drop j) = x.2 :: Mk.mergeS ((pts rs).drop (i + 1)) ((pts ks).drop j) := by
              rw [pts_drop, pts_drop, pts_drop, row_drop hx, row_drop hy]
              show Mk.mergeS (x.2 :: _) (y.2 :: _) = x.2 :: Mk.mergeS _ (y.2 :: _)
              rw [Mk.mergeS, if_pos c1]
              rfl
            refine ⟨_, rfl, .inl ⟨rfl, _, SqL.of ho⟩, _, rfl, _, rfl, a, _, _, _, rfl, rfl, SqL.of ha1, hxa, o, _, _, rfl, rfl, ho, ?_, _, rfl, _, _, rfl, rfl, ?_⟩
            · rw [refsV_len, sizeLine_eq]
              omega
            refine ⟨⟨i + 1, j, ms ++ [x], rfl, same_grow no sm, ?_, ?_, by omega, lj, ?_, ?_⟩, ?_⟩
            · rw [upd_same]
              exact congrArg some (congrArg HO.lst (refsV_snoc' ms x))
            · exact RowP.updL ho (hms.snoc (same_pt sm (hrs x mx)))
            · rw [List.length_append]
              simp only [List.length_cons, List.length_nil]
              omega
            · rw [← ems, nxt, ← pts_app, List.append_assoc]
              rfl
            · show (rs.length - ((i : Int) + 1).toNat) + (ks.length - (j : Int).toNat) < (rs.length - (i : Int).toNat) + (ks.length - (j : Int).toNat)
              omega
          · have c1 : ¬ 0 < Vbreac.cross x.2 y.2 := fun z => c1 (decide_eq_true z)
            refine ⟨_, rfl, _, rfl, b, _, _, _, rfl, rfl, SqL.of hb1, hya, _, rfl, _, rfl, a, _, _, _, rfl, rfl, SqL.of ha1, hxa, y.1, x.1, y.2, x.2, rfl, same_pt sm (hks y my), same_pt sm (hrs x mx), sy.1, sy.2, _, rfl, ite2 (fun c2 => ?_) (fun c2 => ?_)⟩
            · have c2 : 0 < Vbreac.cross y.2 x.2 := of_decide_eq_true c2
              have nxt : Mk.mergeS ((pts rs).drop i) ((pts ks).drop j) = y.2 :: Mk.mergeS ((pts rs).drop i) ((pts ks).drop (j + 1)) := by
                rw [pts_drop, pts_drop, pts_drop, row_drop hx, row_drop hy]
                show Mk.mergeS (x.2 :: _) (y.2 :: _) = y.2 :: Mk.mergeS (x.2 :: _) _
                rw [Mk.mergeS, if_neg c1, if_pos c2]
                rfl
              refine ⟨_, rfl, .inl ⟨rfl, _, SqL.of ho⟩, _, rfl, _, rfl, b, _, _, _, rfl, rfl, SqL.of hb1, hya, o, _, _, rfl, rfl, ho, ?_, _, rfl, _, _, rfl, rfl, ?_⟩
              · rw [refsV_len, sizeLine_eq]
                omega
              refine ⟨⟨i, j + 1, ms ++ [y], rfl, same_grow no sm, ?_, ?_, li, by omega, ?_, ?_⟩, ?_⟩
              · rw [upd_same]
                exact congrArg some (congrArg HO.lst (refsV_snoc' ms y))
              · exact RowP.updL ho (hms.snoc (same_pt sm (hks y my)))
              · rw [List.length_append]
                simp only [List.length_cons, List.length_nil]
                omega
              · rw [← ems, nxt, ← pts_app, List.append_assoc]
                rfl
              · show (rs.length - (i : Int).toNat) + (ks.length - ((j : Int) + 1).toNat) < (rs.length - (i : Int).toNat) + (ks.length - (j : Int).toNat)
                omega
            · have c2 : ¬ 0 < Vbreac.cross y.2 x.2 := fun z => c2 (decide_eq_true z)
              have nxt : Mk.mergeS ((pts rs).drop i) ((pts ks).drop j) = Vbreac.plus x.2 y.2 :: Mk.mergeS ((pts rs).drop (i + 1)) ((pts ks).drop (j + 1)) := by
                rw [pts_drop, pts_drop, pts_drop, pts_drop, row_drop hx, row_drop hy]
                show Mk.mergeS (x.2 :: _) (y.2 :: _) = _
                rw [Mk.mergeS, if_neg c1, if_neg c2]
                rfl
              refine ⟨_, rfl, .inl ⟨rfl, _, SqL.of ho⟩, _, rfl, _, rfl, a, _, _, _, rfl, rfl, SqL.of ha1, hxa, _, rfl, _, rfl, b, _, _, _, rfl, rfl, SqL.of hb1, hya, x.1, y.1, x.2, y.2, rfl, same_pt sm (hrs x mx), same_pt sm (hks y my), fun t nt => ?_⟩
              have sT := same_upd (o := .tup [.int (Vbreac.plus x.2 y.2).x, .int (Vbreac.plus x.2 y.2).y]) nt
              have hoT := sT _ _ ho
              refine ⟨o, _, _, rfl, rfl, hoT, ?_, _, rfl, _, _, rfl, rfl, _, rfl, _, _, rfl, rfl, ?_⟩
              · rw [refsV_len, sizeLine_eq]
                omega
              refine ⟨⟨i + 1, j + 1, ms ++ [(t, Vbreac.plus x.2 y.2)], rfl, same_grow no (sm.trans sT), ?_, ?_, by omega, by omega, ?_, ?_⟩, ?_⟩
              · rw [upd_same]
                exact congrArg some (congrArg HO.lst (refsV_snoc' ms (t, Vbreac.plus x.2 y.2)))
              · exact RowP.updL hoT ((hms.same sT).snoc (SqT.of upd_same))
              · rw [List.length_append]
                simp only [List.length_cons, List.length_nil]
                omega
              · rw [← ems, nxt, ← pts_app, List.append_assoc]
                rfl
              · show (rs.length - ((i : Int) + 1).toNat) + (ks.length - ((j : Int) + 1).toNat) < (rs.length - (i : Int).toNat) + (ks.length - (j : Int).toNat)
                omega
        · have e2 : ¬ (j : Int) < (ks.length : Int) := fun z => e2 (decide_eq_true z)
          have z : ¬ (i < rs.length ∧ j < ks.length) := by omega
          refine ⟨_, rfl, _, rfl, _, rfl, _, rfl, a, _, rfl, SqL.of ha1, fun c nc => ?_⟩
          rw [cut_from _ _ (by rw [refsV_len]; exact li), refsV_drop]
          have t1 := same_upd (o := .lst (refsV (rs.drop i))) nc
          refine ⟨o, c, _, _, rfl, rfl, t1 _ _ ho, upd_same, ?_, fun e ne => ?_⟩
          · rw [refsV_len, refsV_len, List.length_drop, sizeLine_eq]
            omega
          rw [refsV_app]
          have t2 := same_upd (o := .lst (refsV (ms ++ rs.drop i))) ne
          have t12 := t1.trans t2
          refine ⟨_, rfl, _, rfl, _, rfl, b, _, rfl, SqL.of (t12 _ _ hb1), fun d nd => ?_⟩
          rw [cut_from _ _ (by rw [refsV_len]; exact lj), refsV_drop]
          have t3 := same_upd (o := .lst (refsV (ks.drop j))) nd
          refine ⟨e, d, _, _, rfl, rfl, t3 _ _ upd_same, upd_same, ?_, fun g ng => ?_⟩
          · rw [refsV_len, refsV_len, List.length_append, List.length_drop, List.length_drop, sizeLine_eq]
            omega
          rw [refsV_app]
          have t4 := same_upd (o := .lst (refsV (ms ++ rs.drop i ++ ks.drop j))) ng
          have tA := sm.trans (t12.trans (t3.trans t4))
          refine k _ g (ms ++ rs.drop i ++ ks.drop j) tA (sm.free ((t12.trans t3).free ng)) upd_same (fun r hr' => ?_) (fin z)
          rcases List.mem_append.1 hr' with y | y
          · rcases List.mem_append.1 y with y | y
            · exact same_pt (t12.trans (t3.trans t4)) (hms r y)
            · exact same_pt tA (hrs r (List.mem_of_mem_drop y))
          · exact same_pt tA (hks r (List.mem_of_mem_drop y))
      · have e1 : ¬ (i : Int) < (rs.length : Int) := fun z => e1 (decide_eq_true z)
        have z : ¬ (i < rs.length ∧ j < ks.length) := by omega
        refine ⟨_, rfl, _, rfl, _, rfl, _, rfl, a, _, rfl, SqL.of ha1, fun c nc => ?_⟩
        rw [cut_from _ _ (by rw [refsV_len]; exact li), refsV_drop]
        have t1 := same_upd (o := .lst (refsV (rs.drop i))) nc
        refine ⟨o, c, _, _, rfl, rfl, t1 _ _ ho, upd_same, ?_, fun e ne => ?_⟩
        · rw [refsV_len, refsV_len, List.length_drop, sizeLine_eq]
          omega
        rw [refsV_app]
        have t2 := same_upd (o := .lst (refsV (ms ++ rs.drop i))) ne
        have t12 := t1.trans t2
        refine ⟨_, rfl, _, rfl, _, rfl, b, _, rfl, SqL.of (t12 _ _ hb1), fun d nd => ?_⟩
        rw [cut_from _ _ (by rw [refsV_len]; exact lj), refsV_drop]
        have t3 := same_upd (o := .lst (refsV (ks.drop j))) nd
        refine ⟨e, d, _, _, rfl, rfl, t3 _ _ upd_same, upd_same, ?_, fun g ng => ?_⟩
        · rw [refsV_len, refsV_len, List.length_append, List.length_drop, List.length_drop, sizeLine_eq]
          omega
        rw [refsV_app]
        have t4 := same_upd (o := .lst (refsV (ms ++ rs.drop i ++ ks.drop j))) ng
        have tA := sm.trans (t12.trans (t3.trans t4))
        refine k _ g (ms ++ rs.drop i ++ ks.drop j) tA (sm.free ((t12.trans t3).free ng)) upd_same (fun r hr' => ?_) (fin z)
        rcases List.mem_append.1 hr' with y | y
        · rcases List.mem_append.1 y with y | y
          · exact same_pt (t12.trans (t3.trans t4)) (hms r y)
          · exact same_pt tA (hrs r (List.mem_of_mem_drop y))
        · exact same_pt tA (hks r (List.mem_of_mem_drop y))
    · intro σ H Q Q' hQ hc
      obtain ⟨v1, f1, v2, f2, o1, y1, f3, f4, i1, j1, f5, f6, k1, f7, hc⟩ := hc
      refine ⟨v1, f1, v2, f2, o1, y1, f3, f4, i1, j1, f5, f6, k1, f7, ?_⟩
      split at hc
      · rename_i hk
        rw [if_pos hk]
        obtain ⟨v1, f1, v2, f2, o1, y1, f3, f4, i1, j1, f5, f6, k1, f7, hc⟩ := hc
        exact ⟨v1, f1, v2, f2, o1, y1, f3, f4, i1, j1, f5, f6, k1, f7, hQ _ _ hc⟩
      · rename_i hk
        rw [if_neg hk]
        exact hQ _ _ hc
end
end Sw
set_option maxHeartbeats 4000000
namespace Sw
open PySem PySem.Spec PyProof.Rows L2 LamX
open Vbreac (Pt Frac Wind)
section
variable {P : Program} {w : World} {K : PySem.W.Frag} {mg : Str → Option Value} {base : Heap}
/-! ### corners_along -/
def spAlong (K : PySem.W.Frag) : Sp := fun vs H Q _ => ∃ (a b : Addr) (p : Pt) (rs : Row), vs = [.ref a, .ref b] ∧ PtA K H a p ∧ H b = some (.lst (refsV rs)) ∧ RowP K H rs ∧ rs.length ≤ 100000 ∧
  ∀ H' q ks, Same H H' → H q = none → H' q = some (.lst (refsV ks)) → RowP K H' ks → pts ks = Mk.cornersAlong p (pts rs) → Q (.ref q) H'
theorem okAlong (T : Tx K mg) {k : Nat} : FnOk P w K mg base CX0 (k + 2) T.corners_along.f T.corners_along.fd ["first", "sides"] (spAlong K) := by
  have GT : FnOk P w K mg base CX0 (k + 1) T.total.f T.total.fd ["p", "q"] (spTot K) := okTot T
  refine T.corners_along.fn.ok sc_corners_along (fun vs H Q E h => ?_) (fun cdv A outer s H vs Q E hr h => ?_)
  · obtain ⟨a, b, p, rs, rfl, _⟩ := h
    rfl
  · obtain ⟨a, b, p, rs, rfl, ha, hb, hrs, lr, k⟩ := h
    refine ⟨_, pss_cons (ps_set (i := 2) sc_corners_along.nd rfl (.inl rfl) (pe_lst (pa_cons (pv 0) pa_nil)))
      (pss_cons (ps_for PassesOwn.never rfl (pi_list (pe_slice sl_list (pv 1) po_none (po_some (pe_un un_neg pe_int)))) (pg_name (i := 3) sc_corners_along.nd rfl (.inl rfl))
        (pss_one (ps_expr (pe_bm PySem.F.plainAttrs_list PySem.F.slot_list_append PySem.F.type_list_append mt_append (pv 2) (pa_cons (pe_call GT hr rfl T.total.g T.total.fn.kp T.total.b .nil pass0 (pa_cons (pe_ix ix_list (pv 2) (pe_un un_neg pe_int) (fun _ _ => rfl)) (pa_cons (pv 3) pa_nil))) pa_nil)))))
      (pss_one (ps_ret (pv 2)))), ?_⟩
    refine ⟨_, rfl, (by show 1 ≤ sizeLine; decide), fun o no => ?_⟩
    have s1 := same_upd (o := .lst [.ref a]) no
    refine ⟨_, rfl, _, rfl, _, rfl, b, _, rfl, SqL.of (s1 _ _ hb), fun c nc => ?_⟩
    rw [cut_last, refsV_dropLast]
    have s2 := s1.trans (same_upd (o := .lst (refsV rs.dropLast)) nc)
    have noc : o ≠ c := ne_of_none upd_same nc
    have ho0 : (upd (upd H o (.lst [.ref a])) c (.lst (refsV rs.dropLast))) o = some (.lst (refsV [(a, p)])) := by rw [upd_ne noc]; exact upd_same
    refine ⟨c, rfl, ⟨_, SqL.of upd_same⟩, for_list (K := K) (a := c) (xs := refsV rs.dropLast) (fun i σ H' => ∃ (v3 : Option V) (ks : Row) (z : Addr × Pt), σ = [some (.ref a), some (.ref b), some (.ref o), v3] ∧ Same H H' ∧ H' c = some (.lst (refsV rs.dropLast)) ∧ H' o = some (.lst (refsV (ks ++ [z]))) ∧ RowP K H' (ks ++ [z]) ∧ ks.length = i ∧ pts (ks ++ [z]) ++ Mk.walk z.2 ((pts rs).dropLast.drop i) = Mk.cornersAlong p (pts rs))
      ⟨none, [], (a, p), rfl, s2, upd_same, ho0, (fun r hr' => by
        simp only [List.nil_append, List.mem_cons, List.not_mem_nil, or_false] at hr'
        subst hr'
        exact same_pt s2 ha), rfl, rfl⟩ (fun i σ H' _ ⟨_, _, _, _, _, z, _⟩ => SqL.of z) ?_ ?_⟩
    · rintro i x σ H1 hi ⟨v3, ks, z, rfl, sm, hc, ho, hks, lks, eks⟩
      obtain ⟨r, hr', rfl⟩ := refsV_get hi
      have hmem : r ∈ rs := List.dropLast_subset _ (List.mem_of_getElem? hr')
      have il := (List.getElem?_eq_some_iff.mp hr').1
      rw [List.length_dropLast] at il
      have eL : atI (refsV (ks ++ [z])) (-1) = some (.ref z.1) := by
        rw [← refsV_snoc' ks z]
        exact atI_last _ _
      refine ⟨_, rfl, .inl ⟨rfl, _, SqL.of ho⟩, _, rfl, _, rfl, o, _, _, _, rfl, rfl, SqL.of ho, eL, _, rfl, z.1, r.1, z.2, r.2, rfl, hks z (by simp), same_pt sm (hrs r hmem), fun t nt => ?_⟩
      have sT := same_upd (o := .tup [.int (Vbreac.plus z.2 r.2).x, .int (Vbreac.plus z.2 r.2).y]) nt
      have hoT := sT _ _ ho
      refine ⟨o, _, _, rfl, rfl, hoT, ?_, _, ks ++ [z], (t, Vbreac.plus z.2 r.2), rfl, same_grow no (sm.trans sT), ?_, ?_, ?_, ?_, ?_⟩
      · rw [refsV_len, List.length_append, sizeLine_eq]
        simp only [List.length_cons, List.length_nil]
        omega
      · rw [upd_ne (Ne.symm noc)]
        exact sT _ _ hc
      · rw [upd_same]
        exact congrArg some (congrArg HO.lst (refsV_snoc' (ks ++ [z]) (t, Vbreac.plus z.2 r.2)))
      · exact RowP.updL hoT ((hks.same sT).snoc (SqT.of upd_same))
      · rw [List.length_append, lks]
        rfl
      · rw [← eks]
        have h1 : (pts rs).dropLast[i]? = some r.2 := by rw [pts_dropLast]; exact pts_get hr'
        obtain ⟨a1, b1⟩ := List.getElem?_eq_some_iff.mp h1
        have hd : (pts rs).dropLast.drop i = r.2 :: (pts rs).dropLast.drop (i + 1) := by rw [← List.getElem_cons_drop (h := a1), b1]
        rw [hd, ← pts_app (ks ++ [z]), List.append_assoc]
        rfl
    · rintro σ H1 ⟨v3, ks, z, rfl, sm, hc, ho, hks, lks, eks⟩
      refine ⟨_, rfl, k H1 o (ks ++ [z]) sm no ho hks ?_⟩
      rw [← eks, List.drop_of_length_le (by rw [pts_dropLast, pts_len, refsV_len]; exact Nat.le_refl _), Mk.walk, List.append_nil]
/-! ### set_corners -/
theorem stretch_since (t : Int) : ∀ (rest : List Int) (i : Nat) (b : Int), ∀ s ∈ Lt.stretches t i b rest, t ≤ s.2.1
  | [], i, b, s, hs => by
    simp only [Lt.stretches, List.mem_cons, List.not_mem_nil, or_false] at hs
    rw [hs]
    show t ≤ max t b
    omega
  | e :: r, i, b, s, hs => by
    simp only [Lt.stretches] at hs
    split at hs
    · rcases List.mem_cons.1 hs with z | z
      · rw [z]
        show t ≤ max t b
        omega
      · exact stretch_since t r (i + 1) e s z
    · exact stretch_since t r (i + 1) e s hs
theorem spans_mem {t u : Int} {rest : List Int} {b : Int} {x : Nat × Int} (h : x ∈ Mk.spansTill u (Lt.stretches t 0 b rest)) : x.1 < rest.length + 1 ∧ 0 < x.2 ∧ x.2 ≤ u - t := by
  unfold Mk.spansTill at h
  obtain ⟨s, hs, rfl⟩ := List.mem_map.mp h
  obtain ⟨h1, h2⟩ := List.mem_filter.mp hs
  have h2 := of_decide_eq_true h2
  have h3 := stretch_lt t rest 0 b s h1
  have h4 := stretch_since t rest 0 b s h1
  refine ⟨by omega, h2, ?_⟩
  show Mk.lastsTill u s ≤ u - t
  unfold Mk.lastsTill
  cases s.2.2 with
  | none => simp only; omega
  | some d => simp only; omega
def spSet (K : PySem.W.Frag) (C : Addr) : Sp := fun vs H Q _ => ∃ (fa : Addr) (v : Wind) (F : Fc) (t u : Int), vs = [.ref fa, .int t, .int u] ∧ FcA K C H fa v F ∧ v ≠ [] ∧ WOk 24 v ∧ (0 ≤ t ∧ t ≤ 1000000) ∧ (0 ≤ u ∧ u ≤ 1000000) ∧
  ∀ H' q ks, Same H H' → H q = none → H' q = some (.lst (refsV ks)) → RowP K H' ks → ks.length ≤ 1000 → pts ks = Mk.setM (v.map (·.from_)) (Vbreac.sails v) t u → Q (.ref q) H'
theorem sides_len (l : List Pt) : (Mk.sidesM l).length ≤ l.length := by
  unfold Mk.sidesM
  split
  · exact Nat.zero_le _
  · rw [List.length_map, Vbreac.edges, List.length_zip]
    exact Nat.min_le_left _ _
theorem sides_in {l : List Pt} (h : ∀ p ∈ l, Bd.Within 1000 p) : ∀ s ∈ Mk.sidesM l, Bd.Within 2000 s := fun s hs => by
  unfold Mk.sidesM at hs
  split at hs
  · cases hs
  · obtain ⟨e, he, rfl⟩ := List.mem_map.mp hs
    obtain ⟨m1, m2⟩ := Bd.edges_mem he
    have h1 := h _ m1
    have h2 := h _ m2
    simp only [Bd.Within, Vbreac.minus] at *
    omega
theorem scaled_in {p : Pt} {z : Int} (h : Bd.Within 2000 p) (hz : 0 ≤ z ∧ z ≤ 1000000) : Bd.Within 2000000000 (Vbreac.scaled z p) := by
  have h1 := Bd.mul_within (m := 1000000) (n := 2000) (a := z) (b := p.x) (by omega) h.1
  have h2 := Bd.mul_within (m := 1000000) (n := 2000) (a := z) (b := p.y) (by omega) h.2
  simp only [Bd.Within, Vbreac.scaled]
  omega
theorem okSet (T : Tx K mg) {k : Nat} : FnOk P w K mg base CX0 (k + 4) T.set_corners.f T.set_corners.fd ["forecast", "t", "u"] (spSet K T.CForecast) := by
  have GS : FnOk P w K mg base CX0 (k + 3) T.spans_between.f T.spans_between.fd ["begins", "t", "u"] (spSpans K) := okSpans T
  have GT : FnOk P w K mg base CX0 (k + 3) T.total.f T.total.fd ["p", "q"] (spTot K) := okTot T
  have GR : FnOk P w K mg base CX0 (k + 3) T.stretched.f T.stretched.fd ["p", "times"] (spStr K) := okStr T
  have GM : FnOk P w K mg base CX0 (k + 3) T.merged_sides.f T.merged_sides.fd ["ones", "others"] (spMerge K) := okMerge T
  have GA : FnOk P w K mg base CX0 (k + 3) T.corners_along.f T.corners_along.fd ["first", "sides"] (spAlong K) := okAlong T
  have GD : FnOk P w K mg base CX0 (k + 3) T.hull_sides.f T.hull_sides.fd ["corners"] (spSides K) := ok_sides T.hull_sides.fn T.neighbours.fn T.neighbours.b T.neighbours.g T.difference.fn T.difference.b T.difference.g T.nb.len_ T.nb.list_ T.nb.zip_
  refine T.set_corners.fn.ok sc_set_corners (fun vs H Q E h => ?_) (fun cdv A outer s H vs Q E hr h => ?_)
  · obtain ⟨fa, v, F, t, u, rfl, _⟩ := h
    rfl
  · obtain ⟨fa, v, F, t, u, rfl, hF, hv, W, ht, hu, k⟩ := h
    refine ⟨_, pss_cons (ps_set (i := 3) sc_set_corners.nd rfl (.inl rfl) (pe_tup (pa_cons pe_int (pa_cons pe_int pa_nil))))
      (pss_cons (ps_set (i := 4) sc_set_corners.nd rfl (.inl rfl) (pe_lst pa_nil))
      (pss_cons (ps_for PassesOwn.never rfl (pi_list (pe_call GS hr rfl T.spans_between.g T.spans_between.fn.kp T.spans_between.b .nil pass0 (pa_cons (pe_fld (pv 0) rfl) (pa_cons (pv 1) (pa_cons (pv 2) pa_nil)))))
          (pg_tup rfl (pgs_cons (pg_name (i := 5) sc_set_corners.nd rfl (.inl rfl)) (pgs_cons (pg_name (i := 6) sc_set_corners.nd rfl (.inr rfl)) pgs_nil)))
        (pss_cons (ps_set (i := 7) sc_set_corners.nd rfl (.inl rfl) (pe_ix ix_list (pe_fld (pv 0) rfl) (pv 5) (fun _ _ => rfl)))
        (pss_cons (ps_set (i := 3) sc_set_corners.nd rfl (.inl rfl) (pe_call GT hr rfl T.total.g T.total.fn.kp T.total.b .nil pass0 (pa_cons (pv 3) (pa_cons (pe_call GR hr rfl T.stretched.g T.stretched.fn.kp T.stretched.b .nil pass0 (pa_cons (pe_ix ix_list (pv 7) pe_int (fun _ _ => rfl)) (pa_cons (pv 6) pa_nil))) pa_nil))))
        (pss_one (ps_set (i := 4) sc_set_corners.nd rfl (.inl rfl) (pe_call GM hr rfl T.merged_sides.g T.merged_sides.fn.kp T.merged_sides.b .nil pass0 (pa_cons (pv 4) (pa_cons (pe_lc (own := [("side", 8)]) (g := gName 8) (tt := tYes) rfl sc_set_corners.nd
          (pi_list (pe_call GD hr rfl T.hull_sides.g T.hull_sides.fn.kp T.hull_sides.b .nil pass0 (pa_cons (pv 7) pa_nil)))
          (blkOk_by (N := ["forecast", "t", "u", "first", "sides", "number", "span", "corners", "side"]) (sc := defScope s_set_corners) (by decide +kernel))
          (fun _ _ _ _ _ => pg_name (i := 8) sc_set_corners.nd rfl (.inl rfl)) (fun _ _ _ _ _ => pts_nil)
          (fun _ _ _ _ _ => pe_call GR hr rfl T.stretched.g T.stretched.fn.kp T.stretched.b .nil pass0 (pa_cons (pv 8) (pa_cons (pv 6) pa_nil)))) pa_nil)))))))
      )
      (pss_one (ps_ret (pe_call GA hr rfl T.corners_along.g T.corners_along.fn.kp T.corners_along.b .nil pass0 (pa_cons (pv 3) (pa_cons (pv 4) pa_nil))))))), ?_⟩
    refine ⟨(by show 2 ≤ sizeLine; decide), fun f0 nf0 => ⟨Nat.zero_le _, fun d0 nd0 => ?_⟩⟩
    have s1 := (same_upd (o := .tup [.int 0, .int 0]) nf0).trans (same_upd (o := .lst []) nd0)
    have hf0 : PtA K (upd (upd H f0 (.tup [.int 0, .int 0])) d0 (.lst [])) f0 Vbreac.zero := SqT.of (by rw [upd_ne (ne_of_none upd_same nd0)]; exact upd_same)
    obtain ⟨b, rest, ebr⟩ : ∃ b rest, v.map (·.from_) = b :: rest := by
      cases v with
      | nil => exact absurd rfl hv
      | cons s0 r => exact ⟨_, _, rfl⟩
    have lrest : rest.length + 1 = v.length := by
      have := congrArg List.length ebr
      simp only [List.length_map, List.length_cons] at this
      omega
    have vl := W.len
    have hbg := hF.bg
    rw [ebr] at hbg
    refine ⟨_, rfl, fa, T.CForecast, F.dx, _, _, rfl, s1 _ _ hF.ob, T.cForecast, T.nForecast_begins, fc_begins _ _ _ _ _, _, rfl, _, rfl, F.ab, b, rest, t, u, rfl, SqL.of (s1 _ _ hbg), by omega, fun H1 q ps s2 nq hq hps eps => ?_⟩
    have lps : ps.length ≤ 12 := by
      have e1 := congrArg List.length eps
      have e2 := stretch_len t rest 0 b
      have e3 := List.length_filter_le (fun s => decide (0 < Mk.lastsTill u s)) (Lt.stretches t 0 b rest)
      rw [List.length_map, Mk.spansTill, List.length_map] at e1
      omega
    have s12 := s1.trans s2
    refine ⟨q, rfl, ⟨_, SqL.of hq⟩, for_list (K := K) (a := q) (xs := prV ps) (fun i σ H' => ∃ (v5 v6 v7 : Option V) (fi sd : Addr) (ms : Row) (x : Pt × List Pt), σ = [some (.ref fa), some (.int t), some (.int u), some (.ref fi), some (.ref sd), v5, v6, v7, none] ∧ Same H1 H' ∧ PtA K H' fi x.1 ∧ H' sd = some (.lst (refsV ms)) ∧ RowP K H' ms ∧ pts ms = x.2 ∧ ms.length ≤ 25 * i ∧ (∀ p ∈ x.2, Bd.Within (2000000000 * (i : Int)) p) ∧ x = ((ps.map (·.2)).take i).foldl (Mk.setStep (Vbreac.sails v)) (Vbreac.zero, []))
      ⟨none, none, none, f0, d0, [], (Vbreac.zero, []), rfl, Same.refl _, same_pt s2 hf0, s2 _ _ upd_same, (fun r hr' => nomatch hr'), rfl, Nat.le_refl _, (fun p hp => nomatch hp), rfl⟩ (fun i σ H' _ ⟨_, _, _, _, _, _, _, _, z, _⟩ => SqL.of (z _ _ hq)) ?_ ?_⟩
    · rintro i y σ H2 hi ⟨v5, v6, v7, fi, sd, ms, x, rfl, sm, hfi, hsd, hms, ems, lms, wms, ex⟩
      obtain ⟨sp, hsp, rfl⟩ := pr_get hi
      have hmem := List.mem_of_getElem? hsp
      have isp := (List.getElem?_eq_some_iff.mp hsp).1
      have hspT := sm _ _ (hps sp hmem)
      obtain ⟨n1, z1, z2⟩ := spans_mem (t := t) (u := u) (rest := rest) (b := b) (x := sp.2) (by rw [← eps]; exact List.mem_map_of_mem hmem)
      have hnum : sp.2.1 < F.hs.length := by rw [hF.len]; omega
      obtain ⟨h, hh⟩ : ∃ h, F.hs[sp.2.1]? = some h := ⟨_, List.getElem?_eq_getElem hnum⟩
      have hhm := List.mem_of_getElem? hh
      have sA := s12.trans sm
      have hA := (hF.hu h hhm).same sA
      have ehs : (Vbreac.sails v)[sp.2.1]? = some (pts h.2) := by
        rw [← hF.hp, List.getElem?_map, hh]
        rfl
      have egd : (Vbreac.sails v).getD sp.2.1 [] = pts h.2 := by rw [List.getD_eq_getElem?_getD, ehs]; rfl
      have win : ∀ p ∈ pts h.2, Bd.Within 1000 p := sails_within W _ (List.mem_of_getElem? ehs)
      obtain ⟨r0, hr0⟩ : ∃ r0, h.2[0]? = some r0 := ⟨_, List.getElem?_eq_getElem hA.pos⟩
      have hsmall : Small sp.2.2 := by
        simp only [Small]
        omega
      have few := hull_few hF W h hhm
      refine ⟨sp.1, _, rfl, SqT.of hspT, rfl, _, _, rfl, _, _, rfl, rfl, _, rfl, fa, T.CForecast, F.dx, _, _, rfl, sA _ _ hF.ob, T.cForecast, T.nForecast_hulls, fc_hulls _ _ _ _ _, _, rfl, F.ah, _, _, _, rfl, rfl, SqL.of (sA _ _ hF.hl), atI_nat (j := sp.2.1) (by unfold hullsV; rw [List.getElem?_map, hh]; rfl), ?_⟩
      refine ⟨_, rfl, _, rfl, h.1, _, _, _, rfl, rfl, hA.list, atI_nat (j := 0) (by unfold refsV; rw [List.getElem?_map, hr0]; rfl), _, rfl, r0.1, r0.2, sp.2.2, rfl, (hA.row r0 (List.mem_of_getElem? hr0)).1, hsmall, fun t1 nt1 => ?_⟩
      have sB := same_upd (o := .tup [.int (Vbreac.scaled sp.2.2 r0.2).x, .int (Vbreac.scaled sp.2.2 r0.2).y]) nt1
      refine ⟨fi, t1, x.1, Vbreac.scaled sp.2.2 r0.2, rfl, same_pt sB hfi, SqT.of upd_same, fun t2 nt2 => ?_⟩
      have sC := same_upd (o := .tup [.int (Vbreac.plus x.1 (Vbreac.scaled sp.2.2 r0.2)).x, .int (Vbreac.plus x.1 (Vbreac.scaled sp.2.2 r0.2)).y]) nt2
      have sBC := sB.trans sC
      have hA2 := hA.same sBC
      refine ⟨_, rfl, _, rfl, h.1, h.2, rfl, hA2.list, hA2.row, Nat.lt_trans hA2.few (by decide), fun H3 sq ks s3 nsq hsq hks eks => ?_⟩
      have lks : ks.length ≤ 25 := by
        have e1 := congrArg List.length eks
        have e2 : (sidesOf (pts h.2)).length ≤ (pts h.2).length := sides_len (pts h.2)
        rw [pts_len] at e1 e2
        omega
      refine ⟨sq, rfl, ⟨_, SqL.of hsq⟩, fun D nD => lc_list (K := K) (a := sq) (xs := refsV ks) (fun j H' => ∃ us : Row, Same H3 H' ∧ H' D = some (.lst (refsV us)) ∧ RowP K H' us ∧ pts us = ((pts ks).take j).map (Vbreac.scaled sp.2.2))
        ⟨[], same_upd nD, upd_same, (fun r hr' => nomatch hr'), rfl⟩ (fun j H' _ ⟨_, sm', _⟩ => SqL.of (sm' _ _ hsq)) ?_ ?_⟩
      · rintro j y H4 hj ⟨us, sm4, hD, hus, eus⟩
        obtain ⟨r, hr', rfl⟩ := refsV_get hj
        have jl := (List.getElem?_eq_some_iff.mp hr').1
        refine ⟨rfl, _, rfl, _, rfl, r.1, r.2, sp.2.2, rfl, same_pt sm4 (hks r (List.mem_of_getElem? hr')).1, hsmall, fun t3 nt3 => ?_⟩
        have sD := same_upd (o := .tup [.int (Vbreac.scaled sp.2.2 r.2).x, .int (Vbreac.scaled sp.2.2 r.2).y]) nt3
        have hDD := sD _ _ hD
        refine ⟨_, hDD, ?_, us ++ [(t3, Vbreac.scaled sp.2.2 r.2)], same_grow nD (sm4.trans sD), ?_, RowP.updL hDD ((hus.same sD).snoc (SqT.of upd_same)), ?_⟩
        · have e1 := congrArg List.length eus
          rw [pts_len, List.length_map, List.length_take] at e1
          rw [refsV_len, sizeLine_eq]
          omega
        · rw [upd_same]
          exact congrArg some (congrArg HO.lst (refsV_snoc' us (t3, Vbreac.scaled sp.2.2 r.2)))
        · rw [← pts_app, eus, take_snoc (pts_get hr'), List.map_append]
          rfl
      · rintro H4 ⟨us, sm4, hD, hus, eus⟩
        rw [refsV_len, ← pts_len, List.take_length, eks] at eus
        have eus : pts us = (Mk.sidesM (pts h.2)).map (Vbreac.scaled sp.2.2) := eus
        have lus : us.length ≤ 25 := by
          have e1 := congrArg List.length eus
          have e2 := sides_len (pts h.2)
          rw [pts_len, List.length_map] at e1
          rw [pts_len] at e2
          omega
        have s34 := s3.trans sm4
        have sAll := sBC.trans s34
        have wus : ∀ p ∈ pts us, Bd.Within 2000000000 p := fun p hp => by
          rw [eus] at hp
          obtain ⟨p0, hp0, rfl⟩ := List.mem_map.mp hp
          exact scaled_in (sides_in win p0 hp0) (by omega)
        have i12 : i < 12 := by omega
        refine ⟨sd, D, ms, us, rfl, sAll _ _ hsd, hD, hms.same sAll, hus, fun r hr' => ?_, fun r hr' => ?_, by omega, by omega, fun H5 mq ns s5 nmq hmq hns ens => ?_⟩
        · have := wms r.2 (by rw [← ems]; exact List.mem_map_of_mem hr')
          simp only [Bd.Within] at *
          omega
        · have := wus r.2 (List.mem_map_of_mem hr')
          simp only [Bd.Within] at *
          omega
        · have hget : (ps.map (·.2))[i]? = some sp.2 := by rw [List.getElem?_map, hsp]; rfl
          have ex2 : Mk.setStep (Vbreac.sails v) x sp.2 = ((ps.map (·.2)).take (i + 1)).foldl (Mk.setStep (Vbreac.sails v)) (Vbreac.zero, []) := by
            rw [take_snoc hget, List.foldl_append, ← ex]
            rfl
          have e1 : Mk.setStep (Vbreac.sails v) x sp.2 = (Vbreac.plus x.1 (Vbreac.scaled sp.2.2 r0.2), pts ns) := by
            unfold Mk.setStep
            rw [egd, ens, ems, eus]
            have : (pts h.2).getD 0 Vbreac.zero = r0.2 := by rw [List.getD_eq_getElem?_getD, pts_get hr0]; rfl
            rw [this]
          have lns : ns.length ≤ ms.length + us.length := by
            have h1 := Mk.merge_len _ (pts ms) (pts us) rfl
            rw [← ens, pts_len, pts_len, pts_len] at h1
            exact h1
          refine ⟨_, _, _, t2, mq, ns, (Vbreac.plus x.1 (Vbreac.scaled sp.2.2 r0.2), pts ns), rfl, (sm.trans sAll).trans s5, same_pt (s34.trans s5) (SqT.of upd_same), hmq, hns, rfl, by omega, fun p hp => ?_, by rw [← e1, ex2]⟩
          have hp : p ∈ Mk.mergeS (pts ms) (pts us) := by rw [← ens]; exact hp
          have := merge_within (A := 2000000000 * (i : Int)) (B := 2000000000) (by omega) (by decide) _ (pts ms) (pts us) (Nat.le_refl _) (by rw [ems]; exact wms) wus p hp
          rw [show (2000000000 : Int) * ((i + 1 : Nat) : Int) = 2000000000 * (i : Int) + 2000000000 by push_cast; omega]
          exact this
    · rintro σ H2 ⟨v5, v6, v7, fi, sd, ms, x, rfl, sm, hfi, hsd, hms, ems, lms, wms, ex⟩
      have lp2 : (prV ps).length = (ps.map (·.2)).length := by simp [prV]
      rw [lp2, List.take_length, eps] at ex
      rw [lp2, List.length_map] at lms
      refine ⟨_, rfl, _, rfl, fi, sd, x.1, ms, rfl, hfi, hsd, hms, by omega, fun H3 g ks s3 ng hg hks eks => ?_⟩
      refine k H3 g ks ((s12.trans sm).trans s3) ((s12.trans sm).free ng) hg hks ?_ ?_
      · have e1 := congrArg List.length eks
        rw [pts_len, Mk.cornersAlong, List.length_cons, Mk.walk_len, List.length_dropLast, pts_len] at e1
        omega
      rw [eks, ems, ex]
      unfold Mk.setM
      rw [ebr]
end
end Sw
set_option maxHeartbeats 4000000
namespace Sw
open PySem PySem.Spec PyProof.Rows L2 LamX
open Vbreac (Pt Frac Wind)
section
variable {P : Program} {w : World} {K : PySem.W.Frag} {mg : Str → Option Value} {base : Heap}
/-! ### sailed_spans -/
theorem stretch_none (t : Int) : ∀ (rest : List Int) (i : Nat) (b : Int), ∀ s ∈ Lt.stretches t i b rest, s.2.2 = none → s.1 = i + rest.length
  | [], i, b, s, hs, _ => by
    simp only [Lt.stretches, List.mem_cons, List.not_mem_nil, or_false] at hs
    rw [hs]
    rfl
  | e :: r, i, b, s, hs, hn => by
    simp only [Lt.stretches] at hs
    simp only [List.length_cons]
    split at hs
    · rcases List.mem_cons.1 hs with z | z
      · rw [z] at hn
        cases hn
      · have := stretch_none t r (i + 1) e s z hn
        omega
    · have := stretch_none t r (i + 1) e s hs hn
      omega
def sailPre (sp : List Lt.Span) (a : Lt.Arr) : List (Nat × Int) := (sp.filter fun s => decide (s.1 < a.number)).map (fun s => (s.1, s.2.2.getD 0 * a.lower))
theorem sailed_is (sp : List Lt.Span) (a : Lt.Arr) : Lt.sailed sp a = sailPre sp a ++ [(a.number, a.upper)] := rfl
theorem pre_snoc (l : List Lt.Span) (s : Lt.Span) (a : Lt.Arr) : sailPre (l ++ [s]) a = sailPre l a ++ (if s.1 < a.number then [(s.1, s.2.2.getD 0 * a.lower)] else []) := by
  unfold sailPre
  rw [List.filter_append, List.map_append]
  congr 1
  by_cases h : s.1 < a.number
  · rw [List.filter_cons, if_pos (decide_eq_true h), if_pos h]
    rfl
  · rw [List.filter_cons, if_neg (by simpa using h), if_neg h]
    rfl
def spSail (K : PySem.W.Frag) (CA : Addr) : Sp := fun vs H Q _ => ∃ (ab : Addr) (b : Int) (rest : List Int) (t : Int) (x : Addr) (a : Lt.Arr), vs = [.ref ab, .int t, .ref x] ∧ SqL K H ab ((b :: rest).map V.int) ∧ rest.length < 1000 ∧ ArrA K CA H x a 1 ∧ a.number ≤ rest.length ∧ (0 ≤ a.lower ∧ a.lower ≤ 4000000) ∧
  ∀ H' q ss, Same H H' → H q = none → H' q = some (.lst (prV ss)) → PrA H' ss → ss.map (·.2) = Lt.sailed (Lt.stretches t 0 b rest) a → Q (.ref q) H'
theorem okSail (T : Tx K mg) {k : Nat} : FnOk P w K mg base CX0 (k + 2) T.sailed_spans.f T.sailed_spans.fd ["begins", "t", "arrival"] (spSail K T.CArrival) := by
  have GS : FnOk P w K mg base CX0 (k + 1) T.stretches.f T.stretches.fd ["begins", "t"] (spStretch K) := okStretch T
  refine T.sailed_spans.fn.ok sc_sailed_spans (fun vs H Q E h => ?_) (fun cdv A outer s H vs Q E hr h => ?_)
  · obtain ⟨ab, b, rest, t, x, a, rfl, _⟩ := h
    rfl
  · obtain ⟨ab, b, rest, t, x, a, rfl, hS, hlen, hA, hn, hl, k⟩ := h
    refine ⟨_, pss_cons (ps_set (i := 3) sc_sailed_spans.nd rfl (.inl rfl) (pe_lst pa_nil))
      (pss_cons (ps_for PassesOwn.never rfl (pi_list (pe_call GS hr rfl T.stretches.g T.stretches.fn.kp T.stretches.b .nil pass0 (pa_cons (pv 0) (pa_cons (pv 1) pa_nil))))
          (pg_tup rfl (pgs_cons (pg_name (i := 4) sc_sailed_spans.nd rfl (.inl rfl)) (pgs_cons (pg_name (i := 5) sc_sailed_spans.nd rfl (.inl rfl)) (pgs_cons (pg_name (i := 6) sc_sailed_spans.nd rfl (.inl rfl)) pgs_nil))))
        (pss_one (ps_if (pt_cmpR op_lt (pv 4) (pe_fld (pv 2) rfl) (nomark _)) (pss_one (ps_expr (pe_bm PySem.F.plainAttrs_list PySem.F.slot_list_append PySem.F.type_list_append mt_append (pv 3) (pa_cons (pe_tup (pa_cons (pv 4) (pa_cons (pe_op op_mul (pv 6) (pe_ix ix_tup (pe_fld (pv 2) rfl) pe_int (fun _ _ => rfl))) pa_nil))) pa_nil)))) pss_nil)))
      (pss_cons (ps_expr (pe_bm PySem.F.plainAttrs_list PySem.F.slot_list_append PySem.F.type_list_append mt_append (pv 3) (pa_cons (pe_tup (pa_cons (pe_fld (pv 2) rfl) (pa_cons (pe_ix ix_tup (pe_fld (pv 2) rfl) pe_int (fun _ _ => rfl)) pa_nil))) pa_nil)))
      (pss_one (ps_ret (pv 3))))), ?_⟩
    obtain ⟨dx, sA, tA, pA, hx, hs, hta, hp⟩ := hA
    refine ⟨Nat.zero_le _, fun o no => ?_⟩
    have s1 : Same H (upd H o (.lst [])) := same_upd no
    refine ⟨_, rfl, _, rfl, ab, b, rest, t, rfl, s1.seq hS, hlen, fun H1 q ss s2 nq hq hss ess => ?_⟩
    have lss : ss.length ≤ 1000 := by
      have e1 := congrArg List.length ess
      have e2 := stretch_len t rest 0 b
      rw [sps, List.length_map] at e1
      omega
    have noq : o ≠ q := fun z => by rw [← z, upd_same] at nq; cases nq
    refine ⟨q, rfl, ⟨_, SqL.of hq⟩, for_list (K := K) (a := q) (xs := spsV ss) (fun i σ H' => ∃ (v4 v5 v6 : Option V) (ps : Prs), σ = [some (.ref ab), some (.int t), some (.ref x), some (.ref o), v4, v5, v6] ∧ Same H H' ∧ H' q = some (.lst (spsV ss)) ∧ SpsA H' ss ∧ H' o = some (.lst (prV ps)) ∧ PrA H' ps ∧ ps.length ≤ i ∧ ps.map (·.2) = sailPre ((sps ss).take i) a)
      ⟨none, none, none, [], rfl, s1.trans s2, hq, hss, s2 _ _ upd_same, (fun s hs => nomatch hs), Nat.le_refl _, rfl⟩ (fun i σ H' _ ⟨_, _, _, _, _, _, z, _⟩ => SqL.of z) ?_ ?_⟩
    · rintro i y σ H2 hi ⟨v4, v5, v6, ps, rfl, sm, hq2, hss2, ho, hps, lps, eps⟩
      obtain ⟨sp, hsp, rfl⟩ := sps_get hi
      have hspT := hss2 sp (List.mem_of_getElem? hsp)
      have isp := (List.getElem?_eq_some_iff.mp hsp).1
      have h1 : (sps ss)[i]? = some sp.2 := by rw [sps, List.getElem?_map, hsp]; rfl
      refine ⟨sp.1, _, rfl, SqT.of hspT, rfl, _, _, rfl, _, _, rfl, _, _, rfl, rfl, _, rfl, _, rfl, x, T.CArrival, dx, _, _, rfl, sm _ _ hx, T.cArrival, T.nArrival_number, ar_number _ _ _ _, _, _, rfl, rfl, _, rfl, ite2 (fun e => ?_) (fun e => ?_)⟩
      · have e : ((sp.2.1 : Nat) : Int) < ((a.number : Nat) : Int) := of_decide_eq_true e
        cases eD : sp.2.2.2 with
        | none =>
          have := stretch_none t rest 0 b sp.2 (by rw [← ess]; exact List.mem_map_of_mem (List.mem_of_getElem? hsp)) eD
          omega
        | some dd =>
          refine ⟨_, rfl, .inl ⟨rfl, _, SqL.of ho⟩, _, rfl, _, rfl, _, rfl, x, T.CArrival, dx, _, _, rfl, sm _ _ hx, T.cArrival, T.nArrival_takes, ar_takes _ _ _ _, tA, _, _, _, rfl, rfl, sm.sqT hta, atI_nat (j := 1) rfl, dd, _, ?_, rfl, .inr ?_, (by show 2 ≤ sizeLine; decide), fun t' nt' => ?_⟩
          · rfl
          · show Small (a.lower * ((1 : Nat) : Int))
            simp only [Small]
            omega
          have sT := same_upd (o := .tup [.int (sp.2.1 : Nat), .int (dd * (a.lower * ((1 : Nat) : Int)))]) nt'
          have hoT := sT _ _ ho
          refine ⟨o, _, _, rfl, rfl, hoT, ?_, ?_⟩
          · rw [prV, List.length_map, sizeLine_eq]
            omega
          refine ⟨_, _, _, ps ++ [(t', (sp.2.1, dd * (a.lower * ((1 : Nat) : Int))))], rfl, same_grow no (sm.trans sT), ?_, fun x hx => ?_, ?_, PrA.snoc hoT (hps.same sT) upd_same, ?_, ?_⟩
          · rw [upd_ne (Ne.symm noq)]
            exact sT _ _ hq2
          · have q2 := sT _ _ (hss2 x hx)
            rw [upd_ne (ne_of q2 hoT (by intro z; cases z))]
            exact q2
          · rw [upd_same, prV, prV, List.map_append]
            rfl
          · rw [List.length_append]
            simp only [List.length_cons, List.length_nil]
            omega
          · rw [List.map_append, eps, take_snoc h1, pre_snoc, if_pos (by omega), eD]
            show _ ++ [(sp.2.1, dd * (a.lower * ((1 : Nat) : Int)))] = _ ++ [(sp.2.1, dd * a.lower)]
            rw [show ((1 : Nat) : Int) = 1 from rfl, Int.mul_one]
      · have e : ¬ ((sp.2.1 : Nat) : Int) < ((a.number : Nat) : Int) := fun z => e (decide_eq_true z)
        refine ⟨_, _, _, ps, rfl, sm, hq2, hss2, ho, hps, by omega, ?_⟩
        rw [take_snoc h1, pre_snoc, if_neg (by omega), List.append_nil]
        exact eps
    · rintro σ H2 ⟨v4, v5, v6, ps, rfl, sm, hq2, hss2, ho, hps, lps, eps⟩
      rw [spsV, List.length_map] at eps lps
      rw [List.take_of_length_le (by simp [sps]), ess] at eps
      refine ⟨_, rfl, .inl ⟨rfl, _, SqL.of ho⟩, _, rfl, x, T.CArrival, dx, _, _, rfl, sm _ _ hx, T.cArrival, T.nArrival_number, ar_number _ _ _ _, _, rfl, x, T.CArrival, dx, _, _, rfl, sm _ _ hx, T.cArrival, T.nArrival_takes, ar_takes _ _ _ _, tA, _, _, _, rfl, rfl, sm.sqT hta, atI_nat (j := 0) rfl, (by show 2 ≤ sizeLine; decide), fun t' nt' => ?_⟩
      have sT := same_upd (o := .tup [.int (a.number : Nat), .int a.upper]) nt'
      have hoT := sT _ _ ho
      refine ⟨o, _, _, rfl, rfl, hoT, ?_, _, rfl, ?_⟩
      · rw [prV, List.length_map, sizeLine_eq]
        omega
      refine k _ o (ps ++ [(t', (a.number, a.upper))]) (same_grow no (sm.trans sT)) no ?_ (PrA.snoc hoT (hps.same sT) upd_same) ?_
      · rw [upd_same, prV, prV, List.map_append]
        rfl
      · rw [List.map_append, eps, sailed_is]
        rfl
/-! ### sailed_slices -/
abbrev Qs := List (Addr × (Nat × Int × (Addr × Pt) × (Addr × Pt)))
def qsV (qs : Qs) : List V := qs.map fun q => V.ref q.1
def toS (q : Nat × Int × (Addr × Pt) × (Addr × Pt)) : Lt.Sailed := (q.1, q.2.1, q.2.2.1.2, q.2.2.2.2)
def QsA (K : PySem.W.Frag) (H : Hp) (qs : Qs) : Prop := ∀ q ∈ qs, H q.1 = some (.tup [.int (q.2.1 : Nat), .int q.2.2.1, .ref q.2.2.2.1.1, .ref q.2.2.2.2.1]) ∧ PtA K H q.2.2.2.1.1 q.2.2.2.1.2 ∧ PtA K H q.2.2.2.2.1 q.2.2.2.2.2
theorem qs_get {ss : Qs} {i : Nat} {x : V} (h : (qsV ss)[i]? = some x) : ∃ s, ss[i]? = some s ∧ x = .ref s.1 := by
  unfold qsV at h
  rw [List.getElem?_map] at h
  cases e : ss[i]? with
  | none => rw [e] at h; cases h
  | some r => rw [e] at h; exact ⟨r, rfl, (Option.some.inj h).symm⟩
theorem QsA.keptI {H H' : Hp} {qs : Qs} (s : KeptI H H') (h : QsA K H qs) : QsA K H' qs := fun q hq => ⟨s.tup (h q hq).1, s.pt (h q hq).2.1, s.pt (h q hq).2.2⟩
theorem QsA.snoc {H : Hp} {D : Addr} {ys : List V} {o : HO} {qs : Qs} {q : Addr × (Nat × Int × (Addr × Pt) × (Addr × Pt))} (hD : H D = some (.lst ys)) (h : QsA K H (qs ++ [q])) : QsA K (upd H D o) (qs ++ [q]) := fun x hx => by
  obtain ⟨h1, h2, h3⟩ := h x hx
  exact ⟨by rw [upd_ne (ne_of h1 hD (by intro z; cases z))]; exact h1, sqT_updL hD h2, sqT_updL hD h3⟩
theorem Keep.trans {T : List (Addr × Str)} {H H1 H2 : Hp} (a : Keep T H H1) (b : Keep T H1 H2) : Keep T H H2 := ⟨a.ext.trans b.ext, b.tabs⟩
theorem Keep.then {T : List (Addr × Str)} {H H1 H2 : Hp} (a : Keep T H H1) (s : Same H1 H2) : Keep T H H2 := ⟨a.ext.trans (ExtN.of s), a.tabs.ext s⟩
theorem Keep.of {T : List (Addr × Str)} {H H1 : Hp} (t : Tabs T H) (s : Same H H1) : Keep T H H1 := ⟨ExtN.of s, t.ext s⟩
theorem ExtN.free {H H1 : Hp} {o : Addr} (e : ExtN H H1) (hT : ∀ ps, H o ≠ some (.tbl ps)) (n : H1 o = none) : H o = none := by
  cases q : H o with
  | none => rfl
  | some u =>
    rw [e _ _ q (fun ps z => hT ps (by rw [q, z]))] at n
    cases n
/-- A list that grows, tables beside. -/
theorem Keep.grow {T : List (Addr × Str)} {H H1 : Hp} {o : Addr} {xs : List V} {u : HO} (a : Keep T H H1) (no : H o = none) (ho : H1 o = some (.lst xs)) : Keep T H (upd H1 o u) := by
  refine ⟨fun b z h n => ?_, fun p hp => ?_⟩
  · rw [upd_ne (ne_of_none h no)]
    exact a.ext _ _ h n
  · obtain ⟨ps, h1, h2, h3⟩ := a.tabs p hp
    refine ⟨ps, ?_, h2, fun pos cv hc => ?_⟩
    · rw [upd_ne (ne_of h1 ho (by intro z; cases z))]
      exact h1
    · obtain ⟨c, e1, e2⟩ := h3 pos cv hc
      refine ⟨c, e1, ?_⟩
      rw [upd_ne (ne_of e2 ho (by intro z; cases z))]
      exact e2
def spSliced (K : PySem.W.Frag) (C CA : Addr) (Tb : List (Addr × Str)) : Sp := fun vs H Q _ => ∃ (fa : Addr) (v : Wind) (F : Fc) (t : Int) (x : Addr) (a : Lt.Arr) (b : Int) (rest : List Int), vs = [.ref fa, .int t, .ref x] ∧ FcA K C H fa v F ∧ WOk 24 v ∧ v.map (·.from_) = b :: rest ∧ ArrA K CA H x a 1 ∧ a.number ≤ rest.length ∧ (0 ≤ a.lower ∧ a.lower ≤ 4000000) ∧ Bd.Within 2000 a.proof ∧ Tabs Tb H ∧
  ∀ H' q qs, Keep Tb H H' → H q = none → H' q = some (.lst (qsV qs)) → QsA K H' qs → qs.map (fun q => toS q.2) = (Lt.sailed (Lt.stretches t 0 b rest) a).map (Lt.withEnds a.proof (Vbreac.sails v)) → Q (.ref q) H'
theorem okSliced (T : Tx K mg) {tb : Addr} (N : Bs P w K mg base T tb) {k : Nat} : FnOk P w K mg base CX0 (k + 5) T.sailed_slices.f T.sailed_slices.fd ["forecast", "t", "arrival"] (spSliced K T.CForecast T.CArrival (lamTabs tb)) := by
  have GS : FnOk P w K mg base CX0 (k + 4) T.sailed_spans.f T.sailed_spans.fd ["begins", "t", "arrival"] (spSail K T.CArrival) := okSail T
  obtain ⟨c, hc, hTB⟩ := N.lam
  have GO : FnOk P w K mg base CX0 (k + 4) T.outer_corners.f T.outer_corners.fd ["corners", "direction"] (spOuter K (lamTabs tb)) := ok_outer T.outer_corners.fn hc hTB T.furthest_corners.fn T.furthest_corners.b T.furthest_corners.g T.cross.fn T.cross.b T.cross.g T.nb.min_ T.nb.max_
    (ok_furth T.furthest_corners.fn T.how_far.fn T.how_far.b T.how_far.g T.hull_support.fn T.hull_support.b T.hull_support.g T.nb.max_)
  refine T.sailed_slices.fn.ok sc_sailed_slices (fun vs H Q E h => ?_) (fun cdv A outer s H vs Q E hr h => ?_)
  · obtain ⟨fa, v, F, t, x, a, b, rest, rfl, _⟩ := h
    rfl
  · obtain ⟨fa, v, F, t, x, a, b, rest, rfl, hF, W, ebr, hA, hn, hl, hpr, hTb, k⟩ := h
    refine ⟨_, pss_cons (ps_set (i := 3) sc_sailed_slices.nd rfl (.inl rfl) (pe_lst pa_nil))
      (pss_cons (ps_for PassesOwn.never rfl (pi_list (pe_call GS hr rfl T.sailed_spans.g T.sailed_spans.fn.kp T.sailed_spans.b .nil pass0 (pa_cons (pe_fld (pv 0) rfl) (pa_cons (pv 1) (pa_cons (pv 2) pa_nil)))))
          (pg_tup rfl (pgs_cons (pg_name (i := 4) sc_sailed_slices.nd rfl (.inl rfl)) (pgs_cons (pg_name (i := 5) sc_sailed_slices.nd rfl (.inl rfl)) pgs_nil)))
        (pss_cons (ps_set (i := 6) sc_sailed_slices.nd rfl (.inl rfl) (pe_call GO hr rfl T.outer_corners.g T.outer_corners.fn.kp T.outer_corners.b .nil pass0 (pa_cons (pe_ix ix_list (pe_fld (pv 0) rfl) (pv 4) (fun _ _ => rfl)) (pa_cons (pe_fld (pv 2) rfl) pa_nil))))
        (pss_one (ps_expr (pe_bm PySem.F.plainAttrs_list PySem.F.slot_list_append PySem.F.type_list_append mt_append (pv 3) (pa_cons (pe_tup (pa_cons (pv 4) (pa_cons (pv 5) (pa_cons (pe_ix ix_tup (pv 6) pe_int (fun _ _ => rfl)) (pa_cons (pe_ix ix_tup (pv 6) pe_int (fun _ _ => rfl)) pa_nil))))) pa_nil))))))
      (pss_one (ps_ret (pv 3)))), ?_⟩
    have lrest : rest.length + 1 = v.length := by
      have := congrArg List.length ebr
      simp only [List.length_map, List.length_cons] at this
      omega
    have vl := W.len
    have hbg := hF.bg
    rw [ebr] at hbg
    refine ⟨Nat.zero_le _, fun o no => ?_⟩
    have s1 : Same H (upd H o (.lst [])) := same_upd no
    have hA' := hA
    obtain ⟨dx, sA, tA, pA, hx, hs, hta, hp⟩ := hA'
    have hA1 : ArrA K T.CArrival (upd H o (.lst [])) x a 1 := ⟨⟨dx, sA, tA, pA, s1 _ _ hx, s1.sqT hs, s1.sqT hta, same_pt s1 hp⟩⟩
    refine ⟨_, rfl, fa, T.CForecast, F.dx, _, _, rfl, s1 _ _ hF.ob, T.cForecast, T.nForecast_begins, fc_begins _ _ _ _ _, _, rfl, _, rfl, F.ab, b, rest, t, x, a, rfl, SqL.of (s1 _ _ hbg), by omega, hA1, hn, hl, fun H1 q ss s2 nq hq hss ess => ?_⟩
    have s12 := s1.trans s2
    have noq : o ≠ q := fun z => by rw [← z, upd_same] at nq; cases nq
    have lss : ss.length ≤ 2000 := by
      have e1 := congrArg List.length ess
      have e2 := stretch_len t rest 0 b
      have e3 := List.length_filter_le (fun s => decide (s.1 < a.number)) (Lt.stretches t 0 b rest)
      rw [List.length_map, Lt.sailed, List.length_append, List.length_map, List.length_cons, List.length_nil] at e1
      omega
    refine ⟨q, rfl, ⟨_, SqL.of hq⟩, for_list (K := K) (a := q) (xs := prV ss) (fun i σ H' => ∃ (v4 v5 v6 : Option V) (qs : Qs), σ = [some (.ref fa), some (.int t), some (.ref x), some (.ref o), v4, v5, v6] ∧ Keep (lamTabs tb) H H' ∧ H' q = some (.lst (prV ss)) ∧ PrA H' ss ∧ H' o = some (.lst (qsV qs)) ∧ QsA K H' qs ∧ qs.length ≤ i ∧ qs.map (fun q => toS q.2) = ((ss.map (·.2)).take i).map (Lt.withEnds a.proof (Vbreac.sails v)))
      ⟨none, none, none, [], rfl, Keep.of hTb s12, hq, hss, s2 _ _ upd_same, (fun s hs => nomatch hs), Nat.le_refl _, rfl⟩ (fun i σ H' _ ⟨_, _, _, _, _, _, z, _⟩ => SqL.of z) ?_ ?_⟩
    · rintro i y σ H2 hi ⟨v4, v5, v6, qs, rfl, kp, hq2, hss2, ho, hqs, lqs, eqs⟩
      obtain ⟨sp, hsp, rfl⟩ := pr_get hi
      have hmem := List.mem_of_getElem? hsp
      have isp := (List.getElem?_eq_some_iff.mp hsp).1
      have hspT := hss2 sp hmem
      have i2 := KeptI.ofN kp.ext
      have hnum : sp.2.1 < F.hs.length := by
        rw [hF.len]
        rcases Lt.sailed_mem (show sp.2 ∈ Lt.sailed (Lt.stretches t 0 b rest) a by rw [← ess]; exact List.mem_map_of_mem hmem) with e | ⟨y, hy, _, e⟩
        · rw [e]
          show a.number < v.length
          omega
        · rw [e]
          have := stretch_lt t rest 0 b y hy
          show y.1 < v.length
          omega
      obtain ⟨h, hh⟩ : ∃ h, F.hs[sp.2.1]? = some h := ⟨_, List.getElem?_eq_getElem hnum⟩
      have hhm := List.mem_of_getElem? hh
      have hHA := i2.hull (hF.hu h hhm)
      have ehs : (Vbreac.sails v)[sp.2.1]? = some (pts h.2) := by
        rw [← hF.hp, List.getElem?_map, hh]
        rfl
      have egd : (Vbreac.sails v).getD sp.2.1 [] = pts h.2 := by rw [List.getD_eq_getElem?_getD, ehs]; rfl
      have obF : H2 fa = _ := (hF.keepN kp.ext).ob
      have hx2 : H2 x = _ := kp.ext _ _ hx (fun _ z => by cases z)
      have psm := within_small (by decide) hpr
      refine ⟨sp.1, _, rfl, SqT.of hspT, rfl, _, _, rfl, _, _, rfl, rfl, _, rfl, fa, T.CForecast, F.dx, _, _, rfl, obF, T.cForecast, T.nForecast_hulls, fc_hulls _ _ _ _ _, _, rfl, F.ah, _, _, _, rfl, rfl, SqL.of (i2.lst hF.hl), atI_nat (j := sp.2.1) (by unfold hullsV; rw [List.getElem?_map, hh]; rfl),
        _, rfl, x, T.CArrival, dx, _, _, rfl, hx2, T.cArrival, T.nArrival_proof, ar_proof _ _ _ _, h.1, pA, h.2, a.proof, rfl, hHA.list, fun r hr' => (hHA.row r hr').1, i2.pt hp, psm.1, psm.2, hHA.pos, Nat.lt_trans hHA.few (by decide), sails_sail ehs, kp.tabs, fun H3 tt r l kp3 htt hr3 hl3 er el => ?_⟩
      have i3 := KeptI.ofN kp3.ext
      refine ⟨_, rfl, .inl ⟨rfl, _, SqL.of (i3.lst ho)⟩, _, rfl, _, rfl, _, rfl, tt, _, _, _, rfl, rfl, SqT.of htt, atI_nat (j := 0) rfl, _, rfl, tt, _, _, _, rfl, rfl, SqT.of htt, atI_nat (j := 1) rfl, (by show 4 ≤ sizeLine; decide), fun u nu => ?_⟩
      have sU := same_upd (o := .tup [.int (sp.2.1 : Nat), .int sp.2.2, .ref r.1, .ref l.1]) nu
      have hoU := sU _ _ (i3.lst ho)
      have kpU : Keep (lamTabs tb) H (upd H3 u (.tup [.int (sp.2.1 : Nat), .int sp.2.2, .ref r.1, .ref l.1])) := (kp.trans kp3).then sU
      have iU := i3.trans (.of sU)
      have row : QsA K (upd H3 u (.tup [.int (sp.2.1 : Nat), .int sp.2.2, .ref r.1, .ref l.1])) (qs ++ [(u, (sp.2.1, sp.2.2, r, l))]) := fun z hz => by
        rcases List.mem_append.1 hz with y | y
        · exact hqs.keptI iU z y
        · simp only [List.mem_cons, List.not_mem_nil, or_false] at y
          subst y
          exact ⟨upd_same, iU.pt (hHA.row r hr3).1, iU.pt (hHA.row l hl3).1⟩
      refine ⟨o, _, _, rfl, rfl, hoU, ?_, ?_⟩
      · rw [qsV, List.length_map, sizeLine_eq]
        omega
      refine ⟨_, _, _, qs ++ [(u, (sp.2.1, sp.2.2, r, l))], rfl, kpU.grow no hoU, ?_, fun z hz => ?_, ?_, QsA.snoc hoU row, ?_, ?_⟩
      · rw [upd_ne (Ne.symm noq)]
        exact iU.lst hq2
      · have q2 := iU.tup (hss2 z hz)
        rw [upd_ne (ne_of q2 hoU (by intro z; cases z))]
        exact q2
      · rw [upd_same, qsV, qsV, List.map_append]
        rfl
      · rw [List.length_append]
        simp only [List.length_cons, List.length_nil]
        omega
      · have hget : (ss.map (·.2))[i]? = some sp.2 := by rw [List.getElem?_map, hsp]; rfl
        rw [List.map_append, eqs, take_snoc hget, List.map_append]
        congr 1
        show [(sp.2.1, sp.2.2, r.2, l.2)] = [Lt.withEnds a.proof (Vbreac.sails v) sp.2]
        unfold Lt.withEnds
        rw [egd, er, el]
    · rintro σ H2 ⟨v4, v5, v6, qs, rfl, kp, hq2, hss2, ho, hqs, lqs, eqs⟩
      refine ⟨_, rfl, k H2 o qs kp no ho hqs ?_⟩
      rw [eqs, prV, List.length_map, List.take_of_length_le (by simp), ess]
end
end Sw
set_option maxHeartbeats 4000000
namespace Sw
open PySem PySem.Spec PyProof.Rows L2 LamX
open Vbreac (Pt Frac Wind)
section
variable {P : Program} {w : World} {K : PySem.W.Frag} {mg : Str → Option Value} {base : Heap}
/-! ### What is sailed: sizes -/
structure SOk (n : Pt) (s : Lt.Sailed) : Prop where
  z : 0 ≤ s.2.1 ∧ s.2.1 ≤ 100000000000000
  r : Bd.Within 1000 s.2.2.1
  l : Bd.Within 1000 s.2.2.2
  g : 0 ≤ Lt.gainOf n s
theorem ends_mem (n : Pt) {f : List Pt} (h : f ≠ []) : Vbreac.rightEnd n f ∈ f ∧ Vbreac.leftEnd n f ∈ f := by
  cases f with
  | nil => exact absurd rfl h
  | cons v r => exact ⟨(Hu.right_fold n r v).1, (Lt.left_fold n r v).1⟩
theorem stretch_last {t M : Int} (ht : 0 ≤ t) : ∀ (rest : List Int) (i : Nat) (b : Int), (∀ x ∈ rest, x ≤ M) → ∀ s ∈ Lt.stretches t i b rest, ∀ d, s.2.2 = some d → d ≤ M
  | [], i, b, _, s, hs, d, hd => by
    simp only [Lt.stretches, List.mem_cons, List.not_mem_nil, or_false] at hs
    rw [hs] at hd
    cases hd
  | e :: r, i, b, hr, s, hs, d, hd => by
    have he := hr e (by simp)
    simp only [Lt.stretches] at hs
    split at hs
    · rcases List.mem_cons.1 hs with z | z
      · rw [z] at hd
        have := Option.some.inj hd
        omega
      · exact stretch_last ht r (i + 1) e (fun x hx => hr x (by simp [hx])) s z d hd
    · exact stretch_last ht r (i + 1) e (fun x hx => hr x (by simp [hx])) s hs d hd
theorem sailed_ok {v : Wind} {m : Nat} (W : WOk m v) {b : Int} {rest : List Int} (ebr : v.map (·.from_) = b :: rest) {t : Int} (ht : 0 ≤ t) {a : Lt.Arr} (hn : a.number ≤ rest.length) (hl : 0 ≤ a.lower ∧ a.lower ≤ 4000000) (hu : 0 ≤ a.upper ∧ a.upper ≤ 100000000000000) :
    ∀ s ∈ (Lt.sailed (Lt.stretches t 0 b rest) a).map (Lt.withEnds a.proof (Vbreac.sails v)), SOk a.proof s := by
  intro s hs
  obtain ⟨x, hx, rfl⟩ := List.mem_map.mp hs
  have lv : rest.length + 1 = v.length := by
    have := congrArg List.length ebr
    simp only [List.length_map, List.length_cons] at this
    omega
  have hin := begins_in W
  rw [ebr] at hin
  have hup := W.up
  rw [ebr] at hup
  have key : x.1 < v.length ∧ 0 ≤ x.2 ∧ x.2 ≤ 100000000000000 := by
    rcases Lt.sailed_mem hx with e | ⟨y, hy, _, e⟩
    · rw [e]
      exact ⟨by show a.number < v.length; omega, hu.1, hu.2⟩
    · rw [e]
      have h1 := stretch_lt t rest 0 b y hy
      refine ⟨by show y.1 < v.length; omega, ?_, ?_⟩
      · show 0 ≤ y.2.2.getD 0 * a.lower
        cases q : y.2.2 with
        | none => simp
        | some d =>
          have := (Lt.stretch_facts t rest 0 b hup y hy).2 d q
          exact Int.mul_nonneg (by simp; omega) hl.1
      · show y.2.2.getD 0 * a.lower ≤ _
        cases q : y.2.2 with
        | none => simp
        | some d =>
          have h2 := (Lt.stretch_facts t rest 0 b hup y hy).2 d q
          have h3 := stretch_last (M := 1000000) ht rest 0 b (fun z hz => (hin z (by simp [hz])).2) y hy d q
          have h4 := Bd.mul_within (m := 1000000) (n := 4000000) (a := d) (b := a.lower) (by omega) (by omega)
          show d * a.lower ≤ _
          omega
  have ls : x.1 < (Vbreac.sails v).length := by rw [Vbreac.sails, List.length_map]; exact key.1
  have eg : (Vbreac.sails v)[x.1]? = some ((Vbreac.sails v).getD x.1 []) := by
    rw [List.getD_eq_getElem?_getD, List.getElem?_eq_getElem ls]
    rfl
  have isl := sails_sail eg
  have fne : Vbreac.face ((Vbreac.sails v).getD x.1 []) a.proof ≠ [] := Lt.face_ne isl a.proof
  have win := sails_within W _ (List.mem_of_getElem? eg)
  have em := ends_mem a.proof fne
  refine ⟨key.2, win _ (List.mem_filter.mp em.1).1, win _ (List.mem_filter.mp em.2).1, ?_⟩
  have := Lt.ends_order a.proof fne
  show 0 ≤ Vbreac.cross a.proof (Vbreac.leftEnd _ _) - Vbreac.cross a.proof (Vbreac.rightEnd _ _)
  omega
theorem right_sum (n : Pt) : ∀ l : List Lt.Sailed, Lt.rightM n l = (l.map fun s => Vbreac.cross n s.2.2.1 * s.2.1).sum
  | [] => rfl
  | s :: r => by
    rw [Lt.rightM, right_sum n r, List.map_cons, List.sum_cons]
/-! ### add_piece -/
abbrev Pcs := List (Addr × (Nat × (Addr × Pt) × (Addr × Frac)))
def pcV (ps : Pcs) : List V := ps.map fun p => V.ref p.1
def toM (p : Nat × (Addr × Pt) × (Addr × Frac)) : Lt.PieceM := (p.1, p.2.1.2, p.2.2.2)
def PcsA (K : PySem.W.Frag) (H : Hp) (ps : Pcs) : Prop := ∀ p ∈ ps, H p.1 = some (.tup [.int (p.2.1 : Nat), .ref p.2.2.1.1, .ref p.2.2.2.1]) ∧ PtA K H p.2.2.1.1 p.2.2.1.2 ∧ H p.2.2.2.1 = some (fracV p.2.2.2.2) ∧ Bits 1900 p.2.2.2.2.num ∧ Bits 1900 p.2.2.2.2.den
theorem Kept1.sqTL {H H' : Hp} {D x : Addr} {ys xs : List V} (k : Kept1 D H H') (hD : H D = some (.lst ys)) (h : SqT K H x xs) : SqT K H' x xs := by
  rcases h with (h | ⟨o, h⟩) | h
  · exact .inl (.inl (k _ _ h (ne_of h hD (by intro z; cases z))))
  · exact .inl (.inr ⟨o, k _ _ h (ne_of h hD (by intro z; cases z))⟩)
  · exact .inr h
theorem Kept1.tupL {H H' : Hp} {D x : Addr} {ys xs : List V} (k : Kept1 D H H') (hD : H D = some (.lst ys)) (h : H x = some (.tup xs)) : H' x = some (.tup xs) := k _ _ h (ne_of h hD (by intro z; cases z))
theorem PcsA.kept {H H' : Hp} {D : Addr} {ys : List V} {ps : Pcs} (k : Kept1 D H H') (hD : H D = some (.lst ys)) (h : PcsA K H ps) : PcsA K H' ps := fun p hp =>
  ⟨k.tupL hD (h p hp).1, k.sqTL hD (h p hp).2.1, k.tupL hD (h p hp).2.2.1, (h p hp).2.2.2⟩
theorem QsA.kept {H H' : Hp} {D : Addr} {ys : List V} {ps : Qs} (k : Kept1 D H H') (hD : H D = some (.lst ys)) (h : QsA K H ps) : QsA K H' ps := fun p hp => ⟨k.tupL hD (h p hp).1, k.sqTL hD (h p hp).2.1, k.sqTL hD (h p hp).2.2⟩
theorem Keep.kept {T : List (Addr × Str)} {H H1 H2 : Hp} {D : Addr} {ys : List V} (a : Keep T H H1) (no : H D = none) (hD : H1 D = some (.lst ys)) (k : Kept1 D H1 H2) : Keep T H H2 := by
  refine ⟨fun b z h n => k _ _ (a.ext _ _ h n) (ne_of_none h no), fun p hp => ?_⟩
  obtain ⟨ps, h1, h2, h3⟩ := a.tabs p hp
  refine ⟨ps, k _ _ h1 (ne_of h1 hD (by intro z; cases z)), h2, fun pos cv hc => ?_⟩
  obtain ⟨c, e1, e2⟩ := h3 pos cv hc
  exact ⟨c, e1, k _ _ e2 (ne_of e2 hD (by intro z; cases z))⟩
def spPiece (K : PySem.W.Frag) : Sp := fun vs H Q _ => ∃ (pl : Addr) (xs : List V) (i : Nat) (va : Addr) (v : Pt) (u l : Int), vs = [.ref pl, .int (i : Nat), .ref va, .int u, .int l] ∧ H pl = some (.lst xs) ∧ xs.length < 100000 ∧ PtA K H va v ∧ 0 < l ∧ l ≤ 2 ^ 200 ∧ u ≤ 2 ^ 200 ∧
  ∀ H' ps, Kept1 pl H H' → H' pl = some (.lst (xs ++ pcV ps)) → PcsA K H' ps → ps.map (fun p => toM p.2) = Lt.addM i v u l → ps.length ≤ 1 → Q .non H'
theorem okPiece (T : Tx K mg) {k : Nat} : FnOk P w K mg base CX0 (k + 3) T.add_piece.f T.add_piece.fd ["pieces", "number", "velocity", "upper", "lower"] (spPiece K) := by
  have GL : FnOk P w K mg base CX0 (k + 2) T.lowest_terms.f T.lowest_terms.fd ["upper", "lower"] spLow := ok_low T.lowest_terms.fn T.greatest_divisor.fn T.greatest_divisor.b T.greatest_divisor.g T.nb.abs_
  refine T.add_piece.fn.ok sc_add_piece (fun vs H Q E h => ?_) (fun cdv A outer s H vs Q E hr h => ?_)
  · obtain ⟨pl, xs, i, va, v, u, l, rfl, _⟩ := h
    rfl
  · obtain ⟨pl, xs, i, va, v, u, l, rfl, hpl, hxs, hv, hl0, hl, hu, k⟩ := h
    refine ⟨_, pss_one (ps_if (PW.pt (pw_and (pt_cmpR op_gt (pv 3) pe_int (nomark _)) (pw_and1 (pt_cmpR (op_neD hr.units) (pv 2) (pe_tup (pa_cons pe_int (pa_cons pe_int pa_nil))) (nomark _)))))
      (pss_one (ps_expr (pe_bm PySem.F.plainAttrs_list PySem.F.slot_list_append PySem.F.type_list_append mt_append (pv 0) (pa_cons (pe_tup (pa_cons (pv 1) (pa_cons (pv 2) (pa_cons (pe_call GL hr rfl T.lowest_terms.g T.lowest_terms.fn.kp T.lowest_terms.b .nil pass0 (pa_cons (pv 3) (pa_cons (pv 4) pa_nil))) pa_nil)))) pa_nil))))
      pss_nil), ?_⟩
    have none_ : ∀ H', Same H H' → ¬ (0 < u ∧ v ≠ Vbreac.zero) → Q .non H' := fun H' s z => by
      refine k H' [] (Kept1.of s) ?_ (fun p hp => nomatch hp) ?_ (Nat.zero_le _)
      · rw [s _ _ hpl]
        simp [pcV]
      · rw [Lt.addM, if_neg z]
        rfl
    refine ⟨_, rfl, _, _, rfl, rfl, _, rfl, ite2 (fun e => ?_) (fun e => iteF ?_)⟩
    · have e : 0 < u := of_decide_eq_true e
      refine ⟨_, rfl, (by show 2 ≤ sizeLine; decide), fun c nc => ?_⟩
      have s1 := same_upd (o := .tup [.int 0, .int 0]) nc
      refine ⟨_, _, dp_pt (same_sqT s1 hv), dp_pt (SqT.of upd_same), rfl, rfl, _, rfl, ?_⟩
      rw [eqv_pt]
      refine ite2 (fun e2 => ?_) (fun e2 => ?_)
      · have ne : v ≠ Vbreac.zero := fun z => by
          rw [z] at e2
          exact absurd e2 (by decide)
        have hl9 : Bits 9000 l := Sz.bits_of (by omega) hl (by decide)
        refine ⟨_, rfl, .inl ⟨rfl, _, SqL.of (s1 _ _ hpl)⟩, _, rfl, _, rfl, _, rfl, _, rfl, u, l, rfl, hl0, hl9, fun t nt => ?_⟩
        have s2 := same_upd (o := fracV (Vbreac.lowest u l.toNat)) nt
        refine ⟨(by show 3 ≤ sizeLine; decide), fun p np => ?_⟩
        have s3 := same_upd (o := .tup [.int (i : Nat), .ref va, .ref t]) np
        have sA := s1.trans (s2.trans s3)
        have hpl3 := sA _ _ hpl
        have kD : Kept1 pl (upd (upd (upd H c (.tup [.int 0, .int 0])) t (fracV (Vbreac.lowest u l.toNat))) p (.tup [.int (i : Nat), .ref va, .ref t])) (upd (upd (upd (upd H c (.tup [.int 0, .int 0])) t (fracV (Vbreac.lowest u l.toNat))) p (.tup [.int (i : Nat), .ref va, .ref t])) pl (.lst (xs ++ [.ref p]))) := Kept1.upd
        have rep : Fr.Rep (Vbreac.lowest u l.toNat) u l.toNat := Fr.rep_low (by omega)
        have low := Sz.low_le rep (by omega)
        refine ⟨pl, _, _, rfl, rfl, hpl3, by rw [sizeLine_eq]; omega, ?_⟩
        refine k _ [(p, (i, (va, v), (t, Vbreac.lowest u l.toNat)))] ((Kept1.of sA).trans kD) upd_same (fun z hz => ?_) ?_ (Nat.le_refl _)
        · simp only [List.mem_cons, List.not_mem_nil, or_false] at hz
          subst hz
          refine ⟨kD.tupL hpl3 upd_same, kD.sqTL hpl3 (same_pt sA hv), kD.tupL hpl3 (s3 _ _ upd_same), ?_, ?_⟩
          · exact Sz.bits_of low.1 (show (Vbreac.lowest u l.toNat).num ≤ 2 ^ 200 by omega) (by decide)
          · refine Sz.bits_of (x := (((Vbreac.lowest u l.toNat).den : Nat) : Int)) (m := 200) (by omega) ?_ (by decide)
            have := low.2.2
            omega
        · rw [Lt.addM, if_pos ⟨e, ne⟩]
          rfl
      · refine none_ _ s1 fun z => z.2 ?_
        have e2 : (decide (v.x = 0) && decide (v.y = 0)) = true := by simpa using e2
        rw [Bool.and_eq_true, decide_eq_true_eq, decide_eq_true_eq] at e2
        exact Hu.pt_ext e2.1 e2.2
    · have e : ¬ 0 < u := fun z => e (decide_eq_true z)
      exact none_ H (Same.refl _) fun z => e z.1
end
end Sw
set_option maxHeartbeats 4000000
namespace Sw
open PySem PySem.Spec PyProof.Rows L2 LamX
open Vbreac (Pt Frac Wind)
section
variable {P : Program} {w : World} {K : PySem.W.Frag} {mg : Str → Option Value} {base : Heap}
/-! ### Names that are wiped -/
theorem wipe_off {σ : L2.St} {i : Nat} {x : Option V} : ∀ {vs : List Nat}, i ∉ vs → wipe (σ.set i x) vs = (wipe σ vs).set i x
  | [], _ => rfl
  | v :: vs, h => by
    have h1 : v ≠ i := fun z => h (by simp [z])
    show (wipe (σ.set i x) vs).set v none = ((wipe σ vs).set v none).set i x
    rw [wipe_off (fun z => h (List.mem_cons_of_mem _ z)), List.set_comm _ _ (Ne.symm h1)]
theorem wipe_set {σ : L2.St} {i : Nat} {x : Option V} : ∀ {vs : List Nat}, i ∈ vs → wipe (σ.set i x) vs = wipe σ vs
  | v :: vs, h => by
    show (wipe (σ.set i x) vs).set v none = (wipe σ vs).set v none
    by_cases c : i ∈ vs
    · rw [wipe_set c]
    · have e : i = v := by
        rcases List.mem_cons.1 h with z | z
        · exact z
        · exact absurd z c
      rw [wipe_off c, e, List.set_set]
theorem wipe_sub {σ : L2.St} {vs : List Nat} : ∀ {us : List Nat}, (∀ u ∈ us, u ∈ vs) → wipe (wipe σ us) vs = wipe σ vs
  | [], _ => rfl
  | u :: us, h => by
    show wipe ((wipe σ us).set u none) vs = wipe σ vs
    rw [wipe_set (h u (by simp)), wipe_sub fun z hz => h z (by simp [hz])]
theorem wipe_self (σ : L2.St) (vs : List Nat) : wipe (wipe σ vs) vs = wipe σ vs := wipe_sub fun _ h => h
theorem wipe4 (σ : L2.St) {a b c d : Option V} {i j k l : Nat} {vs : List Nat} (hi : i ∈ vs) (hj : j ∈ vs) (hk : k ∈ vs) (hl : l ∈ vs) : wipe (((((wipe σ vs).set i a).set j b).set k c).set l d) vs = wipe σ vs := by
  rw [wipe_set hl, wipe_set hk, wipe_set hj, wipe_set hi, wipe_self]
theorem wipe_get {σ : L2.St} {n : Nat} : ∀ {vs : List Nat}, n ∉ vs → (wipe σ vs)[n]? = σ[n]?
  | [], _ => rfl
  | v :: vs, h => by
    show ((wipe σ vs).set v none)[n]? = σ[n]?
    rw [List.getElem?_set_ne (fun z => h (by simp [z])), wipe_get fun z => h (List.mem_cons_of_mem _ z)]
section
variable {σ : L2.St} {a b c d : Option V} {vs : List Nat}
theorem get4_off {n : Nat} {x : Option (Option V)} (h : n ∉ [8, 9, 10, 11]) (hv : vs = [8, 9, 10, 11]) (e : σ[n]? = x) : (((((wipe σ vs).set 8 a).set 9 b).set 10 c).set 11 d)[n]? = x := by
  subst hv
  simp only [List.mem_cons, List.not_mem_nil, or_false, not_or] at h
  rw [List.getElem?_set_ne (Ne.symm h.2.2.2), List.getElem?_set_ne (Ne.symm h.2.2.1), List.getElem?_set_ne (Ne.symm h.2.1), List.getElem?_set_ne (Ne.symm h.1), wipe_get (by simp; omega)]
  exact e
theorem get4_9 (h : 11 < σ.length) : (((((wipe σ vs).set 8 a).set 9 b).set 10 c).set 11 d)[9]? = some b := by
  rw [List.getElem?_set_ne (by decide), List.getElem?_set_ne (by decide), List.getElem?_set_self (by rw [List.length_set, wipe_length]; omega)]
theorem get4_10 (h : 11 < σ.length) : (((((wipe σ vs).set 8 a).set 9 b).set 10 c).set 11 d)[10]? = some c := by
  rw [List.getElem?_set_ne (by decide), List.getElem?_set_self (by rw [List.length_set, List.length_set, wipe_length]; omega)]
end
/-! ### way_pieces -/
theorem num_le {v : Wind} {b : Int} {rest : List Int} (ebr : v.map (·.from_) = b :: rest) {d : Pt} {t : Int} {a : Lt.Arr} (h : Lt.leastM (v.map (·.from_)) (Vbreac.sails v) d t 1 = some a) : a.number ≤ rest.length := by
  unfold Lt.leastM at h
  rw [ebr] at h
  have h : Lt.seek (Vbreac.directions (Vbreac.sails v)) (Vbreac.sails v) (Lt.stretches t 0 (b * ((1 : Nat) : Int)) (rest.map (· * ((1 : Nat) : Int)))) _ = some a := h
  obtain ⟨s, hs, e, _⟩ := Lt.seek_num _ _ _ h
  have := stretch_lt t _ 0 _ s hs
  rw [List.length_map] at this
  omega
theorem miss_nn {m : Nat} {v : Wind} (W : WOk m v) {b : Int} {rest : List Int} (ebr : v.map (·.from_) = b :: rest) {d : Pt} {t : Int} {a : Lt.Arr} (h : Lt.leastM (v.map (·.from_)) (Vbreac.sails v) d t 1 = some a) (lp : 0 < a.lower) :
    0 ≤ Vbreac.cross a.proof d * a.lower - Lt.rightM a.proof ((Lt.sailed (Lt.stretches t 0 b rest) a).map (Lt.withEnds a.proof (Vbreac.sails v))) := by
  unfold Lt.leastM at h
  rw [ebr] at h
  have e1 : b * ((1 : Nat) : Int) = b := by simp
  have e2 : rest.map (· * ((1 : Nat) : Int)) = rest := by simp
  have h : Lt.seek (Vbreac.directions (Vbreac.sails v)) (Vbreac.sails v) (Lt.stretches t 0 (b * ((1 : Nat) : Int)) (rest.map (· * ((1 : Nat) : Int)))) _ = some a := h
  rw [e1, e2] at h
  exact Lt.missing_nn (begins := v.map (·.from_)) (hulls := Vbreac.sails v) ⟨rfl, rfl, W.up⟩ ebr h lp
def spWayP (K : PySem.W.Frag) (C CA : Addr) (Tb : List (Addr × Str)) : Sp := fun vs H Q _ => ∃ (fa : Addr) (v : Wind) (F : Fc) (d : Pt) (t : Int) (x : Addr) (a : Lt.Arr), vs = [.ref fa, .int d.x, .int d.y, .int t, .ref x] ∧ FcA K C H fa v F ∧ v ≠ [] ∧ WOk 24 v ∧ Tabs Tb H ∧ ArrA K CA H x a 1 ∧ Lt.leastM (v.map (·.from_)) (Vbreac.sails v) d t 1 = some a ∧ 0 < a.lower ∧ Bd.Within 1000000 d ∧ (0 ≤ t ∧ t ≤ 1000000) ∧
  ∀ H' q ps, Keep Tb H H' → H' q = some (.lst (pcV ps)) → PcsA K H' ps → ps.length ≤ 100 → ps.map (fun p => toM p.2) = Lt.wayM (v.map (·.from_)) (Vbreac.sails v) d t a → Q (.ref q) H'
theorem okWayP (T : Tx K mg) {tb : Addr} (N : Bs P w K mg base T tb) {k : Nat} : FnOk P w K mg base CX0 (k + 6) T.way_pieces.f T.way_pieces.fd ["forecast", "x", "y", "t", "arrival"] (spWayP K T.CForecast T.CArrival (lamTabs tb)) := by
  have GS : FnOk P w K mg base CX0 (k + 5) T.sailed_slices.f T.sailed_slices.fd ["forecast", "t", "arrival"] (spSliced K T.CForecast T.CArrival (lamTabs tb)) := okSliced T N
  have GC : FnOk P w K mg base CX0 (k + 5) T.cross.f T.cross.fd ["p", "q"] (spCross K) := ok_cross T.cross.fn
  have GP : FnOk P w K mg base CX0 (k + 5) T.add_piece.f T.add_piece.fd ["pieces", "number", "velocity", "upper", "lower"] (spPiece K) := okPiece T
  refine T.way_pieces.fn.ok sc_way_pieces (fun vs H Q E h => ?_) (fun cdv A outer s H vs Q E hr h => ?_)
  · obtain ⟨fa, v, F, d, t, x, a, rfl, _⟩ := h
    rfl
  · obtain ⟨fa, v, F, d, t, x, a, rfl, hF, hv, W, hTb, hA, harr, hlp, hd, ht, k⟩ := h
    refine ⟨_, pss_cons (ps_set (i := 5) sc_way_pieces.nd rfl (.inr rfl) (pe_fld (pv 4) rfl))
      (pss_cons (ps_set (i := 6) sc_way_pieces.nd rfl (.inl rfl) (pe_ix ix_tup (pe_fld (pv 4) rfl) pe_int (fun _ _ => rfl)))
      (pss_cons (ps_set (i := 7) sc_way_pieces.nd rfl (.inl rfl) (pe_call GS hr rfl T.sailed_slices.g T.sailed_slices.fn.kp T.sailed_slices.b .nil pass0 (pa_cons (pv 0) (pa_cons (pv 3) (pa_cons (pv 4) pa_nil)))))
      (pss_cons (ps_set (i := 12) sc_way_pieces.nd rfl (.inl rfl) (pe_op op_sub (pe_op op_mul (pe_call GC hr rfl T.cross.g T.cross.fn.kp T.cross.b .nil pass0 (pa_cons (pv 5) (pa_cons (pe_tup (pa_cons (pv 1) (pa_cons (pv 2) pa_nil))) pa_nil))) (pv 6))
          (pe_callB (cr_sum rfl) (by rfl) T.nb.sum_ (by decide +kernel) (pa_cons (pe_lc (own := [("number", 8), ("span", 9), ("right", 10), ("left", 11)]) (g := gTup K 4 (gCons (gName 8) (gCons (gName 9) (gCons (gName 10) (gCons (gName 11) gNil))))) (tt := tYes) rfl sc_way_pieces.nd (pi_list (pv 7))
            (blkOk_by (N := ["forecast", "x", "y", "t", "arrival", "proof", "parts", "sailed", "number", "span", "right", "left", "missing", "pieces", "gain", "made_up", "share"]) (sc := defScope s_way_pieces) (by decide +kernel))
            (fun _ _ _ _ _ => pg_tup rfl (pgs_cons (pg_name (i := 8) sc_way_pieces.nd rfl (.inl rfl)) (pgs_cons (pg_name (i := 9) sc_way_pieces.nd rfl (.inl rfl)) (pgs_cons (pg_name (i := 10) sc_way_pieces.nd rfl (.inl rfl)) (pgs_cons (pg_name (i := 11) sc_way_pieces.nd rfl (.inl rfl)) pgs_nil))))) (fun _ _ _ _ _ => pts_nil)
            (fun _ _ _ _ _ => pe_op op_mul (pe_call GC hr rfl T.cross.g T.cross.fn.kp T.cross.b .nil pass0 (pa_cons (pv 5) (pa_cons (pv 10) pa_nil))) (pv 9))) pa_nil))))
      (pss_cons (ps_set (i := 13) sc_way_pieces.nd rfl (.inl rfl) (pe_lst pa_nil))
      (pss_cons (ps_for PassesOwn.never rfl (pi_list (pv 7))
          (pg_tup rfl (pgs_cons (pg_name (i := 8) sc_way_pieces.nd rfl (.inl rfl)) (pgs_cons (pg_name (i := 9) sc_way_pieces.nd rfl (.inl rfl)) (pgs_cons (pg_name (i := 10) sc_way_pieces.nd rfl (.inl rfl)) (pgs_cons (pg_name (i := 11) sc_way_pieces.nd rfl (.inl rfl)) pgs_nil)))))
        (pss_cons (ps_set (i := 14) sc_way_pieces.nd rfl (.inl rfl) (pe_op op_sub (pe_call GC hr rfl T.cross.g T.cross.fn.kp T.cross.b .nil pass0 (pa_cons (pv 5) (pa_cons (pv 11) pa_nil))) (pe_call GC hr rfl T.cross.g T.cross.fn.kp T.cross.b .nil pass0 (pa_cons (pv 5) (pa_cons (pv 10) pa_nil)))))
        (pss_cons (ps_set (i := 15) sc_way_pieces.nd rfl (.inl rfl) (pe_callB (call_min2 rfl) (by rfl) T.nb.min_ (by decide +kernel) (pa_cons (pv 12) (pa_cons (pe_op op_mul (pv 14) (pv 9)) pa_nil))))
        (pss_cons (ps_set (i := 12) sc_way_pieces.nd rfl (.inl rfl) (pe_op op_sub (pv 12) (pv 15)))
        (pss_cons (ps_set (i := 16) sc_way_pieces.nd rfl (.inl rfl) (pe_callB (call_max2 rfl) (by rfl) T.nb.max_ (by decide +kernel) (pa_cons (pv 14) (pa_cons pe_int pa_nil))))
        (pss_cons (ps_expr (pe_call GP hr rfl T.add_piece.g T.add_piece.fn.kp T.add_piece.b .nil pass0 (pa_cons (pv 13) (pa_cons (pv 8) (pa_cons (pv 10) (pa_cons (pe_op op_sub (pe_op op_mul (pv 16) (pv 9)) (pv 15)) (pa_cons (pe_op op_mul (pv 16) (pv 6)) pa_nil)))))))
        (pss_one (ps_expr (pe_call GP hr rfl T.add_piece.g T.add_piece.fn.kp T.add_piece.b .nil pass0 (pa_cons (pv 13) (pa_cons (pv 8) (pa_cons (pv 11) (pa_cons (pv 15) (pa_cons (pe_op op_mul (pv 16) (pv 6)) pa_nil))))))))))))))
      (pss_one (ps_ret (pv 13)))))))), ?_⟩
    obtain ⟨b, rest, ebr⟩ : ∃ b rest, v.map (·.from_) = b :: rest := by
      cases v with
      | nil => exact absurd rfl hv
      | cons s0 r => exact ⟨_, _, rfl⟩
    have hf := Sz.whole_ok ht
    have hd2 : Bd.Within 2000000 d := by
      simp only [Bd.Within] at *
      omega
    have hS := sized_of W hf hd2 harr
    have hn := num_le ebr harr
    have hl4 : 0 ≤ a.lower ∧ a.lower ≤ 4000000 := ⟨hS.l0, hS.l1⟩
    have hu14 : 0 ≤ a.upper ∧ a.upper ≤ 100000000000000 := ⟨hS.u0, by have := hS.u1; simp only [Vbreac.whole] at this; omega⟩
    have hsok := sailed_ok W ebr ht.1 hn hl4 hu14
    have hmiss := miss_nn W ebr harr hlp
    have psm := within_small (by decide) hS.pr
    have hA' := hA
    obtain ⟨dx, sA, tA, pA, hx, hs, hta, hp⟩ := hA'
    refine ⟨_, rfl, x, T.CArrival, dx, _, _, rfl, hx, T.cArrival, T.nArrival_proof, ar_proof _ _ _ _, ?_⟩
    refine ⟨_, rfl, x, T.CArrival, dx, _, _, rfl, hx, T.cArrival, T.nArrival_takes, ar_takes _ _ _ _, tA, _, _, _, rfl, rfl, hta, atI_nat (j := 1) rfl, ?_⟩
    refine ⟨_, rfl, _, rfl, _, rfl, fa, v, F, t, x, a, b, rest, rfl, hF, W, ebr, hA, hn, hl4, hS.pr, hTb, fun H1 q qs kp1 nq hq hqs eqs => ?_⟩
    have i1 := KeptI.ofN kp1.ext
    have el1 : a.lower * ((1 : Nat) : Int) = a.lower := by simp
    rw [el1]
    rw [← eqs] at hsok hmiss
    have hway : Lt.wayM (v.map (·.from_)) (Vbreac.sails v) d t a = Lt.piecesM a.proof a.lower (qs.map fun q => toS q.2) (Vbreac.cross a.proof d * a.lower - Lt.rightM a.proof (qs.map fun q => toS q.2)) := by
      rw [eqs]
      unfold Lt.wayM
      rw [ebr]
    have lqs : qs.length ≤ 13 := by
      have e1 := congrArg List.length eqs
      have e2 := stretch_len t rest 0 b
      have e3 := List.length_filter_le (fun s => decide (s.1 < a.number)) (Lt.stretches t 0 b rest)
      have e4 := congrArg List.length ebr
      have e5 := W.len
      rw [List.length_map, List.length_map, Lt.sailed, List.length_append, List.length_map, List.length_cons, List.length_nil] at e1
      rw [List.length_map, List.length_cons] at e4
      omega
    have hcr : ∀ p : Pt, Bd.Within 1000 p → Small (Vbreac.cross a.proof p) := fun p hp' => by
      have := Bd.cross_within hS.pr hp'
      simp only [Small]
      omega
    have hcd : Small (Vbreac.cross a.proof d) := by
      have := Bd.cross_within hS.pr hd
      simp only [Small]
      omega
    have hq_ok : ∀ z ∈ qs, SOk a.proof (toS z.2) := fun z hz => hsok _ (List.mem_map_of_mem hz)
    refine ⟨_, rfl, _, rfl, _, rfl, (by show 2 ≤ sizeLine; decide), fun c nc => ?_⟩
    have s2 := same_upd (o := .tup [.int d.x, .int d.y]) nc
    have kp2 := kp1.then s2
    have i2 := i1.trans (.of s2)
    refine ⟨pA, c, a.proof, d, rfl, i2.pt hp, SqT.of upd_same, psm.1, psm.2, _, rfl, _, _, rfl, rfl, .inl hcd, ?_⟩
    have hqs2 : QsA K (upd H1 c (.tup [.int d.x, .int d.y])) qs := hqs.keptI (.of s2)
    refine ⟨_, rfl, q, rfl, ⟨_, SqL.of (s2 _ _ hq)⟩, fun D nD => lc_list (K := K) (a := q) (xs := qsV qs) (fun i H' => Same (upd H1 c (.tup [.int d.x, .int d.y])) H' ∧ H' D = some (.lst (((qs.take i).map fun z => Vbreac.cross a.proof (toS z.2).2.2.1 * (toS z.2).2.1).map V.int)))
      ⟨same_upd nD, upd_same⟩ (fun i H' _ ⟨sm, _⟩ => SqL.of (sm _ _ (s2 _ _ hq))) ?_ ?_⟩
    · rintro i y H' hi ⟨sm, hD⟩
      obtain ⟨z, hz, rfl⟩ := qs_get hi
      have hzm := List.mem_of_getElem? hz
      have iz := (List.getElem?_eq_some_iff.mp hz).1
      obtain ⟨t1, t2, t3⟩ := hqs2 z hzm
      refine ⟨z.1, _, rfl, SqT.of (sm _ _ t1), rfl, _, _, rfl, _, _, rfl, _, _, rfl, _, _, rfl, rfl, wipe4 _ (show 8 ∈ [8, 9, 10, 11] by decide) (show 9 ∈ [8, 9, 10, 11] by decide) (show 10 ∈ [8, 9, 10, 11] by decide) (show 11 ∈ [8, 9, 10, 11] by decide), ?_⟩
      refine ⟨_, get4_off (n := 5) (by decide) rfl rfl, _, get4_10 (by show 11 < 17; decide), pA, z.2.2.2.1.1, a.proof, z.2.2.2.1.2, rfl, same_pt sm (i2.pt hp), same_pt sm t2, psm.1, psm.2, _, get4_9 (by show 11 < 17; decide), _, _, rfl, rfl, .inl (hcr _ (hq_ok z hzm).r), _, hD, ?_, same_grow nD sm, ?_⟩
      · rw [List.length_map, List.length_map, List.length_take, sizeLine_eq]
        omega
      · rw [upd_same, take_snoc hz, List.map_append, List.map_append]
        rfl
    · rintro H3 ⟨sm3, hD⟩
      rw [qsV, List.length_map, List.take_length] at hD
      refine ⟨D, _, rfl, SqL.of hD, _, _, rfl, rfl, ?_⟩
      have esum : (qs.map fun z => Vbreac.cross a.proof (toS z.2).2.2.1 * (toS z.2).2.1).sum = Lt.rightM a.proof (qs.map fun q => toS q.2) := by
        rw [right_sum, List.map_map]
        rfl
      rw [esum]
      refine ⟨Nat.zero_le _, fun o no => ?_⟩
      have s4 := same_upd (o := .lst []) no
      have kp3 := kp1.then (s2.trans sm3)
      have i3 := i1.trans (.of (s2.trans sm3))
      have hq3 := sm3 _ _ (s2 _ _ hq)
      have hqs3 : QsA K H3 qs := hqs.keptI (.of (s2.trans sm3))
      have hp3 := i3.pt hp
      refine ⟨_, rfl, q, rfl, ⟨_, SqL.of (s4 _ _ hq3)⟩, for_list (K := K) (a := q) (xs := qsV qs) (fun i σ H' => ∃ (v8 v9 v10 v11 v14 v15 v16 : Option V) (ms : Int) (ps : Pcs), σ = [some (.ref fa), some (.int d.x), some (.int d.y), some (.int t), some (.ref x), some (.ref pA), some (.int a.lower), some (.ref q), v8, v9, v10, v11, some (.int ms), some (.ref o), v14, v15, v16] ∧ Keep (lamTabs tb) H3 H' ∧ H' o = some (.lst (pcV ps)) ∧ PcsA K H' ps ∧ ps.length ≤ 2 * i ∧ 0 ≤ ms ∧
          ps.map (fun p => toM p.2) ++ Lt.piecesM a.proof a.lower ((qs.drop i).map fun q => toS q.2) ms = Lt.wayM (v.map (·.from_)) (Vbreac.sails v) d t a)
        ⟨none, none, none, none, none, none, none, _, [], rfl, Keep.of kp3.tabs s4, upd_same, (fun p hp => nomatch hp), Nat.le_refl _, hmiss, by rw [hway]; rfl⟩ (fun i σ H' _ ⟨_, _, _, _, _, _, _, _, _, _, z, _⟩ => SqL.of ((KeptI.ofN z.ext).lst hq3)) ?_ ?_⟩
      · rintro i y σ H4 hi ⟨v8, v9, v10, v11, v14, v15, v16, ms, ps, rfl, kp4, ho, hps, lps, hms, eps⟩
        obtain ⟨z, hz, rfl⟩ := qs_get hi
        have hzm := List.mem_of_getElem? hz
        have iz := (List.getElem?_eq_some_iff.mp hz).1
        have i4 := KeptI.ofN kp4.ext
        obtain ⟨t1, t2, t3⟩ := hqs3.keptI i4 z hzm
        have hp4 := i4.pt hp3
        have ok := hq_ok z hzm
        have hdrop : qs.drop i = z :: qs.drop (i + 1) := by
          obtain ⟨a1, b1⟩ := List.getElem?_eq_some_iff.mp hz
          rw [← List.getElem_cons_drop (h := a1), b1]
        rw [hdrop, List.map_cons, Lt.piecesM] at eps
        obtain ⟨z1, zn, zz, ⟨ra, rp⟩, ⟨la, lp⟩⟩ := z
        have gL := Bd.cross_within hS.pr ok.l
        have gR := Bd.cross_within hS.pr ok.r
        have g0 : 0 ≤ Vbreac.cross a.proof lp - Vbreac.cross a.proof rp := ok.g
        have z0 : 0 ≤ zz ∧ zz ≤ 100000000000000 := ok.z
        have eps : ps.map (fun p => toM p.2) ++ ((Lt.addM zn rp (max (Vbreac.cross a.proof lp - Vbreac.cross a.proof rp) 1 * zz - min ms ((Vbreac.cross a.proof lp - Vbreac.cross a.proof rp) * zz)) (max (Vbreac.cross a.proof lp - Vbreac.cross a.proof rp) 1 * a.lower) ++ Lt.addM zn lp (min ms ((Vbreac.cross a.proof lp - Vbreac.cross a.proof rp) * zz)) (max (Vbreac.cross a.proof lp - Vbreac.cross a.proof rp) 1 * a.lower)) ++
          Lt.piecesM a.proof a.lower ((qs.drop (i + 1)).map fun q => toS q.2) (ms - min ms ((Vbreac.cross a.proof lp - Vbreac.cross a.proof rp) * zz))) = _ := eps
        have gS : Small (Vbreac.cross a.proof lp - Vbreac.cross a.proof rp) := by
          have gL : -(2 * (2000 * 1000)) ≤ Vbreac.cross a.proof lp ∧ Vbreac.cross a.proof lp ≤ 2 * (2000 * 1000) := gL
          have gR : -(2 * (2000 * 1000)) ≤ Vbreac.cross a.proof rp ∧ Vbreac.cross a.proof rp ≤ 2 * (2000 * 1000) := gR
          simp only [Small]
          omega
        have gB : Vbreac.cross a.proof lp - Vbreac.cross a.proof rp ≤ 8000000 := by
          have gL : -(2 * (2000 * 1000)) ≤ Vbreac.cross a.proof lp ∧ Vbreac.cross a.proof lp ≤ 2 * (2000 * 1000) := gL
          have gR : -(2 * (2000 * 1000)) ≤ Vbreac.cross a.proof rp ∧ Vbreac.cross a.proof rp ≤ 2 * (2000 * 1000) := gR
          omega
        have t1 : H4 z1 = some (.tup [.int (zn : Nat), .int zz, .ref ra, .ref la]) := t1
        have t2 : PtA K H4 ra rp := t2
        have t3 : PtA K H4 la lp := t3
        refine ⟨z1, _, rfl, SqT.of t1, rfl, _, _, rfl, _, _, rfl, _, _, rfl, _, _, rfl, rfl, ?_⟩
        refine ⟨_, rfl, _, rfl, pA, la, a.proof, lp, rfl, hp4, t3, psm.1, psm.2, _, rfl, _, rfl, pA, ra, a.proof, rp, rfl, hp4, t2, psm.1, psm.2, _, _, rfl, rfl, ?_⟩
        refine ⟨_, rfl, _, rfl, _, rfl, _, _, rfl, rfl, .inl gS, _, _, rfl, ?_⟩
        rw [min_is]
        refine ⟨_, rfl, _, rfl, _, _, rfl, rfl, ?_⟩
        refine ⟨_, rfl, _, _, rfl, ?_⟩
        rw [max_is]
        have lo4 : H4 o = some (.lst (pcV ps)) := ho
        have eg : ∃ gain, gain = Vbreac.cross a.proof lp - Vbreac.cross a.proof rp := ⟨_, rfl⟩
        obtain ⟨gain, eg⟩ := eg
        have em : ∃ made, made = min ms (gain * zz) := ⟨_, rfl⟩
        obtain ⟨made, em⟩ := em
        have esh : ∃ share, share = max gain 1 := ⟨_, rfl⟩
        obtain ⟨share, esh⟩ := esh
        rw [← eg] at eps gS gB g0
        have gz : 0 ≤ gain * zz := Int.mul_nonneg g0 z0.1
        have m0 : 0 ≤ made := by omega
        have s0 : 1 ≤ share ∧ share ≤ 8000001 := by omega
        have sS : Small share := by simp only [Small]; omega
        have szb := Bd.mul_within (m := 8000001) (n := 100000000000000) (a := share) (b := zz) (by omega) (by omega)
        have slb := Bd.mul_within (m := 8000001) (n := 4000000) (a := share) (b := a.lower) (by omega) (by omega)
        have sl0 : 0 < share * a.lower := Int.mul_pos (by omega) hlp
        have c200 : (2 : Int) ^ 200 = 1606938044258990275541962092341162602522202993782792835301376 := by decide
        have gzm : gain * zz ≤ share * zz := Int.mul_le_mul_of_nonneg_right (by omega) z0.1
        rw [← em, ← esh] at eps
        have em' : min ms ((Vbreac.cross a.proof lp - Vbreac.cross a.proof rp) * zz) = made := by rw [← eg, em]
        have esh' : max (Vbreac.cross a.proof lp - Vbreac.cross a.proof rp) 1 = share := by rw [← eg, esh]
        rw [em', esh']
        refine ⟨_, rfl, _, rfl, _, rfl, _, rfl, _, rfl, _, _, rfl, rfl, .inl sS, _, rfl, _, _, rfl, rfl, _, rfl, _, rfl, _, _, rfl, rfl, .inl sS, o, _, zn, ra, rp, share * zz - made, share * a.lower, rfl, lo4, ?_, t2, sl0, by rw [c200]; omega, by rw [c200]; omega, fun H5 p5 k5 h5 hp5 e5 l5 => ?_⟩
        · rw [pcV, List.length_map]
          omega
        have kp5 := kp4.kept no lo4 k5
        have t3' := k5.sqTL lo4 t3
        refine ⟨_, rfl, _, rfl, _, rfl, _, rfl, _, rfl, _, rfl, _, _, rfl, rfl, .inl sS, o, _, zn, la, lp, made, share * a.lower, rfl, h5, ?_, t3', sl0, by rw [c200]; omega, by rw [c200]; omega, fun H6 p6 k6 h6 hp6 e6 l6 => ?_⟩
        · rw [List.length_append, pcV, pcV, List.length_map, List.length_map]
          omega
        refine ⟨_, _, _, _, _, _, _, ms - made, ps ++ p5 ++ p6, rfl, kp5.kept no h5 k6, ?_, ?_, ?_, by omega, ?_⟩
        · rw [h6, pcV, pcV, pcV, pcV, List.map_append, List.map_append]
        · intro p hp'
          rcases List.mem_append.1 hp' with y | y
          · rcases List.mem_append.1 y with y | y
            · exact (hps.kept k5 lo4).kept k6 h5 p y
            · exact hp5.kept k6 h5 p y
          · exact hp6 p y
        · rw [List.length_append, List.length_append]
          omega
        · rw [← eps, List.map_append, List.map_append, e5, e6, List.append_assoc, List.append_assoc, List.append_assoc]
      · rintro σ H4 ⟨v8, v9, v10, v11, v14, v15, v16, ms, ps, rfl, kp4, ho, hps, lps, hms, eps⟩
        rw [qsV, List.length_map] at eps lps
        rw [List.drop_length] at eps
        refine ⟨_, rfl, k H4 o ps (kp3.trans kp4) ho hps (by omega) ?_⟩
        rw [← eps]
        show _ = _ ++ []
        rw [List.append_nil]
end
end Sw
set_option maxHeartbeats 4000000
namespace Sw
open PySem PySem.Spec PyProof.Rows L2 LamX
open Vbreac (Pt Frac Wind)
/-! ### Texts as numbers -/
def signs (z : Str) : List Int := z.cps.toList.map Int.ofNat
theorem signs_append (y z : Str) : signs (y ++ z) = signs y ++ signs z := by
  show ((y.cps ++ z.cps).toList.map Int.ofNat) = _
  rw [Array.toList_append, List.map_append]
  rfl
theorem signs_str (s : String) : signs (Str.ofString s) = s.toList.map fun c => (c.toNat : Int) := by
  unfold signs
  rw [signs_ofString, List.map_map]
  rfl
theorem signs_txt (f : Frac) : signs (txt f) = Vbreac.shown f := by
  unfold txt Vbreac.shown Vbreac.decimal
  rw [signs_append, signs_append, signs_append, signs_str, signs_str, signs_str]
  simp [signs, Str.empty]
theorem signs_len (z : Str) : (signs z).length = z.length := by
  show (z.cps.toList.map Int.ofNat).length = z.cps.size
  simp
theorem txt_len {f : Frac} (h1 : Bits 1900 f.num) (h2 : Bits 1900 f.den) : (txt f).length ≤ 4000 := by
  unfold txt
  rw [strLen_append, strLen_append, strLen_append]
  have := len_of h1
  have := len_of h2
  show 0 + _ + 1 + _ ≤ _
  omega
theorem text_is (f : Frac) : ((txt f).length : Int) :: signs (txt f) = Vbreac.text f := by
  unfold Vbreac.text
  rw [← signs_txt, signs_len]
section
variable {P : Program} {w : World} {K : PySem.W.Frag} {mg : Str → Option Value} {base : Heap}
def spRatio : Sp := fun vs H Q _ => ∃ (a : Addr) (f : Frac), vs = [.ref a] ∧ H a = some (fracV f) ∧ Bits 1900 f.num ∧ Bits 1900 f.den ∧
  ∀ H' q, Same H H' → H q = none → H' q = some (.lst ((Vbreac.text f).map V.int)) → (Vbreac.text f).length ≤ 5000 → Q (.ref q) H'
theorem okRatio (T : Tx K mg) {k : Nat} : FnOk P w K mg base CX0 (k + 2) T.ratio_reply.f T.ratio_reply.fd ["ratio"] spRatio := by
  have GT : FnOk P w K mg base CX0 (k + 1) T.ratio_text.f T.ratio_text.fd ["ratio"] spText := ok_text T.ratio_text.fn
  refine T.ratio_reply.fn.ok sc_ratio_reply (fun vs H Q E h => ?_) (fun cdv A outer s H vs Q E hr h => ?_)
  · obtain ⟨a, f, rfl, _⟩ := h
    rfl
  · obtain ⟨a, f, rfl, ha, b1, b2, k⟩ := h
    refine ⟨_, pss_cons (ps_set (i := 1) sc_ratio_reply.nd rfl (.inl rfl) (pe_call GT hr rfl T.ratio_text.g T.ratio_text.fn.kp T.ratio_text.b .nil pass0 (pa_cons (pv 0) pa_nil)))
      (pss_one (ps_ret (pe_op op_cat (pe_lst (pa_cons (pe_callB call_len_str (by rfl) T.nb.len_ PySem.boot_len (pa_cons (pv 1) pa_nil)) pa_nil))
        (pe_lc (own := [("sign", 2)]) (g := gName 2) (tt := tYes) rfl sc_ratio_reply.nd (pi_str (pv 1)) (blkOk_by (N := ["ratio", "text", "sign"]) (sc := defScope s_ratio_reply) (by decide +kernel))
          (fun _ _ _ _ _ => pg_name (i := 2) sc_ratio_reply.nd rfl (.inl rfl)) (fun _ _ _ _ _ => pts_nil) (fun _ _ _ _ _ => pe_callB call_ord (by rfl) T.nb.ord_ (by decide +kernel) (pa_cons (pv 2) pa_nil)))))), ?_⟩
    have tl := txt_len b1 b2
    have et := text_is f
    have lz := signs_len (txt f)
    refine ⟨_, rfl, a, f, rfl, ha, b1, b2, ?_⟩
    refine ⟨_, rfl, txt f, rfl, by rw [sizeLine_eq]; omega, (by show 1 ≤ sizeLine; decide), fun l nl => ?_⟩
    have s1 := same_upd (o := .lst [.int ((txt f).length : Int)]) nl
    refine ⟨_, rfl, txt f, rfl, fun D nD => lc_it (walk_str (z := txt f)) (fun i H' => Same (upd H l (.lst [.int ((txt f).length : Int)])) H' ∧ H' D = some (.lst (((signs (txt f)).take i).map V.int)))
      ⟨same_upd nD, upd_same⟩ (fun _ _ _ _ => trivial) ?_ ?_⟩
    · rintro i x H1 H2 hi ⟨sm, hD⟩ ⟨rfl, c, hc, rfl⟩
      have hg : (signs (txt f))[i]? = some (c : Int) := by
        unfold signs
        rw [List.getElem?_map, Array.getElem?_toList, hc]
        rfl
      have lz2 : (txt f).length = (txt f).cps.size := rfl
      refine ⟨rfl, _, rfl, _, rfl, rfl, _, hD, ?_, same_grow nD sm, ?_⟩
      · rw [List.length_map, List.length_take, sizeLine_eq]
        omega
      · rw [upd_same, take_snoc hg, List.map_append]
        rfl
    · rintro H1 ⟨sm, hD⟩
      have lz2 : (txt f).length = (txt f).cps.size := rfl
      rw [List.take_of_length_le (by omega)] at hD
      refine ⟨l, D, _, _, rfl, rfl, sm _ _ upd_same, hD, ?_, fun p np => ?_⟩
      · rw [List.length_map, sizeLine_eq]
        show 1 + _ ≤ _
        omega
      refine k _ p ((s1.trans sm).trans (same_upd np)) ((s1.trans sm).free np) ?_ ?_
      · rw [upd_same, ← et]
        rfl
      · rw [← et, List.length_cons]
        omega
/-! ### corners_reply -/
def spCorn (K : PySem.W.Frag) : Sp := fun vs H Q _ => ∃ (a : Addr) (rs : Row), vs = [.ref a] ∧ SqL K H a (refsV rs) ∧ RowP K H rs ∧ rs.length ≤ 100000 ∧
  ∀ H' q, Same H H' → H q = none → H' q = some (.lst ((Vbreac.told (pts rs)).map V.int)) → Q (.ref q) H'
theorem okCorn (T : Tx K mg) {k : Nat} : FnOk P w K mg base CX0 (k + 1) T.corners_reply.f T.corners_reply.fd ["corners"] (spCorn K) := by
  refine T.corners_reply.fn.ok sc_corners_reply (fun vs H Q E h => ?_) (fun cdv A outer s H vs Q E hr h => ?_)
  · obtain ⟨a, rs, rfl, _⟩ := h
    rfl
  · obtain ⟨a, rs, rfl, hS, hR, hlen, k⟩ := h
    refine ⟨_, pss_cons (ps_set (i := 1) sc_corners_reply.nd rfl (.inl rfl) (pe_lst (pa_cons (pe_callB call_len_seq (by rfl) T.nb.len_ PySem.boot_len (pa_cons (pv 0) pa_nil)) pa_nil)))
      (pss_cons (ps_for PassesOwn.never rfl (pi_list (pv 0)) (pg_name (i := 2) sc_corners_reply.nd rfl (.inl rfl))
        (pss_one (ps_expr (pe_bm PySem.F.plainAttrs_list PySem.F.slot_list_extend PySem.F.type_list_extend mt_extendT (pv 1) (pa_cons (pv 2) pa_nil)))))
      (pss_one (ps_ret (pv 1)))), ?_⟩
    refine ⟨_, rfl, a, _, rfl, .inl hS, (by show 1 ≤ sizeLine; decide), fun o no => ?_⟩
    rw [refsV_len]
    have s1 := same_upd (o := .lst [.int ((rs.length : Nat) : Int)]) no
    refine ⟨_, rfl, a, rfl, ⟨_, s1.seq hS⟩, for_list (K := K) (a := a) (xs := refsV rs) (fun i σ H' => ∃ v2 : Option V, σ = [some (.ref a), some (.ref o), v2] ∧ Same H H' ∧ H' o = some (.lst ((((rs.length : Nat) : Int) :: ((pts rs).take i).flatMap fun p => [p.x, p.y]).map V.int)))
      ⟨none, rfl, s1, upd_same⟩ (fun i σ H' _ ⟨_, _, sm, _⟩ => sm.seq hS) ?_ ?_⟩
    · rintro i x σ H1 hi ⟨v2, rfl, sm, ho⟩
      obtain ⟨r, hr', rfl⟩ := refsV_get hi
      have il := (List.getElem?_eq_some_iff.mp hr').1
      have lfl : ∀ l : List Pt, (l.flatMap fun p => [p.x, p.y]).length = 2 * l.length := fun l => by
        induction l with
        | nil => rfl
        | cons p l ih => rw [List.flatMap_cons, List.length_append, ih, List.length_cons]; simp only [List.length_cons, List.length_nil]; omega
      refine ⟨_, rfl, .inl ⟨rfl, _, SqL.of ho⟩, _, rfl, o, r.1, _, _, rfl, rfl, ho, same_pt sm (hR r (List.mem_of_getElem? hr')), ?_, _, rfl, same_grow no sm, ?_⟩
      · rw [List.length_map, List.length_cons, lfl, List.length_take, sizeLine_eq]
        simp only [List.length_cons, List.length_nil]
        omega
      · rw [upd_same, take_snoc (pts_get hr'), List.flatMap_append]
        simp
    · rintro σ H1 ⟨v2, rfl, sm, ho⟩
      rw [refsV_len, ← pts_len, List.take_length] at ho
      exact ⟨_, rfl, k H1 o sm no ho⟩
/-! ### may_begin, task_refusal -/
def mayOk (v : Wind) (t : Int) : Bool := match v.getLast? with
  | none => decide (t = 0)
  | some x => decide (x.from_ < t)
def spMay (K : PySem.W.Frag) : Sp := fun vs H Q _ => ∃ (a : Addr) (v : Wind) (t : Int), vs = [.ref a, .int t] ∧ SqL K H a ((v.map (·.from_)).map V.int) ∧ Q (.bl (mayOk v t)) H
theorem okMay (T : Tx K mg) {k : Nat} : FnOk P w K mg base CX0 (k + 1) T.may_begin.f T.may_begin.fd ["begins", "t"] (spMay K) := by
  refine T.may_begin.fn.ok sc_may_begin (fun vs H Q E h => ?_) (fun cdv A outer s H vs Q E hr h => ?_)
  · obtain ⟨a, v, t, rfl, _⟩ := h
    rfl
  · obtain ⟨a, v, t, rfl, hS, k⟩ := h
    refine ⟨_, pss_cons (ps_if (pt_cmpR op_eq (pe_callB call_len_seq (by rfl) T.nb.len_ PySem.boot_len (pa_cons (pv 0) pa_nil)) pe_int (nomark _)) (pss_one (ps_ret (pe_cmpR op_eq (pv 1) pe_int (nomark _)))) pss_nil)
      (pss_one (ps_ret (pe_cmpR op_gt (pv 1) (pe_ix ix_list (pv 0) (pe_un un_neg pe_int) (fun _ _ => rfl)) (nomark _)))), ?_⟩
    refine ⟨_, rfl, a, _, rfl, .inl hS, rfl, _, rfl, ?_⟩
    rw [List.length_map, List.length_map]
    refine ite2 (fun e => ?_) (fun e => ?_)
    · have e : ((v.length : Nat) : Int) = 0 := V.int.inj (of_decide_eq_true e)
      have ev : v = [] := List.eq_nil_of_length_eq_zero (by omega)
      subst ev
      refine ⟨_, rfl, rfl, ?_⟩
      have k : Q (.bl (decide (t = 0))) H := k
      show Q (.bl (decide (V.int t = V.int 0))) H
      rwa [show decide (V.int t = V.int 0) = decide (t = 0) from decide_eq_decide.mpr ⟨V.int.inj, congrArg V.int⟩]
    · have e : ¬ ((v.length : Nat) : Int) = 0 := fun z => e (decide_eq_true (congrArg V.int z))
      have hne : v ≠ [] := fun z => by rw [z] at e; exact e rfl
      obtain ⟨x, hx⟩ : ∃ x, v.getLast? = some x := ⟨_, List.getLast?_eq_some_getLast hne⟩
      have eL : atI ((v.map (·.from_)).map V.int) (-1) = some (.int x.from_) := by
        obtain ⟨pre, hpre⟩ := List.getLast?_eq_some_iff.mp hx
        rw [hpre, List.map_append, List.map_append]
        exact atI_last _ _
      have k : Q (.bl (match v.getLast? with | none => decide (t = 0) | some x => decide (x.from_ < t))) H := k
      rw [hx] at k
      exact ⟨_, rfl, _, rfl, _, rfl, a, _, _, _, rfl, rfl, hS, eL, _, _, rfl, rfl, k⟩
def taskV (v : Wind) (x y t : Int) : V := if (nearOk 1000000 x y && Vbreac.timeOk t) = true then (if v.isEmpty = true then .int (-4) else .non) else .int (-1)
def spTask (K : PySem.W.Frag) (C : Addr) : Sp := fun vs H Q _ => ∃ (a : Addr) (v : Wind) (F : Fc) (x y t : Int), vs = [.ref a, .int x, .int y, .int t] ∧ FcA K C H a v F ∧ Q (taskV v x y t) H
theorem okTask (T : Tx K mg) {k : Nat} : FnOk P w K mg base CX0 (k + 2) T.task_refusal.f T.task_refusal.fd ["forecast", "x", "y", "t"] (spTask K T.CForecast) := by
  have GP : FnOk P w K mg base CX0 (k + 1) T.is_place.f T.is_place.fd ["x", "y"] (spB2 (nearOk 1000000)) := okIsPlace T
  have GT : FnOk P w K mg base CX0 (k + 1) T.is_time.f T.is_time.fd ["t"] (spB1 Vbreac.timeOk) := okIsTime T
  have GE : FnOk P w K mg base CX0 (k + 1) T.Forecast_is_empty.f T.Forecast_is_empty.fd ["self"] (spEmpty K T.CForecast) := okEmpty T
  refine T.task_refusal.fn.ok sc_task_refusal (fun vs H Q E h => ?_) (fun cdv A outer s H vs Q E hr h => ?_)
  · obtain ⟨a, v, F, x, y, t, rfl, _⟩ := h
    rfl
  · obtain ⟨a, v, F, x, y, t, rfl, hF, k⟩ := h
    refine ⟨_, pss_cons (ps_if (PW.pt (pw_or (pt_not (pt_val (pe_call GP hr rfl T.is_place.g T.is_place.fn.kp T.is_place.b .nil pass0 (pa_cons (pv 1) (pa_cons (pv 2) pa_nil)))))
        (pw_or1 (pt_not (pt_val (pe_call GT hr rfl T.is_time.g T.is_time.fn.kp T.is_time.b .nil pass0 (pa_cons (pv 3) pa_nil))))))) (pss_one (ps_ret (pe_glob rfl T.OUT_OF_RANGE.g T.OUT_OF_RANGE.rel))) pss_nil)
      (pss_cons (ps_if (pt_val (pe_meth0 (pv 0) T.cForecast T.Forecast_is_empty.m GE hr T.Forecast_is_empty.b .nil pass0)) (pss_one (ps_ret (pe_glob rfl T.NO_SLICES.g T.NO_SLICES.rel))) pss_nil)
      (pss_one (ps_ret pe_non))), ?_⟩
    unfold taskV at k
    refine ⟨_, rfl, _, rfl, x, y, rfl, _, rfl, ite2 (fun e => ?_) (fun e => ?_)⟩
    · have e : nearOk 1000000 x y = false := by simpa using e
      rw [e, Bool.false_and] at k
      exact k
    · have e : nearOk 1000000 x y = true := by simpa using e
      rw [e, Bool.true_and] at k
      refine ⟨_, rfl, t, rfl, _, rfl, ite2 (fun e2 => ?_) (fun e2 => ?_)⟩
      · have e2 : Vbreac.timeOk t = false := by simpa using e2
        rw [e2] at k
        exact k
      · have e2 : Vbreac.timeOk t = true := by simpa using e2
        rw [e2, if_pos rfl] at k
        refine ⟨_, rfl, a, F.dx, _, rfl, hF.ob, fc_no (by decide +kernel) (by decide +kernel) (by decide +kernel) (by decide +kernel) (by decide +kernel) _ _ _ _ _, a, v, F, rfl, hF, _, rfl, ite2 (fun e3 => ?_) (fun e3 => ?_)⟩
        · rwa [if_pos e3] at k
        · rwa [if_neg e3] at k
end
end Sw
set_option maxHeartbeats 4000000
namespace Sw
open PySem PySem.Spec PyProof.Rows L2 LamX
open Vbreac (Pt Frac Wind)
section
variable {P : Program} {w : World} {K : PySem.W.Frag} {mg : Str → Option Value} {base : Heap}
/-! ### What a reply leaves -/
def Stp (K : PySem.W.Frag) (C : Addr) (Tb : List (Addr × Str)) (H H' : Hp) (a : Addr) (v : Wind) (F : Fc) (J : Option (Addr × Fc)) : Prop :=
  ∃ F' J', FcJ K C H' a v F' J' ∧ Tabs Tb H' ∧ (∀ b xs, H b = some (.lst xs) → OffJ b F J → H' b = some (.lst xs)) ∧ (∀ b o u, H b = some (.frz o u) → H' b = some (.frz o u)) ∧ ∀ b u, H b = some u → OffJ b F J → OffJ b F' J'
structure FcS (K : PySem.W.Frag) (C : Addr) (Tb : List (Addr × Str)) (H : Hp) (a : Addr) (v : Wind) (F : Fc) (J : Option (Addr × Fc)) : Prop where
  j : FcJ K C H a v F J
  w : WOk 24 v
  t : Tabs Tb H
/-- No list that was there before. -/
def NewL (H : Hp) (q : Addr) : Prop := ∀ xs, H q ≠ some (.lst xs)
theorem NewL.of {H : Hp} {q : Addr} (n : H q = none) : NewL H q := fun xs z => by rw [n] at z; cases z
theorem NewL.kept {H H1 : Hp} {q : Addr} (i : KeptI H H1) (n : H1 q = none) : NewL H q := fun xs z => by rw [i.lst z] at n; cases n
def RepQ (K : PySem.W.Frag) (C : Addr) (Tb : List (Addr × Str)) (H : Hp) (a : Addr) (F : Fc) (J : Option (Addr × Fc)) (r : Vbreac.State × List Int) (Q : VK) : Prop :=
  ∀ H' q, Stp K C Tb H H' a r.1 F J → NewL H q → H' q = some (.lst (r.2.map V.int)) → Q (.ref q) H'
theorem Stp.go {C : Addr} {Tb : List (Addr × Str)} {H H' : Hp} {a : Addr} {v : Wind} {F : Fc} {J : Option (Addr × Fc)} (t : Tabs Tb H) (g : Go K C H H' a v F J) : Stp K C Tb H H' a v F J := by
  obtain ⟨F', J', h1, h2, h3, _, _, _, h7⟩ := g
  exact ⟨F', J', h3, h2 _ t, fun b xs h _ => h1.lst h, fun b o u h => h1.frz h, h7⟩
theorem Stp.same {C : Addr} {Tb : List (Addr × Str)} {H H' : Hp} {a : Addr} {v : Wind} {F : Fc} {J : Option (Addr × Fc)} (f : FcS K C Tb H a v F J) (s : Same H H') : Stp K C Tb H H' a v F J := Stp.go f.t (Go.same f.j s)
theorem Stp.then {C : Addr} {Tb : List (Addr × Str)} {H H1 H2 : Hp} {a : Addr} {v : Wind} {F : Fc} {J : Option (Addr × Fc)} (x : Stp K C Tb H H1 a v F J) (s : Same H1 H2) : Stp K C Tb H H2 a v F J := by
  obtain ⟨F', J', h1, h2, h3, h4, h5⟩ := x
  exact ⟨F', J', h1.same s, h2.ext s, fun b xs h o => s _ _ (h3 b xs h o), fun b o u h => s _ _ (h4 b o u h), h5⟩
theorem Stp.keep {C : Addr} {Tb : List (Addr × Str)} {H H1 H2 : Hp} {a : Addr} {v : Wind} {F : Fc} {J : Option (Addr × Fc)} (x : Stp K C Tb H H1 a v F J) (s : Keep Tb H1 H2) : Stp K C Tb H H2 a v F J := by
  obtain ⟨F', J', h1, h2, h3, h4, h5⟩ := x
  exact ⟨F', J', h1.keepN s.ext, s.tabs, fun b xs h o => (KeptI.ofN s.ext).lst (h3 b xs h o), fun b o u h => (KeptI.ofN s.ext).frz (h4 b o u h), h5⟩
section
variable {C : Addr} {Tb : List (Addr × Str)} {H H1 : Hp} {a : Addr} {v : Wind} {F : Fc} {J : Option (Addr × Fc)} {Q : VK} {ns : List Int}
theorem rep_new (R : RepQ K C Tb H a F J (v, ns) Q) (f : FcS K C Tb H a v F J) (s : Same H H1) {q : Addr} (nq : H1 q = none) : Q (.ref q) (upd H1 q (.lst (ns.map V.int))) :=
  R _ q (Stp.same f (s.trans (same_upd nq))) (.of (s.free nq)) upd_same
theorem rep_same (R : RepQ K C Tb H a F J (v, ns) Q) (f : FcS K C Tb H a v F J) (s : Same H H1) {q : Addr} (nq : H q = none) (hq : H1 q = some (.lst (ns.map V.int))) : Q (.ref q) H1 :=
  R _ q (Stp.same f s) (.of nq) hq
end
/-! ### begin, slices -/
def spRBegin (K : PySem.W.Frag) (C : Addr) (Tb : List (Addr × Str)) : Sp := fun vs H Q _ => ∃ (a : Addr) (v : Wind) (F : Fc) (J : Option (Addr × Fc)), vs = [.ref a] ∧ FcS K C Tb H a v F J ∧ RepQ K C Tb H a F J (Vbreac.step v .begin_) Q
theorem okRBegin (T : Tx K mg) {Tb : List (Addr × Str)} {k : Nat} : FnOk P w K mg base CX0 (k + 3) T.reply_begin.f T.reply_begin.fd ["forecast"] (spRBegin K T.CForecast Tb) := by
  have GF : FnOk P w K mg base CX0 (k + 2) T.Forecast_forget_slices.f T.Forecast_forget_slices.fd ["self"] (spForgetAll K T.CForecast) := okForgetAll T
  refine T.reply_begin.fn.ok sc_reply_begin (fun vs H Q E h => ?_) (fun cdv A outer s H vs Q E hr h => ?_)
  · obtain ⟨a, v, F, J, rfl, _⟩ := h
    rfl
  · obtain ⟨a, v, F, J, rfl, f, R⟩ := h
    refine ⟨_, pss_cons (ps_expr (pe_meth0 (pv 0) T.cForecast T.Forecast_forget_slices.m GF hr T.Forecast_forget_slices.b .nil pass0)) (pss_one (ps_ret (pe_lst (pa_cons pe_int pa_nil)))), ?_⟩
    have hF := f.j.1
    refine ⟨_, rfl, a, F.dx, _, rfl, hF.ob, fc_no (by decide +kernel) (by decide +kernel) (by decide +kernel) (by decide +kernel) (by decide +kernel) _ _ _ _ _, a, v, F, rfl, hF, fun H1 F' k1 hF' fj nb nh fo => ?_⟩
    refine ⟨(by show 1 ≤ sizeLine; decide), fun q nq => ?_⟩
    have st : Stp K T.CForecast Tb H H1 a [] F J := ⟨F', none, ⟨hF', fj⟩, k1.tabs hF.ob f.t, fun b xs h _ => k1 _ _ h (ne_of h hF.ob (by intro z; cases z)), fun b o u h => k1 _ _ h (ne_of h hF.ob (by intro z; cases z)), fun b u h _ => ⟨fo b u h, fun _ _ z => nomatch z⟩⟩
    exact R _ q (st.then (same_upd nq)) (.of (k1.free nq hF'.ob)) upd_same
def spRSlices (K : PySem.W.Frag) (C : Addr) (Tb : List (Addr × Str)) : Sp := fun vs H Q _ => ∃ (a : Addr) (v : Wind) (F : Fc) (J : Option (Addr × Fc)), vs = [.ref a] ∧ FcS K C Tb H a v F J ∧ RepQ K C Tb H a F J (Vbreac.step v .slices) Q
theorem okRSlices (T : Tx K mg) {Tb : List (Addr × Str)} {k : Nat} : FnOk P w K mg base CX0 (k + 1) T.reply_slices.f T.reply_slices.fd ["forecast"] (spRSlices K T.CForecast Tb) := by
  refine T.reply_slices.fn.ok sc_reply_slices (fun vs H Q E h => ?_) (fun cdv A outer s H vs Q E hr h => ?_)
  · obtain ⟨a, v, F, J, rfl, _⟩ := h
    rfl
  · obtain ⟨a, v, F, J, rfl, f, R⟩ := h
    refine ⟨_, pss_one (ps_ret (pe_op op_cat (pe_lst (pa_cons (pe_callB call_len_seq (by rfl) T.nb.len_ PySem.boot_len (pa_cons (pe_fld (pv 0) rfl) pa_nil)) pa_nil)) (pe_fld (pv 0) rfl))), ?_⟩
    have hF := f.j.1
    have vl := f.w.len
    refine ⟨_, rfl, a, T.CForecast, F.dx, _, _, rfl, hF.ob, T.cForecast, T.nForecast_begins, fc_begins _ _ _ _ _, F.ab, _, rfl, .inl (SqL.of hF.bg), (by show 1 ≤ sizeLine; decide), fun l nl => ?_⟩
    rw [List.length_map, List.length_map]
    have s1 := same_upd (o := .lst [.int ((v.length : Nat) : Int)]) nl
    refine ⟨_, rfl, a, T.CForecast, F.dx, _, _, rfl, s1 _ _ hF.ob, T.cForecast, T.nForecast_begins, fc_begins _ _ _ _ _, l, F.ab, _, _, rfl, rfl, upd_same, s1 _ _ hF.bg, ?_, fun q nq => ?_⟩
    · rw [List.length_map, List.length_map, sizeLine_eq]
      show 1 + _ ≤ _
      omega
    exact rep_new R f s1 nq
/-! ### hull, inside, support -/
theorem hull_at {C : Addr} {H : Hp} {a : Addr} {v : Wind} {F : Fc} (hF : FcA K C H a v F) {i : Int} (hi : Vbreac.within i 0 ((v.length : Int) - 1) = true) : ∃ h, F.hs[i.toNat]? = some h ∧ Vbreac.sailOf v i.toNat = pts h.2 ∧ i = ((i.toNat : Nat) : Int) ∧ IsSail (pts h.2) := by
  unfold Vbreac.within at hi
  have hi := of_decide_eq_true hi
  have hlt : i.toNat < F.hs.length := by rw [hF.len]; omega
  refine ⟨_, List.getElem?_eq_getElem hlt, ?_, by omega, ?_⟩
  · have e : (Vbreac.sails v)[i.toNat]? = some (pts (F.hs[i.toNat]).2) := by
      rw [← hF.hp, List.getElem?_map, List.getElem?_eq_getElem hlt]
      rfl
    unfold Vbreac.sailOf
    unfold Vbreac.sails at e
    rw [List.getElem?_map] at e
    rw [e]
    rfl
  · refine sails_sail (v := v) (i := i.toNat) ?_
    rw [← hF.hp, List.getElem?_map, List.getElem?_eq_getElem hlt]
    rfl
theorem on_slice (v : Wind) (i : Int) (f : Nat → Vbreac.Ans) : Vbreac.onSlice v i f = (v, if Vbreac.within i 0 ((v.length : Int) - 1) = true then f i.toNat else [-2]) := by
  unfold Vbreac.onSlice
  split <;> rfl
def spRI (K : PySem.W.Frag) (C : Addr) (Tb : List (Addr × Str)) (c : Int → Vbreac.Call) : Sp := fun vs H Q _ => ∃ (a : Addr) (v : Wind) (F : Fc) (J : Option (Addr × Fc)) (i : Int), vs = [.ref a, .int i] ∧ FcS K C Tb H a v F J ∧ RepQ K C Tb H a F J (Vbreac.step v (c i)) Q
theorem okRHull (T : Tx K mg) {Tb : List (Addr × Str)} {k : Nat} : FnOk P w K mg base CX0 (k + 2) T.reply_hull.f T.reply_hull.fd ["forecast", "i"] (spRI K T.CForecast Tb .hull) := by
  have GH : FnOk P w K mg base CX0 (k + 1) T.Forecast_has_slice.f T.Forecast_has_slice.fd ["self", "number"] (spHas K T.CForecast) := okHas T
  have GC : FnOk P w K mg base CX0 (k + 1) T.corners_reply.f T.corners_reply.fd ["corners"] (spCorn K) := okCorn T
  refine T.reply_hull.fn.ok sc_reply_hull (fun vs H Q E h => ?_) (fun cdv A outer s H vs Q E hr h => ?_)
  · obtain ⟨a, v, F, J, i, rfl, _⟩ := h
    rfl
  · obtain ⟨a, v, F, J, i, rfl, f, R⟩ := h
    refine ⟨_, pss_cons (ps_if (pt_not (pt_val (pe_meth (pv 0) T.cForecast T.Forecast_has_slice.m GH hr T.Forecast_has_slice.b .nil pass0 (pa_cons (pv 1) pa_nil)))) (pss_one (ps_ret (pe_lst (pa_cons (pe_glob rfl T.NO_SUCH_SLICE.g T.NO_SUCH_SLICE.rel) pa_nil)))) pss_nil)
      (pss_one (ps_ret (pe_call GC hr rfl T.corners_reply.g T.corners_reply.fn.kp T.corners_reply.b .nil pass0 (pa_cons (pe_ix ix_list (pe_fld (pv 0) rfl) (pv 1) (fun _ _ => rfl)) pa_nil)))), ?_⟩
    have hF := f.j.1
    have R : RepQ K T.CForecast Tb H a F J (Vbreac.onSlice v i fun i => Vbreac.told (Vbreac.sailOf v i)) Q := R
    rw [on_slice] at R
    refine ⟨_, rfl, a, F.dx, _, rfl, hF.ob, fc_no (by decide +kernel) (by decide +kernel) (by decide +kernel) (by decide +kernel) (by decide +kernel) _ _ _ _ _, _, rfl, a, v, F, i, rfl, hF, _, rfl, ite2 (fun e => ?_) (fun e => ?_)⟩
    · have e : ¬ Vbreac.within i 0 ((v.length : Int) - 1) = true := by simpa using e
      rw [if_neg e] at R
      exact ⟨(by show 1 ≤ sizeLine; decide), fun q nq => rep_new R f (Same.refl _) nq⟩
    · have e : Vbreac.within i 0 ((v.length : Int) - 1) = true := by simpa using e
      rw [if_pos e] at R
      obtain ⟨h, hh, es, ei, _⟩ := hull_at hF e
      have hA := hF.hu h (List.mem_of_getElem? hh)
      rw [es] at R
      refine ⟨_, rfl, a, T.CForecast, F.dx, _, _, rfl, hF.ob, T.cForecast, T.nForecast_hulls, fc_hulls _ _ _ _ _, _, rfl, F.ah, _, _, _, rfl, rfl, SqL.of hF.hl, at_of ei (by unfold hullsV; rw [List.getElem?_map, hh]; rfl), h.1, h.2, rfl, hA.list, fun r hr' => (hA.row r hr').1, Nat.le_trans (Nat.le_of_lt hA.few) (by decide), fun H1 q s1 nq hq => ?_⟩
      exact rep_same R f s1 nq hq
theorem inside_eq (l : List Pt) : (if l.length ≥ 3 ∧ ((Vbreac.edges l).all fun e => decide (0 < Vbreac.cross (Vbreac.minus e.2 e.1) (Vbreac.minus Vbreac.zero e.1))) = true then (1 : Int) else 0) = if withinOf l = true then 1 else 0 := by
  have e : (fun e : Pt × Pt => decide (0 < Vbreac.cross (Vbreac.minus e.2 e.1) (Vbreac.minus Vbreac.zero e.1))) = fun e => decide (Vbreac.cross e.1 e.2 > 0) := by
    funext e
    refine decide_eq_decide.mpr ?_
    have : Vbreac.cross (Vbreac.minus e.2 e.1) (Vbreac.minus Vbreac.zero e.1) = Vbreac.cross e.1 e.2 := by
      simp only [Vbreac.cross, Vbreac.minus, Vbreac.zero]
      grind
    rw [this]
  rw [e]
  unfold withinOf
  by_cases c : l.length ≥ 3 ∧ ((Vbreac.edges l).all fun e => decide (Vbreac.cross e.1 e.2 > 0)) = true
  · rw [if_pos c, if_pos (by rw [Bool.and_eq_true, decide_eq_true_eq]; exact c)]
  · rw [if_neg c, if_neg (by rw [Bool.and_eq_true, decide_eq_true_eq]; exact c)]
theorem okRInside (T : Tx K mg) {Tb : List (Addr × Str)} {k : Nat} : FnOk P w K mg base CX0 (k + 3) T.reply_inside.f T.reply_inside.fd ["forecast", "i"] (spRI K T.CForecast Tb .inside) := by
  have GH : FnOk P w K mg base CX0 (k + 2) T.Forecast_has_slice.f T.Forecast_has_slice.fd ["self", "number"] (spHas K T.CForecast) := okHas T
  have GW : FnOk P w K mg base CX0 (k + 2) T.holds_origin_within.f T.holds_origin_within.fd ["corners"] (spWithin K) := ok_within T.holds_origin_within.fn T.neighbours.fn T.neighbours.b T.neighbours.g T.cross.fn T.cross.b T.cross.g T.nb.len_ T.nb.list_ T.nb.zip_ T.nb.all_
  refine T.reply_inside.fn.ok sc_reply_inside (fun vs H Q E h => ?_) (fun cdv A outer s H vs Q E hr h => ?_)
  · obtain ⟨a, v, F, J, i, rfl, _⟩ := h
    rfl
  · obtain ⟨a, v, F, J, i, rfl, f, R⟩ := h
    refine ⟨_, pss_cons (ps_if (pt_not (pt_val (pe_meth (pv 0) T.cForecast T.Forecast_has_slice.m GH hr T.Forecast_has_slice.b .nil pass0 (pa_cons (pv 1) pa_nil)))) (pss_one (ps_ret (pe_lst (pa_cons (pe_glob rfl T.NO_SUCH_SLICE.g T.NO_SUCH_SLICE.rel) pa_nil)))) pss_nil)
      (pss_one (ps_ret (pe_lst (pa_cons (pe_ifExp (pt_val (pe_call GW hr rfl T.holds_origin_within.g T.holds_origin_within.fn.kp T.holds_origin_within.b .nil pass0 (pa_cons (pe_ix ix_list (pe_fld (pv 0) rfl) (pv 1) (fun _ _ => rfl)) pa_nil))) pe_int pe_int) pa_nil)))), ?_⟩
    have hF := f.j.1
    have R : RepQ K T.CForecast Tb H a F J (Vbreac.onSlice v i fun i => [if (Vbreac.sailOf v i).length ≥ 3 ∧ ((Vbreac.edges (Vbreac.sailOf v i)).all fun e => decide (0 < Vbreac.cross (Vbreac.minus e.2 e.1) (Vbreac.minus Vbreac.zero e.1))) = true then 1 else 0]) Q := R
    rw [on_slice] at R
    refine ⟨_, rfl, a, F.dx, _, rfl, hF.ob, fc_no (by decide +kernel) (by decide +kernel) (by decide +kernel) (by decide +kernel) (by decide +kernel) _ _ _ _ _, _, rfl, a, v, F, i, rfl, hF, _, rfl, ite2 (fun e => ?_) (fun e => ?_)⟩
    · have e : ¬ Vbreac.within i 0 ((v.length : Int) - 1) = true := by simpa using e
      rw [if_neg e] at R
      exact ⟨(by show 1 ≤ sizeLine; decide), fun q nq => rep_new R f (Same.refl _) nq⟩
    · have e : Vbreac.within i 0 ((v.length : Int) - 1) = true := by simpa using e
      rw [if_pos e] at R
      obtain ⟨h, hh, es, ei, _⟩ := hull_at hF e
      have hA := hF.hu h (List.mem_of_getElem? hh)
      rw [es, inside_eq] at R
      refine ⟨_, rfl, a, T.CForecast, F.dx, _, _, rfl, hF.ob, T.cForecast, T.nForecast_hulls, fc_hulls _ _ _ _ _, _, rfl, F.ah, _, _, _, rfl, rfl, SqL.of hF.hl, at_of ei (by unfold hullsV; rw [List.getElem?_map, hh]; rfl), h.1, h.2, rfl, hA.list, hA.row, Nat.lt_trans hA.few (by decide), fun H1 s1 => ?_⟩
      refine ⟨_, rfl, ite2 (fun e2 => ?_) (fun e2 => ?_)⟩
      · rw [if_pos e2] at R
        exact ⟨(by show 1 ≤ sizeLine; decide), fun q nq => rep_new R f s1 nq⟩
      · rw [if_neg e2] at R
        exact ⟨(by show 1 ≤ sizeLine; decide), fun q nq => rep_new R f s1 nq⟩
def spRI2 (K : PySem.W.Frag) (C : Addr) (Tb : List (Addr × Str)) (c : Int → Int → Int → Vbreac.Call) : Sp := fun vs H Q _ => ∃ (a : Addr) (v : Wind) (F : Fc) (J : Option (Addr × Fc)) (i x y : Int), vs = [.ref a, .int i, .int x, .int y] ∧ FcS K C Tb H a v F J ∧ RepQ K C Tb H a F J (Vbreac.step v (c i x y)) Q
theorem near_small {x y : Int} (h : nearOk 1000 x y = true) : Small x ∧ Small y ∧ Bd.Within 1000 ⟨x, y⟩ := by
  unfold nearOk Vbreac.within at h
  rw [Bool.and_eq_true, decide_eq_true_eq, decide_eq_true_eq] at h
  simp only [Small, Bd.Within]
  omega
theorem okRSupport (T : Tx K mg) {Tb : List (Addr × Str)} {k : Nat} : FnOk P w K mg base CX0 (k + 3) T.reply_support.f T.reply_support.fd ["forecast", "i", "a", "b"] (spRI2 K T.CForecast Tb .support) := by
  have GV : FnOk P w K mg base CX0 (k + 2) T.is_velocity.f T.is_velocity.fd ["a", "b"] (spB2 (nearOk 1000)) := okIsVel T
  have GH : FnOk P w K mg base CX0 (k + 2) T.Forecast_has_slice.f T.Forecast_has_slice.fd ["self", "number"] (spHas K T.CForecast) := okHas T
  have GS : FnOk P w K mg base CX0 (k + 2) T.hull_support.f T.hull_support.fd ["corners", "direction"] (spSupp K) := okSupp T
  refine T.reply_support.fn.ok sc_reply_support (fun vs H Q E h => ?_) (fun cdv A outer s H vs Q E hr h => ?_)
  · obtain ⟨a, v, F, J, i, x, y, rfl, _⟩ := h
    rfl
  · obtain ⟨a, v, F, J, i, x, y, rfl, f, R⟩ := h
    refine ⟨_, pss_cons (ps_if (pt_not (pt_val (pe_call GV hr rfl T.is_velocity.g T.is_velocity.fn.kp T.is_velocity.b .nil pass0 (pa_cons (pv 2) (pa_cons (pv 3) pa_nil))))) (pss_one (ps_ret (pe_lst (pa_cons (pe_glob rfl T.OUT_OF_RANGE.g T.OUT_OF_RANGE.rel) pa_nil)))) pss_nil)
      (pss_cons (ps_if (pt_not (pt_val (pe_meth (pv 0) T.cForecast T.Forecast_has_slice.m GH hr T.Forecast_has_slice.b .nil pass0 (pa_cons (pv 1) pa_nil)))) (pss_one (ps_ret (pe_lst (pa_cons (pe_glob rfl T.NO_SUCH_SLICE.g T.NO_SUCH_SLICE.rel) pa_nil)))) pss_nil)
      (pss_one (ps_ret (pe_lst (pa_cons (pe_call GS hr rfl T.hull_support.g T.hull_support.fn.kp T.hull_support.b .nil pass0 (pa_cons (pe_ix ix_list (pe_fld (pv 0) rfl) (pv 1) (fun _ _ => rfl)) (pa_cons (pe_tup (pa_cons (pv 2) (pa_cons (pv 3) pa_nil))) pa_nil))) pa_nil))))), ?_⟩
    have hF := f.j.1
    have R : RepQ K T.CForecast Tb H a F J (if nearOk 1000 x y = false then (v, [-1]) else Vbreac.onSlice v i fun i => [Vbreac.support (Vbreac.sailOf v i) ⟨x, y⟩]) Q := R
    rw [on_slice] at R
    refine ⟨_, rfl, _, rfl, x, y, rfl, _, rfl, ite2 (fun e0 => ?_) (fun e0 => ?_)⟩
    · have e0 : nearOk 1000 x y = false := by simpa using e0
      rw [if_pos e0] at R
      exact ⟨(by show 1 ≤ sizeLine; decide), fun q nq => rep_new R f (Same.refl _) nq⟩
    have e0 : nearOk 1000 x y = true := by simpa using e0
    rw [if_neg (by rw [e0]; decide)] at R
    refine ⟨_, rfl, a, F.dx, _, rfl, hF.ob, fc_no (by decide +kernel) (by decide +kernel) (by decide +kernel) (by decide +kernel) (by decide +kernel) _ _ _ _ _, _, rfl, a, v, F, i, rfl, hF, _, rfl, ite2 (fun e => ?_) (fun e => ?_)⟩
    · have e : ¬ Vbreac.within i 0 ((v.length : Int) - 1) = true := by simpa using e
      rw [if_neg e] at R
      exact ⟨(by show 1 ≤ sizeLine; decide), fun q nq => rep_new R f (Same.refl _) nq⟩
    · have e : Vbreac.within i 0 ((v.length : Int) - 1) = true := by simpa using e
      rw [if_pos e] at R
      obtain ⟨h, hh, es, ei, isl⟩ := hull_at hF e
      have hA := hF.hu h (List.mem_of_getElem? hh)
      rw [es] at R
      have sm := near_small e0
      refine ⟨_, rfl, a, T.CForecast, F.dx, _, _, rfl, hF.ob, T.cForecast, T.nForecast_hulls, fc_hulls _ _ _ _ _, _, rfl, F.ah, _, _, _, rfl, rfl, SqL.of hF.hl, at_of ei (by unfold hullsV; rw [List.getElem?_map, hh]; rfl), _, rfl, _, rfl, (by show 2 ≤ sizeLine; decide), fun c nc => ?_⟩
      have s1 := same_upd (o := .tup [.int x, .int y]) nc
      refine ⟨h.1, c, h.2, ⟨x, y⟩, rfl, s1.seq hA.list, fun r hr' => same_pt s1 (hA.row r hr').1, SqT.of upd_same, sm.1, sm.2.1, hA.pos, Nat.lt_trans hA.few (by decide), fun H2 M s2 m1 m2 => ?_⟩
      rw [supp_eq isl m1 m2]
      exact ⟨(by show 1 ≤ sizeLine; decide), fun q nq => rep_new R f (s1.trans s2) nq⟩
end
end Sw
set_option maxHeartbeats 4000000
namespace Sw
open PySem PySem.Spec PyProof.Rows L2 LamX
open Vbreac (Pt Frac Wind)
section
variable {P : Program} {w : World} {K : PySem.W.Frag} {mg : Str → Option Value} {base : Heap}
/-! ### slice -/
theorem vels_some {ns : List Int} (h : velsOk ns = true) : ∃ v, Vbreac.pairs ns = some v ∧ ns.length = 2 * v.length ∧ (1 ≤ v.length ∧ v.length ≤ 24) ∧ (∀ p ∈ v, Bd.Within 1000 p) ∧ Gr.chunks 2 v.length ns = v.map fun p => [p.x, p.y] := by
  unfold velsOk at h
  by_cases c : ns.length % 2 = 1
  · rw [Gr.pairs_none ns c] at h
    cases h
  · obtain ⟨v, h1, h2, h3⟩ := Gr.pairs_some (ns.length / 2) ns (by omega)
    rw [h1] at h
    simp only [Bool.and_eq_true, decide_eq_true_eq, List.all_eq_true] at h
    refine ⟨v, h1, by omega, h.1, fun p hp => (near_small (h.2 p hp)).2.2, ?_⟩
    rw [h2]
    exact h3
theorem slice_step (v : Wind) (t : Int) (ns : List Int) (hw : v.length ≤ 12) : Vbreac.step v (.slice t ns) =
    if (Vbreac.timeOk t && velsOk ns) = true then (if mayOk v t = true then (if v.length = 12 then (v, [-3]) else (v ++ [⟨t, (Vbreac.pairs ns).getD []⟩], [(v.length : Int) + 1])) else (v, [-2])) else (v, [-1]) := by
  show (match Vbreac.pairs ns with | none => _ | some l => _) = _
  cases e : Vbreac.pairs ns with
  | none =>
    have : velsOk ns = false := by unfold velsOk; rw [e]
    rw [this, Bool.and_false]
    rfl
  | some l =>
    have ev : velsOk ns = (decide (1 ≤ l.length ∧ l.length ≤ 24) && l.all fun p => nearOk 1000 p.x p.y) := by unfold velsOk; rw [e]
    rw [ev]
    simp only
    show (if (Vbreac.timeOk t && (decide (1 ≤ l.length ∧ l.length ≤ 24) && l.all fun p => nearOk 1000 p.x p.y)) = false then _ else _) = _
    cases c : (Vbreac.timeOk t && (decide (1 ≤ l.length ∧ l.length ≤ 24) && l.all fun p => nearOk 1000 p.x p.y)) with
    | false => rfl
    | true =>
      rw [if_neg (by decide), if_pos rfl]
      have tail : (if Vbreac.SLICES ≤ v.length then (v, [-3]) else (v ++ [⟨t, l⟩], [(v.length : Int) + 1]) : Vbreac.State × List Int) = if v.length = 12 then (v, [-3]) else (v ++ [⟨t, (some l).getD []⟩], [(v.length : Int) + 1]) := by
        by_cases c2 : v.length = 12
        · rw [if_pos (by show 12 ≤ v.length; omega), if_pos c2]
        · rw [if_neg (by show ¬ 12 ≤ v.length; omega), if_neg c2]
          rfl
      unfold mayOk
      cases v.getLast? with
      | none =>
        show (if decide (t ≠ 0) = true then _ else _) = if decide (t = 0) = true then _ else _
        by_cases c2 : t = 0
        · rw [if_neg (show ¬ decide (t ≠ 0) = true by simpa using c2), if_pos (show decide (t = 0) = true by simpa using c2)]
          exact tail
        · rw [if_pos (show decide (t ≠ 0) = true by simpa using c2), if_neg (show ¬ decide (t = 0) = true by simpa using c2)]
      | some x =>
        show (if decide (t ≤ x.from_) = true then _ else _) = if decide (x.from_ < t) = true then _ else _
        by_cases c2 : x.from_ < t
        · rw [if_neg (show ¬ decide (t ≤ x.from_) = true by simp; omega), if_pos (show decide (x.from_ < t) = true by simpa using c2)]
          exact tail
        · rw [if_pos (show decide (t ≤ x.from_) = true by simp; omega), if_neg (show ¬ decide (x.from_ < t) = true by simpa using c2)]
def spRL (K : PySem.W.Frag) (C : Addr) (Tb : List (Addr × Str)) (c : Int → List Int → Vbreac.Call) : Sp := fun vs H Q _ => ∃ (a : Addr) (v : Wind) (F : Fc) (J : Option (Addr × Fc)) (t : Int) (b : Addr) (ns : List Int), vs = [.ref a, .int t, .ref b] ∧ FcS K C Tb H a v F J ∧ SqL K H b (ns.map V.int) ∧ ns.length ≤ 60 ∧ RepQ K C Tb H a F J (Vbreac.step v (c t ns)) Q
theorem Kept3.tabs {a b c C dx : Addr} {H H' : Hp} {fs : List (Str × V)} {ys zs : List V} {T : List (Addr × Str)} (s : Kept3 a b c H H') (ha : H a = some (.ins C dx fs)) (hb : H b = some (.lst ys)) (hc : H c = some (.lst zs)) (t : Tabs T H) : Tabs T H' := fun p hp => by
  obtain ⟨ps, h1, h2, h3⟩ := t p hp
  refine ⟨ps, s _ _ h1 (ne_of h1 ha (by intro z; cases z)) (ne_of h1 hb (by intro z; cases z)) (ne_of h1 hc (by intro z; cases z)), h2, fun pos cv hv => ?_⟩
  obtain ⟨c0, e1, e2⟩ := h3 pos cv hv
  exact ⟨c0, e1, s _ _ e2 (ne_of e2 ha (by intro z; cases z)) (ne_of e2 hb (by intro z; cases z)) (ne_of e2 hc (by intro z; cases z))⟩
theorem okRSlice (T : Tx K mg) {tb : Addr} (N : Bs P w K mg base T tb) {k : Nat} : FnOk P w K mg base CX0 (k + 6) T.reply_slice.f T.reply_slice.fd ["forecast", "t", "numbers"] (spRL K T.CForecast (lamTabs tb) .slice) := by
  have GT : FnOk P w K mg base CX0 (k + 5) T.is_time.f T.is_time.fd ["t"] (spB1 Vbreac.timeOk) := okIsTime T
  have GV : FnOk P w K mg base CX0 (k + 5) T.are_velocities.f T.are_velocities.fd ["numbers"] (spTest K velsOk) := okVels T
  have GM : FnOk P w K mg base CX0 (k + 5) T.may_begin.f T.may_begin.fd ["begins", "t"] (spMay K) := okMay T
  have GA : FnOk P w K mg base CX0 (k + 5) T.Forecast_add_slice.f T.Forecast_add_slice.fd ["self", "begin", "velocities"] (spAdd K T.CForecast) := okAdd T N
  have GG : FnOk P w K mg base CX0 (k + 5) T.grouped.f T.grouped.fd ["numbers", "size"] (spGroup K) := okGrouped T
  refine T.reply_slice.fn.ok sc_reply_slice (fun vs H Q E h => ?_) (fun cdv A outer s H vs Q E hr h => ?_)
  · obtain ⟨a, v, F, J, t, b, ns, rfl, _⟩ := h
    rfl
  · obtain ⟨a, v, F, J, t, b, ns, rfl, f, hb, hlen, R⟩ := h
    refine ⟨_, pss_cons (ps_if (PW.pt (pw_or (pt_not (pt_val (pe_call GT hr rfl T.is_time.g T.is_time.fn.kp T.is_time.b .nil pass0 (pa_cons (pv 1) pa_nil))))
        (pw_or1 (pt_not (pt_val (pe_call GV hr rfl T.are_velocities.g T.are_velocities.fn.kp T.are_velocities.b .nil pass0 (pa_cons (pv 2) pa_nil))))))) (pss_one (ps_ret (pe_lst (pa_cons (pe_glob rfl T.OUT_OF_RANGE.g T.OUT_OF_RANGE.rel) pa_nil)))) pss_nil)
      (pss_cons (ps_if (pt_not (pt_val (pe_call GM hr rfl T.may_begin.g T.may_begin.fn.kp T.may_begin.b .nil pass0 (pa_cons (pe_fld (pv 0) rfl) (pa_cons (pv 1) pa_nil))))) (pss_one (ps_ret (pe_lst (pa_cons (pe_glob rfl T.NOT_LATER.g T.NOT_LATER.rel) pa_nil)))) pss_nil)
      (pss_cons (ps_if (pt_cmpR op_eq (pe_callB call_len_seq (by rfl) T.nb.len_ PySem.boot_len (pa_cons (pe_fld (pv 0) rfl) pa_nil)) (pe_glob rfl T.MOST_SLICES.g T.MOST_SLICES.rel) (nomark _)) (pss_one (ps_ret (pe_lst (pa_cons (pe_glob rfl T.TOO_MANY_SLICES.g T.TOO_MANY_SLICES.rel) pa_nil)))) pss_nil)
      (pss_cons (ps_expr (pe_meth (pv 0) T.cForecast T.Forecast_add_slice.m GA hr T.Forecast_add_slice.b .nil pass0 (pa_cons (pv 1) (pa_cons (pe_call GG hr rfl T.grouped.g T.grouped.fn.kp T.grouped.b .nil pass0 (pa_cons (pv 2) (pa_cons pe_int pa_nil))) pa_nil))))
      (pss_one (ps_ret (pe_lst (pa_cons (pe_callB call_len_seq (by rfl) T.nb.len_ PySem.boot_len (pa_cons (pe_fld (pv 0) rfl) pa_nil)) pa_nil))))))), ?_⟩
    have hF := f.j.1
    have vl := f.w.len
    rw [slice_step v t ns vl] at R
    refine ⟨_, rfl, t, rfl, _, rfl, ite2 (fun e => ?_) (fun e => ?_)⟩
    · have e : Vbreac.timeOk t = false := by simpa using e
      rw [e, Bool.false_and, if_neg (by decide)] at R
      exact ⟨(by show 1 ≤ sizeLine; decide), fun q nq => rep_new R f (Same.refl _) nq⟩
    have e : Vbreac.timeOk t = true := by simpa using e
    refine ⟨_, rfl, b, ns, rfl, hb, by omega, fun H1 s1 => ⟨_, rfl, ite2 (fun e2 => ?_) (fun e2 => ?_)⟩⟩
    · have e2 : velsOk ns = false := by simpa using e2
      rw [e, e2, Bool.and_false, if_neg (by decide)] at R
      exact ⟨(by show 1 ≤ sizeLine; decide), fun q nq => rep_new R f s1 nq⟩
    have e2 : velsOk ns = true := by simpa using e2
    rw [e, e2, if_pos (by decide)] at R
    have hF1 := hF.same s1
    refine ⟨_, rfl, a, T.CForecast, F.dx, _, _, rfl, hF1.ob, T.cForecast, T.nForecast_begins, fc_begins _ _ _ _ _, _, rfl, F.ab, v, t, rfl, SqL.of hF1.bg, _, rfl, ite2 (fun e3 => ?_) (fun e3 => ?_)⟩
    · have e3 : ¬ mayOk v t = true := by simpa using e3
      rw [if_neg e3] at R
      exact ⟨(by show 1 ≤ sizeLine; decide), fun q nq => rep_new R f s1 nq⟩
    have e3 : mayOk v t = true := by simpa using e3
    rw [if_pos e3] at R
    refine ⟨_, rfl, a, T.CForecast, F.dx, _, _, rfl, hF1.ob, T.cForecast, T.nForecast_begins, fc_begins _ _ _ _ _, F.ab, _, rfl, .inl (SqL.of hF1.bg), rfl, _, rfl, ?_⟩
    rw [List.length_map, List.length_map]
    refine ite2 (fun e4 => ?_) (fun e4 => ?_)
    · have e4 : ((v.length : Nat) : Int) = 12 := V.int.inj (of_decide_eq_true e4)
      rw [if_pos (by omega)] at R
      exact ⟨(by show 1 ≤ sizeLine; decide), fun q nq => rep_new R f s1 nq⟩
    have e4 : ¬ ((v.length : Nat) : Int) = 12 := fun z => e4 (decide_eq_true (congrArg V.int z))
    rw [if_neg (by omega)] at R
    obtain ⟨ws, h1, h2, h3, h4, h5⟩ := vels_some e2
    rw [h1] at R
    refine ⟨_, rfl, a, F.dx, _, rfl, hF1.ob, fc_no (by decide +kernel) (by decide +kernel) (by decide +kernel) (by decide +kernel) (by decide +kernel) _ _ _ _ _, _, rfl, _, rfl, b, ns, 2, ws.length, rfl, s1.seq hb, h2, by decide, by decide, by omega, fun H2 q gs s2 nq hq hgs egs => ?_⟩
    rw [h5] at egs
    obtain ⟨rs, r1, r2, r3⟩ := grp_row (K := K) egs
    have hF2 := hF1.same s2
    have lrs : rs.length = ws.length := by rw [← pts_len, r2]
    have mid : ∀ r ∈ rs, Mid r.2 := fun r hr' => by
      have := h4 r.2 (by rw [← r2]; exact List.mem_map_of_mem hr')
      simp only [Bd.Within, Mid] at *
      omega
    refine ⟨a, v, F, t, q, rs, rfl, hF2, by rw [r1]; exact hq, fun r hr' => ⟨r3 H2 hgs r hr', mid r hr'⟩, by omega, vl, (ne_of_none hF1.bg nq).symm, (ne_of_none hF1.hl nq).symm, fun H3 F' k3 hF' ab ah fj fo => ?_⟩
    rw [r2] at hF'
    refine ⟨_, rfl, a, T.CForecast, F'.dx, _, _, rfl, hF'.ob, T.cForecast, T.nForecast_begins, fc_begins _ _ _ _ _, F'.ab, _, rfl, .inl (SqL.of hF'.bg), (by show 1 ≤ sizeLine; decide), fun p np => ?_⟩
    have s12 := s1.trans s2
    have st : Stp K T.CForecast (lamTabs tb) H H3 a (v ++ [⟨t, ws⟩]) F J := by
      refine ⟨F', none, ⟨hF', fj⟩, k3.tabs hF2.ob hF2.bg hF2.hl (f.t.ext s12), fun b xs h o => k3 _ _ (s12 _ _ h) (ne_of (s12 _ _ h) hF2.ob (by intro z; cases z)) o.1.ab o.1.ah, fun b o u h => k3 _ _ (s12 _ _ h) (ne_of (s12 _ _ h) hF2.ob (by intro z; cases z)) (ne_of (s12 _ _ h) hF2.bg (by intro z; cases z)) (ne_of (s12 _ _ h) hF2.hl (by intro z; cases z)), fun b u h o => ⟨fo b u (s12 _ _ h) o.1, fun _ _ z => nomatch z⟩⟩
    refine R _ p (st.then (same_upd np)) ?_ ?_
    · refine .of ?_
      cases eH : H p with
      | none => rfl
      | some u =>
        exfalso
        have hp2 := s12 _ _ eH
        by_cases z1 : p = a
        · rw [z1, hF'.ob] at np; cases np
        · by_cases z2 : p = F.ab
          · rw [z2, ← ab, hF'.bg] at np; cases np
          · by_cases z3 : p = F.ah
            · rw [z3, ← ah, hF'.hl] at np; cases np
            · rw [k3 _ _ hp2 z1 z2 z3] at np; cases np
    · rw [upd_same, List.length_map, List.length_map, List.length_append]
      rfl
end
end Sw
set_option maxHeartbeats 4000000
namespace Sw
open PySem PySem.Spec PyProof.Rows L2 LamX
open Vbreac (Pt Frac Wind)
section
variable {P : Program} {w : World} {K : PySem.W.Frag} {mg : Str → Option Value} {base : Heap}
/-! ### least, way, reach -/
theorem task_cases (v : Wind) (x y t : Int) : ((Vbreac.farOk x && (Vbreac.farOk y && Vbreac.timeOk t)) = false ∧ taskV v x y t = .int (-1)) ∨ ((Vbreac.farOk x && (Vbreac.farOk y && Vbreac.timeOk t)) = true ∧ v.isEmpty = true ∧ taskV v x y t = .int (-4)) ∨
    ((Vbreac.farOk x && (Vbreac.farOk y && Vbreac.timeOk t)) = true ∧ v.isEmpty = false ∧ taskV v x y t = .non) := by
  have e : (Vbreac.farOk x && (Vbreac.farOk y && Vbreac.timeOk t)) = (nearOk 1000000 x y && Vbreac.timeOk t) := by
    rw [← Bool.and_assoc]
    rfl
  rw [e]
  unfold taskV
  cases c : (nearOk 1000000 x y && Vbreac.timeOk t) with
  | false => exact .inl ⟨rfl, rfl⟩
  | true =>
    cases c2 : v.isEmpty with
    | true => exact .inr (.inl ⟨rfl, rfl, rfl⟩)
    | false => exact .inr (.inr ⟨rfl, rfl, rfl⟩)
theorem far_in {x y t : Int} (h : (Vbreac.farOk x && (Vbreac.farOk y && Vbreac.timeOk t)) = true) : Bd.Within 1000000 ⟨x, y⟩ ∧ 0 ≤ t ∧ t ≤ 1000000 := by
  unfold Vbreac.farOk Vbreac.timeOk Vbreac.within Vbreac.FAR at h
  rw [Bool.and_eq_true, Bool.and_eq_true, decide_eq_true_eq, decide_eq_true_eq, decide_eq_true_eq] at h
  simp only [Bd.Within]
  omega
theorem ne_nil {v : Wind} (h : v.isEmpty = false) : v ≠ [] := fun z => by rw [z] at h; cases h
theorem on_wind (v : Wind) (a : Vbreac.Ans) : Vbreac.onWind v a = (v, if v.isEmpty = true then [-4] else a) := by
  unfold Vbreac.onWind
  split <;> rfl
def spRT (K : PySem.W.Frag) (C : Addr) (Tb : List (Addr × Str)) (c : Int → Int → Int → Vbreac.Call) : Sp := fun vs H Q _ => ∃ (a : Addr) (v : Wind) (F : Fc) (J : Option (Addr × Fc)) (x y t : Int), vs = [.ref a, .int x, .int y, .int t] ∧ FcS K C Tb H a v F J ∧ RepQ K C Tb H a F J (Vbreac.step v (c x y t)) Q
theorem okRLeast (T : Tx K mg) {Tb : List (Addr × Str)} {k : Nat} : FnOk P w K mg base CX0 (k + 7) T.reply_least.f T.reply_least.fd ["forecast", "x", "y", "t"] (spRT K T.CForecast Tb .least) := by
  have GK : FnOk P w K mg base CX0 (k + 6) T.task_refusal.f T.task_refusal.fd ["forecast", "x", "y", "t"] (spTask K T.CForecast) := okTask T
  have GL : FnOk P w K mg base CX0 (k + 6) T.least_time.f T.least_time.fd ["forecast", "x", "y", "start"] (spLeast K T.CForecast T.CArrival) := okLeast T
  have GH : FnOk P w K mg base CX0 (k + 6) T.Arrival_happens.f T.Arrival_happens.fd ["self"] (spHapp K T.CArrival) := okHapp T
  have GT : FnOk P w K mg base CX0 (k + 6) T.Arrival_time.f T.Arrival_time.fd ["self"] (spTime K T.CArrival) := okTime T
  have GR : FnOk P w K mg base CX0 (k + 6) T.ratio_reply.f T.ratio_reply.fd ["ratio"] spRatio := okRatio T
  refine T.reply_least.fn.ok sc_reply_least (fun vs H Q E h => ?_) (fun cdv A outer s H vs Q E hr h => ?_)
  · obtain ⟨a, v, F, J, x, y, t, rfl, _⟩ := h
    rfl
  · obtain ⟨a, v, F, J, x, y, t, rfl, f, R⟩ := h
    refine ⟨_, pss_cons (ps_set (i := 4) sc_reply_least.nd rfl (.inl rfl) (pe_call GK hr rfl T.task_refusal.g T.task_refusal.fn.kp T.task_refusal.b .nil pass0 (pa_cons (pv 0) (pa_cons (pv 1) (pa_cons (pv 2) (pa_cons (pv 3) pa_nil))))))
      (pss_cons (ps_if (pt_cmpR op_notN (pv 4) pe_non (nomark _)) (pss_one (ps_ret (pe_lst (pa_cons (pv 4) pa_nil)))) pss_nil)
      (pss_cons (ps_set (i := 5) sc_reply_least.nd rfl (.inl rfl) (pe_call GL hr rfl T.least_time.g T.least_time.fn.kp T.least_time.b .nil pass0 (pa_cons (pv 0) (pa_cons (pv 1) (pa_cons (pv 2) (pa_cons (pe_tup (pa_cons (pv 3) (pa_cons pe_int pa_nil))) pa_nil))))))
      (pss_cons (ps_if (pt_not (pt_val (pe_meth0 (pv 5) T.cArrival T.Arrival_happens.m GH hr T.Arrival_happens.b .nil pass0)))
        (pss_one (ps_ret (pe_op op_cat (pe_lst (pa_cons pe_int pa_nil)) (pe_callTy call_list_of (by rfl) T.nb.list_ (by decide +kernel) (pa_cons (pe_fld (pv 5) rfl) pa_nil))))) pss_nil)
      (pss_one (ps_ret (pe_op op_cat (pe_op op_cat (pe_lst (pa_cons pe_int (pa_cons (pe_fld (pv 5) rfl) pa_nil))) (pe_callTy call_list_of (by rfl) T.nb.list_ (by decide +kernel) (pa_cons (pe_fld (pv 5) rfl) pa_nil)))
        (pe_call GR hr rfl T.ratio_reply.g T.ratio_reply.fn.kp T.ratio_reply.b .nil pass0 (pa_cons (pe_meth0 (pv 5) T.cArrival T.Arrival_time.m GT hr T.Arrival_time.b .nil pass0) pa_nil)))))))), ?_⟩
    have hF := f.j.1
    have R : RepQ K T.CForecast Tb H a F J (if (Vbreac.farOk x && (Vbreac.farOk y && Vbreac.timeOk t)) = false then (v, [-1]) else Vbreac.onWind v (Vbreac.answered (Vbreac.least v (Vbreac.whole t) ⟨x, y⟩))) Q := R
    rw [on_wind] at R
    refine ⟨_, rfl, _, rfl, _, rfl, _, rfl, a, v, F, x, y, t, rfl, hF, ?_⟩
    refine ⟨_, rfl, rfl, _, rfl, ?_⟩
    rcases task_cases v x y t with ⟨c, ev⟩ | ⟨c, c2, ev⟩ | ⟨c, c2, ev⟩
    · rw [ev]
      rw [if_pos c] at R
      exact ite2 (fun _ => ⟨_, rfl, (by show 1 ≤ sizeLine; decide), fun q nq => rep_new R f (Same.refl _) nq⟩) (fun e => absurd rfl e)
    · rw [ev]
      rw [if_neg (by rw [c]; decide), if_pos c2] at R
      exact ite2 (fun _ => ⟨_, rfl, (by show 1 ≤ sizeLine; decide), fun q nq => rep_new R f (Same.refl _) nq⟩) (fun e => absurd rfl e)
    rw [ev]
    rw [if_neg (by rw [c]; decide), if_neg (by rw [c2]; decide)] at R
    refine ite2 (fun e => absurd e (by decide)) (fun _ => ?_)
    obtain ⟨wd, ht⟩ := far_in c
    have hv := ne_nil c2
    have hd2 : Bd.Within 2000000 ⟨x, y⟩ := by
      simp only [Bd.Within] at *
      omega
    refine ⟨_, rfl, _, rfl, _, rfl, _, rfl, (by show 2 ≤ sizeLine; decide), fun st nst => ?_⟩
    have s1 := same_upd (o := .tup [.int t, .int 1]) nst
    refine ⟨a, v, F, ⟨x, y⟩, st, t, 1, 24, rfl, hF.same s1, hv, f.w, SqT.of upd_same, by decide, hd2, fun H3 xa ar fn k3 nxa hF3 hA harr fo => ?_⟩
    have hf := Sz.whole_ok ht
    have hS := sized_of f.w hf hd2 harr
    have hbt := (Sz.lim_of hf hS).bits (by omega) (k := 2000) (by decide)
    have go := Go.after s1 (Go.of1 (f.j.same s1) k3 hF3 (Alike.refl F).fnd fo)
    have stp := Stp.go f.t go
    have i3 := go.keptI
    have hA' := hA
    obtain ⟨dxa, sa, ta, pa, hxa, _, _, hpa⟩ := hA'
    refine ⟨_, rfl, xa, dxa, _, rfl, hxa, ar_no (by decide +kernel) (by decide +kernel) (by decide +kernel) (by decide +kernel) _ _ _ _, xa, ar, 1, rfl, hA, by decide, _, rfl, ite2 (fun e => ?_) (fun e => ?_)⟩
    · have e : ¬ 0 < ar.lower := by simpa using e
      rw [Sz.least_no f.w.up hv hf.rep harr hS.l0 e] at R
      refine ⟨(by show 1 ≤ sizeLine; decide), fun l nl => ?_⟩
      have t1 := same_upd (o := .lst [.int 0]) nl
      refine ⟨_, rfl, xa, T.CArrival, dxa, _, _, rfl, t1 _ _ hxa, T.cArrival, T.nArrival_proof, ar_proof _ _ _ _, pa, _, rfl, .inr (same_pt t1 hpa), fun m nm => ?_⟩
      have t2 := same_upd (o := .lst [.int ar.proof.x, .int ar.proof.y]) nm
      refine ⟨l, m, _, _, rfl, rfl, t2 _ _ upd_same, upd_same, (by show 1 + 2 ≤ sizeLine; decide), fun q nq => ?_⟩
      exact R _ q (stp.then (t1.trans (t2.trans (same_upd nq)))) (.kept (i3.trans (.of (t1.trans t2))) nq) upd_same
    · have e : 0 < ar.lower := by simpa using e
      rw [Sz.least_yes f.w.up hv hf.rep harr e] at R
      have step : Sz.FOk 1 (Lt.timeOf 1 ar) := Sz.step_ok hf hS e
      have bits := step.bits (by omega) (k := 1900) (by decide)
      refine ⟨_, rfl, xa, T.CArrival, dxa, _, _, rfl, hxa, T.cArrival, T.nArrival_number, ar_number _ _ _ _, (by show 2 ≤ sizeLine; decide), fun l nl => ?_⟩
      have t1 := same_upd (o := .lst [.int 1, .int (ar.number : Nat)]) nl
      refine ⟨_, rfl, xa, T.CArrival, dxa, _, _, rfl, t1 _ _ hxa, T.cArrival, T.nArrival_proof, ar_proof _ _ _ _, pa, _, rfl, .inr (same_pt t1 hpa), fun m nm => ?_⟩
      have t2 := same_upd (o := .lst [.int ar.proof.x, .int ar.proof.y]) nm
      refine ⟨l, m, _, _, rfl, rfl, t2 _ _ upd_same, upd_same, (by show 2 + 2 ≤ sizeLine; decide), fun g ng => ?_⟩
      have t3 := same_upd (o := .lst ([.int 1, .int (ar.number : Nat)] ++ [.int ar.proof.x, .int ar.proof.y])) ng
      have tA := t1.trans (t2.trans t3)
      have hA2 : ArrA K T.CArrival _ xa ar 1 := ⟨⟨dxa, sa, ta, pa, tA _ _ hxa, tA.sqT (by assumption), tA.sqT (by assumption), same_pt tA hpa⟩⟩
      refine ⟨_, rfl, xa, dxa, _, rfl, tA _ _ hxa, ar_no (by decide +kernel) (by decide +kernel) (by decide +kernel) (by decide +kernel) _ _ _ _, xa, ar, 1, rfl, hA2, by decide, e, hbt.1, hbt.2.1, hbt.2.2.1, hbt.2.2.2, fun u nu => ?_⟩
      have t4 := same_upd (o := fracV (Lt.timeOf 1 ar)) nu
      refine ⟨u, Lt.timeOf 1 ar, rfl, upd_same, bits.1, bits.2, fun H5 z t5 nz hz lz => ?_⟩
      have t45 := t4.trans t5
      refine ⟨g, z, _, _, rfl, rfl, t45 _ _ upd_same, hz, ?_, fun q nq => ?_⟩
      · rw [List.length_map, sizeLine_eq]
        show 4 + _ ≤ _
        omega
      refine R _ q (stp.then ((tA.trans t45).trans (same_upd nq))) (.kept (i3.trans (.of (tA.trans t45))) nq) ?_
      rw [upd_same]
      show _ = some (HO.lst (List.map V.int ([1, ((ar.number : Nat) : Int), ar.proof.x, ar.proof.y] ++ Vbreac.text (Lt.timeOf 1 ar))))
      rw [List.map_append]
      rfl
def spanOk' (x y t u : Int) : Bool := Vbreac.farOk x && (Vbreac.farOk y && (Vbreac.timeOk t && (Vbreac.timeOk u && decide (t ≤ u))))
def spRR (K : PySem.W.Frag) (C : Addr) (Tb : List (Addr × Str)) : Sp := fun vs H Q _ => ∃ (a : Addr) (v : Wind) (F : Fc) (J : Option (Addr × Fc)) (x y t u : Int), vs = [.ref a, .int x, .int y, .int t, .int u] ∧ FcS K C Tb H a v F J ∧ RepQ K C Tb H a F J (Vbreac.step v (.reach x y t u)) Q
theorem span_in {t u : Int} (h : spanOk t u = true) : (0 ≤ t ∧ t ≤ 1000000) ∧ (0 ≤ u ∧ u ≤ 1000000) ∧ t ≤ u := by
  unfold spanOk Vbreac.timeOk Vbreac.within Vbreac.FAR at h
  rw [Bool.and_eq_true, Bool.and_eq_true, decide_eq_true_eq, decide_eq_true_eq, decide_eq_true_eq] at h
  omega
theorem by_reach {v : Wind} (W : WOk 24 v) (hv : v ≠ []) {t u : Int} (ht : 0 ≤ t ∧ t ≤ 1000000) {d : Pt} {a : Lt.Arr} (hd : Bd.Within 2000000 d) (h : Lt.leastM (v.map (·.from_)) (Vbreac.sails v) d t 1 = some a) :
    (match Vbreac.least v (Vbreac.whole t) d with | .at_ w _ _ => [if Vbreac.atMost w (Vbreac.whole u) = true then (1 : Int) else 0] | .never _ => [0]) = [if byOf u 1 a = true then 1 else 0] := by
  have hf := Sz.whole_ok ht
  have hS := sized_of W hf hd h
  unfold byOf
  by_cases e : 0 < a.lower
  · rw [Sz.least_yes W.up hv hf.rep h e, decide_eq_true e, Bool.true_and]
    show [if (!decide (u * ((Lt.timeOf 1 a).den : Int) < (Lt.timeOf 1 a).num * 1)) = true then (1 : Int) else 0] = _
    rw [← decide_not]
    rw [show decide (¬ u * ((Lt.timeOf 1 a).den : Int) < (Lt.timeOf 1 a).num * 1) = decide ((Lt.timeOf 1 a).num ≤ u * ((Lt.timeOf 1 a).den : Int)) from decide_eq_decide.mpr (by omega)]
  · rw [Sz.least_no W.up hv hf.rep h hS.l0 e, decide_eq_false e, Bool.false_and]
    rfl
theorem okRReach (T : Tx K mg) {Tb : List (Addr × Str)} {k : Nat} : FnOk P w K mg base CX0 (k + 7) T.reply_reach.f T.reply_reach.fd ["forecast", "x", "y", "t", "u"] (spRR K T.CForecast Tb) := by
  have GP : FnOk P w K mg base CX0 (k + 6) T.is_span.f T.is_span.fd ["t", "u"] (spB2 spanOk) := okIsSpan T
  have GK : FnOk P w K mg base CX0 (k + 6) T.task_refusal.f T.task_refusal.fd ["forecast", "x", "y", "t"] (spTask K T.CForecast) := okTask T
  have GL : FnOk P w K mg base CX0 (k + 6) T.least_time.f T.least_time.fd ["forecast", "x", "y", "start"] (spLeast K T.CForecast T.CArrival) := okLeast T
  have GB : FnOk P w K mg base CX0 (k + 6) T.Arrival_happens_by.f T.Arrival_happens_by.fd ["self", "u"] (spBy K T.CArrival) := okBy T
  refine T.reply_reach.fn.ok sc_reply_reach (fun vs H Q E h => ?_) (fun cdv A outer s H vs Q E hr h => ?_)
  · obtain ⟨a, v, F, J, x, y, t, u, rfl, _⟩ := h
    rfl
  · obtain ⟨a, v, F, J, x, y, t, u, rfl, f, R⟩ := h
    refine ⟨_, pss_cons (ps_if (pt_not (pt_val (pe_call GP hr rfl T.is_span.g T.is_span.fn.kp T.is_span.b .nil pass0 (pa_cons (pv 3) (pa_cons (pv 4) pa_nil))))) (pss_one (ps_ret (pe_lst (pa_cons (pe_glob rfl T.OUT_OF_RANGE.g T.OUT_OF_RANGE.rel) pa_nil)))) pss_nil)
      (pss_cons (ps_set (i := 5) sc_reply_reach.nd rfl (.inl rfl) (pe_call GK hr rfl T.task_refusal.g T.task_refusal.fn.kp T.task_refusal.b .nil pass0 (pa_cons (pv 0) (pa_cons (pv 1) (pa_cons (pv 2) (pa_cons (pv 3) pa_nil))))))
      (pss_cons (ps_if (pt_cmpR op_notN (pv 5) pe_non (nomark _)) (pss_one (ps_ret (pe_lst (pa_cons (pv 5) pa_nil)))) pss_nil)
      (pss_one (ps_ret (pe_lst (pa_cons (pe_ifExp (pt_val (pe_meth (pe_call GL hr rfl T.least_time.g T.least_time.fn.kp T.least_time.b .nil pass0 (pa_cons (pv 0) (pa_cons (pv 1) (pa_cons (pv 2) (pa_cons (pe_tup (pa_cons (pv 3) (pa_cons pe_int pa_nil))) pa_nil))))) T.cArrival T.Arrival_happens_by.m GB hr T.Arrival_happens_by.b .nil pass0 (pa_cons (pv 4) pa_nil))) pe_int pe_int) pa_nil)))))), ?_⟩
    have hF := f.j.1
    have R : RepQ K T.CForecast Tb H a F J (if (Vbreac.farOk x && (Vbreac.farOk y && spanOk t u)) = false then (v, [-1]) else Vbreac.onWind v (match Vbreac.least v (Vbreac.whole t) ⟨x, y⟩ with | .at_ w _ _ => [if Vbreac.atMost w (Vbreac.whole u) = true then (1 : Int) else 0] | .never _ => [0])) Q := R
    rw [on_wind] at R
    refine ⟨_, rfl, _, rfl, t, u, rfl, _, rfl, ite2 (fun e0 => ?_) (fun e0 => ?_)⟩
    · have e0 : spanOk t u = false := by simpa using e0
      rw [e0, Bool.and_false, Bool.and_false, if_pos rfl] at R
      exact ⟨(by show 1 ≤ sizeLine; decide), fun q nq => rep_new R f (Same.refl _) nq⟩
    have e0 : spanOk t u = true := by simpa using e0
    obtain ⟨ht, hu, htu⟩ := span_in e0
    have et : Vbreac.timeOk t = true := by
      unfold spanOk at e0
      rw [Bool.and_eq_true] at e0
      exact e0.1
    have ec : (Vbreac.farOk x && (Vbreac.farOk y && spanOk t u)) = (Vbreac.farOk x && (Vbreac.farOk y && Vbreac.timeOk t)) := by rw [e0, et]
    rw [ec] at R
    refine ⟨_, rfl, _, rfl, _, rfl, _, rfl, a, v, F, x, y, t, rfl, hF, ?_⟩
    refine ⟨_, rfl, rfl, _, rfl, ?_⟩
    rcases task_cases v x y t with ⟨c, ev⟩ | ⟨c, c2, ev⟩ | ⟨c, c2, ev⟩
    · rw [ev]
      rw [if_pos c] at R
      exact ite2 (fun _ => ⟨_, rfl, (by show 1 ≤ sizeLine; decide), fun q nq => rep_new R f (Same.refl _) nq⟩) (fun e => absurd rfl e)
    · rw [ev]
      rw [if_neg (by rw [c]; decide), if_pos c2] at R
      exact ite2 (fun _ => ⟨_, rfl, (by show 1 ≤ sizeLine; decide), fun q nq => rep_new R f (Same.refl _) nq⟩) (fun e => absurd rfl e)
    rw [ev]
    rw [if_neg (by rw [c]; decide), if_neg (by rw [c2]; decide)] at R
    refine ite2 (fun e => absurd e (by decide)) (fun _ => ?_)
    obtain ⟨wd, _⟩ := far_in c
    have hv := ne_nil c2
    have hd2 : Bd.Within 2000000 ⟨x, y⟩ := by
      simp only [Bd.Within] at *
      omega
    refine ⟨_, rfl, _, rfl, _, rfl, _, rfl, (by show 2 ≤ sizeLine; decide), fun st nst => ?_⟩
    have s1 := same_upd (o := .tup [.int t, .int 1]) nst
    refine ⟨a, v, F, ⟨x, y⟩, st, t, 1, 24, rfl, hF.same s1, hv, f.w, SqT.of upd_same, by decide, hd2, fun H3 xa ar fn k3 nxa hF3 hA harr fo => ?_⟩
    have hf := Sz.whole_ok ht
    have hS := sized_of f.w hf hd2 harr
    have hbt := (Sz.lim_of hf hS).bits (by omega) (k := 2000) (by decide)
    have go := Go.after s1 (Go.of1 (f.j.same s1) k3 hF3 (Alike.refl F).fnd fo)
    have stp := Stp.go f.t go
    have i3 := go.keptI
    rw [by_reach f.w hv ht hd2 harr] at R
    have hA' := hA
    obtain ⟨dxa, sa, ta, pa, hxa, _, _, hpa⟩ := hA'
    refine ⟨xa, dxa, _, rfl, hxa, ar_no (by decide +kernel) (by decide +kernel) (by decide +kernel) (by decide +kernel) _ _ _ _, _, rfl, xa, ar, 1, u, rfl, hA, by decide, hbt.1, hbt.2.1, hbt.2.2.1, hbt.2.2.2, ?_, fun H4 s4 => ?_⟩
    · simp only [Small]
      omega
    refine ⟨_, rfl, ite2 (fun e => ?_) (fun e => ?_)⟩
    · rw [if_pos e] at R
      exact ⟨(by show 1 ≤ sizeLine; decide), fun q nq => R _ q (stp.then (s4.trans (same_upd nq))) (.kept (i3.trans (.of s4)) nq) upd_same⟩
    · rw [if_neg e] at R
      exact ⟨(by show 1 ≤ sizeLine; decide), fun q nq => R _ q (stp.then (s4.trans (same_upd nq))) (.kept (i3.trans (.of s4)) nq) upd_same⟩
end
end Sw
set_option maxHeartbeats 4000000
namespace Sw
open PySem PySem.Spec PyProof.Rows L2 LamX
open Vbreac (Pt Frac Wind)
section
variable {P : Program} {w : World} {K : PySem.W.Frag} {mg : Str → Option Value} {base : Heap}
/-! ### way -/
def pieceN (m : Lt.PieceM) : List Int := [(m.1 : Int), m.2.1.x, m.2.1.y] ++ Vbreac.text m.2.2
theorem way_flat (l : List Vbreac.Piece) : (l.flatMap fun p => [(p.slice : Int), p.v.x, p.v.y] ++ Vbreac.text p.long) = (l.map Lt.toM).flatMap pieceN := by
  rw [List.flatMap_map]
  rfl
theorem way_step (v : Wind) (x y t : Int) : Vbreac.step v (.way x y t) = (v, if (Vbreac.farOk x && (Vbreac.farOk y && Vbreac.timeOk t)) = false then [-1] else if v.isEmpty = true then [-4] else match Vbreac.least v (Vbreac.whole t) ⟨x, y⟩ with
    | .never _ => [-6]
    | .at_ _ _ _ => ((Vbreac.way v (Vbreac.whole t) ⟨x, y⟩).length : Int) :: ((Vbreac.way v (Vbreac.whole t) ⟨x, y⟩).map Lt.toM).flatMap pieceN) := by
  unfold Vbreac.step
  simp only
  split
  · rfl
  · split
    · rfl
    · rw [← way_flat]
      cases Vbreac.least v (Vbreac.whole t) ⟨x, y⟩ with
      | never _ => rfl
      | at_ _ _ _ => rfl
theorem pc_get {ss : Pcs} {i : Nat} {x : V} (h : (pcV ss)[i]? = some x) : ∃ s, ss[i]? = some s ∧ x = .ref s.1 := by
  unfold pcV at h
  rw [List.getElem?_map] at h
  cases e : ss[i]? with
  | none => rw [e] at h; cases h
  | some r => rw [e] at h; exact ⟨r, rfl, (Option.some.inj h).symm⟩
theorem PcsA.same {H H' : Hp} {ps : Pcs} (s : Same H H') (h : PcsA K H ps) : PcsA K H' ps := fun p hp =>
  ⟨s _ _ (h p hp).1, same_pt s (h p hp).2.1, s _ _ (h p hp).2.2.1, (h p hp).2.2.2⟩
theorem okRWay (T : Tx K mg) {tb : Addr} (N : Bs P w K mg base T tb) {k : Nat} : FnOk P w K mg base CX0 (k + 7) T.reply_way.f T.reply_way.fd ["forecast", "x", "y", "t"] (spRT K T.CForecast (lamTabs tb) .way) := by
  have GK : FnOk P w K mg base CX0 (k + 6) T.task_refusal.f T.task_refusal.fd ["forecast", "x", "y", "t"] (spTask K T.CForecast) := okTask T
  have GL : FnOk P w K mg base CX0 (k + 6) T.least_time.f T.least_time.fd ["forecast", "x", "y", "start"] (spLeast K T.CForecast T.CArrival) := okLeast T
  have GH : FnOk P w K mg base CX0 (k + 6) T.Arrival_happens.f T.Arrival_happens.fd ["self"] (spHapp K T.CArrival) := okHapp T
  have GW : FnOk P w K mg base CX0 (k + 6) T.way_pieces.f T.way_pieces.fd ["forecast", "x", "y", "t", "arrival"] (spWayP K T.CForecast T.CArrival (lamTabs tb)) := okWayP T N
  have GR : FnOk P w K mg base CX0 (k + 6) T.ratio_reply.f T.ratio_reply.fd ["ratio"] spRatio := okRatio T
  refine T.reply_way.fn.ok sc_reply_way (fun vs H Q E h => ?_) (fun cdv A outer s H vs Q E hr h => ?_)
  · obtain ⟨a, v, F, J, x, y, t, rfl, _⟩ := h
    rfl
  · obtain ⟨a, v, F, J, x, y, t, rfl, f, R⟩ := h
    refine ⟨_, pss_cons (ps_set (i := 4) sc_reply_way.nd rfl (.inl rfl) (pe_call GK hr rfl T.task_refusal.g T.task_refusal.fn.kp T.task_refusal.b .nil pass0 (pa_cons (pv 0) (pa_cons (pv 1) (pa_cons (pv 2) (pa_cons (pv 3) pa_nil))))))
      (pss_cons (ps_if (pt_cmpR op_notN (pv 4) pe_non (nomark _)) (pss_one (ps_ret (pe_lst (pa_cons (pv 4) pa_nil)))) pss_nil)
      (pss_cons (ps_set (i := 5) sc_reply_way.nd rfl (.inl rfl) (pe_call GL hr rfl T.least_time.g T.least_time.fn.kp T.least_time.b .nil pass0 (pa_cons (pv 0) (pa_cons (pv 1) (pa_cons (pv 2) (pa_cons (pe_tup (pa_cons (pv 3) (pa_cons pe_int pa_nil))) pa_nil))))))
      (pss_cons (ps_if (pt_not (pt_val (pe_meth0 (pv 5) T.cArrival T.Arrival_happens.m GH hr T.Arrival_happens.b .nil pass0))) (pss_one (ps_ret (pe_lst (pa_cons (pe_glob rfl T.NEVER_ARRIVES.g T.NEVER_ARRIVES.rel) pa_nil)))) pss_nil)
      (pss_cons (ps_set (i := 6) sc_reply_way.nd rfl (.inl rfl) (pe_call GW hr rfl T.way_pieces.g T.way_pieces.fn.kp T.way_pieces.b .nil pass0 (pa_cons (pv 0) (pa_cons (pv 1) (pa_cons (pv 2) (pa_cons (pv 3) (pa_cons (pv 5) pa_nil)))))))
      (pss_cons (ps_set (i := 7) sc_reply_way.nd rfl (.inl rfl) (pe_lst (pa_cons (pe_callB call_len_seq (by rfl) T.nb.len_ PySem.boot_len (pa_cons (pv 6) pa_nil)) pa_nil)))
      (pss_cons (ps_for PassesOwn.never rfl (pi_list (pv 6))
          (pg_tup rfl (pgs_cons (pg_name (i := 8) sc_reply_way.nd rfl (.inl rfl)) (pgs_cons (pg_name (i := 9) sc_reply_way.nd rfl (.inl rfl)) (pgs_cons (pg_name (i := 10) sc_reply_way.nd rfl (.inl rfl)) pgs_nil))))
        (pss_cons (ps_expr (pe_bm PySem.F.plainAttrs_list PySem.F.slot_list_append PySem.F.type_list_append mt_append (pv 7) (pa_cons (pv 8) pa_nil)))
        (pss_cons (ps_expr (pe_bm PySem.F.plainAttrs_list PySem.F.slot_list_extend PySem.F.type_list_extend mt_extendT (pv 7) (pa_cons (pv 9) pa_nil)))
        (pss_one (ps_expr (pe_bm PySem.F.plainAttrs_list PySem.F.slot_list_extend PySem.F.type_list_extend mt_extend (pv 7) (pa_cons (pe_call GR hr rfl T.ratio_reply.g T.ratio_reply.fn.kp T.ratio_reply.b .nil pass0 (pa_cons (pv 10) pa_nil)) pa_nil)))))))
      (pss_one (ps_ret (pv 7))))))))), ?_⟩
    have hF := f.j.1
    rw [way_step] at R
    refine ⟨_, rfl, _, rfl, _, rfl, _, rfl, a, v, F, x, y, t, rfl, hF, ?_⟩
    refine ⟨_, rfl, rfl, _, rfl, ?_⟩
    rcases task_cases v x y t with ⟨c, ev⟩ | ⟨c, c2, ev⟩ | ⟨c, c2, ev⟩
    · rw [ev]
      rw [if_pos c] at R
      exact ite2 (fun _ => ⟨_, rfl, (by show 1 ≤ sizeLine; decide), fun q nq => rep_new R f (Same.refl _) nq⟩) (fun e => absurd rfl e)
    · rw [ev]
      rw [if_neg (by rw [c]; decide), if_pos c2] at R
      exact ite2 (fun _ => ⟨_, rfl, (by show 1 ≤ sizeLine; decide), fun q nq => rep_new R f (Same.refl _) nq⟩) (fun e => absurd rfl e)
    rw [ev]
    rw [if_neg (by rw [c]; decide), if_neg (by rw [c2]; decide)] at R
    refine ite2 (fun e => absurd e (by decide)) (fun _ => ?_)
    obtain ⟨wd, ht⟩ := far_in c
    have hv := ne_nil c2
    have hd2 : Bd.Within 2000000 ⟨x, y⟩ := by
      simp only [Bd.Within] at *
      omega
    refine ⟨_, rfl, _, rfl, _, rfl, _, rfl, (by show 2 ≤ sizeLine; decide), fun st nst => ?_⟩
    have s1 := same_upd (o := .tup [.int t, .int 1]) nst
    refine ⟨a, v, F, ⟨x, y⟩, st, t, 1, 24, rfl, hF.same s1, hv, f.w, SqT.of upd_same, by decide, hd2, fun H3 xa ar fn k3 nxa hF3 hA harr fo => ?_⟩
    have hf := Sz.whole_ok ht
    have hS := sized_of f.w hf hd2 harr
    have go := Go.after s1 (Go.of1 (f.j.same s1) k3 hF3 (Alike.refl F).fnd fo)
    have stp := Stp.go f.t go
    have i3 := go.keptI
    have tb3 : Tabs (lamTabs tb) H3 := stp.elim fun _ ⟨_, _, h, _⟩ => h
    have hA' := hA
    obtain ⟨dxa, sa, ta, pa, hxa, _, _, hpa⟩ := hA'
    refine ⟨_, rfl, xa, dxa, _, rfl, hxa, ar_no (by decide +kernel) (by decide +kernel) (by decide +kernel) (by decide +kernel) _ _ _ _, xa, ar, 1, rfl, hA, by decide, _, rfl, ite2 (fun e => ?_) (fun e => ?_)⟩
    · have e : ¬ 0 < ar.lower := by simpa using e
      rw [Sz.least_no f.w.up hv hf.rep harr hS.l0 e] at R
      exact ⟨(by show 1 ≤ sizeLine; decide), fun q nq => R _ q (stp.then (same_upd nq)) (.kept i3 nq) upd_same⟩
    · have e : 0 < ar.lower := by simpa using e
      rw [Sz.least_yes f.w.up hv hf.rep harr e] at R
      have eway := Lt.way_eq (begins := v.map (·.from_)) (hulls := Vbreac.sails v) ⟨rfl, rfl, f.w.up⟩ harr e
      refine ⟨_, rfl, _, rfl, _, rfl, _, rfl, _, rfl, a, v, _, ⟨x, y⟩, t, xa, ar, rfl, hF3, hv, f.w, tb3, hA, harr, e, wd, ht, fun H4 pq ps kp4 hpq hps lps eps => ?_⟩
      rw [← eway] at eps
      have lway : (Vbreac.way v (Vbreac.whole t) ⟨x, y⟩).length = ps.length := by
        have := congrArg List.length eps
        rw [List.length_map, List.length_map] at this
        exact this.symm
      rw [lway, ← eps] at R
      have stp4 := stp.keep kp4
      have i4 := i3.trans (.ofN kp4.ext)
      refine ⟨_, rfl, pq, _, rfl, .inl (SqL.of hpq), (by show 1 ≤ sizeLine; decide), fun o no => ?_⟩
      rw [pcV, List.length_map]
      have s5 := same_upd (o := .lst [.int ((ps.length : Nat) : Int)]) no
      refine ⟨_, rfl, pq, rfl, ⟨_, SqL.of (s5 _ _ hpq)⟩, for_list (K := K) (a := pq) (xs := pcV ps) (fun i σ H' => ∃ (v8 v9 v10 : Option V) (L : List Int), σ = [some (.ref a), some (.int x), some (.int y), some (.int t), some .non, some (.ref xa), some (.ref pq), some (.ref o), v8, v9, v10] ∧ Same H4 H' ∧ H' o = some (.lst (L.map V.int)) ∧ L.length ≤ 1 + 6000 * i ∧ L = ((ps.length : Nat) : Int) :: ((ps.take i).map fun p => toM p.2).flatMap pieceN)
        ⟨none, none, none, _, rfl, s5, upd_same, Nat.le_refl _, rfl⟩ (fun i σ H' _ ⟨_, _, _, _, _, z, _⟩ => SqL.of (z _ _ hpq)) ?_ ?_⟩
      · rintro i z σ H5 hi ⟨v8, v9, v10, L, rfl, sm, ho, lL, eL⟩
        obtain ⟨p, hp, rfl⟩ := pc_get hi
        have hpm := List.mem_of_getElem? hp
        have ip := (List.getElem?_eq_some_iff.mp hp).1
        obtain ⟨p1, p2, p3, p4, p5⟩ := hps.same sm p hpm
        refine ⟨p.1, _, rfl, SqT.of p1, rfl, _, _, rfl, _, _, rfl, _, _, rfl, rfl, ?_⟩
        refine ⟨_, rfl, .inl ⟨rfl, _, SqL.of ho⟩, _, rfl, o, _, _, rfl, rfl, ho, ?_, ?_⟩
        · rw [List.length_map, sizeLine_eq]
          omega
        have e1 : L.map V.int ++ [V.int (p.2.1 : Nat)] = (L ++ [((p.2.1 : Nat) : Int)]).map V.int := by rw [List.map_append]; rfl
        rw [e1]
        have p2' : PtA K (upd H5 o (.lst ((L ++ [((p.2.1 : Nat) : Int)]).map V.int))) p.2.2.1.1 p.2.2.1.2 := sqT_updL ho p2
        refine ⟨_, rfl, .inl ⟨rfl, _, SqL.of upd_same⟩, _, rfl, o, p.2.2.1.1, _, _, rfl, rfl, upd_same, p2', ?_, ?_⟩
        · rw [List.length_map, List.length_append, sizeLine_eq]
          simp only [List.length_cons, List.length_nil]
          omega
        rw [upd_upd]
        have e2 : (L ++ [((p.2.1 : Nat) : Int)]).map V.int ++ [V.int p.2.2.1.2.x, V.int p.2.2.1.2.y] = (L ++ [((p.2.1 : Nat) : Int), p.2.2.1.2.x, p.2.2.1.2.y]).map V.int := by
          rw [List.map_append, List.map_append]
          simp
        rw [e2]
        have p3' : (upd H5 o (.lst ((L ++ [((p.2.1 : Nat) : Int), p.2.2.1.2.x, p.2.2.1.2.y]).map V.int))) p.2.2.2.1 = some (fracV p.2.2.2.2) := by
          rw [upd_ne (ne_of p3 ho (by intro z; cases z))]
          exact p3
        refine ⟨_, rfl, .inl ⟨rfl, _, SqL.of upd_same⟩, _, rfl, p.2.2.2.1, p.2.2.2.2, rfl, p3', p4, p5, fun H6 z s6 nz hz lz => ?_⟩
        have ho6 := s6 _ _ (upd_same (H := H5) (a := o) (o := .lst ((L ++ [((p.2.1 : Nat) : Int), p.2.2.1.2.x, p.2.2.1.2.y]).map V.int)))
        refine ⟨o, z, _, _, rfl, rfl, ho6, hz, ?_, ?_⟩
        · rw [List.length_map, List.length_map, List.length_append, sizeLine_eq]
          simp only [List.length_cons, List.length_nil]
          omega
        refine ⟨_, _, _, L ++ ([((p.2.1 : Nat) : Int), p.2.2.1.2.x, p.2.2.1.2.y] ++ Vbreac.text p.2.2.2.2), rfl, fun b u e => ?_, ?_, ?_, ?_⟩
        · rw [upd_ne (ne_of_none e no)]
          refine s6 _ _ ?_
          rw [upd_ne (ne_of_none e no)]
          exact sm _ _ e
        · rw [upd_same, ← List.map_append, List.append_assoc]
        · rw [List.length_append, List.length_append]
          simp only [List.length_cons, List.length_nil]
          omega
        · rw [eL, take_snoc hp, List.map_append, List.flatMap_append]
          simp [pieceN, toM]
      · rintro σ H5 ⟨v8, v9, v10, L, rfl, sm, ho, lL, eL⟩
        rw [pcV, List.length_map, List.take_length] at eL
        refine ⟨_, rfl, R _ o (stp4.then sm) (.kept i4 no) ?_⟩
        rw [ho, eL]
end
end Sw
set_option maxHeartbeats 4000000
namespace Sw
open PySem PySem.Spec PyProof.Rows L2 LamX
open Vbreac (Pt Frac Wind)
section
variable {P : Program} {w : World} {K : PySem.W.Frag} {mg : Str → Option Value} {base : Heap}
/-! ### set, all -/
def spR2 (K : PySem.W.Frag) (C : Addr) (Tb : List (Addr × Str)) (c : Int → Int → Vbreac.Call) : Sp := fun vs H Q _ => ∃ (a : Addr) (v : Wind) (F : Fc) (J : Option (Addr × Fc)) (t u : Int), vs = [.ref a, .int t, .int u] ∧ FcS K C Tb H a v F J ∧ RepQ K C Tb H a F J (Vbreac.step v (c t u)) Q
theorem set_len {begins : List Int} {hulls : List (List Pt)} {t u : Int} {ks : Row} (h : pts ks = Mk.setM begins hulls t u) : ks.length = (Mk.setM begins hulls t u).length := by rw [← h, pts_len]
theorem okRSet (T : Tx K mg) {Tb : List (Addr × Str)} {k : Nat} : FnOk P w K mg base CX0 (k + 5) T.reply_set.f T.reply_set.fd ["forecast", "t", "u"] (spR2 K T.CForecast Tb .set) := by
  have GP : FnOk P w K mg base CX0 (k + 4) T.is_span.f T.is_span.fd ["t", "u"] (spB2 spanOk) := okIsSpan T
  have GE : FnOk P w K mg base CX0 (k + 4) T.Forecast_is_empty.f T.Forecast_is_empty.fd ["self"] (spEmpty K T.CForecast) := okEmpty T
  have GS : FnOk P w K mg base CX0 (k + 4) T.set_corners.f T.set_corners.fd ["forecast", "t", "u"] (spSet K T.CForecast) := okSet T
  have GC : FnOk P w K mg base CX0 (k + 4) T.corners_reply.f T.corners_reply.fd ["corners"] (spCorn K) := okCorn T
  refine T.reply_set.fn.ok sc_reply_set (fun vs H Q E h => ?_) (fun cdv A outer s H vs Q E hr h => ?_)
  · obtain ⟨a, v, F, J, t, u, rfl, _⟩ := h
    rfl
  · obtain ⟨a, v, F, J, t, u, rfl, f, R⟩ := h
    refine ⟨_, pss_cons (ps_if (pt_not (pt_val (pe_call GP hr rfl T.is_span.g T.is_span.fn.kp T.is_span.b .nil pass0 (pa_cons (pv 1) (pa_cons (pv 2) pa_nil))))) (pss_one (ps_ret (pe_lst (pa_cons (pe_glob rfl T.OUT_OF_RANGE.g T.OUT_OF_RANGE.rel) pa_nil)))) pss_nil)
      (pss_cons (ps_if (pt_val (pe_meth0 (pv 0) T.cForecast T.Forecast_is_empty.m GE hr T.Forecast_is_empty.b .nil pass0)) (pss_one (ps_ret (pe_lst (pa_cons (pe_glob rfl T.NO_SLICES.g T.NO_SLICES.rel) pa_nil)))) pss_nil)
      (pss_one (ps_ret (pe_call GC hr rfl T.corners_reply.g T.corners_reply.fn.kp T.corners_reply.b .nil pass0 (pa_cons (pe_call GS hr rfl T.set_corners.g T.set_corners.fn.kp T.set_corners.b .nil pass0 (pa_cons (pv 0) (pa_cons (pv 1) (pa_cons (pv 2) pa_nil)))) pa_nil))))), ?_⟩
    have hF := f.j.1
    have R : RepQ K T.CForecast Tb H a F J (if spanOk t u = false then (v, [-1]) else Vbreac.onWind v (Vbreac.told (Vbreac.reachable v t u))) Q := R
    rw [on_wind] at R
    refine ⟨_, rfl, _, rfl, t, u, rfl, _, rfl, ite2 (fun e0 => ?_) (fun e0 => ?_)⟩
    · have e0 : spanOk t u = false := by simpa using e0
      rw [if_pos e0] at R
      exact ⟨(by show 1 ≤ sizeLine; decide), fun q nq => rep_new R f (Same.refl _) nq⟩
    have e0 : spanOk t u = true := by simpa using e0
    rw [if_neg (by rw [e0]; decide)] at R
    obtain ⟨ht, hu, htu⟩ := span_in e0
    refine ⟨_, rfl, a, F.dx, _, rfl, hF.ob, fc_no (by decide +kernel) (by decide +kernel) (by decide +kernel) (by decide +kernel) (by decide +kernel) _ _ _ _ _, a, v, F, rfl, hF, _, rfl, ite2 (fun e => ?_) (fun e => ?_)⟩
    · rw [if_pos e] at R
      exact ⟨(by show 1 ≤ sizeLine; decide), fun q nq => rep_new R f (Same.refl _) nq⟩
    · have hv : v ≠ [] := ne_nil (by simpa using e)
      rw [if_neg e, ← Mk.reach_eq (begins := v.map (·.from_)) (hulls := Vbreac.sails v) ⟨rfl, rfl, f.w.up⟩ (by simpa using hv)] at R
      refine ⟨_, rfl, _, rfl, _, rfl, a, v, F, t, u, rfl, hF, hv, f.w, ht, hu, fun H1 q ks s1 nq hq hks lks eks => ?_⟩
      rw [← eks] at R
      refine ⟨q, ks, rfl, SqL.of hq, hks, by omega, fun H2 p s2 np hp => ?_⟩
      exact rep_same R f (s1.trans s2) (s1.free np) hp
def spR0 (K : PySem.W.Frag) (C : Addr) (Tb : List (Addr × Str)) (c : Vbreac.Call) : Sp := fun vs H Q _ => ∃ (a : Addr) (v : Wind) (F : Fc) (J : Option (Addr × Fc)), vs = [.ref a] ∧ FcS K C Tb H a v F J ∧ RepQ K C Tb H a F J (Vbreac.step v c) Q
theorem every_at {C : Addr} {H : Hp} {x : Addr} {v : Wind} {G : Fc} (hG : FcA K C H x (Vbreac.everything v) G) : ∃ h, G.hs[0]? = some h ∧ Vbreac.sailOf (Vbreac.everything v) 0 = pts h.2 := by
  have hl : 0 < G.hs.length := by rw [hG.len]; simp [Vbreac.everything]
  refine ⟨_, List.getElem?_eq_getElem hl, ?_⟩
  have e : (Vbreac.sails (Vbreac.everything v))[0]? = some (pts (G.hs[0]).2) := by
    rw [← hG.hp, List.getElem?_map, List.getElem?_eq_getElem hl]
    rfl
  have := Option.some.inj e
  exact this
theorem okRAll (T : Tx K mg) {tb : Addr} (N : Bs P w K mg base T tb) {k : Nat} : FnOk P w K mg base CX0 (k + 8) T.reply_all.f T.reply_all.fd ["forecast"] (spR0 K T.CForecast (lamTabs tb) .all) := by
  have GE : FnOk P w K mg base CX0 (k + 7) T.Forecast_is_empty.f T.Forecast_is_empty.fd ["self"] (spEmpty K T.CForecast) := okEmpty T
  have GO : FnOk P w K mg base CX0 (k + 7) T.Forecast_as_one_slice.f T.Forecast_as_one_slice.fd ["self"] (spOne K T.CForecast) := okOne T N
  have GC : FnOk P w K mg base CX0 (k + 7) T.corners_reply.f T.corners_reply.fd ["corners"] (spCorn K) := okCorn T
  refine T.reply_all.fn.ok sc_reply_all (fun vs H Q E h => ?_) (fun cdv A outer s H vs Q E hr h => ?_)
  · obtain ⟨a, v, F, J, rfl, _⟩ := h
    rfl
  · obtain ⟨a, v, F, J, rfl, f, R⟩ := h
    refine ⟨_, pss_cons (ps_if (pt_val (pe_meth0 (pv 0) T.cForecast T.Forecast_is_empty.m GE hr T.Forecast_is_empty.b .nil pass0)) (pss_one (ps_ret (pe_lst (pa_cons (pe_glob rfl T.NO_SLICES.g T.NO_SLICES.rel) pa_nil)))) pss_nil)
      (pss_one (ps_ret (pe_call GC hr rfl T.corners_reply.g T.corners_reply.fn.kp T.corners_reply.b .nil pass0 (pa_cons (pe_ix ix_list (pe_fld (pe_meth0 (pv 0) T.cForecast T.Forecast_as_one_slice.m GO hr T.Forecast_as_one_slice.b .nil pass0) rfl) pe_int (fun _ _ => rfl)) pa_nil)))), ?_⟩
    have hF := f.j.1
    have R : RepQ K T.CForecast (lamTabs tb) H a F J (Vbreac.onWind v (Vbreac.told (Vbreac.sailOf (Vbreac.everything v) 0))) Q := R
    rw [on_wind] at R
    refine ⟨_, rfl, a, F.dx, _, rfl, hF.ob, fc_no (by decide +kernel) (by decide +kernel) (by decide +kernel) (by decide +kernel) (by decide +kernel) _ _ _ _ _, a, v, F, rfl, hF, _, rfl, ite2 (fun e => ?_) (fun e => ?_)⟩
    · rw [if_pos e] at R
      exact ⟨(by show 1 ≤ sizeLine; decide), fun q nq => rep_new R f (Same.refl _) nq⟩
    · rw [if_neg e] at R
      refine ⟨_, rfl, a, F.dx, _, rfl, hF.ob, fc_no (by decide +kernel) (by decide +kernel) (by decide +kernel) (by decide +kernel) (by decide +kernel) _ _ _ _ _, a, v, F, J, rfl, f.j, f.w, fun H1 x G k1 hF1 nx hG gj fo => ?_⟩
      obtain ⟨h, hh, es⟩ := every_at hG
      rw [es] at R
      have hA := hG.hu h (List.mem_of_getElem? hh)
      have go : Go K T.CForecast H H1 a v F J := ⟨{ F with jn := .ref x }, some (x, G), .of1 k1 hF.ob, fun T' t => k1.tabs hF.ob t, ⟨hF1, rfl, nx, hG, gj⟩, rfl, rfl, rfl, fun z u hz zJ => ⟨⟨zJ.1.ab, zJ.1.ah, zJ.1.hs, zJ.1.fnd⟩, fun y G2 e => by cases e; exact fo z u hz zJ⟩⟩
      refine ⟨x, T.CForecast, G.dx, _, _, rfl, hG.ob, T.cForecast, T.nForecast_hulls, fc_hulls _ _ _ _ _, G.ah, _, _, _, rfl, rfl, SqL.of hG.hl, atI_nat (j := 0) (by unfold hullsV; rw [List.getElem?_map, hh]; rfl), h.1, h.2, rfl, hA.list, fun r hr' => (hA.row r hr').1, Nat.le_trans (Nat.le_of_lt hA.few) (by decide), fun H2 q s2 nq hq => ?_⟩
      exact R _ q (Stp.go f.t (go.then s2)) (.kept go.keptI nq) hq
end
end Sw
set_option maxHeartbeats 4000000
namespace Sw
open PySem PySem.Spec PyProof.Rows L2 LamX
open Vbreac (Pt Frac Wind)
section
variable {P : Program} {w : World} {K : PySem.W.Frag} {mg : Str → Option Value} {base : Heap}
/-! ### course, bound -/
theorem places_of (ns : List Int) : Vbreac.placesOf ns = if placesOk ns = true then Vbreac.pairs ns else none := by
  unfold Vbreac.placesOf placesOk
  cases e : Vbreac.pairs ns with
  | none => rfl
  | some p =>
    show (if (p.all fun q => Vbreac.farOk q.x && Vbreac.farOk q.y) = true ∧ 2 ≤ p.length then some p else none) = if (decide (2 ≤ p.length) && p.all fun p => nearOk 1000000 p.x p.y) = true then some p else none
    have h : (p.all fun q => Vbreac.farOk q.x && Vbreac.farOk q.y) = p.all fun p => nearOk 1000000 p.x p.y := rfl
    rw [h]
    by_cases c : (p.all fun p => nearOk 1000000 p.x p.y) = true ∧ 2 ≤ p.length
    · rw [if_pos c, if_pos (by rw [Bool.and_eq_true, decide_eq_true_eq]; exact ⟨c.2, c.1⟩)]
    · rw [if_neg c, if_neg (by rw [Bool.and_eq_true, decide_eq_true_eq]; exact fun z => c ⟨z.2, z.1⟩)]
theorem places_some {ns : List Int} (h : placesOk ns = true) : ∃ v, Vbreac.pairs ns = some v ∧ ns.length = 2 * v.length ∧ 2 ≤ v.length ∧ (∀ p ∈ v, Bd.Within 1000000 p) ∧ Gr.chunks 2 v.length ns = v.map fun p => [p.x, p.y] := by
  unfold placesOk at h
  by_cases c : ns.length % 2 = 1
  · rw [Gr.pairs_none ns c] at h
    cases h
  · obtain ⟨v, h1, h2, h3⟩ := Gr.pairs_some (ns.length / 2) ns (by omega)
    rw [h1] at h
    simp only [Bool.and_eq_true, decide_eq_true_eq, List.all_eq_true] at h
    refine ⟨v, h1, by omega, h.1, fun p hp => ?_, ?_⟩
    · have := h.2 p hp
      unfold nearOk Vbreac.within at this
      rw [Bool.and_eq_true, decide_eq_true_eq, decide_eq_true_eq] at this
      simp only [Bd.Within]
      omega
    · rw [h2]
      exact h3
theorem time_in {t : Int} (h : Vbreac.timeOk t = true) : 0 ≤ t ∧ t ≤ 1000000 := by
  unfold Vbreac.timeOk Vbreac.within Vbreac.FAR at h
  exact of_decide_eq_true h
theorem course_step (v : Wind) (t : Int) (ns : List Int) : Vbreac.step v (.course t ns) = (v, if (Vbreac.timeOk t && placesOk ns) = true then (if v.isEmpty = true then [-4] else ((Sz.got v (Vbreac.whole t) ((Vbreac.pairs ns).getD [])).length : Int) :: (Sz.got v (Vbreac.whole t) ((Vbreac.pairs ns).getD [])).flatMap Vbreac.text) else [-1]) := by
  have e : Vbreac.step v (.course t ns) = match Vbreac.placesOf ns with
    | none => (v, [-1])
    | some p => if Vbreac.timeOk t = false then (v, [-1]) else Vbreac.onWind v (((Sz.got v (Vbreac.whole t) p).length : Int) :: (Sz.got v (Vbreac.whole t) p).flatMap Vbreac.text) := by
    show (match Vbreac.placesOf ns with | none => _ | some p => _) = _
    cases Vbreac.placesOf ns with
    | none => rfl
    | some p =>
      simp only
      rw [← Sz.course_flat]
      rfl
  rw [e, places_of]
  cases c1 : placesOk ns with
  | false =>
    rw [Bool.and_false]
    rfl
  | true =>
    obtain ⟨p, hp, _⟩ := places_some c1
    rw [if_pos rfl, hp]
    cases c2 : Vbreac.timeOk t with
    | false => rfl
    | true =>
      show (if true = false then _ else _) = _
      rw [if_neg (by decide), on_wind]
      rfl
theorem okRCourse (T : Tx K mg) {Tb : List (Addr × Str)} {k : Nat} : FnOk P w K mg base CX0 (k + 8) T.reply_course.f T.reply_course.fd ["forecast", "t", "numbers"] (spRL K T.CForecast Tb .course) := by
  have GT : FnOk P w K mg base CX0 (k + 7) T.is_time.f T.is_time.fd ["t"] (spB1 Vbreac.timeOk) := okIsTime T
  have GV : FnOk P w K mg base CX0 (k + 7) T.are_places.f T.are_places.fd ["numbers"] (spTest K placesOk) := okPlaces T
  have GE : FnOk P w K mg base CX0 (k + 7) T.Forecast_is_empty.f T.Forecast_is_empty.fd ["self"] (spEmpty K T.CForecast) := okEmpty T
  have GG : FnOk P w K mg base CX0 (k + 7) T.grouped.f T.grouped.fd ["numbers", "size"] (spGroup K) := okGrouped T
  have GL : FnOk P w K mg base CX0 (k + 7) T.leg_times.f T.leg_times.fd ["forecast", "start", "places"] (spLegs K T.CForecast) := okLegs T
  have GR : FnOk P w K mg base CX0 (k + 7) T.ratio_reply.f T.ratio_reply.fd ["ratio"] spRatio := okRatio T
  refine T.reply_course.fn.ok sc_reply_course (fun vs H Q E h => ?_) (fun cdv A outer s H vs Q E hr h => ?_)
  · obtain ⟨a, v, F, J, t, b, ns, rfl, _⟩ := h
    rfl
  · obtain ⟨a, v, F, J, t, b, ns, rfl, f, hb, hlen, R⟩ := h
    refine ⟨_, pss_cons (ps_if (PW.pt (pw_or (pt_not (pt_val (pe_call GT hr rfl T.is_time.g T.is_time.fn.kp T.is_time.b .nil pass0 (pa_cons (pv 1) pa_nil))))
        (pw_or1 (pt_not (pt_val (pe_call GV hr rfl T.are_places.g T.are_places.fn.kp T.are_places.b .nil pass0 (pa_cons (pv 2) pa_nil))))))) (pss_one (ps_ret (pe_lst (pa_cons (pe_glob rfl T.OUT_OF_RANGE.g T.OUT_OF_RANGE.rel) pa_nil)))) pss_nil)
      (pss_cons (ps_if (pt_val (pe_meth0 (pv 0) T.cForecast T.Forecast_is_empty.m GE hr T.Forecast_is_empty.b .nil pass0)) (pss_one (ps_ret (pe_lst (pa_cons (pe_glob rfl T.NO_SLICES.g T.NO_SLICES.rel) pa_nil)))) pss_nil)
      (pss_cons (ps_set (i := 3) sc_reply_course.nd rfl (.inl rfl) (pe_call GL hr rfl T.leg_times.g T.leg_times.fn.kp T.leg_times.b .nil pass0 (pa_cons (pv 0) (pa_cons (pe_tup (pa_cons (pv 1) (pa_cons pe_int pa_nil))) (pa_cons (pe_call GG hr rfl T.grouped.g T.grouped.fn.kp T.grouped.b .nil pass0 (pa_cons (pv 2) (pa_cons pe_int pa_nil))) pa_nil)))))
      (pss_cons (ps_set (i := 4) sc_reply_course.nd rfl (.inl rfl) (pe_lst (pa_cons (pe_callB call_len_seq (by rfl) T.nb.len_ PySem.boot_len (pa_cons (pv 3) pa_nil)) pa_nil)))
      (pss_cons (ps_for PassesOwn.never rfl (pi_list (pv 3)) (pg_name (i := 5) sc_reply_course.nd rfl (.inl rfl))
        (pss_one (ps_expr (pe_bm PySem.F.plainAttrs_list PySem.F.slot_list_extend PySem.F.type_list_extend mt_extend (pv 4) (pa_cons (pe_call GR hr rfl T.ratio_reply.g T.ratio_reply.fn.kp T.ratio_reply.b .nil pass0 (pa_cons (pv 5) pa_nil)) pa_nil)))))
      (pss_one (ps_ret (pv 4))))))), ?_⟩
    have hF := f.j.1
    rw [course_step] at R
    refine ⟨_, rfl, t, rfl, _, rfl, ite2 (fun e => ?_) (fun e => ?_)⟩
    · have e : Vbreac.timeOk t = false := by simpa using e
      rw [e, Bool.false_and, if_neg (by decide)] at R
      exact ⟨(by show 1 ≤ sizeLine; decide), fun q nq => rep_new R f (Same.refl _) nq⟩
    have e : Vbreac.timeOk t = true := by simpa using e
    refine ⟨_, rfl, b, ns, rfl, hb, by omega, fun H1 s1 => ⟨_, rfl, ite2 (fun e2 => ?_) (fun e2 => ?_)⟩⟩
    · have e2 : placesOk ns = false := by simpa using e2
      rw [e, e2, Bool.and_false, if_neg (by decide)] at R
      exact ⟨(by show 1 ≤ sizeLine; decide), fun q nq => rep_new R f s1 nq⟩
    have e2 : placesOk ns = true := by simpa using e2
    rw [e, e2, if_pos (by decide)] at R
    have hF1 := hF.same s1
    refine ⟨_, rfl, a, F.dx, _, rfl, hF1.ob, fc_no (by decide +kernel) (by decide +kernel) (by decide +kernel) (by decide +kernel) (by decide +kernel) _ _ _ _ _, a, v, F, rfl, hF1, _, rfl, ite2 (fun e3 => ?_) (fun e3 => ?_)⟩
    · rw [if_pos e3] at R
      exact ⟨(by show 1 ≤ sizeLine; decide), fun q nq => rep_new R f s1 nq⟩
    rw [if_neg e3] at R
    have hv : v ≠ [] := ne_nil (by simpa using e3)
    have ht := time_in e
    obtain ⟨ws, h1, h2, h3, h4, h5⟩ := places_some e2
    rw [h1] at R
    refine ⟨_, rfl, _, rfl, (by show 2 ≤ sizeLine; decide), fun st nst => ?_⟩
    have s2 := same_upd (o := .tup [.int t, .int 1]) nst
    refine ⟨_, rfl, b, ns, 2, ws.length, rfl, (s1.trans s2).seq hb, h2, by decide, by decide, by omega, fun H2 q gs s3 nq hq hgs egs => ?_⟩
    rw [h5] at egs
    obtain ⟨rs, r1, r2, r3⟩ := grp_row (K := K) egs
    have lrs : rs.length = ws.length := by rw [← pts_len, r2]
    have sA := s1.trans (s2.trans s3)
    refine ⟨a, v, F, st, Vbreac.whole t, q, rs, 24, rfl, hF.same sA, hv, f.w, s3.sqT (SqT.of upd_same), Sz.whole_ok ht, SqL.of (by rw [r1]; exact hq), r3 H2 hgs, fun r hr' => h4 r.2 (by rw [← r2]; exact List.mem_map_of_mem hr'), by omega, fun H3 o fs F' k3 no ho hfs bfs lfs efs hF' al fo => ?_⟩
    rw [r2] at efs
    have go := Go.after sA (Go.of1 (f.j.same sA) k3 hF' al fo)
    have stp := Stp.go f.t go
    have R : RepQ K T.CForecast Tb H a F J (v, ((fs.length : Nat) : Int) :: (fs.map (·.2)).flatMap Vbreac.text) Q := by
      have e9 : (Sz.got v (Vbreac.whole t) ws) = fs.map (·.2) := efs.symm
      have R : RepQ K T.CForecast Tb H a F J (v, ((Sz.got v (Vbreac.whole t) ws).length : Int) :: (Sz.got v (Vbreac.whole t) ws).flatMap Vbreac.text) Q := R
      rw [e9, List.length_map] at R
      exact R
    refine ⟨_, rfl, o, _, rfl, .inl (SqL.of ho), (by show 1 ≤ sizeLine; decide), fun g ng => ?_⟩
    rw [frsV, List.length_map]
    have s5 := same_upd (o := .lst [.int ((fs.length : Nat) : Int)]) ng
    refine ⟨_, rfl, o, rfl, ⟨_, SqL.of (s5 _ _ ho)⟩, for_list (K := K) (a := o) (xs := frsV fs) (fun i σ H' => ∃ (v5 : Option V) (L : List Int), σ = [some (.ref a), some (.int t), some (.ref b), some (.ref o), some (.ref g), v5] ∧ Same H3 H' ∧ H' g = some (.lst (L.map V.int)) ∧ L.length ≤ 1 + 6000 * i ∧ L = ((fs.length : Nat) : Int) :: ((fs.take i).map (·.2)).flatMap Vbreac.text)
      ⟨none, _, rfl, s5, upd_same, Nat.le_refl _, rfl⟩ (fun i σ H' _ ⟨_, _, _, z, _⟩ => SqL.of (z _ _ ho)) ?_ ?_⟩
    · rintro i z σ H5 hi ⟨v5, L, rfl, sm, hg, lL, eL⟩
      obtain ⟨p, hp, rfl⟩ : ∃ p, fs[i]? = some p ∧ z = .ref p.1 := by
        unfold frsV at hi
        rw [List.getElem?_map] at hi
        cases e : fs[i]? with
        | none => rw [e] at hi; cases hi
        | some r => rw [e] at hi; exact ⟨r, rfl, (Option.some.inj hi).symm⟩
      have hpm := List.mem_of_getElem? hp
      have ip := (List.getElem?_eq_some_iff.mp hp).1
      obtain ⟨n9, hn9, hok⟩ := bfs p hpm
      have bits := hok.bits hn9 (k := 1900) (by decide)
      refine ⟨_, rfl, .inl ⟨rfl, _, SqL.of hg⟩, _, rfl, p.1, p.2, rfl, sm _ _ (hfs p hpm), bits.1, bits.2, fun H6 z s6 nz hz lz => ?_⟩
      refine ⟨g, z, _, _, rfl, rfl, s6 _ _ hg, hz, ?_, ?_⟩
      · rw [List.length_map, List.length_map, sizeLine_eq]
        omega
      refine ⟨_, L ++ Vbreac.text p.2, rfl, same_grow ng (sm.trans s6), ?_, ?_, ?_⟩
      · rw [upd_same, ← List.map_append]
      · rw [List.length_append]
        omega
      · rw [eL, take_snoc hp, List.map_append, List.flatMap_append]
        simp
    · rintro σ H5 ⟨v5, L, rfl, sm, hg, lL, eL⟩
      rw [frsV, List.length_map, List.take_length] at eL
      refine ⟨_, rfl, R _ g (stp.then sm) (.kept go.keptI ng) ?_⟩
      rw [hg, eL]
def spRB (K : PySem.W.Frag) (C : Addr) (Tb : List (Addr × Str)) : Sp := fun vs H Q _ => ∃ (a : Addr) (v : Wind) (F : Fc) (J : Option (Addr × Fc)) (b : Addr) (ns : List Int), vs = [.ref a, .ref b] ∧ FcS K C Tb H a v F J ∧ SqL K H b (ns.map V.int) ∧ ns.length ≤ 60 ∧ RepQ K C Tb H a F J (Vbreac.step v (.bound ns)) Q
theorem bound_step (v : Wind) (ns : List Int) : Vbreac.step v (.bound ns) = (v, if placesOk ns = true then (if v.isEmpty = true then [-4] else match Vbreac.bound v ((Vbreac.pairs ns).getD []) with | some f => 0 :: Vbreac.text f | none => [-6]) else [-1]) := by
  show (match Vbreac.placesOf ns with | none => _ | some p => _) = _
  rw [places_of]
  cases c1 : placesOk ns with
  | false => rfl
  | true =>
    obtain ⟨p, hp, _⟩ := places_some c1
    rw [if_pos rfl, hp]
    show (if v.isEmpty = true then _ else _) = (v, if true = true then (if v.isEmpty = true then _ else match Vbreac.bound v p with | some f => _ | none => _) else _)
    rw [if_pos rfl]
    cases v.isEmpty with
    | true => rfl
    | false =>
      rw [if_neg (by decide), if_neg (by decide)]
      cases Vbreac.bound v p <;> rfl
theorem okRBound (T : Tx K mg) {tb : Addr} (N : Bs P w K mg base T tb) {k : Nat} : FnOk P w K mg base CX0 (k + 9) T.reply_bound.f T.reply_bound.fd ["forecast", "numbers"] (spRB K T.CForecast (lamTabs tb)) := by
  have GV : FnOk P w K mg base CX0 (k + 8) T.are_places.f T.are_places.fd ["numbers"] (spTest K placesOk) := okPlaces T
  have GE : FnOk P w K mg base CX0 (k + 8) T.Forecast_is_empty.f T.Forecast_is_empty.fd ["self"] (spEmpty K T.CForecast) := okEmpty T
  have GG : FnOk P w K mg base CX0 (k + 8) T.grouped.f T.grouped.fd ["numbers", "size"] (spGroup K) := okGrouped T
  have GB : FnOk P w K mg base CX0 (k + 8) T.row_bound.f T.row_bound.fd ["forecast", "places"] (spBound K T.CForecast) := okBound T N
  have GR : FnOk P w K mg base CX0 (k + 8) T.ratio_reply.f T.ratio_reply.fd ["ratio"] spRatio := okRatio T
  refine T.reply_bound.fn.ok sc_reply_bound (fun vs H Q E h => ?_) (fun cdv A outer s H vs Q E hr h => ?_)
  · obtain ⟨a, v, F, J, b, ns, rfl, _⟩ := h
    rfl
  · obtain ⟨a, v, F, J, b, ns, rfl, f, hb, hlen, R⟩ := h
    refine ⟨_, pss_cons (ps_if (pt_not (pt_val (pe_call GV hr rfl T.are_places.g T.are_places.fn.kp T.are_places.b .nil pass0 (pa_cons (pv 1) pa_nil)))) (pss_one (ps_ret (pe_lst (pa_cons (pe_glob rfl T.OUT_OF_RANGE.g T.OUT_OF_RANGE.rel) pa_nil)))) pss_nil)
      (pss_cons (ps_if (pt_val (pe_meth0 (pv 0) T.cForecast T.Forecast_is_empty.m GE hr T.Forecast_is_empty.b .nil pass0)) (pss_one (ps_ret (pe_lst (pa_cons (pe_glob rfl T.NO_SLICES.g T.NO_SLICES.rel) pa_nil)))) pss_nil)
      (pss_cons (ps_set (i := 2) sc_reply_bound.nd rfl (.inl rfl) (pe_call GB hr rfl T.row_bound.g T.row_bound.fn.kp T.row_bound.b .nil pass0 (pa_cons (pv 0) (pa_cons (pe_call GG hr rfl T.grouped.g T.grouped.fn.kp T.grouped.b .nil pass0 (pa_cons (pv 1) (pa_cons pe_int pa_nil))) pa_nil))))
      (pss_cons (ps_if (pt_cmpR op_isN (pv 2) pe_non (nomark _)) (pss_one (ps_ret (pe_lst (pa_cons (pe_glob rfl T.NEVER_ARRIVES.g T.NEVER_ARRIVES.rel) pa_nil)))) pss_nil)
      (pss_one (ps_ret (pe_op op_cat (pe_lst (pa_cons pe_int pa_nil)) (pe_call GR hr rfl T.ratio_reply.g T.ratio_reply.fn.kp T.ratio_reply.b .nil pass0 (pa_cons (pv 2) pa_nil)))))))), ?_⟩
    have hF := f.j.1
    rw [bound_step] at R
    refine ⟨_, rfl, b, ns, rfl, hb, by omega, fun H1 s1 => ⟨_, rfl, ite2 (fun e2 => ?_) (fun e2 => ?_)⟩⟩
    · have e2 : placesOk ns = false := by simpa using e2
      rw [e2, if_neg (by decide)] at R
      exact ⟨(by show 1 ≤ sizeLine; decide), fun q nq => rep_new R f s1 nq⟩
    have e2 : placesOk ns = true := by simpa using e2
    rw [e2, if_pos (by decide)] at R
    have hF1 := hF.same s1
    refine ⟨_, rfl, a, F.dx, _, rfl, hF1.ob, fc_no (by decide +kernel) (by decide +kernel) (by decide +kernel) (by decide +kernel) (by decide +kernel) _ _ _ _ _, a, v, F, rfl, hF1, _, rfl, ite2 (fun e3 => ?_) (fun e3 => ?_)⟩
    · rw [if_pos e3] at R
      exact ⟨(by show 1 ≤ sizeLine; decide), fun q nq => rep_new R f s1 nq⟩
    rw [if_neg e3] at R
    have hv : v ≠ [] := ne_nil (by simpa using e3)
    obtain ⟨ws, h1, h2, h3, h4, h5⟩ := places_some e2
    rw [h1] at R
    have R : RepQ K T.CForecast (lamTabs tb) H a F J (v, match Vbreac.bound v ws with | some f => 0 :: Vbreac.text f | none => [-6]) Q := R
    refine ⟨_, rfl, _, rfl, b, ns, 2, ws.length, rfl, s1.seq hb, h2, by decide, by decide, by omega, fun H2 q gs s3 nq hq hgs egs => ?_⟩
    rw [h5] at egs
    obtain ⟨rs, r1, r2, r3⟩ := grp_row (K := K) egs
    have lrs : rs.length = ws.length := by rw [← pts_len, r2]
    have sA := s1.trans s3
    refine ⟨a, v, F, J, q, rs, rfl, f.j.same sA, hv, f.w, SqL.of (by rw [r1]; exact hq), r3 H2 hgs, fun r hr' => h4 r.2 (by rw [← r2]; exact List.mem_map_of_mem hr'), by omega, by omega, fun en H3 g3 => ?_, fun fr ef H3 z g3 hz hok => ?_⟩
    · rw [r2] at en
      rw [en] at R
      have go := Go.after sA g3
      refine ⟨_, rfl, rfl, _, rfl, ite2 (fun _ => ?_) (fun e => absurd rfl e)⟩
      exact ⟨(by show 1 ≤ sizeLine; decide), fun p np => R _ p (Stp.go f.t (go.then (same_upd np))) (.kept go.keptI np) upd_same⟩
    · rw [r2] at ef
      rw [ef] at R
      have go := Go.after sA g3
      obtain ⟨n9, hn9, hok⟩ := hok
      have bits := hok.bits hn9 (k := 1900) (by decide)
      refine ⟨_, rfl, rfl, _, rfl, ite2 (fun e => ?_) (fun _ => ?_)⟩
      · have e : decide (V.ref z = V.non) = true := e
        simp at e
      refine ⟨(by show 1 ≤ sizeLine; decide), fun l nl => ?_⟩
      have t1 := same_upd (o := .lst [.int 0]) nl
      refine ⟨_, rfl, z, fr, rfl, t1 _ _ hz, bits.1, bits.2, fun H5 y t5 ny hy ly => ?_⟩
      refine ⟨l, y, _, _, rfl, rfl, t5 _ _ upd_same, hy, ?_, fun p np => ?_⟩
      · rw [List.length_map, sizeLine_eq]
        show 1 + _ ≤ _
        omega
      exact R _ p (Stp.go f.t (go.then (t1.trans (t5.trans (same_upd np))))) (.kept (go.keptI.trans (.of (t1.trans t5))) np) upd_same
end
end Sw
set_option maxHeartbeats 4000000
namespace Sw
open PySem PySem.Spec PyProof.Rows L2 LamX
open Vbreac (Pt Frac Wind)
section
variable {P : Program} {w : World} {K : PySem.W.Frag} {mg : Str → Option Value} {base : Heap}
/-! ### check, speed -/
theorem claims_some {ns : List Int} (h : claimsOk ns = true) : ∃ v, Vbreac.triples ns = some v ∧ ns.length = 3 * v.length ∧ (∀ c ∈ v, Bd.Within 1000000 c.1 ∧ (0 ≤ c.2 ∧ c.2 ≤ 1000000)) ∧ Gr.chunks 3 v.length ns = v.map claimL := by
  unfold claimsOk at h
  by_cases c : ns.length % 3 = 0
  · obtain ⟨v, h1, h2, h3⟩ := Gr.triples_some (ns.length / 3) ns (by omega)
    rw [h1] at h
    simp only [Bool.and_eq_true, decide_eq_true_eq, List.all_eq_true] at h
    refine ⟨v, h1, by omega, fun p hp => ?_, ?_⟩
    · have := h.2 p hp
      refine ⟨?_, time_in this.2⟩
      have := this.1
      unfold nearOk Vbreac.within at this
      rw [Bool.and_eq_true, decide_eq_true_eq, decide_eq_true_eq] at this
      simp only [Bd.Within]
      omega
    · rw [h2]
      exact h3
  · rw [Gr.triples_none ns c] at h
    cases h
theorem check_step (v : Wind) (t : Int) (ns : List Int) : Vbreac.step v (.check t ns) = (v, if (Vbreac.timeOk t && claimsOk ns) = true then (if orderOk t ((Vbreac.triples ns).getD []) = true then (if v.isEmpty = true then [-4] else match Vbreac.tooFast v 0 t Vbreac.zero ((Vbreac.triples ns).getD []) with | some k => [1, (k : Int)] | none => [0]) else [-5]) else [-1]) := by
  show (match Vbreac.triples ns with | none => _ | some q => _) = _
  cases e : Vbreac.triples ns with
  | none =>
    have : claimsOk ns = false := by unfold claimsOk; rw [e]
    rw [this, Bool.and_false]
    rfl
  | some q =>
    have ec : claimsOk ns = (decide (1 ≤ q.length) && q.all fun x => Vbreac.farOk x.1.x && (Vbreac.farOk x.1.y && Vbreac.timeOk x.2)) := by
      unfold claimsOk
      rw [e]
      show (decide (1 ≤ q.length) && q.all fun c => nearOk 1000000 c.1.x c.1.y && Vbreac.timeOk c.2) = _
      congr 1
      congr 1
      funext c
      rw [← Bool.and_assoc]
      rfl
    rw [ec]
    show (if (Vbreac.timeOk t && (decide (1 ≤ q.length) && q.all fun x => Vbreac.farOk x.1.x && (Vbreac.farOk x.1.y && Vbreac.timeOk x.2))) = false then _ else if orderOk t q = false then _ else Vbreac.onWind v _) = _
    cases (Vbreac.timeOk t && (decide (1 ≤ q.length) && q.all fun x => Vbreac.farOk x.1.x && (Vbreac.farOk x.1.y && Vbreac.timeOk x.2))) with
    | false => rfl
    | true =>
      rw [if_neg (by decide), if_pos rfl]
      show _ = (v, if orderOk t q = true then _ else _)
      cases orderOk t q with
      | false => rfl
      | true =>
        rw [if_neg (by decide), if_pos rfl, on_wind]
        congr 1
theorem okRCheck (T : Tx K mg) {Tb : List (Addr × Str)} {k : Nat} : FnOk P w K mg base CX0 (k + 9) T.reply_check.f T.reply_check.fd ["forecast", "t", "numbers"] (spRL K T.CForecast Tb .check) := by
  have GT : FnOk P w K mg base CX0 (k + 8) T.is_time.f T.is_time.fd ["t"] (spB1 Vbreac.timeOk) := okIsTime T
  have GV : FnOk P w K mg base CX0 (k + 8) T.are_claims.f T.are_claims.fd ["numbers"] (spTest K claimsOk) := okClaims T
  have GG : FnOk P w K mg base CX0 (k + 8) T.grouped.f T.grouped.fd ["numbers", "size"] (spGroup K) := okGrouped T
  have GO : FnOk P w K mg base CX0 (k + 8) T.are_in_order.f T.are_in_order.fd ["t", "claims"] (spOrder K) := okOrder T
  have GE : FnOk P w K mg base CX0 (k + 8) T.Forecast_is_empty.f T.Forecast_is_empty.fd ["self"] (spEmpty K T.CForecast) := okEmpty T
  have GF : FnOk P w K mg base CX0 (k + 8) T.first_false_claim.f T.first_false_claim.fd ["forecast", "t", "claims"] (spFalse K T.CForecast) := okFalse T
  refine T.reply_check.fn.ok sc_reply_check (fun vs H Q E h => ?_) (fun cdv A outer s H vs Q E hr h => ?_)
  · obtain ⟨a, v, F, J, t, b, ns, rfl, _⟩ := h
    rfl
  · obtain ⟨a, v, F, J, t, b, ns, rfl, f, hb, hlen, R⟩ := h
    refine ⟨_, pss_cons (ps_if (PW.pt (pw_or (pt_not (pt_val (pe_call GT hr rfl T.is_time.g T.is_time.fn.kp T.is_time.b .nil pass0 (pa_cons (pv 1) pa_nil))))
        (pw_or1 (pt_not (pt_val (pe_call GV hr rfl T.are_claims.g T.are_claims.fn.kp T.are_claims.b .nil pass0 (pa_cons (pv 2) pa_nil))))))) (pss_one (ps_ret (pe_lst (pa_cons (pe_glob rfl T.OUT_OF_RANGE.g T.OUT_OF_RANGE.rel) pa_nil)))) pss_nil)
      (pss_cons (ps_set (i := 3) sc_reply_check.nd rfl (.inl rfl) (pe_call GG hr rfl T.grouped.g T.grouped.fn.kp T.grouped.b .nil pass0 (pa_cons (pv 2) (pa_cons pe_int pa_nil))))
      (pss_cons (ps_if (pt_not (pt_val (pe_call GO hr rfl T.are_in_order.g T.are_in_order.fn.kp T.are_in_order.b .nil pass0 (pa_cons (pv 1) (pa_cons (pv 3) pa_nil))))) (pss_one (ps_ret (pe_lst (pa_cons (pe_glob rfl T.NOT_IN_ORDER.g T.NOT_IN_ORDER.rel) pa_nil)))) pss_nil)
      (pss_cons (ps_if (pt_val (pe_meth0 (pv 0) T.cForecast T.Forecast_is_empty.m GE hr T.Forecast_is_empty.b .nil pass0)) (pss_one (ps_ret (pe_lst (pa_cons (pe_glob rfl T.NO_SLICES.g T.NO_SLICES.rel) pa_nil)))) pss_nil)
      (pss_cons (ps_set (i := 4) sc_reply_check.nd rfl (.inl rfl) (pe_call GF hr rfl T.first_false_claim.g T.first_false_claim.fn.kp T.first_false_claim.b .nil pass0 (pa_cons (pv 0) (pa_cons (pv 1) (pa_cons (pv 3) pa_nil)))))
      (pss_one (ps_ret (pe_ifExp (pt_cmpR op_isN (pv 4) pe_non (nomark _)) (pe_lst (pa_cons pe_int pa_nil)) (pe_lst (pa_cons pe_int (pa_cons (pv 4) pa_nil)))))))))), ?_⟩
    have hF := f.j.1
    rw [check_step] at R
    refine ⟨_, rfl, t, rfl, _, rfl, ite2 (fun e => ?_) (fun e => ?_)⟩
    · have e : Vbreac.timeOk t = false := by simpa using e
      rw [e, Bool.false_and, if_neg (by decide)] at R
      exact ⟨(by show 1 ≤ sizeLine; decide), fun q nq => rep_new R f (Same.refl _) nq⟩
    have e : Vbreac.timeOk t = true := by simpa using e
    refine ⟨_, rfl, b, ns, rfl, hb, by omega, fun H1 s1 => ⟨_, rfl, ite2 (fun e2 => ?_) (fun e2 => ?_)⟩⟩
    · have e2 : claimsOk ns = false := by simpa using e2
      rw [e, e2, Bool.and_false, if_neg (by decide)] at R
      exact ⟨(by show 1 ≤ sizeLine; decide), fun q nq => rep_new R f s1 nq⟩
    have e2 : claimsOk ns = true := by simpa using e2
    rw [e, e2, if_pos (by decide)] at R
    have ht := time_in e
    obtain ⟨ws, h1, h2, h4, h5⟩ := claims_some e2
    rw [h1] at R
    have R : RepQ K T.CForecast Tb H a F J (v, if orderOk t ws = true then (if v.isEmpty = true then [-4] else match Vbreac.tooFast v 0 t Vbreac.zero ws with | some k => [1, (k : Int)] | none => [0]) else [-5]) Q := R
    refine ⟨_, rfl, b, ns, 3, ws.length, rfl, s1.seq hb, h2, by decide, by decide, by omega, fun H2 q gs s3 nq hq hgs egs => ?_⟩
    rw [h5] at egs
    have sA := s1.trans s3
    refine ⟨_, rfl, _, rfl, t, q, gs, ws, rfl, SqL.of hq, hgs, egs, by omega, fun H3 s4 => ⟨_, rfl, ite2 (fun e3 => ?_) (fun e3 => ?_)⟩⟩
    · have e3 : ¬ orderOk t ws = true := by simpa using e3
      rw [if_neg e3] at R
      exact ⟨(by show 1 ≤ sizeLine; decide), fun q nq => rep_new R f (sA.trans s4) nq⟩
    have e3 : orderOk t ws = true := by simpa using e3
    rw [if_pos e3] at R
    have sB := sA.trans s4
    have hF3 := hF.same sB
    refine ⟨_, rfl, a, F.dx, _, rfl, hF3.ob, fc_no (by decide +kernel) (by decide +kernel) (by decide +kernel) (by decide +kernel) (by decide +kernel) _ _ _ _ _, a, v, F, rfl, hF3, _, rfl, ite2 (fun e4 => ?_) (fun e4 => ?_)⟩
    · rw [if_pos e4] at R
      exact ⟨(by show 1 ≤ sizeLine; decide), fun q nq => rep_new R f sB nq⟩
    rw [if_neg e4] at R
    have hv : v ≠ [] := ne_nil (by simpa using e4)
    refine ⟨_, rfl, _, rfl, _, rfl, a, v, F, t, q, gs, ws, 24, rfl, hF3, hv, f.w, SqL.of (s4 _ _ hq), hgs.same s4, egs, by omega, ht, h4, fun H5 F' k5 hF' al fo => ?_⟩
    have go := Go.after sB (Go.of1 (f.j.same sB) k5 hF' al fo)
    have R : RepQ K T.CForecast Tb H a F J (v, match Vbreac.tooFast v 0 t Vbreac.zero ws with | some k => [1, (k : Int)] | none => [0]) Q := R
    refine ⟨_, rfl, rfl, _, rfl, ?_⟩
    cases ef : Vbreac.tooFast v 0 t Vbreac.zero ws with
    | none =>
      rw [ef] at R
      refine ite2 (fun _ => ?_) (fun z => absurd rfl z)
      exact ⟨(by show 1 ≤ sizeLine; decide), fun p np => R _ p (Stp.go f.t (go.then (same_upd np))) (.kept go.keptI np) upd_same⟩
    | some kk =>
      rw [ef] at R
      refine ite2 (fun z => ?_) (fun _ => ?_)
      · have z : decide (V.int (kk : Nat) = V.non) = true := z
        simp at z
      exact ⟨_, rfl, (by show 2 ≤ sizeLine; decide), fun p np => R _ p (Stp.go f.t (go.then (same_upd np))) (.kept go.keptI np) upd_same⟩
theorem okRSpeed (T : Tx K mg) {tb : Addr} (N : Bs P w K mg base T tb) {k : Nat} : FnOk P w K mg base CX0 (k + 8) T.reply_speed.f T.reply_speed.fd ["forecast", "i", "a", "b"] (spRI2 K T.CForecast (lamTabs tb) .speed) := by
  have GD : FnOk P w K mg base CX0 (k + 7) T.is_direction.f T.is_direction.fd ["a", "b"] (spB2s dirOk) := okIsDir T
  have GH : FnOk P w K mg base CX0 (k + 7) T.Forecast_has_slice.f T.Forecast_has_slice.fd ["self", "number"] (spHas K T.CForecast) := okHas T
  have GS : FnOk P w K mg base CX0 (k + 7) T.greatest_speed.f T.greatest_speed.fd ["corners", "a", "b"] (spSpeed K) := okSpeed T N
  have GR : FnOk P w K mg base CX0 (k + 7) T.ratio_reply.f T.ratio_reply.fd ["ratio"] spRatio := okRatio T
  refine T.reply_speed.fn.ok sc_reply_speed (fun vs H Q E h => ?_) (fun cdv A outer s H vs Q E hr h => ?_)
  · obtain ⟨a, v, F, J, i, x, y, rfl, _⟩ := h
    rfl
  · obtain ⟨a, v, F, J, i, x, y, rfl, f, R⟩ := h
    refine ⟨_, pss_cons (ps_if (pt_not (pt_val (pe_call GD hr rfl T.is_direction.g T.is_direction.fn.kp T.is_direction.b .nil pass0 (pa_cons (pv 2) (pa_cons (pv 3) pa_nil))))) (pss_one (ps_ret (pe_lst (pa_cons (pe_glob rfl T.OUT_OF_RANGE.g T.OUT_OF_RANGE.rel) pa_nil)))) pss_nil)
      (pss_cons (ps_if (pt_not (pt_val (pe_meth (pv 0) T.cForecast T.Forecast_has_slice.m GH hr T.Forecast_has_slice.b .nil pass0 (pa_cons (pv 1) pa_nil)))) (pss_one (ps_ret (pe_lst (pa_cons (pe_glob rfl T.NO_SUCH_SLICE.g T.NO_SUCH_SLICE.rel) pa_nil)))) pss_nil)
      (pss_one (ps_ret (pe_op op_cat (pe_lst (pa_cons pe_int pa_nil)) (pe_call GR hr rfl T.ratio_reply.g T.ratio_reply.fn.kp T.ratio_reply.b .nil pass0 (pa_cons (pe_call GS hr rfl T.greatest_speed.g T.greatest_speed.fn.kp T.greatest_speed.b .nil pass0 (pa_cons (pe_ix ix_list (pe_fld (pv 0) rfl) (pv 1) (fun _ _ => rfl)) (pa_cons (pv 2) (pa_cons (pv 3) pa_nil)))) pa_nil)))))), ?_⟩
    have hF := f.j.1
    have ed : (Vbreac.within x (-1000) 1000 && (Vbreac.within y (-1000) 1000 && !(x == 0 && y == 0))) = dirOk x y := by
      rw [← Bool.and_assoc]
      rfl
    have R : RepQ K T.CForecast (lamTabs tb) H a F J (if (Vbreac.within x (-1000) 1000 && (Vbreac.within y (-1000) 1000 && !(x == 0 && y == 0))) = false then (v, [-1]) else Vbreac.onSlice v i fun i => 0 :: Vbreac.text (Vbreac.along (Vbreac.sailOf v i) ⟨x, y⟩)) Q := R
    rw [on_slice, ed] at R
    refine ⟨_, rfl, _, rfl, x, y, rfl, fun H0 s0 => ⟨_, rfl, ite2 (fun e0 => ?_) (fun e0 => ?_)⟩⟩
    · have e0 : dirOk x y = false := by simpa using e0
      rw [if_pos e0] at R
      exact ⟨(by show 1 ≤ sizeLine; decide), fun q nq => rep_new R f s0 nq⟩
    have e0 : dirOk x y = true := by simpa using e0
    rw [if_neg (by rw [e0]; decide)] at R
    have hF0 := hF.same s0
    refine ⟨_, rfl, a, F.dx, _, rfl, hF0.ob, fc_no (by decide +kernel) (by decide +kernel) (by decide +kernel) (by decide +kernel) (by decide +kernel) _ _ _ _ _, _, rfl, a, v, F, i, rfl, hF0, _, rfl, ite2 (fun e => ?_) (fun e => ?_)⟩
    · have e : ¬ Vbreac.within i 0 ((v.length : Int) - 1) = true := by simpa using e
      rw [if_neg e] at R
      exact ⟨(by show 1 ≤ sizeLine; decide), fun q nq => rep_new R f s0 nq⟩
    · have e : Vbreac.within i 0 ((v.length : Int) - 1) = true := by simpa using e
      rw [if_pos e] at R
      obtain ⟨h, hh, es, ei, isl⟩ := hull_at hF0 e
      have hm := List.mem_of_getElem? hh
      have hA := hF0.hu h hm
      rw [es] at R
      unfold dirOk at e0
      rw [Bool.and_eq_true] at e0
      have nr := near_small e0.1
      have nz : (⟨x, y⟩ : Pt) ≠ Vbreac.zero := fun z => by
        have zx : x = 0 := congrArg Pt.x z
        have zy : y = 0 := congrArg Pt.y z
        rw [zx, zy] at e0
        exact absurd e0.2 (by decide)
      have few := hull_few hF0 f.w h hm
      have win : ∀ r ∈ h.2, Bd.Within 1000 r.2 := fun r hr' => sails_within f.w (pts h.2) (by rw [← hF.hp]; exact List.mem_map_of_mem hm) r.2 (List.mem_map_of_mem hr')
      refine ⟨(by show 1 ≤ sizeLine; decide), fun l nl => ?_⟩
      have t1 := same_upd (o := .lst [.int 0]) nl
      have hF1 := hF0.same t1
      refine ⟨_, rfl, a, T.CForecast, F.dx, _, _, rfl, hF1.ob, T.cForecast, T.nForecast_hulls, fc_hulls _ _ _ _ _, _, rfl, F.ah, _, _, _, rfl, rfl, SqL.of hF1.hl, at_of ei (by unfold hullsV; rw [List.getElem?_map, hh]; rfl), _, rfl, _, rfl, h.1, h.2, ⟨x, y⟩, rfl, hF1.hh h hm, (hF1.hu h hm).row, by omega, win, nz, nr.2.2, fun H2 z t2 hz b1 b2 => ?_⟩
      refine ⟨z, _, rfl, hz, b1, b2, fun H5 g t5 ng hg lg => ?_⟩
      have t25 := t2.trans t5
      refine ⟨l, g, _, _, rfl, rfl, t25 _ _ upd_same, hg, ?_, fun p np => ?_⟩
      · rw [List.length_map, sizeLine_eq]
        show 1 + _ ≤ _
        omega
      generalize Vbreac.text (Vbreac.along (pts h.2) ⟨x, y⟩) = tx at R ⊢
      exact rep_new (ns := 0 :: tx) R f (s0.trans (t1.trans t25)) np
end
end Sw
set_option linter.unusedVariables false
set_option linter.unusedSimpArgs false
namespace Ps
open Vbreac
/-! ### One call out of the list -/
inductive Seg : List Int → Call → Prop
  | c0 : Seg [0] .begin_
  | c1 {t n l} : l.length ≤ 60 → Seg (1 :: t :: n :: l) (.slice t l)
  | c2 {i} : Seg [2, i] (.hull i)
  | c3 {i} : Seg [3, i] (.inside i)
  | c4 {i a b} : Seg [4, i, a, b] (.support i a b)
  | c5 {x y t} : Seg [5, x, y, t] (.least x y t)
  | c6 {x y t} : Seg [6, x, y, t] (.way x y t)
  | c7 {x y t u} : Seg [7, x, y, t, u] (.reach x y t u)
  | c8 {t u} : Seg [8, t, u] (.set t u)
  | c9 {t n l} : l.length ≤ 60 → Seg (9 :: t :: n :: l) (.course t l)
  | c10 : Seg [10] .all
  | c11 {n l} : l.length ≤ 60 → Seg (11 :: n :: l) (.bound l)
  | c12 {t n l} : l.length ≤ 60 → Seg (12 :: t :: n :: l) (.check t l)
  | c13 {i a b} : Seg [13, i, a, b] (.speed i a b)
  | c14 : Seg [14] .slices
def plains : List Nat := [0, 1, 1, 1, 3, 3, 3, 4, 2, 1, 0, 0, 1, 3, 0]
def listed (p : Nat) : Bool := decide (p ∈ [1, 9, 11, 12])
/-- How long the next call is. -/
def Len (r : List Int) (e : Nat) : Prop := ∃ (p n : Nat), p < 15 ∧ r[0]? = some (p : Int) ∧ plains[p]? = some n ∧ (listed p = false → e = 1 + n) ∧ (listed p = true → ∃ m : Nat, r[1 + n]? = some (m : Int) ∧ e = 1 + n + 1 + m)
theorem call_inv {p : Int} {r : List Int} {c : List (List Int)} {t : List Int} (h : PyFlat.call PyVbreac.shape (p :: r) = some (c, t)) :
    ∃ n k xs, PyVbreac.shape p = some (n, k) ∧ n ≤ r.length ∧ PyFlat.rows k (r.drop n) = some (xs, t) ∧ c = (p :: r.take n) :: xs := by
  unfold PyFlat.call at h
  simp only at h
  cases e : PyVbreac.shape p with
  | none => rw [e] at h; cases h
  | some nk =>
    obtain ⟨n, k⟩ := nk
    rw [e] at h
    simp only at h
    split at h
    · cases h
    · cases e2 : PyFlat.rows k (r.drop n) with
      | none => rw [e2] at h; cases h
      | some xt =>
        obtain ⟨xs, t'⟩ := xt
        rw [e2] at h
        simp only [Option.some.injEq, Prod.mk.injEq] at h
        exact ⟨n, k, xs, rfl, by omega, by rw [e2, h.2], h.1.symm⟩
theorem rows_zero {r xs t : List Int} {ys : List (List Int)} (h : PyFlat.rows 0 r = some (ys, t)) : ys = [] ∧ t = r := by
  simp only [PyFlat.rows, Option.some.injEq, Prod.mk.injEq] at h
  exact ⟨h.1.symm, h.2.symm⟩
theorem rows_one {r t : List Int} {ys : List (List Int)} (h : PyFlat.rows 1 r = some (ys, t)) : ∃ (m : Nat) (l : List Int), r = (m : Int) :: (l ++ t) ∧ l.length = m ∧ ys = [l] := by
  unfold PyFlat.rows at h
  cases r with
  | nil => cases h
  | cons n r =>
    unfold PyFlat.row at h
    simp only at h
    by_cases c : 0 ≤ n ∧ n.toNat ≤ r.length
    · rw [if_pos c] at h
      simp only [PyFlat.rows, Option.some.injEq, Prod.mk.injEq] at h
      refine ⟨n.toNat, r.take n.toNat, ?_, by rw [List.length_take]; omega, h.1.symm⟩
      rw [← h.2, List.take_append_drop]
      congr 1
      omega
    · rw [if_neg c] at h
      cases h
theorem shape_in {p : Int} {n k : Nat} (h : PyVbreac.shape p = some (n, k)) : (p, n, k) ∈ ([(0, 0, 0), (1, 1, 1), (2, 1, 0), (3, 1, 0), (4, 3, 0), (5, 3, 0), (6, 3, 0), (7, 4, 0), (8, 2, 0), (9, 1, 1), (10, 0, 0), (11, 0, 1), (12, 1, 1), (13, 3, 0), (14, 0, 0)] : List (Int × Nat × Nat)) := by
  unfold PyVbreac.shape at h
  by_cases c0 : p = 0
  · rw [if_pos c0] at h
    cases h
    subst c0
    decide
  rw [if_neg c0] at h
  by_cases c1 : p = 1
  · rw [if_pos c1] at h
    cases h
    subst c1
    decide
  rw [if_neg c1] at h
  by_cases c2 : p = 2
  · rw [if_pos c2] at h
    cases h
    subst c2
    decide
  rw [if_neg c2] at h
  by_cases c3 : p = 3
  · rw [if_pos c3] at h
    cases h
    subst c3
    decide
  rw [if_neg c3] at h
  by_cases c4 : p = 4
  · rw [if_pos c4] at h
    cases h
    subst c4
    decide
  rw [if_neg c4] at h
  by_cases c5 : p = 5
  · rw [if_pos c5] at h
    cases h
    subst c5
    decide
  rw [if_neg c5] at h
  by_cases c6 : p = 6
  · rw [if_pos c6] at h
    cases h
    subst c6
    decide
  rw [if_neg c6] at h
  by_cases c7 : p = 7
  · rw [if_pos c7] at h
    cases h
    subst c7
    decide
  rw [if_neg c7] at h
  by_cases c8 : p = 8
  · rw [if_pos c8] at h
    cases h
    subst c8
    decide
  rw [if_neg c8] at h
  by_cases c9 : p = 9
  · rw [if_pos c9] at h
    cases h
    subst c9
    decide
  rw [if_neg c9] at h
  by_cases c10 : p = 10
  · rw [if_pos c10] at h
    cases h
    subst c10
    decide
  rw [if_neg c10] at h
  by_cases c11 : p = 11
  · rw [if_pos c11] at h
    cases h
    subst c11
    decide
  rw [if_neg c11] at h
  by_cases c12 : p = 12
  · rw [if_pos c12] at h
    cases h
    subst c12
    decide
  rw [if_neg c12] at h
  by_cases c13 : p = 13
  · rw [if_pos c13] at h
    cases h
    subst c13
    decide
  rw [if_neg c13] at h
  by_cases c14 : p = 14
  · rw [if_pos c14] at h
    cases h
    subst c14
    decide
  rw [if_neg c14] at h
  cases h
theorem split1 {r : List Int} (h : 1 ≤ r.length) : ∃ a s, r = a :: s := by
  cases r with
  | nil => simp at h
  | cons a s => exact ⟨a, s, rfl⟩
theorem row_len {l : List Int} (h : VbreacNeutral.row l = true) : l.length ≤ 60 := by
  unfold VbreacNeutral.row at h
  rw [Bool.and_eq_true, decide_eq_true_eq] at h
  exact h.1
theorem parse_one {p : Int} {r : List Int} {c : List (List Int)} {t : List Int} (h : PyFlat.call PyVbreac.shape (p :: r) = some (c, t)) (ha : VbreacNeutral.asked1 (PyVbreac.whole c) = true) :
    ∃ sg k, p :: r = sg ++ t ∧ Seg sg k ∧ VbreacNeutral.callOf (PyVbreac.whole c) = some k ∧ Len (p :: r) sg.length := by
  obtain ⟨n, k, xs, h1, h2, h3, h4⟩ := call_inv h
  have hs := shape_in h1
  simp only [List.mem_cons, Prod.mk.injEq, List.not_mem_nil, or_false] at hs
  rcases hs with ⟨rfl, rfl, rfl⟩ | ⟨rfl, rfl, rfl⟩ | ⟨rfl, rfl, rfl⟩ | ⟨rfl, rfl, rfl⟩ | ⟨rfl, rfl, rfl⟩ | ⟨rfl, rfl, rfl⟩ | ⟨rfl, rfl, rfl⟩ | ⟨rfl, rfl, rfl⟩ | ⟨rfl, rfl, rfl⟩ | ⟨rfl, rfl, rfl⟩ | ⟨rfl, rfl, rfl⟩ | ⟨rfl, rfl, rfl⟩ | ⟨rfl, rfl, rfl⟩ | ⟨rfl, rfl, rfl⟩ | ⟨rfl, rfl, rfl⟩
  -- 0
  · obtain ⟨rfl, rfl⟩ := rows_zero (xs := []) h3
    subst h4
    exact ⟨[0], _, rfl, .c0, rfl, 0, 0, by decide, rfl, rfl, fun _ => rfl, fun z => absurd z (by decide)⟩
  -- 1
  · obtain ⟨a, s, rfl⟩ := split1 h2
    obtain ⟨m, l, e, hm, rfl⟩ := rows_one h3
    simp only [List.drop_succ_cons, List.drop_zero] at e
    subst e h4
    have hl : l.length ≤ 60 := row_len (by
      have ha : (VbreacNeutral.whole60 a && VbreacNeutral.row l) = true := ha
      rw [Bool.and_eq_true] at ha
      exact ha.2)
    exact ⟨1 :: a :: (m : Int) :: l, _, rfl, .c1 hl, rfl, 1, 1, by decide, rfl, rfl, fun z => absurd z (by decide), fun _ => ⟨m, rfl, by simp only [List.length_cons]; omega⟩⟩
  -- 2
  · obtain ⟨a, s, rfl⟩ := split1 h2
    obtain ⟨rfl, rfl⟩ := rows_zero (xs := []) h3
    subst h4
    exact ⟨[2, a], _, rfl, .c2, rfl, 2, 1, by decide, rfl, rfl, fun _ => rfl, fun z => absurd z (by decide)⟩
  -- 3
  · obtain ⟨a, s, rfl⟩ := split1 h2
    obtain ⟨rfl, rfl⟩ := rows_zero (xs := []) h3
    subst h4
    exact ⟨[3, a], _, rfl, .c3, rfl, 3, 1, by decide, rfl, rfl, fun _ => rfl, fun z => absurd z (by decide)⟩
  -- 4
  · match r, h2, h3, h4 with
    | x :: y :: z :: s, _, h3, h4 =>
      obtain ⟨rfl, rfl⟩ := rows_zero (xs := []) h3
      subst h4
      exact ⟨[4, x, y, z], _, rfl, .c4, rfl, 4, 3, by decide, rfl, rfl, fun _ => rfl, fun z => absurd z (by decide)⟩
    | [x, y], h2, _, _ => simp only [List.length_cons, List.length_nil] at h2; omega
    | [x], h2, _, _ => simp only [List.length_cons, List.length_nil] at h2; omega
    | [], h2, _, _ => simp only [List.length_nil] at h2; omega
  -- 5
  · match r, h2, h3, h4 with
    | x :: y :: z :: s, _, h3, h4 =>
      obtain ⟨rfl, rfl⟩ := rows_zero (xs := []) h3
      subst h4
      exact ⟨[5, x, y, z], _, rfl, .c5, rfl, 5, 3, by decide, rfl, rfl, fun _ => rfl, fun z => absurd z (by decide)⟩
    | [x, y], h2, _, _ => simp only [List.length_cons, List.length_nil] at h2; omega
    | [x], h2, _, _ => simp only [List.length_cons, List.length_nil] at h2; omega
    | [], h2, _, _ => simp only [List.length_nil] at h2; omega
  -- 6
  · match r, h2, h3, h4 with
    | x :: y :: z :: s, _, h3, h4 =>
      obtain ⟨rfl, rfl⟩ := rows_zero (xs := []) h3
      subst h4
      exact ⟨[6, x, y, z], _, rfl, .c6, rfl, 6, 3, by decide, rfl, rfl, fun _ => rfl, fun z => absurd z (by decide)⟩
    | [x, y], h2, _, _ => simp only [List.length_cons, List.length_nil] at h2; omega
    | [x], h2, _, _ => simp only [List.length_cons, List.length_nil] at h2; omega
    | [], h2, _, _ => simp only [List.length_nil] at h2; omega
  -- 7
  · match r, h2, h3, h4 with
    | x :: y :: z :: u :: s, _, h3, h4 =>
      obtain ⟨rfl, rfl⟩ := rows_zero (xs := []) h3
      subst h4
      exact ⟨[7, x, y, z, u], _, rfl, .c7, rfl, 7, 4, by decide, rfl, rfl, fun _ => rfl, fun z => absurd z (by decide)⟩
    | [x, y, z], h2, _, _ => simp only [List.length_cons, List.length_nil] at h2; omega
    | [x, y], h2, _, _ => simp only [List.length_cons, List.length_nil] at h2; omega
    | [x], h2, _, _ => simp only [List.length_cons, List.length_nil] at h2; omega
    | [], h2, _, _ => simp only [List.length_nil] at h2; omega
  -- 8
  · match r, h2, h3, h4 with
    | x :: y :: s, _, h3, h4 =>
      obtain ⟨rfl, rfl⟩ := rows_zero (xs := []) h3
      subst h4
      exact ⟨[8, x, y], _, rfl, .c8, rfl, 8, 2, by decide, rfl, rfl, fun _ => rfl, fun z => absurd z (by decide)⟩
    | [x], h2, _, _ => simp only [List.length_cons, List.length_nil] at h2; omega
    | [], h2, _, _ => simp only [List.length_nil] at h2; omega
  -- 9
  · obtain ⟨a, s, rfl⟩ := split1 h2
    obtain ⟨m, l, e, hm, rfl⟩ := rows_one h3
    simp only [List.drop_succ_cons, List.drop_zero] at e
    subst e h4
    have hl : l.length ≤ 60 := row_len (by
      have ha : (VbreacNeutral.whole60 a && VbreacNeutral.row l) = true := ha
      rw [Bool.and_eq_true] at ha
      exact ha.2)
    exact ⟨9 :: a :: (m : Int) :: l, _, rfl, .c9 hl, rfl, 9, 1, by decide, rfl, rfl, fun z => absurd z (by decide), fun _ => ⟨m, rfl, by simp only [List.length_cons]; omega⟩⟩
  -- 10
  · obtain ⟨rfl, rfl⟩ := rows_zero (xs := []) h3
    subst h4
    exact ⟨[10], _, rfl, .c10, rfl, 10, 0, by decide, rfl, rfl, fun _ => rfl, fun z => absurd z (by decide)⟩
  -- 11
  · obtain ⟨m, l, e, hm, rfl⟩ := rows_one h3
    simp only [List.drop_zero] at e
    subst e h4
    have hl : l.length ≤ 60 := row_len ha
    exact ⟨11 :: (m : Int) :: l, _, rfl, .c11 hl, rfl, 11, 0, by decide, rfl, rfl, fun z => absurd z (by decide), fun _ => ⟨m, rfl, by simp only [List.length_cons]; omega⟩⟩
  -- 12
  · obtain ⟨a, s, rfl⟩ := split1 h2
    obtain ⟨m, l, e, hm, rfl⟩ := rows_one h3
    simp only [List.drop_succ_cons, List.drop_zero] at e
    subst e h4
    have hl : l.length ≤ 60 := row_len (by
      have ha : (VbreacNeutral.whole60 a && VbreacNeutral.row l) = true := ha
      rw [Bool.and_eq_true] at ha
      exact ha.2)
    exact ⟨12 :: a :: (m : Int) :: l, _, rfl, .c12 hl, rfl, 12, 1, by decide, rfl, rfl, fun z => absurd z (by decide), fun _ => ⟨m, rfl, by simp only [List.length_cons]; omega⟩⟩
  -- 13
  · match r, h2, h3, h4 with
    | x :: y :: z :: s, _, h3, h4 =>
      obtain ⟨rfl, rfl⟩ := rows_zero (xs := []) h3
      subst h4
      exact ⟨[13, x, y, z], _, rfl, .c13, rfl, 13, 3, by decide, rfl, rfl, fun _ => rfl, fun z => absurd z (by decide)⟩
    | [x, y], h2, _, _ => simp only [List.length_cons, List.length_nil] at h2; omega
    | [x], h2, _, _ => simp only [List.length_cons, List.length_nil] at h2; omega
    | [], h2, _, _ => simp only [List.length_nil] at h2; omega
  -- 14
  · obtain ⟨rfl, rfl⟩ := rows_zero (xs := []) h3
    subst h4
    exact ⟨[14], _, rfl, .c14, rfl, 14, 0, by decide, rfl, rfl, fun _ => rfl, fun z => absurd z (by decide)⟩
/-! ### All calls -/
def run (v : Wind) (raw : List (List (List Int))) : List Int := PyFlat.told (PyFlat.played VbreacNeutral.step v (raw.map PyVbreac.whole))
structure Left (v : Wind) (r : List Int) (out : List Int) : Prop where
  ex : ∃ f raw, PyFlat.calls PyVbreac.shape f r = some raw ∧ (∀ c ∈ raw, VbreacNeutral.asked1 (PyVbreac.whole c) = true) ∧ run v raw = out
theorem Left.nil {v : Wind} {out : List Int} (h : Left v [] out) : out = [] := by
  obtain ⟨f, raw, h1, _, h3⟩ := h
  have : PyFlat.calls PyVbreac.shape f [] = some [] := by cases f <;> rfl
  rw [this] at h1
  have := Option.some.inj h1
  subst this
  exact h3.symm
theorem Left.cons {v : Wind} {r out : List Int} (h : Left v r out) (hr : r ≠ []) : ∃ sg k t out', r = sg ++ t ∧ Seg sg k ∧ Len r sg.length ∧ Left (step v k).1 t out' ∧ out = ((step v k).2.length : Int) :: ((step v k).2 ++ out') := by
  obtain ⟨f, raw, h1, h2, h3⟩ := h
  cases r with
  | nil => exact absurd rfl hr
  | cons p r =>
    cases f with
    | zero => cases h1
    | succ f =>
      unfold PyFlat.calls at h1
      cases e : PyFlat.call PyVbreac.shape (p :: r) with
      | none => rw [e] at h1; cases h1
      | some ct =>
        obtain ⟨c, t⟩ := ct
        rw [e] at h1
        simp only at h1
        cases e2 : PyFlat.calls PyVbreac.shape f t with
        | none => rw [e2] at h1; cases h1
        | some cs =>
          rw [e2] at h1
          have := Option.some.inj h1
          subst this
          obtain ⟨sg, k, a1, a2, a3, a4⟩ := parse_one e (h2 c (by simp))
          refine ⟨sg, k, t, run (step v k).1 cs, a1, a2, a4, ⟨f, cs, e2, fun c hc => h2 c (by simp [hc]), rfl⟩, ?_⟩
          rw [← h3]
          unfold run
          rw [List.map_cons, PyFlat.played, PyFlat.told]
          have es : VbreacNeutral.step v (PyVbreac.whole c) = step v k := by
            unfold VbreacNeutral.step
            rw [a3]
          rw [es, List.flatMap_cons]
          rfl
theorem Left.start {l : List Int} (h : PyVbreac.answers_asked l = true) : Left [] l (PyVbreac.answers l) ∧ (PyVbreac.answers l).length ≤ 10000000 := by
  unfold PyVbreac.answers_asked at h
  cases e : PyFlat.calls PyVbreac.shape l.length l with
  | none => rw [e] at h; cases h
  | some raw =>
    rw [e] at h
    simp only [Bool.and_eq_true] at h
    obtain ⟨⟨⟨⟨_, _⟩, _⟩, ha⟩, hs⟩ := h
    unfold PyFlat.short at hs
    refine ⟨⟨l.length, raw, e, fun c hc => ?_, ?_⟩, of_decide_eq_true hs⟩
    · unfold VbreacNeutral.asked at ha
      rw [Bool.and_eq_true, List.all_eq_true] at ha
      exact ha.1 _ (List.mem_map_of_mem hc)
    · unfold run PyVbreac.answers PyVbreac.calls
      rw [e]
      rfl
end Ps
set_option maxHeartbeats 4000000
namespace Sw
open PySem PySem.Spec PyProof.Rows L2 LamX
open Vbreac (Pt Frac Wind)
section
variable {P : Program} {w : World} {K : PySem.W.Frag} {mg : Str → Option Value} {base : Heap}
/-! ### call_end -/
theorem in_listed : ∀ p : Fin 15, inV (V.int ((p.val : Nat) : Int)) ([1, 9, 11, 12].map V.int) = Ps.listed p.val := by decide
def spEnd (K : PySem.W.Frag) : Sp := fun vs H Q _ => ∃ (b : Addr) (l : List Int) (i e : Nat), vs = [.ref b, .int (i : Nat)] ∧ SqL K H b (l.map V.int) ∧ Ps.Len (l.drop i) e ∧ Q (.int ((i + e : Nat) : Int)) H
theorem okEnd (T : Tx K mg) {k : Nat} : FnOk P w K mg base CX0 (k + 1) T.call_end.f T.call_end.fd ["calls", "at"] (spEnd K) := by
  refine T.call_end.fn.ok sc_call_end (fun vs H Q E h => ?_) (fun cdv A outer s H vs Q E hr h => ?_)
  · obtain ⟨b, l, i, e, rfl, _⟩ := h
    rfl
  · obtain ⟨b, l, i, e, rfl, hb, ⟨p, n, hp, h0, hn, hF, hT⟩, k⟩ := h
    refine ⟨_, pss_cons (ps_set (i := 2) sc_call_end.nd rfl (.inl rfl) (pe_ix ix_list (pv 0) (pv 1) (fun _ _ => rfl)))
      (pss_cons (ps_set (i := 3) sc_call_end.nd rfl (.inl rfl) (pe_op op_add (pe_op op_add (pv 1) pe_int) (pe_ix ix_tup (pe_glob rfl T.PLAIN_NUMBERS.g T.PLAIN_NUMBERS.rel) (pv 2) (fun _ _ => rfl))))
      (pss_cons (ps_if (pt_cmpR op_in_seq (pv 2) (pe_glob rfl T.CALLS_WITH_LIST.g T.CALLS_WITH_LIST.rel) (by rfl)) (pss_one (ps_ret (pe_op op_add (pe_op op_add (pv 3) pe_int) (pe_ix ix_list (pv 0) (pv 3) (fun _ _ => rfl))))) pss_nil)
      (pss_one (ps_ret (pv 3))))), ?_⟩
    rw [List.getElem?_drop, Nat.add_zero] at h0
    have e1 : ((i : Nat) : Int) + 1 + ((n : Nat) : Int) = ((i + 1 + n : Nat) : Int) := by push_cast; rfl
    have hpl : ([0, 1, 1, 1, 3, 3, 3, 4, 2, 1, 0, 0, 1, 3, 0].map V.int : List V)[p]? = some (V.int ((n : Nat) : Int)) := by
      have : ([0, 1, 1, 1, 3, 3, 3, 4, 2, 1, 0, 0, 1, 3, 0] : List Int) = Ps.plains.map Int.ofNat := rfl
      rw [this, List.getElem?_map, List.getElem?_map, hn]
      rfl
    refine ⟨_, rfl, _, rfl, b, _, _, _, rfl, rfl, hb, atI_nat (j := i) (by rw [List.getElem?_map, h0]; rfl), ?_⟩
    refine ⟨_, rfl, _, _, rfl, rfl, _, rfl, T.PLAIN_NUMBERS.a, _, _, _, rfl, rfl, T.PLAIN_NUMBERS.tup _, atI_nat (j := p) hpl, _, _, rfl, rfl, ?_⟩
    refine ⟨_, rfl, T.CALLS_WITH_LIST.a, _, rfl, .inr (T.CALLS_WITH_LIST.tup _), rfl, rfl, _, rfl, ?_⟩
    rw [in_listed ⟨p, hp⟩]
    refine ite2 (fun c => ?_) (fun c => ?_)
    · obtain ⟨m, hm, em⟩ := hT c
      rw [List.getElem?_drop] at hm
      refine ⟨_, rfl, _, _, rfl, rfl, _, rfl, _, rfl, b, _, _, _, rfl, rfl, hb, at_of e1 (by rw [List.getElem?_map, show i + 1 + n = i + (1 + n) by omega, hm]; rfl), _, _, rfl, rfl, ?_⟩
      have e2 : ((i : Nat) : Int) + 1 + ((n : Nat) : Int) + 1 + ((m : Nat) : Int) = ((i + e : Nat) : Int) := by rw [em]; push_cast; omega
      show Q (.int (((i : Nat) : Int) + 1 + ((n : Nat) : Int) + 1 + ((m : Nat) : Int))) H
      rw [e2]
      exact k
    · have em := hF (by simpa using c)
      refine ⟨_, rfl, ?_⟩
      show Q (.int (((i : Nat) : Int) + 1 + ((n : Nat) : Int))) H
      rw [e1, show i + 1 + n = i + e by omega]
      exact k
/-! ### reply_to -/
theorem cut3 (xs : List V) (a b c : V) : cutV (a :: b :: c :: xs) (some 3) none = xs := by
  rw [show (3 : Int) = ((3 : Nat) : Int) from rfl, cut_from _ 3 (by simp)]
  rfl
theorem cut2 (xs : List V) (a b : V) : cutV (a :: b :: xs) (some 2) none = xs := by
  rw [show (2 : Int) = ((2 : Nat) : Int) from rfl, cut_from _ 2 (by simp)]
  rfl
theorem RepQ.after {C : Addr} {Tb : List (Addr × Str)} {H H1 : Hp} {a : Addr} {F : Fc} {J : Option (Addr × Fc)} {r : Vbreac.State × List Int} {Q : VK} (R : RepQ K C Tb H a F J r Q) (s : Same H H1) : RepQ K C Tb H1 a F J r Q := fun H' q st n h => by
  refine R H' q ?_ (fun xs z => n xs (s _ _ z)) h
  obtain ⟨F', J', h1, h2, h3, h4, h5⟩ := st
  exact ⟨F', J', h1, h2, fun b xs hb o => h3 b xs (s _ _ hb) o, fun b o u hb => h4 b o u (s _ _ hb), fun b u hb o => h5 b u (s _ _ hb) o⟩
theorem FcS.same {C : Addr} {Tb : List (Addr × Str)} {H H1 : Hp} {a : Addr} {v : Wind} {F : Fc} {J : Option (Addr × Fc)} (f : FcS K C Tb H a v F J) (s : Same H H1) : FcS K C Tb H1 a v F J := ⟨f.j.same s, f.w, f.t.ext s⟩
def spTo (K : PySem.W.Frag) (C : Addr) (Tb : List (Addr × Str)) (ok : Int → Prop) : Sp := fun vs H Q _ => ∃ (a : Addr) (v : Wind) (F : Fc) (J : Option (Addr × Fc)) (b : Addr) (sg : List Int) (c : Vbreac.Call), vs = [.ref a, .ref b] ∧ FcS K C Tb H a v F J ∧ SqL K H b (sg.map V.int) ∧ Ps.Seg sg c ∧ (∀ p, sg[0]? = some p → ok p) ∧ RepQ K C Tb H a F J (Vbreac.step v c) Q
theorem no_eq {m n : Int} {A : Prop} (h : m ≠ n) (e : decide (V.int m = V.int n) = true) : A := absurd (V.int.inj (of_decide_eq_true e)) h
theorem yes_eq {n : Int} {A : Prop} (e : ¬ decide (V.int n = V.int n) = true) : A := absurd (decide_eq_true rfl) e
theorem okEarly (T : Tx K mg) {tb : Addr} (N : Bs P w K mg base T tb) {k : Nat} : FnOk P w K mg base CX0 (k + 8) T.reply_to_early.f T.reply_to_early.fd ["forecast", "call"] (spTo K T.CForecast (lamTabs tb) (fun p => p < 8)) := by
  have G0 : FnOk P w K mg base CX0 (k + 7) T.reply_begin.f T.reply_begin.fd ["forecast"] (spRBegin K T.CForecast (lamTabs tb)) := okRBegin T
  have G1 : FnOk P w K mg base CX0 (k + 7) T.reply_slice.f T.reply_slice.fd ["forecast", "t", "numbers"] (spRL K T.CForecast (lamTabs tb) .slice) := okRSlice T N
  have G2 : FnOk P w K mg base CX0 (k + 7) T.reply_hull.f T.reply_hull.fd ["forecast", "i"] (spRI K T.CForecast (lamTabs tb) .hull) := okRHull T
  have G3 : FnOk P w K mg base CX0 (k + 7) T.reply_inside.f T.reply_inside.fd ["forecast", "i"] (spRI K T.CForecast (lamTabs tb) .inside) := okRInside T
  have G4 : FnOk P w K mg base CX0 (k + 7) T.reply_support.f T.reply_support.fd ["forecast", "i", "a", "b"] (spRI2 K T.CForecast (lamTabs tb) .support) := okRSupport T
  have G5 : FnOk P w K mg base CX0 (k + 7) T.reply_least.f T.reply_least.fd ["forecast", "x", "y", "t"] (spRT K T.CForecast (lamTabs tb) .least) := okRLeast T
  have G6 : FnOk P w K mg base CX0 (k + 7) T.reply_way.f T.reply_way.fd ["forecast", "x", "y", "t"] (spRT K T.CForecast (lamTabs tb) .way) := okRWay T N
  have G7 : FnOk P w K mg base CX0 (k + 7) T.reply_reach.f T.reply_reach.fd ["forecast", "x", "y", "t", "u"] (spRR K T.CForecast (lamTabs tb)) := okRReach T
  refine T.reply_to_early.fn.ok sc_reply_to_early (fun vs H Q E h => ?_) (fun cdv A outer s H vs Q E hr h => ?_)
  · obtain ⟨a, v, F, J, b, sg, c, rfl, _⟩ := h
    rfl
  · obtain ⟨a, v, F, J, b, sg, c, rfl, f, hb, hs, hok, R⟩ := h
    refine ⟨_, pss_cons (ps_set (i := 2) sc_reply_to_early.nd rfl (.inl rfl) (pe_ix ix_list (pv 1) pe_int (fun _ _ => rfl)))
      (pss_cons (ps_if (pt_cmpR op_eq (pv 2) pe_int (nomark _)) (pss_one (ps_ret (pe_call G0 hr rfl T.reply_begin.g T.reply_begin.fn.kp T.reply_begin.b .nil pass0 (pa_cons (pv 0) pa_nil)))) pss_nil)
      (pss_cons (ps_if (pt_cmpR op_eq (pv 2) pe_int (nomark _)) (pss_one (ps_ret (pe_call G1 hr rfl T.reply_slice.g T.reply_slice.fn.kp T.reply_slice.b .nil pass0 (pa_cons (pv 0) (pa_cons (pe_ix ix_list (pv 1) pe_int (fun _ _ => rfl)) (pa_cons (pe_slice sl_list (pv 1) (po_some pe_int) po_none) pa_nil)))))) pss_nil)
      (pss_cons (ps_if (pt_cmpR op_eq (pv 2) pe_int (nomark _)) (pss_one (ps_ret (pe_call G2 hr rfl T.reply_hull.g T.reply_hull.fn.kp T.reply_hull.b .nil pass0 (pa_cons (pv 0) (pa_cons (pe_ix ix_list (pv 1) pe_int (fun _ _ => rfl)) pa_nil))))) pss_nil)
      (pss_cons (ps_if (pt_cmpR op_eq (pv 2) pe_int (nomark _)) (pss_one (ps_ret (pe_call G3 hr rfl T.reply_inside.g T.reply_inside.fn.kp T.reply_inside.b .nil pass0 (pa_cons (pv 0) (pa_cons (pe_ix ix_list (pv 1) pe_int (fun _ _ => rfl)) pa_nil))))) pss_nil)
      (pss_cons (ps_if (pt_cmpR op_eq (pv 2) pe_int (nomark _)) (pss_one (ps_ret (pe_call G4 hr rfl T.reply_support.g T.reply_support.fn.kp T.reply_support.b .nil pass0 (pa_cons (pv 0) (pa_cons (pe_ix ix_list (pv 1) pe_int (fun _ _ => rfl)) (pa_cons (pe_ix ix_list (pv 1) pe_int (fun _ _ => rfl)) (pa_cons (pe_ix ix_list (pv 1) pe_int (fun _ _ => rfl)) pa_nil))))))) pss_nil)
      (pss_cons (ps_if (pt_cmpR op_eq (pv 2) pe_int (nomark _)) (pss_one (ps_ret (pe_call G5 hr rfl T.reply_least.g T.reply_least.fn.kp T.reply_least.b .nil pass0 (pa_cons (pv 0) (pa_cons (pe_ix ix_list (pv 1) pe_int (fun _ _ => rfl)) (pa_cons (pe_ix ix_list (pv 1) pe_int (fun _ _ => rfl)) (pa_cons (pe_ix ix_list (pv 1) pe_int (fun _ _ => rfl)) pa_nil))))))) pss_nil)
      (pss_cons (ps_if (pt_cmpR op_eq (pv 2) pe_int (nomark _)) (pss_one (ps_ret (pe_call G6 hr rfl T.reply_way.g T.reply_way.fn.kp T.reply_way.b .nil pass0 (pa_cons (pv 0) (pa_cons (pe_ix ix_list (pv 1) pe_int (fun _ _ => rfl)) (pa_cons (pe_ix ix_list (pv 1) pe_int (fun _ _ => rfl)) (pa_cons (pe_ix ix_list (pv 1) pe_int (fun _ _ => rfl)) pa_nil))))))) pss_nil)
      (pss_one (ps_ret (pe_call G7 hr rfl T.reply_reach.g T.reply_reach.fn.kp T.reply_reach.b .nil pass0 (pa_cons (pv 0) (pa_cons (pe_ix ix_list (pv 1) pe_int (fun _ _ => rfl)) (pa_cons (pe_ix ix_list (pv 1) pe_int (fun _ _ => rfl)) (pa_cons (pe_ix ix_list (pv 1) pe_int (fun _ _ => rfl)) (pa_cons (pe_ix ix_list (pv 1) pe_int (fun _ _ => rfl)) pa_nil))))))))))))))), ?_⟩
    cases hs with
    | c0 =>
      refine ⟨_, rfl, b, _, _, _, rfl, rfl, hb, atI_nat (j := 0) rfl, ?_⟩
      refine ⟨_, rfl, rfl, _, rfl, ite2 (fun _ => ?_) (fun e => yes_eq e)⟩
      exact ⟨_, rfl, a, v, F, J, rfl, f, R⟩
    | @c1 t n l hl =>
      refine ⟨_, rfl, b, _, _, _, rfl, rfl, hb, atI_nat (j := 0) rfl, ?_⟩
      refine ⟨_, rfl, rfl, _, rfl, ite2 (fun e => no_eq (by decide) e) (fun _ => ?_)⟩
      refine ⟨_, rfl, rfl, _, rfl, ite2 (fun _ => ?_) (fun e => yes_eq e)⟩
      refine ⟨_, rfl, _, rfl, b, _, _, _, rfl, rfl, hb, atI_nat (j := 1) rfl, _, rfl, _, rfl, b, _, rfl, hb, fun d nd => ?_⟩
      rw [List.map_cons, List.map_cons, List.map_cons, cut3]
      have s1 := same_upd (o := .lst (l.map V.int)) nd
      exact ⟨a, v, F, J, _, d, _, rfl, f.same s1, SqL.of upd_same, hl, R.after s1⟩
    | c2 =>
      refine ⟨_, rfl, b, _, _, _, rfl, rfl, hb, atI_nat (j := 0) rfl, ?_⟩
      refine ⟨_, rfl, rfl, _, rfl, ite2 (fun e => no_eq (by decide) e) (fun _ => ?_)⟩
      refine ⟨_, rfl, rfl, _, rfl, ite2 (fun e => no_eq (by decide) e) (fun _ => ?_)⟩
      refine ⟨_, rfl, rfl, _, rfl, ite2 (fun _ => ?_) (fun e => yes_eq e)⟩
      exact ⟨_, rfl, _, rfl, b, _, _, _, rfl, rfl, hb, atI_nat (j := 1) rfl, a, v, F, J, _, rfl, f, R⟩
    | c3 =>
      refine ⟨_, rfl, b, _, _, _, rfl, rfl, hb, atI_nat (j := 0) rfl, ?_⟩
      refine ⟨_, rfl, rfl, _, rfl, ite2 (fun e => no_eq (by decide) e) (fun _ => ?_)⟩
      refine ⟨_, rfl, rfl, _, rfl, ite2 (fun e => no_eq (by decide) e) (fun _ => ?_)⟩
      refine ⟨_, rfl, rfl, _, rfl, ite2 (fun e => no_eq (by decide) e) (fun _ => ?_)⟩
      refine ⟨_, rfl, rfl, _, rfl, ite2 (fun _ => ?_) (fun e => yes_eq e)⟩
      exact ⟨_, rfl, _, rfl, b, _, _, _, rfl, rfl, hb, atI_nat (j := 1) rfl, a, v, F, J, _, rfl, f, R⟩
    | c4 =>
      refine ⟨_, rfl, b, _, _, _, rfl, rfl, hb, atI_nat (j := 0) rfl, ?_⟩
      refine ⟨_, rfl, rfl, _, rfl, ite2 (fun e => no_eq (by decide) e) (fun _ => ?_)⟩
      refine ⟨_, rfl, rfl, _, rfl, ite2 (fun e => no_eq (by decide) e) (fun _ => ?_)⟩
      refine ⟨_, rfl, rfl, _, rfl, ite2 (fun e => no_eq (by decide) e) (fun _ => ?_)⟩
      refine ⟨_, rfl, rfl, _, rfl, ite2 (fun e => no_eq (by decide) e) (fun _ => ?_)⟩
      refine ⟨_, rfl, rfl, _, rfl, ite2 (fun _ => ?_) (fun e => yes_eq e)⟩
      exact ⟨_, rfl, _, rfl, b, _, _, _, rfl, rfl, hb, atI_nat (j := 1) rfl, _, rfl, b, _, _, _, rfl, rfl, hb, atI_nat (j := 2) rfl, _, rfl, b, _, _, _, rfl, rfl, hb, atI_nat (j := 3) rfl, a, v, F, J, _, _, _, rfl, f, R⟩
    | c5 =>
      refine ⟨_, rfl, b, _, _, _, rfl, rfl, hb, atI_nat (j := 0) rfl, ?_⟩
      refine ⟨_, rfl, rfl, _, rfl, ite2 (fun e => no_eq (by decide) e) (fun _ => ?_)⟩
      refine ⟨_, rfl, rfl, _, rfl, ite2 (fun e => no_eq (by decide) e) (fun _ => ?_)⟩
      refine ⟨_, rfl, rfl, _, rfl, ite2 (fun e => no_eq (by decide) e) (fun _ => ?_)⟩
      refine ⟨_, rfl, rfl, _, rfl, ite2 (fun e => no_eq (by decide) e) (fun _ => ?_)⟩
      refine ⟨_, rfl, rfl, _, rfl, ite2 (fun e => no_eq (by decide) e) (fun _ => ?_)⟩
      refine ⟨_, rfl, rfl, _, rfl, ite2 (fun _ => ?_) (fun e => yes_eq e)⟩
      exact ⟨_, rfl, _, rfl, b, _, _, _, rfl, rfl, hb, atI_nat (j := 1) rfl, _, rfl, b, _, _, _, rfl, rfl, hb, atI_nat (j := 2) rfl, _, rfl, b, _, _, _, rfl, rfl, hb, atI_nat (j := 3) rfl, a, v, F, J, _, _, _, rfl, f, R⟩
    | c6 =>
      refine ⟨_, rfl, b, _, _, _, rfl, rfl, hb, atI_nat (j := 0) rfl, ?_⟩
      refine ⟨_, rfl, rfl, _, rfl, ite2 (fun e => no_eq (by decide) e) (fun _ => ?_)⟩
      refine ⟨_, rfl, rfl, _, rfl, ite2 (fun e => no_eq (by decide) e) (fun _ => ?_)⟩
      refine ⟨_, rfl, rfl, _, rfl, ite2 (fun e => no_eq (by decide) e) (fun _ => ?_)⟩
      refine ⟨_, rfl, rfl, _, rfl, ite2 (fun e => no_eq (by decide) e) (fun _ => ?_)⟩
      refine ⟨_, rfl, rfl, _, rfl, ite2 (fun e => no_eq (by decide) e) (fun _ => ?_)⟩
      refine ⟨_, rfl, rfl, _, rfl, ite2 (fun e => no_eq (by decide) e) (fun _ => ?_)⟩
      refine ⟨_, rfl, rfl, _, rfl, ite2 (fun _ => ?_) (fun e => yes_eq e)⟩
      exact ⟨_, rfl, _, rfl, b, _, _, _, rfl, rfl, hb, atI_nat (j := 1) rfl, _, rfl, b, _, _, _, rfl, rfl, hb, atI_nat (j := 2) rfl, _, rfl, b, _, _, _, rfl, rfl, hb, atI_nat (j := 3) rfl, a, v, F, J, _, _, _, rfl, f, R⟩
    | c7 =>
      refine ⟨_, rfl, b, _, _, _, rfl, rfl, hb, atI_nat (j := 0) rfl, ?_⟩
      refine ⟨_, rfl, rfl, _, rfl, ite2 (fun e => no_eq (by decide) e) (fun _ => ?_)⟩
      refine ⟨_, rfl, rfl, _, rfl, ite2 (fun e => no_eq (by decide) e) (fun _ => ?_)⟩
      refine ⟨_, rfl, rfl, _, rfl, ite2 (fun e => no_eq (by decide) e) (fun _ => ?_)⟩
      refine ⟨_, rfl, rfl, _, rfl, ite2 (fun e => no_eq (by decide) e) (fun _ => ?_)⟩
      refine ⟨_, rfl, rfl, _, rfl, ite2 (fun e => no_eq (by decide) e) (fun _ => ?_)⟩
      refine ⟨_, rfl, rfl, _, rfl, ite2 (fun e => no_eq (by decide) e) (fun _ => ?_)⟩
      refine ⟨_, rfl, rfl, _, rfl, ite2 (fun e => no_eq (by decide) e) (fun _ => ?_)⟩
      exact ⟨_, rfl, _, rfl, b, _, _, _, rfl, rfl, hb, atI_nat (j := 1) rfl, _, rfl, b, _, _, _, rfl, rfl, hb, atI_nat (j := 2) rfl, _, rfl, b, _, _, _, rfl, rfl, hb, atI_nat (j := 3) rfl, _, rfl, b, _, _, _, rfl, rfl, hb, atI_nat (j := 4) rfl, a, v, F, J, _, _, _, _, rfl, f, R⟩
    | c8 => exact absurd (hok _ rfl) (by decide)
    | c9 => exact absurd (hok _ rfl) (by decide)
    | c10 => exact absurd (hok _ rfl) (by decide)
    | c11 => exact absurd (hok _ rfl) (by decide)
    | c12 => exact absurd (hok _ rfl) (by decide)
    | c13 => exact absurd (hok _ rfl) (by decide)
    | c14 => exact absurd (hok _ rfl) (by decide)
theorem okLate (T : Tx K mg) {tb : Addr} (N : Bs P w K mg base T tb) {k : Nat} : FnOk P w K mg base CX0 (k + 10) T.reply_to_late.f T.reply_to_late.fd ["forecast", "call"] (spTo K T.CForecast (lamTabs tb) (fun p => 8 ≤ p)) := by
  have G8 : FnOk P w K mg base CX0 (k + 9) T.reply_set.f T.reply_set.fd ["forecast", "t", "u"] (spR2 K T.CForecast (lamTabs tb) .set) := okRSet T
  have G9 : FnOk P w K mg base CX0 (k + 9) T.reply_course.f T.reply_course.fd ["forecast", "t", "numbers"] (spRL K T.CForecast (lamTabs tb) .course) := okRCourse T
  have G10 : FnOk P w K mg base CX0 (k + 9) T.reply_all.f T.reply_all.fd ["forecast"] (spR0 K T.CForecast (lamTabs tb) .all) := okRAll T N
  have G11 : FnOk P w K mg base CX0 (k + 9) T.reply_bound.f T.reply_bound.fd ["forecast", "numbers"] (spRB K T.CForecast (lamTabs tb)) := okRBound T N
  have G12 : FnOk P w K mg base CX0 (k + 9) T.reply_check.f T.reply_check.fd ["forecast", "t", "numbers"] (spRL K T.CForecast (lamTabs tb) .check) := okRCheck T
  have G13 : FnOk P w K mg base CX0 (k + 9) T.reply_speed.f T.reply_speed.fd ["forecast", "i", "a", "b"] (spRI2 K T.CForecast (lamTabs tb) .speed) := okRSpeed T N
  have G14 : FnOk P w K mg base CX0 (k + 9) T.reply_slices.f T.reply_slices.fd ["forecast"] (spRSlices K T.CForecast (lamTabs tb)) := okRSlices T
  refine T.reply_to_late.fn.ok sc_reply_to_late (fun vs H Q E h => ?_) (fun cdv A outer s H vs Q E hr h => ?_)
  · obtain ⟨a, v, F, J, b, sg, c, rfl, _⟩ := h
    rfl
  · obtain ⟨a, v, F, J, b, sg, c, rfl, f, hb, hs, hok, R⟩ := h
    refine ⟨_, pss_cons (ps_set (i := 2) sc_reply_to_late.nd rfl (.inl rfl) (pe_ix ix_list (pv 1) pe_int (fun _ _ => rfl)))
      (pss_cons (ps_if (pt_cmpR op_eq (pv 2) pe_int (nomark _)) (pss_one (ps_ret (pe_call G8 hr rfl T.reply_set.g T.reply_set.fn.kp T.reply_set.b .nil pass0 (pa_cons (pv 0) (pa_cons (pe_ix ix_list (pv 1) pe_int (fun _ _ => rfl)) (pa_cons (pe_ix ix_list (pv 1) pe_int (fun _ _ => rfl)) pa_nil)))))) pss_nil)
      (pss_cons (ps_if (pt_cmpR op_eq (pv 2) pe_int (nomark _)) (pss_one (ps_ret (pe_call G9 hr rfl T.reply_course.g T.reply_course.fn.kp T.reply_course.b .nil pass0 (pa_cons (pv 0) (pa_cons (pe_ix ix_list (pv 1) pe_int (fun _ _ => rfl)) (pa_cons (pe_slice sl_list (pv 1) (po_some pe_int) po_none) pa_nil)))))) pss_nil)
      (pss_cons (ps_if (pt_cmpR op_eq (pv 2) pe_int (nomark _)) (pss_one (ps_ret (pe_call G10 hr rfl T.reply_all.g T.reply_all.fn.kp T.reply_all.b .nil pass0 (pa_cons (pv 0) pa_nil)))) pss_nil)
      (pss_cons (ps_if (pt_cmpR op_eq (pv 2) pe_int (nomark _)) (pss_one (ps_ret (pe_call G11 hr rfl T.reply_bound.g T.reply_bound.fn.kp T.reply_bound.b .nil pass0 (pa_cons (pv 0) (pa_cons (pe_slice sl_list (pv 1) (po_some pe_int) po_none) pa_nil))))) pss_nil)
      (pss_cons (ps_if (pt_cmpR op_eq (pv 2) pe_int (nomark _)) (pss_one (ps_ret (pe_call G12 hr rfl T.reply_check.g T.reply_check.fn.kp T.reply_check.b .nil pass0 (pa_cons (pv 0) (pa_cons (pe_ix ix_list (pv 1) pe_int (fun _ _ => rfl)) (pa_cons (pe_slice sl_list (pv 1) (po_some pe_int) po_none) pa_nil)))))) pss_nil)
      (pss_cons (ps_if (pt_cmpR op_eq (pv 2) pe_int (nomark _)) (pss_one (ps_ret (pe_call G13 hr rfl T.reply_speed.g T.reply_speed.fn.kp T.reply_speed.b .nil pass0 (pa_cons (pv 0) (pa_cons (pe_ix ix_list (pv 1) pe_int (fun _ _ => rfl)) (pa_cons (pe_ix ix_list (pv 1) pe_int (fun _ _ => rfl)) (pa_cons (pe_ix ix_list (pv 1) pe_int (fun _ _ => rfl)) pa_nil))))))) pss_nil)
      (pss_one (ps_ret (pe_call G14 hr rfl T.reply_slices.g T.reply_slices.fn.kp T.reply_slices.b .nil pass0 (pa_cons (pv 0) pa_nil)))))))))), ?_⟩
    cases hs with
    | c0 => exact absurd (hok _ rfl) (by decide)
    | c1 => exact absurd (hok _ rfl) (by decide)
    | c2 => exact absurd (hok _ rfl) (by decide)
    | c3 => exact absurd (hok _ rfl) (by decide)
    | c4 => exact absurd (hok _ rfl) (by decide)
    | c5 => exact absurd (hok _ rfl) (by decide)
    | c6 => exact absurd (hok _ rfl) (by decide)
    | c7 => exact absurd (hok _ rfl) (by decide)
    | c8 =>
      refine ⟨_, rfl, b, _, _, _, rfl, rfl, hb, atI_nat (j := 0) rfl, ?_⟩
      refine ⟨_, rfl, rfl, _, rfl, ite2 (fun _ => ?_) (fun e => yes_eq e)⟩
      exact ⟨_, rfl, _, rfl, b, _, _, _, rfl, rfl, hb, atI_nat (j := 1) rfl, _, rfl, b, _, _, _, rfl, rfl, hb, atI_nat (j := 2) rfl, a, v, F, J, _, _, rfl, f, R⟩
    | @c9 t n l hl =>
      refine ⟨_, rfl, b, _, _, _, rfl, rfl, hb, atI_nat (j := 0) rfl, ?_⟩
      refine ⟨_, rfl, rfl, _, rfl, ite2 (fun e => no_eq (by decide) e) (fun _ => ?_)⟩
      refine ⟨_, rfl, rfl, _, rfl, ite2 (fun _ => ?_) (fun e => yes_eq e)⟩
      refine ⟨_, rfl, _, rfl, b, _, _, _, rfl, rfl, hb, atI_nat (j := 1) rfl, _, rfl, _, rfl, b, _, rfl, hb, fun d nd => ?_⟩
      rw [List.map_cons, List.map_cons, List.map_cons, cut3]
      have s1 := same_upd (o := .lst (l.map V.int)) nd
      exact ⟨a, v, F, J, _, d, _, rfl, f.same s1, SqL.of upd_same, hl, R.after s1⟩
    | c10 =>
      refine ⟨_, rfl, b, _, _, _, rfl, rfl, hb, atI_nat (j := 0) rfl, ?_⟩
      refine ⟨_, rfl, rfl, _, rfl, ite2 (fun e => no_eq (by decide) e) (fun _ => ?_)⟩
      refine ⟨_, rfl, rfl, _, rfl, ite2 (fun e => no_eq (by decide) e) (fun _ => ?_)⟩
      refine ⟨_, rfl, rfl, _, rfl, ite2 (fun _ => ?_) (fun e => yes_eq e)⟩
      exact ⟨_, rfl, a, v, F, J, rfl, f, R⟩
    | @c11 n l hl =>
      refine ⟨_, rfl, b, _, _, _, rfl, rfl, hb, atI_nat (j := 0) rfl, ?_⟩
      refine ⟨_, rfl, rfl, _, rfl, ite2 (fun e => no_eq (by decide) e) (fun _ => ?_)⟩
      refine ⟨_, rfl, rfl, _, rfl, ite2 (fun e => no_eq (by decide) e) (fun _ => ?_)⟩
      refine ⟨_, rfl, rfl, _, rfl, ite2 (fun e => no_eq (by decide) e) (fun _ => ?_)⟩
      refine ⟨_, rfl, rfl, _, rfl, ite2 (fun _ => ?_) (fun e => yes_eq e)⟩
      refine ⟨_, rfl, _, rfl, _, rfl, b, _, rfl, hb, fun d nd => ?_⟩
      rw [List.map_cons, List.map_cons, cut2]
      have s1 := same_upd (o := .lst (l.map V.int)) nd
      exact ⟨a, v, F, J, d, _, rfl, f.same s1, SqL.of upd_same, hl, R.after s1⟩
    | @c12 t n l hl =>
      refine ⟨_, rfl, b, _, _, _, rfl, rfl, hb, atI_nat (j := 0) rfl, ?_⟩
      refine ⟨_, rfl, rfl, _, rfl, ite2 (fun e => no_eq (by decide) e) (fun _ => ?_)⟩
      refine ⟨_, rfl, rfl, _, rfl, ite2 (fun e => no_eq (by decide) e) (fun _ => ?_)⟩
      refine ⟨_, rfl, rfl, _, rfl, ite2 (fun e => no_eq (by decide) e) (fun _ => ?_)⟩
      refine ⟨_, rfl, rfl, _, rfl, ite2 (fun e => no_eq (by decide) e) (fun _ => ?_)⟩
      refine ⟨_, rfl, rfl, _, rfl, ite2 (fun _ => ?_) (fun e => yes_eq e)⟩
      refine ⟨_, rfl, _, rfl, b, _, _, _, rfl, rfl, hb, atI_nat (j := 1) rfl, _, rfl, _, rfl, b, _, rfl, hb, fun d nd => ?_⟩
      rw [List.map_cons, List.map_cons, List.map_cons, cut3]
      have s1 := same_upd (o := .lst (l.map V.int)) nd
      exact ⟨a, v, F, J, _, d, _, rfl, f.same s1, SqL.of upd_same, hl, R.after s1⟩
    | c13 =>
      refine ⟨_, rfl, b, _, _, _, rfl, rfl, hb, atI_nat (j := 0) rfl, ?_⟩
      refine ⟨_, rfl, rfl, _, rfl, ite2 (fun e => no_eq (by decide) e) (fun _ => ?_)⟩
      refine ⟨_, rfl, rfl, _, rfl, ite2 (fun e => no_eq (by decide) e) (fun _ => ?_)⟩
      refine ⟨_, rfl, rfl, _, rfl, ite2 (fun e => no_eq (by decide) e) (fun _ => ?_)⟩
      refine ⟨_, rfl, rfl, _, rfl, ite2 (fun e => no_eq (by decide) e) (fun _ => ?_)⟩
      refine ⟨_, rfl, rfl, _, rfl, ite2 (fun e => no_eq (by decide) e) (fun _ => ?_)⟩
      refine ⟨_, rfl, rfl, _, rfl, ite2 (fun _ => ?_) (fun e => yes_eq e)⟩
      exact ⟨_, rfl, _, rfl, b, _, _, _, rfl, rfl, hb, atI_nat (j := 1) rfl, _, rfl, b, _, _, _, rfl, rfl, hb, atI_nat (j := 2) rfl, _, rfl, b, _, _, _, rfl, rfl, hb, atI_nat (j := 3) rfl, a, v, F, J, _, _, _, rfl, f, R⟩
    | c14 =>
      refine ⟨_, rfl, b, _, _, _, rfl, rfl, hb, atI_nat (j := 0) rfl, ?_⟩
      refine ⟨_, rfl, rfl, _, rfl, ite2 (fun e => no_eq (by decide) e) (fun _ => ?_)⟩
      refine ⟨_, rfl, rfl, _, rfl, ite2 (fun e => no_eq (by decide) e) (fun _ => ?_)⟩
      refine ⟨_, rfl, rfl, _, rfl, ite2 (fun e => no_eq (by decide) e) (fun _ => ?_)⟩
      refine ⟨_, rfl, rfl, _, rfl, ite2 (fun e => no_eq (by decide) e) (fun _ => ?_)⟩
      refine ⟨_, rfl, rfl, _, rfl, ite2 (fun e => no_eq (by decide) e) (fun _ => ?_)⟩
      refine ⟨_, rfl, rfl, _, rfl, ite2 (fun e => no_eq (by decide) e) (fun _ => ?_)⟩
      exact ⟨_, rfl, a, v, F, J, rfl, f, R⟩
theorem okTo (T : Tx K mg) {tb : Addr} (N : Bs P w K mg base T tb) {k : Nat} : FnOk P w K mg base CX0 (k + 11) T.reply_to.f T.reply_to.fd ["forecast", "call"] (spTo K T.CForecast (lamTabs tb) (fun _ => True)) := by
  have GE : FnOk P w K mg base CX0 (k + 10) T.reply_to_early.f T.reply_to_early.fd ["forecast", "call"] (spTo K T.CForecast (lamTabs tb) (fun p => p < 8)) := okEarly T N
  have GL : FnOk P w K mg base CX0 (k + 10) T.reply_to_late.f T.reply_to_late.fd ["forecast", "call"] (spTo K T.CForecast (lamTabs tb) (fun p => 8 ≤ p)) := okLate T N
  refine T.reply_to.fn.ok sc_reply_to (fun vs H Q E h => ?_) (fun cdv A outer s H vs Q E hr h => ?_)
  · obtain ⟨a, v, F, J, b, sg, c, rfl, _⟩ := h
    rfl
  · obtain ⟨a, v, F, J, b, sg, c, rfl, f, hb, hs, _, R⟩ := h
    refine ⟨_, pss_cons (ps_if (pt_cmpR op_lt (pe_ix ix_list (pv 1) pe_int (fun _ _ => rfl)) pe_int (nomark _)) (pss_one (ps_ret (pe_call GE hr rfl T.reply_to_early.g T.reply_to_early.fn.kp T.reply_to_early.b .nil pass0 (pa_cons (pv 0) (pa_cons (pv 1) pa_nil))))) pss_nil)
      (pss_one (ps_ret (pe_call GL hr rfl T.reply_to_late.g T.reply_to_late.fn.kp T.reply_to_late.b .nil pass0 (pa_cons (pv 0) (pa_cons (pv 1) pa_nil))))), ?_⟩
    obtain ⟨p, hp⟩ : ∃ p, sg[0]? = some p := by cases hs <;> exact ⟨_, rfl⟩
    refine ⟨_, rfl, b, _, _, _, rfl, rfl, hb, atI_nat (j := 0) (by rw [List.getElem?_map, hp]; rfl), _, _, rfl, rfl, _, rfl, ite2 (fun e => ?_) (fun e => ?_)⟩
    · have e : p < 8 := of_decide_eq_true e
      exact ⟨_, rfl, _, rfl, a, v, F, J, b, sg, c, rfl, f, hb, hs, fun p' h' => by rw [hp] at h'; rw [← Option.some.inj h']; exact e, R⟩
    · have e : ¬ p < 8 := fun z => e (decide_eq_true z)
      exact ⟨_, rfl, _, rfl, a, v, F, J, b, sg, c, rfl, f, hb, hs, fun p' h' => by rw [hp] at h'; rw [← Option.some.inj h']; omega, R⟩
end
end Sw
set_option maxHeartbeats 4000000
namespace Sw
open PySem PySem.Spec PyProof.Rows L2 LamX
open Vbreac (Pt Frac Wind)
/-! ### The slices stay in form -/
theorem wok_nil : WOk 24 [] := ⟨List.Pairwise.nil, (fun _ h => nomatch h), (fun _ h => nomatch h), by decide⟩
theorem wok_step {v : Wind} (W : WOk 24 v) (c : Vbreac.Call) : WOk 24 (Vbreac.step v c).1 := by
  cases c with
  | begin_ => exact wok_nil
  | slice t l =>
    rw [slice_step v t l W.len]
    split
    · rename_i h1
      rw [Bool.and_eq_true] at h1
      split
      · rename_i h2
        split
        · exact W
        · rename_i h3
          obtain ⟨ws, e1, e2, e3, e4, e5⟩ := vels_some h1.2
          have ht := time_in h1.1
          rw [e1]
          show WOk 24 (v ++ [⟨t, ws⟩])
          have vl := W.len
          refine ⟨?_, fun s hs => ?_, fun s hs => ?_, by rw [List.length_append]; simp only [List.length_cons, List.length_nil]; omega⟩
          · rw [List.map_append, List.pairwise_append]
            refine ⟨W.up, by simp, fun x hx y hy => ?_⟩
            simp only [List.map_cons, List.map_nil, List.mem_cons, List.not_mem_nil, or_false] at hy
            rw [hy]
            have hne : v ≠ [] := fun z => by rw [z] at hx; cases hx
            obtain ⟨z, hz⟩ : ∃ z, v.getLast? = some z := ⟨_, List.getLast?_eq_some_getLast hne⟩
            have h2 : (match v.getLast? with | none => decide (t = 0) | some x => decide (x.from_ < t)) = true := h2
            rw [hz] at h2
            have h2 := of_decide_eq_true h2
            obtain ⟨pre, hpre⟩ := List.getLast?_eq_some_iff.mp hz
            have up := W.up
            rw [hpre, List.map_append, List.pairwise_append] at up
            rw [hpre, List.map_append, List.mem_append] at hx
            rcases hx with hx | hx
            · have := up.2.2 x hx z.from_ (by simp)
              show x < t
              omega
            · simp only [List.map_cons, List.map_nil, List.mem_cons, List.not_mem_nil, or_false] at hx
              show x < t
              omega
          · rcases List.mem_append.1 hs with y | y
            · exact W.rg s y
            · simp only [List.mem_cons, List.not_mem_nil, or_false] at y
              subst y
              exact ht
          · rcases List.mem_append.1 hs with y | y
            · exact W.vel s y
            · simp only [List.mem_cons, List.not_mem_nil, or_false] at y
              subst y
              exact ⟨e3.2, e4⟩
      · exact W
    · exact W
  | hull i => show WOk 24 (Vbreac.onSlice v i _).1; rw [on_slice]; exact W
  | inside i => show WOk 24 (Vbreac.onSlice v i _).1; rw [on_slice]; exact W
  | support i a b =>
    show WOk 24 (if _ then _ else Vbreac.onSlice v i _ : Vbreac.State × Vbreac.Ans).1
    rw [on_slice]
    split <;> exact W
  | least x y t =>
    show WOk 24 (if _ then _ else Vbreac.onWind v _ : Vbreac.State × Vbreac.Ans).1
    rw [on_wind]
    split <;> exact W
  | way x y t => rw [way_step]; exact W
  | reach x y t u =>
    show WOk 24 (if _ then _ else Vbreac.onWind v _ : Vbreac.State × Vbreac.Ans).1
    rw [on_wind]
    split <;> exact W
  | set t u =>
    show WOk 24 (if _ then _ else Vbreac.onWind v _ : Vbreac.State × Vbreac.Ans).1
    rw [on_wind]
    split <;> exact W
  | course t l => rw [course_step]; exact W
  | all => show WOk 24 (Vbreac.onWind v _).1; rw [on_wind]; exact W
  | bound l => rw [bound_step]; exact W
  | check t l => rw [check_step]; exact W
  | speed i a b =>
    show WOk 24 (if _ then _ else Vbreac.onSlice v i _ : Vbreac.State × Vbreac.Ans).1
    rw [on_slice]
    split <;> exact W
  | slices => exact W
section
variable {P : Program} {w : World} {K : PySem.W.Frag} {mg : Str → Option Value} {base : Heap}
/-! ### answers -/
/-- The list handed in stands as it was. -/
def Held (K : PySem.W.Frag) (H : Hp) (b tl : Addr) (xs : List V) (F : Fc) (J : Option (Addr × Fc)) : Prop :=
  (H b = some (.lst xs) ∧ OffJ b F J ∧ b ≠ tl) ∨ (∃ o, H b = some (.frz o (.lst xs))) ∨
    ∃ (o : Obj) (its : Array Value) (n : Nat), K.lookup b = some o ∧ o.cls = .type "list" ∧ o.dict = none ∧ o.data = .seq its n ∧ its.size ≤ sizeLine ∧ Vals xs its.toList
theorem Held.sqL {H : Hp} {b tl : Addr} {xs : List V} {F : Fc} {J : Option (Addr × Fc)} (h : Held K H b tl xs F J) : SqL K H b xs := by
  rcases h with h | h | h
  · exact .inl (.inl h.1)
  · exact .inl (.inr h)
  · exact .inr h
theorem tabs_updL {H : Hp} {D : Addr} {ys : List V} {o : HO} {T : List (Addr × Str)} (hD : H D = some (.lst ys)) (t : Tabs T H) : Tabs T (upd H D o) := fun p hp => by
  obtain ⟨ps, h1, h2, h3⟩ := t p hp
  refine ⟨ps, by rw [upd_ne (ne_of h1 hD (by intro z; cases z))]; exact h1, h2, fun pos cv hv => ?_⟩
  obtain ⟨c0, e1, e2⟩ := h3 pos cv hv
  exact ⟨c0, e1, by rw [upd_ne (ne_of e2 hD (by intro z; cases z))]; exact e2⟩
theorem cut_two (xs : List V) (i e : Nat) (h : i + e ≤ xs.length) : cutV xs (some ((i : Nat) : Int)) (some ((i + e : Nat) : Int)) = (xs.drop i).take e := by
  have := cut_mid xs i e h
  rw [← this]
  congr 2
def spAns (K : PySem.W.Frag) (tb : Addr) : Sp := fun vs H Q _ => ∃ (b : Addr) (l : List Int), vs = [.ref b] ∧ SqL K H b (l.map V.int) ∧ PyVbreac.answers_asked l = true ∧ Tabs (lamTabs tb) H ∧
  ∀ (H' : Hp) (p : Addr), H' p = some (.lst ((PyVbreac.answers l).map V.int)) → Q (.ref p) H'
theorem okAnswers (T : Tx K mg) {tb : Addr} (N : Bs P w K mg base T tb) {k : Nat} : FnOk P w K mg base CX0 (k + 12) T.answers.f T.answers.fd ["calls"] (spAns K tb) := by
  have GI : FnOk P w K mg base CX0 (k + 10) T.Forecast_init.f T.Forecast_init.fd ["self"] (spFcInit K T.CForecast) := okFcInit T
  have GE : FnOk P w K mg base CX0 (k + 11) T.call_end.f T.call_end.fd ["calls", "at"] (spEnd K) := okEnd T
  have GT : FnOk P w K mg base CX0 (k + 11) T.reply_to.f T.reply_to.fd ["forecast", "call"] (spTo K T.CForecast (lamTabs tb) (fun _ => True)) := okTo T N
  refine T.answers.fn.ok sc_answers (fun vs H Q E h => ?_) (fun cdv A outer s H vs Q E hr h => ?_)
  · obtain ⟨b, l, rfl, _⟩ := h
    rfl
  · obtain ⟨b, l, rfl, hb, hask, hTb, k⟩ := h
    refine ⟨_, pss_cons (ps_set (i := 1) sc_answers.nd rfl (.inl rfl) (pe_make0 T.kForecast GI hr rfl T.gForecast T.Forecast_init.b .nil pass0))
      (pss_cons (ps_set (i := 2) sc_answers.nd rfl (.inl rfl) (pe_lst pa_nil))
      (pss_cons (ps_set (i := 3) sc_answers.nd rfl (.inl rfl) pe_int)
      (pss_cons (ps_while PassesOwn.never (pt_cmpR op_lt (pv 3) (pe_callB call_len_seq (by rfl) T.nb.len_ PySem.boot_len (pa_cons (pv 0) pa_nil)) (nomark _))
        (pss_cons (ps_set (i := 4) sc_answers.nd rfl (.inl rfl) (pe_call GE hr rfl T.call_end.g T.call_end.fn.kp T.call_end.b .nil pass0 (pa_cons (pv 0) (pa_cons (pv 3) pa_nil))))
        (pss_cons (ps_set (i := 5) sc_answers.nd rfl (.inl rfl) (pe_call GT hr rfl T.reply_to.g T.reply_to.fn.kp T.reply_to.b .nil pass0 (pa_cons (pv 1) (pa_cons (pe_slice sl_list (pv 0) (po_some (pv 3)) (po_some (pv 4))) pa_nil))))
        (pss_cons (ps_expr (pe_bm PySem.F.plainAttrs_list PySem.F.slot_list_append PySem.F.type_list_append mt_append (pv 2) (pa_cons (pe_callB call_len_seq (by rfl) T.nb.len_ PySem.boot_len (pa_cons (pv 5) pa_nil)) pa_nil)))
        (pss_cons (ps_expr (pe_bm PySem.F.plainAttrs_list PySem.F.slot_list_extend PySem.F.type_list_extend mt_extend (pv 2) (pa_cons (pv 5) pa_nil)))
        (pss_one (ps_set (i := 3) sc_answers.nd rfl (.inl rfl) (pv 4))))))))
      (pss_one (ps_ret (pv 2)))))), ?_⟩
    obtain ⟨left0, total⟩ := Ps.Left.start hask
    intro x dx nx nd ne
    refine ⟨x, dx, rfl, upd_same, fun H1 F0 k1 hF0 fj nb nh fo => ⟨rfl, ?_⟩⟩
    have s1 : Same H H1 := Same.made nx nd k1
    have off0 : ∀ o u, H o = some u → Off o F0 := fun o u ho => fo o u (by rw [upd_ne (ne_of_none ho nx), upd_ne (ne_of_none ho nd)]; exact ho)
    refine ⟨Nat.zero_le _, fun tl ntl => ?_⟩
    have s2 := same_upd (o := .lst []) ntl
    have held0 : Held K (upd H1 tl (.lst [])) b tl (l.map V.int) F0 none := by
      rcases hb with (h | ⟨o, h⟩) | h
      · exact .inl ⟨s2 _ _ (s1 _ _ h), ⟨off0 b _ h, fun _ _ z => nomatch z⟩, ne_of_none (s1 _ _ h) ntl⟩
      · exact .inr (.inl ⟨o, s2 _ _ (s1 _ _ h)⟩)
      · exact .inr (.inr h)
    refine while_by (fun σ H' => ∃ (i : Nat) (v4 v5 : Option V) (v : Wind) (F : Fc) (J : Option (Addr × Fc)) (ts out : List Int), σ = [some (.ref b), some (.ref x), some (.ref tl), some (.int (i : Nat)), v4, v5] ∧ FcS K T.CForecast (lamTabs tb) H' x v F J ∧ H' tl = some (.lst (ts.map V.int)) ∧ OffJ tl F J ∧ Held K H' b tl (l.map V.int) F J ∧ i ≤ l.length ∧ Ps.Left v (l.drop i) out ∧ ts ++ out = PyVbreac.answers l)
      (fun σ _ => l.length - slotI σ 3) ⟨0, none, none, [], F0, none, [], PyVbreac.answers l, rfl, ⟨⟨hF0.same s2, fj⟩, wok_nil, (hTb.ext s1).ext s2⟩, upd_same, ⟨hF0.off ntl, fun _ _ z => nomatch z⟩, held0, Nat.zero_le _, left0, rfl⟩ ?_ ?_
    · rintro σ H2 ⟨i, v4, v5, v, F, J, ts, out, rfl, f, htl, off, held, hi, left, eq⟩
      refine ⟨_, rfl, _, rfl, b, _, rfl, .inl held.sqL, _, _, rfl, rfl, _, rfl, ?_⟩
      rw [List.length_map]
      refine ite2 (fun e => ?_) (fun e => ?_)
      · have e : ((i : Nat) : Int) < ((l.length : Nat) : Int) := of_decide_eq_true e
        obtain ⟨sg, c, t, out', h1, h2, h3, h4, h5⟩ := left.cons (by
          intro z
          have := congrArg List.length z
          rw [List.length_drop, List.length_nil] at this
          omega)
        have lsg : i + sg.length ≤ l.length := by
          have := congrArg List.length h1
          rw [List.length_drop, List.length_append] at this
          omega
        have psg : 0 < sg.length := by cases h2 <;> simp
        have eT := congrArg List.length eq
        rw [List.length_append, h5, List.length_cons, List.length_append] at eT
        refine ⟨_, rfl, _, rfl, b, l, i, sg.length, rfl, held.sqL, h3, ?_⟩
        refine ⟨_, rfl, _, rfl, _, rfl, _, rfl, _, rfl, _, rfl, b, _, rfl, held.sqL, fun d nd2 => ?_⟩
        rw [cut_two _ _ _ (by rw [List.length_map]; exact lsg)]
        have esg : ((l.map V.int).drop i).take sg.length = sg.map V.int := by
          rw [← List.map_drop, h1, ← List.map_take, List.take_append_of_le_length (Nat.le_refl _), List.take_length]
        rw [esg]
        have s3 := same_upd (o := .lst (sg.map V.int)) nd2
        have f3 := f.same s3
        refine ⟨x, v, F, J, d, sg, c, rfl, f3, SqL.of upd_same, h2, fun _ _ => trivial, fun H4 q st nq hq => ?_⟩
        obtain ⟨F4, J4, a1, a2, a3, a4, a5⟩ := st
        have htl3 := s3 _ _ htl
        have htl4 := a3 tl _ htl3 off
        have off4 := a5 tl _ htl3 off
        have held4 : Held K H4 b tl (l.map V.int) F4 J4 := by
          rcases held with ⟨h, o, n⟩ | ⟨o, h⟩ | h
          · exact .inl ⟨a3 b _ (s3 _ _ h) o, a5 b _ (s3 _ _ h) o, n⟩
          · exact .inr (.inl ⟨o, a4 b o _ (s3 _ _ h)⟩)
          · exact .inr (.inr h)
        have nqt : q ≠ tl := fun z => nq _ (by rw [z]; exact htl3)
        refine ⟨_, rfl, .inl ⟨rfl, _, SqL.of htl4⟩, _, rfl, q, _, rfl, .inl (SqL.of hq), tl, _, _, rfl, rfl, htl4, ?_, ?_⟩
        · rw [List.length_map, sizeLine_eq]
          omega
        rw [List.length_map]
        have hq5 : upd H4 tl (.lst (ts.map V.int ++ [.int (((Vbreac.step v c).2.length : Nat) : Int)])) q = some (.lst ((Vbreac.step v c).2.map V.int)) := by
          rw [upd_ne nqt]
          exact hq
        refine ⟨_, rfl, .inl ⟨rfl, _, SqL.of upd_same⟩, _, rfl, tl, q, _, _, rfl, rfl, upd_same, hq5, ?_, ?_⟩
        · rw [List.length_append, List.length_map, List.length_map, sizeLine_eq]
          simp only [List.length_cons, List.length_nil]
          omega
        rw [upd_upd]
        have eL : ts.map V.int ++ [V.int (((Vbreac.step v c).2.length : Nat) : Int)] ++ (Vbreac.step v c).2.map V.int = (ts ++ (((Vbreac.step v c).2.length : Nat) : Int) :: (Vbreac.step v c).2).map V.int := by
          rw [List.map_append, List.map_cons, List.append_assoc]
          rfl
        rw [eL]
        refine ⟨_, rfl, ⟨i + sg.length, _, _, (Vbreac.step v c).1, F4, J4, ts ++ (((Vbreac.step v c).2.length : Nat) : Int) :: (Vbreac.step v c).2, out', rfl, ⟨a1.updL off4 htl4, wok_step f.w c, ?_⟩, upd_same, off4, ?_, lsg, ?_, ?_⟩, ?_⟩
        · exact tabs_updL htl4 a2
        · rcases held4 with ⟨h, o, n⟩ | ⟨o, h⟩ | h
          · exact .inl ⟨by rw [upd_ne n]; exact h, o, n⟩
          · exact .inr (.inl ⟨o, by rw [upd_ne (ne_of h htl4 (by intro z; cases z))]; exact h⟩)
          · exact .inr (.inr h)
        · have : l.drop (i + sg.length) = t := by rw [← List.drop_drop, h1, List.drop_left]
          rw [this]
          exact h4
        · rw [← eq, h5, List.append_assoc]
          rfl
        · show l.length - (((i + sg.length : Nat) : Int)).toNat < l.length - ((i : Nat) : Int).toNat
          omega
      · have e : ¬ ((i : Nat) : Int) < ((l.length : Nat) : Int) := fun z => e (decide_eq_true z)
        have hd : l.drop i = [] := List.drop_eq_nil_of_le (by omega)
        rw [hd] at left
        rw [left.nil, List.append_nil] at eq
        refine ⟨_, rfl, k H2 tl ?_⟩
        rw [htl, eq]
    · intro σ H Q Q' hQ hc
      obtain ⟨v1, f1, v2, f2, o1, y1, f3, f4, i1, j1, f5, f6, k1, f7, hc⟩ := hc
      exact ⟨v1, f1, v2, f2, o1, y1, f3, f4, i1, j1, f5, f6, k1, f7, hQ _ _ hc⟩
end
end Sw
set_option maxHeartbeats 2000000
namespace Sw
open PySem PySem.W PySem.Spec PyProof.Rows L2
/-! ### Masks all of whose slots are met: also 511 -/
structure MB (m : Nat) : Prop where
  odd : m % 2 = 1
  few : m ≤ 511
  met : ∀ (h : Int) {j : Nat}, j ≤ m → ∃ n, n ≤ m + 12 ∧ runI m (SetTable.bits h) n = j
theorem MB.of {m : Nat} (h : MaskOk m) : MB m := ⟨mask_odd h, (by rcases h with e | e | e <;> omega), fun z {j} hj => run_meets h z hj⟩
def sweep : Nat → Nat → Nat → Nat
  | 0, _, acc => acc
  | k + 1, x, acc => sweep k ((x * 5 + 1) % 512) (acc ||| (1 <<< x))
theorem lcg_shift (m i : Nat) : ∀ k, lcgI m ((i * 5 + 1) % (m + 1)) k = lcgI m i (k + 1)
  | 0 => rfl
  | k + 1 => by
    show (lcgI m _ k * 5 + 1) % (m + 1) = (lcgI m i (k + 1) * 5 + 1) % (m + 1)
    rw [lcg_shift m i k]
theorem lcg_zero (m : Nat) : ∀ k, lcgN m k = lcgI m 0 k
  | 0 => rfl
  | k + 1 => by
    show (lcgN m k * 5 + 1) % (m + 1) = (lcgI m 0 k * 5 + 1) % (m + 1)
    rw [lcg_zero m k]
theorem sweep_bit : ∀ (k x acc j : Nat), (sweep k x acc).testBit j = true → acc.testBit j = true ∨ ∃ b, b < k ∧ lcgI 511 x b = j
  | 0, _, _, _, h => .inl h
  | k + 1, x, acc, j, h => by
    rcases sweep_bit k _ _ j h with z | ⟨b, hb, e⟩
    · rw [Nat.testBit_or, Bool.or_eq_true] at z
      rcases z with z | z
      · exact .inl z
      · rw [Nat.testBit_shiftLeft, Bool.and_eq_true, decide_eq_true_eq] at z
        have e1 : j - x = 0 := by
          by_cases c : j - x = 0
          · exact c
          · have : Nat.testBit 1 (j - x) = false := by
              obtain ⟨y, hy⟩ : ∃ y, j - x = y + 1 := ⟨j - x - 1, by omega⟩
              rw [hy]
              simp [Nat.testBit_succ]
            rw [this] at z
            exact absurd z.2 (by decide)
        exact .inr ⟨0, by omega, by show x = j; omega⟩
    · exact .inr ⟨b + 1, by omega, by rw [← lcg_shift]; exact e⟩
theorem sweep_all : sweep 512 0 0 = 2 ^ 512 - 1 := by decide +kernel
theorem back511 : lcgN 511 512 = 0 := by decide +kernel
theorem all511 {j : Nat} (hj : j ≤ 511) : ∃ b, b < 512 ∧ lcgN 511 b = j := by
  have h : (sweep 512 0 0).testBit j = true := by
    rw [sweep_all, Nat.testBit_two_pow_sub_one, decide_eq_true_eq]
    omega
  rcases sweep_bit 512 0 0 j h with z | ⟨b, hb, e⟩
  · simp at z
  · exact ⟨b, hb, by rw [lcg_zero]; exact e⟩
theorem again511 : ∀ k, lcgN 511 (512 + k) = lcgN 511 k
  | 0 => back511
  | k + 1 => by
    show (lcgN 511 (512 + k) * 5 + 1) % 512 = (lcgN 511 k * 5 + 1) % 512
    rw [again511 k]
theorem mb511 : MB 511 := by
  refine ⟨by decide, by decide, fun h {j} hj => ?_⟩
  obtain ⟨a, ha, ea⟩ := all511 (runI_le 511 (SetTable.bits h) 12)
  obtain ⟨b, hb, eb⟩ := all511 hj
  have go : ∀ k, runI 511 (SetTable.bits h) (12 + k) = lcgN 511 (a + k) := fun k => by rw [runI_tail (bits_lt h), ← ea, lcgN_add]
  by_cases c : a ≤ b
  · exact ⟨12 + (b - a), by omega, by rw [go, show a + (b - a) = b by omega, eb]⟩
  · exact ⟨12 + (512 + b - a), by omega, by rw [go, show a + (512 + b - a) = 512 + b by omega, again511, eb]⟩
theorem wayB_le {m : Nat} {h : Int} {k : Nat} : way m h k ≤ m := by
  have h0 : SetTable.bits h % (m + 1) ≤ m := Nat.le_of_lt_succ (Nat.mod_lt _ (by omega))
  have re := runEnd_bd h0
  have := nth_in (m := m) k (runAt m (SetTable.bits h % (m + 1)) (SetTable.bits h)) (by simp only [runAt]; omega)
  simp only [way]
  omega
theorem MB.way {m : Nat} (B : MB m) (h : Int) {j : Nat} (hj : j ≤ m) : ∃ k, k < 10 * SetTable.turns m ∧ L2.way m h k = j := by
  obtain ⟨n, hn, e⟩ := B.met h hj
  obtain ⟨k, hk, e2⟩ := run_nth m (SetTable.bits h) n
  exact ⟨k, by simp only [SetTable.turns]; omega, by simp only [L2.way, e2]; exact e⟩
/-! ### Tables -/
structure STab (t : SetTable) (hs : List Int) : Prop where
  up : Ris t.place.toList
  clean : t.dummies = #[]
  count : t.place.size = hs.length
  mask : MB t.mask
  low : ∀ x ∈ t.place.toList, x ≤ t.mask
  found : ∀ (i : Nat) (h : Int) (j : Nat), hs[i]? = some h → t.place.toList[i]? = some j → ∃ k, way t.mask h k = j ∧ ∀ k', k' < k → way t.mask h k' ∈ t.place.toList
section
variable {t : SetTable} {hs : List Int}
theorem STab.gap (T : STab t hs) (hl : hs.length ≤ t.mask) (h : Int) : ∃ K, K < 10 * SetTable.turns t.mask ∧ way t.mask h K ∉ t.place.toList ∧ ∀ k, k < K → way t.mask h k ∈ t.place.toList := by
  obtain ⟨j, hj, hn⟩ := st_missing t.place.toList (t.mask + 1) (by have := T.count; simp only [Array.length_toList]; omega)
  obtain ⟨k, hk, e⟩ := T.mask.way h (show j ≤ t.mask by omega)
  obtain ⟨K, h1, h2, h3⟩ := st_least (p := fun k => way t.mask h k ∉ t.place.toList) k (fun z => hn (e ▸ z))
  exact ⟨K, by omega, h2, fun k' hk' => Classical.byContradiction fun z => h3 k' hk' z⟩
theorem STab.ahead (T : STab t hs) {h : Int} {K i j : Nat} (hK : way t.mask h K ∉ t.place.toList) (hi : hs[i]? = some h) (hj : t.place.toList[i]? = some j) : ∃ k, k < K ∧ way t.mask h k = j := by
  obtain ⟨k, e, hb⟩ := T.found i h j hi hj
  have hm := List.mem_of_getElem? hj
  refine ⟨k, Classical.byContradiction fun z => ?_, e⟩
  by_cases c : k = K
  · rw [← c, e] at hK
    exact hK hm
  · exact hK (hb K (by omega))
theorem STab.put (T : STab t hs) {h : Int} {K : Nat} (hK : way t.mask h K ∉ t.place.toList) (hb : ∀ k, k < K → way t.mask h k ∈ t.place.toList) :
    (t.put (way t.mask h K)).2 = SetTable.below t.place (way t.mask h K) ∧ SetTable.below t.place (way t.mask h K) ≤ hs.length ∧ STab (t.put (way t.mask h K)).1 (hs.take (SetTable.below t.place (way t.mask h K)) ++ h :: hs.drop (SetTable.below t.place (way t.mask h K))) ∧
    (t.put (way t.mask h K)).1.mask = t.mask ∧ (t.put (way t.mask h K)).1.led = t.led ∧ (t.put (way t.mask h K)).1.plain = t.plain ∧ (t.put (way t.mask h K)).1.fill = hs.length + 1 := by
  obtain ⟨j, hj⟩ : ∃ j, way t.mask h K = j := ⟨_, rfl⟩
  have jl : j ≤ t.mask := hj ▸ wayB_le
  rw [hj] at hK ⊢
  have cut := (below_cut T.up j).1
  have cnt := T.count
  have l1 : SetTable.below t.place j ≤ t.place.toList.length := by simp only [Array.length_toList]; exact cut
  have l2 : SetTable.below t.place j ≤ hs.length := by omega
  have pp := put_place t j
  have sz : (t.put j).1.place.size = hs.length + 1 := by
    rw [← Array.length_toList, pp, len_ins _ l1, Array.length_toList, cnt]
  have more : ∀ {x : Nat}, x ∈ t.place.toList → x ∈ (t.put j).1.place.toList := fun {x} hx => by rw [pp]; exact mem_ins.2 (.inr hx)
  refine ⟨rfl, l2, ⟨ris_insert T.up fun e => hK (List.mem_of_getElem? (by rw [Array.getElem?_toList]; exact e)), put_dm T.clean j, by rw [len_ins _ l2]; exact sz, T.mask, fun x hx => ?_, fun i z y h1 h2 => ?_⟩, rfl, rfl, rfl, ?_⟩
  · rw [pp] at hx
    rcases mem_ins.1 hx with e | e
    · exact e ▸ jl
    · exact T.low x e
  · rw [tins_get hs l2] at h1
    rw [pp, tins_get _ l1] at h2
    show ∃ k, way t.mask z k = y ∧ ∀ k', k' < k → way t.mask z k' ∈ (t.put j).1.place.toList
    have old : ∀ i, hs[i]? = some z → t.place.toList[i]? = some y → ∃ k, way t.mask z k = y ∧ ∀ k', k' < k → way t.mask z k' ∈ (t.put j).1.place.toList := fun i a1 a2 => by
      obtain ⟨k, e, g⟩ := T.found i z y a1 a2
      exact ⟨k, e, fun k' hk' => more (g k' hk')⟩
    by_cases c : i < SetTable.below t.place j
    · rw [if_pos c] at h1 h2
      exact old i h1 h2
    · rw [if_neg c] at h1 h2
      by_cases d : i = SetTable.below t.place j
      · rw [if_pos d] at h1 h2
        cases h1
        cases h2
        exact ⟨K, hj, fun k' hk' => more (hb k' hk')⟩
      · rw [if_neg d] at h1 h2
        exact old (i - 1) h1 h2
  · simp only [SetTable.fill, sz, put_dm T.clean j]
    rfl
end
/-! ### Laid anew -/
theorem free_met {m : Nat} (B : MB m) (owner : Array (Option Nat)) (h : Int) {j : Nat} (hj : j ≤ m) (hf : oAt owner j = none) :
    ∃ K, SetTable.layClean.free m owner (SetTable.turns m) (SetTable.bits h % (m + 1)) (SetTable.bits h) = some (way m h K) ∧ oAt owner (way m h K) = none ∧ ∀ k, k < K → oAt owner (way m h k) ≠ none := by
  obtain ⟨n, hn, e⟩ := B.met h hj
  have ew : way m h (off m (SetTable.bits h % (m + 1)) (SetTable.bits h) n) = j := by
    simp only [way, nth_off, itL_run]
    exact e
  obtain ⟨K, k1, k2, k3⟩ := st_least (p := fun k => oAt owner (way m h k) = none) _ (show oAt owner (way m h (off m _ _ n)) = none by rw [ew]; exact hf)
  refine ⟨K, free_spec m owner _ n _ _ K (by simp only [SetTable.turns]; omega) k1 (fun k hk => ?_) (by rw [show oAt owner (nth m (runAt m _ _) K).j = none from k2]; rfl), k2, k3⟩
  have := k3 k hk
  simp only [way] at this
  cases z : oAt owner (nth m (runAt m (SetTable.bits h % (m + 1)) (SetTable.bits h)) k).j with
  | none => exact absurd z this
  | some _ => rfl
theorem own_more {m : Nat} (B : MB m) {done : List Int} {owner : Array (Option Nat)} (W : Own m done owner) (hl : done.length ≤ m) (h : Int) :
    ∃ j, SetTable.layClean.free m owner (SetTable.turns m) (SetTable.bits h % (m + 1)) (SetTable.bits h) = some j ∧ Own m (done ++ [h]) (owner.setIfInBounds j (some done.length)) := by
  obtain ⟨ps, pl, pin⟩ := W.ps
  obtain ⟨g, hg, ng⟩ := st_missing ps (m + 1) (by omega)
  have og : oAt owner g = none := Classical.byContradiction fun z => ng (pin g (by omega) z)
  obtain ⟨K, e1, e2, e3⟩ := free_met B owner h (show g ≤ m by omega) og
  obtain ⟨j, hj⟩ : ∃ j, way m h K = j := ⟨_, rfl⟩
  have jm : j ≤ m := hj ▸ wayB_le
  rw [hj] at e1 e2
  have self := oAt_set_self (owner := owner) (j := j) (some done.length) (by rw [W.sz]; omega)
  have keep : ∀ {i : Nat}, oAt owner i ≠ none → oAt (owner.setIfInBounds j (some done.length)) i ≠ none := fun {i} z => by
    by_cases c : i = j
    · rw [c, self]; simp
    · rw [oAt_set_ne _ c]; exact z
  refine ⟨j, e1, by rw [Array.size_setIfInBounds]; exact W.sz, fun i k hi e => ?_, fun k hk => ?_, j :: ps, by simp [pl], fun i hi e => ?_⟩
  · by_cases c : i = j
    · rw [c, self] at e
      have ek := Option.some.inj e
      exact ⟨h, K, by rw [← ek]; simp, hj.trans c.symm, fun k' hk' => keep (e3 k' hk')⟩
    · rw [oAt_set_ne _ c] at e
      obtain ⟨z, Z, a1, a2, a3⟩ := W.at_ i k hi e
      exact ⟨z, Z, by rw [List.getElem?_append_left (List.getElem?_eq_some_iff.mp a1).1]; exact a1, a2, fun k' hk' => keep (a3 k' hk')⟩
  · by_cases c : k < done.length
    · obtain ⟨i, hi, e⟩ := W.all k c
      exact ⟨i, hi, by rw [oAt_set_ne _ (fun z => by rw [z, e2] at e; cases e)]; exact e⟩
    · have : k = done.length := by simp at hk; omega
      exact ⟨j, jm, this ▸ self⟩
  · by_cases c : i = j
    · simp [c]
    · rw [oAt_set_ne _ c] at e
      exact List.mem_cons_of_mem _ (pin i hi e)
theorem fold_more {m : Nat} (B : MB m) : ∀ (rest done : List Int) (owner : Array (Option Nat)), Own m done owner → done.length + rest.length ≤ m →
    ∃ owner', rest.foldl (stepF m) (some (owner, done.length)) = some (owner', (done ++ rest).length) ∧ Own m (done ++ rest) owner'
  | [], done, owner, W, _ => ⟨owner, by simp, by simpa using W⟩
  | h :: rest, done, owner, W, hl => by
    simp only [List.length_cons] at hl
    obtain ⟨j, e, W'⟩ := own_more B W (by omega) h
    obtain ⟨o2, f, W2⟩ := fold_more B rest (done ++ [h]) _ W' (by simp; omega)
    have ea : done ++ [h] ++ rest = done ++ h :: rest := by simp
    refine ⟨o2, ?_, ea ▸ W2⟩
    rw [List.foldl_cons, stepF_some e, ← ea]
    simpa using f
theorem relaid_more (t : SetTable) {hs : Array Int} {wanted M : Nat} (hw : SetTable.sizeAbove wanted - 1 = M) (B : MB M) (hn : hs.size ≤ M) :
    ∃ t' order, t.relaid hs wanted = some (t', order) ∧ order.toList.Perm (List.range hs.size) ∧ STab t' (order.toList.map fun i => hs.getD i 0) ∧ t'.mask = M ∧ t'.led = t.led ∧ t'.plain = t.plain := by
  obtain ⟨owner, f, W⟩ := fold_more B hs.toList [] _ (Own.init M) (by simp; exact hn)
  rw [List.nil_append] at W f
  have e : SetTable.layClean M hs = some owner := by
    rw [layClean_eq]
    have f : List.foldl (stepF M) (some (Array.replicate (M + 1) none, 0)) hs.toList = some (owner, hs.toList.length) := f
    rw [f]
    rfl
  have ris := ris_live (fun j => owner.getD j none) (List.range (M + 1)) List.pairwise_lt_range
  have r1 : Ris ((liveOf M owner).map (·.1)) := ris.1
  have r2 : ∀ x ∈ (liveOf M owner).map (·.1), x ∈ List.range (M + 1) := ris.2
  have inL : ∀ k, k < hs.size → k ∈ (liveOf M owner).map (·.2) := fun k hk => by
    obtain ⟨j, b1, b2⟩ := W.all k (by simpa using hk)
    exact List.mem_map.mpr ⟨(j, k), (mem_live W.sz).2 ⟨b1, b2⟩, rfl⟩
  have len : (liveOf M owner).length = hs.size := by
    obtain ⟨ps, p1, p2⟩ := W.ps
    have nd : ((liveOf M owner).map fun x : Nat × Nat => x.1).Nodup := List.Pairwise.imp (fun h => Nat.ne_of_lt h) r1
    have a := nat_nodup_len _ ps nd fun x hx => by
      obtain ⟨⟨y, k⟩, hq, rfl⟩ := List.mem_map.mp hx
      obtain ⟨b1, b2⟩ := (mem_live W.sz).1 hq
      exact p2 y b1 (by rw [b2]; simp)
    have b := nat_nodup_len (List.range hs.size) ((liveOf M owner).map (·.2)) List.nodup_range fun k hk => inL k (List.mem_range.mp hk)
    simp only [List.length_map, List.length_range, p1, Array.length_toList] at a b
    omega
  refine ⟨tabOf t M owner, ((liveOf M owner).map (·.2)).toArray, by rw [relaid_eq, hw, e]; rfl, ?_, ⟨r1, rfl, by simp [tabOf], B, fun x hx => Nat.le_of_lt_succ (List.mem_range.mp (r2 x hx)), fun i h j h1 h2 => ?_⟩, rfl, rfl, rfl⟩
  · exact perm_range hs.size _ (by simpa using len) (by simpa using inL)
  · have h1 : (((liveOf M owner).map (·.2)).map fun i => hs.getD i 0)[i]? = some h := h1
    have h2 : ((liveOf M owner).map (·.1))[i]? = some j := h2
    rw [List.getElem?_map, List.getElem?_map] at h1
    rw [List.getElem?_map] at h2
    cases hq : (liveOf M owner)[i]? with
    | none => rw [hq] at h2; cases h2
    | some q =>
      obtain ⟨y, k⟩ := q
      rw [hq] at h1 h2
      have ej : y = j := Option.some.inj h2
      have eh : hs.getD k 0 = h := Option.some.inj h1
      subst ej
      obtain ⟨b1, b2⟩ := (mem_live W.sz).1 (List.mem_of_getElem? hq)
      obtain ⟨h0, K, a1, a2, a3⟩ := W.at_ y k b1 b2
      have e0 : h0 = h := by
        rw [← eh, Array.getD_eq_getD_getElem?, ← Array.getElem?_toList, a1]
        rfl
      subst e0
      refine ⟨K, a2, fun k' hk' => ?_⟩
      show way M h0 k' ∈ (liveOf M owner).map (·.1)
      cases z : oAt owner (way M h0 k') with
      | none => exact absurd z (a3 k' hk')
      | some k2 => exact List.mem_map.mpr ⟨(way M h0 k', k2), (mem_live W.sz).2 ⟨wayB_le, z⟩, rfl⟩
theorem size_a : SetTable.sizeAbove (SetTable.grown 5) = 32 := by decide +kernel
theorem size_b : SetTable.sizeAbove (SetTable.grown 19) = 128 := by decide +kernel
theorem size_c : SetTable.sizeAbove (SetTable.grown 77) = 512 := by decide +kernel
end Sw
set_option maxHeartbeats 3200000
namespace Sw
open PySem PySem.W PySem.Spec PyProof.Rows L2
abbrev Keys := List (Addr × List Int)
section
variable {P : Program} {w : World} {A : Around} {E : Value → Shared → Prop} {s : Shared}
/-! ### A set of up to 301 tuples -/
structure SetB (P : Program) (w : World) (h : Heap) (a : Addr) (L : Keys) (es : Array (Int × Value)) (ep : Nat) (t : SetTable) : Prop where
  ob : ∃ o, h.get? a = some o ∧ o.ExactSet ∧ o.data = .set es ep t
  rows : es.toList = L2.rowsOf P w L
  tab : STab t (L.map fun p => thash P w p.2)
  once : (L.map fun p => p.2).Nodup
  tup : ∀ p ∈ L, IsT P w h p.2 p.1
  pl : t.plain = true
  ld : w.params.followText "set-order" = true ∨ t.led = true
  room : L.length * 5 < t.mask * 3
  most : L.length ≤ 301
variable {a : Addr} {L : Keys} {es : Array (Int × Value)} {ep : Nat} {t : SetTable}
theorem rows_size {L : Keys} {es : Array (Int × Value)} (h : es.toList = L2.rowsOf P w L) : es.size = L.length := by
  simpa [L2.rowsOf] using congrArg List.length h
theorem rows_at {L : Keys} {es : Array (Int × Value)} (h : es.toList = L2.rowsOf P w L) {i : Nat} {p : Addr × List Int} (hp : L[i]? = some p) : es[i]? = some (thash P w p.2, Value.ref p.1) := by
  rw [← Array.getElem?_toList, h, L2.rowsOf, List.getElem?_map, hp]
  rfl
theorem SetB.fits (R : SetB P w s.heap a L es ep t) : t.fits es.size = true := by
  have h1 := R.tab.count
  have h2 := rows_size R.rows
  have h3 := R.room
  simp only [List.length_map] at h1
  simp only [SetTable.fits, SetTable.fill, R.tab.clean, Bool.and_eq_true, beq_iff_eq, decide_eq_true_eq]
  exact ⟨by omega, by show t.place.size + 0 ≤ t.mask; omega⟩
theorem SetB.stays (R : SetB P w s.heap a L es ep t) : ¬ t.gaveWay = true := by
  simp only [SetTable.gaveWay, R.tab.mask.odd]
  decide
theorem nth_plain (m : Nat) : ∀ (n : Nat) (p : SetTable.Probe), p.dummy = none → (nth m p n).dummy = none
  | 0, _, h => h
  | n + 1, p, h => nth_plain m n (adv m p) (by unfold adv; split <;> exact h)
/-- The search from the c-th step on. -/
theorem seekB (R : SetB P w s.heap a L es ep t) {x : Addr} {k : List Int} (hx : IsT P w s.heap k x) (hu : A.units < cLine) {h : Int} (eh : h = thash P w k) {K : Nat} (Kf : K < 10 * SetTable.turns t.mask)
    (hK : way t.mask h K ∉ t.place.toList) (Kb : ∀ c, c < K → way t.mask h c ∈ t.place.toList) {Q : SetFound → Shared → Prop}
    (yes : k ∈ L.map (fun p => p.2) → Q (.there none) s) (no : k ∉ L.map (fun p => p.2) → Q (.free (way t.mask h K) false) s) :
    ∀ (f c : Nat) (st : Option SetTable.Probe), st.getD (t.probeStart h) = nth t.mask (runAt t.mask (SetTable.bits h % (t.mask + 1)) (SetTable.bits h)) c → c ≤ K → K - c < f →
      (∀ (i : Nat) p, L[i]? = some p → p.2 = k → ∃ c', c ≤ c' ∧ c' < K ∧ t.place.toList[i]? = some (way t.mask h c')) →
      wpAny (model P w) A (setSearchFrom a (.ref x) h true f st) Q E s
  | 0, _, _, _, _, z, _ => absurd z (Nat.not_lt_zero _)
  | f + 1, c, st, est, hc, hf, rest => by
    obtain ⟨o, ho, hex, hd⟩ := R.ob
    obtain ⟨w0, hw0⟩ : ∃ w0, w0 = runAt t.mask (SetTable.bits h % (t.mask + 1)) (SetTable.bits h) := ⟨_, rfl⟩
    rw [← hw0] at est
    have step : ∀ q, nth t.mask (nth t.mask w0 c) q = nth t.mask w0 (c + q) := fun q => (nth_add _ _ _ _).symm
    have wj : ∀ q, (nth t.mask (nth t.mask w0 c) q).j = way t.mask h (c + q) := fun q => by rw [step, hw0]
    rw [setSearchFrom_succ]
    refine wpAny_bind (wpAny_setState_of ho hd R.fits ?_)
    dsimp only
    refine wp_if_neg R.stays ?_
    try refine wpAny_bind (wpAny_pure ?_)
    have look := go_spec t R.tab.up R.tab.clean (fun i => (es[i]?.map (·.1)).getD 0) h (10 * SetTable.turns t.mask) (K - c) (nth t.mask w0 c) (nth_plain _ _ _ (by rw [hw0]; rfl)) (by omega)
      (fun q hq => by rw [wj]; exact Kb _ (by omega)) (by rw [wj, show c + (K - c) = K by omega]; exact hK)
    have hash : ∀ (i : Nat) p, L[i]? = some p → (fun i => (es[i]?.map (·.1)).getD 0) i = thash P w p.2 := fun i p hp => by
      show (es[i]?.map (·.1)).getD 0 = _
      rw [rows_at R.rows hp]
      rfl
    rcases look with ⟨q, i, hq, hi, hh, fst, pr⟩ | ⟨fst, pr⟩
    · have pr2 : t.probe (fun i => (es[i]?.map (·.1)).getD 0) h (st.getD (t.probeStart h)) = some (.candidate (way t.mask h (c + q)) i (nth t.mask w0 (c + (q + 1)))) := by
        rw [est, ← wj, ← step]
        exact pr
      rw [pr2]
      dsimp only
      rw [wj] at hi
      have il : i < L.length := by
        have a1 := (List.getElem?_eq_some_iff.mp hi).1
        have a2 := R.tab.count
        simp only [List.length_map, Array.length_toList] at a1 a2
        omega
      obtain ⟨p, hp⟩ : ∃ p, L[i]? = some p := ⟨_, List.getElem?_eq_getElem il⟩
      have pm := List.mem_of_getElem? hp
      have live : t.slot (way t.mask h (c + q)) = .live i := slot_live R.tab.up hi
      have go : wpAny (model P w) A (searchRest a (.ref x) h true f es t (way t.mask h (c + q)) i (nth t.mask w0 (c + (q + 1)))) Q E s := by
        unfold searchRest
        rw [rows_at R.rows hp]
        dsimp only
        refine wpAny_bind (wpAny_holding (wpAny_eqBool_tuple hu (R.tup p pm) hx ?_))
        refine wpAny_bind (wpAny_setState_of ho hd R.fits ?_)
        dsimp only
        by_cases ek : p.2 = k
        · exact wp_if_pos (by simp [ek]) (wpAny_pure (yes (List.mem_map.mpr ⟨p, pm, ek⟩)))
        · refine wp_if_neg (by simp [ek]) ?_
          try refine wpAny_bind (wpAny_pure ?_)
          rw [sameMem]
          dsimp only
          simp only [if_true, live, rows_at R.rows hp]
          refine wpAny_bind (wpAny_isSame_ref_self (wpAny_bind (wpAny_pure ?_)))
          simp only [if_true]
          refine wp_if_neg (by simp [ek]) (seekB R hx hu eh Kf hK Kb yes no f (c + (q + 1)) _ (by rw [hw0]; rfl) (by omega) (by omega) fun i0 p0 h0 k0 => ?_)
          obtain ⟨c', a1, a2, a3⟩ := rest i0 p0 h0 k0
          refine ⟨c', Classical.byContradiction fun z => ?_, a2, a3⟩
          have key := (hash i0 p0 h0).trans ((congrArg (thash P w) k0).trans eh.symm)
          by_cases z2 : c' = c + q
          · rw [z2] at a3
            have e1 := slot_live R.tab.up a3
            rw [live] at e1
            injection e1 with e1
            rw [← e1, hp] at h0
            exact ek ((congrArg Prod.snd (Option.some.inj h0)).trans k0)
          · exact fst (c' - c) i0 (by omega) (by rw [wj, show c + (c' - c) = c' by omega]; exact a3) key
      by_cases hl : t.led = true
      · refine wp_if_neg (by simp [hl]) ?_
        try refine wpAny_bind (wpAny_pure ?_)
        exact go
      · refine wp_if_pos (by simp [hl]) (wpAny_bind (seen_tup hx (fun y hy => ?_) ?_))
        · obtain ⟨e, he, rfl⟩ := List.mem_map.mp hy
          have he1 : e ∈ es.toList := by
            have : e ∈ es ∧ e.1 = h := by simpa using he
            simpa using this.1
          rw [R.rows] at he1
          obtain ⟨p2, hp2, rfl⟩ := List.mem_map.mp he1
          exact ⟨p2.2, p2.1, rfl, R.tup p2 hp2⟩
        · refine wp_if_neg (by decide) ?_
          try refine wpAny_bind (wpAny_pure ?_)
          exact go
    · have pr2 : t.probe (fun i => (es[i]?.map (·.1)).getD 0) h (st.getD (t.probeStart h)) = some (.empty (way t.mask h K) none) := by
        rw [est, show way t.mask h K = (nth t.mask (nth t.mask w0 c) (K - c)).j by rw [wj, show c + (K - c) = K by omega]]
        exact pr
      rw [pr2]
      dsimp only
      refine wpAny_pure (no fun hm => ?_)
      obtain ⟨p0, h0, k0⟩ := List.mem_map.mp hm
      obtain ⟨i0, hi0, e0⟩ := List.getElem_of_mem h0
      have h00 : L[i0]? = some p0 := by rw [List.getElem?_eq_getElem hi0, e0]
      obtain ⟨c', a1, a2, a3⟩ := rest i0 p0 h00 k0
      exact fst (c' - c) i0 (by omega) (by rw [wj, show c + (c' - c) = c' by omega]; exact a3) ((hash i0 p0 h00).trans ((congrArg (thash P w) k0).trans eh.symm))
theorem searchB (R : SetB P w s.heap a L es ep t) {x : Addr} {k : List Int} (hx : IsT P w s.heap k x) (hu : A.units < cLine) {Q : SetFound → Shared → Prop}
    (yes : k ∈ L.map (fun p => p.2) → Q (.there none) s)
    (no : ∀ K, k ∉ L.map (fun p => p.2) → way t.mask (thash P w k) K ∉ t.place.toList → (∀ c, c < K → way t.mask (thash P w k) c ∈ t.place.toList) → Q (.free (way t.mask (thash P w k) K) false) s) :
    wpAny (model P w) A (setSearch a (.ref x) (thash P w k) true) Q E s := by
  have rm := R.room
  have mf := R.tab.mask.few
  obtain ⟨K, Kf, hK, Kb⟩ := R.tab.gap (by simp only [List.length_map]; omega) (thash P w k)
  have K5 : K < 100000 := by simp only [SetTable.turns] at Kf; omega
  refine seekB R hx hu rfl Kf hK Kb yes (fun z => no K z hK Kb) 100000 0 none rfl (Nat.zero_le _) (by omega) fun i p hp hk => ?_
  have cnt := R.tab.count
  simp only [List.length_map] at cnt
  have il := (List.getElem?_eq_some_iff.mp hp).1
  obtain ⟨j, hj⟩ : ∃ j, t.place.toList[i]? = some j := ⟨_, List.getElem?_eq_getElem (by simp only [Array.length_toList]; omega)⟩
  obtain ⟨c, hc, e⟩ := R.tab.ahead hK (show (L.map fun p => thash P w p.2)[i]? = some (thash P w k) by rw [List.getElem?_map, hp, ← hk]; rfl) hj
  exact ⟨c, Nat.zero_le _, hc, by rw [hj, e]⟩
theorem relayB {o : Obj} (ho : s.heap.get? a = some o) (hex : o.ExactSet) (hd : o.data = .set es ep t) (hrows : es.toList = L2.rowsOf P w L) (hsz : t.place.size = es.size) (hdm : t.dummies = #[]) (hfl : es.size ≤ t.mask)
    (nd : (L.map fun p => p.2).Nodup) (tup : ∀ p ∈ L, IsT P w s.heap p.2 p.1) (pl : t.plain = true) (ld : w.params.followText "set-order" = true ∨ t.led = true) (most : L.length ≤ 301) {wanted M : Nat}
    (hw : SetTable.sizeAbove wanted - 1 = M) (hM : MB M) (hw2 : SetTable.sizeAbove wanted ≤ 512) (hn : L.length * 5 < M * 3) {Q : Unit → Shared → Prop}
    (hQ : ∀ h' L' es' ep' t', Heap.SameBut a s.heap h' → SetB P w h' a L' es' ep' t' → L'.Perm L → t'.mask = M → Q () { s with heap := h' }) : wpAny (model P w) A (setRelay a wanted) Q E s := by
  have sl := rows_size hrows
  have fits : t.fits es.size = true := by
    simp only [SetTable.fits, SetTable.fill, hdm, Bool.and_eq_true, beq_iff_eq, decide_eq_true_eq]
    exact ⟨hsz, by show t.place.size + 0 ≤ t.mask; omega⟩
  obtain ⟨t', order, e, hp, T, em, el, epl⟩ := relaid_more t (hs := es.map (·.1)) (wanted := wanted) hw hM (by rw [Array.size_map]; omega)
  rw [Array.size_map, sl] at hp
  obtain ⟨L2, r1, r2, r3⟩ := order_rows L es order hrows hp
  rw [← r3] at T
  have s2 : (order.filterMap (es[·]?)).size = es.size := (rows_size r1).trans (r2.length_eq.trans sl.symm)
  rw [setRelay_eq]
  refine wpAny_bind (wpAny_setState_of ho hd fits ?_)
  dsimp only
  refine wp_if_neg (by rw [sizeLine_eq]; omega) ?_
  try refine wpAny_bind (wpAny_pure ?_)
  rw [e]
  dsimp only
  refine wpAny_bind (wp_if_neg (by simp [s2]) ?_)
  try refine wpAny_bind (wpAny_pure ?_)
  refine wpAny_pure ?_
  dsimp only
  refine wpAny_storeSet_of ho hd ?_ (by rw [s2, sl, sizeLine_eq]; omega)
  have sb : Heap.SameBut a s.heap (s.heap.update a (Obj.putSet (order.filterMap (es[·]?)) t')) := Heap.SameBut.update ..
  exact hQ _ L2 _ (ep + 1) t' sb ⟨⟨_, store_at ho hd, ⟨hex.1, hex.2.1, hex.2.2⟩, rfl⟩, r1, T, (r2.map _).nodup_iff.mpr nd, fun p hpm => isT_same (tup p (r2.mem_iff.mp hpm)) ho hd sb, epl.trans pl, by rw [el]; exact ld, by rw [r2.length_eq, em]; exact hn, by rw [r2.length_eq]; exact most⟩ r2 em
end
end Sw
set_option maxHeartbeats 3200000
namespace Sw
open PySem PySem.W PySem.Spec PyProof.Rows L2
section
variable {P : Program} {w : World} {A : Around} {E : Value → Shared → Prop} {s : Shared} {a : Addr} {L : Keys} {es : Array (Int × Value)} {ep : Nat} {t : SetTable}
/-- Which table a set grows into. -/
theorem grows {m n : Nat} (hm : m = 7 ∨ m = 31 ∨ m = 127 ∨ m = 511) (h1 : n * 5 < m * 3) (h2 : m * 3 ≤ (n + 1) * 5) (h3 : n + 1 ≤ 301) :
    ∃ M, SetTable.sizeAbove (SetTable.grown (n + 1)) - 1 = M ∧ (M = 31 ∨ M = 127 ∨ M = 511) ∧ SetTable.sizeAbove (SetTable.grown (n + 1)) ≤ 512 ∧ (n + 1) * 5 < M * 3 ∧ n + 1 ≤ m := by
  rcases hm with rfl | rfl | rfl | rfl
  · obtain rfl : n = 4 := by omega
    exact ⟨31, by rw [size_a], .inl rfl, by rw [size_a]; decide, by decide, by decide⟩
  · obtain rfl : n = 18 := by omega
    exact ⟨127, by rw [size_b], .inr (.inl rfl), by rw [size_b]; decide, by decide, by decide⟩
  · obtain rfl : n = 76 := by omega
    exact ⟨511, by rw [size_c], .inr (.inr rfl), by rw [size_c]; decide, by decide, by decide⟩
  · omega
def Four (m : Nat) : Prop := m = 7 ∨ m = 31 ∨ m = 127 ∨ m = 511
theorem Four.mb {m : Nat} : Four m → MB m
  | .inl e => .of (.inl e)
  | .inr (.inl e) => .of (.inr (.inl e))
  | .inr (.inr (.inl e)) => .of (.inr (.inr e))
  | .inr (.inr (.inr e)) => e ▸ mb511
theorem addB (R : SetB P w s.heap a L es ep t) (m4 : Four t.mask) {x : Addr} {k : List Int} (hx : IsT P w s.heap k x) (hu : A.units < cLine) (lim : L.length + 1 ≤ 301) {Q : Bool → Shared → Prop}
    (hQ : ∀ b h' L' es' ep' t', Heap.SameBut a s.heap h' → SetB P w h' a L' es' ep' t' → Four t'.mask → (k ∈ L.map (fun p => p.2) → L' = L) → (k ∉ L.map (fun p => p.2) → L'.Perm ((x, k) :: L)) → Q b { s with heap := h' }) :
    wpAny (model P w) A (setAddHashed a (.ref x) (thash P w k)) Q E s := by
  obtain ⟨o, ho, hex, hd⟩ := R.ob
  have sl := rows_size R.rows
  have rm := R.room
  unfold setAddHashed
  refine wpAny_holding (?_ : wpAny _ _ (setAddHashedIn _ _ _ (99999 + 1)) _ _ _)
  rw [setAddHashedIn_succ]
  refine wpAny_bind (wpAny_setState_of ho hd R.fits (?_ : wpAny _ _ _ _ _ _)); dsimp only
  refine wp_if_neg (by simp [byScan, Value.scannable]) (?_ : wpAny _ _ _ _ _ _)
  try refine wpAny_bind (wpAny_pure (?_ : wpAny _ _ _ _ _ _))
  refine wpAny_bind (searchB R hx hu (fun hm => ?_) fun K hm hK hb => ?_) <;> dsimp only
  · exact wpAny_pure (hQ false s.heap L es ep t (.refl a s.heap) R m4 (fun _ => rfl) fun z => absurd hm z)
  refine wpAny_bind (wpAny_setState_of ho hd R.fits (?_ : wpAny _ _ _ _ _ _)); dsimp only
  obtain ⟨j, hj⟩ : ∃ j, way t.mask (thash P w k) K = j := ⟨_, rfl⟩
  obtain ⟨u1, u2, u3, u4, u5, u6, u7⟩ := R.tab.put hK hb
  rw [hj] at u1 u2 u3 u4 u5 u6 u7
  have pl1 := u6.trans R.pl
  rw [hj]
  revert u1 u3 u4 u5 u7 pl1
  clear u6
  obtain ⟨t1, q⟩ := t.put j
  dsimp only
  intro u1 u3 u4 u5 u7 pl1
  subst u1
  first
    | exact wpAny_bind (wp_if_pos pl1 (hashBy_tup hx ?_))
    | refine wp_if_pos pl1 (wpAny_bind (hashBy_tup hx (?_ : wpAny _ _ _ _ _ _)))
    | refine wpAny_bind (wp_if_pos pl1 (hashBy_tup hx (?_ : wpAny _ _ _ _ _ _)))
  simp only [if_true]
  have ins : (SetTable.insertAt es (SetTable.below t.place j) (thash P w k, Value.ref x)).toList = L2.rowsOf P w (L.take (SetTable.below t.place j) ++ (x, k) :: L.drop (SetTable.below t.place j)) := by
    rw [SetTable.toList_insertAt, R.rows, rows_put]
  revert u2 u3 ins
  generalize SetTable.below t.place j = q
  intro u2 u3 ins
  have pm := put_perm L q (x, k)
  have len1 : (L.take q ++ (x, k) :: L.drop q).length = L.length + 1 := pm.length_eq
  have hh : (L.map fun p => thash P w p.2).take q ++ thash P w k :: (L.map fun p => thash P w p.2).drop q = (L.take q ++ (x, k) :: L.drop q).map fun p => thash P w p.2 := by simp
  rw [hh] at u3
  have once1 : ((L.take q ++ (x, k) :: L.drop q).map fun p => p.2).Nodup := (pm.map fun p => p.2).nodup_iff.mpr (List.nodup_cons.mpr ⟨hm, R.once⟩)
  have es1 := (rows_size ins).trans len1
  revert ins es1 pm len1 u3 once1
  generalize SetTable.insertAt es q (thash P w k, Value.ref x) = e1
  generalize L.take q ++ (x, k) :: L.drop q = L1
  intro u3 ins pm len1 once1 es1
  refine wpAny_bind (wpAny_storeSet_of ho hd (?_ : wpAny _ _ _ _ _ _) (by rw [es1, sizeLine_eq]; omega))
  have sb : Heap.SameBut a s.heap (s.heap.update a (Obj.putSet e1 t1)) := .update ..
  have at1 := store_at (es' := e1) (t' := t1) ho hd
  revert sb at1
  generalize s.heap.update a (Obj.putSet e1 t1) = h1
  intro sb at1
  have tup1 : ∀ p ∈ L1, IsT P w h1 p.2 p.1 := fun p hp => by
    rcases List.mem_cons.mp (pm.mem_iff.mp hp) with rfl | z
    · exact isT_same hx ho hd sb
    · exact isT_same (R.tup p z) ho hd sb
  have ld1 := R.ld
  rw [← u5] at ld1
  rw [List.length_map] at u7
  have full : t1.tooFull = true ↔ t.mask * 3 ≤ (L.length + 1) * 5 := by
    simp only [SetTable.tooFull, u7, u4, decide_eq_true_eq, ge_iff_le]
  by_cases hf : t1.tooFull = true
  · obtain ⟨M, g1, g2, g3, g4, g5⟩ := grows m4 rm (full.mp hf) lim
    have sz1 : t1.place.size = e1.size := by rw [u3.count, List.length_map, len1, es1]
    have lay : wpAny (model P w) A (setRelay a (SetTable.grown (es.size + 1))) (fun _ s' => wpAny (model P w) A (pure true) Q E s') E { s with heap := h1 } := by
      rw [sl]
      refine relayB (s := { s with heap := h1 }) at1 ⟨hex.1, hex.2.1, hex.2.2⟩ rfl ins sz1 u3.clean (by rw [es1, u4]; exact g5) once1 tup1 pl1 ld1 (by rw [len1]; exact lim) g1 (Four.mb (.inr g2)) g3 (by rw [len1]; exact g4) fun h2 L2 es2 ep2 t2 sb2 R2 pm2 e2 => wpAny_pure (hQ true h2 L2 es2 ep2 t2 (sb.trans sb2) R2 (.inr (e2 ▸ g2)) (fun z => absurd z hm) fun _ => pm2.trans pm)
    first
      | exact wp_if_pos (by simp [hf]) (wpAny_bind lay)
      | exact wpAny_bind (wp_if_pos (by simp [hf]) lay)
  · have done := hQ true h1 L1 e1 (ep + 1) t1 sb ⟨⟨_, at1, ⟨hex.1, hex.2.1, hex.2.2⟩, rfl⟩, ins, u3, once1, tup1, pl1, ld1, by rw [len1, u4]; exact Nat.lt_of_not_le fun z => hf (full.mpr z), by rw [len1]; exact lim⟩ (u4 ▸ m4) (fun z => absurd z hm) fun _ => pm
    first
      | exact wp_if_neg (by simp [hf]) (wpAny_pure done)
      | exact wpAny_bind (wp_if_neg (by simp [hf]) (wpAny_pure (wpAny_pure done)))
end
end Sw
set_option maxHeartbeats 3200000
namespace Sw
open PySem PySem.W PySem.Spec PyProof.Rows L2
section
variable {P : Program} {w : World} {A : Around} {E : Value → Shared → Prop} {s : Shared}
/-- Somewhere a set holds these. -/
def InB (P : Program) (w : World) (h : Heap) (a : Addr) (L : Keys) : Prop := ∃ es ep t, SetB P w h a L es ep t ∧ Four t.mask
theorem InB.keep {h h' : Heap} {a : Addr} {L : Keys} (B : InB P w h a L) (ha : ∀ o, h.get? a = some o → h'.get? a = some o) (ht : ∀ p ∈ L, IsT P w h' p.2 p.1) : InB P w h' a L := by
  obtain ⟨es, ep, t, R, m⟩ := B
  obtain ⟨o, ho, z⟩ := R.ob
  exact ⟨es, ep, t, { R with ob := ⟨o, ha o ho, z⟩, tup := ht }, m⟩
abbrev newSet (w : World) : Obj := { cls := .type "set", dict := none, data := .set #[] 0 (.fresh 0 0 (!w.params.followText "set-order")) }
theorem InB.fresh {h : Heap} {a : Addr} (ho : h.get? a = some (newSet w)) : InB P w h a [] := by
  refine ⟨#[], 0, .fresh 0 0 (!w.params.followText "set-order"), ⟨⟨_, ho, ⟨rfl, rfl, rfl⟩, rfl⟩, rfl, ⟨.nil, rfl, rfl, .of (.inl rfl), (fun _ z => nomatch z), fun i h j z => by simp at z⟩, .nil, (fun _ z => nomatch z), rfl, ?_, (show 0 * 5 < 7 * 3 by decide), Nat.zero_le _⟩, .inl rfl⟩
  show _ ∨ (!w.params.followText "set-order") = true
  cases w.params.followText "set-order" <;> simp
/-- All of a row of tuples put into a set, one after another. -/
theorem updateB {I S : Addr} {fp wr : List Addr} {G : Array GenState → Array GenState → Prop} {n : Nat} {Pv : Nat → Value → Prop} {St : Nat → Shared → Prop} {R : Result → Shared → Prop} (W : WalksS P w A.in1 I fp wr G n Pv St) (out : S ∉ fp) (ks : Keys)
    (hn : n = ks.length) (lim : ks.length ≤ 301) (hv : ∀ i v, Pv i v → ∃ p, ks[i]? = some p ∧ v = .ref p.1) (h0 : Heap) (hk : ∀ p ∈ ks, IsT P w h0 p.2 p.1) (nS : h0.get? S = none) (nw : ∀ b ∈ wr, h0.get? b = none) (hu : A.in1.units < cLine) :
    ∀ (m i : Nat) (s : Shared), i + m = n → St i s → (∀ b o, h0.get? b = some o → s.heap.get? b = some o) → (∃ L, InB P w s.heap S L ∧ Got ks i L) →
      (∀ s' L, Moved (S :: wr) G s s' → InB P w s'.heap S L → Got ks n L → (∀ b o, h0.get? b = some o → s'.heap.get? b = some o) → R (.ok (.ret .none)) s') → codeAny (model P w) A (.builtin "set.update.loop" ⟨[.ref S, .ref I], []⟩) R s := by
  have Sw : S ∉ wr := fun z => out (W.sub _ z)
  have up : ∀ {s s' : Shared}, Moved wr G s s' → (∀ b o, h0.get? b = some o → s.heap.get? b = some o) → ∀ b o, h0.get? b = some o → s'.heap.get? b = some o := fun mv g b o e => mv.heap b o (fun z => by rw [nw b z] at e; cases e) (g b o e)
  have held : ∀ {s s' : Shared} {i : Nat} {L : Keys}, Moved wr G s s' → (∀ b o, h0.get? b = some o → s.heap.get? b = some o) → Got ks i L → InB P w s.heap S L → InB P w s'.heap S L := fun mv g0 g B =>
    B.keep (fun o e => mv.heap S o Sw e) fun p hp => isT_keep (hk p (List.mem_of_mem_take (g.sub p hp))) (up mv g0)
  have wide : ∀ b ∈ wr, b ∈ S :: wr := fun b z => List.mem_cons_of_mem _ z
  intro m
  induction m with
  | zero =>
    intro i s e hst hold ⟨L, B, g⟩ k
    obtain rfl : i = n := e
    refine codeAny_builtin F.entry_set_update_loop (?_ : wpAny _ _ _ _ _ _)
    rw [Around.under_plainId F.plain_set_update_loop]
    exact wpAny_bind (m := pyNext (.ref I)) (W.done s _ _ hst fun s' mv => wpAny_pure (k s' L (mv.mono wide) (held mv hold g B) g (up mv hold)))
  | succ m ih =>
    intro i s e hst hold ⟨L, B, g⟩ k
    have lt : i < n := by omega
    refine codeAny_builtin F.entry_set_update_loop (?_ : wpAny _ _ _ _ _ _)
    rw [Around.under_plainId F.plain_set_update_loop]
    refine wpAny_bind (m := pyNext (.ref I)) (W.item i s _ _ lt hst fun v s' hP hst' mv => ?_)
    obtain ⟨p, hp, rfl⟩ := hv i v hP
    have hold' := up mv hold
    obtain ⟨es, ep, t, R1, m4⟩ := held mv hold g B
    have hx := isT_keep (hk p (List.mem_of_getElem? hp)) hold'
    refine wpAny_bind (m := holding [Value.ref p.1] (setAdd S (.ref p.1))) (wpAny_holding (?_ : wpAny _ _ _ _ _ _))
    unfold setAdd
    have gl := g.len
    refine wpAny_holding (wpAny_bind (wpAny_pyHash_tuple hu hx (addB (s := { s' with toks := s'.toks + (p.2.length + 1) }) R1 m4 hx hu (by omega) fun b h' L' es' ep' t' sb R2 m4' c1 c2 => ?_)))
    have g' : Got ks (i + 1) L' := by
      by_cases c : p.2 ∈ L.map fun p => p.2
      · exact c1 c ▸ g.same hp c
      · exact g.more hp (c2 c)
    have old : ∀ b, b ≠ S → h'.get? b = s'.heap.get? b := fun b z => sb.2 b z
    refine wpAny_pure ⟨plainId_quiet F.plain_set_update_loop _, ih (i + 1) _ (by omega) (W.frame _ s' _ _ hst' (Nat.le_add_right ..) fun b hb o e => ?_) (fun b o e => ?_) ⟨L', ⟨es', ep', t', R2, m4'⟩, g'⟩ fun s'' L2 mv2 B2 g2 hold2 => ?_⟩
    · exact (old b fun z => out (z ▸ hb)).trans e
    · exact (old b fun z => by rw [z, nS] at e; cases e).trans (hold' b o e)
    · exact k s'' L2 (.trans W.gtrans ((mv.mono wide).then_heap (Nat.le_add_right ..) fun b o hb e => (old b fun z => hb (z ▸ List.mem_cons_self)).trans e) mv2) B2 g2 hold2
end
end Sw
set_option maxHeartbeats 3200000
namespace Sw
open PySem PySem.W PySem.Spec PyProof.Rows L2
section
variable {P : Program} {w : World} {A : Around} {E : Value → Shared → Prop} {s : Shared}
/-- What stands once set(xs) is through. -/
def AfterB (P : Program) (w : World) (s : Shared) (ks : Keys) (s2 : Shared) : Prop := ∃ h' tk L, s2 = { s with heap := h', toks := tk } ∧ InB P w h' s.heap.objs.size L ∧ Got ks ks.length L ∧ ∀ b o, s.heap.get? b = some o → h'.get? b = some o
theorem none_above {h : Heap} {b : Addr} (hb : h.objs.size ≤ b) : h.get? b = none := by
  cases q : h.get? b with
  | none => rfl
  | some o => exact absurd (Heap.lt_size q) (Nat.not_lt.mpr hb)
theorem fillB {l : Addr} {items : Array Value} (ks : Keys) (hh : A.handled = none) (hl : s.heap.IsList l items) (hi : items.toList = ks.map fun p => Value.ref p.1) (hk : ∀ p ∈ ks, IsT P w s.heap p.2 p.1) (lim : ks.length ≤ 301) (hu : A.units + 3 < cLine) {N : Addr}
    (eN : N = (s.heap.push (newSet w)).objs.size) :
    codeAny (model P w) A.in1.in1 (.builtin "set.update.loop" ⟨[.ref s.heap.objs.size, .ref N], []⟩) (wants (fun r s2 => r = .none ∧ AfterB P w s ks s2) E) { s with heap := (s.heap.push (newSet w)).push { cls := .type "list_iterator", data := .fields #[.ref l, .int 0 0] } } := by
  subst eN
  have sz : items.size = ks.length := by simpa using congrArg List.length hi
  have hl1 : (s.heap.push (newSet w)).IsList l items := hl.push _
  have hlS : l < s.heap.objs.size := by
    obtain ⟨o, ho, _⟩ := hl
    exact Heap.lt_size ho
  have z1 : (s.heap.push (newSet w)).objs.size = s.heap.objs.size + 1 := Heap.size_push ..
  have h3 : A.in1.in1.in1.handled = none := by simp [hh]
  refine updateB ((Walks.list h3 _ l (by rw [z1]; exact Nat.ne_of_lt (Nat.lt_succ_of_lt hlS)) items).toS) (by rw [z1]; simp only [List.mem_cons, List.not_mem_nil, or_false, not_or]; exact ⟨Nat.ne_of_lt (Nat.lt_succ_self _), Nat.ne_of_gt hlS⟩) ks sz lim (fun i v e => ?_) s.heap hk (none_above (Nat.le_refl _)) (fun b hb => none_above ?_) hu items.size 0 _ (Nat.zero_add _)
    ⟨⟨_, Heap.get?_push_size _ rfl, rfl, rfl⟩, hl1.push _⟩ (fun b o e => Heap.get?_push_of_some _ (Heap.get?_push_of_some _ e)) ⟨[], .fresh (Heap.get?_push_of_some _ (Heap.get?_push_size _ rfl)), .zero ks⟩ fun s' L mv B g old => ?_
  · have q : items.toList[i]? = some v := by rw [Array.getElem?_toList]; exact e
    rw [hi, List.getElem?_map] at q
    obtain ⟨p, hp, rfl⟩ := Option.map_eq_some_iff.mp q
    exact ⟨p, hp, rfl⟩
  · rw [List.mem_singleton.mp hb, z1]
    omega
  · obtain ⟨h', g2, d2, k2, o2⟩ := s'
    obtain rfl : g2 = s.gens := mv.gens
    obtain rfl : d2 = s.drawn := mv.drawn
    obtain rfl : o2 = s.os := mv.os
    rw [sz] at g
    exact ⟨rfl, h', k2, L, rfl, B, g, old⟩
theorem setB_of {l : Addr} {items : Array Value} (ks : Keys) {Q : Value → Shared → Prop} (hh : A.handled = none) (hl : s.heap.IsList l items) (hi : items.toList = ks.map fun p => Value.ref p.1) (hk : ∀ p ∈ ks, IsT P w s.heap p.2 p.1) (lim : ks.length ≤ 301) (hu : A.units + 3 < cLine)
    (hQ : ∀ s2, AfterB P w s ks s2 → Q (.ref s.heap.objs.size) s2) : wpAny (model P w) A (call (.type "set") [.ref l]) Q E s := by
  obtain ⟨c, tl, hmro⟩ := F.called_set.mro
  have f1 := F.called_set.made
  have f2 := F.called_set.sub
  have f3 := F.called_set.notType
  have f4 := F.called_set.canCreate
  have f5 := F.typeCall_set_1 (.ref l)
  refine wpAny_call (codeAny_of_tree (?_ : wpAny _ _ (callAny (.type "set") _) _ _ _))
  refine wpAny_pure ⟨Code.quiet_builtin _ (by decide +kernel), codeAny_builtin F.entry_type_call (?_ : wpAny _ _ _ _ _ _)⟩
  rw [Around.under_plain (weight_type_call_type "set" [.ref l] []) rfl]
  repeat (any_goals (first | with_reducible assumption | wp_step))
  refine codeAny_mono (code_set_led1 (.ref l) (E := E) (Q₁ := fun v s1 => v = .ref s.heap.objs.size ∧ s1 = { s with heap := s.heap.push (newSet w) }) ⟨rfl, rfl⟩) fun r s1 hr => ?_
  match r, hr with
  | .ok (.ret _), ⟨e1, e2⟩ =>
    subst e1 e2
    have nS : (s.heap.push (newSet w)).get? s.heap.objs.size = some (newSet w) := Heap.get?_push_size _ rfl
    have ty : Shared.TypeIs { s with heap := s.heap.push (newSet w) } (.ref s.heap.objs.size) "set" := ⟨_, nS, rfl⟩
    have g1 := F.called_set.init.lookup
    have g2 := F.called_set.init.bind (.ref s.heap.objs.size)
    repeat (any_goals (first | with_reducible assumption | wp_step))
    refine codeAny_mono (codeAny_call_builtin (R := wants (fun r s2 => r = .none ∧ AfterB P w s ks s2) E) F.called_set.init.plain F.entry_set_init (check_set_init_1 ty (?_ : wpAny _ _ _ _ _ _))) fun r2 s2 hr2 => ?_
    · have loop := fillB (E := E) ks hh hl hi hk lim hu rfl
      have hl1 : (s.heap.push (newSet w)).IsList l items := hl.push _
      obtain ⟨⟨oc, od, ot, os⟩, hol, hcl, nl, hdl⟩ := hl
      simp only at hcl hdl
      subst hcl hdl
      have b1 := Heap.get?_push_of_some (newSet w) hol
      have b2 := F.sub_list_set
      have b3 := F.sub_list_frozenset
      have b4 : (Value.type "list" == Value.type "dict") = false := rfl
      unfold Builtin.«set.__init__» noKeywords Builtin.Frozenset.updateFrom
      generalize eI : pyIter = I0
      wp_walk
      subst eI
      refine wpAny_pyIter_list hl1 (wpAny_bind (wpAny_runValue (codeAny_mono loop fun r3 s3 h3 => ?_)))
      match r3, h3 with
      | .ok (.ret _), ⟨e3, z⟩ =>
        subst e3
        exact wpAny_pure (wpAny_pure ⟨rfl, z⟩)
      | .error e, z => exact z
    · match r2, hr2 with
      | .ok (.ret _), ⟨e1, e2⟩ =>
        subst e1
        repeat (any_goals (first | with_reducible assumption | wp_step))
        exact hQ _ e2
      | .error e, z => exact z
  | .error e, z => exact z
end
end Sw
set_option maxHeartbeats 2000000
namespace Sw
open PySem PySem.Spec PyProof.Rows L2
open Vbreac (Pt)
/-! ### The set as a thing of the heap -/
def SetO (P : Program) (w : World) (a : Addr) (L : Keys) : HO := .ext fun h => ∃ es ep t, (∃ o, h.get? a = some o ∧ o.ExactSet ∧ o.data = .set es ep t) ∧ Four t.mask ∧ ∀ h', (∃ o, h'.get? a = some o ∧ o.ExactSet ∧ o.data = .set es ep t) → (∀ p ∈ L, IsT P w h' p.2 p.1) → SetB P w h' a L es ep t
theorem setO_new {P : Program} {w : World} {H : Hp} {h : Heap} {a : Addr} {L : Keys} (B : InB P w h a L) : ObjOk P w H h a (SetO P w a L) := by
  obtain ⟨es, ep, t, R, m⟩ := B
  obtain ⟨o, ho, _⟩ := R.ob
  refine ⟨⟨es, ep, t, R.ob, m, fun h' ob tup => { R with ob := ob, tup := tup }⟩, ⟨o, ho⟩, fun h1 h2 p k => ?_⟩
  obtain ⟨es, ep, t, ⟨o, ho, r⟩, z⟩ := p
  exact ⟨es, ep, t, ⟨o, k o ho, r⟩, z⟩
section
variable {X : Cx}
/-- set(xs), xs a list of up to 301 tuples. -/
def rSetB (K : PySem.W.Frag) (P : Program) (w : World) : List V → Hp → VK → Prop := fun xs H Q => ∃ (l : Addr) (ks : Keys), xs = [V.ref l] ∧ SqL K H l (ks.map fun p => V.ref p.1) ∧ (∀ p ∈ ks, SqT K H p.1 (p.2.map V.int)) ∧ ks.length ≤ 301 ∧
  ∀ a L, H a = none → (∀ p ∈ L, p ∈ ks) → (∀ p ∈ ks, p.2 ∈ L.map (·.2)) → Q (.ref a) (upd H a (SetO P w a L))
theorem cr_setB (hc : X.calm = true) (hu : X.A.units + 64 < cLine) : CallR X (.type "set") (rSetB X.K X.prog X.w) := by
  rintro pins s σ H _ us Q I r ⟨l, ks, rfl, hl, hk, hf, q⟩
  rw [Vals.ref1 r]
  obtain ⟨its, rv, pl, _⟩ := I.list hl
  refine setB_of (P := X.prog) (w := X.w) ks (I.ok.hd hc) pl.isList (by simpa using refs_of_vals rv) (fun p hp => I.isT (hk p hp)) hf (by omega) fun s2 ⟨h', tk, L, e, B, g, k⟩ => ?_
  subst e
  exact ⟨.ref s.heap.objs.size, _, I.laid (t' := tk) k (Nat.le_refl _) (setO_new B), rfl, q _ L (I.hok.fresh (Nat.le_refl _)) (fun p hp => List.mem_of_mem_take (g.sub p hp)) fun p hp => g.all p (by rw [List.take_length]; exact hp)⟩
end
section
open PySem.W
variable {P : Program} {w : World} {A : Around} {E : Value → Shared → Prop} {s : Shared}
theorem sorted_setB {a : Addr} {rs : Row} {es : Array (Int × Value)} {ep : Nat} {t : SetTable} {Q : Value → Shared → Prop} (R : SetB P w s.heap a (rs.map keyP) es ep t) (hh : A.handled = none) (hu : A.units + 8 < cLine)
    (hQ : ∀ s' p (out : Array Value) (c : Nat) (ks : Row), (∀ b o, s.heap.get? b = some o → s'.heap.get? b = some o) → s'.gens = s.gens → s'.os = s.os → s.heap.objs.size ≤ p →
      s'.heap.get? p = some (seqObj "list" out c) → out.toList = ks.map (fun r => Value.ref r.1) → ks.Perm rs → ks.Pairwise (fun p q => lexLe p.2 q.2) → Q (.ref p) s') :
    wpAny (model P w) A (call (.builtin "sorted") [.ref a]) Q E s := by
  obtain ⟨o, ho, hex, hd⟩ := R.ob
  have hsz := rows_size R.rows
  have hfew := R.most
  refine Calls.call_function_entry kind_sorted plain_sorted entry_sorted (args_sorted1 _) ?_
  unfold Builtin.«sorted»
  refine wpAny_bind (m := checkCount "sorted" 1 1 _) (wpAny_pure ?_)
  refine wpAny_bind (collect_set (A := A.in1) hh ⟨o, ho, hex.1, hd⟩ R.fits (by unfold scanBound; omega) R.tab.up R.ld fun s1 vs k1 hz g1 o1 pm => ?_)
  have hes : es.toList.map (·.2) = rs.map fun q => Value.ref q.1 := by
    rw [R.rows]
    simp [L2.rowsOf, keyP]
  rw [hes] at pm
  obtain ⟨ks, hks, rfl⟩ := row_of pm
  have hlen : ks.length < 302 := by
    have := hks.length_eq
    simp only [List.length_map] at hfew
    omega
  refine wpAny_bind (wpAny_newList ?_ (by rw [List.length_map, sizeLine_eq]; omega))
  have hoL : (s1.heap.push (seqObj "list" (ks.map fun r => Value.ref r.1).toArray 0)).get? s1.heap.objs.size = some (seqObj "list" (ks.map fun r => Value.ref r.1).toArray 0) := Heap.get?_push_size _ rfl
  refine wpAny_bind (wpAny_holding (list_sort_data (s := { s1 with heap := s1.heap.push (seqObj "list" (ks.map fun r => Value.ref r.1).toArray 0) }) (enc := encP) hoL (each_refs ks)
    (each_all ks fun r hr => ⟨[], readsP (P := P) (w := w) (isT_keep (R.tup (keyP r) (List.mem_map_of_mem (hks.mem_iff.mp hr))) fun b u e => Heap.get?_push_of_some _ (k1 b u e)), by simp⟩) (alikeP ks) (Sortable.tuples fun b => ⟨_, _, rfl⟩) (by rw [sizeLine_eq]; omega)
    (fun b _ => by show A.units + 1 + 1 + _ < cLine; simp [encP, PyData.depth, PyData.depthAll]; omega) fun out ho2 ea => ?_))
  obtain ⟨c, hc⟩ := sortedHeap_at (vs := ks.map fun r => Value.ref r.1) (out := out.toArray) hoL
  refine wpAny_pure ⟨_, rfl, hQ _ s1.heap.objs.size out.toArray c (ks.mergeSort (dataLe false encP)) (fun b u e => ?_) g1 o1 hz hc (by simpa using refs_each ea) ((List.mergeSort_perm _ _).trans hks) (sortP ks)⟩
  have q := k1 b u e
  have hlt := Heap.lt_size q
  show (sortedHeap _ s1.heap.objs.size _ out.toArray).get? b = some u
  rw [sortedHeap_old (Nat.ne_of_lt hlt) (by rw [size_push']; exact Nat.lt_succ_of_lt hlt)]
  exact Heap.get?_push_of_some _ q
end
/-- sorted of a set of pairs: a new list of them, in order, each once. -/
def rSortB (K : PySem.W.Frag) (P : Program) (w : World) : List V → Hp → VK → Prop := fun vs H Q => ∃ (a : Addr) (rs : Row), vs = [V.ref a] ∧ H a = some (SetO P w a (rs.map keyP)) ∧ (∀ r ∈ rs, PtA K H r.1 r.2) ∧
  ∀ (ks : Row) (p : Addr), ks.Perm rs → (pts ks).Nodup → ks.Pairwise (fun p q => lexLe p.2 q.2) → H p = none → Q (.ref p) (upd H p (.lst (refsV ks)))
section
variable {X : Cx}
theorem cr_sortB (hc : X.calm = true) (hu : X.A.units + 8 < cLine) : CallR X (.builtin "sorted") (rSortB X.K X.prog X.w) := by
  intro pins s σ H vs us Q I r h
  obtain ⟨a, rs, rfl, ha, hk, q⟩ := h
  obtain ⟨es, ep, t, ob, _, mk⟩ := (I.hok a _ ha).1
  have R := mk s.heap ob fun p hp => by
    obtain ⟨r, hr, rfl⟩ := List.mem_map.mp hp
    exact I.isT (k := [r.2.x, r.2.y]) (hk r hr)
  rw [Vals.ref1 r]
  refine sorted_setB R (I.ok.hd hc) hu fun s' p out c ks kp g o hp hg hout pm pw => ?_
  have hfew := R.most
  have hlen : (refsV ks).length ≤ sizeLine := by
    rw [refsV_len, pm.length_eq, sizeLine_eq]
    simp only [List.length_map] at hfew
    omega
  have hn : H p = none := I.hok.fresh hp
  have J : Inv X pins σ (upd H p (.lst (refsV ks))) { s with heap := s'.heap, gens := s'.gens, drawn := s'.drawn, toks := s'.toks } :=
    I.call (ch := []) (Un.laid kp hp hn) (I.hok.laid kp hp ⟨hlen, out.toList, c, by rw [hout]; exact vals_row ks, by simpa using hg⟩) (by rw [g]; exact I.bare) (fun _ z => nomatch z)
  have e : s' = { s with heap := s'.heap, gens := s'.gens, drawn := s'.drawn, toks := s'.toks } := by
    cases s'
    cases s
    cases o
    rfl
  rw [e]
  exact ⟨.ref p, _, J, rfl, q ks p pm ((List.Perm.nodup_iff (pm.map (fun r : Addr × Pt => r.2))).mpr (pts_nodup R.once)) pw hn⟩
end
section
variable {P : Program} {w : World} {K : PySem.W.Frag} {mg : Str → Option Value} {base : Heap}
theorem ok_hullN {f fL : Addr} {fd fdL : FuncData} {k : Nat} (F : Fun K "hull_corners" "hull_corners" s_hull_corners f fd) (FL : Fun K "left_chain" "left_chain" s_left_chain fL fdL) (bL : Binds K fdL ["points"] []) (gL : mg "left_chain" = some (.ref fL))
    (ml : mg "len" = none) (ms : mg "sorted" = none) (me : mg "set" = none) (mi : mg "list" = none) (mr : mg "reversed" = none) (GL : FnOk P w K mg base CX0 (k + 3) fL fdL ["points"] (spChain K)) : FnOk P w K mg base CX0 (k + 4) f fd ["velocities"] (spHullN K) := by
  refine F.ok sc_hull_corners (fun vs H Q E h => ?_) (fun cdv A outer s H vs Q E hr h => ?_)
  · obtain ⟨a, rs, rfl, _⟩ := h
    rfl
  · obtain ⟨a, rs, rfl, hS, hR, hlen, k⟩ := h
    have hu64 := hr.units
    refine ⟨_, pss_cons (ps_set (i := 1) sc_hull_corners.nd rfl (.inl rfl) (pe_op op_cat (pe_lst (pa_cons (pe_tup (pa_cons pe_int (pa_cons pe_int pa_nil))) pa_nil))
        (pe_lc (own := [("x", 6), ("y", 5)]) (g := gTup K 2 (gCons (gName 6) (gCons (gName 5) gNil))) (tt := tYes) rfl sc_hull_corners.nd (pi_list (pv 0)) (blkOk_by (N := ["velocities", "turned", "points", "right_side", "left_side", "y", "x"]) (sc := defScope s_hull_corners) (by decide +kernel))
          (fun _ _ _ _ _ => pg_tup rfl (pgs_cons (pg_name (i := 6) sc_hull_corners.nd rfl (.inl rfl)) (pgs_cons (pg_name (i := 5) sc_hull_corners.nd rfl (.inl rfl)) pgs_nil))) (fun _ _ _ _ _ => pts_nil) (fun _ _ _ _ _ => pe_tup (pa_cons (pv 5) (pa_cons (pv 6) pa_nil))))))
      (pss_cons (ps_setLc (i := 2) (own := [("y", 5), ("x", 6)]) (g := gTup K 2 (gCons (gName 5) (gCons (gName 6) gNil))) (tt := tYes) rfl sc_hull_corners.nd rfl rfl (sw_true rfl rfl rfl (by decide +kernel))
          (pi_list (pe_callB (cr_sortB rfl (Nat.lt_of_le_of_lt (Nat.add_le_add_left (by decide) _) hu64)) (by rfl) ms (by decide +kernel) (pa_cons (pe_callTy (cr_setB rfl hu64) (by rfl) me (by decide +kernel) (pa_cons (pv 1) pa_nil)) pa_nil)))
          (blkOk_by (N := ["velocities", "turned", "points", "right_side", "left_side", "y", "x"]) (sc := defScope s_hull_corners) (by decide +kernel))
          (fun _ _ _ _ _ => pg_tup rfl (pgs_cons (pg_name (i := 5) sc_hull_corners.nd rfl (.inl rfl)) (pgs_cons (pg_name (i := 6) sc_hull_corners.nd rfl (.inl rfl)) pgs_nil))) (fun _ _ _ _ _ => pts_nil) (fun _ _ _ _ _ => pe_tup (pa_cons (pv 6) (pa_cons (pv 5) pa_nil))))
      (pss_cons (ps_if (pt_cmpR op_eq (pe_callB call_len_seq (by rfl) ml PySem.boot_len (pa_cons (pv 2) pa_nil)) pe_int (nomark _)) (pss_one (ps_ret (pv 2))) pss_nil)
      (pss_cons (ps_set (i := 3) sc_hull_corners.nd rfl (.inl rfl) (pe_call GL hr rfl gL FL.kp bL .nil pass0 (pa_cons (pv 2) pa_nil)))
      (pss_cons (ps_set (i := 4) sc_hull_corners.nd rfl (.inl rfl) (pe_call GL hr rfl gL FL.kp bL .nil pass0 (pa_cons (pe_listRev rfl rfl mi rfl mr (pv 2)) pa_nil)))
      (pss_one (ps_ret (pe_op op_cat (pe_slice sl_list (pv 3) po_none (po_some (pe_un un_neg pe_int))) (pe_slice sl_list (pv 4) po_none (po_some (pe_un un_neg pe_int))))))))))  , ?_⟩
    -- turned = [(0, 0)] + [(y, x) for x, y in velocities]
    refine ⟨(by show 2 ≤ sizeLine; decide), fun t nt => ⟨(by show 1 ≤ sizeLine; decide), fun l nl => ?_⟩⟩
    have s1 : Same H (upd H t (.tup [.int 0, .int 0])) := same_upd nt
    have s2 := s1.trans (same_upd (o := .lst [.ref t]) nl)
    have ht : PtA K (upd (upd H t (.tup [.int 0, .int 0])) l (.lst [.ref t])) t ⟨0, 0⟩ := SqT.of (by rw [upd_ne (ne_of_none upd_same nl)]; exact upd_same)
    refine ⟨_, rfl, a, rfl, ⟨_, s2.seq hS⟩, fun D nD => lc_list (K := K) (a := a) (xs := refsV rs) (fun i H' => ∃ ks : Row, Same (upd (upd H t (.tup [.int 0, .int 0])) l (.lst [.ref t])) H' ∧ H' D = some (.lst (refsV ks)) ∧ RowA K H' ks ∧ pts ks = ((pts rs).take i).map flip)
      ⟨[], same_upd nD, upd_same, (fun r hr => nomatch hr), rfl⟩ (fun i H' _ ⟨_, sm, _⟩ => (s2.trans sm).seq hS) ?_ ?_⟩
    · rintro i x H' hi ⟨ks, sm, hD, hk, ek⟩
      obtain ⟨r, hr', rfl⟩ := refsV_get hi
      have hr2 := hR r (List.mem_of_getElem? hr')
      have sA := s2.trans sm
      refine ⟨r.1, _, rfl, same_pt sA hr2.1, rfl, _, _, rfl, _, _, rfl, rfl, rfl, _, rfl, _, rfl, (by show 2 ≤ sizeLine; decide), fun u nu => ?_⟩
      have s3 := same_upd (o := .tup [.int r.2.y, .int r.2.x]) nu
      have hD3 := s3 _ _ hD
      refine ⟨_, hD3, ?_, ks ++ [(u, flip r.2)], same_grow nD (sm.trans s3), ?_, RowA.updL hD3 ((hk.same s3).snoc (SqT.of upd_same) (flip_mid hr2.2)), ?_⟩
      · have e1 := congrArg List.length ek
        have e2 := (List.getElem?_eq_some_iff.mp hr').1
        rw [pts_len, List.length_map, List.length_take] at e1
        rw [refsV_len, sizeLine_eq]
        omega
      · rw [upd_same, refsV_snoc]
      · rw [pts_snoc, ek, take_snoc (pts_get hr'), List.map_append]
        rfl
    · rintro H3 ⟨ks, sm, hD, hk, ek⟩
      rw [refsV_len, ← pts_len, List.take_length] at ek
      have hl3 := sm l _ upd_same
      have lks : ks.length ≤ 300 := by
        have := congrArg List.length ek
        rw [pts_len, List.length_map, pts_len] at this
        omega
      refine ⟨l, D, _, _, rfl, rfl, hl3, hD, by rw [refsV_len, sizeLine_eq]; show 1 + ks.length ≤ _; omega, fun c nc => ?_⟩
      have s4 := same_upd (o := .lst ([V.ref t] ++ refsV ks)) nc
      have eT : [V.ref t] ++ refsV ks = refsV ((t, ⟨0, 0⟩) :: ks) := rfl
      have hT : RowA K (upd H3 c (.lst ([V.ref t] ++ refsV ks))) ((t, ⟨0, 0⟩) :: ks) := fun r hr => by
        rcases List.mem_cons.1 hr with z | z
        · rw [z]
          exact ⟨same_pt (sm.trans s4) ht, by simp only [Mid]; omega⟩
        · exact (hk.same s4) r z
      -- points = [(x, y) for y, x in sorted(set(turned))]
      refine ⟨_, rfl, c, ((t, ⟨0, 0⟩) :: ks).map keyP, rfl, SqL.of (by rw [upd_same, eT]; simp [refsV, keyP]), fun p hp => ?_, by rw [List.length_map]; show ks.length + 1 ≤ 301; omega, fun e L ne hsub hall => ?_⟩
      · obtain ⟨r, hr', rfl⟩ := List.mem_map.mp hp
        exact (hT r hr').1
      have s5 := same_upd (o := SetO P w e L) ne
      have hUT : ∀ r ∈ L.map unkey, r ∈ (t, ⟨0, 0⟩) :: ks := fun r hr' => by
        obtain ⟨p, hp, rfl⟩ := List.mem_map.mp hr'
        obtain ⟨q, hq, rfl⟩ := List.mem_map.mp (hsub p hp)
        rw [unkey_key]
        exact hq
      refine ⟨e, L.map unkey, rfl, by rw [upd_same, key_unkey hsub], fun r hr' => ((hT.same s5) r (hUT r hr')).1, fun us g pm nd pw ng => ?_⟩
      have s6 := same_upd (o := .lst (refsV us)) ng
      have sA := (((s2.trans sm).trans s4).trans s5).trans s6
      have hU : RowA K (upd (upd (upd H3 c (.lst ([V.ref t] ++ refsV ks))) e (SetO P w e L)) g (.lst (refsV us))) us := fun r hr' => ((hT.same s5).same s6) r (hUT r (pm.mem_iff.mp hr'))
      have mem : ∀ z : Pt, z ∈ Vbreac.zero :: pts rs ↔ z ∈ (pts us).map flip := fun z => by
        have m1 : ∀ y : Pt, y ∈ pts us ↔ y ∈ (⟨0, 0⟩ : Pt) :: pts ks := fun y => by
          constructor
          · intro hy
            obtain ⟨r, hr', rfl⟩ := List.mem_map.mp hy
            have := hUT r (pm.mem_iff.mp hr')
            rcases List.mem_cons.1 this with z | z
            · rw [z]; simp
            · exact List.mem_cons_of_mem _ (List.mem_map_of_mem z)
          · intro hy
            obtain ⟨r, hr', rfl⟩ : ∃ r, r ∈ (t, (⟨0, 0⟩ : Pt)) :: ks ∧ r.2 = y := by
              rcases List.mem_cons.1 hy with z | z
              · exact ⟨_, List.mem_cons_self, z.symm⟩
              · obtain ⟨r, h1, h2⟩ := List.mem_map.mp z
                exact ⟨r, List.mem_cons_of_mem _ h1, h2⟩
            obtain ⟨p, hp, e2⟩ := List.mem_map.mp (hall (keyP r) (List.mem_map_of_mem hr'))
            refine List.mem_map.mpr ⟨unkey p, pm.mem_iff.mpr (List.mem_map_of_mem hp), ?_⟩
            show (⟨p.2.getD 0 0, p.2.getD 1 0⟩ : Pt) = r.2
            rw [e2]
            rfl
        rw [List.mem_map]
        constructor
        · intro hz
          refine ⟨flip z, (m1 _).mpr ?_, flip_flip z⟩
          rcases List.mem_cons.1 hz with y | y
          · rw [y]; exact List.mem_cons_self
          · rw [ek]
            exact List.mem_cons_of_mem _ (List.mem_map_of_mem y)
        · rintro ⟨y, hy, rfl⟩
          rcases List.mem_cons.1 ((m1 y).mp hy) with q | q
          · rw [q]; exact List.mem_cons_self
          · rw [ek] at q
            obtain ⟨x, hx, rfl⟩ := List.mem_map.mp q
            exact List.mem_cons_of_mem _ hx
      have lus : us.length < 302 := by
        have h1 := Hu.nodup_len (pts us) ((⟨0, 0⟩ : Pt) :: pts ks) nd (fun y hy => by
          obtain ⟨r, hr', rfl⟩ := List.mem_map.mp hy
          rcases List.mem_cons.1 (hUT r (pm.mem_iff.mp hr')) with z | z
          · rw [z]; exact List.mem_cons_self
          · exact List.mem_cons_of_mem _ (List.mem_map_of_mem z))
        rw [pts_len, List.length_cons, pts_len] at h1
        omega
      refine ⟨g, rfl, ⟨_, SqL.of upd_same⟩, fun D2 nD2 => lc_list (K := K) (a := g) (xs := refsV us) (fun i H' => ∃ ps : Row, Same (upd (upd (upd H3 c (.lst ([V.ref t] ++ refsV ks))) e (SetO P w e L)) g (.lst (refsV us))) H' ∧ H' D2 = some (.lst (refsV ps)) ∧ RowA K H' ps ∧ pts ps = ((pts us).take i).map flip)
        ⟨[], same_upd nD2, upd_same, (fun r hr => nomatch hr), rfl⟩ (fun i H' _ ⟨_, sm, _⟩ => SqL.of (sm g _ upd_same)) ?_ ?_⟩
      · rintro i x H' hi ⟨ps, sm', hD', hp', ep⟩
        obtain ⟨r, hr', rfl⟩ := refsV_get hi
        have hr2 := (hU.same sm') r (List.mem_of_getElem? hr')
        refine ⟨r.1, _, rfl, hr2.1, rfl, _, _, rfl, _, _, rfl, rfl, rfl, _, rfl, _, rfl, (by show 2 ≤ sizeLine; decide), fun u nu => ?_⟩
        have s3 := same_upd (o := .tup [.int r.2.y, .int r.2.x]) nu
        have hD3 := s3 _ _ hD'
        refine ⟨_, hD3, ?_, ps ++ [(u, flip r.2)], same_grow nD2 (sm'.trans s3), ?_, RowA.updL hD3 ((hp'.same s3).snoc (SqT.of upd_same) (flip_mid hr2.2)), ?_⟩
        · have e1 := congrArg List.length ep
          have e2 := (List.getElem?_eq_some_iff.mp hr').1
          rw [pts_len, List.length_map, List.length_take] at e1
          rw [refsV_len, sizeLine_eq]
          omega
        · rw [upd_same, refsV_snoc]
        · rw [pts_snoc, ep, take_snoc (pts_get hr'), List.map_append]
          rfl
      · rintro H4 ⟨ps, sm', hD', hp', ep⟩
        rw [refsV_len, ← pts_len, List.take_length] at ep
        have pw' : (pts ps).Pairwise Hu.lt := by rw [ep]; exact sorted_flip nd pw
        have mem' : ∀ z : Pt, z ∈ Vbreac.zero :: pts rs ↔ z ∈ pts ps := fun z => by rw [ep]; exact mem z
        have ne : pts ps ≠ [] := fun z => by
          have := (mem' Vbreac.zero).mp List.mem_cons_self
          rw [z] at this
          cases this
        have lps : ps.length < 302 := by
          have := congrArg List.length ep
          rw [pts_len, List.length_map, pts_len] at this
          omega
        have goal := Hu.hull_eq pw' mem' ne
        have sB := sA.trans sm'
        have nD : H D2 = none := sA.free nD2
        refine ⟨_, rfl, D2, _, rfl, .inl (SqL.of hD'), rfl, _, rfl, ite2 (fun e => ?_) (fun e => ?_)⟩
        · have e1 : ((refsV ps).length : Int) = 1 := V.int.inj (of_decide_eq_true e)
          rw [refsV_len] at e1
          refine ⟨_, rfl, k H4 D2 ps sB nD hD' hp' ?_⟩
          show pts ps = Vbreac.hullOf (Vbreac.zero :: pts rs)
          rw [← goal, Hu.hullM, if_pos (by rw [pts_len]; omega)]
        · have e1 : ¬ (pts ps).length = 1 := fun z => e (decide_eq_true (by
            rw [pts_len] at z
            rw [refsV_len, z]
            rfl))
          rw [Hu.hullM, if_neg e1] at goal
          -- right_side = left_chain(points)
          refine ⟨_, rfl, D2, ps, rfl, SqL.of hD', hp', by omega, fun H5 q s7 nq hq => ?_⟩
          -- left_side = left_chain(list(reversed(points)))
          refine ⟨_, rfl, D2, _, rfl, SqL.of (s7 _ _ hD'), fun v nv => ?_⟩
          have s8 := same_upd (o := .lst (refsV ps).reverse) nv
          have erev : (refsV ps).reverse = refsV ps.reverse := by simp [refsV]
          refine ⟨v, ps.reverse, rfl, SqL.of (by rw [upd_same, erev]), fun r hr' => ((hp'.same s7).same s8) r (List.mem_reverse.mp hr'), by rw [List.length_reverse]; omega, fun H6 q2 s9 nq2 hq2 => ?_⟩
          have hq6 := s9 _ _ (s8 _ _ hq)
          -- return right_side[:-1] + left_side[:-1]
          refine ⟨_, rfl, _, rfl, _, rfl, q, _, rfl, SqL.of hq6, fun y1 ny1 => ?_⟩
          rw [cut_last, refsV_dropLast]
          have s10 := same_upd (o := .lst (refsV (chainA [] ps).reverse.dropLast)) ny1
          refine ⟨_, rfl, _, rfl, _, rfl, q2, _, rfl, SqL.of (s10 _ _ hq2), fun y2 ny2 => ?_⟩
          rw [cut_last, refsV_dropLast]
          have s11 := same_upd (o := .lst (refsV (chainA [] ps.reverse).reverse.dropLast)) ny2
          have c1 := s11 _ _ (upd_same (H := H6) (a := y1) (o := .lst (refsV (chainA [] ps).reverse.dropLast)))
          have l1 := chainA_len ps []
          have l2 := chainA_len ps.reverse []
          simp only [List.length_nil, Nat.zero_add, List.length_reverse] at l1 l2
          refine ⟨y1, y2, _, _, rfl, rfl, c1, upd_same, by rw [refsV_len, refsV_len, List.length_dropLast, List.length_dropLast, List.length_reverse, List.length_reverse, sizeLine_eq]; omega, fun y3 ny3 => ?_⟩
          rw [refsV_app]
          have s12 := same_upd (o := .lst (refsV ((chainA [] ps).reverse.dropLast ++ (chainA [] ps.reverse).reverse.dropLast))) ny3
          have sC := ((((s7.trans s8).trans s9).trans s10).trans s11)
          refine k _ y3 _ ((sB.trans sC).trans s12) ((sB.trans sC).free ny3) upd_same (fun r hr' => ?_) ?_
          · refine ((hp'.same sC).same s12) r ?_
            rcases List.mem_append.1 hr' with z | z
            · rcases chainA_sub _ _ r (List.mem_reverse.mp (List.dropLast_subset _ z)) with y | y
              · cases y
              · exact y
            · rcases chainA_sub _ _ r (List.mem_reverse.mp (List.dropLast_subset _ z)) with y | y
              · cases y
              · exact List.mem_reverse.mp y
          · show _ = Vbreac.hullOf (Vbreac.zero :: pts rs)
            rw [← goal, ← pts_app, ← pts_dropLast, ← pts_dropLast, ← pts_rev, ← pts_rev, chainA_pts, chainA_pts, ← pts_rev]
            rfl
end
end Sw
set_option maxHeartbeats 8000000
namespace Sw
open PySem PySem.W PySem.Spec PyProof.Rows L2 LamX
open Vbreac (Pt)
/-! ### What the top has left, from what its heap holds -/
abbrev Bnd (x q : Str) (st : Stmt) (ps : List Str) : Prop := ∀ (kV doc pm : Value) (an : Option Addr) (cdv ct : Value) (us : List Value), us.length = ps.length → bindArgs (fnOf x q (defArgs st) (defBody st) (defScope st) .none kV doc pm an cdv ct) ⟨us, []⟩ = pure (ps.zip us)
section
variable {K : Frag} {h : Heap} {mg : Str → Option Value} {x q : Str} {st : Stmt} {ps : List Str} {f C : Addr} {oc : Value} {od an : Option Addr} {sl : Array (Option Value)} {kV dc pm cd ct : Value}
def D.of (X : K.In h) (G : h.Ns mainGlobals mg) (hb : Bnd x x st ps) (a : nsIn K mainGlobals x = some (some (.ref f))) (l : K.lookup f = some ⟨oc, od, .func (fnOf x x (defArgs st) (defBody st) (defScope st) .none kV dc pm an cd ct), sl⟩) (c : codeIn K cd x = true) (k : keepIn K (.ref f) = true) : D K mg x st ps :=
  ⟨f, _, fun_mk l c k, (fun_mk l c k).binds hb, mg_of X G a⟩
def M.of (hb : Bnd x q st ps) (a : findIn K (.ref C) x = some (some (.ref f))) (i : isFn K (.ref f) = true) (l : K.lookup f = some ⟨oc, od, .func (fnOf x q (defArgs st) (defBody st) (defScope st) .none kV dc pm an cd ct), sl⟩) (c : codeIn K cd q = true) (k : keepIn K (.ref f) = true) : M K C x q st ps :=
  ⟨f, _, fun_mk l c k, (fun_mk l c k).binds hb, ⟨a, i, k⟩⟩
def CI.of (X : K.In h) (G : h.Ns mainGlobals mg) {n : Int} {t : Tok} (a : nsIn K mainGlobals x = some (some (.int n t))) : CI mg x n := ⟨t, mg_of X G a⟩
theorem sqT_at {a : Addr} {xs : List V} {its : Array Value} {n : Nat} (l : K.lookup a = some ⟨.type "tuple", od, .seq its n, sl⟩) (hs : its.size ≤ sizeLine) (hv : Vals xs its.toList) (H : Hp) : SqT K H a xs := .inr ⟨_, its, n, l, rfl, rfl, hs, hv⟩
def CT.of (X : K.In h) (G : h.Ns mainGlobals mg) {a : Addr} {ns : List Int} {its : Array Value} {n : Nat} (g : nsIn K mainGlobals x = some (some (.ref a))) (l : K.lookup a = some ⟨.type "tuple", od, .seq its n, sl⟩) (hs : its.size ≤ sizeLine) (hv : Vals (ns.map V.int) its.toList) : CT K mg x ns :=
  ⟨a, mg_of X G g, sqT_at l hs hv⟩
theorem pair_at {a : Addr} {p : Pt} {t1 t2 : Tok} {n : Nat} (l : K.lookup a = some ⟨.type "tuple", od, .seq #[.int p.x t1, .int p.y t2] n, sl⟩) (H : Hp) : PtA K H a p := sqT_at (xs := [.int p.x, .int p.y]) l (by show 2 ≤ sizeLine; decide) (.cons (show RelV (.int p.x) (.int p.x t1) from ⟨_, rfl⟩) (.cons (show RelV (.int p.y) (.int p.y t2) from ⟨_, rfl⟩) .nil)) H
theorem rowB4 {a b c d : Addr × Pt} (ha : ∀ H, PtA K H a.1 a.2) (hb : ∀ H, PtA K H b.1 b.2) (hc : ∀ H, PtA K H c.1 c.2) (hd : ∀ H, PtA K H d.1 d.2) (h : ∀ r ∈ [a, b, c, d], Big r.2) (H : Hp) : RowB K H [a, b, c, d] := fun r hr => ⟨by
  simp only [List.mem_cons, List.not_mem_nil, or_false] at hr
  rcases hr with rfl | rfl | rfl | rfl
  · exact ha H
  · exact hb H
  · exact hc H
  · exact hd H, h r hr⟩
theorem axes_big (a b c d : Addr) : ∀ r ∈ [(a, (⟨1, 0⟩ : Pt)), (b, ⟨0, 1⟩), (c, ⟨-1, 0⟩), (d, ⟨0, -1⟩)], Big r.2 := fun r hr => by
  simp only [List.mem_cons, List.not_mem_nil, or_false] at hr
  rcases hr with rfl | rfl | rfl | rfl <;> (refine ⟨⟨?_, ?_⟩, ?_, ?_⟩ <;> dsimp only <;> decide)
theorem axes_of (X : K.In h) (G : h.Ns mainGlobals mg) {aX a b c d : Addr} {o0 o1 o2 o3 o4 : Option Addr} {z0 z1 z2 z3 z4 : Array (Option Value)} {n0 n1 n2 n3 n4 : Nat} {t1 u1 t2 u2 t3 u3 t4 u4 : Tok} (g : nsIn K mainGlobals "AXES" = some (some (.ref aX)))
    (l0 : K.lookup aX = some ⟨.type "tuple", o0, .seq #[.ref a, .ref b, .ref c, .ref d] n0, z0⟩) (l1 : K.lookup a = some ⟨.type "tuple", o1, .seq #[.int 1 t1, .int 0 u1] n1, z1⟩) (l2 : K.lookup b = some ⟨.type "tuple", o2, .seq #[.int 0 t2, .int 1 u2] n2, z2⟩)
    (l3 : K.lookup c = some ⟨.type "tuple", o3, .seq #[.int (-1) t3, .int 0 u3] n3, z3⟩) (l4 : K.lookup d = some ⟨.type "tuple", o4, .seq #[.int 0 t4, .int (-1) u4] n4, z4⟩) : ∃ (a : Addr) (r : Row), AxesA K mg a r :=
  ⟨aX, [(a, ⟨1, 0⟩), (b, ⟨0, 1⟩), (c, ⟨-1, 0⟩), (d, ⟨0, -1⟩)], mg_of X G g, sqT_at l0 (by show 4 ≤ sizeLine; decide) (.cons (show RelV (.ref a) (.ref a) from rfl) (.cons (show RelV (.ref b) (.ref b) from rfl) (.cons (show RelV (.ref c) (.ref c) from rfl) (.cons (show RelV (.ref d) (.ref d) from rfl) .nil)))),
    rowB4 (pair_at (p := ⟨1, 0⟩) l1) (pair_at (p := ⟨0, 1⟩) l2) (pair_at (p := ⟨-1, 0⟩) l3) (pair_at (p := ⟨0, -1⟩) l4) (axes_big a b c d), rfl⟩
/-- A def with a lambda, and the table of its code object. -/
structure DL (K : Frag) (mg : Str → Option Value) (x : Str) (st : Stmt) (ps : List Str) extends D K mg x st ps where
  c : Addr
  tb : Addr
  code : fd.code = .ref c
  tab : tabIn K x = some (c, tb)
  off : K.lookup tb = none
def DL.of {cc tb : Addr} (X : K.In h) (G : h.Ns mainGlobals mg) (hb : Bnd x x st ps) (a : nsIn K mainGlobals x = some (some (.ref f))) (l : K.lookup f = some ⟨oc, od, .func (fnOf x x (defArgs st) (defBody st) (defScope st) .none kV dc pm an (.ref cc) ct), sl⟩) (c : codeIn K (.ref cc) x = true) (k : keepIn K (.ref f) = true)
    {oc2 : Value} {od2 : Option Addr} {sl2 : Array (Option Value)} {vs : Array Value} (l2 : K.lookup cc = some ⟨oc2, od2, .fields vs, sl2⟩) (hv : vs[11]? = some (.ref tb)) (off : K.lookup tb = none) : DL K mg x st ps :=
  ⟨D.of X G hb a l c k, cc, tb, rfl, by
    simp only [tabIn, a, l, fnOf, l2, hv], off⟩
end
structure FcT (K : Frag) (mg : Str → Option Value) where
  C : Addr
  c : Cls K C
  g : mg "Forecast" = some (.ref C)
  init : M K C "__init__" "Forecast.__init__" s_Forecast___init__ ["self"]
  forget_slices : M K C "forget_slices" "Forecast.forget_slices" s_Forecast_forget_slices ["self"]
  add_slice : M K C "add_slice" "Forecast.add_slice" s_Forecast_add_slice ["self", "begin", "velocities"]
  forget_findings : M K C "forget_findings" "Forecast.forget_findings" s_Forecast_forget_findings ["self"]
  has_slice : M K C "has_slice" "Forecast.has_slice" s_Forecast_has_slice ["self", "number"]
  is_empty : M K C "is_empty" "Forecast.is_empty" s_Forecast_is_empty ["self"]
  weigh_directions : M K C "weigh_directions" "Forecast.weigh_directions" s_Forecast_weigh_directions ["self"]
  as_one_slice : M K C "as_one_slice" "Forecast.as_one_slice" s_Forecast_as_one_slice ["self"]
  makes : makesIn K C = true
  keep : keepIn K (.ref C) = true
  n_begins : NoAttr K C "begins"
  n_hulls : NoAttr K C "hulls"
  n_directions : NoAttr K C "directions"
  n_supports : NoAttr K C "supports"
  n_joined : NoAttr K C "joined"
structure ArT (K : Frag) (mg : Str → Option Value) where
  C : Addr
  c : Cls K C
  g : mg "Arrival" = some (.ref C)
  init : M K C "__init__" "Arrival.__init__" s_Arrival___init__ ["self", "number", "since", "takes", "proof"]
  happens : M K C "happens" "Arrival.happens" s_Arrival_happens ["self"]
  time : M K C "time" "Arrival.time" s_Arrival_time ["self"]
  happens_by : M K C "happens_by" "Arrival.happens_by" s_Arrival_happens_by ["self", "u"]
  makes : makesIn K C = true
  keep : keepIn K (.ref C) = true
  n_number : NoAttr K C "number"
  n_since : NoAttr K C "since"
  n_takes : NoAttr K C "takes"
  n_proof : NoAttr K C "proof"
theorem bd_cross : Bnd "cross" "cross" s_cross ["p", "q"] := fun _ _ _ _ _ _ us hl => match us, hl with | [_, _], _ => rfl
theorem bd_how_far : Bnd "how_far" "how_far" s_how_far ["direction", "velocity"] := fun _ _ _ _ _ _ us hl => match us, hl with | [_, _], _ => rfl
theorem bd_difference : Bnd "difference" "difference" s_difference ["p", "q"] := fun _ _ _ _ _ _ us hl => match us, hl with | [_, _], _ => rfl
theorem bd_bends_left : Bnd "bends_left" "bends_left" s_bends_left ["p", "q", "r"] := fun _ _ _ _ _ _ us hl => match us, hl with | [_, _, _], _ => rfl
theorem bd_left_chain : Bnd "left_chain" "left_chain" s_left_chain ["points"] := fun _ _ _ _ _ _ us hl => match us, hl with | [_], _ => rfl
theorem bd_hull_corners : Bnd "hull_corners" "hull_corners" s_hull_corners ["velocities"] := fun _ _ _ _ _ _ us hl => match us, hl with | [_], _ => rfl
theorem bd_neighbours : Bnd "neighbours" "neighbours" s_neighbours ["corners"] := fun _ _ _ _ _ _ us hl => match us, hl with | [_], _ => rfl
theorem bd_hull_sides : Bnd "hull_sides" "hull_sides" s_hull_sides ["corners"] := fun _ _ _ _ _ _ us hl => match us, hl with | [_], _ => rfl
theorem bd_holds_origin_within : Bnd "holds_origin_within" "holds_origin_within" s_holds_origin_within ["corners"] := fun _ _ _ _ _ _ us hl => match us, hl with | [_], _ => rfl
theorem bd_hull_support : Bnd "hull_support" "hull_support" s_hull_support ["corners", "direction"] := fun _ _ _ _ _ _ us hl => match us, hl with | [_, _], _ => rfl
theorem bd_furthest_corners : Bnd "furthest_corners" "furthest_corners" s_furthest_corners ["corners", "direction"] := fun _ _ _ _ _ _ us hl => match us, hl with | [_, _], _ => rfl
theorem bd_greatest_divisor : Bnd "greatest_divisor" "greatest_divisor" s_greatest_divisor ["m", "n"] := fun _ _ _ _ _ _ us hl => match us, hl with | [_, _], _ => rfl
theorem bd_lowest_terms : Bnd "lowest_terms" "lowest_terms" s_lowest_terms ["upper", "lower"] := fun _ _ _ _ _ _ us hl => match us, hl with | [_, _], _ => rfl
theorem bd_ratio_text : Bnd "ratio_text" "ratio_text" s_ratio_text ["ratio"] := fun _ _ _ _ _ _ us hl => match us, hl with | [_], _ => rfl
theorem bd_lowest_direction : Bnd "lowest_direction" "lowest_direction" s_lowest_direction ["a", "b"] := fun _ _ _ _ _ _ us hl => match us, hl with | [_, _], _ => rfl
theorem bd_hull_directions : Bnd "hull_directions" "hull_directions" s_hull_directions ["corners"] := fun _ _ _ _ _ _ us hl => match us, hl with | [_], _ => rfl
theorem bd_all_directions : Bnd "all_directions" "all_directions" s_all_directions ["hulls"] := fun _ _ _ _ _ _ us hl => match us, hl with | [_], _ => rfl
theorem bd_support_row : Bnd "support_row" "support_row" s_support_row ["corners", "directions"] := fun _ _ _ _ _ _ us hl => match us, hl with | [_, _], _ => rfl
theorem bd_Forecast_init : Bnd "__init__" "Forecast.__init__" s_Forecast___init__ ["self"] := fun _ _ _ _ _ _ us hl => match us, hl with | [_], _ => rfl
theorem bd_Forecast_forget_slices : Bnd "forget_slices" "Forecast.forget_slices" s_Forecast_forget_slices ["self"] := fun _ _ _ _ _ _ us hl => match us, hl with | [_], _ => rfl
theorem bd_Forecast_add_slice : Bnd "add_slice" "Forecast.add_slice" s_Forecast_add_slice ["self", "begin", "velocities"] := fun _ _ _ _ _ _ us hl => match us, hl with | [_, _, _], _ => rfl
theorem bd_Forecast_forget_findings : Bnd "forget_findings" "Forecast.forget_findings" s_Forecast_forget_findings ["self"] := fun _ _ _ _ _ _ us hl => match us, hl with | [_], _ => rfl
theorem bd_Forecast_has_slice : Bnd "has_slice" "Forecast.has_slice" s_Forecast_has_slice ["self", "number"] := fun _ _ _ _ _ _ us hl => match us, hl with | [_, _], _ => rfl
theorem bd_Forecast_is_empty : Bnd "is_empty" "Forecast.is_empty" s_Forecast_is_empty ["self"] := fun _ _ _ _ _ _ us hl => match us, hl with | [_], _ => rfl
theorem bd_Forecast_weigh_directions : Bnd "weigh_directions" "Forecast.weigh_directions" s_Forecast_weigh_directions ["self"] := fun _ _ _ _ _ _ us hl => match us, hl with | [_], _ => rfl
theorem bd_Forecast_as_one_slice : Bnd "as_one_slice" "Forecast.as_one_slice" s_Forecast_as_one_slice ["self"] := fun _ _ _ _ _ _ us hl => match us, hl with | [_], _ => rfl
theorem bd_lone_slice : Bnd "lone_slice" "lone_slice" s_lone_slice ["velocities"] := fun _ _ _ _ _ _ us hl => match us, hl with | [_], _ => rfl
theorem bd_Arrival_init : Bnd "__init__" "Arrival.__init__" s_Arrival___init__ ["self", "number", "since", "takes", "proof"] := fun _ _ _ _ _ _ us hl => match us, hl with | [_, _, _, _, _], _ => rfl
theorem bd_Arrival_happens : Bnd "happens" "Arrival.happens" s_Arrival_happens ["self"] := fun _ _ _ _ _ _ us hl => match us, hl with | [_], _ => rfl
theorem bd_Arrival_time : Bnd "time" "Arrival.time" s_Arrival_time ["self"] := fun _ _ _ _ _ _ us hl => match us, hl with | [_], _ => rfl
theorem bd_Arrival_happens_by : Bnd "happens_by" "Arrival.happens_by" s_Arrival_happens_by ["self", "u"] := fun _ _ _ _ _ _ us hl => match us, hl with | [_, _], _ => rfl
theorem bd_stretches : Bnd "stretches" "stretches" s_stretches ["begins", "t"] := fun _ _ _ _ _ _ us hl => match us, hl with | [_, _], _ => rfl
theorem bd_longest_take : Bnd "longest_take" "longest_take" s_longest_take ["lacking", "row"] := fun _ _ _ _ _ _ us hl => match us, hl with | [_, _], _ => rfl
theorem bd_ends_here : Bnd "ends_here" "ends_here" s_ends_here ["upper", "lower", "lasting"] := fun _ _ _ _ _ _ us hl => match us, hl with | [_, _, _], _ => rfl
theorem bd_least_time : Bnd "least_time" "least_time" s_least_time ["forecast", "x", "y", "start"] := fun _ _ _ _ _ _ us hl => match us, hl with | [_, _, _, _], _ => rfl
theorem bd_total : Bnd "total" "total" s_total ["p", "q"] := fun _ _ _ _ _ _ us hl => match us, hl with | [_, _], _ => rfl
theorem bd_stretched : Bnd "stretched" "stretched" s_stretched ["p", "times"] := fun _ _ _ _ _ _ us hl => match us, hl with | [_, _], _ => rfl
theorem bd_spans_between : Bnd "spans_between" "spans_between" s_spans_between ["begins", "t", "u"] := fun _ _ _ _ _ _ us hl => match us, hl with | [_, _, _], _ => rfl
theorem bd_comes_before : Bnd "comes_before" "comes_before" s_comes_before ["p", "q"] := fun _ _ _ _ _ _ us hl => match us, hl with | [_, _], _ => rfl
theorem bd_merged_sides : Bnd "merged_sides" "merged_sides" s_merged_sides ["ones", "others"] := fun _ _ _ _ _ _ us hl => match us, hl with | [_, _], _ => rfl
theorem bd_corners_along : Bnd "corners_along" "corners_along" s_corners_along ["first", "sides"] := fun _ _ _ _ _ _ us hl => match us, hl with | [_, _], _ => rfl
theorem bd_set_corners : Bnd "set_corners" "set_corners" s_set_corners ["forecast", "t", "u"] := fun _ _ _ _ _ _ us hl => match us, hl with | [_, _, _], _ => rfl
theorem bd_leg_times : Bnd "leg_times" "leg_times" s_leg_times ["forecast", "start", "places"] := fun _ _ _ _ _ _ us hl => match us, hl with | [_, _, _], _ => rfl
theorem bd_row_bound : Bnd "row_bound" "row_bound" s_row_bound ["forecast", "places"] := fun _ _ _ _ _ _ us hl => match us, hl with | [_, _], _ => rfl
theorem bd_are_in_order : Bnd "are_in_order" "are_in_order" s_are_in_order ["t", "claims"] := fun _ _ _ _ _ _ us hl => match us, hl with | [_, _], _ => rfl
theorem bd_can_follow : Bnd "can_follow" "can_follow" s_can_follow ["forecast", "before", "claim"] := fun _ _ _ _ _ _ us hl => match us, hl with | [_, _, _], _ => rfl
theorem bd_first_false_claim : Bnd "first_false_claim" "first_false_claim" s_first_false_claim ["forecast", "t", "claims"] := fun _ _ _ _ _ _ us hl => match us, hl with | [_, _, _], _ => rfl
theorem bd_is_time : Bnd "is_time" "is_time" s_is_time ["t"] := fun _ _ _ _ _ _ us hl => match us, hl with | [_], _ => rfl
theorem bd_is_span : Bnd "is_span" "is_span" s_is_span ["t", "u"] := fun _ _ _ _ _ _ us hl => match us, hl with | [_, _], _ => rfl
theorem bd_is_place : Bnd "is_place" "is_place" s_is_place ["x", "y"] := fun _ _ _ _ _ _ us hl => match us, hl with | [_, _], _ => rfl
theorem bd_is_velocity : Bnd "is_velocity" "is_velocity" s_is_velocity ["a", "b"] := fun _ _ _ _ _ _ us hl => match us, hl with | [_, _], _ => rfl
theorem bd_is_direction : Bnd "is_direction" "is_direction" s_is_direction ["a", "b"] := fun _ _ _ _ _ _ us hl => match us, hl with | [_, _], _ => rfl
theorem bd_grouped : Bnd "grouped" "grouped" s_grouped ["numbers", "size"] := fun _ _ _ _ _ _ us hl => match us, hl with | [_, _], _ => rfl
theorem bd_are_velocities : Bnd "are_velocities" "are_velocities" s_are_velocities ["numbers"] := fun _ _ _ _ _ _ us hl => match us, hl with | [_], _ => rfl
theorem bd_are_places : Bnd "are_places" "are_places" s_are_places ["numbers"] := fun _ _ _ _ _ _ us hl => match us, hl with | [_], _ => rfl
theorem bd_are_claims : Bnd "are_claims" "are_claims" s_are_claims ["numbers"] := fun _ _ _ _ _ _ us hl => match us, hl with | [_], _ => rfl
theorem bd_greatest_speed : Bnd "greatest_speed" "greatest_speed" s_greatest_speed ["corners", "a", "b"] := fun _ _ _ _ _ _ us hl => match us, hl with | [_, _, _], _ => rfl
theorem bd_sailed_spans : Bnd "sailed_spans" "sailed_spans" s_sailed_spans ["begins", "t", "arrival"] := fun _ _ _ _ _ _ us hl => match us, hl with | [_, _, _], _ => rfl
theorem bd_outer_corners : Bnd "outer_corners" "outer_corners" s_outer_corners ["corners", "direction"] := fun _ _ _ _ _ _ us hl => match us, hl with | [_, _], _ => rfl
theorem bd_sailed_slices : Bnd "sailed_slices" "sailed_slices" s_sailed_slices ["forecast", "t", "arrival"] := fun _ _ _ _ _ _ us hl => match us, hl with | [_, _, _], _ => rfl
theorem bd_add_piece : Bnd "add_piece" "add_piece" s_add_piece ["pieces", "number", "velocity", "upper", "lower"] := fun _ _ _ _ _ _ us hl => match us, hl with | [_, _, _, _, _], _ => rfl
theorem bd_way_pieces : Bnd "way_pieces" "way_pieces" s_way_pieces ["forecast", "x", "y", "t", "arrival"] := fun _ _ _ _ _ _ us hl => match us, hl with | [_, _, _, _, _], _ => rfl
theorem bd_may_begin : Bnd "may_begin" "may_begin" s_may_begin ["begins", "t"] := fun _ _ _ _ _ _ us hl => match us, hl with | [_, _], _ => rfl
theorem bd_task_refusal : Bnd "task_refusal" "task_refusal" s_task_refusal ["forecast", "x", "y", "t"] := fun _ _ _ _ _ _ us hl => match us, hl with | [_, _, _, _], _ => rfl
theorem bd_ratio_reply : Bnd "ratio_reply" "ratio_reply" s_ratio_reply ["ratio"] := fun _ _ _ _ _ _ us hl => match us, hl with | [_], _ => rfl
theorem bd_corners_reply : Bnd "corners_reply" "corners_reply" s_corners_reply ["corners"] := fun _ _ _ _ _ _ us hl => match us, hl with | [_], _ => rfl
theorem bd_reply_begin : Bnd "reply_begin" "reply_begin" s_reply_begin ["forecast"] := fun _ _ _ _ _ _ us hl => match us, hl with | [_], _ => rfl
theorem bd_reply_slice : Bnd "reply_slice" "reply_slice" s_reply_slice ["forecast", "t", "numbers"] := fun _ _ _ _ _ _ us hl => match us, hl with | [_, _, _], _ => rfl
theorem bd_reply_hull : Bnd "reply_hull" "reply_hull" s_reply_hull ["forecast", "i"] := fun _ _ _ _ _ _ us hl => match us, hl with | [_, _], _ => rfl
theorem bd_reply_inside : Bnd "reply_inside" "reply_inside" s_reply_inside ["forecast", "i"] := fun _ _ _ _ _ _ us hl => match us, hl with | [_, _], _ => rfl
theorem bd_reply_support : Bnd "reply_support" "reply_support" s_reply_support ["forecast", "i", "a", "b"] := fun _ _ _ _ _ _ us hl => match us, hl with | [_, _, _, _], _ => rfl
theorem bd_reply_least : Bnd "reply_least" "reply_least" s_reply_least ["forecast", "x", "y", "t"] := fun _ _ _ _ _ _ us hl => match us, hl with | [_, _, _, _], _ => rfl
theorem bd_reply_way : Bnd "reply_way" "reply_way" s_reply_way ["forecast", "x", "y", "t"] := fun _ _ _ _ _ _ us hl => match us, hl with | [_, _, _, _], _ => rfl
theorem bd_reply_reach : Bnd "reply_reach" "reply_reach" s_reply_reach ["forecast", "x", "y", "t", "u"] := fun _ _ _ _ _ _ us hl => match us, hl with | [_, _, _, _, _], _ => rfl
theorem bd_reply_set : Bnd "reply_set" "reply_set" s_reply_set ["forecast", "t", "u"] := fun _ _ _ _ _ _ us hl => match us, hl with | [_, _, _], _ => rfl
theorem bd_reply_course : Bnd "reply_course" "reply_course" s_reply_course ["forecast", "t", "numbers"] := fun _ _ _ _ _ _ us hl => match us, hl with | [_, _, _], _ => rfl
theorem bd_reply_all : Bnd "reply_all" "reply_all" s_reply_all ["forecast"] := fun _ _ _ _ _ _ us hl => match us, hl with | [_], _ => rfl
theorem bd_reply_bound : Bnd "reply_bound" "reply_bound" s_reply_bound ["forecast", "numbers"] := fun _ _ _ _ _ _ us hl => match us, hl with | [_, _], _ => rfl
theorem bd_reply_check : Bnd "reply_check" "reply_check" s_reply_check ["forecast", "t", "numbers"] := fun _ _ _ _ _ _ us hl => match us, hl with | [_, _, _], _ => rfl
theorem bd_reply_speed : Bnd "reply_speed" "reply_speed" s_reply_speed ["forecast", "i", "a", "b"] := fun _ _ _ _ _ _ us hl => match us, hl with | [_, _, _, _], _ => rfl
theorem bd_reply_slices : Bnd "reply_slices" "reply_slices" s_reply_slices ["forecast"] := fun _ _ _ _ _ _ us hl => match us, hl with | [_], _ => rfl
theorem bd_call_end : Bnd "call_end" "call_end" s_call_end ["calls", "at"] := fun _ _ _ _ _ _ us hl => match us, hl with | [_, _], _ => rfl
theorem bd_reply_to_early : Bnd "reply_to_early" "reply_to_early" s_reply_to_early ["forecast", "call"] := fun _ _ _ _ _ _ us hl => match us, hl with | [_, _], _ => rfl
theorem bd_reply_to_late : Bnd "reply_to_late" "reply_to_late" s_reply_to_late ["forecast", "call"] := fun _ _ _ _ _ _ us hl => match us, hl with | [_, _], _ => rfl
theorem bd_reply_to : Bnd "reply_to" "reply_to" s_reply_to ["forecast", "call"] := fun _ _ _ _ _ _ us hl => match us, hl with | [_, _], _ => rfl
theorem bd_answers : Bnd "answers" "answers" s_answers ["calls"] := fun _ _ _ _ _ _ us hl => match us, hl with | [_], _ => rfl
theorem hull_ok {P : Program} {w : World} {K : Frag} {mg : Str → Option Value} {base : Heap} (T : Tx K mg) (k : Nat) : FnOk P w K mg base CX0 (k + 4) T.hull_corners.f T.hull_corners.fd ["velocities"] (spHullN K) :=
  ok_hullN T.hull_corners.fn T.left_chain.fn T.left_chain.b T.left_chain.g T.nb.len_ T.nb.sorted_ T.nb.set_ T.nb.list_ T.nb.reversed_
    (ok_chain T.left_chain.fn T.bends_left.fn T.bends_left.b T.bends_left.g T.nb.len_ (ok_bends T.bends_left.fn T.cross.fn T.cross.b T.cross.g T.difference.fn T.difference.b T.difference.g))
/-- The whole, with the table that it is handed. -/
def spEndT (K : Frag) (cs : List (Addr × Addr)) : Sp := match cs with
  | [p] => spAns K p.2
  | _ => fun _ _ _ _ => True
theorem endT {P : Program} {w : World} {K : Frag} {mg : Str → Option Value} {h : Heap} {fa : Addr} {q : Program} (T : Tx K mg) (L : DL K mg "outer_corners" s_outer_corners ["corners", "direction"]) (eL : T.outer_corners = L.toD) (hfa : mg "answers" = some (.ref fa))
    (hr : ((recsOf q).find? fun e => e.name == ("outer_corners" : Str)).isSome = true)
    (hT : ∀ (x : Str) (e : DefRec) (c P : Addr), (recsOf q).find? (fun e => e.name == x) = some e → tabIn K x = some (c, P) → CodeHd h c P ∧ h.get? P = some { cls := .none, data := .fields #[] }) :
    ∃ (fd : FuncData) (cs : List (Addr × Addr)), (∀ p ∈ cs, h.get? p.2 = some { cls := .none, data := .fields #[] }) ∧ (∀ p ∈ cs, K.lookup p.2 = none) ∧ (∀ p ∈ cs, CodeHd h p.1 p.2) ∧
        (∀ (s : Shared) (us : List Value), us.length = (["calls"] : List Str).length → BindsTo s fd ⟨us, []⟩ ((["calls"] : List Str).zip us)) ∧
        ∀ base : Heap, K.In base → base.Ns mainGlobals mg → (∀ p ∈ cs, TabB base mg p.1 p.2) → FnOk P w K mg base CX0 12 fa fd ["calls"] (spEndT K cs) := by
  obtain ⟨e, he⟩ := Option.isSome_iff_exists.mp hr
  obtain ⟨h1, h2⟩ := hT _ e L.c L.tb he L.tab
  have e2 := hfa.symm.trans T.answers.g
  cases e2
  refine ⟨T.answers.fd, [(L.c, L.tb)], fun p hp => ?_, fun p hp => ?_, fun p hp => ?_, fun s us hl => ?_, fun base hK hN hB => ?_⟩
  · rw [List.mem_singleton.mp hp]
    exact h2
  · rw [List.mem_singleton.mp hp]
    exact L.off
  · rw [List.mem_singleton.mp hp]
    exact h1
  · obtain ⟨oc, od, kV, doc, pm, an, cdv, ct, osl, hfd, _, _⟩ := T.answers.fn.ex
    rw [hfd]
    exact .of_eq (bd_answers kV doc pm an cdv ct us hl)
  · exact okAnswers (k := 0) T ⟨hull_ok T, L.c, by rw [eL]; exact L.code, hB _ List.mem_cons_self⟩
end Sw
set_option maxHeartbeats 8000000
open PySem PySem.W PyProof.Rows
theorem PySem.Challenge.cw_soonways_s01_answers_holds : PySem.Challenge.rw_soonways_s01_answers.Holds := by
  w_on; k_headS; (case hw => exact ⟨[.list [.int 0]], by decide +kernel, by decide +kernel⟩)
  k_fillS
  refine Sw.walk_specT (r := PySem.Challenge.rw_soonways_s01_answers) (k := 12) (CX := L2.CX0) (ps := ["calls"]) (sp := Sw.spEndT) (by decide +kernel) rfl rfl ⟨rfl, by decide, by decide⟩ (fun w h Y => PySem.W.kIn_of Y) ?F ?S (fun _ _ _ _ z => z)
  case F =>
    intro w mg fa h Y KX G hmg hT
    have nb : Sw.Nb mg := by
      refine' ⟨PySem.W.mg_none_of KX G ?n0, PySem.W.mg_none_of KX G ?n1, PySem.W.mg_none_of KX G ?n2, PySem.W.mg_none_of KX G ?n3, PySem.W.mg_none_of KX G ?n4, PySem.W.mg_none_of KX G ?n5, PySem.W.mg_none_of KX G ?n6, PySem.W.mg_none_of KX G ?n7, PySem.W.mg_none_of KX G ?n8, PySem.W.mg_none_of KX G ?n9, PySem.W.mg_none_of KX G ?n10, PySem.W.mg_none_of KX G ?n11, PySem.W.mg_none_of KX G ?n12, PySem.W.mg_none_of KX G ?n13, PySem.W.mg_none_of KX G ?n14⟩
      (case n0 => k_is); (case n1 => k_is); (case n2 => k_is); (case n3 => k_is); (case n4 => k_is); (case n5 => k_is); (case n6 => k_is); (case n7 => k_is); (case n8 => k_is); (case n9 => k_is); (case n10 => k_is); (case n11 => k_is); (case n12 => k_is); (case n13 => k_is); (case n14 => k_is)
    have d_cross : Sw.D (PySem.Challenge.cw_soonways_s01_answers_holds.heap_1 w.params) mg "cross" Sw.s_cross ["p", "q"] := by (refine' Sw.D.of KX G Sw.bd_cross ?a ?l ?c ?k; (case a => k_is); (case l => k_is); (case c => k_is); (case k => k_is))
    have d_how_far : Sw.D (PySem.Challenge.cw_soonways_s01_answers_holds.heap_1 w.params) mg "how_far" Sw.s_how_far ["direction", "velocity"] := by (refine' Sw.D.of KX G Sw.bd_how_far ?a ?l ?c ?k; (case a => k_is); (case l => k_is); (case c => k_is); (case k => k_is))
    have d_difference : Sw.D (PySem.Challenge.cw_soonways_s01_answers_holds.heap_1 w.params) mg "difference" Sw.s_difference ["p", "q"] := by (refine' Sw.D.of KX G Sw.bd_difference ?a ?l ?c ?k; (case a => k_is); (case l => k_is); (case c => k_is); (case k => k_is))
    have d_bends_left : Sw.D (PySem.Challenge.cw_soonways_s01_answers_holds.heap_1 w.params) mg "bends_left" Sw.s_bends_left ["p", "q", "r"] := by (refine' Sw.D.of KX G Sw.bd_bends_left ?a ?l ?c ?k; (case a => k_is); (case l => k_is); (case c => k_is); (case k => k_is))
    have d_left_chain : Sw.D (PySem.Challenge.cw_soonways_s01_answers_holds.heap_1 w.params) mg "left_chain" Sw.s_left_chain ["points"] := by (refine' Sw.D.of KX G Sw.bd_left_chain ?a ?l ?c ?k; (case a => k_is); (case l => k_is); (case c => k_is); (case k => k_is))
    have d_hull_corners : Sw.D (PySem.Challenge.cw_soonways_s01_answers_holds.heap_1 w.params) mg "hull_corners" Sw.s_hull_corners ["velocities"] := by (refine' Sw.D.of KX G Sw.bd_hull_corners ?a ?l ?c ?k; (case a => k_is); (case l => k_is); (case c => k_is); (case k => k_is))
    have d_neighbours : Sw.D (PySem.Challenge.cw_soonways_s01_answers_holds.heap_1 w.params) mg "neighbours" Sw.s_neighbours ["corners"] := by (refine' Sw.D.of KX G Sw.bd_neighbours ?a ?l ?c ?k; (case a => k_is); (case l => k_is); (case c => k_is); (case k => k_is))
    have d_hull_sides : Sw.D (PySem.Challenge.cw_soonways_s01_answers_holds.heap_1 w.params) mg "hull_sides" Sw.s_hull_sides ["corners"] := by (refine' Sw.D.of KX G Sw.bd_hull_sides ?a ?l ?c ?k; (case a => k_is); (case l => k_is); (case c => k_is); (case k => k_is))
    have d_holds_origin_within : Sw.D (PySem.Challenge.cw_soonways_s01_answers_holds.heap_1 w.params) mg "holds_origin_within" Sw.s_holds_origin_within ["corners"] := by (refine' Sw.D.of KX G Sw.bd_holds_origin_within ?a ?l ?c ?k; (case a => k_is); (case l => k_is); (case c => k_is); (case k => k_is))
    have d_hull_support : Sw.D (PySem.Challenge.cw_soonways_s01_answers_holds.heap_1 w.params) mg "hull_support" Sw.s_hull_support ["corners", "direction"] := by (refine' Sw.D.of KX G Sw.bd_hull_support ?a ?l ?c ?k; (case a => k_is); (case l => k_is); (case c => k_is); (case k => k_is))
    have d_furthest_corners : Sw.D (PySem.Challenge.cw_soonways_s01_answers_holds.heap_1 w.params) mg "furthest_corners" Sw.s_furthest_corners ["corners", "direction"] := by (refine' Sw.D.of KX G Sw.bd_furthest_corners ?a ?l ?c ?k; (case a => k_is); (case l => k_is); (case c => k_is); (case k => k_is))
    have d_greatest_divisor : Sw.D (PySem.Challenge.cw_soonways_s01_answers_holds.heap_1 w.params) mg "greatest_divisor" Sw.s_greatest_divisor ["m", "n"] := by (refine' Sw.D.of KX G Sw.bd_greatest_divisor ?a ?l ?c ?k; (case a => k_is); (case l => k_is); (case c => k_is); (case k => k_is))
    have d_lowest_terms : Sw.D (PySem.Challenge.cw_soonways_s01_answers_holds.heap_1 w.params) mg "lowest_terms" Sw.s_lowest_terms ["upper", "lower"] := by (refine' Sw.D.of KX G Sw.bd_lowest_terms ?a ?l ?c ?k; (case a => k_is); (case l => k_is); (case c => k_is); (case k => k_is))
    have d_ratio_text : Sw.D (PySem.Challenge.cw_soonways_s01_answers_holds.heap_1 w.params) mg "ratio_text" Sw.s_ratio_text ["ratio"] := by (refine' Sw.D.of KX G Sw.bd_ratio_text ?a ?l ?c ?k; (case a => k_is); (case l => k_is); (case c => k_is); (case k => k_is))
    have d_lowest_direction : Sw.D (PySem.Challenge.cw_soonways_s01_answers_holds.heap_1 w.params) mg "lowest_direction" Sw.s_lowest_direction ["a", "b"] := by (refine' Sw.D.of KX G Sw.bd_lowest_direction ?a ?l ?c ?k; (case a => k_is); (case l => k_is); (case c => k_is); (case k => k_is))
    have d_hull_directions : Sw.D (PySem.Challenge.cw_soonways_s01_answers_holds.heap_1 w.params) mg "hull_directions" Sw.s_hull_directions ["corners"] := by (refine' Sw.D.of KX G Sw.bd_hull_directions ?a ?l ?c ?k; (case a => k_is); (case l => k_is); (case c => k_is); (case k => k_is))
    have d_all_directions : Sw.D (PySem.Challenge.cw_soonways_s01_answers_holds.heap_1 w.params) mg "all_directions" Sw.s_all_directions ["hulls"] := by (refine' Sw.D.of KX G Sw.bd_all_directions ?a ?l ?c ?k; (case a => k_is); (case l => k_is); (case c => k_is); (case k => k_is))
    have d_support_row : Sw.D (PySem.Challenge.cw_soonways_s01_answers_holds.heap_1 w.params) mg "support_row" Sw.s_support_row ["corners", "directions"] := by (refine' Sw.D.of KX G Sw.bd_support_row ?a ?l ?c ?k; (case a => k_is); (case l => k_is); (case c => k_is); (case k => k_is))
    have d_lone_slice : Sw.D (PySem.Challenge.cw_soonways_s01_answers_holds.heap_1 w.params) mg "lone_slice" Sw.s_lone_slice ["velocities"] := by (refine' Sw.D.of KX G Sw.bd_lone_slice ?a ?l ?c ?k; (case a => k_is); (case l => k_is); (case c => k_is); (case k => k_is))
    have d_stretches : Sw.D (PySem.Challenge.cw_soonways_s01_answers_holds.heap_1 w.params) mg "stretches" Sw.s_stretches ["begins", "t"] := by (refine' Sw.D.of KX G Sw.bd_stretches ?a ?l ?c ?k; (case a => k_is); (case l => k_is); (case c => k_is); (case k => k_is))
    have d_longest_take : Sw.D (PySem.Challenge.cw_soonways_s01_answers_holds.heap_1 w.params) mg "longest_take" Sw.s_longest_take ["lacking", "row"] := by (refine' Sw.D.of KX G Sw.bd_longest_take ?a ?l ?c ?k; (case a => k_is); (case l => k_is); (case c => k_is); (case k => k_is))
    have d_ends_here : Sw.D (PySem.Challenge.cw_soonways_s01_answers_holds.heap_1 w.params) mg "ends_here" Sw.s_ends_here ["upper", "lower", "lasting"] := by (refine' Sw.D.of KX G Sw.bd_ends_here ?a ?l ?c ?k; (case a => k_is); (case l => k_is); (case c => k_is); (case k => k_is))
    have d_least_time : Sw.D (PySem.Challenge.cw_soonways_s01_answers_holds.heap_1 w.params) mg "least_time" Sw.s_least_time ["forecast", "x", "y", "start"] := by (refine' Sw.D.of KX G Sw.bd_least_time ?a ?l ?c ?k; (case a => k_is); (case l => k_is); (case c => k_is); (case k => k_is))
    have d_total : Sw.D (PySem.Challenge.cw_soonways_s01_answers_holds.heap_1 w.params) mg "total" Sw.s_total ["p", "q"] := by (refine' Sw.D.of KX G Sw.bd_total ?a ?l ?c ?k; (case a => k_is); (case l => k_is); (case c => k_is); (case k => k_is))
    have d_stretched : Sw.D (PySem.Challenge.cw_soonways_s01_answers_holds.heap_1 w.params) mg "stretched" Sw.s_stretched ["p", "times"] := by (refine' Sw.D.of KX G Sw.bd_stretched ?a ?l ?c ?k; (case a => k_is); (case l => k_is); (case c => k_is); (case k => k_is))
    have d_spans_between : Sw.D (PySem.Challenge.cw_soonways_s01_answers_holds.heap_1 w.params) mg "spans_between" Sw.s_spans_between ["begins", "t", "u"] := by (refine' Sw.D.of KX G Sw.bd_spans_between ?a ?l ?c ?k; (case a => k_is); (case l => k_is); (case c => k_is); (case k => k_is))
    have d_comes_before : Sw.D (PySem.Challenge.cw_soonways_s01_answers_holds.heap_1 w.params) mg "comes_before" Sw.s_comes_before ["p", "q"] := by (refine' Sw.D.of KX G Sw.bd_comes_before ?a ?l ?c ?k; (case a => k_is); (case l => k_is); (case c => k_is); (case k => k_is))
    have d_merged_sides : Sw.D (PySem.Challenge.cw_soonways_s01_answers_holds.heap_1 w.params) mg "merged_sides" Sw.s_merged_sides ["ones", "others"] := by (refine' Sw.D.of KX G Sw.bd_merged_sides ?a ?l ?c ?k; (case a => k_is); (case l => k_is); (case c => k_is); (case k => k_is))
    have d_corners_along : Sw.D (PySem.Challenge.cw_soonways_s01_answers_holds.heap_1 w.params) mg "corners_along" Sw.s_corners_along ["first", "sides"] := by (refine' Sw.D.of KX G Sw.bd_corners_along ?a ?l ?c ?k; (case a => k_is); (case l => k_is); (case c => k_is); (case k => k_is))
    have d_set_corners : Sw.D (PySem.Challenge.cw_soonways_s01_answers_holds.heap_1 w.params) mg "set_corners" Sw.s_set_corners ["forecast", "t", "u"] := by (refine' Sw.D.of KX G Sw.bd_set_corners ?a ?l ?c ?k; (case a => k_is); (case l => k_is); (case c => k_is); (case k => k_is))
    have d_leg_times : Sw.D (PySem.Challenge.cw_soonways_s01_answers_holds.heap_1 w.params) mg "leg_times" Sw.s_leg_times ["forecast", "start", "places"] := by (refine' Sw.D.of KX G Sw.bd_leg_times ?a ?l ?c ?k; (case a => k_is); (case l => k_is); (case c => k_is); (case k => k_is))
    have d_row_bound : Sw.D (PySem.Challenge.cw_soonways_s01_answers_holds.heap_1 w.params) mg "row_bound" Sw.s_row_bound ["forecast", "places"] := by (refine' Sw.D.of KX G Sw.bd_row_bound ?a ?l ?c ?k; (case a => k_is); (case l => k_is); (case c => k_is); (case k => k_is))
    have d_are_in_order : Sw.D (PySem.Challenge.cw_soonways_s01_answers_holds.heap_1 w.params) mg "are_in_order" Sw.s_are_in_order ["t", "claims"] := by (refine' Sw.D.of KX G Sw.bd_are_in_order ?a ?l ?c ?k; (case a => k_is); (case l => k_is); (case c => k_is); (case k => k_is))
    have d_can_follow : Sw.D (PySem.Challenge.cw_soonways_s01_answers_holds.heap_1 w.params) mg "can_follow" Sw.s_can_follow ["forecast", "before", "claim"] := by (refine' Sw.D.of KX G Sw.bd_can_follow ?a ?l ?c ?k; (case a => k_is); (case l => k_is); (case c => k_is); (case k => k_is))
    have d_first_false_claim : Sw.D (PySem.Challenge.cw_soonways_s01_answers_holds.heap_1 w.params) mg "first_false_claim" Sw.s_first_false_claim ["forecast", "t", "claims"] := by (refine' Sw.D.of KX G Sw.bd_first_false_claim ?a ?l ?c ?k; (case a => k_is); (case l => k_is); (case c => k_is); (case k => k_is))
    have d_is_time : Sw.D (PySem.Challenge.cw_soonways_s01_answers_holds.heap_1 w.params) mg "is_time" Sw.s_is_time ["t"] := by (refine' Sw.D.of KX G Sw.bd_is_time ?a ?l ?c ?k; (case a => k_is); (case l => k_is); (case c => k_is); (case k => k_is))
    have d_is_span : Sw.D (PySem.Challenge.cw_soonways_s01_answers_holds.heap_1 w.params) mg "is_span" Sw.s_is_span ["t", "u"] := by (refine' Sw.D.of KX G Sw.bd_is_span ?a ?l ?c ?k; (case a => k_is); (case l => k_is); (case c => k_is); (case k => k_is))
    have d_is_place : Sw.D (PySem.Challenge.cw_soonways_s01_answers_holds.heap_1 w.params) mg "is_place" Sw.s_is_place ["x", "y"] := by (refine' Sw.D.of KX G Sw.bd_is_place ?a ?l ?c ?k; (case a => k_is); (case l => k_is); (case c => k_is); (case k => k_is))
    have d_is_velocity : Sw.D (PySem.Challenge.cw_soonways_s01_answers_holds.heap_1 w.params) mg "is_velocity" Sw.s_is_velocity ["a", "b"] := by (refine' Sw.D.of KX G Sw.bd_is_velocity ?a ?l ?c ?k; (case a => k_is); (case l => k_is); (case c => k_is); (case k => k_is))
    have d_is_direction : Sw.D (PySem.Challenge.cw_soonways_s01_answers_holds.heap_1 w.params) mg "is_direction" Sw.s_is_direction ["a", "b"] := by (refine' Sw.D.of KX G Sw.bd_is_direction ?a ?l ?c ?k; (case a => k_is); (case l => k_is); (case c => k_is); (case k => k_is))
    have d_grouped : Sw.D (PySem.Challenge.cw_soonways_s01_answers_holds.heap_1 w.params) mg "grouped" Sw.s_grouped ["numbers", "size"] := by (refine' Sw.D.of KX G Sw.bd_grouped ?a ?l ?c ?k; (case a => k_is); (case l => k_is); (case c => k_is); (case k => k_is))
    have d_are_velocities : Sw.D (PySem.Challenge.cw_soonways_s01_answers_holds.heap_1 w.params) mg "are_velocities" Sw.s_are_velocities ["numbers"] := by (refine' Sw.D.of KX G Sw.bd_are_velocities ?a ?l ?c ?k; (case a => k_is); (case l => k_is); (case c => k_is); (case k => k_is))
    have d_are_places : Sw.D (PySem.Challenge.cw_soonways_s01_answers_holds.heap_1 w.params) mg "are_places" Sw.s_are_places ["numbers"] := by (refine' Sw.D.of KX G Sw.bd_are_places ?a ?l ?c ?k; (case a => k_is); (case l => k_is); (case c => k_is); (case k => k_is))
    have d_are_claims : Sw.D (PySem.Challenge.cw_soonways_s01_answers_holds.heap_1 w.params) mg "are_claims" Sw.s_are_claims ["numbers"] := by (refine' Sw.D.of KX G Sw.bd_are_claims ?a ?l ?c ?k; (case a => k_is); (case l => k_is); (case c => k_is); (case k => k_is))
    have d_greatest_speed : Sw.D (PySem.Challenge.cw_soonways_s01_answers_holds.heap_1 w.params) mg "greatest_speed" Sw.s_greatest_speed ["corners", "a", "b"] := by (refine' Sw.D.of KX G Sw.bd_greatest_speed ?a ?l ?c ?k; (case a => k_is); (case l => k_is); (case c => k_is); (case k => k_is))
    have d_sailed_spans : Sw.D (PySem.Challenge.cw_soonways_s01_answers_holds.heap_1 w.params) mg "sailed_spans" Sw.s_sailed_spans ["begins", "t", "arrival"] := by (refine' Sw.D.of KX G Sw.bd_sailed_spans ?a ?l ?c ?k; (case a => k_is); (case l => k_is); (case c => k_is); (case k => k_is))
    have L_outer : Sw.DL (PySem.Challenge.cw_soonways_s01_answers_holds.heap_1 w.params) mg "outer_corners" Sw.s_outer_corners ["corners", "direction"] := by
      refine' Sw.DL.of KX G Sw.bd_outer_corners ?a ?l ?c ?k ?l2 ?v ?o
      (case a => k_is); (case l => k_is); (case c => k_is); (case k => k_is); (case l2 => k_is); (case v => rfl); (case o => kernel_rfl)
    have d_sailed_slices : Sw.D (PySem.Challenge.cw_soonways_s01_answers_holds.heap_1 w.params) mg "sailed_slices" Sw.s_sailed_slices ["forecast", "t", "arrival"] := by (refine' Sw.D.of KX G Sw.bd_sailed_slices ?a ?l ?c ?k; (case a => k_is); (case l => k_is); (case c => k_is); (case k => k_is))
    have d_add_piece : Sw.D (PySem.Challenge.cw_soonways_s01_answers_holds.heap_1 w.params) mg "add_piece" Sw.s_add_piece ["pieces", "number", "velocity", "upper", "lower"] := by (refine' Sw.D.of KX G Sw.bd_add_piece ?a ?l ?c ?k; (case a => k_is); (case l => k_is); (case c => k_is); (case k => k_is))
    have d_way_pieces : Sw.D (PySem.Challenge.cw_soonways_s01_answers_holds.heap_1 w.params) mg "way_pieces" Sw.s_way_pieces ["forecast", "x", "y", "t", "arrival"] := by (refine' Sw.D.of KX G Sw.bd_way_pieces ?a ?l ?c ?k; (case a => k_is); (case l => k_is); (case c => k_is); (case k => k_is))
    have d_may_begin : Sw.D (PySem.Challenge.cw_soonways_s01_answers_holds.heap_1 w.params) mg "may_begin" Sw.s_may_begin ["begins", "t"] := by (refine' Sw.D.of KX G Sw.bd_may_begin ?a ?l ?c ?k; (case a => k_is); (case l => k_is); (case c => k_is); (case k => k_is))
    have d_task_refusal : Sw.D (PySem.Challenge.cw_soonways_s01_answers_holds.heap_1 w.params) mg "task_refusal" Sw.s_task_refusal ["forecast", "x", "y", "t"] := by (refine' Sw.D.of KX G Sw.bd_task_refusal ?a ?l ?c ?k; (case a => k_is); (case l => k_is); (case c => k_is); (case k => k_is))
    have d_ratio_reply : Sw.D (PySem.Challenge.cw_soonways_s01_answers_holds.heap_1 w.params) mg "ratio_reply" Sw.s_ratio_reply ["ratio"] := by (refine' Sw.D.of KX G Sw.bd_ratio_reply ?a ?l ?c ?k; (case a => k_is); (case l => k_is); (case c => k_is); (case k => k_is))
    have d_corners_reply : Sw.D (PySem.Challenge.cw_soonways_s01_answers_holds.heap_1 w.params) mg "corners_reply" Sw.s_corners_reply ["corners"] := by (refine' Sw.D.of KX G Sw.bd_corners_reply ?a ?l ?c ?k; (case a => k_is); (case l => k_is); (case c => k_is); (case k => k_is))
    have d_reply_begin : Sw.D (PySem.Challenge.cw_soonways_s01_answers_holds.heap_1 w.params) mg "reply_begin" Sw.s_reply_begin ["forecast"] := by (refine' Sw.D.of KX G Sw.bd_reply_begin ?a ?l ?c ?k; (case a => k_is); (case l => k_is); (case c => k_is); (case k => k_is))
    have d_reply_slice : Sw.D (PySem.Challenge.cw_soonways_s01_answers_holds.heap_1 w.params) mg "reply_slice" Sw.s_reply_slice ["forecast", "t", "numbers"] := by (refine' Sw.D.of KX G Sw.bd_reply_slice ?a ?l ?c ?k; (case a => k_is); (case l => k_is); (case c => k_is); (case k => k_is))
    have d_reply_hull : Sw.D (PySem.Challenge.cw_soonways_s01_answers_holds.heap_1 w.params) mg "reply_hull" Sw.s_reply_hull ["forecast", "i"] := by (refine' Sw.D.of KX G Sw.bd_reply_hull ?a ?l ?c ?k; (case a => k_is); (case l => k_is); (case c => k_is); (case k => k_is))
    have d_reply_inside : Sw.D (PySem.Challenge.cw_soonways_s01_answers_holds.heap_1 w.params) mg "reply_inside" Sw.s_reply_inside ["forecast", "i"] := by (refine' Sw.D.of KX G Sw.bd_reply_inside ?a ?l ?c ?k; (case a => k_is); (case l => k_is); (case c => k_is); (case k => k_is))
    have d_reply_support : Sw.D (PySem.Challenge.cw_soonways_s01_answers_holds.heap_1 w.params) mg "reply_support" Sw.s_reply_support ["forecast", "i", "a", "b"] := by (refine' Sw.D.of KX G Sw.bd_reply_support ?a ?l ?c ?k; (case a => k_is); (case l => k_is); (case c => k_is); (case k => k_is))
    have d_reply_least : Sw.D (PySem.Challenge.cw_soonways_s01_answers_holds.heap_1 w.params) mg "reply_least" Sw.s_reply_least ["forecast", "x", "y", "t"] := by (refine' Sw.D.of KX G Sw.bd_reply_least ?a ?l ?c ?k; (case a => k_is); (case l => k_is); (case c => k_is); (case k => k_is))
    have d_reply_way : Sw.D (PySem.Challenge.cw_soonways_s01_answers_holds.heap_1 w.params) mg "reply_way" Sw.s_reply_way ["forecast", "x", "y", "t"] := by (refine' Sw.D.of KX G Sw.bd_reply_way ?a ?l ?c ?k; (case a => k_is); (case l => k_is); (case c => k_is); (case k => k_is))
    have d_reply_reach : Sw.D (PySem.Challenge.cw_soonways_s01_answers_holds.heap_1 w.params) mg "reply_reach" Sw.s_reply_reach ["forecast", "x", "y", "t", "u"] := by (refine' Sw.D.of KX G Sw.bd_reply_reach ?a ?l ?c ?k; (case a => k_is); (case l => k_is); (case c => k_is); (case k => k_is))
    have d_reply_set : Sw.D (PySem.Challenge.cw_soonways_s01_answers_holds.heap_1 w.params) mg "reply_set" Sw.s_reply_set ["forecast", "t", "u"] := by (refine' Sw.D.of KX G Sw.bd_reply_set ?a ?l ?c ?k; (case a => k_is); (case l => k_is); (case c => k_is); (case k => k_is))
    have d_reply_course : Sw.D (PySem.Challenge.cw_soonways_s01_answers_holds.heap_1 w.params) mg "reply_course" Sw.s_reply_course ["forecast", "t", "numbers"] := by (refine' Sw.D.of KX G Sw.bd_reply_course ?a ?l ?c ?k; (case a => k_is); (case l => k_is); (case c => k_is); (case k => k_is))
    have d_reply_all : Sw.D (PySem.Challenge.cw_soonways_s01_answers_holds.heap_1 w.params) mg "reply_all" Sw.s_reply_all ["forecast"] := by (refine' Sw.D.of KX G Sw.bd_reply_all ?a ?l ?c ?k; (case a => k_is); (case l => k_is); (case c => k_is); (case k => k_is))
    have d_reply_bound : Sw.D (PySem.Challenge.cw_soonways_s01_answers_holds.heap_1 w.params) mg "reply_bound" Sw.s_reply_bound ["forecast", "numbers"] := by (refine' Sw.D.of KX G Sw.bd_reply_bound ?a ?l ?c ?k; (case a => k_is); (case l => k_is); (case c => k_is); (case k => k_is))
    have d_reply_check : Sw.D (PySem.Challenge.cw_soonways_s01_answers_holds.heap_1 w.params) mg "reply_check" Sw.s_reply_check ["forecast", "t", "numbers"] := by (refine' Sw.D.of KX G Sw.bd_reply_check ?a ?l ?c ?k; (case a => k_is); (case l => k_is); (case c => k_is); (case k => k_is))
    have d_reply_speed : Sw.D (PySem.Challenge.cw_soonways_s01_answers_holds.heap_1 w.params) mg "reply_speed" Sw.s_reply_speed ["forecast", "i", "a", "b"] := by (refine' Sw.D.of KX G Sw.bd_reply_speed ?a ?l ?c ?k; (case a => k_is); (case l => k_is); (case c => k_is); (case k => k_is))
    have d_reply_slices : Sw.D (PySem.Challenge.cw_soonways_s01_answers_holds.heap_1 w.params) mg "reply_slices" Sw.s_reply_slices ["forecast"] := by (refine' Sw.D.of KX G Sw.bd_reply_slices ?a ?l ?c ?k; (case a => k_is); (case l => k_is); (case c => k_is); (case k => k_is))
    have d_call_end : Sw.D (PySem.Challenge.cw_soonways_s01_answers_holds.heap_1 w.params) mg "call_end" Sw.s_call_end ["calls", "at"] := by (refine' Sw.D.of KX G Sw.bd_call_end ?a ?l ?c ?k; (case a => k_is); (case l => k_is); (case c => k_is); (case k => k_is))
    have d_reply_to_early : Sw.D (PySem.Challenge.cw_soonways_s01_answers_holds.heap_1 w.params) mg "reply_to_early" Sw.s_reply_to_early ["forecast", "call"] := by (refine' Sw.D.of KX G Sw.bd_reply_to_early ?a ?l ?c ?k; (case a => k_is); (case l => k_is); (case c => k_is); (case k => k_is))
    have d_reply_to_late : Sw.D (PySem.Challenge.cw_soonways_s01_answers_holds.heap_1 w.params) mg "reply_to_late" Sw.s_reply_to_late ["forecast", "call"] := by (refine' Sw.D.of KX G Sw.bd_reply_to_late ?a ?l ?c ?k; (case a => k_is); (case l => k_is); (case c => k_is); (case k => k_is))
    have d_reply_to : Sw.D (PySem.Challenge.cw_soonways_s01_answers_holds.heap_1 w.params) mg "reply_to" Sw.s_reply_to ["forecast", "call"] := by (refine' Sw.D.of KX G Sw.bd_reply_to ?a ?l ?c ?k; (case a => k_is); (case l => k_is); (case c => k_is); (case k => k_is))
    have d_answers : Sw.D (PySem.Challenge.cw_soonways_s01_answers_holds.heap_1 w.params) mg "answers" Sw.s_answers ["calls"] := by (refine' Sw.D.of KX G Sw.bd_answers ?a ?l ?c ?k; (case a => k_is); (case l => k_is); (case c => k_is); (case k => k_is))
    have fc : Sw.FcT (PySem.Challenge.cw_soonways_s01_answers_holds.heap_1 w.params) mg := by
      refine' ⟨_, ⟨?c1, ?c2, ?c3, ?c4⟩, PySem.W.mg_of KX G ?g, ?m0, ?m1, ?m2, ?m3, ?m4, ?m5, ?m6, ?m7, ?mk, ?kp, ?f0, ?f1, ?f2, ?f3, ?f4⟩
      (case g => k_is); (case c1 => k_is); (case c2 => k_is); (case c3 => k_is); (case c4 => k_is); (case mk => k_is); (case kp => k_is)
      (case m0 => refine' Sw.M.of Sw.bd_Forecast_init ?a ?i ?l ?c ?k; (case a => k_is); (case i => k_is); (case l => k_is); (case c => k_is); (case k => k_is))
      (case m1 => refine' Sw.M.of Sw.bd_Forecast_forget_slices ?a ?i ?l ?c ?k; (case a => k_is); (case i => k_is); (case l => k_is); (case c => k_is); (case k => k_is))
      (case m2 => refine' Sw.M.of Sw.bd_Forecast_add_slice ?a ?i ?l ?c ?k; (case a => k_is); (case i => k_is); (case l => k_is); (case c => k_is); (case k => k_is))
      (case m3 => refine' Sw.M.of Sw.bd_Forecast_forget_findings ?a ?i ?l ?c ?k; (case a => k_is); (case i => k_is); (case l => k_is); (case c => k_is); (case k => k_is))
      (case m4 => refine' Sw.M.of Sw.bd_Forecast_has_slice ?a ?i ?l ?c ?k; (case a => k_is); (case i => k_is); (case l => k_is); (case c => k_is); (case k => k_is))
      (case m5 => refine' Sw.M.of Sw.bd_Forecast_is_empty ?a ?i ?l ?c ?k; (case a => k_is); (case i => k_is); (case l => k_is); (case c => k_is); (case k => k_is))
      (case m6 => refine' Sw.M.of Sw.bd_Forecast_weigh_directions ?a ?i ?l ?c ?k; (case a => k_is); (case i => k_is); (case l => k_is); (case c => k_is); (case k => k_is))
      (case m7 => refine' Sw.M.of Sw.bd_Forecast_as_one_slice ?a ?i ?l ?c ?k; (case a => k_is); (case i => k_is); (case l => k_is); (case c => k_is); (case k => k_is))
      (case f0 => show PySem.W.findIn _ _ _ = _; k_is)
      (case f1 => show PySem.W.findIn _ _ _ = _; k_is)
      (case f2 => show PySem.W.findIn _ _ _ = _; k_is)
      (case f3 => show PySem.W.findIn _ _ _ = _; k_is)
      (case f4 => show PySem.W.findIn _ _ _ = _; k_is)
    have ar : Sw.ArT (PySem.Challenge.cw_soonways_s01_answers_holds.heap_1 w.params) mg := by
      refine' ⟨_, ⟨?c1, ?c2, ?c3, ?c4⟩, PySem.W.mg_of KX G ?g, ?m0, ?m1, ?m2, ?m3, ?mk, ?kp, ?f0, ?f1, ?f2, ?f3⟩
      (case g => k_is); (case c1 => k_is); (case c2 => k_is); (case c3 => k_is); (case c4 => k_is); (case mk => k_is); (case kp => k_is)
      (case m0 => refine' Sw.M.of Sw.bd_Arrival_init ?a ?i ?l ?c ?k; (case a => k_is); (case i => k_is); (case l => k_is); (case c => k_is); (case k => k_is))
      (case m1 => refine' Sw.M.of Sw.bd_Arrival_happens ?a ?i ?l ?c ?k; (case a => k_is); (case i => k_is); (case l => k_is); (case c => k_is); (case k => k_is))
      (case m2 => refine' Sw.M.of Sw.bd_Arrival_time ?a ?i ?l ?c ?k; (case a => k_is); (case i => k_is); (case l => k_is); (case c => k_is); (case k => k_is))
      (case m3 => refine' Sw.M.of Sw.bd_Arrival_happens_by ?a ?i ?l ?c ?k; (case a => k_is); (case i => k_is); (case l => k_is); (case c => k_is); (case k => k_is))
      (case f0 => show PySem.W.findIn _ _ _ = _; k_is)
      (case f1 => show PySem.W.findIn _ _ _ = _; k_is)
      (case f2 => show PySem.W.findIn _ _ _ = _; k_is)
      (case f3 => show PySem.W.findIn _ _ _ = _; k_is)
    have k_LAST_TIME : Sw.CI mg "LAST_TIME" (1000000) := by refine' Sw.CI.of KX G ?a; (case a => k_is)
    have k_FURTHEST_PLACE : Sw.CI mg "FURTHEST_PLACE" (1000000) := by refine' Sw.CI.of KX G ?a; (case a => k_is)
    have k_FASTEST : Sw.CI mg "FASTEST" (1000) := by refine' Sw.CI.of KX G ?a; (case a => k_is)
    have k_MOST_VELOCITIES : Sw.CI mg "MOST_VELOCITIES" (24) := by refine' Sw.CI.of KX G ?a; (case a => k_is)
    have k_OUT_OF_RANGE : Sw.CI mg "OUT_OF_RANGE" (-1) := by refine' Sw.CI.of KX G ?a; (case a => k_is)
    have k_NO_SUCH_SLICE : Sw.CI mg "NO_SUCH_SLICE" (-2) := by refine' Sw.CI.of KX G ?a; (case a => k_is)
    have k_NOT_LATER : Sw.CI mg "NOT_LATER" (-2) := by refine' Sw.CI.of KX G ?a; (case a => k_is)
    have k_TOO_MANY_SLICES : Sw.CI mg "TOO_MANY_SLICES" (-3) := by refine' Sw.CI.of KX G ?a; (case a => k_is)
    have k_NO_SLICES : Sw.CI mg "NO_SLICES" (-4) := by refine' Sw.CI.of KX G ?a; (case a => k_is)
    have k_NOT_IN_ORDER : Sw.CI mg "NOT_IN_ORDER" (-5) := by refine' Sw.CI.of KX G ?a; (case a => k_is)
    have k_NEVER_ARRIVES : Sw.CI mg "NEVER_ARRIVES" (-6) := by refine' Sw.CI.of KX G ?a; (case a => k_is)
    have k_MOST_SLICES : Sw.CI mg "MOST_SLICES" (12) := by refine' Sw.CI.of KX G ?a; (case a => k_is)
    have k_PLAIN_NUMBERS : Sw.CT (PySem.Challenge.cw_soonways_s01_answers_holds.heap_1 w.params) mg "PLAIN_NUMBERS" [0, 1, 1, 1, 3, 3, 3, 4, 2, 1, 0, 0, 1, 3, 0] := by
      refine' Sw.CT.of KX G ?a ?l ?s ?v
      (case a => k_is); (case l => k_is); (case s => decide); (case v => repeat (first | exact .nil | refine .cons ⟨_, rfl⟩ ?_))
    have k_CALLS_WITH_LIST : Sw.CT (PySem.Challenge.cw_soonways_s01_answers_holds.heap_1 w.params) mg "CALLS_WITH_LIST" [1, 9, 11, 12] := by
      refine' Sw.CT.of KX G ?a ?l ?s ?v
      (case a => k_is); (case l => k_is); (case s => decide); (case v => repeat (first | exact .nil | refine .cons ⟨_, rfl⟩ ?_))
    have ax : ∃ (a : Addr) (r : Sw.Row), Sw.AxesA (PySem.Challenge.cw_soonways_s01_answers_holds.heap_1 w.params) mg a r := by
      refine' Sw.axes_of KX G ?g ?l0 ?l1 ?l2 ?l3 ?l4
      (case g => k_is); (case l0 => k_is); (case l1 => k_is); (case l2 => k_is); (case l3 => k_is); (case l4 => k_is)
    obtain ⟨aX, rX, hX⟩ := ax
    exact Sw.endT { nb := nb, cross := d_cross, how_far := d_how_far, difference := d_difference, bends_left := d_bends_left, left_chain := d_left_chain, hull_corners := d_hull_corners, neighbours := d_neighbours, hull_sides := d_hull_sides, holds_origin_within := d_holds_origin_within, hull_support := d_hull_support, furthest_corners := d_furthest_corners, greatest_divisor := d_greatest_divisor, lowest_terms := d_lowest_terms, ratio_text := d_ratio_text, lowest_direction := d_lowest_direction, hull_directions := d_hull_directions, all_directions := d_all_directions, support_row := d_support_row, lone_slice := d_lone_slice, stretches := d_stretches, longest_take := d_longest_take, ends_here := d_ends_here, least_time := d_least_time, total := d_total, stretched := d_stretched, spans_between := d_spans_between, comes_before := d_comes_before, merged_sides := d_merged_sides, corners_along := d_corners_along, set_corners := d_set_corners, leg_times := d_leg_times, row_bound := d_row_bound, are_in_order := d_are_in_order, can_follow := d_can_follow, first_false_claim := d_first_false_claim, is_time := d_is_time, is_span := d_is_span, is_place := d_is_place, is_velocity := d_is_velocity, is_direction := d_is_direction, grouped := d_grouped, are_velocities := d_are_velocities, are_places := d_are_places, are_claims := d_are_claims, greatest_speed := d_greatest_speed, sailed_spans := d_sailed_spans, outer_corners := L_outer.toD, sailed_slices := d_sailed_slices, add_piece := d_add_piece, way_pieces := d_way_pieces, may_begin := d_may_begin, task_refusal := d_task_refusal, ratio_reply := d_ratio_reply, corners_reply := d_corners_reply, reply_begin := d_reply_begin, reply_slice := d_reply_slice, reply_hull := d_reply_hull, reply_inside := d_reply_inside, reply_support := d_reply_support, reply_least := d_reply_least, reply_way := d_reply_way, reply_reach := d_reply_reach, reply_set := d_reply_set, reply_course := d_reply_course, reply_all := d_reply_all, reply_bound := d_reply_bound, reply_check := d_reply_check, reply_speed := d_reply_speed, reply_slices := d_reply_slices, call_end := d_call_end, reply_to_early := d_reply_to_early, reply_to_late := d_reply_to_late, reply_to := d_reply_to, answers := d_answers, CForecast := fc.C, cForecast := fc.c, gForecast := fc.g, Forecast_init := fc.init, Forecast_forget_slices := fc.forget_slices, Forecast_add_slice := fc.add_slice, Forecast_forget_findings := fc.forget_findings, Forecast_has_slice := fc.has_slice, Forecast_is_empty := fc.is_empty, Forecast_weigh_directions := fc.weigh_directions, Forecast_as_one_slice := fc.as_one_slice, kForecast := ⟨fc.makes, fc.init.m.at_, fc.init.m.fn, fc.keep⟩, nForecast_begins := fc.n_begins, nForecast_hulls := fc.n_hulls, nForecast_directions := fc.n_directions, nForecast_supports := fc.n_supports, nForecast_joined := fc.n_joined, CArrival := ar.C, cArrival := ar.c, gArrival := ar.g, Arrival_init := ar.init, Arrival_happens := ar.happens, Arrival_time := ar.time, Arrival_happens_by := ar.happens_by, kArrival := ⟨ar.makes, ar.init.m.at_, ar.init.m.fn, ar.keep⟩, nArrival_number := ar.n_number, nArrival_since := ar.n_since, nArrival_takes := ar.n_takes, nArrival_proof := ar.n_proof, LAST_TIME := k_LAST_TIME, FURTHEST_PLACE := k_FURTHEST_PLACE, FASTEST := k_FASTEST, MOST_VELOCITIES := k_MOST_VELOCITIES, OUT_OF_RANGE := k_OUT_OF_RANGE, NO_SUCH_SLICE := k_NO_SUCH_SLICE, NOT_LATER := k_NOT_LATER, TOO_MANY_SLICES := k_TOO_MANY_SLICES, NO_SLICES := k_NO_SLICES, NOT_IN_ORDER := k_NOT_IN_ORDER, NEVER_ARRIVES := k_NEVER_ARRIVES, MOST_SLICES := k_MOST_SLICES, PLAIN_NUMBERS := k_PLAIN_NUMBERS, CALLS_WITH_LIST := k_CALLS_WITH_LIST, aAXES := aX, xAXES := rX, AXES := hX } L_outer rfl hmg (by decide +kernel) hT
  case S =>
    intro K cs H xs a hT hwi hask hx
    match cs, hT with
    | [], _ => exact trivial
    | _ :: _ :: _, _ => exact trivial
    | [p], hT =>
      cases hx with
      | cons h1 h2 =>
        cases h2
        cases h1 with
        | lst hs ha =>
          have e := L2.ints_dw a.1 _ ha
          subst e
          exact ⟨_, a.1, rfl, hs, hask, fun q hq => by rw [List.mem_singleton.mp hq]; exact LamX.TabS.nil (hT p List.mem_cons_self), fun H' p hp => .lst (L2.SqL.of hp) (L2.dw_ints _)⟩
