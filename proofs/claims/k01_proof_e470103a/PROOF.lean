import PyProof.Rows.All
import Wide.All
import OpenK.AllK
import Wide.FinOn
import PyProof.EqAt
import PyProof.EqKinds
import PyProof.TupleCall
import KE.GoesZip
import KE.GoesMore
import KE.GoesEnum
import KE.KDictZip
import HandS.Base
import HandS.Call
import HandS.List
import HandS.Iter
import HandS.ForMost
import HandS.IsInst
import HandS.Codes
import PyProof.NeKinds
import PyProof.NeData
import HandS.ForExc
import HandS.ExcInit
import HandS.Defaults
import KE.KExcIs
import HandS.MakeKwOnly
import HandS.ExcValue
import HandS.TryOnly
import HandS.ExcOwn
import HandS.WordsExc
import HandS.TryMany
import HandS.Walk
import PySem.Challenge.RW_sourwright_k01_errors
set_option Elab.async false
set_option linter.all false
set_option Elab.async false
set_option linter.all false
set_option maxRecDepth 100000
set_option maxHeartbeats 2000000
/-! list(zip(a, b)): each pair is kept by the list, so that zip may not use its tuple again -/
namespace Mine
open PySem PyProof.Rows L2
section
variable {prog : Program} {w : World} {A : Around} {E : Value → Shared → Prop} {s : Shared} {z TI TO i1 i2 T : Addr} {fp1 fp2 : List Addr} {n1 n2 i : Nat} {P1 P2 : Nat → Value → Prop} {St1 St2 : Nat → Heap → Prop} {f : Bool} {oT : Obj}

/-- a further pair, while the first tuple is still out -/
theorem held_item {Q : Value → Shared → Prop} (S : ZipSep2 z TI TO i1 i2 fp1 fp2) (D1 : Draws prog w A i1 fp1 n1 P1 St1) (D2 : Draws prog w A i2 fp2 n2 P2 St2) (hz : IsZipHeld s.heap z TI TO T f) (hT : s.heap.get? T = some oT)
    (hI : IsTupOf2 s.heap TI (.ref i1) (.ref i2)) (t1 : St1 i s.heap) (t2 : St2 i s.heap) (l1 : i < n1) (l2 : i < n2)
    (k : ∀ x y h' tk, P1 i x → P2 i y → IsZipHeld h' z TI TO T true → St1 (i + 1) h' → St2 (i + 1) h' → IsTupOf2 h' s.heap.objs.size x y → (∀ c o, c ≠ z → c ≠ i1 → c ≠ i2 → s.heap.get? c = some o → h'.get? c = some o) →
      h'.objs.size = s.heap.objs.size + 1 → Q (.ref s.heap.objs.size) { s with heap := h', toks := tk }) :
    wpAny (model prog w) A (Builtin.«zip.__next__» ⟨[.ref z], []⟩) (fun r s' => ∃ v, r = .done (.ret v) ∧ Q v s') E s := by
  obtain ⟨hp, g, d, tk0, os⟩ := s
  show wpAny _ _ (field (.ref z) 2 >>= _) _ _ _
  refine wpAny_bind (wpAny_field hz rfl (x := .bool false) rfl (show wpAny _ _ (field (.ref z) 3 >>= _) _ _ _ from ?_))
  refine wpAny_bind (wpAny_field hz rfl (x := .ref TI) rfl (wpAny_bind (wpAny_seqItems hI rfl (show wpAny _ _ (Builtin.SmallTypes.ownedTupleIsFree (.ref z) >>= _) _ _ _ from ?_))))
  refine wpAny_bind (wpAny_tupleHeld_zip hz hT fun g0 z0 e0 => ?_)
  simp only [Bool.false_eq_true, if_false]
  refine wpAny_bind ?_
  rw [← Array.forIn_toList]
  simp only [List.forIn_cons, List.forIn_nil]
  replace e0 : Heap.SameBut z hp g0 := e0
  refine wpAny_bind (wpAny_bind (wpAny_holding (show wpAny _ _ (Builtin.SmallTypes.nextOf (.ref i1) >>= _) _ _ ⟨g0, g, d, tk0, os⟩ from ?_)))
  refine wpAny_bind (D1.item i _ _ _ l1 (D1.over t1 e0 S.zf1) fun x g1 tk1 hx q1 e1 => wpAny_pure (wpAny_pure ?_))
  replace e1 : Heap.SameBut i1 g0 g1 := e1
  refine wpAny_bind (wpAny_bind (wpAny_holding (show wpAny _ _ (Builtin.SmallTypes.nextOf (.ref i2) >>= _) _ _ ⟨g1, g, d, tk1, os⟩ from ?_)))
  refine wpAny_bind (D2.item i _ _ _ l2 (D2.over (D2.over t2 e0 S.zf2) e1 S.sep1_2) fun y g2 tk2 hy q2 e2 => wpAny_pure (wpAny_pure (wpAny_pure ?_)))
  replace e2 : Heap.SameBut i2 g1 g2 := e2
  refine wpAny_bind (show wpAny _ _ (newTuple [x, y]) _ _ _ from wpAny_newTuple ?_)
  have sz : g2.objs.size = hp.objs.size := by rw [e2.1, e1.1, e0.1]
  have zz : IsZipHeld g2 z TI TO T true := e2.extBut _ _ S.zi2 (e1.extBut _ _ S.zi1 z0)
  have kk : ∀ c o, c ≠ z → c ≠ i1 → c ≠ i2 → hp.get? c = some o → g2.get? c = some o := fun c o a b b' e => e2.extBut _ _ b' (e1.extBut _ _ b (e0.extBut _ _ a e))
  have hp' : IsTupOf2 (g2.push { cls := .type "tuple", data := .seq #[x, y] }) g2.objs.size x y := Heap.get?_push_size _ rfl
  have sz' : (g2.push { cls := .type "tuple", data := .seq #[x, y] }).objs.size = g2.objs.size + 1 := Heap.size_push ..
  have up : ∀ b o, g2.get? b = some o → (g2.push { cls := .type "tuple", data := .seq #[x, y] }).get? b = some o := fun b o e => Heap.get?_push_of_some _ e
  have u1 := D1.frame _ _ _ (D1.over q1 e2 S.sep2_1) fun b _ o e => up b o e
  have u2 := D2.frame _ _ _ q2 fun b _ o e => up b o e
  refine wpAny_pure ⟨_, rfl, ?_⟩
  show Q (.ref g2.objs.size) _
  rw [sz] at hp' sz' ⊢
  exact k x y _ tk2 hx hy (up _ _ zz) u1 u2 hp' (fun c o a b b' e => up _ _ (kk c o a b b' e)) sz'

theorem held_end {Q : Fin → Shared → Prop} (S : ZipSep2 z TI TO i1 i2 fp1 fp2) (D1 : Draws prog w A i1 fp1 n1 P1 St1) (hz : IsZipHeld s.heap z TI TO T f) (hT : s.heap.get? T = some oT)
    (hI : IsTupOf2 s.heap TI (.ref i1) (.ref i2)) (t1 : St1 n1 s.heap)
    (k : ∀ h' tk e, (∀ c o, c ≠ z → c ≠ i1 → s.heap.get? c = some o → h'.get? c = some o) → (∃ o, h'.get? e = some o ∧ o.cls = .type "StopIteration") → E (.ref e) { s with heap := h', toks := tk }) :
    wpAny (model prog w) A (Builtin.«zip.__next__» ⟨[.ref z], []⟩) Q E s := by
  obtain ⟨hp, g, d, tk0, os⟩ := s
  show wpAny _ _ (field (.ref z) 2 >>= _) _ _ _
  refine wpAny_bind (wpAny_field hz rfl (x := .bool false) rfl (show wpAny _ _ (field (.ref z) 3 >>= _) _ _ _ from ?_))
  refine wpAny_bind (wpAny_field hz rfl (x := .ref TI) rfl (wpAny_bind (wpAny_seqItems hI rfl (show wpAny _ _ (Builtin.SmallTypes.ownedTupleIsFree (.ref z) >>= _) _ _ _ from ?_))))
  refine wpAny_bind (wpAny_tupleHeld_zip hz hT fun g0 z0 e0 => ?_)
  simp only [Bool.false_eq_true, if_false]
  refine wpAny_bind ?_
  rw [← Array.forIn_toList]
  simp only [List.forIn_cons, List.forIn_nil]
  replace e0 : Heap.SameBut z hp g0 := e0
  refine wpAny_bind (wpAny_bind (wpAny_holding (show wpAny _ _ (Builtin.SmallTypes.nextOf (.ref i1) >>= _) _ _ ⟨g0, g, d, tk0, os⟩ from ?_)))
  exact wpAny_bind (D1.done ⟨g0, g, d, tk0, os⟩ _ _ (D1.over t1 e0 S.zf1) fun q e hq he => k q tk0 e (fun c o a b x => hq _ _ b (e0.extBut _ _ a x)) he)

theorem next_held {Q : Option Value → Shared → Prop} (S : ZipSep2 z TI TO i1 i2 fp1 fp2) (D1 : Draws prog w A.in1 i1 fp1 n1 P1 St1) (D2 : Draws prog w A.in1 i2 fp2 n2 P2 St2) (hz : IsZipHeld s.heap z TI TO T f) (hT : s.heap.get? T = some oT)
    (hI : IsTupOf2 s.heap TI (.ref i1) (.ref i2)) (t1 : St1 i s.heap) (t2 : St2 i s.heap) (l1 : i < n1) (l2 : i < n2)
    (k : ∀ x y h' tk, P1 i x → P2 i y → IsZipHeld h' z TI TO T true → St1 (i + 1) h' → St2 (i + 1) h' → IsTupOf2 h' s.heap.objs.size x y → (∀ c o, c ≠ z → c ≠ i1 → c ≠ i2 → s.heap.get? c = some o → h'.get? c = some o) →
      h'.objs.size = s.heap.objs.size + 1 → Q (some (.ref s.heap.objs.size)) { s with heap := h', toks := tk }) :
    wpAny (model prog w) A (pyNext (.ref z)) Q E s := by
  have hTy : s.TypeIs (.ref z) "zip" := ⟨_, hz, rfl⟩
  unfold pyNext
  refine wpAny_bind (wpAny_attempt (wpAny_callSpecial?_slot (name := Str.ofString "__next__") hTy F.slot_zip_next (wpAny_call_entry F.slot_zip_next hTy F.entry_zip_next ?_ (F.args_zip_next_1 _))))
  exact held_item S D1 D2 hz hT hI t1 t2 l1 l2 fun x y h' tk a b c1 c2 c3 c4 c5 c6 => wpAny_pure (k x y h' tk a b c1 c2 c3 c4 c5 c6)
theorem stop_held {Q : Option Value → Shared → Prop} (S : ZipSep2 z TI TO i1 i2 fp1 fp2) (D1 : Draws prog w A.in1 i1 fp1 n1 P1 St1) (hz : IsZipHeld s.heap z TI TO T f) (hT : s.heap.get? T = some oT)
    (hI : IsTupOf2 s.heap TI (.ref i1) (.ref i2)) (t1 : St1 n1 s.heap) (k : ∀ h' tk, (∀ c o, c ≠ z → c ≠ i1 → s.heap.get? c = some o → h'.get? c = some o) → Q none { s with heap := h', toks := tk }) :
    wpAny (model prog w) A (pyNext (.ref z)) Q E s := by
  have hTy : s.TypeIs (.ref z) "zip" := ⟨_, hz, rfl⟩
  unfold pyNext
  refine wpAny_bind (wpAny_attempt (wpAny_callSpecial?_slot (name := Str.ofString "__next__") hTy F.slot_zip_next (wpAny_call_entry F.slot_zip_next hTy F.entry_zip_next ?_ (F.args_zip_next_1 _))))
  refine held_end S D1 hz hT hI t1 fun h' tk e hk he => ?_
  obtain ⟨o, ho, hc⟩ := he
  exact wpAny_bind (wpAny_isInstance (T := "StopIteration") (b := true) ⟨o, ho, hc⟩ isSubtype_stop (wpAny_pure (k _ _ hk)))

theorem zip_nolen : typeLookup (.type "zip") "__len__" = pure none := am_miss_of_fast (by decide +kernel)
theorem zip_nohint : typeLookup (.type "zip") "__length_hint__" = pure none := am_miss_of_fast (by decide +kernel)

/-- where the list, the zip and its parts lie: all new, all apart -/
structure ZApart (n0 : Nat) (q z TI TO i1 i2 : Addr) (fp1 fp2 : List Addr) : Prop where
  sep : ZipSep2 z TI TO i1 i2 fp1 fp2
  nq : n0 ≤ q
  nz : n0 ≤ z
  nO : n0 ≤ TO
  n1 : n0 ≤ i1
  n2 : n0 ≤ i2
  qz : q ≠ z
  qI : q ≠ TI
  qO : q ≠ TO
  q1 : q ∉ fp1
  q2 : q ∉ fp2
/-- behind some turns: the pairs so far lie at the addresses `ps` -/
structure ZS (h0 : Heap) (q z TI TO i1 i2 : Addr) (P1 P2 : Nat → Value → Prop) (St1 St2 : Nat → Heap → Prop) (ps : List Addr) (h : Heap) : Prop where
  keep : ∀ b o, h0.get? b = some o → h.get? b = some o
  lst : ∃ c, h.get? q = some { cls := .type "list", data := .seq (ps.map Value.ref).toArray c }
  tI : IsTupOf2 h TI (.ref i1) (.ref i2)
  tO : ∃ a b, IsTupOf2 h TO a b
  zip : (ps = [] ∧ IsZip h z TI TO .none) ∨ ∃ T r f, ps = T :: r ∧ IsZipHeld h z TI TO T f
  s1 : St1 ps.length h
  s2 : St2 ps.length h
  prs : ∀ (j : Nat) (a : Addr), ps[j]? = some a → (h0.objs.size ≤ a ∧ a ≠ q ∧ a ≠ z ∧ a ≠ TO ∧ a ≠ i1 ∧ a ≠ i2) ∧ ∃ x y, P1 j x ∧ P2 j y ∧ IsTupOf2 h a x y
end
section
variable {prog : Program} {w : World} {A : Around} {E : Value → Shared → Prop} {z TI TO i1 i2 q : Addr} {fp1 fp2 : List Addr} {n : Nat} {P1 P2 : Nat → Value → Prop} {St1 St2 : Nat → Heap → Prop} {h0 h h' : Heap} {ps : List Addr} {g : Array GenState} {d : Drawn} {os : OsState} {tk : Nat}
/-- one turn's bookkeeping: `a` is the new pair -/
theorem ZS.turn (S : ZS h0 q z TI TO i1 i2 P1 P2 St1 St2 ps h) (Z : ZApart h0.objs.size q z TI TO i1 i2 fp1 fp2) (D1 : Draws prog w A i1 fp1 n P1 St1) (D2 : Draws prog w A i2 fp2 n P2 St2) {a : Addr} {x y : Value} (ha : h.objs.size = a) (hx : P1 ps.length x) (hy : P2 ps.length y)
    (kz : ∃ T f, (ps ++ [a]).head? = some T ∧ IsZipHeld h' z TI TO T f) (kO : ∃ a b, IsTupOf2 h' TO a b) (t1 : St1 (ps.length + 1) h') (t2 : St2 (ps.length + 1) h') (hp : IsTupOf2 h' a x y) (k : ∀ c o, c ≠ z → c ≠ TO → c ≠ i1 → c ≠ i2 → h.get? c = some o → h'.get? c = some o) :
    ZS h0 q z TI TO i1 i2 P1 P2 St1 St2 (ps ++ [a]) (h'.update q (Obj.mapSeq (·.push (.ref a)))) := by
  obtain ⟨c, hl⟩ := S.lst
  have lt0 : ∀ {b : Addr} {o : Obj} {m : Addr}, h0.get? b = some o → h0.objs.size ≤ m → b ≠ m := fun e l => Nat.ne_of_lt (Nat.lt_of_lt_of_le (Heap.lt_size e) l)
  have q1 : q ≠ i1 := fun e => Z.q1 (e ▸ Z.sep.mem1)
  have q2 : q ≠ i2 := fun e => Z.q2 (e ▸ Z.sep.mem2)
  have hl' := k q _ Z.qz Z.qO q1 q2 hl
  have up : ∀ b o, b ≠ q → h'.get? b = some o → (h'.update q (Obj.mapSeq (·.push (.ref a)))).get? b = some o := fun b o hb e => (Heap.get?_update_other _ _ (Ne.symm hb)).trans e
  have fresh : ∀ {b : Addr} {o : Obj}, h.get? b = some o → a ≠ b := fun e => by rw [← ha]; exact Nat.ne_of_gt (Heap.lt_size e)
  have hle : h0.objs.size ≤ a := by
    rw [← ha]
    exact Nat.le_of_lt (Nat.lt_of_le_of_lt Z.nq (Heap.lt_size hl))
  obtain ⟨aO, bO, hO⟩ := S.tO
  have zz : ∃ o, h.get? z = some o := by
    rcases S.zip with ⟨_, e⟩ | ⟨_, _, _, _, e⟩
    · exact ⟨_, e⟩
    · exact ⟨_, e⟩
  obtain ⟨oz, hz⟩ := zz
  obtain ⟨o1, e1⟩ := D1.live _ _ S.s1
  obtain ⟨o2, e2⟩ := D2.live _ _ S.s2
  refine ⟨fun b o e => up b o (lt0 e Z.nq) (k b o (lt0 e Z.nz) (lt0 e Z.nO) (lt0 e Z.n1) (lt0 e Z.n2) (S.keep b o e)), ?_, up _ _ (Ne.symm Z.qI) (k _ _ Z.sep.TIz Z.sep.TITO Z.sep.TIi1 Z.sep.TIi2 S.tI), ?_, .inr ?_, ?_, ?_, fun j b hb => ?_⟩
  · refine ⟨c + 1, (Heap.get?_update_self _ hl' rfl).trans ?_⟩
    simp [Obj.mapSeq]
  · obtain ⟨u, v, e⟩ := kO
    exact ⟨u, v, up _ _ (Ne.symm Z.qO) e⟩
  · obtain ⟨T, f, eT, e⟩ := kz
    cases hps : ps ++ [a] with
    | nil => rw [hps] at eT; cases eT
    | cons T' r =>
      rw [hps] at eT
      obtain rfl := Option.some.inj eT
      exact ⟨T', r, f, rfl, up _ _ (Ne.symm Z.qz) e⟩
  · rw [List.length_append]
    exact D1.frame _ _ _ t1 fun b hb o e => up b o (fun z => Z.q1 (z ▸ hb)) e
  · rw [List.length_append]
    exact D2.frame _ _ _ t2 fun b hb o e => up b o (fun z => Z.q2 (z ▸ hb)) e
  · by_cases hj : j < ps.length
    · rw [List.getElem?_append_left hj] at hb
      obtain ⟨⟨m0, m1, m2, m3, m4, m5⟩, x', y', hx', hy', e⟩ := S.prs j b hb
      exact ⟨⟨m0, m1, m2, m3, m4, m5⟩, x', y', hx', hy', up _ _ m1 (k _ _ m2 m3 m4 m5 e)⟩
    · rw [List.getElem?_append_right (by omega)] at hb
      obtain ⟨j0, eb⟩ : j - ps.length = 0 ∧ b = a := by
        cases hj0 : j - ps.length with
        | zero => rw [hj0] at hb; exact ⟨rfl, (Option.some.inj hb).symm⟩
        | succ m => rw [hj0] at hb; cases hb
      have ej : j = ps.length := by omega
      subst eb ej
      exact ⟨⟨hle, fresh hl, fresh hz, fresh hO, fresh e1, fresh e2⟩, x, y, hx, hy, up _ _ (fresh hl) hp⟩

/-- the list takes what zip hands out, to the end -/
theorem zip_drain {R : Result → Shared → Prop} (hh : A.handled = none) (hn : n < sizeLine) (Z : ZApart h0.objs.size q z TI TO i1 i2 fp1 fp2) (D1 : Draws prog w A.in1.in1 i1 fp1 n P1 St1) (D2 : Draws prog w A.in1.in1 i2 fp2 n P2 St2)
    (hend : ∀ (ps : List Addr) (h : Heap) (tk : Nat), ps.length = n → (∀ b o, h0.get? b = some o → h.get? b = some o) → (∃ c, h.get? q = some { cls := .type "list", data := .seq (ps.map Value.ref).toArray c }) →
      (∀ (j : Nat) (a : Addr), ps[j]? = some a → h0.objs.size ≤ a ∧ a ≠ q ∧ ∃ x y, P1 j x ∧ P2 j y ∧ IsTupOf2 h a x y) → R (.ok (.ret .none)) ⟨h, g, d, tk, os⟩) :
    ∀ (m : Nat) (ps : List Addr) (h : Heap) (tk : Nat), ps.length + m = n → ZS h0 q z TI TO i1 i2 P1 P2 St1 St2 ps h → codeAny (model prog w) A (.builtin "list.extend.loop" ⟨[.ref q, .ref z, .none], []⟩) R ⟨h, g, d, tk, os⟩ := by
  intro m
  have fin : ∀ (ps : List Addr) (h h' : Heap) (tk : Nat), ps.length = n → ZS h0 q z TI TO i1 i2 P1 P2 St1 St2 ps h → (∀ c o, c ≠ z → c ≠ TO → c ≠ i1 → c ≠ i2 → h.get? c = some o → h'.get? c = some o) → R (.ok (.ret .none)) ⟨h', g, d, tk, os⟩ := by
    intro ps h h' tk hl S k
    have lt0 : ∀ {b : Addr} {o : Obj} {m : Addr}, h0.get? b = some o → h0.objs.size ≤ m → b ≠ m := fun e l => Nat.ne_of_lt (Nat.lt_of_lt_of_le (Heap.lt_size e) l)
    obtain ⟨c, hc⟩ := S.lst
    refine hend ps h' tk hl (fun b o e => k b o (lt0 e Z.nz) (lt0 e Z.nO) (lt0 e Z.n1) (lt0 e Z.n2) (S.keep b o e)) ⟨c, k _ _ Z.qz Z.qO (fun e => Z.q1 (e ▸ Z.sep.mem1)) (fun e => Z.q2 (e ▸ Z.sep.mem2)) hc⟩ fun j a ha => ?_
    obtain ⟨⟨m0, m1, m2, m3, m4, m5⟩, x, y, hx, hy, e⟩ := S.prs j a ha
    exact ⟨m0, m1, x, y, hx, hy, k _ _ m2 m3 m4 m5 e⟩
  induction m with
  | zero =>
    intro ps h tk hl S
    have hl' : ps.length = n := hl
    refine codeAny_builtin F.entry_extend_loop ?_
    rw [Around.under_plainId F.plain_extend_loop _]
    show wpAny _ A.in1 (pyNext (.ref z) >>= _) _ _ _
    have s1 := S.s1
    have s2 := S.s2
    rw [hl'] at s1 s2
    rcases S.zip with ⟨_, hz⟩ | ⟨T, r, f, ep, hz⟩
    · obtain ⟨a, b, hO⟩ := S.tO
      refine wpAny_bind (wpAny_pyNext_zipD2_end Z.sep D1 D2 hz S.tI hO s1 s2 (Nat.le_refl _) (Nat.le_refl _) (.inl rfl) fun h' tk' k => wpAny_pure ?_)
      exact fin ps h h' tk' hl' S k
    · obtain ⟨_, x, y, _, _, hT⟩ := S.prs 0 T (by rw [ep]; rfl)
      refine wpAny_bind (stop_held Z.sep D1 hz hT S.tI s1 fun h' tk' k => wpAny_pure ?_)
      exact fin ps h h' tk' hl' S fun c o c1 _ c3 _ e => k c o c1 c3 e
  | succ m ih =>
    intro ps h tk hl S
    have hlt : ps.length < n := by omega
    refine codeAny_builtin F.entry_extend_loop ?_
    rw [Around.under_plainId F.plain_extend_loop _]
    show wpAny _ A.in1 (pyNext (.ref z) >>= _) _ _ _
    have next : ∀ (x y : Value) (h' : Heap) (tk' : Nat), P1 ps.length x → P2 ps.length y → (∃ T f, (ps ++ [h.objs.size]).head? = some T ∧ IsZipHeld h' z TI TO T f) → (∃ a b, IsTupOf2 h' TO a b) → St1 (ps.length + 1) h' → St2 (ps.length + 1) h' → IsTupOf2 h' h.objs.size x y →
        (∀ c o, c ≠ z → c ≠ TO → c ≠ i1 → c ≠ i2 → h.get? c = some o → h'.get? c = some o) →
        wpAny (model prog w) A.in1 (updateSeq q (·.push (.ref h.objs.size)) >>= fun _ => again (.builtin "list.extend.loop" ⟨[.ref q, .ref z, .none], []⟩))
          (fun r s' => match r with | .done f => R (.ok f) s' | .again c' => c'.quiet = true ∧ codeAny (model prog w) A c' R s') (fun e s' => R (.error e) s') ⟨h', g, d, tk', os⟩ := by
      intro x y h' tk' hx hy kz kO t1 t2 hp k
      obtain ⟨c, hc⟩ := S.lst
      have hc' := k _ _ Z.qz Z.qO (fun e => Z.q1 (e ▸ Z.sep.mem1)) (fun e => Z.q2 (e ▸ Z.sep.mem2)) hc
      refine wpAny_bind (wpAny_updateSeq (s := ⟨h', g, d, tk', os⟩) hc' rfl (wpAny_pure ⟨plainId_quiet F.plain_extend_loop _, ?_⟩) ?_ ?_)
      · exact ih (ps ++ [h.objs.size]) _ tk' (by rw [List.length_append, List.length_singleton]; omega) (S.turn Z D1 D2 rfl hx hy kz kO t1 t2 hp k)
      · show (ps.map Value.ref).toArray.size ≤ sizeLine
        rw [List.size_toArray, List.length_map]
        omega
      · show ((ps.map Value.ref).toArray.push (.ref h.objs.size)).size ≤ sizeLine + 1
        rw [Array.size_push, List.size_toArray, List.length_map]
        omega
    rcases S.zip with ⟨e0, hz⟩ | ⟨T, r, f, ep, hz⟩
    · obtain ⟨a, b, hO⟩ := S.tO
      refine wpAny_bind (wpAny_pyNext_zipD2_item Z.sep D1 D2 hz S.tI hO S.s1 S.s2 hlt hlt fun x y h' tk' hx hy k1 k2 t1 t2 hp _ k => ?_)
      exact next x y h' tk' hx hy ⟨_, false, by rw [e0]; rfl, k1⟩ ⟨_, _, k2⟩ t1 t2 hp k
    · obtain ⟨_, x0, y0, _, _, hT⟩ := S.prs 0 T (by rw [ep]; rfl)
      obtain ⟨a, b, hO⟩ := S.tO
      refine wpAny_bind (next_held Z.sep D1 D2 hz hT S.tI S.s1 S.s2 hlt hlt fun x y h' tk' hx hy k1 t1 t2 hp k _ => ?_)
      refine next x y h' tk' hx hy ⟨T, true, by rw [ep]; rfl, k1⟩ ⟨a, b, k _ _ Z.sep.TOz Z.sep.Ti1 Z.sep.Ti2 hO⟩ t1 t2 hp fun c o c1 _ c3 c4 e => k c o c1 c3 c4 e

/-- list(z), z a zip that has not begun -/
theorem call_list_zip {Q : Value → Shared → Prop} {tk : Nat} (hh : A.handled = none) (hn : n < sizeLine) (D1 : ∀ B : Around, B.handled = none → Draws prog w B i1 fp1 n P1 St1) (D2 : ∀ B : Around, B.handled = none → Draws prog w B i2 fp2 n P2 St2) (sep : ZipSep2 z TI TO i1 i2 fp1 fp2)
    (k0 : ∀ b o, h0.get? b = some o → h.get? b = some o) (nz : h0.objs.size ≤ z) (nO : h0.objs.size ≤ TO) (n1 : h0.objs.size ≤ i1) (n2 : h0.objs.size ≤ i2) (f1 : ∀ b ∈ fp1, b < h.objs.size) (f2 : ∀ b ∈ fp2, b < h.objs.size) (hz : IsZip h z TI TO .none) (tI : IsTupOf2 h TI (.ref i1) (.ref i2)) {a b : Value} (tO : IsTupOf2 h TO a b) (s1 : St1 0 h) (s2 : St2 0 h)
    (hQ : ∀ (S : Addr) (ps : List Addr) (h' : Heap) (tk : Nat), h0.objs.size ≤ S → ps.length = n → (∀ b o, h0.get? b = some o → h'.get? b = some o) → (∃ c, h'.get? S = some { cls := .type "list", data := .seq (ps.map Value.ref).toArray c }) →
      (∀ (j : Nat) (a : Addr), ps[j]? = some a → h0.objs.size ≤ a ∧ a ≠ S ∧ ∃ x y, P1 j x ∧ P2 j y ∧ IsTupOf2 h' a x y) → Q (.ref S) ⟨h', g, d, tk, os⟩) :
    wpAny (model prog w) A (call (.type "list") [.ref z]) Q E ⟨h, g, d, tk, os⟩ := by
  have lt : ∀ {c : Addr} {o : Obj}, h.get? c = some o → h.objs.size ≠ c := fun e => Nat.ne_of_gt (Heap.lt_size e)
  have le0 : h0.objs.size ≤ h.objs.size := Nat.le_of_lt (Nat.lt_of_le_of_lt nz (Heap.lt_size hz))
  have Z : ZApart h0.objs.size h.objs.size z TI TO i1 i2 fp1 fp2 := ⟨sep, le0, nz, nO, n1, n2, lt hz, lt tI, lt tO, fun m => Nat.lt_irrefl _ (f1 _ m), fun m => Nat.lt_irrefl _ (f2 _ m)⟩
  refine callType_codes (Q₁ := fun obj s₁ => obj = .ref h.objs.size ∧ s₁ = ⟨h.push { cls := .type "list", data := .seq #[] }, g, d, tk, os⟩) F.called_list (F.typeCall_list_1 _) F.entry_list_init (code_list_new _ ⟨rfl, rfl⟩) fun obj s₁ hs => ?_
  obtain ⟨rfl, rfl⟩ := hs
  have e0 : (h.push { cls := .type "list", data := .seq #[] }).get? h.objs.size = some { cls := .type "list", data := .seq #[] } := Heap.get?_push_size _ rfl
  have u0 : ∀ b o, h.get? b = some o → (h.push { cls := .type "list", data := .seq #[] }).get? b = some o := fun b o e => Heap.get?_push_of_some _ e
  have up : ∀ (h₁ : Heap) (f : Obj → Obj), (∀ b o, h.get? b = some o → h₁.get? b = some o) → ∀ b o, h.get? b = some o → (h₁.update h.objs.size f).get? b = some o := fun h₁ f q b o e => (Heap.get?_update_other _ _ (lt e)).trans (q b o e)
  refine ⟨⟨_, e0, rfl⟩, F.args_list_init_2 _ _, ?_⟩
  show wpAny _ A.in1.in1 (do let old ← Builtin.List.listItems (.ref h.objs.size); Builtin.List.listUpdate (.ref h.objs.size) (fun _ => #[]); letGo old.toList.reverse; Builtin.List.listExtendWith (.ref h.objs.size) (.ref z) .none) _ _ _
  refine wpAny_bind ?_
  unfold Builtin.List.listItems
  refine wpAny_bind (wpAny_seqItems e0 rfl (wpAny_pure ?_))
  show wpAny _ A.in1.in1 (updateSeq h.objs.size (fun _ => #[]) >>= fun _ => letGo (#[] : Array Value).toList.reverse >>= fun _ => Builtin.List.listExtendWith (.ref h.objs.size) (.ref z) .none) _ _ _
  refine wpAny_bind (wpAny_updateSeq e0 rfl (wpAny_bind (wpAny_letGo ?_)))
  have e1 := Heap.get?_update_self (Obj.mapSeq (fun _ => (#[] : Array Value))) e0 rfl
  have u1 := up _ (Obj.mapSeq (fun _ => (#[] : Array Value))) u0
  unfold Builtin.List.listExtendWith
  have ty : ∀ {h₁ : Heap} {t : Nat}, (∀ b o, h.get? b = some o → h₁.get? b = some o) → (⟨h₁, g, d, t, os⟩ : Shared).TypeIs (.ref z) "zip" := fun k => ⟨_, k _ _ hz, rfl⟩
  refine wpAny_bind (wpAny_typeOf (ty u1) ?_)
  have h1 : Builtin.List.listSameRef (.ref h.objs.size) (.ref z) = false := by simp [Builtin.List.listSameRef, lt hz]
  have h2 : (Value.type "zip" == Value.type "list") = false := by decide
  have h3 : (Value.type "zip" == Value.type "tuple") = false := by decide
  simp only [h1, h2, h3, Bool.or_false, Bool.false_eq_true, if_false]
  refine wpAny_bind (wpAny_pyIter_zip (s := ⟨_, g, d, tk, os⟩) (f0 := .none) (u1 _ _ hz) (wpAny_bind (wpAny_holding ?_)))
  unfold Builtin.List.listLengthHint
  refine wpAny_bind (wpAny_specialOf (ty u1) zip_nolen ?_)
  show wpAny _ A.in1.in1 (specialOf (Value.ref z) (Str.ofString "__length_hint__") >>= _) _ _ _
  refine wpAny_bind (wpAny_specialOf (ty u1) zip_nohint (wpAny_pure ?_))
  show wpAny _ A.in1.in1 (rule "list.extend.makes-room" >>= fun _ => Builtin.List.listTouch (.ref h.objs.size) >>= fun _ => again (.builtin "list.extend.loop" ⟨[.ref h.objs.size, .ref z, .none], []⟩)) _ _ _
  refine wpAny_bind (wpAny_rule (wpAny_bind ?_))
  show wpAny _ A.in1.in1 (updateSeq h.objs.size (·.push .none) >>= fun _ => updateSeq h.objs.size (·.pop)) _ _ _
  refine wpAny_bind (wpAny_updateSeq e1 rfl ?_)
  have e2 := Heap.get?_update_self (Obj.mapSeq (·.push Value.none)) e1 rfl
  refine wpAny_updateSeq (hz := by seq_fits) e2 rfl ?_
  have e3 := Heap.get?_update_self (Obj.mapSeq (·.pop)) e2 rfl
  have u3 := up _ (Obj.mapSeq (·.pop)) (up _ (Obj.mapSeq (·.push Value.none)) u1)
  refine wpAny_pure ⟨plainId_quiet F.plain_extend_loop _, ?_⟩
  have hA : A.in1.handled = none := hh
  have hB : A.in1.in1.in1.handled = none := hh
  refine zip_drain (A := A.in1) (h0 := h0) hA hn Z (D1 _ hB) (D2 _ hB) (fun ps h' tk' hl k hS hp => ⟨rfl, hQ _ ps h' tk' le0 hl k hS hp⟩) n [] _ tk (by simp) ?_
  refine ⟨fun b o e => u3 b o (k0 b o e), ⟨_, e3⟩, u3 _ _ tI, ⟨_, _, u3 _ _ tO⟩, .inl ⟨rfl, u3 _ _ hz⟩, (D1 _ hB).frame _ _ _ s1 fun b _ o e => u3 b o e, (D2 _ hB).frame _ _ _ s2 fun b _ o e => u3 b o e, fun j a e => by cases e⟩
end
end Mine

set_option Elab.async false
set_option linter.all false
set_option maxRecDepth 100000
set_option maxHeartbeats 2000000
namespace Mine
open PySem PySem.Spec PyProof.Rows L2
section
variable {X : Cx} {pins : List (Addr × Obj)} {σ : L2.St} {H H' : Hp} {s : Shared} {h' : Heap}
theorem HOk.at {P : Program} {w : World} {h : Heap} (x : HOk P w H h) {a : Addr} {o : HO} (e : H a = some o) : ∃ u, h.get? a = some u := by
  have q := x a o e
  cases o with
  | lst xs => obtain ⟨_, _, _, _, e⟩ := q; exact ⟨_, e⟩
  | tup xs => obtain ⟨_, _, _, o, e, _⟩ := q; exact ⟨_, e⟩
  | dK kvs => obtain ⟨_, _, _, _, o, _, _, e, _⟩ := q; exact ⟨_, e⟩
  | dT kvs => obtain ⟨_, _, _, _, o, _, _, e, _⟩ := q; exact ⟨_, e⟩
  | set S n => obtain ⟨o, _, _, _, e, _⟩ := q; exact ⟨_, e⟩
  | ins C dx fs => obtain ⟨_, _, _, e, _⟩ := q; exact ⟨_, e⟩
  | own y => obtain ⟨_, e⟩ := q; exact ⟨_, e⟩
  | xd fs => obtain ⟨_, ⟨_, _, _, e, _⟩, _⟩ := q; exact ⟨_, e⟩
  | rng lo hi => obtain ⟨_, _, _, e⟩ := q; exact ⟨_, e⟩
  | frz ob u => obtain ⟨e, _⟩ := q; exact ⟨_, e⟩
  | tbl ps => exact ⟨_, (show h.get? a = some _ from q)⟩
  | met f y => exact ⟨_, (show h.get? a = some _ from q)⟩
  | ext φ => obtain ⟨_, ⟨_, e⟩, _⟩ := q; exact ⟨_, e⟩
/-- several new objects at once: all that stood stands, what is told besides lies where nothing stood -/
theorem Inv.grow {t' : Nat} (I : Inv X pins σ H s) (k : ∀ b u, s.heap.get? b = some u → h'.get? b = some u) (e : ∀ b, (∃ u, s.heap.get? b = some u) → H' b = H b) (new : ∀ b o, H' b = some o → H b = none → ObjOk X.prog X.w H' h' b o) :
    Inv X pins σ H' { s with heap := h', toks := t' } := by
  have st : ∀ b o, H b = some o → H' b = some o := fun b o q => (e b (HOk.at I.hok q)).trans q
  refine I.un ⟨fun b u q _ _ _ => k b u q, fun b u q _ _ _ => ⟨u.slots, k b u q⟩, fun b u q n _ => (e b ⟨u, q⟩).trans n, fun b u q _ => ⟨u, k b u q⟩, fun b xs q => st b _ q, fun b o u q => st b _ q, fun b ps q => ⟨#[], by rw [st b _ q, Array.append_empty]⟩⟩ fun b o q => ?_
  cases hb : H b with
  | none => exact new b o q hb
  | some u =>
    have z := st b u hb
    rw [q] at z
    cases z
    exact (I.hok b o hb).stay (fun c v _ r => k c v r) (fun c r => st c _ r) fun c xs r => st c _ r
end
/-- the pairs of two lists of values lie at ps, the list of them at S -/
structure Zipped (H H' : Hp) (S : Addr) (ps : List Addr) (xs ys : List V) : Prop where
  same : Same H H'
  fresh : H S = none
  at_ : H' S = some (.lst (ps.map V.ref))
  len : ps.length = xs.length
  pair : ∀ (j : Nat) (p : Addr) (x y : V), ps[j]? = some p → xs[j]? = some x → ys[j]? = some y → H' p = some (.tup [x, y])
  apart : ∀ (j : Nat) (p : Addr), ps[j]? = some p → H p = none
def SqA (K : PySem.W.Frag) (H : Hp) (a : Addr) (xs : List V) : Prop := SqL K H a xs ∨ SqT K H a xs
def tLZ (K : PySem.W.Frag) (ta : TA) : TE := fun σ H Q => ta σ H fun vs H1 => ∃ (a b : Addr) (xs ys : List V), vs = [.ref a, .ref b] ∧ SqA K H1 a xs ∧ SqA K H1 b ys ∧ xs.length = ys.length ∧ xs.length < sizeLine ∧
  ∀ (S : Addr) (ps : List Addr) (H2 : Hp), Zipped H1 H2 S ps xs ys → Q (.ref S) H2
section
variable {X : Cx} {pins : List (Addr × Obj)} {σ : L2.St} {H H' : Hp} {s : Shared}
/-- what iter and next of a list or a tuple do, for zip -/
structure Src (prog : Program) (w : World) (s : Shared) (a : Addr) (o : Obj) (Hs : Heap → Prop) (its : List Value) (St : Addr → Nat → Heap → Prop) : Prop where
  lt : a < s.heap.objs.size
  beg : Begins (.ref a) o Hs
  now : Hs s.heap
  draw : ∀ (it : Addr), a ≠ it → ∀ B : Around, B.handled = none → Draws prog w B it [it, a] its.length (fun i x => its[i]? = some x) (St it)
  st : ∀ (it : Addr) (h : Heap), h.get? it = some o → (∀ c u, s.heap.get? c = some u → h.get? c = some u) → St it 0 h
theorem src_of (I : Inv X pins σ H s) {a : Addr} {xs : List V} (h : SqA X.K H a xs) : ∃ o Hs its St, Src X.prog X.w s a o Hs its St ∧ Vals xs its := by
  rcases h with h | h
  · obtain ⟨its, rv, p, _⟩ := I.list h
    refine ⟨_, _, its, fun it i h => h.IsListIter it a i ∧ h.IsList a its.toArray, ⟨p.lt, begins_list a its.toArray, p.isList, fun it ne B hB => ?_, fun it h e k => ⟨⟨_, e, rfl, rfl⟩, p.isList.at fun o q => k a o q⟩⟩, rv⟩
    have q := Draws.list (prog := X.prog) (w := X.w) hB it a ne its.toArray
    simpa using q
  · obtain ⟨its, rv, p, _⟩ := I.tuple h
    have p' : s.heap.IsTuple a its.toArray := p
    refine ⟨_, _, its, fun it i h => h.IsTupleIter it a i ∧ h.IsTuple a its.toArray, ⟨p.lt, begins_tuple a its.toArray, p', fun it ne B hB => ?_, fun it h e k => ⟨⟨_, e, rfl, rfl⟩, p'.at fun o q => k a o q⟩⟩, rv⟩
    have q := Draws.tuple (prog := X.prog) (w := X.w) hB it a ne its.toArray
    simpa using q
theorem run_listZip {Q : VK} {E : Value → Shared → Prop} {A : Around} {a b : Addr} {xs ys : List V} (hh : A.handled = none) (I : Inv X pins σ H s) (ha : SqA X.K H a xs) (hb : SqA X.K H b ys) (hl : xs.length = ys.length) (hz : xs.length < sizeLine)
    (q : ∀ (S : Addr) (ps : List Addr) (H2 : Hp), Zipped H H2 S ps xs ys → Q (.ref S) H2) :
    wpAny (model X.prog X.w) A (call (.type "zip") [.ref a, .ref b]) (fun z s' => wpAny (model X.prog X.w) A (call (.type "list") [z]) (EP X pins σ Q) E s') E s := by
  obtain ⟨o1, H1, its1, St1, S1, r1⟩ := src_of I ha
  obtain ⟨o2, H2, its2, St2, S2, r2⟩ := src_of I hb
  have e1 := r1.length
  have e2 := r2.length
  have el : its2.length = its1.length := by omega
  refine zip_begins2 S1.beg S2.beg S1.now S2.now fun h hz' tI tO g1 g2 hsz hk => ?_
  obtain ⟨hp, g, d, tk, os⟩ := s
  replace hk : ∀ c o, hp.get? c = some o → h.get? c = some o := hk
  have la : a < hp.objs.size := S1.lt
  have lb : b < hp.objs.size := S2.lt
  replace hsz : h.objs.size = hp.objs.size + 5 := hsz
  refine call_list_zip (h0 := hp) (n := its1.length) hh (by omega) (S1.draw hp.objs.size (Nat.ne_of_lt la)) (fun B hB => el ▸ S2.draw (hp.objs.size + 1) (Nat.ne_of_lt (Nat.lt_succ_of_lt lb)) B hB)
    (zip_sep2 (N := hp.objs.size) (fp1 := [a]) (fp2 := [b]) (by simpa using la) (by simpa using lb)) hk (Nat.le_add_right _ _) (Nat.le_add_right _ _) (Nat.le_refl _) (Nat.le_add_right _ _) (fun c hc => ?_) (fun c hc => ?_) hz' tI tO (S1.st _ _ g1 hk) (S2.st _ _ g2 hk) fun S ps h' tk' nS pl k hS hp' => ?_
  · have hc' : c = hp.objs.size ∨ c = a := by simpa using hc
    rcases hc' with rfl | rfl
    · exact Nat.lt_of_lt_of_eq (Nat.lt_add_of_pos_right (by decide)) hsz.symm
    · exact Nat.lt_of_lt_of_le la (hsz ▸ Nat.le_add_right _ _)
  · have hc' : c = hp.objs.size + 1 ∨ c = b := by simpa using hc
    rcases hc' with rfl | rfl
    · exact Nat.lt_of_lt_of_eq (Nat.add_lt_add_left (by decide) _) hsz.symm
    · exact Nat.lt_of_lt_of_le lb (hsz ▸ Nat.le_add_right _ _)
  · obtain ⟨c, hS⟩ := hS
    have pr : ∀ (j : Nat) (p : Addr), ps[j]? = some p → ∃ x y u v, xs[j]? = some x ∧ ys[j]? = some y ∧ RelV x u ∧ RelV y v ∧ IsTupOf2 h' p u v ∧ hp.objs.size ≤ p ∧ p ≠ S := fun j p ep => by
      obtain ⟨m0, m1, u, v, hu, hv, et⟩ := hp' j p ep
      have hj : j < ps.length := (List.getElem?_eq_some_iff.mp ep).1
      have j1 : xs[j]? = some xs[j] := List.getElem?_eq_getElem (by omega)
      have j2 : ys[j]? = some ys[j] := List.getElem?_eq_getElem (by omega)
      obtain ⟨u', hu', ru⟩ := r1.get j1
      obtain ⟨v', hv', rv⟩ := r2.get j2
      rw [hu] at hu'
      rw [hv] at hv'
      cases hu'
      cases hv'
      exact ⟨_, _, u, v, j1, j2, ru, rv, et, m0, m1⟩
    let H2 : Hp := fun b => if b = S then some (.lst (ps.map V.ref)) else match ps.idxOf? b with
      | some j => match xs[j]?, ys[j]? with
        | some x, some y => some (.tup [x, y])
        | _, _ => H b
      | none => H b
    have free : ∀ {c : Addr}, hp.objs.size ≤ c → H c = none := fun {c} hc => I.hok.fresh hc
    have inp : ∀ {c : Addr} {j : Nat}, ps.idxOf? c = some j → ps[j]? = some c := fun {c j} e => by
      obtain ⟨h1, h2, _⟩ := List.idxOf?_eq_some_iff.mp e
      rw [List.getElem?_eq_getElem h1, h2]
    have old : ∀ c, (∃ u, hp.get? c = some u) → H2 c = H c := fun c ⟨u, e⟩ => by
      have lc := Heap.lt_size e
      show (if c = S then _ else _) = H c
      rw [if_neg (Nat.ne_of_lt (Nat.lt_of_lt_of_le lc nS))]
      cases ei : ps.idxOf? c with
      | none => rfl
      | some j =>
        obtain ⟨_, _, _, _, _, _, _, _, _, m0, _⟩ := pr j c (inp ei)
        exact absurd (Nat.lt_of_lt_of_le lc m0) (Nat.lt_irrefl _)
    have ch : ∀ {c : Addr} {j : Nat}, ps[j]? = some c → ∃ x y u v, xs[j]? = some x ∧ ys[j]? = some y ∧ RelV x u ∧ RelV y v ∧ IsTupOf2 h' c u v ∧ hp.objs.size ≤ c ∧ c ≠ S ∧ H2 c = some (.tup [x, y]) := fun {c j} e => by
      obtain ⟨x, y, u, v, hx, hy, rx, ry, et, m0, m1⟩ := pr j c e
      refine ⟨x, y, u, v, hx, hy, rx, ry, et, m0, m1, ?_⟩
      show (if c = S then _ else _) = _
      rw [if_neg m1]
      cases ei : ps.idxOf? c with
      | none => exact absurd (List.mem_of_getElem? e) (by simpa [List.idxOf?_eq_none_iff] using ei)
      | some j' =>
        obtain ⟨x', y', u', v', hx', hy', rx', ry', et', _, _⟩ := pr j' c (inp ei)
        have q' := et.symm.trans et'
        simp only [Option.some.injEq, Obj.mk.injEq, Data.seq.injEq, Array.mk.injEq, List.cons.injEq, and_true, true_and] at q'
        obtain ⟨qu, qv⟩ := q'
        subst qu qv
        have ex := rx.inj rx'
        have ey := ry.inj ry'
        subst ex ey
        simp only [hx', hy']
    have new : ∀ c o, H2 c = some o → H c = none → ObjOk X.prog X.w H2 h' c o := fun c o e n => by
      have e' : (if c = S then some (HO.lst (ps.map V.ref)) else match ps.idxOf? c with
        | some j => match xs[j]?, ys[j]? with
          | some x, some y => some (.tup [x, y])
          | _, _ => H c
        | none => H c) = some o := e
      by_cases hc : c = S
      · rw [if_pos hc] at e'
        cases e'
        subst hc
        refine ⟨by rw [List.length_map]; omega, ps.map Value.ref, _, ?_, hS⟩
        have vr : ∀ l : List Addr, Vals (l.map V.ref) (l.map Value.ref) := fun l => by
          induction l with
          | nil => exact .nil
          | cons p r ih => exact .cons rfl ih
        exact vr ps
      · rw [if_neg hc] at e'
        cases ei : ps.idxOf? c with
        | none =>
          rw [ei] at e'
          rw [n] at e'
          cases e'
        | some j =>
          obtain ⟨x, y, u, v, _, _, rx, ry, et, _, _, et2⟩ := ch (inp ei)
          rw [et2] at e
          cases e
          exact ⟨by show 2 ≤ sizeLine; decide, [u, v], .cons rx (.cons ry .nil), ⟨_, et, rfl, _, rfl⟩⟩
    have J : Inv X pins σ H2 ⟨h', g, d, tk', os⟩ := Inv.grow (s := ⟨hp, g, d, tk, os⟩) I k old new
    refine ⟨.ref S, H2, J, rfl, q S ps H2 ⟨fun c o e => ?_, free nS, ?_, by omega, fun j p x y ep hx hy => ?_, fun j p ep => ?_⟩⟩
    · exact (old c (HOk.at I.hok e)).trans e
    · show (if S = S then _ else _) = _
      rw [if_pos rfl]
    · obtain ⟨x', y', _, _, hx', hy', _, _, _, _, _, e⟩ := ch ep
      rw [hx] at hx'
      rw [hy] at hy'
      cases hx'
      cases hy'
      exact e
    · obtain ⟨_, _, _, _, _, _, _, _, _, m0, _⟩ := pr j p ep
      exact free m0

/-- list(zip(e, e2)), two lists or tuples of one length -/
theorem pe_listZip {e e2 : Expr} {ta : TA} {p p2 pos pos2 : Pos} (hc : X.calm = true) (gL : Gl X "list") (mL : X.mg "list" = none) (gZ : Gl X "zip") (mZ : X.mg "zip" = none) (ha : PA X [e, e2] ta)
    (h1 : starEach [.Call (.Name "zip" p2) [e, e2] [] pos2] X.env = (false, eval (.Call (.Name "zip" p2) [e, e2] [] pos2) X.env) :: starEach [] X.env := by rfl)
    (h2 : starEach [e, e2] X.env = (false, eval e X.env) :: starEach [e2] X.env := by rfl) (hpl : (backTo pos2 (starEach [e2] X.env)).any (·.1) = false := by rfl) :
    PE X (.Call (.Name "list" p) [.Call (.Name "zip" p2) [e, e2] [] pos2] [] pos) (tLZ X.K ta) := by
  refine ⟨fun pins s σ H Q I h => ?_⟩
  refine wpAny_Call_Name_kw (ld_blt I gL mL PyProof.Rows.boot_list ?_ (by decide) (by decide))
  refine PyProof.Rows.callWith_type1 ?_ h1 rfl
  rw [h1]
  show wpAny _ _ (spliced ((false, eval (.Call (.Name "zip" p2) [e, e2] [] pos2) X.env) :: backTo pos (starEach [] X.env))) _ _ s
  refine Calls.spliced_cons ?_
  refine wpAny_Call_Name_kw (ld_blt I gZ mZ PyProof.Rows.boot_zip ?_ (by decide) (by decide))
  refine PyProof.Rows.callWith_type1 (thn (ha.run pos2 pins s σ H _ I h) fun us s1 ⟨vs, H1, I1, r1, a, b, xs, ys, ev, ka, kb, kl, kz, q⟩ => ?_) h2 hpl
  subst ev
  cases r1 with
  | cons ra rr =>
    cases rr with
    | cons rb rr =>
      cases rr
      cases ra
      cases rb
      exact wpAny_mono (run_listZip (I1.ok.hd hc) I1 ka kb kl kz q) (fun z s' hz => Calls.spliced_nil hz) fun _ _ x => x
end
end Mine

set_option Elab.async false
set_option maxRecDepth 100000
set_option maxHeartbeats 4000000
namespace Mine
open PySem L2
def top (i : Nat) : Stmt := PySem.Challenge.pw_sourwright_k01_errors.main.body.getD i (.Pass ⟨0, 0, 0, 0⟩)
/-- a box of draws stands at b -/
def Box (H : Hp) (b : Addr) : Prop := ∃ x s c : Int, H b = some (.lst [.int x, .int s, .int c])
/-- all but what stands at b is as it was -/
def SameX (b : Addr) (H H' : Hp) : Prop := ∀ a o, a ≠ b → H a = some o → H' a = some o
theorem SameX.refl (b : Addr) (H : Hp) : SameX b H H := fun _ _ _ h => h
theorem SameX.trans {b : Addr} {H H1 H2 : Hp} (x : SameX b H H1) (y : SameX b H1 H2) : SameX b H H2 := fun a o n e => y a o n (x a o n e)
theorem SameX.of {b : Addr} {H H' : Hp} (h : Same H H') : SameX b H H' := fun a o _ e => h a o e
theorem SameX.upd {b : Addr} {H : Hp} {o : HO} : SameX b H (upd H b o) := fun a u n e => by rw [upd_ne n]; exact e
abbrev sTake : Stmt := top 15
abbrev NTake : List Str := ["_law_box_here", "_law_many", "_law_digit", "_law_one"]
theorem scTake : FnScope NTake ["_law_box_here", "_law_many"] (defScope sTake) := ⟨rfl, rfl, rfl, by decide +kernel, rfl, by decide +kernel, by decide +kernel⟩
def spTake : Sp := fun vs H Q _ => ∃ (b : Addr) (m : Int), vs = [.ref b, .int m] ∧ Box H b ∧ 0 < m ∧ m < 1000000 ∧ ∀ (r : Int) (H' : Hp), 0 ≤ r → r < m → Box H' b → SameX b H H' → Q (.int r) H'
section
variable {P : Program} {w : World} {K : PySem.W.Frag} {mg : Str → Option Value} {base : Heap} {f : Addr} {fd : FuncData}
theorem at0 {a b c : V} : atI [a, b, c] 0 = some a := rfl
theorem at1 {a b c : V} : atI [a, b, c] 1 = some b := rfl
theorem at2 {a b c : V} : atI [a, b, c] 2 = some c := rfl
theorem big (k : Int) (h : k < 2 ^ 64 := by decide) (h' : -(2 ^ 64) < k := by decide) : -(2 ^ 64) < k ∧ k < 2 ^ 64 := ⟨h', h⟩
theorem ok_take (F : Fun K "_law_take" "_law_take" sTake f fd) : FnOk P w K mg base CX0 1 f fd ["_law_box_here", "_law_many"] spTake := by
  refine F.ok scTake (fun vs H Q E h => ?_) (fun cdv A outer s H vs Q E hr h => ?_)
  · obtain ⟨b, m, rfl, _⟩ := h
    rfl
  obtain ⟨b, m, rfl, ⟨x, sd, c, hb⟩, h0, h1, q⟩ := h
  refine ⟨_, (pss_cons (ps_if (pt_cmpR op_gt (pe_ix ix_list (pv 0) pe_int (fun _ _ => rfl)) pe_int (nomark _))
    (pss_cons (ps_set (i := 2) scTake.nd rfl (Or.inl rfl) (pe_op op_mod (pe_ix ix_list (pv 0) pe_int (fun _ _ => rfl)) (pv 1)))
    (pss_cons (ps_asg (pe_op op_fdiv (pe_ix ix_list (pv 0) pe_int (fun _ _ => rfl)) (pv 1)) (pg_sub (pv 0) pe_int set_list))
    (pss_one (ps_ret (pv 2)))))
    pss_nil)
    (pss_cons (ps_asg (pe_op op_add (pe_ix ix_list (pv 0) pe_int (fun _ _ => rfl)) pe_int) (pg_sub (pv 0) pe_int set_list))
    (pss_cons (ps_set (i := 3) scTake.nd rfl (Or.inl rfl) (pe_op op_mod (pe_op op_mul (pe_op op_add (pe_ix ix_list (pv 0) pe_int (fun _ _ => rfl)) (pe_op op_mul pe_int (pe_ix ix_list (pv 0) pe_int (fun _ _ => rfl)))) pe_int) pe_int))
    (pss_cons (ps_asg (pe_op op_add (pe_op op_mod (pe_op op_add (pe_op op_mul (pv 3) pe_int) pe_int) pe_int) pe_int) (pg_sub (pv 0) pe_int set_list))
    (pss_one (ps_ret (pe_op op_mod (pe_op op_fdiv (pe_op op_add (pe_op op_mul (pv 3) pe_int) (pe_ix ix_list (pv 0) pe_int (fun _ _ => rfl))) pe_int) (pv 1)))))))), ?_⟩
  refine ⟨_, rfl, b, _, 0, _, rfl, rfl, SqL.of hb, at0, _, _, rfl, rfl, _, rfl, ?_⟩
  refine ite2 (fun g => ?_) (fun g => ?_)
  · refine ⟨_, rfl, b, _, 0, _, rfl, rfl, SqL.of hb, at0, _, rfl, _, _, rfl, rfl, h0, ?_⟩
    refine ⟨_, rfl, b, _, 0, _, rfl, rfl, SqL.of hb, at0, _, rfl, _, _, rfl, rfl, ⟨h0, by omega⟩, _, rfl, b, _, 0, 0, rfl, rfl, hb, rfl, _, rfl, ?_⟩
    exact q _ _ (Int.emod_nonneg _ (by omega)) (Int.emod_lt_of_pos _ h0) ⟨_, _, _, upd_same⟩ SameX.upd
  · refine ⟨_, rfl, b, _, 2, _, rfl, rfl, SqL.of hb, at2, _, _, rfl, rfl, _, rfl, b, _, 2, 2, rfl, rfl, hb, rfl, ?_⟩
    refine ⟨_, rfl, b, _, 1, _, rfl, rfl, SqL.of upd_same, at1, _, rfl, b, _, 2, _, rfl, rfl, SqL.of upd_same, at2, _, _, rfl, rfl, .inl (big _), _, _, rfl, rfl, _, _, rfl, rfl, .inr (big _), _, _, rfl, rfl, (by show (0 : Int) < 2147483647; decide), ?_⟩
    refine ⟨_, rfl, _, _, rfl, rfl, .inr (big _), _, _, rfl, rfl, _, _, rfl, rfl, (by show (0 : Int) < 2147483629; decide), _, _, rfl, rfl, _, rfl, b, _, 1, 1, rfl, rfl, upd_same, rfl, ?_⟩
    refine ⟨_, rfl, _, _, rfl, rfl, .inr (big _), _, rfl, b, _, 1, _, rfl, rfl, SqL.of upd_same, at1, _, _, rfl, rfl, _, _, rfl, rfl, ⟨by decide, by decide⟩, _, rfl, _, _, rfl, rfl, h0, ?_⟩
    refine q _ _ (Int.emod_nonneg _ (by omega)) (Int.emod_lt_of_pos _ h0) ⟨_, _, _, upd_same⟩ ?_
    exact (SameX.upd.trans SameX.upd)
end
end Mine

set_option Elab.async false
set_option maxRecDepth 100000
set_option maxHeartbeats 4000000
namespace Mine
open PySem L2
abbrev sBox : Stmt := top 14
abbrev NBox : List Str := ["_law_script", "_law_k", "_law_cell", "_law_seed"]
theorem scBox : FnScope NBox ["_law_script", "_law_k"] (defScope sBox) := ⟨rfl, rfl, rfl, by decide +kernel, rfl, by decide +kernel, by decide +kernel⟩
/-- the built-ins that the law's own defs call -/
structure Zs (mg : Str → Option Value) : Prop where
  z_len : mg "len" = none
  z_int : mg "int" = none
  z_isinstance : mg "isinstance" = none
  z_tuple : mg "tuple" = none
  z_list : mg "list" = none
  z_bool : mg "bool" = none
  z_zip : mg "zip" = none
  z_range : mg "range" = none
  z_max : mg "max" = none
  z_min : mg "min" = none
  z_enumerate : mg "enumerate" = none
  z_KeyError : mg "KeyError" = none
  z_ValueError : mg "ValueError" = none
def spBox (K : PySem.W.Frag) : Sp := fun vs H Q _ => ∃ (a : Addr) (ns : List Int) (k : Int), vs = [.ref a, .int k] ∧ SqL K H a (ns.map V.int) ∧ ns.length ≤ 63 ∧ 0 ≤ k ∧ k < 1000 ∧
  ∀ (p : Addr) (H' : Hp), H p = none → Same H H' → Box H' p → Q (.ref p) H'
section
variable {P : Program} {w : World} {K : PySem.W.Frag} {mg : Str → Option Value} {base : Heap} {f : Addr} {fd : FuncData}
theorem same_new {H : Hp} {p : Addr} (h : H p = none) (o : HO) : Same H (upd H p o) := fun b u q => by rw [upd_ne (ne_of_none q h)]; exact q
theorem at_ix {α : Type} {xs : List α} {k : Int} (h0 : 0 ≤ k) (h : k < (xs.length : Int)) : ∃ v, xs[k.toNat]? = some v ∧ atI xs k = some v := by
  have hk : k.toNat < xs.length := by omega
  refine ⟨xs[k.toNat], List.getElem?_eq_getElem hk, ?_⟩
  unfold atI ixN
  rw [if_pos h0, if_pos h]
  show xs[k.toNat]? = _
  exact List.getElem?_eq_getElem hk
theorem ok_box (F : Fun K "_law_box" "_law_box" sBox f fd) (T : Zs mg) : FnOk P w K mg base CX0 1 f fd ["_law_script", "_law_k"] (spBox K) := by
  refine F.ok scBox (fun vs H Q E h => ?_) (fun cdv A outer s H vs Q E hr h => ?_)
  · obtain ⟨a, ns, k, rfl, _⟩ := h
    rfl
  obtain ⟨a, ns, k, rfl, hS, h63, h0, h1, q⟩ := h
  refine ⟨_, (pss_cons (ps_set (i := 2) scBox.nd rfl (Or.inl rfl) (pe_op op_add (pe_op op_mul pe_int (pv 1)) pe_int))
    (C8.pss_cut (ps_if (pt_cmpR op_lt (pv 1) (pe_callB call_len_seq (by rfl) T.z_len (by decide +kernel) (pa_cons (pv 0) pa_nil)) (nomark _))
    (pss_one (ps_set (i := 2) scBox.nd rfl (Or.inl rfl) (pe_ix ix_list (pv 0) (pv 1) (fun _ _ => rfl))))
    (pss_one (ps_if (pt_cmpR op_gt (pe_callB call_len_seq (by rfl) T.z_len (by decide +kernel) (pa_cons (pv 0) pa_nil)) pe_int (nomark _))
    (pss_one (ps_set (i := 2) scBox.nd rfl (Or.inl rfl) (pe_op op_add (pv 2) (pe_op op_mul (pe_op op_mod (pe_ix ix_list (pv 0) (pe_op op_mod (pv 1) (pe_callB call_len_seq (by rfl) T.z_len (by decide +kernel) (pa_cons (pv 0) pa_nil))) (fun _ _ => rfl)) pe_int) pe_int))))
    pss_nil)))
    (pss_cons (ps_set (i := 3) scBox.nd rfl (Or.inl rfl) (pe_op op_add (pe_op op_mod (pe_op op_add (pe_op op_mul (pe_op op_mod (pv 2) pe_int) pe_int) (pe_op op_mul pe_int (pv 1))) pe_int) pe_int))
    (pss_one (ps_ret (pe_lst (pa_cons (pe_ix ix_list (pe_lst (pa_cons pe_int (pa_cons (pv 2) pa_nil))) (pe_callTy call_int1 (by rfl) T.z_int (by decide +kernel) (pa_cons (pe_cmpR op_ge (pv 2) (pe_op op_pow pe_int pe_int) (nomark _)) pa_nil)) (fun _ _ => rfl)) (pa_cons (pv 3) (pa_cons pe_int pa_nil))))))))), ?_⟩
  have hl : (ns.map V.int).length = ns.length := List.length_map _
  refine ⟨_, rfl, _, _, rfl, rfl, .inl (big _), _, _, rfl, rfl, ?_⟩
  refine ⟨fun σ' H' => H' = H ∧ ∃ cell : Int, σ' = [some (.ref a), some (.int k), some (.int cell), none], ?_, ?_⟩
  · refine ⟨_, rfl, _, rfl, a, _, rfl, .inl hS, _, _, rfl, rfl, _, rfl, ?_⟩
    rw [hl]
    refine ite2 (fun c => ?_) (fun c => ?_)
    · have c' : k < (ns.length : Int) := of_decide_eq_true c
      obtain ⟨v, hv, ha⟩ := at_ix (xs := ns.map V.int) h0 (by rw [hl]; exact c')
      rw [List.getElem?_map] at hv
      obtain ⟨n, _, rfl⟩ := Option.map_eq_some_iff.mp hv
      exact ⟨_, rfl, _, rfl, a, _, k, _, rfl, rfl, hS, ha, rfl, n, rfl⟩
    · refine ⟨_, rfl, a, _, rfl, .inl hS, _, _, rfl, rfl, _, rfl, ?_⟩
      rw [hl]
      refine ite2 (fun c2 => ?_) (fun _ => ⟨rfl, _, rfl⟩)
      have c2' : (0 : Int) < (ns.length : Int) := of_decide_eq_true c2
      obtain ⟨v, hv, ha⟩ := at_ix (xs := ns.map V.int) (k := k % (ns.length : Int)) (Int.emod_nonneg _ (by omega)) (by rw [hl]; exact Int.emod_lt_of_pos _ c2')
      rw [List.getElem?_map] at hv
      obtain ⟨n, _, rfl⟩ := Option.map_eq_some_iff.mp hv
      exact ⟨_, rfl, _, rfl, _, rfl, _, rfl, a, _, rfl, .inl hS, _, _, rfl, rfl, (by rw [hl]; exact c2'), a, _, _, _, rfl, rfl, hS, (by rw [hl]; exact ha), _, _, rfl, rfl, (by show (0 : Int) < 2147483629; decide), _, _, rfl, rfl, .inr (big _), _, _, rfl, rfl, rfl, _, rfl⟩
  · rintro σ' H' ⟨rfl, cell, rfl⟩
    refine ⟨_, rfl, _, _, rfl, rfl, (by show (0 : Int) < 2147483629; decide), _, _, rfl, rfl, .inr (big _), _, rfl, _, _, rfl, rfl, .inl (big _), _, _, rfl, rfl, _, _, rfl, rfl, (by show (0 : Int) < 2147483629; decide), _, _, rfl, rfl, ?_⟩
    refine ⟨_, rfl, (by show 2 ≤ sizeLine; decide), fun p hp => ?_⟩
    refine ⟨_, rfl, _, _, rfl, rfl, ⟨by decide, by decide, by decide⟩, _, _, rfl, rfl, .inr ⟨_, rfl, ?_⟩⟩
    have two : ∀ c : Bool, ∃ i : Int, atI [V.int 0, V.int cell] (if c then 1 else 0) = some (.int i) := fun c => by cases c <;> exact ⟨_, rfl⟩
    obtain ⟨i, hi⟩ := two (decide (10 ^ (18 : Int).toNat ≤ cell))
    refine ⟨p, _, _, _, rfl, rfl, SqL.of upd_same, hi, _, rfl, (by show 3 ≤ sizeLine; decide), fun r hr' => ?_⟩
    have hr0 : H' r = none := (same_new hp _).free hr'
    exact q r _ hr0 ((same_new hp _).trans (same_new hr' _)) ⟨_, _, _, upd_same⟩
end
end Mine

set_option Elab.async false
set_option maxRecDepth 100000
set_option maxHeartbeats 4000000
namespace Mine
open PySem L2
/-! ### xs != [] -/
def rNeNil (K : PySem.W.Frag) : R2 := fun x y H Q => ∃ (l p : Addr) (xs : List V), x = .ref l ∧ y = .ref p ∧ SqL K H l xs ∧ H p = some (.lst []) ∧ Q (.bl (!xs.isEmpty)) H
theorem op_neNil {X : Cx} (hu : X.A.units + 64 < cLine) : OpR X (compareOp .NotEq) (rNeNil X.K) := by
  intro pins s σ H x y v u Q I rx ry h
  obtain ⟨l, p, xs, rfl, rfl, hl, hp, q⟩ := h
  cases rx
  cases ry
  obtain ⟨its, rv, pl, _⟩ := I.list hl
  obtain ⟨its2, rv2, pp, _⟩ := I.list (SqL.of hp)
  cases rv2
  have el := rv.length
  cases xs with
  | nil =>
    cases rv
    have d : ∀ {a : Addr}, PlainL s.heap a #[] → ∃ as, Reads s.heap (.ref a) (.list []) as := fun {a} z => by
      obtain ⟨o, n, ho, hc, _, hd⟩ := z
      exact ⟨_, Reads.list ho hc hd ReadsAll.nil⟩
    obtain ⟨as, r1⟩ := d pl
    obtain ⟨bs, r2⟩ := d pp
    exact SeqAt.compareNe_shaped r1 r2 (by decide) (by decide) hu ⟨.bl _, H, I, rfl, q⟩
  | cons x r =>
    refine SeqAt.RcNeAt.lists_lengths pl.isList pp.isList ?_ (Nat.lt_of_le_of_lt (Nat.le_add_right _ 64) hu) _ _ _ _ ⟨.bl _, H, I, rfl, q⟩
    cases rv
    simp

/-! ### values that are alike: data of one shape with equal scalars; the number counts its nodes -/
def isS : V → Bool
  | .non | .bl _ | .int _ | .str _ => true
  | _ => false
mutual
inductive Al (H : Hp) : V → V → Nat → Prop
  | scal (x : V) : isS x = true → Al H x x 1
  | tup {a b : Addr} {xs ys : List V} {n : Nat} : H a = some (.tup xs) → H b = some (.tup ys) → Als H xs ys n → Al H (.ref a) (.ref b) (n + 1)
  | lst {a b : Addr} {xs ys : List V} {n : Nat} : H a = some (.lst xs) → H b = some (.lst ys) → Als H xs ys n → Al H (.ref a) (.ref b) (n + 1)
inductive Als (H : Hp) : List V → List V → Nat → Prop
  | nil : Als H [] [] 0
  | cons {x y : V} {xs ys : List V} {m n : Nat} : Al H x y m → Als H xs ys n → Als H (x :: xs) (y :: ys) (m + n)
end
theorem Al.pos {H : Hp} {x y : V} {n : Nat} (h : Al H x y n) : 0 < n := by
  cases h with
  | scal => decide
  | tup _ _ _ => exact Nat.succ_pos _
  | lst _ _ _ => exact Nat.succ_pos _
theorem Als.len {H : Hp} : ∀ {xs ys : List V} {n : Nat}, Als H xs ys n → xs.length = ys.length ∧ xs.length ≤ n
  | [], _, _, h => by
    cases h
    exact ⟨rfl, Nat.le_refl _⟩
  | x :: xs, _, _, h => by
    cases h with
    | cons h1 h2 =>
      have p := h1.pos
      have q := Als.len h2
      simp only [List.length_cons]
      omega
/-- item by item -/
theorem Als.parts {H : Hp} : ∀ {xs ys : List V} {n : Nat}, Als H xs ys n → ∃ ms : List Nat, ms.length = xs.length ∧ ms.sum = n ∧ ∀ (j : Nat) (x y : V) (m : Nat), xs[j]? = some x → ys[j]? = some y → ms[j]? = some m → Al H x y m
  | [], _, _, h => by
    cases h
    exact ⟨[], rfl, rfl, fun j x y m e => by cases e⟩
  | x :: xs, _, _, h => by
    cases h with
    | @cons _ y _ ys m n h1 h2 =>
      obtain ⟨ms, l, s, p⟩ := Als.parts h2
      refine ⟨m :: ms, by simp [l], by simp [s], fun j x' y' m' e1 e2 e3 => ?_⟩
      cases j with
      | zero =>
        cases e1
        cases e2
        cases e3
        exact h1
      | succ j => exact p j x' y' m' e1 e2 e3
mutual
theorem Al.mono {H H' : Hp} (s : Same H H') : ∀ {x y : V} {n : Nat}, Al H x y n → Al H' x y n
  | _, _, _, .scal x h => .scal x h
  | _, _, _, .tup ha hb h => .tup (s _ _ ha) (s _ _ hb) (Als.mono s h)
  | _, _, _, .lst ha hb h => .lst (s _ _ ha) (s _ _ hb) (Als.mono s h)
theorem Als.mono {H H' : Hp} (s : Same H H') : ∀ {xs ys : List V} {n : Nat}, Als H xs ys n → Als H' xs ys n
  | _, _, _, .nil => .nil
  | _, _, _, .cons h1 h2 => .cons (Al.mono s h1) (Als.mono s h2)
end
/-! ### the classes that `_law_alike` asks for -/
abbrev tl2 : List Value := [.type "tuple", .type "list"]
section
variable {K : PySem.W.Frag} {H : Hp}
theorem kA_tup : PySem.W.kitAny K (.type "tuple") tl2 = some true := kitAny_cons (b := true) (kit_ty (b := "tuple") (by decide +kernel)) (fun h => nomatch h) fun _ => rfl
theorem kA_lst : PySem.W.kitAny K (.type "list") tl2 = some true := kitAny_cons (b := false) (kit_ty (b := "tuple") (by decide +kernel)) (fun _ => kitAny_cons (b := true) (kit_ty (b := "list") (by decide +kernel)) (fun h => nomatch h) fun _ => rfl) fun h => nomatch h
/-- a scalar's type is told by isinstance -/
theorem kS {x : V} (h : isS x = true) : ∃ t : String, (∀ H : Hp, TyX K H x (.type t)) ∧ PySem.W.kitAny K (.type t) tl2 = some false ∧ (∃ b, PySem.W.kitOne K (.type t) (.type "bool") = some b) ∧ scal x x = true := by
  cases x with
  | non => exact ⟨_, fun _ => .base .non, kitAny_cons (b := false) (kit_ty (b := "tuple") (by decide +kernel)) (fun _ => kitAny_cons (b := false) (kit_ty (b := "list") (by decide +kernel)) (fun _ => rfl) fun h => by cases h) (fun h => by cases h), ⟨_, kit_ty (r := false) (by decide +kernel)⟩, rfl⟩
  | bl b => exact ⟨_, fun _ => .base (.bl b), kitAny_cons (b := false) (kit_ty (b := "tuple") (by decide +kernel)) (fun _ => kitAny_cons (b := false) (kit_ty (b := "list") (by decide +kernel)) (fun _ => rfl) fun h => by cases h) (fun h => by cases h), ⟨_, kit_ty (r := true) (by decide +kernel)⟩, rfl⟩
  | int b => exact ⟨_, fun _ => .base (.int b), kitAny_cons (b := false) (kit_ty (b := "tuple") (by decide +kernel)) (fun _ => kitAny_cons (b := false) (kit_ty (b := "list") (by decide +kernel)) (fun _ => rfl) fun h => by cases h) (fun h => by cases h), ⟨_, kit_ty (r := false) (by decide +kernel)⟩, rfl⟩
  | str b => exact ⟨_, fun _ => .base (.str b), kitAny_cons (b := false) (kit_ty (b := "tuple") (by decide +kernel)) (fun _ => kitAny_cons (b := false) (kit_ty (b := "list") (by decide +kernel)) (fun _ => rfl) fun h => by cases h) (fun h => by cases h), ⟨_, kit_ty (r := false) (by decide +kernel)⟩, rfl⟩
  | byt _ => cases h
  | flt _ => cases h
  | ref _ => cases h
  | ty _ => cases h
end

theorem nil_or_snoc {α : Type} (l : List α) : l = [] ∨ ∃ r x, l = r ++ [x] := by
  rcases List.eq_nil_or_concat l with h | ⟨r, x, h⟩
  · exact .inl h
  · exact .inr ⟨r, x, by rw [h, List.concat_eq_append]⟩
theorem ifE {c : Bool} {A B : Prop} (e : c = true) (h : A) : if c = true then A else B := by
  rw [if_pos e]
  exact h
theorem ifN {c : Bool} {A B : Prop} (e : c = false) (h : B) : if c = true then A else B := by
  rw [e, if_neg Bool.false_ne_true]
  exact h
theorem relTy (n : String) : RelV (.ty n) (.type n) := rfl
abbrev sAlike : Stmt := top 16
abbrev NAlike : List Str := ["_law_found", "_law_due", "_law_left", "_law_one", "_law_other"]
theorem scAlike : FnScope NAlike ["_law_found", "_law_due"] (defScope sAlike) := ⟨rfl, rfl, rfl, by decide +kernel, rfl, by decide +kernel, by decide +kernel⟩
def spAlike : Sp := fun vs H Q _ => ∃ (x y : V) (n : Nat), vs = [x, y] ∧ Al H x y n ∧ n ≤ 1000000 ∧ ∀ H', Same H H' → Q (.bl true) H'
/-- the work that is left: pairs at their addresses, with their sizes -/
structure Work (H0 H : Hp) (l : Addr) (ws : List (Addr × Nat)) : Prop where
  same : Same H0 H
  new : H0 l = none
  lst : H l = some (.lst (ws.map fun w => V.ref w.1))
  prs : ∀ w, w ∈ ws → ∃ x y, H w.1 = some (.tup [x, y]) ∧ Al H0 x y w.2
theorem ws_len {H0 H : Hp} {l : Addr} {ws : List (Addr × Nat)} (h : Work H0 H l ws) : ws.length ≤ (ws.map (·.2)).sum := by
  have key : ∀ vs : List (Addr × Nat), (∀ w, w ∈ vs → 0 < w.2) → vs.length ≤ (vs.map (·.2)).sum := fun vs => by
    induction vs with
    | nil => intro _; exact Nat.le_refl _
    | cons v r ih =>
      intro p
      have h1 := p v (List.mem_cons_self ..)
      have h2 := ih fun w hw => p w (List.mem_cons_of_mem _ hw)
      simp only [List.length_cons, List.map_cons, List.sum_cons]
      omega
  refine key ws fun w hw => ?_
  obtain ⟨x, y, _, a⟩ := h.prs w hw
  exact a.pos
section
variable {P : Program} {w : World} {K : PySem.W.Frag} {mg : Str → Option Value} {base : Heap} {f : Addr} {fd : FuncData}
theorem ok_alike (F : Fun K "_law_alike" "_law_alike" sAlike f fd) (T : Zs mg) : FnOk P w K mg base CX0 1 f fd ["_law_found", "_law_due"] spAlike := by
  refine F.ok scAlike (fun vs H Q E h => ?_) (fun cdv A outer s H vs Q E hr h => ?_)
  · obtain ⟨x, y, n, rfl, _⟩ := h
    rfl
  obtain ⟨x, y, n, rfl, hxy, hn, q⟩ := h
  have hu := hr.units
  refine ⟨_, (pss_cons (ps_set (i := 2) scAlike.nd rfl (Or.inl rfl) (pe_lst (pa_cons (pe_tup (pa_cons (pv 0) (pa_cons (pv 1) pa_nil))) pa_nil)))
    (pss_cons (ps_while PassesOwn.never (pt_cmpR (op_neNil hu) (pv 2) (pe_lst pa_nil) (nomark _))
    (pss_cons (ps_asg (pe_bm0 PySem.F.plainAttrs_list PySem.F.slot_list_pop PySem.F.type_list_pop mt_pop (pv 2)) (pg_tup (by rfl) (pgs_cons (pg_name (i := 3) scAlike.nd rfl (Or.inl rfl)) (pgs_cons (pg_name (i := 4) scAlike.nd rfl (Or.inl rfl)) pgs_nil))))
    (pss_one (ps_if (pt_val (pe_callB call_isiT (by rfl) T.z_isinstance (by decide +kernel) (pa_cons (pv 4) (pa_cons (pe_tup (pa_cons (pe_bltn (by rfl) T.z_tuple (by decide +kernel) (relTy "tuple")) (pa_cons (pe_bltn (by rfl) T.z_list (by decide +kernel) (relTy "list")) pa_nil))) pa_nil))))
    (pss_cons (ps_if (PW.pt (pw_or (pt_cmpR op_ne (pe_callB call_isi (by rfl) T.z_isinstance (by decide +kernel) (pa_cons (pv 3) (pa_cons (pe_bltn (by rfl) T.z_tuple (by decide +kernel) (relTy "tuple")) pa_nil))) (pe_callB call_isi (by rfl) T.z_isinstance (by decide +kernel) (pa_cons (pv 4) (pa_cons (pe_bltn (by rfl) T.z_tuple (by decide +kernel) (relTy "tuple")) pa_nil))) (nomark _)) (pw_or1 (pt_cmpR op_ne (pe_callB call_isi (by rfl) T.z_isinstance (by decide +kernel) (pa_cons (pv 3) (pa_cons (pe_bltn (by rfl) T.z_list (by decide +kernel) (relTy "list")) pa_nil))) (pe_callB call_isi (by rfl) T.z_isinstance (by decide +kernel) (pa_cons (pv 4) (pa_cons (pe_bltn (by rfl) T.z_list (by decide +kernel) (relTy "list")) pa_nil))) (nomark _)))))
    (pss_one (ps_ret pe_bl))
    pss_nil)
    (pss_cons (ps_if (pt_cmpR op_ne (pe_callB call_len_seq (by rfl) T.z_len (by decide +kernel) (pa_cons (pv 3) pa_nil)) (pe_callB call_len_seq (by rfl) T.z_len (by decide +kernel) (pa_cons (pv 4) pa_nil)) (nomark _))
    (pss_one (ps_ret pe_bl))
    pss_nil)
    (pss_one (ps_expr (pe_bm PySem.F.plainAttrs_list PySem.F.slot_list_extend PySem.F.type_list_extend mt_extend (pv 2) (pa_cons (pe_listZip rfl rfl T.z_list rfl T.z_zip (pa_cons (pv 3) (pa_cons (pv 4) pa_nil))) pa_nil))))))
    (pss_one (ps_if (PW.pt (pw_or (pt_val (pe_callB call_isiT (by rfl) T.z_isinstance (by decide +kernel) (pa_cons (pv 3) (pa_cons (pe_tup (pa_cons (pe_bltn (by rfl) T.z_tuple (by decide +kernel) (relTy "tuple")) (pa_cons (pe_bltn (by rfl) T.z_list (by decide +kernel) (relTy "list")) pa_nil))) pa_nil)))) (pw_or (pt_cmpR op_ne (pe_callB call_isi (by rfl) T.z_isinstance (by decide +kernel) (pa_cons (pv 3) (pa_cons (pe_bltn (by rfl) T.z_bool (by decide +kernel) (relTy "bool")) pa_nil))) (pe_callB call_isi (by rfl) T.z_isinstance (by decide +kernel) (pa_cons (pv 4) (pa_cons (pe_bltn (by rfl) T.z_bool (by decide +kernel) (relTy "bool")) pa_nil))) (nomark _)) (pw_or1 (pt_cmpR op_ne (pv 3) (pv 4) (nomark _))))))
    (pss_one (ps_ret pe_bl))
    pss_nil))))))
    (pss_one (ps_ret pe_bl)))), ?_⟩
  refine ⟨_, rfl, _, rfl, (by show 2 ≤ sizeLine; decide), fun t ht => ⟨(by show 1 ≤ sizeLine; decide), fun l hl => ?_⟩⟩
  have hl0 : H l = none := (same_new ht _).free hl
  have ntl : t ≠ l := ne_of_none upd_same hl
  refine ⟨fun m σ H1 => ∃ (ws : List (Addr × Nat)) (s3 s4 : Option V), σ = [some x, some y, some (.ref l), s3, s4] ∧ Work H H1 l ws ∧ (ws.map (·.2)).sum = m ∧ m ≤ n, ⟨n, [(t, n)], none, none, rfl, ⟨?_, hl0, upd_same, fun w hw => ?_⟩, by simp, Nat.le_refl _⟩, ?_⟩
  · exact (same_new ht _).trans (same_new hl _)
  · obtain rfl : w = (t, n) := by simpa using hw
    exact ⟨x, y, by rw [upd_ne ntl]; exact upd_same, hxy⟩
  rintro m σ H1 ⟨ws, s3, s4, rfl, Wk, hm, hmn⟩
  refine ⟨_, rfl, (by show 0 ≤ sizeLine; decide), fun e he => ⟨l, e, ws.map fun w => V.ref w.1, rfl, rfl, (same_new he _).seq (SqL.of Wk.lst), upd_same, _, rfl, ?_⟩⟩
  have sE := same_new he (HO.lst [])
  rcases nil_or_snoc ws with rfl | ⟨ws', ⟨t1, m1⟩, rfl⟩
  · -- nothing is left
    exact q _ (Wk.same.trans sE)
  have ne : (!(List.map (fun w : Addr × Nat => V.ref w.1) (ws' ++ [(t1, m1)])).isEmpty) = true := by simp
  refine ifE ne ⟨fun σ' H' => ∃ m', m' < m ∧ ∃ (ws : List (Addr × Nat)) (s3 s4 : Option V), σ' = [some x, some y, some (.ref l), s3, s4] ∧ Work H H' l ws ∧ (ws.map (·.2)).sum = m' ∧ m' ≤ n, fun σ' H' h => h, ?_⟩
  obtain ⟨x1, y1, ht1, ha1⟩ := Wk.prs (t1, m1) (by simp)
  have hlst : upd H1 e (HO.lst []) l = some (.lst ((ws'.map fun w => V.ref w.1) ++ [V.ref t1])) := by
    rw [sE _ _ Wk.lst]
    simp
  have nt1 : t1 ≠ l := fun z => by
    have h2 := Wk.lst
    rw [← z, ht1] at h2
    cases h2
  refine ⟨_, rfl, .inl ⟨rfl, _, SqL.of hlst⟩, l, _, V.ref t1, rfl, rfl, hlst, (by simp), t1, [x1, y1], rfl, SqT.of (by rw [upd_ne nt1]; exact sE _ _ ht1), rfl, x1, [y1], rfl, y1, [], rfl, rfl, ?_⟩
  have hsum : (ws'.map (·.2)).sum + m1 = m := by
    rw [← hm]
    simp
  -- the heap behind the pop
  obtain ⟨H2, eH2⟩ : ∃ H2, H2 = upd (upd H1 e (HO.lst [])) l (HO.lst (((ws'.map fun w => V.ref w.1) ++ [V.ref t1]).dropLast)) := ⟨_, rfl⟩
  rw [← eH2]
  have l2 : H2 l = some (.lst (ws'.map fun w => V.ref w.1)) := by
    rw [eH2, upd_same]
    simp
  have s02 : Same H H2 := fun c o ec => by
    have nc : c ≠ l := ne_of_none ec hl0
    rw [eH2, upd_ne nc]
    exact sE _ _ (Wk.same _ _ ec)
  have keep2 : ∀ w, w ∈ ws' → ∃ x y, H2 w.1 = some (.tup [x, y]) ∧ Al H x y w.2 := fun w hw => by
    obtain ⟨x', y', h1, h2⟩ := Wk.prs w (by simp [hw])
    have nw : w.1 ≠ l := fun z => by
      have h3 := Wk.lst
      rw [← z, h1] at h3
      cases h3
    exact ⟨x', y', by rw [eH2, upd_ne nw]; exact sE _ _ h1, h2⟩
  have spl : (isS x1 = true ∧ y1 = x1) ∨ ∃ (t : String) (bT bL : Bool) (a b : Addr) (xs ys : List V) (n1 : Nat), PySem.W.kitAny K (.type t) tl2 = some true ∧ PySem.W.kitOne K (.type t) (.type "tuple") = some bT ∧ PySem.W.kitOne K (.type t) (.type "list") = some bL ∧
      (∀ H', Same H H' → TyX K H' (.ref a) (.type t) ∧ TyX K H' (.ref b) (.type t) ∧ SqA K H' a xs ∧ SqA K H' b ys) ∧ Als H xs ys n1 ∧ m1 = n1 + 1 ∧ x1 = .ref a ∧ y1 = .ref b := by
    cases ha1 with
    | scal _ hs => exact .inl ⟨hs, rfl⟩
    | tup ea eb hx => exact .inr ⟨"tuple", true, false, _, _, _, _, _, kA_tup, kit_ty (by decide +kernel), kit_ty (by decide +kernel), fun H' s' => ⟨.base (.tup (s' _ _ ea)), .base (.tup (s' _ _ eb)), .inr (SqT.of (s' _ _ ea)), .inr (SqT.of (s' _ _ eb))⟩, hx, rfl, rfl, rfl⟩
    | lst ea eb hx => exact .inr ⟨"list", false, true, _, _, _, _, _, kA_lst, kit_ty (by decide +kernel), kit_ty (by decide +kernel), fun H' s' => ⟨.base (.lst (s' _ _ ea)), .base (.lst (s' _ _ eb)), .inl (SqL.of (s' _ _ ea)), .inl (SqL.of (s' _ _ eb))⟩, hx, rfl, rfl, rfl⟩
  rcases spl with ⟨hs, rfl⟩ | ⟨t, bT, bL, a, b, xs, ys, n1, k1, k2, k3, hH, hx, rfl, rfl, rfl⟩
  · obtain ⟨ty, tx, k1, ⟨bb, k2⟩, hsc⟩ := kS (K := K) hs
    refine ⟨_, rfl, (by show 2 ≤ sizeLine; decide), fun p1 hp1 => ⟨y1, p1, _, _, _, false, rfl, upd_same, .cons (.ty _) (.cons (.ty _) .nil), tx _, k1, false, rfl, iteF ?_⟩⟩
    refine ⟨_, rfl, (by show 2 ≤ sizeLine; decide), fun p2 hp2 => ⟨y1, p2, _, _, _, false, rfl, upd_same, .cons (.ty _) (.cons (.ty _) .nil), tx _, k1, false, rfl, iteF ?_⟩⟩
    refine ⟨_, rfl, y1, _, _, _, bb, rfl, .ty _, tx _, k2, _, rfl, y1, _, _, _, bb, rfl, .ty _, tx _, k2, by cases bb <;> rfl, _, rfl, ifN (by simp) ?_⟩
    refine ⟨_, rfl, _, rfl, hsc, _, rfl, ifN (by simp) ?_⟩
    have s3 : Same H2 (upd (upd H2 p1 (.tup [.ty "tuple", .ty "list"])) p2 (.tup [.ty "tuple", .ty "list"])) := (same_new hp1 _).trans (same_new hp2 _)
    have hp := ha1.pos
    refine ⟨m - m1, by omega, ws', _, _, rfl, ⟨s02.trans s3, hl0, s3 _ _ l2, fun w hw => ?_⟩, by omega, by omega⟩
    obtain ⟨x', y', h1, h2⟩ := keep2 w hw
    exact ⟨x', y', s3 _ _ h1, h2⟩
  · refine ⟨_, rfl, (by show 2 ≤ sizeLine; decide), fun p1 hp1 => ⟨.ref b, p1, _, _, _, true, rfl, upd_same, .cons (.ty _) (.cons (.ty _) .nil), (hH _ (s02.trans (same_new hp1 _))).2.1, k1, true, rfl, iteT ?_⟩⟩
    obtain ⟨H3, eH3⟩ : ∃ H3, H3 = upd H2 p1 (.tup [.ty "tuple", .ty "list"]) := ⟨_, rfl⟩
    have s23 : Same H2 H3 := by
      rw [eH3]
      exact same_new hp1 _
    rw [← eH3]
    obtain ⟨ta, tb, qa, qb⟩ := hH H3 (s02.trans s23)
    refine ⟨_, rfl, _, _, _, _, bT, rfl, .ty _, ta, k2, _, rfl, _, _, _, _, bT, rfl, .ty _, tb, k2, by cases bT <;> rfl, _, rfl, ifN (by simp) ?_⟩
    refine ⟨_, rfl, _, _, _, _, bL, rfl, .ty _, ta, k3, _, rfl, _, _, _, _, bL, rfl, .ty _, tb, k3, by cases bL <;> rfl, _, rfl, ifN (by simp) ?_⟩
    obtain ⟨el, en⟩ := hx.len
    refine ⟨_, rfl, a, xs, rfl, qa, _, rfl, b, ys, rfl, qb, rfl, _, rfl, ifN (by simp [el]) ?_⟩
    have hsz : xs.length < sizeLine := by
      have h1 : (1000000 : Nat) < sizeLine := by decide
      omega
    have l3 := s23 _ _ l2
    refine ⟨_, rfl, .inl ⟨rfl, _, SqL.of l3⟩, _, rfl, _, rfl, a, b, xs, ys, rfl, qa, qb, el, hsz, fun S ps H4 Z => ?_⟩
    have lS : l ≠ S := ne_of_none l3 Z.fresh
    have l4 := Z.same _ _ l3
    obtain ⟨ms, hml, hms, hp⟩ := hx.parts
    have wl : ws'.length ≤ (ws'.map (·.2)).sum := by
      have key : ∀ vs : List (Addr × Nat), (∀ w, w ∈ vs → 0 < w.2) → vs.length ≤ (vs.map (·.2)).sum := fun vs => by
        induction vs with
        | nil => intro _; exact Nat.le_refl _
        | cons v r ih =>
          intro p
          have h1 := p v (List.mem_cons_self ..)
          have h2 := ih fun w hw => p w (List.mem_cons_of_mem _ hw)
          simp only [List.length_cons, List.map_cons, List.sum_cons]
          omega
      refine key ws' fun w hw => ?_
      obtain ⟨_, _, _, h2⟩ := keep2 w hw
      exact h2.pos
    have pl := Z.len
    refine ⟨l, S, _, _, rfl, rfl, l4, Z.at_, ?_, ?_⟩
    · rw [List.length_map, List.length_map]
      have h1 : (1000000 : Nat) < sizeLine := by decide
      omega
    have zl : (ps.zip ms).map (fun w => V.ref w.1) = ps.map V.ref := by
      rw [show (fun w : Addr × Nat => V.ref w.1) = V.ref ∘ Prod.fst from rfl, ← List.map_map, List.map_fst_zip (by omega)]
    have zm : (ps.zip ms).map (·.2) = ms := by
      show (ps.zip ms).map Prod.snd = ms
      rw [List.map_snd_zip (by omega)]
    refine ⟨(ws'.map (·.2)).sum + n1, by omega, ws' ++ ps.zip ms, _, _, rfl, ⟨fun c o ec => ?_, hl0, ?_, fun w hw => ?_⟩, by rw [List.map_append, List.sum_append, zm, hms], by omega⟩
    · rw [upd_ne (ne_of_none ec hl0)]
      exact Z.same _ _ (s23 _ _ (s02 _ _ ec))
    · rw [upd_same, List.map_append, zl]
    · rcases List.mem_append.mp hw with hw | hw
      · obtain ⟨x', y', h1, h2⟩ := keep2 w hw
        have nw : w.1 ≠ l := ne_of h1 l2 (by intro z; cases z)
        exact ⟨x', y', by rw [upd_ne nw]; exact Z.same _ _ (s23 _ _ h1), h2⟩
      · obtain ⟨j, hj⟩ := List.getElem?_of_mem hw
        obtain ⟨p, m'⟩ := w
        obtain ⟨hpj, hmj⟩ : ps[j]? = some p ∧ ms[j]? = some m' := by
          rw [List.getElem?_zip_eq_some] at hj
          exact hj
        have jl : j < ps.length := (List.getElem?_eq_some_iff.mp hpj).1
        have e1 : xs[j]? = some xs[j] := List.getElem?_eq_getElem (by omega)
        have e2 : ys[j]? = some ys[j] := List.getElem?_eq_getElem (by omega)
        have ht := Z.pair j p _ _ hpj e1 e2
        have np : p ≠ l := fun z => by
          rw [z, l4] at ht
          cases ht
        exact ⟨_, _, by rw [upd_ne np]; exact ht, hp j _ _ _ e1 e2 hmj⟩
end
end Mine

set_option Elab.async false
set_option maxRecDepth 100000
set_option maxHeartbeats 4000000
namespace Mine
open PySem L2
/-! ### drawn values: tuples and scalars -/
mutual
inductive Dt (H : Hp) : V → Nat → Prop
  | scal (x : V) : isS x = true → Dt H x 1
  | tup {a : Addr} {xs : List V} {n : Nat} : H a = some (.tup xs) → Dts H xs n → Dt H (.ref a) (n + 1)
inductive Dts (H : Hp) : List V → Nat → Prop
  | nil : Dts H [] 0
  | cons {x : V} {xs : List V} {m n : Nat} : Dt H x m → Dts H xs n → Dts H (x :: xs) (m + n)
end
def TKeep (H H' : Hp) : Prop := ∀ a xs, H a = some (.tup xs) → H' a = some (.tup xs)
mutual
theorem Dt.mono {H H' : Hp} (s : TKeep H H') : ∀ {x : V} {n : Nat}, Dt H x n → Dt H' x n
  | _, _, .scal x h => .scal x h
  | _, _, .tup ha h => .tup (s _ _ ha) (Dts.mono s h)
theorem Dts.mono {H H' : Hp} (s : TKeep H H') : ∀ {xs : List V} {n : Nat}, Dts H xs n → Dts H' xs n
  | _, _, .nil => .nil
  | _, _, .cons h1 h2 => .cons (Dt.mono s h1) (Dts.mono s h2)
end
mutual
theorem Dt.al {H : Hp} : ∀ {x : V} {n : Nat}, Dt H x n → Al H x x n
  | _, _, .scal x h => .scal x h
  | _, _, .tup ha h => .tup ha ha (Dts.al h)
theorem Dts.al {H : Hp} : ∀ {xs : List V} {n : Nat}, Dts H xs n → Als H xs xs n
  | _, _, .nil => .nil
  | _, _, .cons h1 h2 => .cons (Dt.al h1) (Dts.al h2)
end
theorem SameX.keep {b : Addr} {H H' : Hp} (h : SameX b H H') (hb : Box H b) : TKeep H H' := fun a xs e => by
  refine h a _ (fun z => ?_) e
  obtain ⟨_, _, _, q⟩ := hb
  rw [z, q] at e
  cases e
/-- a value of at most m nodes -/
def Dv (H : Hp) (x : V) (m : Nat) : Prop := ∃ n, n ≤ m ∧ Dt H x n
theorem Dv.mono {H H' : Hp} {x : V} {m : Nat} (s : TKeep H H') (h : Dv H x m) : Dv H' x m := let ⟨n, l, d⟩ := h; ⟨n, l, d.mono s⟩
theorem dts_of {H : Hp} {m : Nat} : ∀ {xs : List V}, (∀ x, x ∈ xs → Dv H x m) → ∃ n, n ≤ xs.length * m ∧ Dts H xs n
  | [], _ => ⟨0, Nat.zero_le _, .nil⟩
  | x :: xs, h => by
    obtain ⟨n1, l1, d1⟩ := h x (List.mem_cons_self ..)
    obtain ⟨n2, l2, d2⟩ := dts_of (xs := xs) fun y hy => h y (List.mem_cons_of_mem _ hy)
    refine ⟨n1 + n2, ?_, .cons d1 d2⟩
    rw [List.length_cons, Nat.succ_mul]
    omega
def bnd : Nat → Nat
  | 0 => 1
  | n + 1 => 1 + 3 * bnd n
abbrev sSome : Stmt := top 17
abbrev NSome : List Str := ["_law_box_here", "_law_deep", "_law_form", "_law_some", "_law_turn"]
theorem scSome : FnScope NSome ["_law_box_here", "_law_deep"] (defScope sSome) := ⟨rfl, rfl, rfl, by decide +kernel, rfl, by decide +kernel, by decide +kernel⟩
def spSome (n : Nat) : Sp := fun vs H Q _ => ∃ (b : Addr) (k : Nat), vs = [.ref b, .int k] ∧ k < n ∧ Box H b ∧ ∀ (v : V) (H' : Hp), Dv H' v (bnd k) → Box H' b → SameX b H H' → Q v H'
/-- the written menu -/
def menu (p : Addr) : List V := [.str "", .str "a b", .str "c\n", .int 0, .int (-1), .int 61, .int (10 ^ (30 : Int).toNat), .bl true, .bl false, .non, .ref p]
section
variable {P : Program} {w : World} {K : PySem.W.Frag} {mg : Str → Option Value} {base : Heap} {f fT : Addr} {fd fdT : FuncData}
theorem ok_some {n : Nat} (F : Fun K "_law_some_value" "_law_some_value" sSome f fd) (T : Zs mg) (GT : FnOk P w K mg base CX0 1 fT fdT ["_law_box_here", "_law_many"] spTake) (mT : mg "_law_take" = some (.ref fT)) (kT : PySem.W.keepIn K (.ref fT) = true) (bT : Binds K fdT ["_law_box_here", "_law_many"] [])
    (GS : FnOk P w K mg base CX0 (n + 1) f fd ["_law_box_here", "_law_deep"] (spSome n)) (mS : mg "_law_some_value" = some (.ref f)) (bS : Binds K fd ["_law_box_here", "_law_deep"] []) :
    FnOk P w K mg base CX0 (n + 1 + 1) f fd ["_law_box_here", "_law_deep"] (spSome (n + 1)) := by
  refine F.ok scSome (fun vs H Q E h => ?_) (fun cdv A outer s H vs Q E hr h => ?_)
  · obtain ⟨b, k, rfl, _⟩ := h
    rfl
  obtain ⟨b, k, rfl, hk, hB, q⟩ := h
  have kS := F.kp
  have hr1 : Room 1 _ := hr.mono (by omega)
  refine ⟨_, (pss_cons (ps_set (i := 2) scSome.nd rfl (Or.inl rfl) (pe_call GT hr1 rfl mT kT bT .nil pass0 (pa_cons (pv 0) (pa_cons pe_int pa_nil))))
    (C8.pss_cut (ps_if (PW.pt (pw_and (pt_cmpR op_lt (pv 2) pe_int (nomark _)) (pw_and1 (pt_cmpR op_gt (pv 1) pe_int (nomark _)))))
    (pss_one (ps_ret (pe_callTy call_tuple_of (by rfl) T.z_tuple (by decide +kernel) (pa_cons (pe_lc (own := [("_law_turn", 4)]) (g := gName 4) (tt := tYes) rfl scSome.nd (pi_range1 rfl T.z_range (pa_cons (pe_call GT hr1 rfl mT kT bT .nil pass0 (pa_cons (pv 0) (pa_cons pe_int pa_nil))) pa_nil)) (blkOk_by (N := NSome) (sc := defScope sSome) (by decide +kernel)) (fun _ _ _ _ _ => pg_name (i := 4) scSome.nd rfl (Or.inl rfl)) (fun _ _ _ _ _ => pts_nil) (fun _ _ _ _ _ => (pe_call GS hr rfl mS kS bS .nil pass0 (pa_cons (pv 0) (pa_cons (pe_op op_sub (pv 1) pe_int) pa_nil))))) pa_nil))))
    pss_nil)
    (pss_cons (ps_set (i := 3) scSome.nd rfl (Or.inl rfl) (pe_lst (pa_cons pe_str (pa_cons pe_str (pa_cons pe_str (pa_cons pe_int (pa_cons (pe_un un_neg pe_int) (pa_cons pe_int (pa_cons (pe_op op_pow pe_int pe_int) (pa_cons pe_bl (pa_cons pe_bl (pa_cons pe_non (pa_cons (pe_tup pa_nil) pa_nil)))))))))))))
    (pss_one (ps_ret (pe_ix ix_list (pv 3) (pe_call GT hr1 rfl mT kT bT .nil pass0 (pa_cons (pv 0) (pa_cons pe_int pa_nil))) (fun _ _ => rfl))))))), ?_⟩
  refine ⟨_, rfl, b, 10, rfl, hB, by decide, by decide, fun r H1 r0 r1 hB1 x1 => ?_⟩
  -- a scalar of the menu, or the empty tuple
  have scalar : ∀ (H2 : Hp), Box H2 b → SameX b H H2 → ∀ (H3 : Hp) (p l : Addr), H2 p = none → H3 = upd (upd H2 p (.tup [])) l (.lst (menu p)) → (upd H2 p (.tup [])) l = none →
      ∀ (r2 : Int) (H4 : Hp), 0 ≤ r2 → r2 < 11 → Box H4 b → SameX b H3 H4 → ∃ v, atI (menu p) r2 = some v ∧ SqL K H4 l (menu p) ∧ Q v H4 := by
    intro H2 hB2 x2 H3 p l hp e3 hl r2 H4 h0 h1 hB4 x4
    have hbl : b ≠ l := by
      obtain ⟨_, _, _, e⟩ := hB2
      exact ne_of_none (same_new hp _ _ _ e) hl
    obtain ⟨v, hv, hat⟩ := at_ix (xs := menu p) h0 (by show r2 < 11; exact h1)
    have l4 : H4 l = some (.lst (menu p)) := x4 l _ hbl.symm (by rw [e3]; exact upd_same)
    have p4 : H4 p = some (.tup []) := by
      refine x4 p _ (fun z => ?_) (by rw [e3, upd_ne (ne_of_none upd_same hl)]; exact upd_same)
      obtain ⟨_, _, _, e⟩ := hB2
      rw [← z, hp] at e
      cases e
    refine ⟨v, hat, SqL.of l4, q v H4 ⟨1, ?_, ?_⟩ hB4 ?_⟩
    · cases k with
      | zero => exact Nat.le_refl _
      | succ k => exact Nat.le_add_right _ _
    · have hm := List.mem_of_getElem? hv
      simp only [menu, List.mem_cons, List.not_mem_nil, or_false] at hm
      rcases hm with e | e | e | e | e | e | e | e | e | e | e
      all_goals subst e
      · exact .scal _ rfl
      · exact .scal _ rfl
      · exact .scal _ rfl
      · exact .scal _ rfl
      · exact .scal _ rfl
      · exact .scal _ rfl
      · exact .scal _ rfl
      · exact .scal _ rfl
      · exact .scal _ rfl
      · exact .scal _ rfl
      · exact .tup p4 .nil
    · refine x2.trans (SameX.trans (SameX.of ?_) x4)
      rw [e3]
      exact (same_new hp _).trans (same_new hl _)
  -- what follows the if, on the way that does not return
  have tail : ∀ (p : Addr) (hp : H1 p = none) (l : Addr) (hl : (upd H1 p (.tup [])) l = none) (r2 : Int) (H4 : Hp), 0 ≤ r2 → r2 < 11 → Box H4 b → SameX b (upd (upd H1 p (.tup [])) l (.lst (menu p))) H4 → ∃ v, atI (menu p) r2 = some v ∧ SqL K H4 l (menu p) ∧ Q v H4 :=
    fun p hp l hl => scalar H1 hB1 x1 _ p l hp rfl hl
  have hB1l : ∀ (p l : Addr), H1 p = none → (upd H1 p (.tup [])) l = none → Box (upd (upd H1 p (.tup [])) l (.lst (menu p))) b := fun p l hp hl => by
    obtain ⟨x, y, z, e⟩ := hB1
    exact ⟨x, y, z, same_new hl _ _ _ (same_new hp _ _ _ e)⟩
  refine ⟨fun σ' H' => σ' = [some (.ref b), some (.int k), some (.int r), none, none] ∧ H' = H1, ?_, ?_⟩
  rotate_left
  · rintro σ' H' ⟨rfl, rfl⟩
    refine ⟨_, rfl, _, _, rfl, rfl, ⟨by decide, by decide, by decide⟩, (by show 0 ≤ sizeLine; decide), fun p hp => ⟨(by show 11 ≤ sizeLine; decide), fun l hl => ?_⟩⟩
    refine ⟨_, rfl, _, rfl, b, 11, rfl, hB1l p l hp hl, by decide, by decide, fun r2 H4 h0 h1 hB4 x4 => ?_⟩
    obtain ⟨v, hat, sq, qq⟩ := tail p hp l hl r2 H4 h0 h1 hB4 x4
    exact ⟨l, menu p, r2, v, rfl, rfl, sq, hat, qq⟩
  refine ⟨_, rfl, _, _, rfl, rfl, _, rfl, ?_⟩
  refine ite2 (fun c1 => ?_) (fun c1 => iteF ?_)
  · refine ⟨_, rfl, _, _, rfl, rfl, _, rfl, ?_⟩
    refine ite2 (fun c2 => ?_) (fun c2 => ?_)
    · -- a tuple of values one less deep
      obtain ⟨k', rfl⟩ : ∃ k', k = k' + 1 := by
        have c2' : (0 : Int) < (k : Int) := of_decide_eq_true c2
        exact ⟨k - 1, by omega⟩
      refine ⟨_, rfl, b, 4, rfl, hB1, by decide, by decide, fun m H2 m0 m1 hB2 x2 => ⟨m, rfl, by omega, by omega, fun D hD => ?_⟩⟩
      have hbD : b ≠ D := by
        obtain ⟨_, _, _, e⟩ := hB2
        exact ne_of_none e hD
      have xD : SameX b H (upd H2 D (.lst [])) := (x1.trans x2).trans (SameX.of (same_new hD _))
      refine lc_range (lo := 0) (n := m.toNat) (fun i H3 => ∃ xs, H3 D = some (.lst xs) ∧ xs.length = i ∧ (∀ x, x ∈ xs → Dv H3 x (bnd k')) ∧ Box H3 b ∧ SameX b H H3) ?_ ?_ ?_
      · obtain ⟨x, y, z, e⟩ := hB2
        exact ⟨[], upd_same, rfl, (fun v (hv : v ∈ ([] : List V)) => nomatch hv), ⟨x, y, z, by rw [upd_ne hbD]; exact e⟩, xD⟩
      · rintro i H3 hi ⟨xs, hx, hl, hd, hB3, x3⟩
        refine ⟨rfl, ?_⟩
        refine ⟨_, rfl, _, rfl, _, _, rfl, rfl, b, k', ?_, by omega, hB3, fun v H4 dv hB4 x4 => ⟨xs, x4 D _ hbD.symm hx, ?_, ?_⟩⟩
        · show [V.ref b, V.int (((k' + 1 : Nat) : Int) - 1)] = [V.ref b, V.int (k' : Int)]
          rw [show (((k' + 1 : Nat) : Int) - 1) = (k' : Int) from by omega]
        · rw [hl]
          exact small1000 (by omega)
        · have hD4 := x4 D _ hbD.symm hx
          have t4 : TKeep H3 H4 := x4.keep hB3
          have t5 : TKeep H4 (upd H4 D (.lst (xs ++ [v]))) := fun a ys e => by
            rw [upd_ne (ne_of e hD4 (by intro z; cases z))]
            exact e
          refine ⟨xs ++ [v], upd_same, by rw [List.length_append, hl]; rfl, fun x hx' => ?_, ?_, fun a o na ea => ?_⟩
          · rcases List.mem_append.mp hx' with h1 | h1
            · exact ((hd x h1).mono t4).mono t5
            · obtain rfl := List.mem_singleton.mp h1
              exact dv.mono t5
          · obtain ⟨x, y, z, e⟩ := hB4
            exact ⟨x, y, z, by rw [upd_ne hbD]; exact e⟩
          · have nD : a ≠ D := fun z => by
              have h2 := x2 a o na (x1 a o na ea)
              rw [z, hD] at h2
              cases h2
            rw [upd_ne nD]
            exact x4 a o na (x3 a o na ea)
      · rintro H3 ⟨xs, hx, hl, hd, hB3, x3⟩
        refine ⟨D, xs, rfl, .inl ⟨SqL.of hx, fun l hl' => ?_⟩⟩
        obtain ⟨N, hN, dN⟩ := dts_of hd
        have tk : TKeep H3 (upd H3 l (.tup xs)) := fun a ys e => same_new hl' _ _ _ e
        refine q (.ref l) _ ⟨N + 1, ?_, .tup upd_same (dN.mono tk)⟩ ?_ (x3.trans (SameX.of (same_new hl' _)))
        · have h3 : xs.length ≤ 3 := by omega
          have h4 := Nat.mul_le_mul_right (bnd k') h3
          show N + 1 ≤ 1 + 3 * bnd k'
          omega
        · obtain ⟨x, y, z, e⟩ := hB3
          exact ⟨x, y, z, same_new hl' _ _ _ e⟩
    · exact ⟨rfl, rfl⟩
  · exact ⟨rfl, rfl⟩
theorem some0 {n : Nat} : FnOk P w K mg base CX0 n f fd ["_law_box_here", "_law_deep"] (spSome 0) := by
  have no : ∀ vs H Q E, ¬ spSome 0 vs H Q E := fun vs H Q E h => by
    obtain ⟨b, k, _, hk, _⟩ := h
    omega
  exact ⟨fun vs H Q E h => absurd h (no vs H Q E), fun A outer s H args us vs Q E _ _ _ _ h => absurd h (no vs H Q E)⟩
theorem some_all (F : Fun K "_law_some_value" "_law_some_value" sSome f fd) (T : Zs mg) (GT : FnOk P w K mg base CX0 1 fT fdT ["_law_box_here", "_law_many"] spTake) (mT : mg "_law_take" = some (.ref fT)) (kT : PySem.W.keepIn K (.ref fT) = true) (bT : Binds K fdT ["_law_box_here", "_law_many"] [])
    (mS : mg "_law_some_value" = some (.ref f)) (bS : Binds K fd ["_law_box_here", "_law_deep"] []) : ∀ n : Nat, FnOk P w K mg base CX0 (n + 1) f fd ["_law_box_here", "_law_deep"] (spSome n)
  | 0 => some0
  | n + 1 => ok_some F T GT mT kT bT (some_all F T GT mT kT bT mS bS n) mS bS
end
end Mine

set_option Elab.async false
set_option linter.all false
set_option maxRecDepth 100000
set_option maxHeartbeats 4000000
/-! own exceptions as values: made by position and by keyword, over any base, their attributes, isinstance -/
namespace Mine
open PySem PySem.W PySem.Calls PySem.HandSPX
open Builtin Builtin.ObjectAttr
/-- what is asked of the classes behind an own exception class: B is where its __new__ stands -/
structure Tail (bm : List Value) (B : String) : Prop where
  hB : bm.contains (.type B) = true
  hA : bm.contains (.type "AttributeError") = false
  hN : bm.contains (.type "NameError") = false
section
variable {M : Model} {prog : Program} {w : World} {A : Around} {E : Value → Shared → Prop} {R : Result → Shared → Prop} {h : Heap} {g : Array GenState} {d : Drawn} {t : Nat} {os : OsState}
variable {nm q : Str} {C N : Addr} {bs bm bmB : List Value} {hd : Bool} {sn : List Str} {sub : List Value} {ab : Bool} {col : Option Bool} {dd : Option Addr} {k0 k1 k2 k3 k5 : Option Value} {B newId initId : String}
theorem new_checked (F : ExcBaseFacts B newId initId bmB) (T : Tail bm B) {rest : List Value} {kw : List (Str × Value)} {Q : Unit → Shared → Prop} (hC : h.get? C = some (excClassObj nm q C N bs bm hd sn sub ab col dd k0 k1 k2 k3 k5 newId)) (hq : Q () ⟨h, g, d, t, os⟩) :
    wpAny M A (checkBuiltinCall newId ⟨.ref C :: rest, kw⟩) Q E ⟨h, g, d, t, os⟩ := by
  have c0 : (Value.ref C :: bm).contains (.type B) = true := by rw [List.contains_cons, T.hB, Bool.or_true]
  have st := F.noStar
  simp only [checkBuiltinCall, F.newKind, F.newSplit, F.newRow]
  repeat (first | refine wpAny_loadPart_at hC ?_ | (refine wpAny_isSubtype_exc hC ?_; rw [c0]) | refine wpAny_staticBase_exc hC ?_ | refine wpAny_madeBy_exc hC ?_ | simp only [bne_self_eq_false, Bool.false_eq_true, if_false] | wp_step)
  exact hq
theorem new_made (F : ExcBaseFacts B newId initId bmB) (T : Tail bm B) {rest : List Value} {kw : List (Str × Value)} (hC : h.get? C = some (excClassObj nm q C N bs bm hd sn sub ab col dd k0 k1 k2 k3 k5 newId)) (hl : rest.length ≤ sizeLine)
    (hq : R (.ok (.ret (.ref (h.objs.size + 1)))) ⟨(h.push (W.kdv_tup rest)).push (excO C h.objs.size), g, d, t, os⟩) : codeAny (model prog w) A (.builtin newId ⟨.ref C :: rest, kw⟩) R ⟨h, g, d, t, os⟩ := by
  have en := F.ends
  have c0 : (Value.ref C :: bm).contains (.type B) = true := by rw [List.contains_cons, T.hB, Bool.or_true]
  have c1 : (Value.ref C :: bm).contains (.type "AttributeError") = false := by rw [List.contains_cons, T.hA]; rfl
  have c2 : (Value.ref C :: bm).contains (.type "NameError") = false := by rw [List.contains_cons, T.hN]; rfl
  refine codeAny_builtinAt F.entry ?_
  unfold Builtin.«BaseException.__new__»
  refine wpAt_bind (show PySem.wpAt _ _ _ (stack >>= _) _ _ _ from wpAt_bind (wpAt_stack fun p below => wpAt_of_wpAny ?_))
  wp_walk
  refine wpAt_of_wpAny ?_
  rw [F.owner]
  repeat (first | with_reducible refine wpAny_madeHere_exc F.canon hC ?_ | with_reducible refine wpAny_loadPart_at hC ?_ | (with_reducible refine wpAny_isSubtype_exc hC ?_; first | rw [c0] | rw [c1] | rw [c2]) | wp_step)
  show R _ _
  rw [Heap.size_push]
  exact hq
theorem type_made (F : ExcBaseFacts B newId initId bmB) (T : Tail bm B) {rest : List Value} {kw : List (Str × Value)} {fI : Addr} {Q : Fin → Shared → Prop} (hC : h.get? C = some (excClassObj nm q C N bs bm hd sn sub ab col dd k0 k1 k2 k3 k5 newId))
    (hi : W.Looks (model prog w) h (typeLookup (.ref C) "__init__") (some (.ref fI))) (hb : ∀ self, W.Looks (model prog w) h (bindSpecial (.ref fI) self) (.ref fI, [self])) (hl : rest.length ≤ sizeLine)
    (hq : codeAny (model prog w) A (.call (.ref fI) ⟨.ref (h.objs.size + 1) :: rest, kw⟩)
      (fun r s' => match r with | .ok (.ret v) => v = .none ∧ Q (.done (.ret (.ref (h.objs.size + 1)))) s' | .ok _ => False | .error e => E e s') ⟨(h.push (W.kdv_tup rest)).push (excO C h.objs.size), g, d, t, os⟩) :
    wpAny (model prog w) A (Builtin.«type.__call__» ⟨.ref C :: rest, kw⟩) Q E ⟨h, g, d, t, os⟩ := by
  repeat (first | with_reducible refine wpAny_loadPart_at hC ?_ | with_reducible refine wpAny_madeBy_exc hC ?_ | wp_step)
  refine codeAny_call_builtin_code (Code.quiet_builtin _ F.quiet) (new_checked F T hC (new_made F T hC hl ?_))
  show wpAny _ _ _ _ _ _
  have k : ∀ b o, h.get? b = some o → ((h.push (W.kdv_tup rest)).push (excO C h.objs.size)).get? b = some o := fun b o e => Heap.get?_push_of_some _ (Heap.get?_push_of_some _ e)
  have hC' := k _ _ hC
  have hx : ((h.push (W.kdv_tup rest)).push (excO C h.objs.size)).get? (h.objs.size + 1) = some (excO C h.objs.size) := by heap_get
  have cC : (Value.ref C :: bm).contains (.ref C) = true := by simp
  have i1 := hi.keeps k
  have b1 := (hb (.ref (h.objs.size + 1))).keeps k
  unfold isInstance
  repeat (first | with_reducible refine wpAny_loadPart_at hx ?_ | (with_reducible refine wpAny_isSubtype_exc hC' ?_; rw [cC]) | wp_step)
  show wpAny _ _ (typeLookup (.ref C) _) _ _ _
  refine i1.at (wpAny_holding (wpAny_bind (b1.at (wpAny_bind (wpAny_call (codeAny_mono hq fun r s' z => ?_))))))
  rcases r with e | (v | _ | _ | _) <;> first | exact z | exact z.elim | skip
  obtain ⟨rfl, z⟩ := z
  first
    | exact wpAny_pure (wpAny_pure z)
    | (wp_walk; exact z)
theorem tcheck {rest : List Value} {kw : List (Str × Value)} {Q : Unit → Shared → Prop} (hC : h.get? C = some (excClassObj nm q C N bs bm hd sn sub ab col dd k0 k1 k2 k3 k5 newId)) (hq : Q () ⟨h, g, d, t, os⟩) : wpAny M A (checkBuiltinCall "type.__call__" ⟨.ref C :: rest, kw⟩) Q E ⟨h, g, d, t, os⟩ := by
  have f3 := tc_sub
  have hT : (⟨h, g, d, t, os⟩ : Shared).TypeIs (.ref C) "type" := ⟨_, hC, rfl⟩
  simp only [checkBuiltinCall, tc_kind, tc_split]
  repeat (any_goals (first | assumption | with_reducible refine wpAny_loadPart_at hC ?_ | with_reducible refine wpAny_onRaise ?_ | with_reducible refine wpAny_map ?_ | wp_step))
theorem exc_made (F : ExcBaseFacts B newId initId bmB) (T : Tail bm B) {rest : List Value} {kw : List (Str × Value)} {fI : Addr} (hC : h.get? C = some (excClassObj nm q C N bs bm hd sn sub ab col dd k0 k1 k2 k3 k5 newId))
    (hi : W.Looks (model prog w) h (typeLookup (.ref C) "__init__") (some (.ref fI))) (hb : ∀ self, W.Looks (model prog w) h (bindSpecial (.ref fI) self) (.ref fI, [self])) (hl : rest.length ≤ sizeLine)
    (hq : codeAny (model prog w) (A.under (.builtin "type.__call__" ⟨.ref C :: rest, kw⟩)) (.call (.ref fI) ⟨.ref (h.objs.size + 1) :: rest, kw⟩) (W.InitBack (h.objs.size + 1) R) ⟨(h.push (W.kdv_tup rest)).push (excO C h.objs.size), g, d, t, os⟩) :
    codeAny (model prog w) A (.call (.ref C) ⟨rest, kw⟩) R ⟨h, g, d, t, os⟩ := by
  have f1 := tc_lookup
  have f2 := tc_bind (.ref C)
  have hTy : (⟨h, g, d, t, os⟩ : Shared).TypeIs (.ref C) "type" := ⟨_, hC, rfl⟩
  refine codeAny_of_tree (show wpAny _ _ (callAny (.ref C) _) _ _ _ from ?_)
  repeat (any_goals (first | assumption | with_reducible refine wpAny_loadPart_at hC ?_ | wp_step))
  refine ⟨rfl, codeAny_call_builtin_at (Code.quiet_builtin _ (by decide +kernel)) entry_typeCall (tcheck hC (type_made F T hC hi hb hl (codeAny_mono hq fun r s' z => ?_)))⟩
  rcases r with e | (v | _ | _ | _) <;> exact z
end
end Mine

set_option Elab.async false
set_option linter.all false
set_option maxRecDepth 100000
set_option maxHeartbeats 4000000
/-! own exceptions as values: their attributes stored and read, isinstance -/
namespace Mine
open PySem PySem.W PySem.Calls PySem.HandSPX
open Builtin Builtin.ObjectAttr
section
variable {prog : Program} {w : World} {A : Around} {E : Value → Shared → Prop} {R : Result → Shared → Prop} {hp : Heap} {g : Array GenState} {d : Drawn} {t : Nat} {os : OsState} {K : W.Frag} {name : Str} {tk : Tok} {v : Value} {x C dx : Addr} {fv : Array Value} {cd : ClassData} {m0 : Str → Option Value} {nl : List Str}
/-- the class's own word on a store: nothing refuses it, its objects have dicts -/
structure StOk (K : W.Frag) (C : Addr) (cd : ClassData) : Prop where
  cls : W.clsIn K C = some cd
  obj : cd.mro.contains (.type "object") = true
  ne : cd.mro.isEmpty = false
  pass : ∀ self, refuseLoop self "__setattr__" cd.mro = pure ()
  dict : cd.hasDict = true
theorem sa_begin {od : Option Obj} {ox : Obj} (X : K.In hp) (I : W.InstAt hp x ox C od) (S : StOk K C cd) (ha : W.findIn K (.ref C) name = some none)
    (q : wpAny (model prog w) (A.under (.builtin "object.__setattr__" ⟨[.ref x, .str name tk, v], []⟩)) (storeInOwnDict (.ref x) (.ref C) (.str name tk) name v false) (fun fin s' => match fin with | .done f => R (.ok f) s' | .again c' => c'.quiet = true ∧ codeAny (model prog w) A c' R s') (fun e s' => R (.error e) s') ⟨hp, g, d, t, os⟩) :
    codeAny (model prog w) A (.call (.builtin "object.__setattr__") ⟨[.ref x, .str name tk, v], []⟩) R ⟨hp, g, d, t, os⟩ := by
  have SF := F.store_object
  have sub : W.Looks (model prog w) hp (isInstance (.ref x) (.type "object")) true := I.type.andThen (W.looks_mroIn X (by unfold W.mroIn; rw [S.cls, Option.bind_some, if_neg (by rw [S.ne]; decide), S.obj]))
  refine codeAny_call_builtin SF.slot.plain SF.entry (@W.check_slot (model prog w) _ _ ⟨hp, g, d, t, os⟩ "object.__setattr__" "object" "__setattr__" (.ref x) [.str name tk, v] [] _ SF.kind SF.split sub (SF.args (.ref x) (.str name tk) v) ?_)
  have hmr : W.Looks (model prog w) hp (mroOf (.ref C)) cd.mro := (W.looks_clsIn X S.cls).andThen .now
  have L3 : W.Looks (model prog w) hp (storeTaker? none) none := .now
  rw [W.osa_eq, refuse_eq]
  refine wpAny_bind (wpAny_bind (I.type.at (wpAny_bind (hmr.at ?_))))
  rw [S.pass]
  refine wpAny_pure (wpAny_bind (I.type.at (wpAny_bind ((W.looks_findIn X ha).at (wpAny_bind (L3.at ?_))))))
  exact q

theorem sa_new (X : K.In hp) (hx : hp.get? x = some { cls := .ref C, data := .fields fv }) (S : StOk K C cd) (ha : W.findIn K (.ref C) name = some none)
    (hq : ∀ h' tk' dx, (∀ b o, b ≠ x → hp.get? b = some o → h'.get? b = some o) → hp.objs.size ≤ dx → dx ≠ x → h'.get? x = some { cls := .ref C, dict := some dx, data := .fields fv } → h'.Ns1 dx (fun y => if y = name then some v else none) → R (.ok (.ret .none)) ⟨h', g, d, tk', os⟩) :
    codeAny (model prog w) A (.call (.builtin "object.__setattr__") ⟨[.ref x, .str name tk, v], []⟩) R ⟨hp, g, d, t, os⟩ := by
  have I : W.InstAt hp x { cls := .ref C, data := .fields fv } C none := ⟨hx, rfl, rfl, trivial⟩
  have xs : x ≠ hp.objs.size := Nat.ne_of_lt (Heap.lt_size hx)
  have hcls : W.Looks (model prog w) hp (classData C) cd := W.looks_clsIn X S.cls
  have hh := S.dict
  refine sa_begin X I S ha ?_
  clear S
  obtain ⟨nm, bs, mro, ns, qn, hd, sn, sb, ab, col, del⟩ := cd
  dsimp only at hh
  subst hh
  unfold storeInOwnDict ownDictForStores
  repeat (first | with_reducible refine store_in_new ?_ ?_ | with_reducible refine wpAny_loadPart_at hx ?_ | with_reducible refine hcls.at ?_ | wp_step)
  · exact ⟨_, #[], _, (Heap.get?_update_ne _ _ _ _ xs.symm).trans (Heap.get?_push_at rfl rfl), rfl, fun e he => absurd he (by simp), fun _ => rfl⟩
  · intro h' tk' hn' hs
    refine hq h' tk' hp.objs.size (fun b o hb ho => ?_) (Nat.le_refl _) xs.symm ?_ hn'
    · exact (hs.2 b (Nat.ne_of_lt (Heap.lt_size ho))).trans ((Heap.get?_update_ne _ _ _ _ hb).trans (Heap.get?_push_of_some _ ho))
    · exact (hs.2 x xs).trans (Heap.get?_update_self _ (Heap.get?_push_of_some _ hx) rfl)
theorem sa_old (X : K.In hp) (hx : hp.get? x = some { cls := .ref C, dict := some dx, data := .fields fv }) (hns : hp.Ns1 dx m0) (hw : Within m0 nl) (hz : nl.length ≤ 1000) (S : StOk K C cd) (ha : W.findIn K (.ref C) name = some none)
    (hq : ∀ h' tk', (∀ b o, b ≠ dx → hp.get? b = some o → h'.get? b = some o) → h'.Ns1 dx (fun y => if y = name then some v else m0 y) → R (.ok (.ret .none)) ⟨h', g, d, tk', os⟩) :
    codeAny (model prog w) A (.call (.builtin "object.__setattr__") ⟨[.ref x, .str name tk, v], []⟩) R ⟨hp, g, d, t, os⟩ := by
  obtain ⟨oD, _, _, hoD, _, _⟩ := hns.count hw
  have I : W.InstAt hp x { cls := .ref C, dict := some dx, data := .fields fv } C (some oD) := ⟨hx, rfl, rfl, hoD⟩
  have hcls : W.Looks (model prog w) hp (classData C) cd := W.looks_clsIn X S.cls
  have hh := S.dict
  refine sa_begin X I S ha ?_
  clear S
  obtain ⟨nm, bs, mro, ns, qn, hd, sn, sb, ab, col, del⟩ := cd
  dsimp only at hh
  subst hh
  unfold storeInOwnDict ownDictForStores
  repeat (first | with_reducible refine PySem.OEX.store_in_old hns hw hz ?_ | with_reducible refine wpAny_loadPart_at hx ?_ | with_reducible refine hcls.at ?_ | wp_step)
  intro h' tk' hn' hs
  exact hq h' tk' (fun b o hb ho => (hs.2 b hb).trans ho) hn'
end
/-- what the written part says of an own exception class -/
structure XC (K : Frag) (C : Addr) : Prop where
  cls : ∃ nm q N bs bm sn sub ab col dd k0 k1 k2 k3 k5 B newId initId bmB, K.lookup C = some (excClassObj nm q C N bs bm true sn sub ab col dd k0 k1 k2 k3 k5 newId) ∧ ExcBaseFacts B newId initId bmB ∧ Tail bm B ∧ (Value.ref C :: bm).contains (.type "object") = true ∧ ∀ self, refuseLoop self "__setattr__" (.ref C :: bm) = pure ()
  sa : findIn K (.ref C) "__setattr__" = some (some (.builtin "object.__setattr__"))
  ga : findIn K (.ref C) "__getattribute__" = some (some (.builtin "BaseException.__getattribute__"))
  gg : findIn K (.ref C) "__getattr__" = some none
  exC : subIn K (.ref C) (.type "BaseException") = some true
  tyC : typeIn K (.ref C) = some (.type "type")
  hdC : hasDictIn K C = true
  kC : keepIn K (.ref C) = true
  ha : findIn K (.ref C) "__class__" = some (some (.builtin "object.__class__"))
  hn : specialIn K (.builtin "object.__class__") "__get__" = some (some (.builtin "getset_descriptor.__get__"))
  ht : takesIn K (.builtin "object.__class__") = some true
  hm : mroIn K C (.type "object") = some true
theorem XC.st {K : Frag} {C : Addr} (T : XC K C) : ∃ cd, StOk K C cd := by
  obtain ⟨nm, q, N, bs, bm, sn, sub, ab, col, dd, k0, k1, k2, k3, k5, B, newId, initId, bmB, hC, F, _, ho, hp⟩ := T.cls
  exact ⟨{ name := nm, bases := bs, mro := .ref C :: bm, ns := N, qualname := q, hasDict := true, slotNames := sn, subclasses := sub, abstract := ab, collection := col, hasDel := false }, by unfold clsIn; rw [hC], ho, rfl, hp, rfl⟩
end Mine

set_option Elab.async false
set_option linter.all false
set_option maxRecDepth 100000
set_option maxHeartbeats 4000000
namespace Mine
open PySem PySem.Spec PyProof.Rows L2
section
variable {X : Cx} {pins : List (Addr × Obj)} {σ : L2.St} {H H' : Hp} {s : Shared} {h' : Heap} {a C dx : Addr} {f : Str} {y : V} {u : Value} {fs : List (Str × V)} {E : Value → Shared → Prop} {A : Around}
/-- the object at a is changed, new ones come beside -/
theorem Inv.swap {φ ψ : Heap → Prop} {t' : Nat} (I : Inv X pins σ H s) (ea : H a = some (.ext φ)) (k : ∀ b o, b ≠ a → s.heap.get? b = some o → h'.get? b = some o) (ha : ∃ o, h'.get? a = some o) (e : ∀ b, b ≠ a → (∃ o, s.heap.get? b = some o) → H' b = H b)
    (na : H' a = some (.ext ψ)) (new : ∀ b o, H' b = some o → (b = a ∨ H b = none) → ObjOk X.prog X.w H' h' b o) : Inv X pins σ H' { s with heap := h', toks := t' } := by
  have nn : ∀ {b : Addr}, H b = none → b ≠ a := fun n z => by
    rw [z, ea] at n
    cases n
  have no : ∀ {b : Addr} {o : HO}, H b = some o → (∀ φ, o ≠ .ext φ) → b ≠ a := fun q n z => by
    rw [z, ea] at q
    exact n _ (Option.some.inj q).symm
  have st : ∀ {b : Addr} {o : HO}, b ≠ a → H b = some o → H' b = some o := fun n q => (e _ n (HOk.at I.hok q)).trans q
  refine I.un ⟨fun b o q n _ _ => k b o (nn n) q, fun b o q n _ _ => ⟨o.slots, k b o (nn n) q⟩, fun b o q n _ => (e b (nn n) ⟨o, q⟩).trans n, fun b o q _ => ?_, fun b xs q => st (no q fun _ z => nomatch z) q, fun b o v q => st (no q fun _ z => nomatch z) q,
    fun b ps q => ⟨#[], by rw [st (no q fun _ z => nomatch z) q, Array.append_empty]⟩⟩ fun b o q => ?_
  · by_cases hb : b = a
    · rw [hb]
      exact ha
    · exact ⟨o, k b o hb q⟩
  · by_cases hb : b = a
    · exact new b o q (.inl hb)
    · cases hq : H b with
      | none => exact new b o q (.inr hq)
      | some v =>
        have z := st hb hq
        rw [q] at z
        cases z
        refine (I.hok b o hq).stay (fun c v hc r => k c v ?_ r) (fun c r => st (no r fun _ z => nomatch z) r) fun c xs r => st (no r fun _ z => nomatch z) r
        rcases hc with hc | hc
        · rw [hc]
          exact hb
        · exact no hc fun _ z => nomatch z
/-- self.f = y on an exception without a dict -/
theorem st_new {Q : Unit → Shared → Prop} (T : XC X.K C) (I : Inv X pins σ H s) (ea : H a = some (exo a C none)) (hno : PySem.W.findIn X.K (.ref C) f = some none) (ry : RelV y u)
    (q : ∀ dx s', H dx = none → dx ≠ a → Inv X pins σ (upd (upd H dx (exd dx [(f, y)])) a (exo a C (some dx))) s' → Q () s') : wpAny (model X.prog X.w) A (setAttr (.ref a) f u) Q E s := by
  obtain ⟨cd, S⟩ := T.st
  obtain ⟨t1, ho⟩ := exo_at I.hok ea
  obtain ⟨hp, g, d, t, os⟩ := s
  refine PySem.W.set_plain I.kIn (ox := { cls := .ref C, dict := none, data := .fields #[.ref t1, .none, .none, .none, .bool false, .none] }) (od := none) ⟨ho, rfl, rfl, trivial⟩ T.sa ?_
  refine sa_new I.kIn ho S hno fun h' tk' dx k dn dne hx hn => ?_
  have hnd : H dx = none := I.hok.fresh dn
  have J := Inv.swap (t' := tk') (H' := upd (upd H dx (exd dx [(f, y)])) a (exo a C (some dx))) (h' := h') I ea k ⟨_, hx⟩ (fun b hb ⟨o, e⟩ => ?_) upd_same fun b o e hb => ?_
  · exact q dx _ hnd dne J
  · rw [upd_ne hb, upd_ne (Nat.ne_of_lt (Nat.lt_of_lt_of_le (Heap.lt_size e) dn))]
  · by_cases hba : b = a
    · subst hba
      rw [upd_same] at e
      cases e
      exact exo_ok hx
    · rw [upd_ne hba] at e
      by_cases hbd : b = dx
      · subst hbd
        rw [upd_same] at e
        cases e
        exact exd_ok hn (relO_put (fs := []) ry fun g => True.intro)
      · rw [upd_ne hbd] at e
        rcases hb with hb | hb
        · exact absurd hb hba
        · rw [hb] at e
          cases e
/-- self.f = y, a further one -/
theorem st_old {Q : Unit → Shared → Prop} (T : XC X.K C) (I : Inv X pins σ H s) (ea : H a = some (exo a C (some dx))) (ed : H dx = some (exd dx fs)) (hl : fs.length ≤ 900) (hno : PySem.W.findIn X.K (.ref C) f = some none) (ry : RelV y u)
    (q : ∀ s', Inv X pins σ (upd H dx (exd dx ((f, y) :: fs))) s' → Q () s') : wpAny (model X.prog X.w) A (setAttr (.ref a) f u) Q E s := by
  obtain ⟨cd, S⟩ := T.st
  obtain ⟨t1, ho⟩ := exo_at I.hok ea
  obtain ⟨mA, hns, rel⟩ := exd_at I.hok ed
  have hw := within_of rel
  obtain ⟨hp, g, d, t, os⟩ := s
  obtain ⟨oD, _, _, hoD, _, _⟩ := hns.count hw
  refine PySem.W.set_plain I.kIn (ox := { cls := .ref C, dict := some dx, data := .fields #[.ref t1, .none, .none, .none, .bool false, .none] }) (od := some oD) ⟨ho, rfl, rfl, hoD⟩ T.sa ?_
  refine sa_old I.kIn ho hns hw (by rw [List.length_map]; omega) S hno fun h' tk' k hn => ?_
  have hd : ∃ o, h'.get? dx = some o := by
    obtain ⟨o, _, _, e', _⟩ := hn
    exact ⟨o, e'⟩
  exact q _ (I.write (t' := tk') (x := dx) (e := dx) (o := exd dx ((f, y) :: fs)) (by rw [ed]; exact True.intro) (.inl rfl) k hd (exd_ok hn (relO_put ry rel)))
end
/-- self.f = e -/
def tXst (K : PySem.W.Frag) (f : Str) (to te : TE) : TS := fun D σ H => te σ H fun y H1 => to σ H1 fun x H2 => ∃ a C : Addr, x = .ref a ∧ XC K C ∧ PySem.W.findIn K (.ref C) f = some none ∧
  ((H2 a = some (exo a C none) ∧ ∀ dx, H2 dx = none → dx ≠ a → D.nx σ (upd (upd H2 dx (exd dx [(f, y)])) a (exo a C (some dx)))) ∨
    ∃ (dx : Addr) (fs : List (Str × V)), H2 a = some (exo a C (some dx)) ∧ H2 dx = some (exd dx fs) ∧ fs.length ≤ 900 ∧ D.nx σ (upd H2 dx (exd dx ((f, y) :: fs))))
/-- x.f -/
def tXget (K : PySem.W.Frag) (f : Str) (te : TE) : TE := fun σ H Q => te σ H fun x H1 => ∃ (a C dx : Addr) (fs : List (Str × V)) (v : V), x = .ref a ∧ XC K C ∧ PySem.W.findIn K (.ref C) f = some none ∧ H1 a = some (exo a C (some dx)) ∧ H1 dx = some (exd dx fs) ∧ fs.lookup f = some v ∧ Q v H1
/-- isinstance(x, c), isinstance(x, (c1, c2)), x an exception -/
def rXis (K : PySem.W.Frag) : List V → Hp → VK → Prop := fun xs H Q => ∃ (a C : Addr) (od : Option Addr) (fs : List (Str × V)) (c : V) (u : Value) (b : Bool), xs = [.ref a, c] ∧ ClsV c u ∧ XC K C ∧ H a = some (exo a C od) ∧ (∀ dx, od = some dx → H dx = some (exd dx fs)) ∧ PySem.W.kitOne K (.ref C) u = some b ∧ Q (.bl b) H
def rXisT (K : PySem.W.Frag) : List V → Hp → VK → Prop := fun xs H Q => ∃ (a C : Addr) (od : Option Addr) (fs : List (Str × V)) (tp : Addr) (cs : List V) (us : List Value) (b : Bool), xs = [.ref a, .ref tp] ∧ H tp = some (.tup cs) ∧ Paired ClsV cs us ∧ XC K C ∧ H a = some (exo a C od) ∧ (∀ dx, od = some dx → H dx = some (exd dx fs)) ∧ PySem.W.kitAny K (.ref C) us = some b ∧ Q (.bl b) H
section
variable {X : Cx} {o e : Expr} {to te : TE} {f : Str} {p' pos : Pos}
theorem ps_xst (ho : PE X o to) (he : PE X e te) (hs : swapsWith e (some (.Attribute o f p')) pos.line X.env = pure false := by rfl) : PS X (.Assign [.Attribute o f p'] e pos) (tXst X.K f to te) := by
  refine ⟨fun pins s σ H D I h => ?_⟩
  refine plainObj_wpAny_Assign_Attribute (thn (he.run pins s σ H _ I h) fun v s1 ⟨y, H1, I1, r1, q1⟩ => thn (ho.run pins s1 σ H1 _ I1 q1) fun u s2 ⟨x, H2, I2, r2, a, C, ex, T, hno, q⟩ => ?_) hs
  subst ex
  obtain rfl : u = Value.ref a := r2
  rcases q with ⟨ea, q⟩ | ⟨dx, fs, ea, ed, hl, q⟩
  · exact st_new T I2 ea hno r1 fun dx s' n ne J => ⟨σ, _, J, q dx n ne⟩
  · exact st_old T I2 ea ed hl hno r1 fun s' J => ⟨σ, _, J, q⟩
/-- an exception of ours as an instance -/
theorem inst_of {pins : List (Addr × Obj)} {σ : L2.St} {H : Hp} {s : Shared} (I : Inv X pins σ H s) {a C : Addr} {od : Option Addr} {fs : List (Str × V)} (ea : H a = some (exo a C od)) (ed : ∀ dx, od = some dx → H dx = some (exd dx fs)) :
    ∃ ox oD, PySem.W.InstAt s.heap a ox C oD := by
  obtain ⟨t1, ho⟩ := exo_at I.hok ea
  cases od with
  | none => exact ⟨_, none, ho, rfl, rfl, trivial⟩
  | some dx =>
    obtain ⟨mA, ⟨oD, _, _, hoD, _⟩, _⟩ := exd_at I.hok (ed dx rfl)
    exact ⟨_, some oD, ho, rfl, rfl, hoD⟩
theorem pe_xget (he : PE X e te) (hb : attributeBase e f X.env (eval e X.env) = eval e X.env := by rfl) : PE X (.Attribute e f pos) (tXget X.K f te) := by
  refine ⟨fun pins s σ H Q I h => ?_⟩
  refine attr_of hb (thn (he.run pins s σ H _ I h) fun u s1 hh => ?_)
  obtain ⟨x, H1, I1, rx, a, C, dx, fs, v, ex, T, hno, ea, ed, l, q⟩ := hh
  subst ex
  obtain rfl : u = Value.ref a := rx
  obtain ⟨t1, ho⟩ := exo_at I1.hok ea
  obtain ⟨mA, hns, hr⟩ := exd_at I1.hok ed
  obtain ⟨od, hod, hl⟩ := lookIn_ns hns
  obtain ⟨u, hu, ru⟩ := RelO.some_of (v := v) (o := mA f) (by rw [← l]; exact hr f)
  have J : PySem.W.InstAt s1.heap a _ C (some od) := ⟨ho, rfl, rfl, hod⟩
  exact HandSPX.exc_get I1.kIn J T.ga T.gg T.exC (PySem.W.findObj_own T.hdC hno rfl (by rw [hl, hu])) (handed_of ru) ⟨v, H1, I1.tok _, ru, q⟩
theorem kit_x {K : PySem.W.Frag} {a C : Addr} {ox : Obj} {oD : Option Obj} (T : XC K C) : PySem.W.KitX K (.ref a) (.ref C) (fun h => PySem.W.InstAt h a ox C oD) := by
  have hc : (PySem.W.clsIn K C).isSome = true := by
    obtain ⟨cd, S⟩ := T.st
    rw [S.cls]
    rfl
  exact PySem.W.kitx_exc hc T.ga T.gg T.exC T.ha T.hn T.ht T.hm
theorem call_xis : CallR X (.builtin "isinstance") (rXis X.K) := by
  intro pins s σ H xs us Q I r h
  obtain ⟨a, C, od, fs, c, u, b, rfl, k, T, ea, ed, e, q⟩ := h
  obtain ⟨u1, u2, rfl, r1, r2⟩ := vals2 r
  cases (show u1 = Value.ref a from r1)
  have e2 := k.eq r2
  subst e2
  obtain ⟨ox, oD, J⟩ := inst_of I ea ed
  exact PySem.W.kia_one (kit_x T) I.kIn J e (fun z => nomatch z) fun tk => ⟨.bl b, H, I.tok tk, rfl, q⟩
theorem call_xisT : CallR X (.builtin "isinstance") (rXisT X.K) := by
  intro pins s σ H xs us Q I r h
  obtain ⟨a, C, od, fs, tp, cs, ws, b, rfl, hT, k, T, ea, ed, e, q⟩ := h
  obtain ⟨u1, u2, rfl, r1, r2⟩ := vals2 r
  cases (show u1 = Value.ref a from r1)
  cases (show u2 = Value.ref tp from r2)
  obtain ⟨ox, oD, J⟩ := inst_of I ea ed
  obtain ⟨_, its, rv, oo, h1, h2, n, h3⟩ := (show ObjOk X.prog X.w H s.heap tp (.tup cs) from I.hok tp _ hT)
  have e3 := ClsV.all k rv
  subst e3
  obtain ⟨oc, od', dt, sl⟩ := oo
  simp only at h2 h3
  subst h2 h3
  exact PySem.W.kia_tup (kit_x T) I.kIn J h1 e (fun z => nomatch z) fun tk => ⟨.bl b, H, I.tok tk, rfl, q⟩
end
end Mine

set_option Elab.async false
set_option linter.all false
set_option maxRecDepth 100000
set_option maxHeartbeats 4000000
namespace Mine
open PySem PySem.Spec PyProof.Rows L2
/-- C(e, .., k = v, ..) of an own exception class with its own __init__: a new exception -/
def tMkX (C : Addr) (n m : Nat) (sp : Sp) (gV : List V → List V → List V) (t tk : TA) : TE := fun σ H Q => t σ H fun vs H1 => tk σ H1 fun zs H2 => vs.length = n ∧ zs.length = m ∧
  ∀ a, H2 a = none → sp (gV (.ref a :: vs) zs) (upd H2 a (exo a C none)) (fun v H3 => v = .non ∧ Q (.ref a) H3) E0
section
variable {X : Cx} {k n : Nat} {f C fI : Addr} {fd : FuncData} {ps ks : List Str} {sp : Sp} {x : Str} {p pos : Pos} {e : Expr} {es : List Expr} {kws : List Keyword} {t tk : TA} {g : List Value → List Value → List Value} {gV : List V → List V → List V}
theorem run_mkX {pins : List (Addr × Obj)} {σ : L2.St} {H : Hp} {s : Shared} {Q : VK} {us ws : List Value} {vs zs : List V} (T : XC X.K C) (iC : PySem.W.findIn X.K (.ref C) "__init__" = some (some (.ref fI))) (tI : PySem.W.typeIn X.K (.ref fI) = some (.type "function"))
    (F : FnOk X.prog X.w X.K X.mg X.base CX0 k fI fd ps sp) (hr : Room (k + 1) X.A) (hb : KBn X.K fd ps (n + 1) ks g gV) (I : Inv X pins σ H s) (r : Vals vs us) (rz : Vals zs ws) (l1 : vs.length = n) (l2 : zs.length = ks.length) (l3 : n ≤ 1000)
    (h : ∀ a, H a = none → sp (gV (.ref a :: vs) zs) (upd H a (exo a C none)) (fun v H3 => v = .non ∧ Q (.ref a) H3) E0) :
    wpAny (model X.prog X.w) X.A (call (.ref C) us (ks.zip ws)) (EP X pins σ Q) X.xe s := by
  obtain ⟨nm, q, N, bs, bm, sn, sub, ab, col, dd, k0, k1, k2, k3, k5, B, newId, initId, bmB, hC, FB, TB, _⟩ := T.cls
  obtain ⟨hp, g', dr, tk', os⟩ := s
  have hsz : hp.objs.size ≤ hp.objs.size + 1 := Nat.le_succ _
  have hn : H (hp.objs.size + 1) = none := I.hok.fresh hsz
  have hq := h (hp.objs.size + 1) hn
  have kk : ∀ b o, hp.get? b = some o → ((hp.push (PySem.W.kdv_tup us)).push (PySem.HandSPX.excO C hp.objs.size)).get? b = some o := fun b o e => Heap.get?_push_of_some _ (Heap.get?_push_of_some _ e)
  have hget : ((hp.push (PySem.W.kdv_tup us)).push (PySem.HandSPX.excO C hp.objs.size)).get? (hp.objs.size + 1) = some (PySem.HandSPX.excO C hp.objs.size) := by heap_get
  have I2 : Inv X pins σ (upd H (hp.objs.size + 1) (exo (hp.objs.size + 1) C none)) ⟨(hp.push (PySem.W.kdv_tup us)).push (PySem.HandSPX.excO C hp.objs.size), g', dr, tk', os⟩ :=
    I.laid (t' := tk') (a := hp.objs.size + 1) (o := exo (hp.objs.size + 1) C none) (h' := (hp.push (PySem.W.kdv_tup us)).push (PySem.HandSPX.excO C hp.objs.size)) kk hsz (exo_ok hget)
  have r1 : Vals (V.ref (hp.objs.size + 1) :: vs) (Value.ref (hp.objs.size + 1) :: us) := .cons rfl r
  have r2 := hb.rel r1 rz
  have n1 : (Value.ref (hp.objs.size + 1) :: us).length = n + 1 := by rw [List.length_cons, ← r.length, l1]
  have hus : us.length ≤ sizeLine := by
    rw [← r.length, sizeLine_eq]
    omega
  refine wpAny_call (exc_made FB TB (I.kIn _ _ hC) (PySem.W.looks_findIn I.kIn iC) (fun self => PySem.W.bind_fn I.kIn self tI) hus (codeAny_mono (F.run _ X.stack _ _ ⟨Value.ref (hp.objs.size + 1) :: us, ks.zip ws⟩ (g (Value.ref (hp.objs.size + 1) :: us) ws) _ _ E0 (hr.make C us (ks.zip ws))
    (I2.env0.make C us (ks.zip ws)) (hb.to _ (Value.ref (hp.objs.size + 1) :: us) ws I2.kIn n1 (rz.length.symm.trans l2)) r2 hq) fun r s' hq' => ?_))
  cases r with
  | error e => exact False.elim hq'
  | ok fl =>
    cases fl with
    | ret u =>
      obtain ⟨v, H', I3, rv, ev, q3⟩ := I2.after hq'
      subst ev
      exact ⟨rv, ⟨V.ref (hp.objs.size + 1), _, I3, rfl, q3⟩⟩
    | next => exact False.elim hq'
    | brk => exact False.elim hq'
    | cont => exact False.elim hq'
/-- C(e, ..) -/
theorem pe_mkX (T : XC X.K C) (iC : PySem.W.findIn X.K (.ref C) "__init__" = some (some (.ref fI))) (tI : PySem.W.typeIn X.K (.ref fI) = some (.type "function")) (F : FnOk X.prog X.w X.K X.mg X.base CX0 k fI fd ps sp) (hr : Room (k + 1) X.A) (hg : Gl X x) (hm : X.mg x = some (.ref C)) (hb : KBn X.K fd ps (n + 1) [] g gV) (l3 : n ≤ 1000)
    (ha : PA X (e :: es) t) (hdb : (x == ("__debug__" : Str)) = false := by decide) (he : starEach (e :: es) X.env = (false, eval e X.env) :: starEach es X.env := by rfl) (hpl : (backTo pos (starEach es X.env)).any (·.1) = false := by rfl) :
    PE X (.Call (.Name x p) (e :: es) [] pos) (tMkX C n 0 sp gV t tNil) := by
  refine ⟨fun pins s σ H Q I h => ?_⟩
  refine wpAny_Call_Name_kw (ld_glob I hg hm ?_ hdb)
  refine PySem.W.callWith_K (h₀ := X.base) I.ok.mod.kin T.kC (thn (ha.run pos pins s σ H _ I h) fun us s1 ⟨vs, H1, I1, r1, l1, _, q1⟩ => ⟨I1.kIn, ?_⟩) he hpl
  exact run_mkX (ks := []) (ws := []) (zs := []) T iC tI F hr hb I1 r1 .nil l1 rfl l3 q1
/-- C(k = v, ..) -/
theorem pe_mkXK (T : XC X.K C) (iC : PySem.W.findIn X.K (.ref C) "__init__" = some (some (.ref fI))) (tI : PySem.W.typeIn X.K (.ref fI) = some (.type "function")) (F : FnOk X.prog X.w X.K X.mg X.base CX0 k fI fd ps sp) (hr : Room (k + 1) X.A) (hg : Gl X x) (hm : X.mg x = some (.ref C)) (hb : KBn X.K fd ps 1 ks g gV) (hkw : PK X kws tk)
    (hall : (backToKw pos (keywordEach kws X.env)).all (·.1.isSome) = true := by rfl) (hks : (backToKw pos (keywordEach kws X.env)).filterMap (·.1) = ks := by rfl) (hdb : (x == ("__debug__" : Str)) = false := by decide)
    (hpl : ((backTo pos (starEach [] X.env)).any (·.1) || (backToKw pos (keywordEach kws X.env)).any (·.1.isNone)) = false := by rfl) :
    PE X (.Call (.Name x p) [] kws pos) (tMkX C 0 ks.length sp gV tNil tk) := by
  refine ⟨fun pins s σ H Q I h => ?_⟩
  refine wpAny_Call_Name_kw (ld_glob I hg hm ?_ hdb)
  refine PySem.W.callWith_KW0 (h₀ := X.base) I.ok.mod.kin T.kC hall ?_ hpl
  refine thn (hkw.run pos pins s σ H _ I h) fun ws s2 ⟨zs, H2, I2, rz, l1, l2, q2⟩ => ⟨I2.kIn, ?_⟩
  rw [hks]
  exact run_mkX (us := []) (vs := []) T iC tI F hr hb I2 .nil rz rfl l2 (Nat.zero_le _) q2

/-- C(), C without an __init__ of its own -/
theorem pe_mkX0 {bmB : List Value} {B newId initId : String} (FB : ExcBaseFacts B newId initId bmB) (T : XC X.K C) (q : PySem.W.excIn X.K C bmB newId = true) (hg : Gl X x) (hm : X.mg x = some (.ref C)) (hdb : (x == ("__debug__" : Str)) = false := by decide) :
    PE X (.Call (.Name x p) [] [] pos) (fun _ H Q => ∀ a, H a = none → Q (.ref a) (upd H a (exo a C none))) := by
  refine ⟨fun pins s σ H Q I h => ?_⟩
  refine wpAny_Call_Name_kw (ld_glob I hg hm ?_ hdb)
  refine PySem.W.callWith_K0 I.kIn T.kC ?_
  obtain ⟨bm, N, nm, qn, bs, hdct, sn, sub, ab, col, dd, k0, k1, k2, k3, k5, mN, hC, hN, hni, OT⟩ := exc_obj I.kIn q
  refine wpAny_call_exc_subT FB OT hC hN hni (fun h' a hm => ?_) (Nat.zero_le _)
  have hn : H a = none := I.hok.gone hm.new
  obtain ⟨t, ht, _, _⟩ := hm.there
  exact ⟨.ref a, upd H a (exo a C none), I.laidN hm.keeps hm.new hn (exo_ok ht), rfl, h a hn⟩

/-- what gives back a new exception makes one, to be raised: it is let go, its dict stays -/
theorem pmk_val {te : TE} (hx : X.ex = []) (he : PE X e te) :
    PMk X e (fun σ H Q => te σ H fun x H1 => ∃ (a C : Addr) (od : Option Addr), x = .ref a ∧ H1 a = some (exo a C od) ∧ Fr0 X.H_0 a ∧ XC X.K C ∧ Q (.ref C) od (delH H1 a)) := by
  intro pins s σ H Q I h
  refine wpAny_mono (he.run pins s σ H _ I h) (fun u s1 hu => ?_) fun _ _ x => x
  obtain ⟨v, H1, I1, r1, a, C, od, rfl, ea, h0, T, q⟩ := hu
  cases r1
  obtain ⟨t1, ho⟩ := exo_at I1.hok ea
  obtain ⟨G, gs, ga, J⟩ := I1.untrack ea h0 hx
  exact ⟨a, _, _, { s1 with heap := G }, delH H1 a, .ref C, od, rfl, J, gs, ga, ho, ⟨rfl, rfl⟩, rfl, rfl, delH_same, rfl, I1.bare, raises_own T.exC T.tyC, q⟩
end
end Mine

set_option Elab.async false
set_option maxRecDepth 100000
set_option maxHeartbeats 4000000
namespace Mine
open PySem L2
/-- the attributes as the dict tells them: the last one stored first -/
def flds (ns : List Str) (vs : List V) : List (Str × V) := (ns.zip vs).reverse
/-- an exception of the class at C with these attributes stands at e -/
def Err (H : Hp) (e C : Addr) (fs : List (Str × V)) : Prop := (fs = [] ∧ H e = some (exo e C none)) ∨ ∃ d, H e = some (exo e C (some d)) ∧ H d = some (exd d fs) ∧ d ≠ e
/-- what an __init__ that stores its arguments promises -/
def spInit (C : Addr) (ns : List Str) : Sp := fun vs H Q _ => ∃ (a : Addr) (xs : List V), vs = .ref a :: xs ∧ xs.length = ns.length ∧ H a = some (exo a C none) ∧
  ∀ H', Err H' a C (flds ns xs) → (∀ b o, b ≠ a → H b = some o → H' b = some o) → Q .non H'
/-- the names of a class's attributes are no names of the class -/
def NoNames (K : PySem.W.Frag) (C : Addr) (ns : List Str) : Prop := ∀ n, n ∈ ns → PySem.W.findIn K (.ref C) n = some none
section
variable {P : Program} {w : World} {K : PySem.W.Frag} {mg : Str → Option Value} {base : Heap} {f C : Addr} {fd : FuncData}

abbrev sI2 : Stmt := inClass (top 2) 0
theorem scI2 : FnScope ["self", "word", "procedure", "place"] ["self", "word", "procedure", "place"] (defScope sI2) := ⟨rfl, rfl, rfl, by decide +kernel, rfl, by decide +kernel, by decide +kernel⟩
theorem ok_i2 (F : Fun K "__init__" "InvalidProgram.__init__" sI2 f fd) (T : XC K C) (hn : NoNames K C ["word", "procedure", "place"]) : FnOk P w K mg base CX0 1 f fd ["self", "word", "procedure", "place"] (spInit C ["word", "procedure", "place"]) := by
  refine F.ok scI2 (fun vs H Q E h => ?_) (fun cdv A outer s H vs Q E hr h => ?_)
  · obtain ⟨a, xs, rfl, hl, _⟩ := h
    exact congrArg Nat.succ hl
  obtain ⟨a, xs, rfl, hl, ha, q⟩ := h
  obtain ⟨x1, x2, x3, rfl⟩ : ∃ x1 x2 x3, xs = [x1, x2, x3] := match xs, hl with | [x1, x2, x3], _ => ⟨_, _, _, rfl⟩
  refine ⟨_, (pss_cons (ps_xst (pv 0) (pv 1)) (pss_cons (ps_xst (pv 0) (pv 2)) (pss_one (ps_xst (pv 0) (pv 3))))), ?_⟩
  refine ⟨_, rfl, _, rfl, a, C, rfl, T, hn _ (by simp), .inl ⟨ha, fun d hd da => ?_⟩⟩
  refine ⟨_, rfl, _, rfl, a, C, rfl, T, hn _ (by simp), .inr ⟨d, _, upd_same, (by rw [upd_ne da]; exact upd_same), (by simp), ?_⟩⟩
  refine ⟨_, rfl, _, rfl, a, C, rfl, T, hn _ (by simp), .inr ⟨d, _, (by rw [upd_ne da.symm]; exact upd_same), upd_same, (by simp), ?_⟩⟩
  refine q _ (.inr ⟨d, (by rw [upd_ne da.symm]; rw [upd_ne da.symm]; exact upd_same), upd_same, da⟩) fun b o hb e => ?_
  rw [upd_ne (ne_of_none e hd), upd_ne (ne_of_none e hd), upd_ne hb, upd_ne (ne_of_none e hd)]
  exact e
abbrev sI3 : Stmt := inClass (top 3) 0
theorem scI3 : FnScope ["self", "line"] ["self", "line"] (defScope sI3) := ⟨rfl, rfl, rfl, by decide +kernel, rfl, by decide +kernel, by decide +kernel⟩
theorem ok_i3 (F : Fun K "__init__" "InvalidText.__init__" sI3 f fd) (T : XC K C) (hn : NoNames K C ["line"]) : FnOk P w K mg base CX0 1 f fd ["self", "line"] (spInit C ["line"]) := by
  refine F.ok scI3 (fun vs H Q E h => ?_) (fun cdv A outer s H vs Q E hr h => ?_)
  · obtain ⟨a, xs, rfl, hl, _⟩ := h
    exact congrArg Nat.succ hl
  obtain ⟨a, xs, rfl, hl, ha, q⟩ := h
  obtain ⟨x1, rfl⟩ : ∃ x1, xs = [x1] := match xs, hl with | [x1], _ => ⟨_, rfl⟩
  refine ⟨_, (pss_one (ps_xst (pv 0) (pv 1))), ?_⟩
  refine ⟨_, rfl, _, rfl, a, C, rfl, T, hn _ (by simp), .inl ⟨ha, fun d hd da => ?_⟩⟩
  refine q _ (.inr ⟨d, upd_same, (by rw [upd_ne da]; exact upd_same), da⟩) fun b o hb e => ?_
  rw [upd_ne hb, upd_ne (ne_of_none e hd)]
  exact e
abbrev sI4 : Stmt := inClass (top 4) 0
theorem scI4 : FnScope ["self", "word", "index"] ["self", "word", "index"] (defScope sI4) := ⟨rfl, rfl, rfl, by decide +kernel, rfl, by decide +kernel, by decide +kernel⟩
theorem ok_i4 (F : Fun K "__init__" "InvalidStart.__init__" sI4 f fd) (T : XC K C) (hn : NoNames K C ["word", "index"]) : FnOk P w K mg base CX0 1 f fd ["self", "word", "index"] (spInit C ["word", "index"]) := by
  refine F.ok scI4 (fun vs H Q E h => ?_) (fun cdv A outer s H vs Q E hr h => ?_)
  · obtain ⟨a, xs, rfl, hl, _⟩ := h
    exact congrArg Nat.succ hl
  obtain ⟨a, xs, rfl, hl, ha, q⟩ := h
  obtain ⟨x1, x2, rfl⟩ : ∃ x1 x2, xs = [x1, x2] := match xs, hl with | [x1, x2], _ => ⟨_, _, rfl⟩
  refine ⟨_, (pss_cons (ps_xst (pv 0) (pv 1)) (pss_one (ps_xst (pv 0) (pv 2)))), ?_⟩
  refine ⟨_, rfl, _, rfl, a, C, rfl, T, hn _ (by simp), .inl ⟨ha, fun d hd da => ?_⟩⟩
  refine ⟨_, rfl, _, rfl, a, C, rfl, T, hn _ (by simp), .inr ⟨d, _, upd_same, (by rw [upd_ne da]; exact upd_same), (by simp), ?_⟩⟩
  refine q _ (.inr ⟨d, (by rw [upd_ne da.symm]; exact upd_same), upd_same, da⟩) fun b o hb e => ?_
  rw [upd_ne (ne_of_none e hd), upd_ne hb, upd_ne (ne_of_none e hd)]
  exact e
abbrev sI5 : Stmt := inClass (top 5) 0
theorem scI5 : FnScope ["self", "steps"] ["self", "steps"] (defScope sI5) := ⟨rfl, rfl, rfl, by decide +kernel, rfl, by decide +kernel, by decide +kernel⟩
theorem ok_i5 (F : Fun K "__init__" "TooLong.__init__" sI5 f fd) (T : XC K C) (hn : NoNames K C ["steps"]) : FnOk P w K mg base CX0 1 f fd ["self", "steps"] (spInit C ["steps"]) := by
  refine F.ok scI5 (fun vs H Q E h => ?_) (fun cdv A outer s H vs Q E hr h => ?_)
  · obtain ⟨a, xs, rfl, hl, _⟩ := h
    exact congrArg Nat.succ hl
  obtain ⟨a, xs, rfl, hl, ha, q⟩ := h
  obtain ⟨x1, rfl⟩ : ∃ x1, xs = [x1] := match xs, hl with | [x1], _ => ⟨_, rfl⟩
  refine ⟨_, (pss_one (ps_xst (pv 0) (pv 1))), ?_⟩
  refine ⟨_, rfl, _, rfl, a, C, rfl, T, hn _ (by simp), .inl ⟨ha, fun d hd da => ?_⟩⟩
  refine q _ (.inr ⟨d, upd_same, (by rw [upd_ne da]; exact upd_same), da⟩) fun b o hb e => ?_
  rw [upd_ne hb, upd_ne (ne_of_none e hd)]
  exact e
abbrev sI6 : Stmt := inClass (top 6) 0
theorem scI6 : FnScope ["self", "word", "procedure", "row"] ["self", "word", "procedure", "row"] (defScope sI6) := ⟨rfl, rfl, rfl, by decide +kernel, rfl, by decide +kernel, by decide +kernel⟩
theorem ok_i6 (F : Fun K "__init__" "InvalidCode.__init__" sI6 f fd) (T : XC K C) (hn : NoNames K C ["word", "procedure", "row"]) : FnOk P w K mg base CX0 1 f fd ["self", "word", "procedure", "row"] (spInit C ["word", "procedure", "row"]) := by
  refine F.ok scI6 (fun vs H Q E h => ?_) (fun cdv A outer s H vs Q E hr h => ?_)
  · obtain ⟨a, xs, rfl, hl, _⟩ := h
    exact congrArg Nat.succ hl
  obtain ⟨a, xs, rfl, hl, ha, q⟩ := h
  obtain ⟨x1, x2, x3, rfl⟩ : ∃ x1 x2 x3, xs = [x1, x2, x3] := match xs, hl with | [x1, x2, x3], _ => ⟨_, _, _, rfl⟩
  refine ⟨_, (pss_cons (ps_xst (pv 0) (pv 1)) (pss_cons (ps_xst (pv 0) (pv 2)) (pss_one (ps_xst (pv 0) (pv 3))))), ?_⟩
  refine ⟨_, rfl, _, rfl, a, C, rfl, T, hn _ (by simp), .inl ⟨ha, fun d hd da => ?_⟩⟩
  refine ⟨_, rfl, _, rfl, a, C, rfl, T, hn _ (by simp), .inr ⟨d, _, upd_same, (by rw [upd_ne da]; exact upd_same), (by simp), ?_⟩⟩
  refine ⟨_, rfl, _, rfl, a, C, rfl, T, hn _ (by simp), .inr ⟨d, _, (by rw [upd_ne da.symm]; exact upd_same), upd_same, (by simp), ?_⟩⟩
  refine q _ (.inr ⟨d, (by rw [upd_ne da.symm]; rw [upd_ne da.symm]; exact upd_same), upd_same, da⟩) fun b o hb e => ?_
  rw [upd_ne (ne_of_none e hd), upd_ne (ne_of_none e hd), upd_ne hb, upd_ne (ne_of_none e hd)]
  exact e
abbrev sI7 : Stmt := inClass (top 7) 0
theorem scI7 : FnScope ["self", "procedure", "number"] ["self", "procedure", "number"] (defScope sI7) := ⟨rfl, rfl, rfl, by decide +kernel, rfl, by decide +kernel, by decide +kernel⟩
theorem ok_i7 (F : Fun K "__init__" "NoRoom.__init__" sI7 f fd) (T : XC K C) (hn : NoNames K C ["procedure", "number"]) : FnOk P w K mg base CX0 1 f fd ["self", "procedure", "number"] (spInit C ["procedure", "number"]) := by
  refine F.ok scI7 (fun vs H Q E h => ?_) (fun cdv A outer s H vs Q E hr h => ?_)
  · obtain ⟨a, xs, rfl, hl, _⟩ := h
    exact congrArg Nat.succ hl
  obtain ⟨a, xs, rfl, hl, ha, q⟩ := h
  obtain ⟨x1, x2, rfl⟩ : ∃ x1 x2, xs = [x1, x2] := match xs, hl with | [x1, x2], _ => ⟨_, _, rfl⟩
  refine ⟨_, (pss_cons (ps_xst (pv 0) (pv 1)) (pss_one (ps_xst (pv 0) (pv 2)))), ?_⟩
  refine ⟨_, rfl, _, rfl, a, C, rfl, T, hn _ (by simp), .inl ⟨ha, fun d hd da => ?_⟩⟩
  refine ⟨_, rfl, _, rfl, a, C, rfl, T, hn _ (by simp), .inr ⟨d, _, upd_same, (by rw [upd_ne da]; exact upd_same), (by simp), ?_⟩⟩
  refine q _ (.inr ⟨d, (by rw [upd_ne da.symm]; exact upd_same), upd_same, da⟩) fun b o hb e => ?_
  rw [upd_ne (ne_of_none e hd), upd_ne hb, upd_ne (ne_of_none e hd)]
  exact e
abbrev sI8 : Stmt := inClass (top 8) 0
theorem scI8 : FnScope ["self", "word", "index"] ["self", "word", "index"] (defScope sI8) := ⟨rfl, rfl, rfl, by decide +kernel, rfl, by decide +kernel, by decide +kernel⟩
theorem ok_i8 (F : Fun K "__init__" "InvalidPart.__init__" sI8 f fd) (T : XC K C) (hn : NoNames K C ["word", "index"]) : FnOk P w K mg base CX0 1 f fd ["self", "word", "index"] (spInit C ["word", "index"]) := by
  refine F.ok scI8 (fun vs H Q E h => ?_) (fun cdv A outer s H vs Q E hr h => ?_)
  · obtain ⟨a, xs, rfl, hl, _⟩ := h
    exact congrArg Nat.succ hl
  obtain ⟨a, xs, rfl, hl, ha, q⟩ := h
  obtain ⟨x1, x2, rfl⟩ : ∃ x1 x2, xs = [x1, x2] := match xs, hl with | [x1, x2], _ => ⟨_, _, rfl⟩
  refine ⟨_, (pss_cons (ps_xst (pv 0) (pv 1)) (pss_one (ps_xst (pv 0) (pv 2)))), ?_⟩
  refine ⟨_, rfl, _, rfl, a, C, rfl, T, hn _ (by simp), .inl ⟨ha, fun d hd da => ?_⟩⟩
  refine ⟨_, rfl, _, rfl, a, C, rfl, T, hn _ (by simp), .inr ⟨d, _, upd_same, (by rw [upd_ne da]; exact upd_same), (by simp), ?_⟩⟩
  refine q _ (.inr ⟨d, (by rw [upd_ne da.symm]; exact upd_same), upd_same, da⟩) fun b o hb e => ?_
  rw [upd_ne (ne_of_none e hd), upd_ne hb, upd_ne (ne_of_none e hd)]
  exact e
abbrev sI9 : Stmt := inClass (top 9) 0
theorem scI9 : FnScope ["self", "part", "used", "caller"] ["self", "part", "used", "caller"] (defScope sI9) := ⟨rfl, rfl, rfl, by decide +kernel, rfl, by decide +kernel, by decide +kernel⟩
theorem ok_i9 (F : Fun K "__init__" "LinkRefused.__init__" sI9 f fd) (T : XC K C) (hn : NoNames K C ["part", "used", "caller"]) : FnOk P w K mg base CX0 1 f fd ["self", "part", "used", "caller"] (spInit C ["part", "used", "caller"]) := by
  refine F.ok scI9 (fun vs H Q E h => ?_) (fun cdv A outer s H vs Q E hr h => ?_)
  · obtain ⟨a, xs, rfl, hl, _⟩ := h
    exact congrArg Nat.succ hl
  obtain ⟨a, xs, rfl, hl, ha, q⟩ := h
  obtain ⟨x1, x2, x3, rfl⟩ : ∃ x1 x2 x3, xs = [x1, x2, x3] := match xs, hl with | [x1, x2, x3], _ => ⟨_, _, _, rfl⟩
  refine ⟨_, (pss_cons (ps_xst (pv 0) (pv 1)) (pss_cons (ps_xst (pv 0) (pv 2)) (pss_one (ps_xst (pv 0) (pv 3))))), ?_⟩
  refine ⟨_, rfl, _, rfl, a, C, rfl, T, hn _ (by simp), .inl ⟨ha, fun d hd da => ?_⟩⟩
  refine ⟨_, rfl, _, rfl, a, C, rfl, T, hn _ (by simp), .inr ⟨d, _, upd_same, (by rw [upd_ne da]; exact upd_same), (by simp), ?_⟩⟩
  refine ⟨_, rfl, _, rfl, a, C, rfl, T, hn _ (by simp), .inr ⟨d, _, (by rw [upd_ne da.symm]; exact upd_same), upd_same, (by simp), ?_⟩⟩
  refine q _ (.inr ⟨d, (by rw [upd_ne da.symm]; rw [upd_ne da.symm]; exact upd_same), upd_same, da⟩) fun b o hb e => ?_
  rw [upd_ne (ne_of_none e hd), upd_ne (ne_of_none e hd), upd_ne hb, upd_ne (ne_of_none e hd)]
  exact e
abbrev sI11 : Stmt := inClass (top 11) 0
theorem scI11 : FnScope ["self", "procedure", "place", "carrier", "answers"] ["self", "procedure", "place", "carrier", "answers"] (defScope sI11) := ⟨rfl, rfl, rfl, by decide +kernel, rfl, by decide +kernel, by decide +kernel⟩
theorem ok_i11 (F : Fun K "__init__" "Unfilled.__init__" sI11 f fd) (T : XC K C) (hn : NoNames K C ["procedure", "place", "carrier", "answers"]) : FnOk P w K mg base CX0 1 f fd ["self", "procedure", "place", "carrier", "answers"] (spInit C ["procedure", "place", "carrier", "answers"]) := by
  refine F.ok scI11 (fun vs H Q E h => ?_) (fun cdv A outer s H vs Q E hr h => ?_)
  · obtain ⟨a, xs, rfl, hl, _⟩ := h
    exact congrArg Nat.succ hl
  obtain ⟨a, xs, rfl, hl, ha, q⟩ := h
  obtain ⟨x1, x2, x3, x4, rfl⟩ : ∃ x1 x2 x3 x4, xs = [x1, x2, x3, x4] := match xs, hl with | [x1, x2, x3, x4], _ => ⟨_, _, _, _, rfl⟩
  refine ⟨_, (pss_cons (ps_xst (pv 0) (pv 1)) (pss_cons (ps_xst (pv 0) (pv 2)) (pss_cons (ps_xst (pv 0) (pv 3)) (pss_one (ps_xst (pv 0) (pv 4)))))), ?_⟩
  refine ⟨_, rfl, _, rfl, a, C, rfl, T, hn _ (by simp), .inl ⟨ha, fun d hd da => ?_⟩⟩
  refine ⟨_, rfl, _, rfl, a, C, rfl, T, hn _ (by simp), .inr ⟨d, _, upd_same, (by rw [upd_ne da]; exact upd_same), (by simp), ?_⟩⟩
  refine ⟨_, rfl, _, rfl, a, C, rfl, T, hn _ (by simp), .inr ⟨d, _, (by rw [upd_ne da.symm]; exact upd_same), upd_same, (by simp), ?_⟩⟩
  refine ⟨_, rfl, _, rfl, a, C, rfl, T, hn _ (by simp), .inr ⟨d, _, (by rw [upd_ne da.symm]; rw [upd_ne da.symm]; exact upd_same), upd_same, (by simp), ?_⟩⟩
  refine q _ (.inr ⟨d, (by rw [upd_ne da.symm]; rw [upd_ne da.symm]; rw [upd_ne da.symm]; exact upd_same), upd_same, da⟩) fun b o hb e => ?_
  rw [upd_ne (ne_of_none e hd), upd_ne (ne_of_none e hd), upd_ne (ne_of_none e hd), upd_ne hb, upd_ne (ne_of_none e hd)]
  exact e
abbrev sI12 : Stmt := inClass (top 12) 0
theorem scI12 : FnScope ["self", "name"] ["self", "name"] (defScope sI12) := ⟨rfl, rfl, rfl, by decide +kernel, rfl, by decide +kernel, by decide +kernel⟩
theorem ok_i12 (F : Fun K "__init__" "UnknownName.__init__" sI12 f fd) (T : XC K C) (hn : NoNames K C ["name"]) : FnOk P w K mg base CX0 1 f fd ["self", "name"] (spInit C ["name"]) := by
  refine F.ok scI12 (fun vs H Q E h => ?_) (fun cdv A outer s H vs Q E hr h => ?_)
  · obtain ⟨a, xs, rfl, hl, _⟩ := h
    exact congrArg Nat.succ hl
  obtain ⟨a, xs, rfl, hl, ha, q⟩ := h
  obtain ⟨x1, rfl⟩ : ∃ x1, xs = [x1] := match xs, hl with | [x1], _ => ⟨_, rfl⟩
  refine ⟨_, (pss_one (ps_xst (pv 0) (pv 1))), ?_⟩
  refine ⟨_, rfl, _, rfl, a, C, rfl, T, hn _ (by simp), .inl ⟨ha, fun d hd da => ?_⟩⟩
  refine q _ (.inr ⟨d, upd_same, (by rw [upd_ne da]; exact upd_same), da⟩) fun b o hb e => ?_
  rw [upd_ne hb, upd_ne (ne_of_none e hd)]
  exact e
end
end Mine

set_option Elab.async false
set_option maxRecDepth 100000
set_option maxHeartbeats 4000000
namespace Mine
open PySem L2
/-! ### the eleven classes by their numbers -/
def attrs : Nat → List Str
  | 0 => ["word", "procedure", "place"]
  | 1 => ["line"]
  | 2 => ["word", "index"]
  | 3 => ["steps"]
  | 4 => ["word", "procedure", "row"]
  | 5 => ["procedure", "number"]
  | 6 => ["word", "index"]
  | 7 => ["part", "used", "caller"]
  | 8 => []
  | 9 => ["procedure", "place", "carrier", "answers"]
  | _ => ["name"]
def cname : Nat → Str
  | 0 => "InvalidProgram"
  | 1 => "InvalidText"
  | 2 => "InvalidStart"
  | 3 => "TooLong"
  | 4 => "InvalidCode"
  | 5 => "NoRoom"
  | 6 => "InvalidPart"
  | 7 => "LinkRefused"
  | 8 => "InvalidCommand"
  | 9 => "Unfilled"
  | _ => "UnknownName"
structure Sorts (K : PySem.W.Frag) (mg : Str → Option Value) (C : Nat → Addr) (B : Addr) : Prop where
  xc : ∀ i, i < 11 → XC K (C i)
  fi : ∀ i, i < 11 → NoNames K (C i) (attrs i)
  kit : ∀ i j, i < 11 → j < 11 → PySem.W.kitOne K (.ref (C i)) (.ref (C j)) = some (decide (i = j))
  kS : ∀ i, i < 11 → PySem.W.kitOne K (.ref (C i)) (.ref B) = some (i != 10)
  kK : ∀ i, i < 11 → PySem.W.kitOne K (.ref (C i)) (.type "KeyError") = some (i == 10)
  kV : ∀ i, i < 11 → PySem.W.kitOne K (.ref (C i)) (.type "ValueError") = some (i != 10)
  mc : ∀ i, i < 11 → mg (cname i) = some (.ref (C i))
  mS : mg "SourError" = some (.ref B)
abbrev sKept : Stmt := top 19
abbrev NKept : List Str := ["_law_e"]
theorem scKept : FnScope NKept ["_law_e"] (defScope sKept) := ⟨rfl, rfl, rfl, by decide +kernel, rfl, by decide +kernel, by decide +kernel⟩
/-- an error of number i that keeps xs -/
def Kd (C : Nat → Addr) (H : Hp) (e : Addr) (i : Nat) (xs : List V) : Prop := i < 11 ∧ xs.length = (attrs i).length ∧ Err H e (C i) (flds (attrs i) xs)
def spKept (C : Nat → Addr) : Sp := fun vs H Q _ => ∃ (e : Addr) (i : Nat) (xs : List V), vs = [.ref e] ∧ Kd C H e i xs ∧ ∀ l H', Same H H' → H l = none → H' l = some (.lst xs) → Q (.ref l) H'
section
variable {P : Program} {w : World} {K : PySem.W.Frag} {mg : Str → Option Value} {base : Heap} {f B : Addr} {fd : FuncData} {C : Nat → Addr} {H : Hp} {e : Addr} {i : Nat} {xs : List V}
theorem Kd.at (h : Kd C H e i xs) : ∃ od fs, H e = some (exo e (C i) od) ∧ ∀ dx, od = some dx → H dx = some (exd dx fs) := by
  obtain ⟨_, _, h⟩ := h
  rcases h with ⟨_, h⟩ | ⟨d, h1, h2, _⟩
  · exact ⟨none, [], h, fun dx z => nomatch z⟩
  · exact ⟨some d, _, h1, fun dx z => by cases z; exact h2⟩
theorem is_C (S : Sorts K mg C B) (h : Kd C H e i xs) {j : Nat} (hj : j < 11) {Q : VK} (q : Q (.bl (decide (i = j))) H) : rXis K [.ref e, .ref (C j)] H Q := by
  obtain ⟨od, fs, h1, h2⟩ := h.at
  exact ⟨e, C i, od, fs, _, _, _, rfl, .own _, S.xc i h.1, h1, h2, S.kit i j h.1 hj, q⟩
theorem is_of (S : Sorts K mg C B) (h : Kd C H e i xs) {c : V} {u : Value} (k : ClsV c u) {b : Bool} (hb : PySem.W.kitOne K (.ref (C i)) u = some b) {Q : VK} (q : Q (.bl b) H) : rXis K [.ref e, c] H Q := by
  obtain ⟨od, fs, h1, h2⟩ := h.at
  exact ⟨e, C i, od, fs, _, _, _, rfl, k, S.xc i h.1, h1, h2, hb, q⟩
theorem Kd.mono {H' : Hp} (s : Same H H') (h : Kd C H e i xs) : Kd C H' e i xs := by
  obtain ⟨h1, h2, h3⟩ := h
  refine ⟨h1, h2, ?_⟩
  rcases h3 with ⟨a, b⟩ | ⟨d, a, b, c⟩
  · exact .inl ⟨a, s _ _ b⟩
  · exact .inr ⟨d, s _ _ a, s _ _ b, c⟩
theorem if_no (S : Sorts K mg C B) (h : Kd C H e i xs) (j : Nat) {σ : St} {D : Ends} {t : TS} (hσ : σ[0]? = some (some (.ref e))) (q : D.nx σ H) (hj : j < 11 := by decide) (ij : i ≠ j := by decide) :
    tIfS (tB (tCB (rXis K) (tCons (tVar 0) (tCons (tC (.ref (C j))) tNil)))) t tNext D σ H :=
  by
  refine ⟨_, hσ, ?_⟩
  show rXis K [.ref e, .ref (C j)] H (fun x H1 => ∃ c, x = V.bl c ∧ if c = true then t D σ H1 else D.nx σ H1)
  exact is_C S h hj ⟨_, rfl, ifN (decide_eq_false ij) q⟩
theorem if_yes (S : Sorts K mg C B) (h : Kd C H e i xs) {σ : St} {D : Ends} {t : TS} (hσ : σ[0]? = some (some (.ref e))) (q : t D σ H) :
    tIfS (tB (tCB (rXis K) (tCons (tVar 0) (tCons (tC (.ref (C i))) tNil)))) t tNext D σ H :=
  by
  refine ⟨_, hσ, ?_⟩
  show rXis K [.ref e, .ref (C i)] H (fun x H1 => ∃ c, x = V.bl c ∧ if c = true then t D σ H1 else D.nx σ H1)
  exact is_C S h h.1 ⟨_, rfl, ifE (decide_eq_true rfl) q⟩
theorem rd (S : Sorts K mg C B) (h : Kd C H e i xs) {f : Str} {v : V} {σ : St} {Q : VK} (hσ : σ[0]? = some (some (.ref e))) (hi : f ∈ attrs i) (hl : (flds (attrs i) xs).lookup f = some v) (q : Q v H) : tXget K f (tVar 0) σ H Q := by
  obtain ⟨h1, h2, h3⟩ := h
  rcases h3 with ⟨a, b⟩ | ⟨d, a, b, c⟩
  · rw [a] at hl
    cases hl
  · exact ⟨_, hσ, e, C i, d, _, v, rfl, S.xc i h1, S.fi i h1 f hi, a, b, hl, q⟩
/-- the two classes of one test -/
theorem two (S : Sorts K mg C B) (h : Kd C H e i xs) {σ : St} {Q : Bool → Hp → Prop} (hσ : σ[0]? = some (some (.ref e))) (q : ∀ p, H p = none → Q (decide (i = 2) || decide (i = 6)) (upd H p (.tup [.ref (C 2), .ref (C 6)]))) :
    tB (tCB (rXisT K) (tCons (tVar 0) (tCons (tTup (tCons (tC (.ref (C 2))) (tCons (tC (.ref (C 6))) tNil))) tNil))) σ H Q := by
  refine ⟨_, hσ, (by show 2 ≤ sizeLine; decide), fun p hp => ?_⟩
  have hm := h.mono (same_new hp (.tup [.ref (C 2), .ref (C 6)]))
  obtain ⟨od, fs, h1, h2⟩ := hm.at
  have k2 := S.kit i 2 h.1 (by decide)
  have k6 := S.kit i 6 h.1 (by decide)
  refine ⟨e, C i, od, fs, p, _, _, (decide (i = 2) || decide (i = 6)), rfl, upd_same, .cons (.own _) (.cons (.own _) .nil), S.xc i h.1, h1, h2, ?_, _, rfl, q p hp⟩
  refine kitAny_cons k2 (fun e2 => ?_) fun e2 => ?_
  · rw [e2]
    refine kitAny_cons k6 (fun e6 => ?_) fun e6 => ?_
    · rw [e6]
      rfl
    · rw [e6]
      rfl
  · rw [e2]
    rfl
theorem ret_ {te : TE} {D : Ends} {σ : St} (h : te σ H D.rt) : tRet te D σ H := h
theorem lst_ {ta : TA} {σ : St} {Q : VK} (h : ta σ H fun xs H1 => xs.length ≤ sizeLine ∧ ∀ p, H1 p = none → Q (.ref p) (upd H1 p (.lst xs))) : tLst ta σ H Q := h
theorem cons_ {te : TE} {ta : TA} {σ : St} {Q : List V → Hp → Prop} (h : te σ H fun x H1 => ta σ H1 fun xs H2 => Q (x :: xs) H2) : tCons te ta σ H Q := h
theorem ife_C (S : Sorts K mg C B) (h : Kd C H e i xs) (j : Nat) {σ : St} {Q : VK} {a b : TE} (hσ : σ[0]? = some (some (.ref e))) (hj : j < 11) (q : if decide (i = j) = true then a σ H Q else b σ H Q) :
    tIf (tB (tCB (rXis K) (tCons (tVar 0) (tCons (tC (.ref (C j))) tNil)))) a b σ H Q := by
  refine ⟨_, hσ, ?_⟩
  show rXis K [.ref e, .ref (C j)] H (fun x H1 => ∃ c, x = V.bl c ∧ if c = true then a σ H1 Q else b σ H1 Q)
  exact is_C S h hj ⟨_, rfl, q⟩
theorem ok_kept (F : Fun K "_law_kept" "_law_kept" sKept f fd) (T : Zs mg) (S : Sorts K mg C B) : FnOk P w K mg base CX0 1 f fd ["_law_e"] (spKept C) := by
  refine F.ok scKept (fun vs H Q E h => ?_) (fun cdv A outer s H vs Q E hr h => ?_)
  · obtain ⟨e, i, xs, rfl, _⟩ := h
    rfl
  obtain ⟨e, i, xs, rfl, hk, q⟩ := h
  refine ⟨_, (pss_cons (ps_if (pt_val (pe_callB call_xis (by rfl) T.z_isinstance (by decide +kernel) (pa_cons (pv 0) (pa_cons (pe_glob (v := .ref (C 0)) rfl (S.mc 0 (by decide)) rfl) pa_nil))))
    (pss_one (ps_ret (pe_lst (pa_cons (pe_xget (pv 0)) (pa_cons (pe_xget (pv 0)) (pa_cons (pe_xget (pv 0)) pa_nil))))))
    pss_nil)
    (pss_cons (ps_if (pt_val (pe_callB call_xis (by rfl) T.z_isinstance (by decide +kernel) (pa_cons (pv 0) (pa_cons (pe_glob (v := .ref (C 4)) rfl (S.mc 4 (by decide)) rfl) pa_nil))))
    (pss_one (ps_ret (pe_lst (pa_cons (pe_xget (pv 0)) (pa_cons (pe_xget (pv 0)) (pa_cons (pe_xget (pv 0)) pa_nil))))))
    pss_nil)
    (pss_cons (ps_if (pt_val (pe_callB call_xisT (by rfl) T.z_isinstance (by decide +kernel) (pa_cons (pv 0) (pa_cons (pe_tup (pa_cons (pe_glob (v := .ref (C 2)) rfl (S.mc 2 (by decide)) rfl) (pa_cons (pe_glob (v := .ref (C 6)) rfl (S.mc 6 (by decide)) rfl) pa_nil))) pa_nil))))
    (pss_one (ps_ret (pe_lst (pa_cons (pe_xget (pv 0)) (pa_cons (pe_xget (pv 0)) pa_nil)))))
    pss_nil)
    (pss_cons (ps_if (pt_val (pe_callB call_xis (by rfl) T.z_isinstance (by decide +kernel) (pa_cons (pv 0) (pa_cons (pe_glob (v := .ref (C 7)) rfl (S.mc 7 (by decide)) rfl) pa_nil))))
    (pss_one (ps_ret (pe_lst (pa_cons (pe_xget (pv 0)) (pa_cons (pe_xget (pv 0)) (pa_cons (pe_xget (pv 0)) pa_nil))))))
    pss_nil)
    (pss_cons (ps_if (pt_val (pe_callB call_xis (by rfl) T.z_isinstance (by decide +kernel) (pa_cons (pv 0) (pa_cons (pe_glob (v := .ref (C 9)) rfl (S.mc 9 (by decide)) rfl) pa_nil))))
    (pss_one (ps_ret (pe_lst (pa_cons (pe_xget (pv 0)) (pa_cons (pe_xget (pv 0)) (pa_cons (pe_xget (pv 0)) (pa_cons (pe_xget (pv 0)) pa_nil)))))))
    pss_nil)
    (pss_cons (ps_if (pt_val (pe_callB call_xis (by rfl) T.z_isinstance (by decide +kernel) (pa_cons (pv 0) (pa_cons (pe_glob (v := .ref (C 5)) rfl (S.mc 5 (by decide)) rfl) pa_nil))))
    (pss_one (ps_ret (pe_lst (pa_cons (pe_xget (pv 0)) (pa_cons (pe_xget (pv 0)) pa_nil)))))
    pss_nil)
    (pss_cons (ps_if (pt_val (pe_callB call_xis (by rfl) T.z_isinstance (by decide +kernel) (pa_cons (pv 0) (pa_cons (pe_glob (v := .ref (C 1)) rfl (S.mc 1 (by decide)) rfl) pa_nil))))
    (pss_one (ps_ret (pe_lst (pa_cons (pe_xget (pv 0)) pa_nil))))
    pss_nil)
    (pss_cons (ps_if (pt_val (pe_callB call_xis (by rfl) T.z_isinstance (by decide +kernel) (pa_cons (pv 0) (pa_cons (pe_glob (v := .ref (C 3)) rfl (S.mc 3 (by decide)) rfl) pa_nil))))
    (pss_one (ps_ret (pe_lst (pa_cons (pe_xget (pv 0)) pa_nil))))
    pss_nil)
    (pss_one (ps_ret (pe_ifExp (pt_val (pe_callB call_xis (by rfl) T.z_isinstance (by decide +kernel) (pa_cons (pv 0) (pa_cons (pe_glob (v := .ref (C 10)) rfl (S.mc 10 (by decide)) rfl) pa_nil)))) (pe_lst (pa_cons (pe_xget (pv 0)) pa_nil)) (pe_lst pa_nil)))))))))))), ?_⟩
  have hi := hk.1
  have hl := hk.2.1
  obtain rfl | rfl | rfl | rfl | rfl | rfl | rfl | rfl | rfl | rfl | rfl : i = 0 ∨ i = 1 ∨ i = 2 ∨ i = 3 ∨ i = 4 ∨ i = 5 ∨ i = 6 ∨ i = 7 ∨ i = 8 ∨ i = 9 ∨ i = 10 := by omega
  · obtain ⟨x1, x2, x3, rfl⟩ : ∃ x1 x2 x3, xs = [x1, x2, x3] := match xs, hl with | [x1, x2, x3], _ => ⟨_, _, _, rfl⟩
    refine if_yes S hk rfl ?_
    refine ret_ (lst_ (cons_ (rd S hk (f := "word") rfl (by simp [attrs]) rfl ?_)))
    refine cons_ (rd S hk (f := "procedure") rfl (by simp [attrs]) rfl ?_)
    refine cons_ (rd S hk (f := "place") rfl (by simp [attrs]) rfl ?_)
    refine ⟨(by show 3 ≤ sizeLine; decide), fun l hl => ?_⟩
    exact q l _ (same_new hl _) hl upd_same
  · obtain ⟨x1, rfl⟩ : ∃ x1, xs = [x1] := match xs, hl with | [x1], _ => ⟨_, rfl⟩
    refine if_no S hk 0 rfl ?_
    refine if_no S hk 4 rfl ?_
    refine two S hk rfl fun p hp => ?_
    refine ifN (by decide) ?_
    have s1 := same_new hp (.tup [.ref (C 2), .ref (C 6)])
    have hk := hk.mono s1
    refine if_no S hk 7 rfl ?_
    refine if_no S hk 9 rfl ?_
    refine if_no S hk 5 rfl ?_
    refine if_yes S hk rfl ?_
    refine ret_ (lst_ (cons_ (rd S hk (f := "line") rfl (by simp [attrs]) rfl ?_)))
    refine ⟨(by show 1 ≤ sizeLine; decide), fun l hl => ?_⟩
    exact q l _ (s1.trans (same_new hl _)) (s1.free hl) upd_same
  · obtain ⟨x1, x2, rfl⟩ : ∃ x1 x2, xs = [x1, x2] := match xs, hl with | [x1, x2], _ => ⟨_, _, rfl⟩
    refine if_no S hk 0 rfl ?_
    refine if_no S hk 4 rfl ?_
    refine two S hk rfl fun p hp => ?_
    refine ifE (by decide) ?_
    have s1 := same_new hp (.tup [.ref (C 2), .ref (C 6)])
    have hk := hk.mono s1
    refine ret_ (lst_ (cons_ (rd S hk (f := "word") rfl (by simp [attrs]) rfl ?_)))
    refine cons_ (rd S hk (f := "index") rfl (by simp [attrs]) rfl ?_)
    refine ⟨(by show 2 ≤ sizeLine; decide), fun l hl => ?_⟩
    exact q l _ (s1.trans (same_new hl _)) (s1.free hl) upd_same
  · obtain ⟨x1, rfl⟩ : ∃ x1, xs = [x1] := match xs, hl with | [x1], _ => ⟨_, rfl⟩
    refine if_no S hk 0 rfl ?_
    refine if_no S hk 4 rfl ?_
    refine two S hk rfl fun p hp => ?_
    refine ifN (by decide) ?_
    have s1 := same_new hp (.tup [.ref (C 2), .ref (C 6)])
    have hk := hk.mono s1
    refine if_no S hk 7 rfl ?_
    refine if_no S hk 9 rfl ?_
    refine if_no S hk 5 rfl ?_
    refine if_no S hk 1 rfl ?_
    refine if_yes S hk rfl ?_
    refine ret_ (lst_ (cons_ (rd S hk (f := "steps") rfl (by simp [attrs]) rfl ?_)))
    refine ⟨(by show 1 ≤ sizeLine; decide), fun l hl => ?_⟩
    exact q l _ (s1.trans (same_new hl _)) (s1.free hl) upd_same
  · obtain ⟨x1, x2, x3, rfl⟩ : ∃ x1 x2 x3, xs = [x1, x2, x3] := match xs, hl with | [x1, x2, x3], _ => ⟨_, _, _, rfl⟩
    refine if_no S hk 0 rfl ?_
    refine if_yes S hk rfl ?_
    refine ret_ (lst_ (cons_ (rd S hk (f := "word") rfl (by simp [attrs]) rfl ?_)))
    refine cons_ (rd S hk (f := "procedure") rfl (by simp [attrs]) rfl ?_)
    refine cons_ (rd S hk (f := "row") rfl (by simp [attrs]) rfl ?_)
    refine ⟨(by show 3 ≤ sizeLine; decide), fun l hl => ?_⟩
    exact q l _ (same_new hl _) hl upd_same
  · obtain ⟨x1, x2, rfl⟩ : ∃ x1 x2, xs = [x1, x2] := match xs, hl with | [x1, x2], _ => ⟨_, _, rfl⟩
    refine if_no S hk 0 rfl ?_
    refine if_no S hk 4 rfl ?_
    refine two S hk rfl fun p hp => ?_
    refine ifN (by decide) ?_
    have s1 := same_new hp (.tup [.ref (C 2), .ref (C 6)])
    have hk := hk.mono s1
    refine if_no S hk 7 rfl ?_
    refine if_no S hk 9 rfl ?_
    refine if_yes S hk rfl ?_
    refine ret_ (lst_ (cons_ (rd S hk (f := "procedure") rfl (by simp [attrs]) rfl ?_)))
    refine cons_ (rd S hk (f := "number") rfl (by simp [attrs]) rfl ?_)
    refine ⟨(by show 2 ≤ sizeLine; decide), fun l hl => ?_⟩
    exact q l _ (s1.trans (same_new hl _)) (s1.free hl) upd_same
  · obtain ⟨x1, x2, rfl⟩ : ∃ x1 x2, xs = [x1, x2] := match xs, hl with | [x1, x2], _ => ⟨_, _, rfl⟩
    refine if_no S hk 0 rfl ?_
    refine if_no S hk 4 rfl ?_
    refine two S hk rfl fun p hp => ?_
    refine ifE (by decide) ?_
    have s1 := same_new hp (.tup [.ref (C 2), .ref (C 6)])
    have hk := hk.mono s1
    refine ret_ (lst_ (cons_ (rd S hk (f := "word") rfl (by simp [attrs]) rfl ?_)))
    refine cons_ (rd S hk (f := "index") rfl (by simp [attrs]) rfl ?_)
    refine ⟨(by show 2 ≤ sizeLine; decide), fun l hl => ?_⟩
    exact q l _ (s1.trans (same_new hl _)) (s1.free hl) upd_same
  · obtain ⟨x1, x2, x3, rfl⟩ : ∃ x1 x2 x3, xs = [x1, x2, x3] := match xs, hl with | [x1, x2, x3], _ => ⟨_, _, _, rfl⟩
    refine if_no S hk 0 rfl ?_
    refine if_no S hk 4 rfl ?_
    refine two S hk rfl fun p hp => ?_
    refine ifN (by decide) ?_
    have s1 := same_new hp (.tup [.ref (C 2), .ref (C 6)])
    have hk := hk.mono s1
    refine if_yes S hk rfl ?_
    refine ret_ (lst_ (cons_ (rd S hk (f := "part") rfl (by simp [attrs]) rfl ?_)))
    refine cons_ (rd S hk (f := "used") rfl (by simp [attrs]) rfl ?_)
    refine cons_ (rd S hk (f := "caller") rfl (by simp [attrs]) rfl ?_)
    refine ⟨(by show 3 ≤ sizeLine; decide), fun l hl => ?_⟩
    exact q l _ (s1.trans (same_new hl _)) (s1.free hl) upd_same
  · obtain rfl : xs = [] := List.length_eq_zero_iff.mp hl
    refine if_no S hk 0 rfl ?_
    refine if_no S hk 4 rfl ?_
    refine two S hk rfl fun p hp => ?_
    refine ifN (by decide) ?_
    have s1 := same_new hp (.tup [.ref (C 2), .ref (C 6)])
    have hk := hk.mono s1
    refine if_no S hk 7 rfl ?_
    refine if_no S hk 9 rfl ?_
    refine if_no S hk 5 rfl ?_
    refine if_no S hk 1 rfl ?_
    refine if_no S hk 3 rfl ?_
    refine ret_ (ife_C S hk 10 rfl (by decide) (ifN (by decide) ?_))
    refine ⟨(by show 0 ≤ sizeLine; decide), fun l hl => ?_⟩
    exact q l _ (s1.trans (same_new hl _)) (s1.free hl) upd_same
  · obtain ⟨x1, x2, x3, x4, rfl⟩ : ∃ x1 x2 x3 x4, xs = [x1, x2, x3, x4] := match xs, hl with | [x1, x2, x3, x4], _ => ⟨_, _, _, _, rfl⟩
    refine if_no S hk 0 rfl ?_
    refine if_no S hk 4 rfl ?_
    refine two S hk rfl fun p hp => ?_
    refine ifN (by decide) ?_
    have s1 := same_new hp (.tup [.ref (C 2), .ref (C 6)])
    have hk := hk.mono s1
    refine if_no S hk 7 rfl ?_
    refine if_yes S hk rfl ?_
    refine ret_ (lst_ (cons_ (rd S hk (f := "procedure") rfl (by simp [attrs]) rfl ?_)))
    refine cons_ (rd S hk (f := "place") rfl (by simp [attrs]) rfl ?_)
    refine cons_ (rd S hk (f := "carrier") rfl (by simp [attrs]) rfl ?_)
    refine cons_ (rd S hk (f := "answers") rfl (by simp [attrs]) rfl ?_)
    refine ⟨(by show 4 ≤ sizeLine; decide), fun l hl => ?_⟩
    exact q l _ (s1.trans (same_new hl _)) (s1.free hl) upd_same
  · obtain ⟨x1, rfl⟩ : ∃ x1, xs = [x1] := match xs, hl with | [x1], _ => ⟨_, rfl⟩
    refine if_no S hk 0 rfl ?_
    refine if_no S hk 4 rfl ?_
    refine two S hk rfl fun p hp => ?_
    refine ifN (by decide) ?_
    have s1 := same_new hp (.tup [.ref (C 2), .ref (C 6)])
    have hk := hk.mono s1
    refine if_no S hk 7 rfl ?_
    refine if_no S hk 9 rfl ?_
    refine if_no S hk 5 rfl ?_
    refine if_no S hk 1 rfl ?_
    refine if_no S hk 3 rfl ?_
    refine ret_ (ife_C S hk 10 rfl (by decide) (ifE (by decide) ?_))
    refine lst_ (cons_ (rd S hk (f := "name") rfl (by simp [attrs]) rfl ?_))
    refine ⟨(by show 1 ≤ sizeLine; decide), fun l hl => ?_⟩
    exact q l _ (s1.trans (same_new hl _)) (s1.free hl) upd_same
end
end Mine

set_option Elab.async false
set_option maxRecDepth 100000
set_option maxHeartbeats 4000000
namespace Mine
open PySem L2
abbrev sSorts : Stmt := top 20
abbrev NSorts : List Str := ["_law_one", "_law_found"]
theorem scSorts : FnScope NSorts ["_law_one"] (defScope sSorts) := ⟨rfl, rfl, rfl, by decide +kernel, rfl, by decide +kernel, by decide +kernel⟩
def bls (i : Nat) (js : List Nat) : List V := js.map fun j => .bl (decide (i = j))
def spSorts (C : Nat → Addr) : Sp := fun vs H Q _ => ∃ (e : Addr) (i : Nat) (xs : List V), vs = [.ref e] ∧ Kd C H e i xs ∧ ∀ l H', Same H H' → H l = none → H' l = some (.lst (bls i [0, 1, 2, 3, 4, 5, 6, 7, 8, 9, 10])) → Q (.ref l) H'
section
variable {P : Program} {w : World} {K : PySem.W.Frag} {mg : Str → Option Value} {base : Heap} {f B : Addr} {fd : FuncData} {C : Nat → Addr} {H : Hp} {e : Addr} {i : Nat} {xs : List V}
theorem is_e (S : Sorts K mg C B) (h : Kd C H e i xs) (j : Nat) {σ : St} {Q : VK} (hσ : σ[0]? = some (some (.ref e))) (hj : j < 11) (q : Q (.bl (decide (i = j))) H) :
    tCB (rXis K) (tCons (tVar 0) (tCons (tC (.ref (C j))) tNil)) σ H Q := by
  refine ⟨_, hσ, ?_⟩
  show rXis K [.ref e, .ref (C j)] H Q
  exact is_C S h hj q
theorem set_ {te : TE} {i : Nat} {D : Ends} {σ : St} {u : TS} (h : te σ H fun v H1 => u D (σ.set i (some v)) H1) : tSeq (tAsg te (gName i)) u D σ H := h
/-- xs + [isinstance(..), ..]: the list in the name, and a new one -/
theorem more {H0 : Hp} {l : Addr} {ys : List V} {σ : St} {ta : TA} {zs : List V} {Q : VK} (hs : Same H0 H) (hl : H l = some (.lst ys)) (hσ : σ[1]? = some (some (.ref l))) (hz : ys.length + zs.length ≤ sizeLine) 
    (ht : ∀ Q' : List V → Hp → Prop, Q' zs H → ta σ H Q') (q : ∀ p H', Same H0 H' → H0 p = none → H' p = some (.lst (ys ++ zs)) → Q (.ref p) H') : tOp rCat (tVar 1) (tLst ta) σ H Q := by
  refine ⟨_, hσ, ?_⟩
  refine lst_ (ht _ ⟨by omega, fun b hb => ?_⟩)
  refine ⟨l, b, ys, zs, rfl, rfl, same_new hb _ _ _ hl, upd_same, hz, fun p hp => ?_⟩
  have h2 := hs.trans ((same_new hb (.lst zs)).trans (same_new hp (.lst (ys ++ zs))))
  exact q p _ h2 ((hs.trans (same_new hb _)).free hp) upd_same
theorem ok_sorts (F : Fun K "_law_sorts" "_law_sorts" sSorts f fd) (T : Zs mg) (S : Sorts K mg C B) : FnOk P w K mg base CX0 1 f fd ["_law_one"] (spSorts C) := by
  refine F.ok scSorts (fun vs H Q E h => ?_) (fun cdv A outer s H vs Q E hr h => ?_)
  · obtain ⟨e, i, xs, rfl, _⟩ := h
    rfl
  obtain ⟨e, i, xs, rfl, hk, q⟩ := h
  refine ⟨_, (pss_cons (ps_set (i := 1) scSorts.nd rfl (Or.inl rfl) (pe_lst (pa_cons (pe_callB call_xis (by rfl) T.z_isinstance (by decide +kernel) (pa_cons (pv 0) (pa_cons (pe_glob (v := .ref (C 0)) rfl (S.mc 0 (by decide)) rfl) pa_nil))) (pa_cons (pe_callB call_xis (by rfl) T.z_isinstance (by decide +kernel) (pa_cons (pv 0) (pa_cons (pe_glob (v := .ref (C 1)) rfl (S.mc 1 (by decide)) rfl) pa_nil))) (pa_cons (pe_callB call_xis (by rfl) T.z_isinstance (by decide +kernel) (pa_cons (pv 0) (pa_cons (pe_glob (v := .ref (C 2)) rfl (S.mc 2 (by decide)) rfl) pa_nil))) pa_nil)))))
    (pss_cons (ps_set (i := 1) scSorts.nd rfl (Or.inl rfl) (pe_op op_cat (pv 1) (pe_lst (pa_cons (pe_callB call_xis (by rfl) T.z_isinstance (by decide +kernel) (pa_cons (pv 0) (pa_cons (pe_glob (v := .ref (C 3)) rfl (S.mc 3 (by decide)) rfl) pa_nil))) (pa_cons (pe_callB call_xis (by rfl) T.z_isinstance (by decide +kernel) (pa_cons (pv 0) (pa_cons (pe_glob (v := .ref (C 4)) rfl (S.mc 4 (by decide)) rfl) pa_nil))) (pa_cons (pe_callB call_xis (by rfl) T.z_isinstance (by decide +kernel) (pa_cons (pv 0) (pa_cons (pe_glob (v := .ref (C 5)) rfl (S.mc 5 (by decide)) rfl) pa_nil))) pa_nil))))))
    (pss_cons (ps_set (i := 1) scSorts.nd rfl (Or.inl rfl) (pe_op op_cat (pv 1) (pe_lst (pa_cons (pe_callB call_xis (by rfl) T.z_isinstance (by decide +kernel) (pa_cons (pv 0) (pa_cons (pe_glob (v := .ref (C 6)) rfl (S.mc 6 (by decide)) rfl) pa_nil))) (pa_cons (pe_callB call_xis (by rfl) T.z_isinstance (by decide +kernel) (pa_cons (pv 0) (pa_cons (pe_glob (v := .ref (C 7)) rfl (S.mc 7 (by decide)) rfl) pa_nil))) (pa_cons (pe_callB call_xis (by rfl) T.z_isinstance (by decide +kernel) (pa_cons (pv 0) (pa_cons (pe_glob (v := .ref (C 8)) rfl (S.mc 8 (by decide)) rfl) pa_nil))) pa_nil))))))
    (pss_one (ps_ret (pe_op op_cat (pv 1) (pe_lst (pa_cons (pe_callB call_xis (by rfl) T.z_isinstance (by decide +kernel) (pa_cons (pv 0) (pa_cons (pe_glob (v := .ref (C 9)) rfl (S.mc 9 (by decide)) rfl) pa_nil))) (pa_cons (pe_callB call_xis (by rfl) T.z_isinstance (by decide +kernel) (pa_cons (pv 0) (pa_cons (pe_glob (v := .ref (C 10)) rfl (S.mc 10 (by decide)) rfl) pa_nil))) pa_nil))))))))), ?_⟩
  refine set_ (lst_ ?_)
  refine cons_ (is_e S hk 0 rfl (by decide) ?_)
  refine cons_ (is_e S hk 1 rfl (by decide) (cons_ (is_e S hk 2 rfl (by decide) ?_)))
  refine ⟨(by show 3 ≤ sizeLine; decide), fun l1 n1 => ?_⟩
  have s1 := same_new n1 (.lst (bls i [0, 1, 2]))
  have k1 := hk.mono s1
  refine set_ <| more (zs := bls i [3, 4, 5]) s1 upd_same rfl (by show 6 ≤ sizeLine; decide) (fun Q' q' => ?_) fun l2 H2 s2 _ e2 => ?_
  · exact cons_ (is_e S k1 3 rfl (by decide) (cons_ (is_e S k1 4 rfl (by decide) (cons_ (is_e S k1 5 rfl (by decide) q')))))
  have k2 := hk.mono s2
  refine set_ <| more (zs := bls i [6, 7, 8]) s2 e2 rfl (by show 9 ≤ sizeLine; decide) (fun Q' q' => ?_) fun l3 H3 s3 _ e3 => ?_
  · exact cons_ (is_e S k2 6 rfl (by decide) (cons_ (is_e S k2 7 rfl (by decide) (cons_ (is_e S k2 8 rfl (by decide) q')))))
  have k3 := hk.mono s3
  refine ret_ (more (zs := bls i [9, 10]) s3 e3 rfl (by show 11 ≤ sizeLine; decide) (fun Q' q' => ?_) fun l4 H4 s4 n4 e4 => ?_)
  · exact cons_ (is_e S k3 9 rfl (by decide) (cons_ (is_e S k3 10 rfl (by decide) q')))
  exact q l4 H4 s4 n4 e4
end
end Mine

set_option Elab.async false
set_option maxRecDepth 100000
set_option maxHeartbeats 4000000
namespace Mine
open PySem L2
/-! ### making errors: by position, by keyword -/
def kws (i : Nat) : List Str := if i = 0 then ["place", "word", "procedure"] else (attrs i).reverse
def kg {α : Type} (i : Nat) (us ws : List α) : List α := us ++ (if i = 0 then ws.drop 1 ++ ws.take 1 else ws.reverse)
theorem kg_rel (i : Nat) {vs zs : List V} {us ws : List Value} (r : Vals vs us) (s : Vals zs ws) : Vals (kg i vs zs) (kg i us ws) := by
  unfold kg
  by_cases h : i = 0
  · rw [if_pos h, if_pos h]
    exact r.append ((s.drop 1).append (s.take 1))
  · rw [if_neg h, if_neg h]
    exact r.append s.reverse
abbrev psI (i : Nat) : List Str := "self" :: attrs i
structure Ini (P : Program) (w : World) (K : PySem.W.Frag) (mg : Str → Option Value) (base : Heap) (C : Nat → Addr) (i : Nat) : Prop where
  ex : ∃ (fI : Addr) (fd : FuncData), PySem.W.findIn K (.ref (C i)) "__init__" = some (some (.ref fI)) ∧ PySem.W.typeIn K (.ref fI) = some (.type "function") ∧ FnOk P w K mg base CX0 1 fI fd (psI i) (spInit (C i) (attrs i)) ∧
    KBn K fd (psI i) ((attrs i).length + 1) [] (fun us _ => us) (fun vs _ => vs) ∧ KBn K fd (psI i) 1 (kws i) (kg i) (kg i)
theorem kb_pos {K : PySem.W.Frag} {fd : FuncData} {ps : List Str} {n : Nat} (b : Binds K fd ps []) (hn : ps.length = n) : KBn K fd ps n [] (fun us _ => us) (fun vs _ => vs) where
  to := fun s us ws X l1 l2 => by
    have h := b s us X (by rw [List.append_nil, l1, hn])
    rw [List.append_nil] at h
    exact h
  rel := fun r _ => r
theorem kb_kw {K : PySem.W.Frag} {x qual : Str} {st : Stmt} {f : Addr} {fd : FuncData} {ps : List Str} {i : Nat} (F : Fun K x qual st f fd)
    (h : ∀ (kV doc pm : Value) (an : Option Addr) (cdv ct : Value) (us ws : List Value), us.length = 1 → ws.length = (kws i).length → bindArgs (PySem.W.fnOf x qual (defArgs st) (defBody st) (defScope st) .none kV doc pm an cdv ct) ⟨us, (kws i).zip ws⟩ = pure (ps.zip (kg i us ws))) : KBn K fd ps 1 (kws i) (kg i) (kg i) where
  to := fun s us ws X l1 l2 => by
    obtain ⟨oc, od, kV, doc, pm, an, cdv, ct, osl, rfl, lk, hcd⟩ := F.ex
    exact .of_eq (h kV doc pm an cdv ct us ws l1 l2)
  rel := fun r s => kg_rel i r s
section
variable {X : Cx} {C : Nat → Addr} {B : Addr} {i : Nat} {x : Str} {p pos : Pos} {e : Expr} {es : List Expr} {t tk : TA} {kw : List Keyword}
theorem pe_pos (S : Sorts X.K X.mg C B) (I : Ini X.prog X.w X.K X.mg X.base C i) (hi : i < 11) (hr : Room 2 X.A) (hg : Gl X x) (hx : cname i = x) (ha : PA X (e :: es) t) (hdb : (x == ("__debug__" : Str)) = false := by decide)
    (he : starEach (e :: es) X.env = (false, eval e X.env) :: starEach es X.env := by rfl) (hpl : (backTo pos (starEach es X.env)).any (·.1) = false := by rfl) :
    PE X (.Call (.Name x p) (e :: es) [] pos) (tMkX (C i) (attrs i).length 0 (spInit (C i) (attrs i)) (fun vs _ => vs) t tNil) := by
  obtain ⟨fI, fd, h1, h2, h3, h4, h5⟩ := I.ex
  refine pe_mkX (S.xc i hi) h1 h2 h3 hr hg (hx ▸ S.mc i hi) h4 ?_ ha hdb he hpl
  unfold attrs
  split <;> decide
theorem pe_kw (S : Sorts X.K X.mg C B) (I : Ini X.prog X.w X.K X.mg X.base C i) (hi : i < 11) (hr : Room 2 X.A) (hg : Gl X x) (hx : cname i = x) (hkw : PK X kw tk)
    (hall : (backToKw pos (keywordEach kw X.env)).all (·.1.isSome) = true := by rfl) (hks : (backToKw pos (keywordEach kw X.env)).filterMap (·.1) = kws i := by rfl) (hdb : (x == ("__debug__" : Str)) = false := by decide)
    (hpl : ((backTo pos (starEach [] X.env)).any (·.1) || (backToKw pos (keywordEach kw X.env)).any (·.1.isNone)) = false := by rfl) :
    PE X (.Call (.Name x p) [] kw pos) (tMkX (C i) 0 (kws i).length (spInit (C i) (attrs i)) (kg i) tNil tk) := by
  obtain ⟨fI, fd, h1, h2, h3, h4, h5⟩ := I.ex
  exact pe_mkXK (S.xc i hi) h1 h2 h3 hr hg (hx ▸ S.mc i hi) h5 hkw hall hks hdb hpl
end
/-- a pair of an error and what it must keep -/
def Pr (C : Nat → Addr) (H : Hp) (p : Addr) (i : Nat) (vs : List V) : Prop := ∃ e l, H p = some (.tup [.ref e, .ref l]) ∧ Kd C H e i vs ∧ H l = some (.lst vs)
inductive Prs (C : Nat → Addr) (H : Hp) : List V → List (Nat × List V) → Prop
  | nil : Prs C H [] []
  | cons {p : Addr} {i : Nat} {vs : List V} {xs : List V} {ds : List (Nat × List V)} : Pr C H p i vs → Prs C H xs ds → Prs C H (.ref p :: xs) ((i, vs) :: ds)
section
variable {K : PySem.W.Frag} {C : Nat → Addr} {H H' H0 : Hp} {p : Addr} {i : Nat} {vs xs ys : List V} {ds es : List (Nat × List V)}
theorem Pr.mono (s : Same H H') (h : Pr C H p i vs) : Pr C H' p i vs := by
  obtain ⟨e, l, h1, h2, h3⟩ := h
  exact ⟨e, l, s _ _ h1, h2.mono s, s _ _ h3⟩
theorem Prs.mono (s : Same H H') (h : Prs C H xs ds) : Prs C H' xs ds := by
  induction h with
  | nil => exact .nil
  | cons h _ ih => exact .cons (h.mono s) ih
theorem Prs.append (h : Prs C H xs ds) (k : Prs C H ys es) : Prs C H (xs ++ ys) (ds ++ es) := by
  induction h with
  | nil => exact k
  | cons h _ ih => exact .cons h ih
theorem Prs.len (h : Prs C H xs ds) : xs.length = ds.length := by
  induction h with
  | nil => rfl
  | cons h _ ih => exact congrArg Nat.succ ih
/-- a new error -/
theorem rd_mk {σ : St} {Q : VK} {t tk : TA} {n m : Nat} {gV : List V → List V → List V} {zs : List V} (hi : i < 11) (ht : ∀ Q' : List V → Hp → Prop, Q' vs H → t σ H Q') (hk : ∀ Q' : List V → Hp → Prop, Q' zs H → tk σ H Q') (l1 : vs.length = n) (l2 : zs.length = m) (l3 : ys.length = (attrs i).length) (hg : ∀ a : V, gV (a :: vs) zs = a :: ys)
    (q : ∀ e H', Same H H' → H e = none → Kd C H' e i ys → Q (.ref e) H') : tMkX (C i) n m (spInit (C i) (attrs i)) gV t tk σ H Q := by
  refine ht _ (hk _ ⟨l1, l2, fun a ha => ?_⟩)
  rw [hg]
  refine ⟨a, ys, rfl, l3, upd_same, fun H' he hs => ⟨rfl, ?_⟩⟩
  exact q a H' (fun b o eb => hs b o (ne_of_none eb ha) ((same_new ha _) b o eb)) ha ⟨hi, l3, he⟩
/-- the pair of it and a list -/
theorem rd_pair {σ : St} {Q : VK} {te : TE} {tl : TA} (he : ∀ Q' : VK, (∀ e H', Same H H' → H e = none → Kd C H' e i vs → Q' (.ref e) H') → te σ H Q') (hl : ∀ (H1 : Hp) (Q' : List V → Hp → Prop), Q' vs H1 → tl σ H1 Q') (hn : vs.length ≤ 10)
    (q : ∀ p H', Same H H' → Pr C H' p i vs → Q (.ref p) H') : tTup (tCons te (tCons (tLst tl) tNil)) σ H Q := by
  refine he _ fun e H1 s1 n1 k1 => ?_
  refine lst_ (hl _ _ ⟨Nat.le_trans hn (by decide), fun l nl => ?_⟩)
  refine ⟨(by show 2 ≤ sizeLine; decide), fun p np => ?_⟩
  have s2 := same_new nl (.lst vs)
  have s3 := same_new np (.tup [.ref e, .ref l])
  exact q p _ (s1.trans (s2.trans s3)) ⟨e, l, upd_same, k1.mono (s2.trans s3), s3 _ _ upd_same⟩
/-- found + [pairs] -/
theorem rd_more {l : Addr} {σ : St} {ta : TA} {Q : VK} (hs : Same H0 H) (hl : H l = some (.lst xs)) (hp : Prs C H xs ds) (hσ : σ[5]? = some (some (.ref l))) (hz : ds.length + es.length ≤ 100)
    (ht : ∀ Q' : List V → Hp → Prop, (∀ ys H1, Same H H1 → Prs C H1 ys es → Q' ys H1) → ta σ H Q') (q : ∀ p H' zs, Same H0 H' → H' p = some (.lst zs) → Prs C H' zs (ds ++ es) → Q (.ref p) H') : tOp rCat (tVar 5) (tLst ta) σ H Q := by
  refine ⟨_, hσ, ?_⟩
  refine lst_ (ht _ fun ys H1 s1 p1 => ?_)
  have lx := hp.len
  have ly := p1.len
  refine ⟨Nat.le_trans (by omega) (by decide : 100 ≤ sizeLine), fun b hb => ?_⟩
  have s2 := same_new hb (.lst ys)
  refine ⟨l, b, xs, ys, rfl, rfl, s2 _ _ (s1 _ _ hl), upd_same, Nat.le_trans (by omega) (by decide : 100 ≤ sizeLine), fun p hp' => ?_⟩
  have s3 := same_new hp' (.lst (xs ++ ys))
  exact q p _ _ (hs.trans (s1.trans (s2.trans s3))) upd_same ((hp.mono (s1.trans (s2.trans s3))).append (p1.mono (s2.trans s3)))
end
end Mine

set_option Elab.async false
set_option maxRecDepth 100000
set_option maxHeartbeats 4000000
namespace Mine
open PySem L2
abbrev sMade : Stmt := top 18
abbrev NMade : List Str := ["_law_box_here", "_law_a", "_law_b", "_law_c", "_law_d", "_law_found", "_law_turn"]
theorem scMade : FnScope NMade ["_law_box_here"] (defScope sMade) := ⟨rfl, rfl, rfl, by decide +kernel, rfl, by decide +kernel, by decide +kernel⟩
/-- what the errors must keep -/
def due (v1 v2 v3 v4 : V) : List (Nat × List V) := [(0, [v1, v2, v3]), (0, [v1, v2, v3]), (1, [v1]), (1, [v2]), (2, [v1, v2]), (2, [v1, v2]), (3, [v3]), (3, [v4]), (4, [v1, v2, v3]), (4, [v1, v2, v3]), (5, [v1, v2]), (5, [v1, v2]), (6, [v3, v4]), (6, [v3, v4]), (7, [v1, v2, v3]), (7, [v1, v2, v3]), (8, []), (9, [v1, v2, v3, v4]), (9, [v1, v2, v3, v4]), (10, [v4]), (10, [v1])]
def spMade (C : Nat → Addr) : Sp := fun vs H Q _ => ∃ b, vs = [.ref b] ∧ Box H b ∧ ∀ (l : Addr) (H' : Hp) (xs : List V) (v1 v2 v3 v4 : V), Box H' b → SameX b H H' → Dv H' v1 40 → Dv H' v2 40 → Dv H' v3 40 → Dv H' v4 40 →
  H' l = some (.lst xs) → Prs C H' xs (due v1 v2 v3 v4) → Q (.ref l) H'
section
variable {P : Program} {w : World} {K : PySem.W.Frag} {mg : Str → Option Value} {base : Heap} {f fS B : Addr} {fd fdS : FuncData} {C : Nat → Addr}
theorem Box.same {H H' : Hp} {b : Addr} (h : Box H b) (s : Same H H') : Box H' b := by
  obtain ⟨x, y, z, e⟩ := h
  exact ⟨x, y, z, s _ _ e⟩
theorem ok_made (F : Fun K "_law_made" "_law_made" sMade f fd) (T : Zs mg) (S : Sorts K mg C B) (I : ∀ i, i < 11 → i ≠ 8 → Ini P w K mg base C i) {bmB : List Value} {BB newId initId : String} (FB : ExcBaseFacts BB newId initId bmB) (cq : PySem.W.excIn K (C 8) bmB newId = true)
    (GS : FnOk P w K mg base CX0 5 fS fdS ["_law_box_here", "_law_deep"] (spSome 4)) (mS : mg "_law_some_value" = some (.ref fS)) (kS : PySem.W.keepIn K (.ref fS) = true) (bS : Binds K fdS ["_law_box_here", "_law_deep"] []) :
    FnOk P w K mg base CX0 6 f fd ["_law_box_here"] (spMade C) := by
  refine F.ok scMade (fun vs H Q E h => ?_) (fun cdv A outer s H vs Q E hr h => ?_)
  · obtain ⟨b, rfl, _⟩ := h
    rfl
  obtain ⟨b, rfl, hB, q⟩ := h
  have hr2 : Room 2 _ := hr.mono (by omega)
  refine ⟨_, (pss_cons (ps_asg (pe_lc (own := [("_law_turn", 6)]) (g := gName 6) (tt := tYes) rfl scMade.nd (pi_range1 rfl T.z_range (pa_cons pe_int pa_nil)) (blkOk_by (N := NMade) (sc := defScope sMade) (by decide +kernel)) (fun _ _ _ _ _ => pg_name (i := 6) scMade.nd rfl (Or.inl rfl)) (fun _ _ _ _ _ => pts_nil) (fun _ _ _ _ _ => (pe_call GS hr rfl mS kS bS .nil pass0 (pa_cons (pv 0) (pa_cons pe_int pa_nil))))) (pg_lst (by rfl) (pgs_cons (pg_name (i := 1) scMade.nd rfl (Or.inl rfl)) (pgs_cons (pg_name (i := 2) scMade.nd rfl (Or.inl rfl)) (pgs_cons (pg_name (i := 3) scMade.nd rfl (Or.inl rfl)) (pgs_cons (pg_name (i := 4) scMade.nd rfl (Or.inl rfl)) pgs_nil))))))
    (pss_cons (ps_set (i := 5) scMade.nd rfl (Or.inl rfl) (pe_lst (pa_cons (pe_tup (pa_cons (pe_pos S (I 0 (by decide) (by decide)) (by decide) hr2 rfl rfl (pa_cons (pv 1) (pa_cons (pv 2) (pa_cons (pv 3) pa_nil)))) (pa_cons (pe_lst (pa_cons (pv 1) (pa_cons (pv 2) (pa_cons (pv 3) pa_nil)))) pa_nil))) (pa_cons (pe_tup (pa_cons (pe_kw S (I 0 (by decide) (by decide)) (by decide) hr2 rfl rfl (pk_cons (pv 3) (pk_cons (pv 1) (pk_cons (pv 2) pk_nil)))) (pa_cons (pe_lst (pa_cons (pv 1) (pa_cons (pv 2) (pa_cons (pv 3) pa_nil)))) pa_nil))) pa_nil))))
    (pss_cons (ps_set (i := 5) scMade.nd rfl (Or.inl rfl) (pe_op op_cat (pv 5) (pe_lst (pa_cons (pe_tup (pa_cons (pe_pos S (I 1 (by decide) (by decide)) (by decide) hr2 rfl rfl (pa_cons (pv 1) pa_nil)) (pa_cons (pe_lst (pa_cons (pv 1) pa_nil)) pa_nil))) (pa_cons (pe_tup (pa_cons (pe_kw S (I 1 (by decide) (by decide)) (by decide) hr2 rfl rfl (pk_cons (pv 2) pk_nil)) (pa_cons (pe_lst (pa_cons (pv 2) pa_nil)) pa_nil))) (pa_cons (pe_tup (pa_cons (pe_pos S (I 2 (by decide) (by decide)) (by decide) hr2 rfl rfl (pa_cons (pv 1) (pa_cons (pv 2) pa_nil))) (pa_cons (pe_lst (pa_cons (pv 1) (pa_cons (pv 2) pa_nil))) pa_nil))) pa_nil))))))
    (pss_cons (ps_set (i := 5) scMade.nd rfl (Or.inl rfl) (pe_op op_cat (pv 5) (pe_lst (pa_cons (pe_tup (pa_cons (pe_kw S (I 2 (by decide) (by decide)) (by decide) hr2 rfl rfl (pk_cons (pv 2) (pk_cons (pv 1) pk_nil))) (pa_cons (pe_lst (pa_cons (pv 1) (pa_cons (pv 2) pa_nil))) pa_nil))) (pa_cons (pe_tup (pa_cons (pe_pos S (I 3 (by decide) (by decide)) (by decide) hr2 rfl rfl (pa_cons (pv 3) pa_nil)) (pa_cons (pe_lst (pa_cons (pv 3) pa_nil)) pa_nil))) (pa_cons (pe_tup (pa_cons (pe_kw S (I 3 (by decide) (by decide)) (by decide) hr2 rfl rfl (pk_cons (pv 4) pk_nil)) (pa_cons (pe_lst (pa_cons (pv 4) pa_nil)) pa_nil))) pa_nil))))))
    (pss_cons (ps_set (i := 5) scMade.nd rfl (Or.inl rfl) (pe_op op_cat (pv 5) (pe_lst (pa_cons (pe_tup (pa_cons (pe_pos S (I 4 (by decide) (by decide)) (by decide) hr2 rfl rfl (pa_cons (pv 1) (pa_cons (pv 2) (pa_cons (pv 3) pa_nil)))) (pa_cons (pe_lst (pa_cons (pv 1) (pa_cons (pv 2) (pa_cons (pv 3) pa_nil)))) pa_nil))) (pa_cons (pe_tup (pa_cons (pe_kw S (I 4 (by decide) (by decide)) (by decide) hr2 rfl rfl (pk_cons (pv 3) (pk_cons (pv 2) (pk_cons (pv 1) pk_nil)))) (pa_cons (pe_lst (pa_cons (pv 1) (pa_cons (pv 2) (pa_cons (pv 3) pa_nil)))) pa_nil))) pa_nil)))))
    (pss_cons (ps_set (i := 5) scMade.nd rfl (Or.inl rfl) (pe_op op_cat (pv 5) (pe_lst (pa_cons (pe_tup (pa_cons (pe_pos S (I 5 (by decide) (by decide)) (by decide) hr2 rfl rfl (pa_cons (pv 1) (pa_cons (pv 2) pa_nil))) (pa_cons (pe_lst (pa_cons (pv 1) (pa_cons (pv 2) pa_nil))) pa_nil))) (pa_cons (pe_tup (pa_cons (pe_kw S (I 5 (by decide) (by decide)) (by decide) hr2 rfl rfl (pk_cons (pv 2) (pk_cons (pv 1) pk_nil))) (pa_cons (pe_lst (pa_cons (pv 1) (pa_cons (pv 2) pa_nil))) pa_nil))) (pa_cons (pe_tup (pa_cons (pe_pos S (I 6 (by decide) (by decide)) (by decide) hr2 rfl rfl (pa_cons (pv 3) (pa_cons (pv 4) pa_nil))) (pa_cons (pe_lst (pa_cons (pv 3) (pa_cons (pv 4) pa_nil))) pa_nil))) pa_nil))))))
    (pss_cons (ps_set (i := 5) scMade.nd rfl (Or.inl rfl) (pe_op op_cat (pv 5) (pe_lst (pa_cons (pe_tup (pa_cons (pe_kw S (I 6 (by decide) (by decide)) (by decide) hr2 rfl rfl (pk_cons (pv 4) (pk_cons (pv 3) pk_nil))) (pa_cons (pe_lst (pa_cons (pv 3) (pa_cons (pv 4) pa_nil))) pa_nil))) (pa_cons (pe_tup (pa_cons (pe_pos S (I 7 (by decide) (by decide)) (by decide) hr2 rfl rfl (pa_cons (pv 1) (pa_cons (pv 2) (pa_cons (pv 3) pa_nil)))) (pa_cons (pe_lst (pa_cons (pv 1) (pa_cons (pv 2) (pa_cons (pv 3) pa_nil)))) pa_nil))) pa_nil)))))
    (pss_cons (ps_set (i := 5) scMade.nd rfl (Or.inl rfl) (pe_op op_cat (pv 5) (pe_lst (pa_cons (pe_tup (pa_cons (pe_kw S (I 7 (by decide) (by decide)) (by decide) hr2 rfl rfl (pk_cons (pv 3) (pk_cons (pv 2) (pk_cons (pv 1) pk_nil)))) (pa_cons (pe_lst (pa_cons (pv 1) (pa_cons (pv 2) (pa_cons (pv 3) pa_nil)))) pa_nil))) (pa_cons (pe_tup (pa_cons (pe_mkX0 FB (S.xc 8 (by decide)) cq rfl (S.mc 8 (by decide))) (pa_cons (pe_lst pa_nil) pa_nil))) pa_nil)))))
    (pss_cons (ps_set (i := 5) scMade.nd rfl (Or.inl rfl) (pe_op op_cat (pv 5) (pe_lst (pa_cons (pe_tup (pa_cons (pe_pos S (I 9 (by decide) (by decide)) (by decide) hr2 rfl rfl (pa_cons (pv 1) (pa_cons (pv 2) (pa_cons (pv 3) (pa_cons (pv 4) pa_nil))))) (pa_cons (pe_lst (pa_cons (pv 1) (pa_cons (pv 2) (pa_cons (pv 3) (pa_cons (pv 4) pa_nil))))) pa_nil))) pa_nil))))
    (pss_cons (ps_set (i := 5) scMade.nd rfl (Or.inl rfl) (pe_op op_cat (pv 5) (pe_lst (pa_cons (pe_tup (pa_cons (pe_kw S (I 9 (by decide) (by decide)) (by decide) hr2 rfl rfl (pk_cons (pv 4) (pk_cons (pv 3) (pk_cons (pv 2) (pk_cons (pv 1) pk_nil))))) (pa_cons (pe_lst (pa_cons (pv 1) (pa_cons (pv 2) (pa_cons (pv 3) (pa_cons (pv 4) pa_nil))))) pa_nil))) pa_nil))))
    (pss_one (ps_ret (pe_op op_cat (pv 5) (pe_lst (pa_cons (pe_tup (pa_cons (pe_pos S (I 10 (by decide) (by decide)) (by decide) hr2 rfl rfl (pa_cons (pv 4) pa_nil)) (pa_cons (pe_lst (pa_cons (pv 4) pa_nil)) pa_nil))) (pa_cons (pe_tup (pa_cons (pe_kw S (I 10 (by decide) (by decide)) (by decide) hr2 rfl rfl (pk_cons (pv 1) pk_nil)) (pa_cons (pe_lst (pa_cons (pv 1) pa_nil)) pa_nil))) pa_nil)))))))))))))))), ?_⟩
  refine ⟨4, rfl, by decide, by decide, fun D hD => ?_⟩
  have hbD : b ≠ D := by
    obtain ⟨_, _, _, e⟩ := hB
    exact ne_of_none e hD
  refine lc_range (lo := 0) (n := 4) (fun i H3 => ∃ xs, H3 D = some (.lst xs) ∧ xs.length = i ∧ (∀ x, x ∈ xs → Dv H3 x 40) ∧ Box H3 b ∧ SameX b H H3) ?_ ?_ ?_
  · exact ⟨[], upd_same, rfl, (fun v (hv : v ∈ ([] : List V)) => nomatch hv), hB.same (same_new hD _), SameX.of (same_new hD _)⟩
  · rintro i H3 hi ⟨xs, hx, hl, hd, hB3, x3⟩
    refine ⟨rfl, ?_⟩
    refine ⟨_, rfl, b, 3, rfl, by decide, hB3, fun v H4 dv hB4 x4 => ⟨xs, x4 D _ hbD.symm hx, ?_, ?_⟩⟩
    · rw [hl]
      exact small1000 (by omega)
    · have hD4 := x4 D _ hbD.symm hx
      have t4 : TKeep H3 H4 := x4.keep hB3
      have t5 : TKeep H4 (upd H4 D (.lst (xs ++ [v]))) := fun a ys e => by
        rw [upd_ne (ne_of e hD4 (by intro z; cases z))]
        exact e
      refine ⟨xs ++ [v], upd_same, by rw [List.length_append, hl]; rfl, fun x hx' => ?_, ?_, fun a o na ea => ?_⟩
      · rcases List.mem_append.mp hx' with h1 | h1
        · exact ((hd x h1).mono t4).mono t5
        · obtain rfl := List.mem_singleton.mp h1
          exact dv.mono t5
      · obtain ⟨x, y, z, e⟩ := hB4
        exact ⟨x, y, z, by rw [upd_ne hbD]; exact e⟩
      · have nD : a ≠ D := ne_of_none ea hD
        rw [upd_ne nD]
        exact x4 a o na (x3 a o na ea)
  rintro H0 ⟨xs, hx, hl, hd, hB0, x0⟩
  obtain ⟨v1, v2, v3, v4, rfl⟩ : ∃ v1 v2 v3 v4, xs = [v1, v2, v3, v4] := match xs, hl with | [v1, v2, v3, v4], _ => ⟨_, _, _, _, rfl⟩
  have fin : ∀ (l : Addr) (G : Hp) (zs : List V), Same H0 G → G l = some (.lst zs) → Prs C G zs (due v1 v2 v3 v4) → Q (.ref l) G := fun l G zs m e p => by
    have tk : TKeep H0 G := fun a ys h => m _ _ h
    exact q l G zs v1 v2 v3 v4 (hB0.same m) (x0.trans (SameX.of m)) ((hd v1 (by simp)).mono tk) ((hd v2 (by simp)).mono tk) ((hd v3 (by simp)).mono tk) ((hd v4 (by simp)).mono tk) e p
  refine ⟨D, [v1, v2, v3, v4], rfl, SqL.of hx, rfl, v1, [v2, v3, v4], rfl, v2, [v3, v4], rfl, v3, [v4], rfl, v4, [], rfl, rfl, ?_⟩
  dsimp only
  refine set_ (lst_ ?_)
  refine cons_ (rd_pair (i := 0) (vs := [v1, v2, v3]) (fun Q' q' => rd_mk (vs := [v1, v2, v3]) (zs := []) (ys := [v1, v2, v3]) (by decide) (fun Q2 q2 => ⟨_, rfl, _, rfl, _, rfl, q2⟩) (fun Q2 q2 => q2) rfl rfl rfl (fun _ => rfl) q') (fun H1 Q2 q2 => ⟨_, rfl, _, rfl, _, rfl, q2⟩) (by show 3 ≤ 10; decide) fun p1 H1 s1 pr1 => ?_)
  refine cons_ (rd_pair (i := 0) (vs := [v1, v2, v3]) (fun Q' q' => rd_mk (vs := []) (zs := [v3, v1, v2]) (ys := [v1, v2, v3]) (by decide) (fun Q2 q2 => q2) (fun Q2 q2 => ⟨_, rfl, _, rfl, _, rfl, q2⟩) rfl rfl rfl (fun _ => rfl) q') (fun H1 Q2 q2 => ⟨_, rfl, _, rfl, _, rfl, q2⟩) (by show 3 ≤ 10; decide) fun p2 H2 s2 pr2 => ?_)
  have prs : Prs C H2 [.ref p1, .ref p2] [(0, [v1, v2, v3]), (0, [v1, v2, v3])] := (.cons (pr1.mono s2) (.cons pr2 .nil))
  refine ⟨(by show 2 ≤ sizeLine; decide), fun l1 n1 => ?_⟩
  have t0 := same_new n1 (.lst ([.ref p1, .ref p2] : List V))
  obtain ⟨G, eG⟩ : ∃ G, G = upd H2 l1 (.lst ([.ref p1, .ref p2] : List V)) := ⟨_, rfl⟩
  rw [← eG] at t0 ⊢
  have e1 : G l1 = some (.lst ([.ref p1, .ref p2] : List V)) := by rw [eG]; exact upd_same
  have m1 : Same H0 G := (s1.trans s2).trans t0
  have q1 := prs.mono t0
  refine set_ (rd_more (es := [(1, [v1]), (1, [v2]), (2, [v1, v2])]) m1 e1 q1 rfl (Nat.le_of_ble_eq_true rfl) (fun Q' qq => ?_) fun l2 G2 z2 m2 e2 q2 => ?_)
  · refine cons_ (rd_pair (i := 1) (vs := [v1]) (fun Q' q' => rd_mk (vs := [v1]) (zs := []) (ys := [v1]) (by decide) (fun Q2 q2 => ⟨_, rfl, q2⟩) (fun Q2 q2 => q2) rfl rfl rfl (fun _ => rfl) q') (fun H1 Q2 q2 => ⟨_, rfl, q2⟩) (by show 1 ≤ 10; decide) fun p1 H1 s1 pr1 => ?_)
    refine cons_ (rd_pair (i := 1) (vs := [v2]) (fun Q' q' => rd_mk (vs := []) (zs := [v2]) (ys := [v2]) (by decide) (fun Q2 q2 => q2) (fun Q2 q2 => ⟨_, rfl, q2⟩) rfl rfl rfl (fun _ => rfl) q') (fun H1 Q2 q2 => ⟨_, rfl, q2⟩) (by show 1 ≤ 10; decide) fun p2 H2 s2 pr2 => ?_)
    refine cons_ (rd_pair (i := 2) (vs := [v1, v2]) (fun Q' q' => rd_mk (vs := [v1, v2]) (zs := []) (ys := [v1, v2]) (by decide) (fun Q2 q2 => ⟨_, rfl, _, rfl, q2⟩) (fun Q2 q2 => q2) rfl rfl rfl (fun _ => rfl) q') (fun H1 Q2 q2 => ⟨_, rfl, _, rfl, q2⟩) (by show 2 ≤ 10; decide) fun p3 H3 s3 pr3 => ?_)
    exact qq _ _ (s1.trans (s2.trans s3)) (.cons (pr1.mono (s2.trans s3)) (.cons (pr2.mono s3) (.cons pr3 .nil)))
  refine set_ (rd_more (es := [(2, [v1, v2]), (3, [v3]), (3, [v4])]) m2 e2 q2 rfl (Nat.le_of_ble_eq_true rfl) (fun Q' qq => ?_) fun l3 G3 z3 m3 e3 q3 => ?_)
  · refine cons_ (rd_pair (i := 2) (vs := [v1, v2]) (fun Q' q' => rd_mk (vs := []) (zs := [v2, v1]) (ys := [v1, v2]) (by decide) (fun Q2 q2 => q2) (fun Q2 q2 => ⟨_, rfl, _, rfl, q2⟩) rfl rfl rfl (fun _ => rfl) q') (fun H1 Q2 q2 => ⟨_, rfl, _, rfl, q2⟩) (by show 2 ≤ 10; decide) fun p1 H1 s1 pr1 => ?_)
    refine cons_ (rd_pair (i := 3) (vs := [v3]) (fun Q' q' => rd_mk (vs := [v3]) (zs := []) (ys := [v3]) (by decide) (fun Q2 q2 => ⟨_, rfl, q2⟩) (fun Q2 q2 => q2) rfl rfl rfl (fun _ => rfl) q') (fun H1 Q2 q2 => ⟨_, rfl, q2⟩) (by show 1 ≤ 10; decide) fun p2 H2 s2 pr2 => ?_)
    refine cons_ (rd_pair (i := 3) (vs := [v4]) (fun Q' q' => rd_mk (vs := []) (zs := [v4]) (ys := [v4]) (by decide) (fun Q2 q2 => q2) (fun Q2 q2 => ⟨_, rfl, q2⟩) rfl rfl rfl (fun _ => rfl) q') (fun H1 Q2 q2 => ⟨_, rfl, q2⟩) (by show 1 ≤ 10; decide) fun p3 H3 s3 pr3 => ?_)
    exact qq _ _ (s1.trans (s2.trans s3)) (.cons (pr1.mono (s2.trans s3)) (.cons (pr2.mono s3) (.cons pr3 .nil)))
  refine set_ (rd_more (es := [(4, [v1, v2, v3]), (4, [v1, v2, v3])]) m3 e3 q3 rfl (Nat.le_of_ble_eq_true rfl) (fun Q' qq => ?_) fun l4 G4 z4 m4 e4 q4 => ?_)
  · refine cons_ (rd_pair (i := 4) (vs := [v1, v2, v3]) (fun Q' q' => rd_mk (vs := [v1, v2, v3]) (zs := []) (ys := [v1, v2, v3]) (by decide) (fun Q2 q2 => ⟨_, rfl, _, rfl, _, rfl, q2⟩) (fun Q2 q2 => q2) rfl rfl rfl (fun _ => rfl) q') (fun H1 Q2 q2 => ⟨_, rfl, _, rfl, _, rfl, q2⟩) (by show 3 ≤ 10; decide) fun p1 H1 s1 pr1 => ?_)
    refine cons_ (rd_pair (i := 4) (vs := [v1, v2, v3]) (fun Q' q' => rd_mk (vs := []) (zs := [v3, v2, v1]) (ys := [v1, v2, v3]) (by decide) (fun Q2 q2 => q2) (fun Q2 q2 => ⟨_, rfl, _, rfl, _, rfl, q2⟩) rfl rfl rfl (fun _ => rfl) q') (fun H1 Q2 q2 => ⟨_, rfl, _, rfl, _, rfl, q2⟩) (by show 3 ≤ 10; decide) fun p2 H2 s2 pr2 => ?_)
    exact qq _ _ (s1.trans s2) (.cons (pr1.mono s2) (.cons pr2 .nil))
  refine set_ (rd_more (es := [(5, [v1, v2]), (5, [v1, v2]), (6, [v3, v4])]) m4 e4 q4 rfl (Nat.le_of_ble_eq_true rfl) (fun Q' qq => ?_) fun l5 G5 z5 m5 e5 q5 => ?_)
  · refine cons_ (rd_pair (i := 5) (vs := [v1, v2]) (fun Q' q' => rd_mk (vs := [v1, v2]) (zs := []) (ys := [v1, v2]) (by decide) (fun Q2 q2 => ⟨_, rfl, _, rfl, q2⟩) (fun Q2 q2 => q2) rfl rfl rfl (fun _ => rfl) q') (fun H1 Q2 q2 => ⟨_, rfl, _, rfl, q2⟩) (by show 2 ≤ 10; decide) fun p1 H1 s1 pr1 => ?_)
    refine cons_ (rd_pair (i := 5) (vs := [v1, v2]) (fun Q' q' => rd_mk (vs := []) (zs := [v2, v1]) (ys := [v1, v2]) (by decide) (fun Q2 q2 => q2) (fun Q2 q2 => ⟨_, rfl, _, rfl, q2⟩) rfl rfl rfl (fun _ => rfl) q') (fun H1 Q2 q2 => ⟨_, rfl, _, rfl, q2⟩) (by show 2 ≤ 10; decide) fun p2 H2 s2 pr2 => ?_)
    refine cons_ (rd_pair (i := 6) (vs := [v3, v4]) (fun Q' q' => rd_mk (vs := [v3, v4]) (zs := []) (ys := [v3, v4]) (by decide) (fun Q2 q2 => ⟨_, rfl, _, rfl, q2⟩) (fun Q2 q2 => q2) rfl rfl rfl (fun _ => rfl) q') (fun H1 Q2 q2 => ⟨_, rfl, _, rfl, q2⟩) (by show 2 ≤ 10; decide) fun p3 H3 s3 pr3 => ?_)
    exact qq _ _ (s1.trans (s2.trans s3)) (.cons (pr1.mono (s2.trans s3)) (.cons (pr2.mono s3) (.cons pr3 .nil)))
  refine set_ (rd_more (es := [(6, [v3, v4]), (7, [v1, v2, v3])]) m5 e5 q5 rfl (Nat.le_of_ble_eq_true rfl) (fun Q' qq => ?_) fun l6 G6 z6 m6 e6 q6 => ?_)
  · refine cons_ (rd_pair (i := 6) (vs := [v3, v4]) (fun Q' q' => rd_mk (vs := []) (zs := [v4, v3]) (ys := [v3, v4]) (by decide) (fun Q2 q2 => q2) (fun Q2 q2 => ⟨_, rfl, _, rfl, q2⟩) rfl rfl rfl (fun _ => rfl) q') (fun H1 Q2 q2 => ⟨_, rfl, _, rfl, q2⟩) (by show 2 ≤ 10; decide) fun p1 H1 s1 pr1 => ?_)
    refine cons_ (rd_pair (i := 7) (vs := [v1, v2, v3]) (fun Q' q' => rd_mk (vs := [v1, v2, v3]) (zs := []) (ys := [v1, v2, v3]) (by decide) (fun Q2 q2 => ⟨_, rfl, _, rfl, _, rfl, q2⟩) (fun Q2 q2 => q2) rfl rfl rfl (fun _ => rfl) q') (fun H1 Q2 q2 => ⟨_, rfl, _, rfl, _, rfl, q2⟩) (by show 3 ≤ 10; decide) fun p2 H2 s2 pr2 => ?_)
    exact qq _ _ (s1.trans s2) (.cons (pr1.mono s2) (.cons pr2 .nil))
  refine set_ (rd_more (es := [(7, [v1, v2, v3]), (8, [])]) m6 e6 q6 rfl (Nat.le_of_ble_eq_true rfl) (fun Q' qq => ?_) fun l7 G7 z7 m7 e7 q7 => ?_)
  · refine cons_ (rd_pair (i := 7) (vs := [v1, v2, v3]) (fun Q' q' => rd_mk (vs := []) (zs := [v3, v2, v1]) (ys := [v1, v2, v3]) (by decide) (fun Q2 q2 => q2) (fun Q2 q2 => ⟨_, rfl, _, rfl, _, rfl, q2⟩) rfl rfl rfl (fun _ => rfl) q') (fun H1 Q2 q2 => ⟨_, rfl, _, rfl, _, rfl, q2⟩) (by show 3 ≤ 10; decide) fun p1 H1 s1 pr1 => ?_)
    refine cons_ (rd_pair (i := 8) (vs := []) (fun Q' q' e he => q' e _ (same_new he _) he ⟨by decide, rfl, .inl ⟨rfl, upd_same⟩⟩) (fun H1 Q2 q2 => q2) (by decide) fun p2 H2 s2 pr2 => ?_)
    exact qq _ _ (s1.trans s2) (.cons (pr1.mono s2) (.cons pr2 .nil))
  refine set_ (rd_more (es := [(9, [v1, v2, v3, v4])]) m7 e7 q7 rfl (Nat.le_of_ble_eq_true rfl) (fun Q' qq => ?_) fun l8 G8 z8 m8 e8 q8 => ?_)
  · refine cons_ (rd_pair (i := 9) (vs := [v1, v2, v3, v4]) (fun Q' q' => rd_mk (vs := [v1, v2, v3, v4]) (zs := []) (ys := [v1, v2, v3, v4]) (by decide) (fun Q2 q2 => ⟨_, rfl, _, rfl, _, rfl, _, rfl, q2⟩) (fun Q2 q2 => q2) rfl rfl rfl (fun _ => rfl) q') (fun H1 Q2 q2 => ⟨_, rfl, _, rfl, _, rfl, _, rfl, q2⟩) (by show 4 ≤ 10; decide) fun p1 H1 s1 pr1 => ?_)
    exact qq _ _ s1 (.cons pr1 .nil)
  refine set_ (rd_more (es := [(9, [v1, v2, v3, v4])]) m8 e8 q8 rfl (Nat.le_of_ble_eq_true rfl) (fun Q' qq => ?_) fun l9 G9 z9 m9 e9 q9 => ?_)
  · refine cons_ (rd_pair (i := 9) (vs := [v1, v2, v3, v4]) (fun Q' q' => rd_mk (vs := []) (zs := [v4, v3, v2, v1]) (ys := [v1, v2, v3, v4]) (by decide) (fun Q2 q2 => q2) (fun Q2 q2 => ⟨_, rfl, _, rfl, _, rfl, _, rfl, q2⟩) rfl rfl rfl (fun _ => rfl) q') (fun H1 Q2 q2 => ⟨_, rfl, _, rfl, _, rfl, _, rfl, q2⟩) (by show 4 ≤ 10; decide) fun p1 H1 s1 pr1 => ?_)
    exact qq _ _ s1 (.cons pr1 .nil)
  refine ret_ (rd_more (es := [(10, [v4]), (10, [v1])]) m9 e9 q9 rfl (Nat.le_of_ble_eq_true rfl) (fun Q' qq => ?_) fun l10 G10 z10 m10 e10 q10 => ?_)
  · refine cons_ (rd_pair (i := 10) (vs := [v4]) (fun Q' q' => rd_mk (vs := [v4]) (zs := []) (ys := [v4]) (by decide) (fun Q2 q2 => ⟨_, rfl, q2⟩) (fun Q2 q2 => q2) rfl rfl rfl (fun _ => rfl) q') (fun H1 Q2 q2 => ⟨_, rfl, q2⟩) (by show 1 ≤ 10; decide) fun p1 H1 s1 pr1 => ?_)
    refine cons_ (rd_pair (i := 10) (vs := [v1]) (fun Q' q' => rd_mk (vs := []) (zs := [v1]) (ys := [v1]) (by decide) (fun Q2 q2 => q2) (fun Q2 q2 => ⟨_, rfl, q2⟩) rfl rfl rfl (fun _ => rfl) q') (fun H1 Q2 q2 => ⟨_, rfl, q2⟩) (by show 1 ≤ 10; decide) fun p2 H2 s2 pr2 => ?_)
    exact qq _ _ (s1.trans s2) (.cons (pr1.mono s2) (.cons pr2 .nil))
  exact fin l10 G10 z10 m10 e10 q10
end
end Mine

set_option Elab.async false
set_option maxRecDepth 100000
set_option maxHeartbeats 4000000
namespace Mine
open PySem L2
abbrev sThrown : Stmt := top 21
abbrev NThrown : List Str := ["_law_form", "_law_a"]
theorem scThrown : FnScope NThrown ["_law_form", "_law_a"] (defScope sThrown) := ⟨rfl, rfl, rfl, by decide +kernel, rfl, by decide +kernel, by decide +kernel⟩
abbrev sCaught : Stmt := top 22
abbrev NCaught : List Str := ["_law_form", "_law_a", "_law_found"]
theorem scCaught : FnScope NCaught ["_law_form", "_law_a"] (defScope sCaught) := ⟨rfl, rfl, rfl, by decide +kernel, rfl, by decide +kernel, by decide +kernel⟩
def spThrown (C : Nat → Addr) : Sp := fun vs H _ E => ∃ (i : Nat) (v : V), vs = [.int i, v] ∧ i < 11 ∧ ∀ d H', Same H H' → E (.ref (C i)) d H'
def spCaught : Sp := fun vs H Q _ => ∃ (i : Nat) (v : V), vs = [.int i, v] ∧ i < 11 ∧ ∀ H', Same H H' → Q (.str (if i = 10 then "key" else "sour")) H'
/-- what except KeyError and except SourError catch -/
structure Catch (K : PySem.W.Frag) (C : Nat → Addr) (B : Addr) : Prop where
  eK : ∀ i, i < 11 → PySem.W.exmOne K (.ref (C i)) (.type "KeyError") = some (i == 10)
  eS : ∀ i, i < 11 → PySem.W.exmOne K (.ref (C i)) (.ref B) = some (i != 10)
section
variable {P : Program} {w : World} {K : PySem.W.Frag} {mg : Str → Option Value} {base : Heap} {f fT B : Addr} {fd fdT : FuncData} {C : Nat → Addr} {H H1 : Hp} {e : Addr} {i : Nat} {xs : List V}
theorem same_del (s : Same H H1) (n : H e = none) : Same H (delH H1 e) := fun b u q => by
  have h : b ≠ e := ne_of_none q n
  show delH H1 e b = some u
  unfold delH
  rw [if_neg h]
  exact s _ _ q
theorem raise_mk (S : Sorts K mg C B) {H0 : Hp} (h0 : H0 = H) {Q : XK} (k : Kd C H1 e i xs) (s : Same H H1) (n : H e = none) (q : ∀ d H', Same H H' → Q (.ref (C i)) d H') :
    ∃ (a D : Addr) (od : Option Addr), V.ref e = .ref a ∧ H1 a = some (exo a D od) ∧ Fr0 H0 a ∧ XC K D ∧ Q (.ref D) od (delH H1 a) := by
  obtain ⟨od, fs, h1, h2⟩ := k.at
  exact ⟨e, C i, od, rfl, h1, fr0_none (by rw [h0]; exact n), S.xc i k.1, q _ _ (same_del s n)⟩
theorem ok_thrown (F : Fun K "_law_thrown" "_law_thrown" sThrown f fd) (S : Sorts K mg C B) (I : ∀ i, i < 11 → i ≠ 8 → Ini P w K mg base C i) {bmB : List Value} {BB newId initId : String} (FB : ExcBaseFacts BB newId initId bmB) (cq : PySem.W.excIn K (C 8) bmB newId = true) :
    FnOk P w K mg base (L2.CX P w) 3 f fd ["_law_form", "_law_a"] (spThrown C) := by
  refine F.okX scThrown (fun vs H Q E h => ?_) (fun cdv A outer s H vs Q E hr2 h => ?_)
  · obtain ⟨i, v, rfl, _⟩ := h
    rfl
  obtain ⟨i, v, rfl, hi, q⟩ := h
  refine ⟨_, (pss_cons (ps_if (pt_cmpR op_eq (pv 0) pe_int (nomark _))
    (pss_one (ps_raise rfl (takes_of rfl rfl rfl rfl) (pmk_val rfl (by exact (pe_pos S (I 0 (by decide) (by decide)) (by decide) hr2 rfl rfl (pa_cons (pv 1) (pa_cons (pv 1) (pa_cons (pv 1) pa_nil))))))))
    pss_nil)
    (pss_cons (ps_if (pt_cmpR op_eq (pv 0) pe_int (nomark _))
    (pss_one (ps_raise rfl (takes_of rfl rfl rfl rfl) (pmk_val rfl (by exact (pe_pos S (I 1 (by decide) (by decide)) (by decide) hr2 rfl rfl (pa_cons (pv 1) pa_nil))))))
    pss_nil)
    (pss_cons (ps_if (pt_cmpR op_eq (pv 0) pe_int (nomark _))
    (pss_one (ps_raise rfl (takes_of rfl rfl rfl rfl) (pmk_val rfl (by exact (pe_pos S (I 2 (by decide) (by decide)) (by decide) hr2 rfl rfl (pa_cons (pv 1) (pa_cons (pv 1) pa_nil)))))))
    pss_nil)
    (pss_cons (ps_if (pt_cmpR op_eq (pv 0) pe_int (nomark _))
    (pss_one (ps_raise rfl (takes_of rfl rfl rfl rfl) (pmk_val rfl (by exact (pe_pos S (I 3 (by decide) (by decide)) (by decide) hr2 rfl rfl (pa_cons (pv 1) pa_nil))))))
    pss_nil)
    (pss_cons (ps_if (pt_cmpR op_eq (pv 0) pe_int (nomark _))
    (pss_one (ps_raise rfl (takes_of rfl rfl rfl rfl) (pmk_val rfl (by exact (pe_pos S (I 4 (by decide) (by decide)) (by decide) hr2 rfl rfl (pa_cons (pv 1) (pa_cons (pv 1) (pa_cons (pv 1) pa_nil))))))))
    pss_nil)
    (pss_cons (ps_if (pt_cmpR op_eq (pv 0) pe_int (nomark _))
    (pss_one (ps_raise rfl (takes_of rfl rfl rfl rfl) (pmk_val rfl (by exact (pe_pos S (I 5 (by decide) (by decide)) (by decide) hr2 rfl rfl (pa_cons (pv 1) (pa_cons (pv 1) pa_nil)))))))
    pss_nil)
    (pss_cons (ps_if (pt_cmpR op_eq (pv 0) pe_int (nomark _))
    (pss_one (ps_raise rfl (takes_of rfl rfl rfl rfl) (pmk_val rfl (by exact (pe_pos S (I 6 (by decide) (by decide)) (by decide) hr2 rfl rfl (pa_cons (pv 1) (pa_cons (pv 1) pa_nil)))))))
    pss_nil)
    (pss_cons (ps_if (pt_cmpR op_eq (pv 0) pe_int (nomark _))
    (pss_one (ps_raise rfl (takes_of rfl rfl rfl rfl) (pmk_val rfl (by exact (pe_pos S (I 7 (by decide) (by decide)) (by decide) hr2 rfl rfl (pa_cons (pv 1) (pa_cons (pv 1) (pa_cons (pv 1) pa_nil))))))))
    pss_nil)
    (pss_cons (ps_if (pt_cmpR op_eq (pv 0) pe_int (nomark _))
    (pss_one (ps_raise rfl (takes_of rfl rfl rfl rfl) (pmk_val rfl (by exact (pe_mkX0 FB (S.xc 8 (by decide)) cq rfl (S.mc 8 (by decide)))))))
    pss_nil)
    (pss_cons (ps_if (pt_cmpR op_eq (pv 0) pe_int (nomark _))
    (pss_one (ps_raise rfl (takes_of rfl rfl rfl rfl) (pmk_val rfl (by exact (pe_pos S (I 9 (by decide) (by decide)) (by decide) hr2 rfl rfl (pa_cons (pv 1) (pa_cons (pv 1) (pa_cons (pv 1) (pa_cons (pv 1) pa_nil)))))))))
    pss_nil)
    (pss_one (ps_raise rfl (takes_of rfl rfl rfl rfl) (pmk_val rfl (by exact (pe_pos S (I 10 (by decide) (by decide)) (by decide) hr2 rfl rfl (pa_cons (pv 1) pa_nil)))))))))))))))), ?_⟩
  obtain rfl | rfl | rfl | rfl | rfl | rfl | rfl | rfl | rfl | rfl | rfl : i = 0 ∨ i = 1 ∨ i = 2 ∨ i = 3 ∨ i = 4 ∨ i = 5 ∨ i = 6 ∨ i = 7 ∨ i = 8 ∨ i = 9 ∨ i = 10 := by omega
  · refine ⟨_, rfl, rfl, _, rfl, ifE (by decide) ?_⟩
    refine rd_mk (i := 0) (vs := [v, v, v]) (zs := []) (ys := [v, v, v]) (by decide) (fun Q2 q2 => ⟨_, rfl, _, rfl, _, rfl, q2⟩) (fun Q2 q2 => q2) rfl rfl rfl (fun _ => rfl) fun e H1 s1 n1 k1 => ?_
    exact raise_mk S rfl k1 s1 n1 q
  · refine ⟨_, rfl, rfl, _, rfl, ifN (by decide) ?_⟩
    refine ⟨_, rfl, rfl, _, rfl, ifE (by decide) ?_⟩
    refine rd_mk (i := 1) (vs := [v]) (zs := []) (ys := [v]) (by decide) (fun Q2 q2 => ⟨_, rfl, q2⟩) (fun Q2 q2 => q2) rfl rfl rfl (fun _ => rfl) fun e H1 s1 n1 k1 => ?_
    exact raise_mk S rfl k1 s1 n1 q
  · refine ⟨_, rfl, rfl, _, rfl, ifN (by decide) ?_⟩
    refine ⟨_, rfl, rfl, _, rfl, ifN (by decide) ?_⟩
    refine ⟨_, rfl, rfl, _, rfl, ifE (by decide) ?_⟩
    refine rd_mk (i := 2) (vs := [v, v]) (zs := []) (ys := [v, v]) (by decide) (fun Q2 q2 => ⟨_, rfl, _, rfl, q2⟩) (fun Q2 q2 => q2) rfl rfl rfl (fun _ => rfl) fun e H1 s1 n1 k1 => ?_
    exact raise_mk S rfl k1 s1 n1 q
  · refine ⟨_, rfl, rfl, _, rfl, ifN (by decide) ?_⟩
    refine ⟨_, rfl, rfl, _, rfl, ifN (by decide) ?_⟩
    refine ⟨_, rfl, rfl, _, rfl, ifN (by decide) ?_⟩
    refine ⟨_, rfl, rfl, _, rfl, ifE (by decide) ?_⟩
    refine rd_mk (i := 3) (vs := [v]) (zs := []) (ys := [v]) (by decide) (fun Q2 q2 => ⟨_, rfl, q2⟩) (fun Q2 q2 => q2) rfl rfl rfl (fun _ => rfl) fun e H1 s1 n1 k1 => ?_
    exact raise_mk S rfl k1 s1 n1 q
  · refine ⟨_, rfl, rfl, _, rfl, ifN (by decide) ?_⟩
    refine ⟨_, rfl, rfl, _, rfl, ifN (by decide) ?_⟩
    refine ⟨_, rfl, rfl, _, rfl, ifN (by decide) ?_⟩
    refine ⟨_, rfl, rfl, _, rfl, ifN (by decide) ?_⟩
    refine ⟨_, rfl, rfl, _, rfl, ifE (by decide) ?_⟩
    refine rd_mk (i := 4) (vs := [v, v, v]) (zs := []) (ys := [v, v, v]) (by decide) (fun Q2 q2 => ⟨_, rfl, _, rfl, _, rfl, q2⟩) (fun Q2 q2 => q2) rfl rfl rfl (fun _ => rfl) fun e H1 s1 n1 k1 => ?_
    exact raise_mk S rfl k1 s1 n1 q
  · refine ⟨_, rfl, rfl, _, rfl, ifN (by decide) ?_⟩
    refine ⟨_, rfl, rfl, _, rfl, ifN (by decide) ?_⟩
    refine ⟨_, rfl, rfl, _, rfl, ifN (by decide) ?_⟩
    refine ⟨_, rfl, rfl, _, rfl, ifN (by decide) ?_⟩
    refine ⟨_, rfl, rfl, _, rfl, ifN (by decide) ?_⟩
    refine ⟨_, rfl, rfl, _, rfl, ifE (by decide) ?_⟩
    refine rd_mk (i := 5) (vs := [v, v]) (zs := []) (ys := [v, v]) (by decide) (fun Q2 q2 => ⟨_, rfl, _, rfl, q2⟩) (fun Q2 q2 => q2) rfl rfl rfl (fun _ => rfl) fun e H1 s1 n1 k1 => ?_
    exact raise_mk S rfl k1 s1 n1 q
  · refine ⟨_, rfl, rfl, _, rfl, ifN (by decide) ?_⟩
    refine ⟨_, rfl, rfl, _, rfl, ifN (by decide) ?_⟩
    refine ⟨_, rfl, rfl, _, rfl, ifN (by decide) ?_⟩
    refine ⟨_, rfl, rfl, _, rfl, ifN (by decide) ?_⟩
    refine ⟨_, rfl, rfl, _, rfl, ifN (by decide) ?_⟩
    refine ⟨_, rfl, rfl, _, rfl, ifN (by decide) ?_⟩
    refine ⟨_, rfl, rfl, _, rfl, ifE (by decide) ?_⟩
    refine rd_mk (i := 6) (vs := [v, v]) (zs := []) (ys := [v, v]) (by decide) (fun Q2 q2 => ⟨_, rfl, _, rfl, q2⟩) (fun Q2 q2 => q2) rfl rfl rfl (fun _ => rfl) fun e H1 s1 n1 k1 => ?_
    exact raise_mk S rfl k1 s1 n1 q
  · refine ⟨_, rfl, rfl, _, rfl, ifN (by decide) ?_⟩
    refine ⟨_, rfl, rfl, _, rfl, ifN (by decide) ?_⟩
    refine ⟨_, rfl, rfl, _, rfl, ifN (by decide) ?_⟩
    refine ⟨_, rfl, rfl, _, rfl, ifN (by decide) ?_⟩
    refine ⟨_, rfl, rfl, _, rfl, ifN (by decide) ?_⟩
    refine ⟨_, rfl, rfl, _, rfl, ifN (by decide) ?_⟩
    refine ⟨_, rfl, rfl, _, rfl, ifN (by decide) ?_⟩
    refine ⟨_, rfl, rfl, _, rfl, ifE (by decide) ?_⟩
    refine rd_mk (i := 7) (vs := [v, v, v]) (zs := []) (ys := [v, v, v]) (by decide) (fun Q2 q2 => ⟨_, rfl, _, rfl, _, rfl, q2⟩) (fun Q2 q2 => q2) rfl rfl rfl (fun _ => rfl) fun e H1 s1 n1 k1 => ?_
    exact raise_mk S rfl k1 s1 n1 q
  · refine ⟨_, rfl, rfl, _, rfl, ifN (by decide) ?_⟩
    refine ⟨_, rfl, rfl, _, rfl, ifN (by decide) ?_⟩
    refine ⟨_, rfl, rfl, _, rfl, ifN (by decide) ?_⟩
    refine ⟨_, rfl, rfl, _, rfl, ifN (by decide) ?_⟩
    refine ⟨_, rfl, rfl, _, rfl, ifN (by decide) ?_⟩
    refine ⟨_, rfl, rfl, _, rfl, ifN (by decide) ?_⟩
    refine ⟨_, rfl, rfl, _, rfl, ifN (by decide) ?_⟩
    refine ⟨_, rfl, rfl, _, rfl, ifN (by decide) ?_⟩
    refine ⟨_, rfl, rfl, _, rfl, ifE (by decide) ?_⟩
    intro e n
    exact raise_mk (i := 8) (xs := []) S rfl ⟨by decide, rfl, .inl ⟨rfl, upd_same⟩⟩ (same_new n _) n q
  · refine ⟨_, rfl, rfl, _, rfl, ifN (by decide) ?_⟩
    refine ⟨_, rfl, rfl, _, rfl, ifN (by decide) ?_⟩
    refine ⟨_, rfl, rfl, _, rfl, ifN (by decide) ?_⟩
    refine ⟨_, rfl, rfl, _, rfl, ifN (by decide) ?_⟩
    refine ⟨_, rfl, rfl, _, rfl, ifN (by decide) ?_⟩
    refine ⟨_, rfl, rfl, _, rfl, ifN (by decide) ?_⟩
    refine ⟨_, rfl, rfl, _, rfl, ifN (by decide) ?_⟩
    refine ⟨_, rfl, rfl, _, rfl, ifN (by decide) ?_⟩
    refine ⟨_, rfl, rfl, _, rfl, ifN (by decide) ?_⟩
    refine ⟨_, rfl, rfl, _, rfl, ifE (by decide) ?_⟩
    refine rd_mk (i := 9) (vs := [v, v, v, v]) (zs := []) (ys := [v, v, v, v]) (by decide) (fun Q2 q2 => ⟨_, rfl, _, rfl, _, rfl, _, rfl, q2⟩) (fun Q2 q2 => q2) rfl rfl rfl (fun _ => rfl) fun e H1 s1 n1 k1 => ?_
    exact raise_mk S rfl k1 s1 n1 q
  · refine ⟨_, rfl, rfl, _, rfl, ifN (by decide) ?_⟩
    refine ⟨_, rfl, rfl, _, rfl, ifN (by decide) ?_⟩
    refine ⟨_, rfl, rfl, _, rfl, ifN (by decide) ?_⟩
    refine ⟨_, rfl, rfl, _, rfl, ifN (by decide) ?_⟩
    refine ⟨_, rfl, rfl, _, rfl, ifN (by decide) ?_⟩
    refine ⟨_, rfl, rfl, _, rfl, ifN (by decide) ?_⟩
    refine ⟨_, rfl, rfl, _, rfl, ifN (by decide) ?_⟩
    refine ⟨_, rfl, rfl, _, rfl, ifN (by decide) ?_⟩
    refine ⟨_, rfl, rfl, _, rfl, ifN (by decide) ?_⟩
    refine ⟨_, rfl, rfl, _, rfl, ifN (by decide) ?_⟩
    unfold tNext
    dsimp only
    refine rd_mk (i := 10) (vs := [v]) (zs := []) (ys := [v]) (by decide) (fun Q2 q2 => ⟨_, rfl, q2⟩) (fun Q2 q2 => q2) rfl rfl rfl (fun _ => rfl) fun e H1 s1 n1 k1 => ?_
    exact raise_mk S rfl k1 s1 n1 q
theorem ok_caught (F : Fun K "_law_caught" "_law_caught" sCaught f fd) (T : Zs mg) (Ct : Catch K C B) (mB : mg "SourError" = some (.ref B))
    (GT : FnOk P w K mg base (L2.CX P w) 3 fT fdT ["_law_form", "_law_a"] (spThrown C)) (mT : mg "_law_thrown" = some (.ref fT)) (kT : PySem.W.keepIn K (.ref fT) = true) (bT : Binds K fdT ["_law_form", "_law_a"] []) :
    FnOk P w K mg base CX0 4 f fd ["_law_form", "_law_a"] spCaught := by
  refine F.ok scCaught (fun vs H Q E h => ?_) (fun cdv A outer s H vs Q E hr h => ?_)
  · obtain ⟨i, v, rfl, _⟩ := h
    rfl
  obtain ⟨i, v, rfl, hi, q⟩ := h
  refine ⟨_, (pss_cons (ps_set (i := 2) scCaught.nd rfl (Or.inl rfl) pe_str)
    (pss_cons (ps_try_many (tb := fun W => tDrop (tCallS (spThrown C) (WE W) (tCons (tVar 0) (tCons (tVar 1) tNil)))) (Wout := fun _ _ _ _ => False)
      (l := [(.type "KeyError", fun _ _ _ => tAsg (tC (.str "key")) (gName 2)), (.ref B, fun _ _ _ => tAsg (tC (.str "sour")) (gName 2))]) rfl rfl takes0
      (fun W pn xe tk _ => pss_one (ps_expr (by exact (pe_callS GT hr rfl mT kT bT (fun σ => passAt tk σ) (by exact (pa_cons (pv 0) (pa_cons (pv 1) pa_nil)))))))
      (.cons ⟨rfl, by decide, .inr ⟨T.z_KeyError, by decide +kernel, by decide⟩⟩ (fun a oe cls d pn hz hf => pss_one (ps_set (i := 2) scCaught.nd rfl (Or.inl rfl) pe_str))
        (.cons ⟨rfl, by decide, .inl mB⟩ (fun a oe cls d pn hz hf => pss_one (ps_set (i := 2) scCaught.nd rfl (Or.inl rfl) pe_str)) .nil)))
    (pss_one (ps_ret (pv 2))))), ?_⟩
  refine ⟨_, rfl, _, rfl, i, v, rfl, hi, fun d H' s => ?_⟩
  refine ⟨_, Ct.eK i hi, fun hb a _ => ?_, fun hb => ?_⟩
  · have e : i = 10 := by simpa using hb
    have q' := q H' s
    rw [if_pos e] at q'
    exact ⟨_, rfl, q'⟩
  · have e : i ≠ 10 := by simpa using hb
    have q' := q H' s
    rw [if_neg e] at q'
    refine ⟨_, Ct.eS i hi, fun _ a _ => ⟨_, rfl, q'⟩, fun hc => ?_⟩
    have e2 : i = 10 := by simpa using hc
    exact absurd e2 e
end
end Mine

set_option Elab.async false
set_option maxRecDepth 100000
set_option maxHeartbeats 4000000
namespace Mine
open PySem L2
abbrev sLaw : Stmt := top 23
abbrev NLaw : List Str := ["_law_script", "_law_k", "_law_box_here", "_law_order", "_law_at", "_law_pair", "_law_one", "_law_due", "_law_value", "_law_form"]
theorem scLaw : FnScope NLaw ["_law_script"] (defScope sLaw) := ⟨rfl, rfl, rfl, by decide +kernel, rfl, by decide +kernel, by decide +kernel⟩
def spLaw (K : PySem.W.Frag) : Sp := fun vs H Q _ => ∃ (a : Addr) (ns : List Int), vs = [.ref a] ∧ SqL K H a (ns.map V.int) ∧ ns.length ≤ 63 ∧ ∀ H', Q (.bl true) H'
section
variable {P : Program} {w : World} {K : PySem.W.Frag} {mg : Str → Option Value} {base : Heap} {f B : Addr} {fd : FuncData} {C : Nat → Addr}
theorem Prs.at {H : Hp} {xs : List V} {ds : List (Nat × List V)} (h : Prs C H xs ds) : ∀ {i : Nat} {x : V}, xs[i]? = some x → ∃ p d, x = .ref p ∧ ds[i]? = some d ∧ Pr C H p d.1 d.2 := by
  induction h with
  | nil =>
    intro i x e
    cases e
  | @cons p j vs xs ds h _ ih =>
    intro i x e
    cases i with
    | zero =>
      cases e
      exact ⟨p, (j, vs), rfl, rfl, h⟩
    | succ i => exact ih e
theorem due_vals {v1 v2 v3 v4 : V} {d : Nat × List V} (h : d ∈ due v1 v2 v3 v4) : d.2.length ≤ 4 ∧ ∀ v, v ∈ d.2 → v = v1 ∨ v = v2 ∨ v = v3 ∨ v = v4 := by
  simp only [due, List.mem_cons, List.not_mem_nil, or_false] at h
  rcases h with e | e | e | e | e | e | e | e | e | e | e | e | e | e | e | e | e | e | e | e | e
  all_goals subst e
  all_goals refine ⟨by simp, fun v hv => ?_⟩
  all_goals simp only [List.mem_cons, List.not_mem_nil, or_false] at hv
  all_goals grind
abbrev orderV : List V := [.int 0, .int 0, .int 1, .int 1, .int 2, .int 2, .int 3, .int 3, .int 4, .int 4, .int 5, .int 5, .int 6, .int 6, .int 7, .int 7, .int 8, .int 9, .int 9, .int 10, .int 10]
theorem due_order {v1 v2 v3 v4 : V} {d : Nat × List V} {i : Nat} (h : (due v1 v2 v3 v4)[i]? = some d) : orderV[i]? = some (.int (d.1 : Nat)) := by
  have e : orderV = (due v1 v2 v3 v4).map fun d => V.int (d.1 : Nat) := rfl
  rw [e, List.getElem?_map, h]
  rfl
theorem due_lt {v1 v2 v3 v4 : V} {d : Nat × List V} {i : Nat} (h : (due v1 v2 v3 v4)[i]? = some d) : i < 21 := by
  have := (List.getElem?_eq_some_iff.mp h).1
  exact this
/-- a list of bools as data -/
theorem dp_bools {K : PySem.W.Frag} {H : Hp} {l : Addr} {bs : List Bool} (h : H l = some (.lst (bs.map V.bl))) : Dp K H (.ref l) (.list (bs.map PyData.bool)) := by
  refine .lst (SqL.of h) ?_
  clear h
  induction bs with
  | nil => exact .nil
  | cons b r ih => exact .cons (.bl b) ih
theorem bools_eq (bs : List Bool) : PyData.eqv (.list (bs.map PyData.bool)) (.list (bs.map PyData.bool)) = true := by
  show PyData.eqvAll _ _ = true
  induction bs with
  | nil => rfl
  | cons b r ih =>
    show ((b == b) && PyData.eqvAll _ _) = true
    rw [ih]
    cases b <;> rfl
def sortsB (i : Nat) : List Bool := [0, 1, 2, 3, 4, 5, 6, 7, 8, 9, 10].map fun j => decide (i = j)
theorem sortsB_shaped (i : Nat) : SeqAt.shaped (.list ((sortsB i).map PyData.bool)) = true := rfl
theorem sortsB_int {i : Nat} (hi : i < 11) : ((List.range 11).map fun (m : Nat) => V.bl (decide (V.int (0 + (m : Int)) = V.int (i : Nat)))) = (sortsB i).map V.bl := by
  obtain rfl | rfl | rfl | rfl | rfl | rfl | rfl | rfl | rfl | rfl | rfl : i = 0 ∨ i = 1 ∨ i = 2 ∨ i = 3 ∨ i = 4 ∨ i = 5 ∨ i = 6 ∨ i = 7 ∨ i = 8 ∨ i = 9 ∨ i = 10 := by omega
  all_goals decide
theorem is_b {H : Hp} {e : Addr} {i : Nat} {xs : List V} (S : Sorts K mg C B) (h : Kd C H e i xs) {s : Nat} {c : V} {u : Value} {b : Bool} (k : ClsV c u) (hb : PySem.W.kitOne K (.ref (C i)) u = some b) {σ : St} {Q : VK} (hσ : σ[s]? = some (some (.ref e))) (q : Q (.bl b) H) :
    tCB (rXis K) (tCons (tVar s) (tCons (tC c) tNil)) σ H Q := by
  refine ⟨_, hσ, ?_⟩
  show rXis K [.ref e, c] H Q
  exact is_of S h k hb q
theorem if_ne {t1 t2 : TE} {x y : V} {H : Hp} {σ : St} {D : Ends} {t : TS} (h1 : ∀ Q : VK, Q x H → t1 σ H Q) (h2 : ∀ Q : VK, Q y H → t2 σ H Q) (hs : scal x y = true) (e : decide (x = y) = true) (q : D.nx σ H) : tIfS (tTest (tOp rNe t1 t2)) t tNext D σ H :=
  h1 _ (h2 _ ⟨hs, _, rfl, ifN (by rw [e]; rfl) q⟩)
theorem if_eq {t1 t2 : TE} {x y : V} {H : Hp} {σ : St} {D : Ends} {t : TS} (h1 : ∀ Q : VK, Q x H → t1 σ H Q) (h2 : ∀ Q : VK, Q y H → t2 σ H Q) (hs : scal x y = true) (e : decide (x = y) = false) (q : D.nx σ H) : tIfS (tTest (tOp rEq t1 t2)) t tNext D σ H :=
  h1 _ (h2 _ ⟨hs, _, rfl, ifN e q⟩)
theorem ne10 (n : Nat) : decide (V.bl (n != 10) = V.bl (!decide (n = 10))) = true := by
  rw [dec_bl]
  by_cases c : n = 10
  · subst c
    rfl
  · have h : (n == 10) = false := beq_false_of_ne c
    rw [decide_eq_false c]
    unfold bne
    rw [h]
    rfl
theorem eq10 (n : Nat) : decide (V.bl (n == 10) = V.bl (n != 10)) = false := by
  rw [dec_bl]
  unfold bne
  cases (n == 10) <;> rfl
theorem ok_law (F : Fun K "law" "law" sLaw f fd) (T : Zs mg) (S : Sorts K mg C B)
    {fBox : Addr} {dBox : FuncData} (GBox : FnOk P w K mg base CX0 1 fBox dBox ["_law_script", "_law_k"] (spBox K)) (mBox : mg "_law_box" = some (.ref fBox)) (kBox : PySem.W.keepIn K (.ref fBox) = true) (bBox : Binds K dBox ["_law_script", "_law_k"] [])
    {fMade : Addr} {dMade : FuncData} (GMade : FnOk P w K mg base CX0 6 fMade dMade ["_law_box_here"] (spMade C)) (mMade : mg "_law_made" = some (.ref fMade)) (kMade : PySem.W.keepIn K (.ref fMade) = true) (bMade : Binds K dMade ["_law_box_here"] [])
    {fAlike : Addr} {dAlike : FuncData} (GAlike : FnOk P w K mg base CX0 1 fAlike dAlike ["_law_found", "_law_due"] spAlike) (mAlike : mg "_law_alike" = some (.ref fAlike)) (kAlike : PySem.W.keepIn K (.ref fAlike) = true) (bAlike : Binds K dAlike ["_law_found", "_law_due"] [])
    {fKept : Addr} {dKept : FuncData} (GKept : FnOk P w K mg base CX0 1 fKept dKept ["_law_e"] (spKept C)) (mKept : mg "_law_kept" = some (.ref fKept)) (kKept : PySem.W.keepIn K (.ref fKept) = true) (bKept : Binds K dKept ["_law_e"] [])
    {fSorts : Addr} {dSorts : FuncData} (GSorts : FnOk P w K mg base CX0 1 fSorts dSorts ["_law_one"] (spSorts C)) (mSorts : mg "_law_sorts" = some (.ref fSorts)) (kSorts : PySem.W.keepIn K (.ref fSorts) = true) (bSorts : Binds K dSorts ["_law_one"] [])
    {fSomeValue : Addr} {dSomeValue : FuncData} (GSomeValue : FnOk P w K mg base CX0 5 fSomeValue dSomeValue ["_law_box_here", "_law_deep"] (spSome 4)) (mSomeValue : mg "_law_some_value" = some (.ref fSomeValue)) (kSomeValue : PySem.W.keepIn K (.ref fSomeValue) = true) (bSomeValue : Binds K dSomeValue ["_law_box_here", "_law_deep"] [])
    {fCaught : Addr} {dCaught : FuncData} (GCaught : FnOk P w K mg base CX0 4 fCaught dCaught ["_law_form", "_law_a"] spCaught) (mCaught : mg "_law_caught" = some (.ref fCaught)) (kCaught : PySem.W.keepIn K (.ref fCaught) = true) (bCaught : Binds K dCaught ["_law_form", "_law_a"] []) :
    FnOk P w K mg base CX0 7 f fd ["_law_script"] (spLaw K) := by
  refine F.ok scLaw (fun vs H Q E h => ?_) (fun cdv A outer s H vs Q E hr h => ?_)
  · obtain ⟨a, ns, rfl, _⟩ := h
    rfl
  obtain ⟨a, ns, rfl, hS, h63, q⟩ := h
  have hu := hr.units
  have hrBox : Room 1 _ := hr.mono (by omega)
  have hrMade : Room 6 _ := hr.mono (by omega)
  have hrAlike : Room 1 _ := hr.mono (by omega)
  have hrKept : Room 1 _ := hr.mono (by omega)
  have hrSorts : Room 1 _ := hr.mono (by omega)
  have hrSomeValue : Room 5 _ := hr.mono (by omega)
  have hrCaught : Room 4 _ := hr.mono (by omega)
  refine ⟨_, (pss_cons (ps_for PassesOwn.never rfl (pi_range1 rfl T.z_range (pa_cons (pe_callB (call_max2 rfl) (by rfl) T.z_max (by decide +kernel) (pa_cons pe_int (pa_cons (pe_callB (call_min2 rfl) (by rfl) T.z_min (by decide +kernel) (pa_cons pe_int (pa_cons (pe_callB call_len_seq (by rfl) T.z_len (by decide +kernel) (pa_cons (pv 0) pa_nil)) pa_nil))) pa_nil))) pa_nil)) (pg_name (i := 1) scLaw.nd rfl (Or.inl rfl))
    (pss_cons (ps_set (i := 2) scLaw.nd rfl (Or.inl rfl) (pe_call GBox hrBox rfl mBox kBox bBox .nil pass0 (pa_cons (pv 0) (pa_cons (pv 1) pa_nil))))
    (pss_cons (ps_set (i := 3) scLaw.nd rfl (Or.inr rfl) (pe_lst (pa_cons pe_int (pa_cons pe_int (pa_cons pe_int (pa_cons pe_int (pa_cons pe_int (pa_cons pe_int (pa_cons pe_int (pa_cons pe_int (pa_cons pe_int (pa_cons pe_int (pa_cons pe_int (pa_cons pe_int (pa_cons pe_int (pa_cons pe_int (pa_cons pe_int (pa_cons pe_int (pa_cons pe_int (pa_cons pe_int (pa_cons pe_int (pa_cons pe_int (pa_cons pe_int pa_nil)))))))))))))))))))))))
    (pss_cons (ps_for PassesOwn.never rfl (pi_enum (by rfl) T.z_enumerate (pa_cons (pe_call GMade hrMade rfl mMade kMade bMade .nil pass0 (pa_cons (pv 2) pa_nil)) pa_nil)) (pg_tup (by rfl) (pgs_cons (pg_name (i := 4) scLaw.nd rfl (Or.inr rfl)) (pgs_cons (pg_name (i := 5) scLaw.nd rfl (Or.inl rfl)) pgs_nil)))
    (pss_cons (ps_asg (pv 5) (pg_tup (by rfl) (pgs_cons (pg_name (i := 6) scLaw.nd rfl (Or.inl rfl)) (pgs_cons (pg_name (i := 7) scLaw.nd rfl (Or.inl rfl)) pgs_nil))))
    (pss_cons (ps_if (PW.pt (pw_or (pt_not (pt_val (pe_call GAlike hrAlike rfl mAlike kAlike bAlike .nil pass0 (pa_cons (pe_call GKept hrKept rfl mKept kKept bKept .nil pass0 (pa_cons (pv 6) pa_nil)) (pa_cons (pv 7) pa_nil))))) (pw_or1 (pt_cmpR (op_neD hu) (pe_call GSorts hrSorts rfl mSorts kSorts bSorts .nil pass0 (pa_cons (pv 6) pa_nil)) (pe_lc (own := [("_law_form", 9)]) (g := gName 9) (tt := tYes) rfl scLaw.nd (pi_range1 rfl T.z_range (pa_cons pe_int pa_nil)) (blkOk_by (N := NLaw) (sc := defScope sLaw) (by decide +kernel)) (fun _ _ _ _ _ => pg_name (i := 9) scLaw.nd rfl (Or.inl rfl)) (fun _ _ _ _ _ => pts_nil) (fun _ _ _ _ _ => (pe_cmpR op_eq (pv 9) (pe_ix (show IxR _ (rIxL K) from ix_list) (pv 3) (pv 4) (fun _ _ => rfl)) (nomark _)))) (nomark _)))))
    (pss_one (ps_ret pe_bl))
    pss_nil)
    (pss_cons (ps_if (pt_cmpR op_ne (pe_callB call_xis (by rfl) T.z_isinstance (by decide +kernel) (pa_cons (pv 6) (pa_cons (pe_glob (v := .ref B) rfl S.mS rfl) pa_nil))) (pe_not (pe_callB call_xis (by rfl) T.z_isinstance (by decide +kernel) (pa_cons (pv 6) (pa_cons (pe_glob (v := .ref (C 10)) rfl (S.mc 10 (by decide)) rfl) pa_nil)))) (nomark _))
    (pss_one (ps_ret pe_bl))
    pss_nil)
    (pss_one (ps_if (pt_cmpR op_eq (pe_callB call_xis (by rfl) T.z_isinstance (by decide +kernel) (pa_cons (pv 6) (pa_cons (pe_bltn (by rfl) T.z_KeyError (by decide +kernel) (relTy "KeyError")) pa_nil))) (pe_callB call_xis (by rfl) T.z_isinstance (by decide +kernel) (pa_cons (pv 6) (pa_cons (pe_bltn (by rfl) T.z_ValueError (by decide +kernel) (relTy "ValueError")) pa_nil))) (nomark _))
    (pss_one (ps_ret pe_bl))
    pss_nil))))))
    (pss_cons (ps_set (i := 8) scLaw.nd rfl (Or.inl rfl) (pe_call GSomeValue hrSomeValue rfl mSomeValue kSomeValue bSomeValue .nil pass0 (pa_cons (pv 2) (pa_cons pe_int pa_nil))))
    (pss_one (ps_for PassesOwn.never rfl (pi_range1 rfl T.z_range (pa_cons pe_int pa_nil)) (pg_name (i := 9) scLaw.nd rfl (Or.inl rfl))
    (pss_one (ps_if (pt_cmpR op_ne (pe_call GCaught hrCaught rfl mCaught kCaught bCaught .nil pass0 (pa_cons (pv 9) (pa_cons (pv 8) pa_nil))) (pe_ix ix_list (pe_lst (pa_cons pe_str (pa_cons pe_str pa_nil))) (pe_callTy call_int1 (by rfl) T.z_int (by decide +kernel) (pa_cons (pe_cmpR op_eq (pv 9) pe_int (nomark _)) pa_nil)) (fun _ _ => rfl)) (nomark _))
    (pss_one (ps_ret pe_bl))
    pss_nil)))))))))
    (pss_one (ps_ret pe_bl))), ?_⟩
  obtain ⟨N, hN1, hN4, eN⟩ : ∃ N : Nat, 1 ≤ N ∧ N ≤ 4 ∧ (if (if ((ns.map V.int).length : Int) < 4 then ((ns.map V.int).length : Int) else 4) > 1 then (if ((ns.map V.int).length : Int) < 4 then ((ns.map V.int).length : Int) else 4) else 1) = (N : Int) := by
    refine ⟨(if (if ((ns.map V.int).length : Int) < 4 then ((ns.map V.int).length : Int) else 4) > 1 then (if ((ns.map V.int).length : Int) < 4 then ((ns.map V.int).length : Int) else 4) else 1).toNat, ?_, ?_, ?_⟩
    all_goals split <;> split <;> omega
  refine ⟨_, rfl, a, _, rfl, .inl hS, _, _, rfl, _, _, rfl, _, rfl, ?_, ?_, ?_⟩
  · rw [eN]
    omega
  · rw [eN]
    omega
  rw [eN]
  refine for_range (n := N) (fun i σ H1 => Same H H1 ∧ ∃ t1 t2 t3 t4 t5 t6 t7 t8 t9, σ = [some (.ref a), t1, t2, t3, t4, t5, t6, t7, t8, t9]) ?_ ?_ ?_
  · exact ⟨Same.refl H, _, _, _, _, _, _, _, _, _, rfl⟩
  · rintro k σ H1 hk ⟨s1, t1, t2, t3, t4, t5, t6, t7, t8, t9, rfl⟩
    refine ⟨_, rfl, _, rfl, a, ns, _, rfl, s1.seq hS, h63, by omega, by omega, fun p H2 hp s2 hB2 => ?_⟩
    refine ⟨(by show 21 ≤ sizeLine; decide), fun o ho => ?_⟩
    have hpo : p ≠ o := by
      obtain ⟨_, _, _, e⟩ := hB2
      exact ne_of_none e ho
    have hB3 := hB2.same (same_new ho (.lst orderV))
    refine ⟨_, rfl, p, rfl, hB3, fun l H4 xs v1 v2 v3 v4 hB4 x4 d1 d2 d3 d4 hl prs => ?_⟩
    have ho4 : H4 o = some (.lst orderV) := x4 o _ hpo.symm upd_same
    have s14 : Same H H4 := fun b u e => by
      have e1 := s1 b u e
      have e2 := s2 b u e1
      have nb : b ≠ p := ne_of_none e1 hp
      exact x4 b u nb (same_new ho _ b u e2)
    refine ⟨l, xs, rfl, SqL.of hl, for_it (walk_enum (xs := xs)) (fun i σ H5 => Same H4 H5 ∧ ∃ t4 t5 t6 t7 t8 t9, σ = [some (.ref a), some (.int (0 + (k : Int))), some (.ref p), some (.ref o), t4, t5, t6, t7, t8, t9]) ?_ ?_ ?_ ?_⟩
    · exact ⟨Same.refl H4, _, _, _, _, _, _, rfl⟩
    · rintro i σ H5 _ ⟨s5, _⟩
      exact s5.seq (SqL.of hl)
    · rintro i x σ H5 H6 hi ⟨s5, u4, u5, u6, u7, u8, u9, rfl⟩ ⟨TT, x1, y1, rfl, nT, rfl, hx1, hy1⟩
      cases hx1
      obtain ⟨p', d, rfl, hd, hpr⟩ := prs.at hy1
      have s6 := same_new nT (.tup [.int (i : Nat), .ref p'])
      have s46 := s5.trans s6
      obtain ⟨H6, eH6⟩ : ∃ H6, H6 = upd H5 TT (.tup [.int (i : Nat), .ref p']) := ⟨_, rfl⟩
      have e6 : H6 TT = some (.tup [.int (i : Nat), .ref p']) := by rw [eH6]; exact upd_same
      rw [← eH6] at s6 s46 ⊢
      obtain ⟨hdl, hdv⟩ := due_vals (List.mem_of_getElem? hd)
      have hdo := due_order hd
      have hi21 := due_lt hd
      obtain ⟨e, l', hp', kd, hl'⟩ := hpr.mono s46
      have hd11 := kd.1
      have dvs : ∀ {H7 : Hp}, Same H4 H7 → ∀ v, v ∈ d.2 → Dv H7 v 40 := fun {H7} s v hv => by
        have tk : TKeep H4 H7 := fun a ys h => s _ _ h
        rcases hdv v hv with z | z | z | z
        · rw [z]; exact d1.mono tk
        · rw [z]; exact d2.mono tk
        · rw [z]; exact d3.mono tk
        · rw [z]; exact d4.mono tk
      refine ⟨TT, [.int (i : Nat), .ref p'], rfl, SqT.of e6, rfl, .int (i : Nat), [.ref p'], rfl, .ref p', [], rfl, rfl, ?_⟩
      refine ⟨_, rfl, p', [.ref e, .ref l'], rfl, SqT.of hp', rfl, .ref e, [.ref l'], rfl, .ref l', [], rfl, rfl, ?_⟩
      refine ⟨_, rfl, e, d.1, d.2, rfl, kd, fun l2 H7 s7 n2 e2 => ?_⟩
      obtain ⟨nn, hnn, dts⟩ := dts_of (dvs (s46.trans s7))
      refine ⟨_, rfl, .ref l2, .ref l', nn + 1, rfl, .lst e2 (s7 _ _ hl') dts.al, by omega, fun H8 s8 => ⟨_, rfl, ?_⟩⟩
      refine ifN rfl ?_
      have s68 := s7.trans s8
      refine ⟨_, rfl, e, d.1, d.2, rfl, kd.mono s68, fun l3 H9 s9 n3 e3 => ?_⟩
      have s69 := s68.trans s9
      have s49 := s46.trans s69
      refine ⟨11, rfl, by decide, by decide, fun D hD => ?_⟩
      have nl3 : l3 ≠ D := ne_of_none e3 hD
      have no : o ≠ D := ne_of_none (s49 _ _ ho4) hD
      refine lc_range (lo := 0) (n := 11) (fun j HA => Same H9 HA ∧ HA D = some (.lst ((List.range j).map fun (m : Nat) => V.bl (decide (V.int (0 + (m : Int)) = V.int (d.1 : Nat)))))) ?_ ?_ ?_
      · exact ⟨same_new hD _, upd_same⟩
      · rintro j HA hj ⟨sA, eA⟩
        refine ⟨rfl, ?_⟩
        refine ⟨_, rfl, _, rfl, _, rfl, o, orderV, (i : Nat), .int (d.1 : Nat), rfl, rfl, SqL.of (sA _ _ (s49 _ _ ho4)), ?_, rfl, _, eA, ?_, ?_, ?_⟩
        · unfold atI ixN
          rw [if_pos (by omega), if_pos (by show (i : Int) < 21; omega)]
          exact hdo
        · rw [List.length_map, List.length_range]
          exact small1000 (by omega)
        · intro b u eb
          rw [upd_ne (ne_of_none eb hD)]
          exact sA b u eb
        · rw [List.range_succ, List.map_append]
          exact upd_same
      · rintro HA ⟨sA, eA⟩
        have eA' : HA D = some (.lst ((sortsB d.1).map V.bl)) := by
          rw [eA, sortsB_int hd11]
        have e3' : HA l3 = some (.lst ((sortsB d.1).map V.bl)) := by
          rw [sA _ _ e3]
          rfl
        refine ⟨_, _, dp_bools e3', dp_bools eA', sortsB_shaped _, sortsB_shaped _, _, rfl, ?_⟩
        rw [bools_eq]
        refine ifN rfl ?_
        have s4A := s49.trans sA
        have kA := kd.mono (s69.trans sA)
        refine if_ne (x := .bl (d.1 != 10)) (y := .bl (!decide (d.1 = 10))) (fun Q' q' => is_b S kA (.own B) (S.kS _ hd11) rfl q') (fun Q' q' => is_b (Q := fun x H1 => ∃ k, x = .bl k ∧ Q' (.bl (!k)) H1) S kA (.own _) (S.kit _ 10 hd11 (by decide)) rfl ⟨_, rfl, q'⟩) rfl (ne10 _) ?_
        refine if_eq (x := .bl (d.1 == 10)) (y := .bl (d.1 != 10)) (fun Q' q' => is_b S kA (.ty "KeyError") (S.kK _ hd11) rfl q') (fun Q' q' => is_b S kA (.ty "ValueError") (S.kV _ hd11) rfl q') rfl (eq10 _) ?_
        exact ⟨s4A, _, _, _, _, _, _, rfl⟩
    · rintro σ H5 ⟨s5, u4, u5, u6, u7, u8, u9, rfl⟩
      refine ⟨_, rfl, p, 2, rfl, by decide, hB4.same s5, fun v H6 dv hB6 x6 => ?_⟩
      have s16 : Same H H6 := fun b u eb => by
        have nb : b ≠ p := ne_of_none (s1 b u eb) hp
        exact x6 b u nb (s5 b u (s14 b u eb))
      refine ⟨_, rfl, by decide, by decide, ?_⟩
      refine for_range (n := 11) (fun j σ H7 => Same H6 H7 ∧ ∃ t9, σ = [some (.ref a), some (.int (0 + (k : Int))), some (.ref p), some (.ref o), u4, u5, u6, u7, some v, t9]) ?_ ?_ ?_
      · exact ⟨Same.refl H6, _, rfl⟩
      · rintro j σ H7 hj ⟨s7, t9, rfl⟩
        refine ⟨_, rfl, _, rfl, j, v, by rw [Int.zero_add]; rfl, hj, fun H8 s8 => ?_⟩
        refine ⟨(by show 2 ≤ sizeLine; decide), fun l hl' => ?_⟩
        refine ⟨_, rfl, rfl, .inr ⟨_, rfl, ?_⟩⟩
        have sN : Same H6 (upd H8 l (.lst [.str "sour", .str "key"])) := (s7.trans s8).trans (same_new hl' _)
        by_cases c : j = 10
        · subst c
          refine ⟨l, [.str "sour", .str "key"], 1, .str "key", rfl, rfl, SqL.of upd_same, rfl, rfl, _, rfl, ?_⟩
          refine ifN (by decide) ?_
          exact ⟨sN, _, rfl⟩
        · have hne : decide (V.int (0 + (j : Int)) = V.int 10) = false := by
            refine decide_eq_false fun z => c ?_
            have z2 : (0 + (j : Int)) = 10 := V.int.inj z
            omega
          refine ⟨l, [.str "sour", .str "key"], 0, .str "sour", rfl, ?_, SqL.of upd_same, rfl, ?_, _, rfl, ?_⟩
          · rw [hne]
            rfl
          · rw [if_neg c]
            rfl
          · rw [if_neg c]
            refine ifN (by decide) ?_
            exact ⟨sN, _, rfl⟩
      · rintro σ H7 ⟨s7, t9, rfl⟩
        exact ⟨s16.trans s7, _, _, _, _, _, _, _, _, _, rfl⟩
  · rintro σ H1 _
    exact q H1

end
end Mine

set_option Elab.async false
set_option maxRecDepth 100000
set_option maxHeartbeats 4000000
namespace Mine
open PySem L2
/-! ### what the top leaves of the classes, as one answer -/
def cs (l : List Addr) (i : Nat) : Addr := l.getD i 0
def xb (K : PySem.W.Frag) (C : Addr) : Bool :=
  decide (PySem.W.findIn K (.ref C) "__setattr__" = some (some (.builtin "object.__setattr__"))) && (decide (PySem.W.findIn K (.ref C) "__getattribute__" = some (some (.builtin "BaseException.__getattribute__"))) && (decide (PySem.W.findIn K (.ref C) "__getattr__" = some none) &&
  (decide (PySem.W.subIn K (.ref C) (.type "BaseException") = some true) && (decide (PySem.W.typeIn K (.ref C) = some (.type "type")) && (PySem.W.hasDictIn K C && (PySem.W.keepIn K (.ref C) && (decide (PySem.W.findIn K (.ref C) "__class__" = some (some (.builtin "object.__class__"))) &&
  (decide (PySem.W.specialIn K (.builtin "object.__class__") "__get__" = some (some (.builtin "getset_descriptor.__get__"))) && (decide (PySem.W.takesIn K (.builtin "object.__class__") = some true) && decide (PySem.W.mroIn K C (.type "object") = some true))))))))))
def allB (K : PySem.W.Frag) (l : List Addr) (B : Addr) : Bool := (List.range 11).all fun i => xb K (cs l i) && ((attrs i).all (fun n => decide (PySem.W.findIn K (.ref (cs l i)) n = some none)) && ((List.range 11).all (fun j => decide (PySem.W.kitOne K (.ref (cs l i)) (.ref (cs l j)) = some (decide (i = j)))) &&
  (decide (PySem.W.kitOne K (.ref (cs l i)) (.ref B) = some (i != 10)) && (decide (PySem.W.kitOne K (.ref (cs l i)) (.type "KeyError") = some (i == 10)) && (decide (PySem.W.kitOne K (.ref (cs l i)) (.type "ValueError") = some (i != 10)) &&
  (decide (PySem.W.exmOne K (.ref (cs l i)) (.type "KeyError") = some (i == 10)) && decide (PySem.W.exmOne K (.ref (cs l i)) (.ref B) = some (i != 10))))))))
structure AllB (K : PySem.W.Frag) (l : List Addr) (B : Addr) (i : Nat) : Prop where
  x : xb K (cs l i) = true
  n : NoNames K (cs l i) (attrs i)
  kit : ∀ j, j < 11 → PySem.W.kitOne K (.ref (cs l i)) (.ref (cs l j)) = some (decide (i = j))
  kS : PySem.W.kitOne K (.ref (cs l i)) (.ref B) = some (i != 10)
  kK : PySem.W.kitOne K (.ref (cs l i)) (.type "KeyError") = some (i == 10)
  kV : PySem.W.kitOne K (.ref (cs l i)) (.type "ValueError") = some (i != 10)
  eK : PySem.W.exmOne K (.ref (cs l i)) (.type "KeyError") = some (i == 10)
  eS : PySem.W.exmOne K (.ref (cs l i)) (.ref B) = some (i != 10)
theorem allB_at {K : PySem.W.Frag} {l : List Addr} {B : Addr} (h : allB K l B = true) (i : Nat) (hi : i < 11) : AllB K l B i := by
  have h := List.all_eq_true.mp h i (List.mem_range.mpr hi)
  obtain ⟨h1, h⟩ := Bool.and_eq_true_iff.mp h
  obtain ⟨h2, h⟩ := Bool.and_eq_true_iff.mp h
  obtain ⟨h3, h⟩ := Bool.and_eq_true_iff.mp h
  obtain ⟨h4, h⟩ := Bool.and_eq_true_iff.mp h
  obtain ⟨h5, h⟩ := Bool.and_eq_true_iff.mp h
  obtain ⟨h6, h⟩ := Bool.and_eq_true_iff.mp h
  obtain ⟨h7, h8⟩ := Bool.and_eq_true_iff.mp h
  exact ⟨h1, fun n hn => of_decide_eq_true (List.all_eq_true.mp h2 n hn), fun j hj => of_decide_eq_true (List.all_eq_true.mp h3 j (List.mem_range.mpr hj)), of_decide_eq_true h4, of_decide_eq_true h5, of_decide_eq_true h6, of_decide_eq_true h7, of_decide_eq_true h8⟩
theorem xc_mk {K : PySem.W.Frag} {C : Addr} (h : xb K C = true) {nm q : Str} {N : Addr} {bs bm : List Value} {sn : List Str} {sub : List Value} {ab : Bool} {col : Option Bool} {dd : Option Addr} {k0 k1 k2 k3 k5 : Option Value} {B newId initId : String} {bmB : List Value}
    (xL : K.lookup C = some (excClassObj nm q C N bs bm true sn sub ab col dd k0 k1 k2 k3 k5 newId)) (F : ExcBaseFacts B newId initId bmB) (T : Tail bm B) (ho : bm.contains (.type "object") = true) (hp : ∀ self, refuseLoop self "__setattr__" bm = pure ()) : XC K C := by
  obtain ⟨h1, h⟩ := Bool.and_eq_true_iff.mp h
  obtain ⟨h2, h⟩ := Bool.and_eq_true_iff.mp h
  obtain ⟨h3, h⟩ := Bool.and_eq_true_iff.mp h
  obtain ⟨h4, h⟩ := Bool.and_eq_true_iff.mp h
  obtain ⟨h5, h⟩ := Bool.and_eq_true_iff.mp h
  obtain ⟨h6, h⟩ := Bool.and_eq_true_iff.mp h
  obtain ⟨h7, h⟩ := Bool.and_eq_true_iff.mp h
  obtain ⟨h8, h⟩ := Bool.and_eq_true_iff.mp h
  obtain ⟨h9, h⟩ := Bool.and_eq_true_iff.mp h
  obtain ⟨hA, hB⟩ := Bool.and_eq_true_iff.mp h
  exact ⟨⟨_, _, _, _, _, _, _, _, _, _, _, _, _, _, _, _, _, _, _, xL, F, T, by rw [List.contains_cons, ho, Bool.or_true], fun self => by rw [refuseLoop_ref]; exact hp self⟩, of_decide_eq_true h1, of_decide_eq_true h2, of_decide_eq_true h3, of_decide_eq_true h4, of_decide_eq_true h5, h6, h7, of_decide_eq_true h8, of_decide_eq_true h9, of_decide_eq_true hA, of_decide_eq_true hB⟩
theorem xc_ve {K : PySem.W.Frag} {C B : Addr} (h : xb K C = true) {nm q : Str} {N : Addr} {bs : List Value} {sn : List Str} {sub : List Value} {ab : Bool} {col : Option Bool} {dd : Option Addr} {k0 k1 k2 k3 k5 : Option Value}
    (xL : K.lookup C = some (excClassObj nm q C N bs [.ref B, .type "ValueError", .type "Exception", .type "BaseException", .type "object"] true sn sub ab col dd k0 k1 k2 k3 k5 "ValueError.__new__")) : XC K C :=
  xc_mk h xL PySem.F.excBase_ValueError ⟨rfl, rfl, rfl⟩ rfl fun self => by rw [refuseLoop_ref]; exact PySem.F.store_ValueError.passes self
theorem ke_pass (self : Value) : refuseLoop self "__setattr__" [.type "KeyError", .type "LookupError", .type "Exception", .type "BaseException", .type "object"] = pure () := by kernel_rfl
theorem xc_ke {K : PySem.W.Frag} {C : Addr} (h : xb K C = true) {nm q : Str} {N : Addr} {bs : List Value} {sn : List Str} {sub : List Value} {ab : Bool} {col : Option Bool} {dd : Option Addr} {k0 k1 k2 k3 k5 : Option Value}
    (xL : K.lookup C = some (excClassObj nm q C N bs [.type "KeyError", .type "LookupError", .type "Exception", .type "BaseException", .type "object"] true sn sub ab col dd k0 k1 k2 k3 k5 "LookupError.__new__")) : XC K C :=
  xc_mk h xL PySem.F.excBase_LookupError ⟨rfl, rfl, rfl⟩ rfl ke_pass
theorem all_mk {l : PySem.W.OpenLaw} {w : World} {K : PySem.W.Frag} {h : Heap} {mg : Str → Option Value} {fa B : Addr} (X : K.In h) (G : h.Ns mainGlobals mg) (hfa : mg "law" = some (.ref fa))
    {C0 N0 : Addr} {nm0 q0 : Str} {bs0 : List Value} {sn0 : List Str} {sub0 : List Value} {ab0 : Bool} {col0 : Option Bool} {dd0 : Option Addr} {m0a m0b m0c m0d m0e : Option Value}
    {g0 : Addr} {og0 ag0 : Option Addr} {sg0 : Array (Option Value)} {cg0 vg0 dg0 pg0 eg0 tg0 : Value}
    {C1 N1 : Addr} {nm1 q1 : Str} {bs1 : List Value} {sn1 : List Str} {sub1 : List Value} {ab1 : Bool} {col1 : Option Bool} {dd1 : Option Addr} {m1a m1b m1c m1d m1e : Option Value}
    {g1 : Addr} {og1 ag1 : Option Addr} {sg1 : Array (Option Value)} {cg1 vg1 dg1 pg1 eg1 tg1 : Value}
    {C2 N2 : Addr} {nm2 q2 : Str} {bs2 : List Value} {sn2 : List Str} {sub2 : List Value} {ab2 : Bool} {col2 : Option Bool} {dd2 : Option Addr} {m2a m2b m2c m2d m2e : Option Value}
    {g2 : Addr} {og2 ag2 : Option Addr} {sg2 : Array (Option Value)} {cg2 vg2 dg2 pg2 eg2 tg2 : Value}
    {C3 N3 : Addr} {nm3 q3 : Str} {bs3 : List Value} {sn3 : List Str} {sub3 : List Value} {ab3 : Bool} {col3 : Option Bool} {dd3 : Option Addr} {m3a m3b m3c m3d m3e : Option Value}
    {g3 : Addr} {og3 ag3 : Option Addr} {sg3 : Array (Option Value)} {cg3 vg3 dg3 pg3 eg3 tg3 : Value}
    {C4 N4 : Addr} {nm4 q4 : Str} {bs4 : List Value} {sn4 : List Str} {sub4 : List Value} {ab4 : Bool} {col4 : Option Bool} {dd4 : Option Addr} {m4a m4b m4c m4d m4e : Option Value}
    {g4 : Addr} {og4 ag4 : Option Addr} {sg4 : Array (Option Value)} {cg4 vg4 dg4 pg4 eg4 tg4 : Value}
    {C5 N5 : Addr} {nm5 q5 : Str} {bs5 : List Value} {sn5 : List Str} {sub5 : List Value} {ab5 : Bool} {col5 : Option Bool} {dd5 : Option Addr} {m5a m5b m5c m5d m5e : Option Value}
    {g5 : Addr} {og5 ag5 : Option Addr} {sg5 : Array (Option Value)} {cg5 vg5 dg5 pg5 eg5 tg5 : Value}
    {C6 N6 : Addr} {nm6 q6 : Str} {bs6 : List Value} {sn6 : List Str} {sub6 : List Value} {ab6 : Bool} {col6 : Option Bool} {dd6 : Option Addr} {m6a m6b m6c m6d m6e : Option Value}
    {g6 : Addr} {og6 ag6 : Option Addr} {sg6 : Array (Option Value)} {cg6 vg6 dg6 pg6 eg6 tg6 : Value}
    {C7 N7 : Addr} {nm7 q7 : Str} {bs7 : List Value} {sn7 : List Str} {sub7 : List Value} {ab7 : Bool} {col7 : Option Bool} {dd7 : Option Addr} {m7a m7b m7c m7d m7e : Option Value}
    {g7 : Addr} {og7 ag7 : Option Addr} {sg7 : Array (Option Value)} {cg7 vg7 dg7 pg7 eg7 tg7 : Value}
    {C8 N8 : Addr} {nm8 q8 : Str} {bs8 : List Value} {sn8 : List Str} {sub8 : List Value} {ab8 : Bool} {col8 : Option Bool} {dd8 : Option Addr} {m8a m8b m8c m8d m8e : Option Value}
    {C9 N9 : Addr} {nm9 q9 : Str} {bs9 : List Value} {sn9 : List Str} {sub9 : List Value} {ab9 : Bool} {col9 : Option Bool} {dd9 : Option Addr} {m9a m9b m9c m9d m9e : Option Value}
    {g9 : Addr} {og9 ag9 : Option Addr} {sg9 : Array (Option Value)} {cg9 vg9 dg9 pg9 eg9 tg9 : Value}
    {C10 N10 : Addr} {nm10 q10 : Str} {bs10 : List Value} {sn10 : List Str} {sub10 : List Value} {ab10 : Bool} {col10 : Option Bool} {dd10 : Option Addr} {m10a m10b m10c m10d m10e : Option Value}
    {g10 : Addr} {og10 ag10 : Option Addr} {sg10 : Array (Option Value)} {cg10 vg10 dg10 pg10 eg10 tg10 : Value}
    {f1 : Addr} {od1 an1 : Option Addr} {sl1 : Array (Option Value)} {oc1 kV1 dc1 pm1 cd1 ct1 : Value}
    {f2 : Addr} {od2 an2 : Option Addr} {sl2 : Array (Option Value)} {oc2 kV2 dc2 pm2 cd2 ct2 : Value}
    {f3 : Addr} {od3 an3 : Option Addr} {sl3 : Array (Option Value)} {oc3 kV3 dc3 pm3 cd3 ct3 : Value}
    {f4 : Addr} {od4 an4 : Option Addr} {sl4 : Array (Option Value)} {oc4 kV4 dc4 pm4 cd4 ct4 : Value}
    {f5 : Addr} {od5 an5 : Option Addr} {sl5 : Array (Option Value)} {oc5 kV5 dc5 pm5 cd5 ct5 : Value}
    {f6 : Addr} {od6 an6 : Option Addr} {sl6 : Array (Option Value)} {oc6 kV6 dc6 pm6 cd6 ct6 : Value}
    {f7 : Addr} {od7 an7 : Option Addr} {sl7 : Array (Option Value)} {oc7 kV7 dc7 pm7 cd7 ct7 : Value}
    {f8 : Addr} {od8 an8 : Option Addr} {sl8 : Array (Option Value)} {oc8 kV8 dc8 pm8 cd8 ct8 : Value}
    {f9 : Addr} {od9 an9 : Option Addr} {sl9 : Array (Option Value)} {oc9 kV9 dc9 pm9 cd9 ct9 : Value}
    {f0 : Addr} {od0 an0 : Option Addr} {sl0 : Array (Option Value)} {oc0 kV0 dc0 pm0 cd0 ct0 : Value}
    (aB : PySem.W.nsIn K mainGlobals "SourError" = some (some (.ref B)))
    (aC0 : PySem.W.nsIn K mainGlobals "InvalidProgram" = some (some (.ref C0)))
    (xL0 : K.lookup C0 = some (excClassObj nm0 q0 C0 N0 bs0 [.ref B, .type "ValueError", .type "Exception", .type "BaseException", .type "object"] true sn0 sub0 ab0 col0 dd0 m0a m0b m0c m0d m0e "ValueError.__new__"))
    (iC0 : PySem.W.findIn K (.ref C0) "__init__" = some (some (.ref g0)))
    (tC0 : PySem.W.typeIn K (.ref g0) = some (.type "function"))
    (lC0 : K.lookup g0 = some ⟨cg0, og0, .func (PySem.W.fnOf "__init__" "InvalidProgram.__init__" (defArgs sI2) (defBody sI2) (defScope sI2) .none vg0 dg0 pg0 ag0 eg0 tg0), sg0⟩)
    (cC0 : PySem.W.codeIn K eg0 "InvalidProgram.__init__" = true)
    (kC0 : PySem.W.keepIn K (.ref g0) = true)
    (aC1 : PySem.W.nsIn K mainGlobals "InvalidText" = some (some (.ref C1)))
    (xL1 : K.lookup C1 = some (excClassObj nm1 q1 C1 N1 bs1 [.ref B, .type "ValueError", .type "Exception", .type "BaseException", .type "object"] true sn1 sub1 ab1 col1 dd1 m1a m1b m1c m1d m1e "ValueError.__new__"))
    (iC1 : PySem.W.findIn K (.ref C1) "__init__" = some (some (.ref g1)))
    (tC1 : PySem.W.typeIn K (.ref g1) = some (.type "function"))
    (lC1 : K.lookup g1 = some ⟨cg1, og1, .func (PySem.W.fnOf "__init__" "InvalidText.__init__" (defArgs sI3) (defBody sI3) (defScope sI3) .none vg1 dg1 pg1 ag1 eg1 tg1), sg1⟩)
    (cC1 : PySem.W.codeIn K eg1 "InvalidText.__init__" = true)
    (kC1 : PySem.W.keepIn K (.ref g1) = true)
    (aC2 : PySem.W.nsIn K mainGlobals "InvalidStart" = some (some (.ref C2)))
    (xL2 : K.lookup C2 = some (excClassObj nm2 q2 C2 N2 bs2 [.ref B, .type "ValueError", .type "Exception", .type "BaseException", .type "object"] true sn2 sub2 ab2 col2 dd2 m2a m2b m2c m2d m2e "ValueError.__new__"))
    (iC2 : PySem.W.findIn K (.ref C2) "__init__" = some (some (.ref g2)))
    (tC2 : PySem.W.typeIn K (.ref g2) = some (.type "function"))
    (lC2 : K.lookup g2 = some ⟨cg2, og2, .func (PySem.W.fnOf "__init__" "InvalidStart.__init__" (defArgs sI4) (defBody sI4) (defScope sI4) .none vg2 dg2 pg2 ag2 eg2 tg2), sg2⟩)
    (cC2 : PySem.W.codeIn K eg2 "InvalidStart.__init__" = true)
    (kC2 : PySem.W.keepIn K (.ref g2) = true)
    (aC3 : PySem.W.nsIn K mainGlobals "TooLong" = some (some (.ref C3)))
    (xL3 : K.lookup C3 = some (excClassObj nm3 q3 C3 N3 bs3 [.ref B, .type "ValueError", .type "Exception", .type "BaseException", .type "object"] true sn3 sub3 ab3 col3 dd3 m3a m3b m3c m3d m3e "ValueError.__new__"))
    (iC3 : PySem.W.findIn K (.ref C3) "__init__" = some (some (.ref g3)))
    (tC3 : PySem.W.typeIn K (.ref g3) = some (.type "function"))
    (lC3 : K.lookup g3 = some ⟨cg3, og3, .func (PySem.W.fnOf "__init__" "TooLong.__init__" (defArgs sI5) (defBody sI5) (defScope sI5) .none vg3 dg3 pg3 ag3 eg3 tg3), sg3⟩)
    (cC3 : PySem.W.codeIn K eg3 "TooLong.__init__" = true)
    (kC3 : PySem.W.keepIn K (.ref g3) = true)
    (aC4 : PySem.W.nsIn K mainGlobals "InvalidCode" = some (some (.ref C4)))
    (xL4 : K.lookup C4 = some (excClassObj nm4 q4 C4 N4 bs4 [.ref B, .type "ValueError", .type "Exception", .type "BaseException", .type "object"] true sn4 sub4 ab4 col4 dd4 m4a m4b m4c m4d m4e "ValueError.__new__"))
    (iC4 : PySem.W.findIn K (.ref C4) "__init__" = some (some (.ref g4)))
    (tC4 : PySem.W.typeIn K (.ref g4) = some (.type "function"))
    (lC4 : K.lookup g4 = some ⟨cg4, og4, .func (PySem.W.fnOf "__init__" "InvalidCode.__init__" (defArgs sI6) (defBody sI6) (defScope sI6) .none vg4 dg4 pg4 ag4 eg4 tg4), sg4⟩)
    (cC4 : PySem.W.codeIn K eg4 "InvalidCode.__init__" = true)
    (kC4 : PySem.W.keepIn K (.ref g4) = true)
    (aC5 : PySem.W.nsIn K mainGlobals "NoRoom" = some (some (.ref C5)))
    (xL5 : K.lookup C5 = some (excClassObj nm5 q5 C5 N5 bs5 [.ref B, .type "ValueError", .type "Exception", .type "BaseException", .type "object"] true sn5 sub5 ab5 col5 dd5 m5a m5b m5c m5d m5e "ValueError.__new__"))
    (iC5 : PySem.W.findIn K (.ref C5) "__init__" = some (some (.ref g5)))
    (tC5 : PySem.W.typeIn K (.ref g5) = some (.type "function"))
    (lC5 : K.lookup g5 = some ⟨cg5, og5, .func (PySem.W.fnOf "__init__" "NoRoom.__init__" (defArgs sI7) (defBody sI7) (defScope sI7) .none vg5 dg5 pg5 ag5 eg5 tg5), sg5⟩)
    (cC5 : PySem.W.codeIn K eg5 "NoRoom.__init__" = true)
    (kC5 : PySem.W.keepIn K (.ref g5) = true)
    (aC6 : PySem.W.nsIn K mainGlobals "InvalidPart" = some (some (.ref C6)))
    (xL6 : K.lookup C6 = some (excClassObj nm6 q6 C6 N6 bs6 [.ref B, .type "ValueError", .type "Exception", .type "BaseException", .type "object"] true sn6 sub6 ab6 col6 dd6 m6a m6b m6c m6d m6e "ValueError.__new__"))
    (iC6 : PySem.W.findIn K (.ref C6) "__init__" = some (some (.ref g6)))
    (tC6 : PySem.W.typeIn K (.ref g6) = some (.type "function"))
    (lC6 : K.lookup g6 = some ⟨cg6, og6, .func (PySem.W.fnOf "__init__" "InvalidPart.__init__" (defArgs sI8) (defBody sI8) (defScope sI8) .none vg6 dg6 pg6 ag6 eg6 tg6), sg6⟩)
    (cC6 : PySem.W.codeIn K eg6 "InvalidPart.__init__" = true)
    (kC6 : PySem.W.keepIn K (.ref g6) = true)
    (aC7 : PySem.W.nsIn K mainGlobals "LinkRefused" = some (some (.ref C7)))
    (xL7 : K.lookup C7 = some (excClassObj nm7 q7 C7 N7 bs7 [.ref B, .type "ValueError", .type "Exception", .type "BaseException", .type "object"] true sn7 sub7 ab7 col7 dd7 m7a m7b m7c m7d m7e "ValueError.__new__"))
    (iC7 : PySem.W.findIn K (.ref C7) "__init__" = some (some (.ref g7)))
    (tC7 : PySem.W.typeIn K (.ref g7) = some (.type "function"))
    (lC7 : K.lookup g7 = some ⟨cg7, og7, .func (PySem.W.fnOf "__init__" "LinkRefused.__init__" (defArgs sI9) (defBody sI9) (defScope sI9) .none vg7 dg7 pg7 ag7 eg7 tg7), sg7⟩)
    (cC7 : PySem.W.codeIn K eg7 "LinkRefused.__init__" = true)
    (kC7 : PySem.W.keepIn K (.ref g7) = true)
    (aC8 : PySem.W.nsIn K mainGlobals "InvalidCommand" = some (some (.ref C8)))
    (xL8 : K.lookup C8 = some (excClassObj nm8 q8 C8 N8 bs8 [.ref B, .type "ValueError", .type "Exception", .type "BaseException", .type "object"] true sn8 sub8 ab8 col8 dd8 m8a m8b m8c m8d m8e "ValueError.__new__"))
    (aC9 : PySem.W.nsIn K mainGlobals "Unfilled" = some (some (.ref C9)))
    (xL9 : K.lookup C9 = some (excClassObj nm9 q9 C9 N9 bs9 [.ref B, .type "ValueError", .type "Exception", .type "BaseException", .type "object"] true sn9 sub9 ab9 col9 dd9 m9a m9b m9c m9d m9e "ValueError.__new__"))
    (iC9 : PySem.W.findIn K (.ref C9) "__init__" = some (some (.ref g9)))
    (tC9 : PySem.W.typeIn K (.ref g9) = some (.type "function"))
    (lC9 : K.lookup g9 = some ⟨cg9, og9, .func (PySem.W.fnOf "__init__" "Unfilled.__init__" (defArgs sI11) (defBody sI11) (defScope sI11) .none vg9 dg9 pg9 ag9 eg9 tg9), sg9⟩)
    (cC9 : PySem.W.codeIn K eg9 "Unfilled.__init__" = true)
    (kC9 : PySem.W.keepIn K (.ref g9) = true)
    (aC10 : PySem.W.nsIn K mainGlobals "UnknownName" = some (some (.ref C10)))
    (xL10 : K.lookup C10 = some (excClassObj nm10 q10 C10 N10 bs10 [.type "KeyError", .type "LookupError", .type "Exception", .type "BaseException", .type "object"] true sn10 sub10 ab10 col10 dd10 m10a m10b m10c m10d m10e "LookupError.__new__"))
    (iC10 : PySem.W.findIn K (.ref C10) "__init__" = some (some (.ref g10)))
    (tC10 : PySem.W.typeIn K (.ref g10) = some (.type "function"))
    (lC10 : K.lookup g10 = some ⟨cg10, og10, .func (PySem.W.fnOf "__init__" "UnknownName.__init__" (defArgs sI12) (defBody sI12) (defScope sI12) .none vg10 dg10 pg10 ag10 eg10 tg10), sg10⟩)
    (cC10 : PySem.W.codeIn K eg10 "UnknownName.__init__" = true)
    (kC10 : PySem.W.keepIn K (.ref g10) = true)
    (a1 : PySem.W.nsIn K mainGlobals "_law_box" = some (some (.ref f1)))
    (l1 : K.lookup f1 = some ⟨oc1, od1, .func (PySem.W.fnOf "_law_box" "_law_box" (defArgs sBox) (defBody sBox) (defScope sBox) .none kV1 dc1 pm1 an1 cd1 ct1), sl1⟩)
    (c1 : PySem.W.codeIn K cd1 "_law_box" = true)
    (k1 : PySem.W.keepIn K (.ref f1) = true)
    (a2 : PySem.W.nsIn K mainGlobals "_law_take" = some (some (.ref f2)))
    (l2 : K.lookup f2 = some ⟨oc2, od2, .func (PySem.W.fnOf "_law_take" "_law_take" (defArgs sTake) (defBody sTake) (defScope sTake) .none kV2 dc2 pm2 an2 cd2 ct2), sl2⟩)
    (c2 : PySem.W.codeIn K cd2 "_law_take" = true)
    (k2 : PySem.W.keepIn K (.ref f2) = true)
    (a3 : PySem.W.nsIn K mainGlobals "_law_alike" = some (some (.ref f3)))
    (l3 : K.lookup f3 = some ⟨oc3, od3, .func (PySem.W.fnOf "_law_alike" "_law_alike" (defArgs sAlike) (defBody sAlike) (defScope sAlike) .none kV3 dc3 pm3 an3 cd3 ct3), sl3⟩)
    (c3 : PySem.W.codeIn K cd3 "_law_alike" = true)
    (k3 : PySem.W.keepIn K (.ref f3) = true)
    (a4 : PySem.W.nsIn K mainGlobals "_law_some_value" = some (some (.ref f4)))
    (l4 : K.lookup f4 = some ⟨oc4, od4, .func (PySem.W.fnOf "_law_some_value" "_law_some_value" (defArgs sSome) (defBody sSome) (defScope sSome) .none kV4 dc4 pm4 an4 cd4 ct4), sl4⟩)
    (c4 : PySem.W.codeIn K cd4 "_law_some_value" = true)
    (k4 : PySem.W.keepIn K (.ref f4) = true)
    (a5 : PySem.W.nsIn K mainGlobals "_law_made" = some (some (.ref f5)))
    (l5 : K.lookup f5 = some ⟨oc5, od5, .func (PySem.W.fnOf "_law_made" "_law_made" (defArgs sMade) (defBody sMade) (defScope sMade) .none kV5 dc5 pm5 an5 cd5 ct5), sl5⟩)
    (c5 : PySem.W.codeIn K cd5 "_law_made" = true)
    (k5 : PySem.W.keepIn K (.ref f5) = true)
    (a6 : PySem.W.nsIn K mainGlobals "_law_kept" = some (some (.ref f6)))
    (l6 : K.lookup f6 = some ⟨oc6, od6, .func (PySem.W.fnOf "_law_kept" "_law_kept" (defArgs sKept) (defBody sKept) (defScope sKept) .none kV6 dc6 pm6 an6 cd6 ct6), sl6⟩)
    (c6 : PySem.W.codeIn K cd6 "_law_kept" = true)
    (k6 : PySem.W.keepIn K (.ref f6) = true)
    (a7 : PySem.W.nsIn K mainGlobals "_law_sorts" = some (some (.ref f7)))
    (l7 : K.lookup f7 = some ⟨oc7, od7, .func (PySem.W.fnOf "_law_sorts" "_law_sorts" (defArgs sSorts) (defBody sSorts) (defScope sSorts) .none kV7 dc7 pm7 an7 cd7 ct7), sl7⟩)
    (c7 : PySem.W.codeIn K cd7 "_law_sorts" = true)
    (k7 : PySem.W.keepIn K (.ref f7) = true)
    (a8 : PySem.W.nsIn K mainGlobals "_law_thrown" = some (some (.ref f8)))
    (l8 : K.lookup f8 = some ⟨oc8, od8, .func (PySem.W.fnOf "_law_thrown" "_law_thrown" (defArgs sThrown) (defBody sThrown) (defScope sThrown) .none kV8 dc8 pm8 an8 cd8 ct8), sl8⟩)
    (c8 : PySem.W.codeIn K cd8 "_law_thrown" = true)
    (k8 : PySem.W.keepIn K (.ref f8) = true)
    (a9 : PySem.W.nsIn K mainGlobals "_law_caught" = some (some (.ref f9)))
    (l9 : K.lookup f9 = some ⟨oc9, od9, .func (PySem.W.fnOf "_law_caught" "_law_caught" (defArgs sCaught) (defBody sCaught) (defScope sCaught) .none kV9 dc9 pm9 an9 cd9 ct9), sl9⟩)
    (c9 : PySem.W.codeIn K cd9 "_law_caught" = true)
    (k9 : PySem.W.keepIn K (.ref f9) = true)
    (a0 : PySem.W.nsIn K mainGlobals "law" = some (some (.ref f0)))
    (l0 : K.lookup f0 = some ⟨oc0, od0, .func (PySem.W.fnOf "law" "law" (defArgs sLaw) (defBody sLaw) (defScope sLaw) .none kV0 dc0 pm0 an0 cd0 ct0), sl0⟩)
    (c0 : PySem.W.codeIn K cd0 "law" = true)
    (k0 : PySem.W.keepIn K (.ref f0) = true)
    (z_len : PySem.W.nsIn K mainGlobals "len" = some none)
    (z_int : PySem.W.nsIn K mainGlobals "int" = some none)
    (z_isinstance : PySem.W.nsIn K mainGlobals "isinstance" = some none)
    (z_tuple : PySem.W.nsIn K mainGlobals "tuple" = some none)
    (z_list : PySem.W.nsIn K mainGlobals "list" = some none)
    (z_bool : PySem.W.nsIn K mainGlobals "bool" = some none)
    (z_zip : PySem.W.nsIn K mainGlobals "zip" = some none)
    (z_range : PySem.W.nsIn K mainGlobals "range" = some none)
    (z_max : PySem.W.nsIn K mainGlobals "max" = some none)
    (z_min : PySem.W.nsIn K mainGlobals "min" = some none)
    (z_enumerate : PySem.W.nsIn K mainGlobals "enumerate" = some none)
    (z_KeyError : PySem.W.nsIn K mainGlobals "KeyError" = some none)
    (z_ValueError : PySem.W.nsIn K mainGlobals "ValueError" = some none)
    (hB : allB K [C0, C1, C2, C3, C4, C5, C6, C7, C8, C9, C10] B = true)
    (cq : PySem.W.excIn K C8 [.type "ValueError", .type "Exception", .type "BaseException", .type "object"] "ValueError.__new__" = true) :
    ∃ fd : FuncData, (∀ (s : Shared) (v : Value), BindsTo s fd ⟨[v], []⟩ [("_law_script", v)]) ∧ ∀ base : Heap, K.In base → base.Ns mainGlobals mg → FnOk l.prog w K mg base CX0 7 fa fd ["_law_script"] (spLaw K) := by
  have e := hfa.symm.trans (PySem.W.mg_of X G a0)
  cases e
  have T : Zs mg := ⟨PySem.W.mg_none_of X G z_len, PySem.W.mg_none_of X G z_int, PySem.W.mg_none_of X G z_isinstance, PySem.W.mg_none_of X G z_tuple, PySem.W.mg_none_of X G z_list, PySem.W.mg_none_of X G z_bool, PySem.W.mg_none_of X G z_zip, PySem.W.mg_none_of X G z_range, PySem.W.mg_none_of X G z_max, PySem.W.mg_none_of X G z_min, PySem.W.mg_none_of X G z_enumerate, PySem.W.mg_none_of X G z_KeyError, PySem.W.mg_none_of X G z_ValueError⟩
  have A := allB_at hB
  have xc : ∀ i, i < 11 → XC K (cs [C0, C1, C2, C3, C4, C5, C6, C7, C8, C9, C10] i) := fun i hi => by
    obtain rfl | rfl | rfl | rfl | rfl | rfl | rfl | rfl | rfl | rfl | rfl : i = 0 ∨ i = 1 ∨ i = 2 ∨ i = 3 ∨ i = 4 ∨ i = 5 ∨ i = 6 ∨ i = 7 ∨ i = 8 ∨ i = 9 ∨ i = 10 := by omega
    · exact xc_ve (A 0 (by decide)).x xL0
    · exact xc_ve (A 1 (by decide)).x xL1
    · exact xc_ve (A 2 (by decide)).x xL2
    · exact xc_ve (A 3 (by decide)).x xL3
    · exact xc_ve (A 4 (by decide)).x xL4
    · exact xc_ve (A 5 (by decide)).x xL5
    · exact xc_ve (A 6 (by decide)).x xL6
    · exact xc_ve (A 7 (by decide)).x xL7
    · exact xc_ve (A 8 (by decide)).x xL8
    · exact xc_ve (A 9 (by decide)).x xL9
    · exact xc_ke (A 10 (by decide)).x xL10
  have S : Sorts K mg (cs [C0, C1, C2, C3, C4, C5, C6, C7, C8, C9, C10]) B := {
    xc := xc
    fi := fun i hi => (A i hi).n
    kit := fun i j hi hj => (A i hi).kit j hj
    kS := fun i hi => (A i hi).kS
    kK := fun i hi => (A i hi).kK
    kV := fun i hi => (A i hi).kV
    mc := fun i hi => by
      obtain rfl | rfl | rfl | rfl | rfl | rfl | rfl | rfl | rfl | rfl | rfl : i = 0 ∨ i = 1 ∨ i = 2 ∨ i = 3 ∨ i = 4 ∨ i = 5 ∨ i = 6 ∨ i = 7 ∨ i = 8 ∨ i = 9 ∨ i = 10 := by omega
      · exact PySem.W.mg_of X G aC0
      · exact PySem.W.mg_of X G aC1
      · exact PySem.W.mg_of X G aC2
      · exact PySem.W.mg_of X G aC3
      · exact PySem.W.mg_of X G aC4
      · exact PySem.W.mg_of X G aC5
      · exact PySem.W.mg_of X G aC6
      · exact PySem.W.mg_of X G aC7
      · exact PySem.W.mg_of X G aC8
      · exact PySem.W.mg_of X G aC9
      · exact PySem.W.mg_of X G aC10
    mS := PySem.W.mg_of X G aB }
  have Ct : Catch K (cs [C0, C1, C2, C3, C4, C5, C6, C7, C8, C9, C10]) B := ⟨fun i hi => (A i hi).eK, fun i hi => (A i hi).eS⟩
  have I : ∀ base : Heap, ∀ i, i < 11 → i ≠ 8 → Ini l.prog w K mg base (cs [C0, C1, C2, C3, C4, C5, C6, C7, C8, C9, C10]) i := fun base i hi h8 => by
    obtain rfl | rfl | rfl | rfl | rfl | rfl | rfl | rfl | rfl | rfl | rfl : i = 0 ∨ i = 1 ∨ i = 2 ∨ i = 3 ∨ i = 4 ∨ i = 5 ∨ i = 6 ∨ i = 7 ∨ i = 8 ∨ i = 9 ∨ i = 10 := by omega
    · have F := fun_mk (st := sI2) lC0 cC0 kC0
      have b := F.binds (ps := ["self", "word", "procedure", "place"]) fun _ _ _ _ _ _ us hl => match us, hl with | [_, _, _, _], _ => rfl
      exact ⟨⟨_, _, iC0, tC0, ok_i2 (P := l.prog) (w := w) (mg := mg) (base := base) F (xc 0 (by decide)) (A 0 (by decide)).n, kb_pos b rfl, kb_kw F fun _ _ _ _ _ _ us ws hl hw => match us, ws, hl, hw with | [_], [_, _, _], _, _ => rfl⟩⟩
    · have F := fun_mk (st := sI3) lC1 cC1 kC1
      have b := F.binds (ps := ["self", "line"]) fun _ _ _ _ _ _ us hl => match us, hl with | [_, _], _ => rfl
      exact ⟨⟨_, _, iC1, tC1, ok_i3 (P := l.prog) (w := w) (mg := mg) (base := base) F (xc 1 (by decide)) (A 1 (by decide)).n, kb_pos b rfl, kb_kw F fun _ _ _ _ _ _ us ws hl hw => match us, ws, hl, hw with | [_], [_], _, _ => rfl⟩⟩
    · have F := fun_mk (st := sI4) lC2 cC2 kC2
      have b := F.binds (ps := ["self", "word", "index"]) fun _ _ _ _ _ _ us hl => match us, hl with | [_, _, _], _ => rfl
      exact ⟨⟨_, _, iC2, tC2, ok_i4 (P := l.prog) (w := w) (mg := mg) (base := base) F (xc 2 (by decide)) (A 2 (by decide)).n, kb_pos b rfl, kb_kw F fun _ _ _ _ _ _ us ws hl hw => match us, ws, hl, hw with | [_], [_, _], _, _ => rfl⟩⟩
    · have F := fun_mk (st := sI5) lC3 cC3 kC3
      have b := F.binds (ps := ["self", "steps"]) fun _ _ _ _ _ _ us hl => match us, hl with | [_, _], _ => rfl
      exact ⟨⟨_, _, iC3, tC3, ok_i5 (P := l.prog) (w := w) (mg := mg) (base := base) F (xc 3 (by decide)) (A 3 (by decide)).n, kb_pos b rfl, kb_kw F fun _ _ _ _ _ _ us ws hl hw => match us, ws, hl, hw with | [_], [_], _, _ => rfl⟩⟩
    · have F := fun_mk (st := sI6) lC4 cC4 kC4
      have b := F.binds (ps := ["self", "word", "procedure", "row"]) fun _ _ _ _ _ _ us hl => match us, hl with | [_, _, _, _], _ => rfl
      exact ⟨⟨_, _, iC4, tC4, ok_i6 (P := l.prog) (w := w) (mg := mg) (base := base) F (xc 4 (by decide)) (A 4 (by decide)).n, kb_pos b rfl, kb_kw F fun _ _ _ _ _ _ us ws hl hw => match us, ws, hl, hw with | [_], [_, _, _], _, _ => rfl⟩⟩
    · have F := fun_mk (st := sI7) lC5 cC5 kC5
      have b := F.binds (ps := ["self", "procedure", "number"]) fun _ _ _ _ _ _ us hl => match us, hl with | [_, _, _], _ => rfl
      exact ⟨⟨_, _, iC5, tC5, ok_i7 (P := l.prog) (w := w) (mg := mg) (base := base) F (xc 5 (by decide)) (A 5 (by decide)).n, kb_pos b rfl, kb_kw F fun _ _ _ _ _ _ us ws hl hw => match us, ws, hl, hw with | [_], [_, _], _, _ => rfl⟩⟩
    · have F := fun_mk (st := sI8) lC6 cC6 kC6
      have b := F.binds (ps := ["self", "word", "index"]) fun _ _ _ _ _ _ us hl => match us, hl with | [_, _, _], _ => rfl
      exact ⟨⟨_, _, iC6, tC6, ok_i8 (P := l.prog) (w := w) (mg := mg) (base := base) F (xc 6 (by decide)) (A 6 (by decide)).n, kb_pos b rfl, kb_kw F fun _ _ _ _ _ _ us ws hl hw => match us, ws, hl, hw with | [_], [_, _], _, _ => rfl⟩⟩
    · have F := fun_mk (st := sI9) lC7 cC7 kC7
      have b := F.binds (ps := ["self", "part", "used", "caller"]) fun _ _ _ _ _ _ us hl => match us, hl with | [_, _, _, _], _ => rfl
      exact ⟨⟨_, _, iC7, tC7, ok_i9 (P := l.prog) (w := w) (mg := mg) (base := base) F (xc 7 (by decide)) (A 7 (by decide)).n, kb_pos b rfl, kb_kw F fun _ _ _ _ _ _ us ws hl hw => match us, ws, hl, hw with | [_], [_, _, _], _, _ => rfl⟩⟩
    · exact absurd rfl h8
    · have F := fun_mk (st := sI11) lC9 cC9 kC9
      have b := F.binds (ps := ["self", "procedure", "place", "carrier", "answers"]) fun _ _ _ _ _ _ us hl => match us, hl with | [_, _, _, _, _], _ => rfl
      exact ⟨⟨_, _, iC9, tC9, ok_i11 (P := l.prog) (w := w) (mg := mg) (base := base) F (xc 9 (by decide)) (A 9 (by decide)).n, kb_pos b rfl, kb_kw F fun _ _ _ _ _ _ us ws hl hw => match us, ws, hl, hw with | [_], [_, _, _, _], _, _ => rfl⟩⟩
    · have F := fun_mk (st := sI12) lC10 cC10 kC10
      have b := F.binds (ps := ["self", "name"]) fun _ _ _ _ _ _ us hl => match us, hl with | [_, _], _ => rfl
      exact ⟨⟨_, _, iC10, tC10, ok_i12 (P := l.prog) (w := w) (mg := mg) (base := base) F (xc 10 (by decide)) (A 10 (by decide)).n, kb_pos b rfl, kb_kw F fun _ _ _ _ _ _ us ws hl hw => match us, ws, hl, hw with | [_], [_], _, _ => rfl⟩⟩
  have F1 := fun_mk (st := sBox) l1 c1 k1
  have F2 := fun_mk (st := sTake) l2 c2 k2
  have F3 := fun_mk (st := sAlike) l3 c3 k3
  have F4 := fun_mk (st := sSome) l4 c4 k4
  have F5 := fun_mk (st := sMade) l5 c5 k5
  have F6 := fun_mk (st := sKept) l6 c6 k6
  have F7 := fun_mk (st := sSorts) l7 c7 k7
  have F8 := fun_mk (st := sThrown) l8 c8 k8
  have F9 := fun_mk (st := sCaught) l9 c9 k9
  have F0 := fun_mk (st := sLaw) l0 c0 k0
  have b1 := F1.binds (ps := ["_law_script", "_law_k"]) fun _ _ _ _ _ _ us hl => match us, hl with | [_, _], _ => rfl
  have b2 := F2.binds (ps := ["_law_box_here", "_law_many"]) fun _ _ _ _ _ _ us hl => match us, hl with | [_, _], _ => rfl
  have b3 := F3.binds (ps := ["_law_found", "_law_due"]) fun _ _ _ _ _ _ us hl => match us, hl with | [_, _], _ => rfl
  have b4 := F4.binds (ps := ["_law_box_here", "_law_deep"]) fun _ _ _ _ _ _ us hl => match us, hl with | [_, _], _ => rfl
  have b5 := F5.binds (ps := ["_law_box_here"]) fun _ _ _ _ _ _ us hl => match us, hl with | [_], _ => rfl
  have b6 := F6.binds (ps := ["_law_e"]) fun _ _ _ _ _ _ us hl => match us, hl with | [_], _ => rfl
  have b7 := F7.binds (ps := ["_law_one"]) fun _ _ _ _ _ _ us hl => match us, hl with | [_], _ => rfl
  have b8 := F8.binds (ps := ["_law_form", "_law_a"]) fun _ _ _ _ _ _ us hl => match us, hl with | [_, _], _ => rfl
  have b9 := F9.binds (ps := ["_law_form", "_law_a"]) fun _ _ _ _ _ _ us hl => match us, hl with | [_, _], _ => rfl
  have m1 := PySem.W.mg_of X G a1
  have m2 := PySem.W.mg_of X G a2
  have m3 := PySem.W.mg_of X G a3
  have m4 := PySem.W.mg_of X G a4
  have m5 := PySem.W.mg_of X G a5
  have m6 := PySem.W.mg_of X G a6
  have m7 := PySem.W.mg_of X G a7
  have m8 := PySem.W.mg_of X G a8
  have m9 := PySem.W.mg_of X G a9
  refine ⟨PySem.W.fnOf "law" "law" (defArgs sLaw) (defBody sLaw) (defScope sLaw) .none kV0 dc0 pm0 an0 cd0 ct0, fun s v => .of_eq rfl, fun base _ _ => ?_⟩
  have GT := ok_take (P := l.prog) (w := w) (mg := mg) (base := base) F2
  have GS := some_all (P := l.prog) (w := w) (mg := mg) (base := base) F4 T GT m2 k2 b2 m4 b4 4
  have GM := ok_made (P := l.prog) (w := w) (mg := mg) (base := base) F5 T S (I base) PySem.F.excBase_ValueError cq GS m4 k4 b4
  have GX := ok_thrown (P := l.prog) (w := w) (mg := mg) (base := base) F8 S (I base) PySem.F.excBase_ValueError cq
  have GC := ok_caught (P := l.prog) (w := w) (mg := mg) (base := base) F9 T Ct (PySem.W.mg_of X G aB) GX m8 k8 b8
  exact ok_law F0 T S (ok_box F1 T) m1 k1 b1 GM m5 k5 b5 (ok_alike F3 T) m3 k3 b3 (ok_kept F6 T S) m6 k6 b6 (ok_sorts F7 T S) m7 k7 b7 GS m4 k4 b4 GC m9 k9 b9
theorem walk {l : PySem.W.OpenLaw} {q : Program} {loose : List Str} {XP : (Str → Option Value) → Heap → Prop} {YP : World → Heap → Prop} {d : DefRec} {K : Params → PySem.W.Frag} (hn : l.most = some 63) (hdf : d.params.defaults = [])
    (hY : ∀ (w : World) (h : Heap), YP w h → (K w.params).In h)
    (F : ∀ (w : World) (mg : Str → Option Value) (fa : Addr) (h : Heap), (K w.params).In h → h.Ns mainGlobals mg → mg d.name = some (.ref fa) →
      ∃ fd : FuncData, (∀ (s : Shared) (u : Value), BindsTo s fd ⟨[u], []⟩ [("_law_script", u)]) ∧ ∀ base : Heap, (K w.params).In base → base.Ns mainGlobals mg → FnOk l.prog w (K w.params) mg base CX0 7 fa fd ["_law_script"] (spLaw (K w.params))) :
    PySem.W.WalkO q loose XP YP l.row.toRowW d [] (fun f vs => PySem.call f vs) :=
  L2.walk_of (n := 63) (k := 7) (x := "_law_script") (CX := fun _ => CX0) (sp := fun w => spLaw (K w.params)) hn (by decide) hdf ⟨rfl, by decide, by decide⟩ hY F (fun _ _ a ns hl _ hS => ⟨a, ns, rfl, hS, hl, fun _ => rfl⟩) fun _ _ _ _ _ z => z
end Mine
open PySem PySem.W PyProof.Rows
set_option maxRecDepth 100000 in
set_option maxHeartbeats 0 in
theorem PySem.Challenge.cw_sourwright_k01_errors_holds : PySem.Challenge.rw_sourwright_k01_errors.Holds := by
  w_on; o_law; k_head; (case hw => w_witness2)
  k_fill
  refine Mine.walk (l := PySem.Challenge.rw_sourwright_k01_errors) rfl rfl (fun w h Y => PySem.W.kIn_of Y) ?F
  case F =>
    intro w mg fa h KX G hmg
    refine' Mine.all_mk KX G hmg ?aB ?aC0 ?xL0 ?iC0 ?tC0 ?lC0 ?cC0 ?kC0 ?aC1 ?xL1 ?iC1 ?tC1 ?lC1 ?cC1 ?kC1 ?aC2 ?xL2 ?iC2 ?tC2 ?lC2 ?cC2 ?kC2 ?aC3 ?xL3 ?iC3 ?tC3 ?lC3 ?cC3 ?kC3 ?aC4 ?xL4 ?iC4 ?tC4 ?lC4 ?cC4 ?kC4 ?aC5 ?xL5 ?iC5 ?tC5 ?lC5 ?cC5 ?kC5 ?aC6 ?xL6 ?iC6 ?tC6 ?lC6 ?cC6 ?kC6 ?aC7 ?xL7 ?iC7 ?tC7 ?lC7 ?cC7 ?kC7 ?aC8 ?xL8 ?aC9 ?xL9 ?iC9 ?tC9 ?lC9 ?cC9 ?kC9 ?aC10 ?xL10 ?iC10 ?tC10 ?lC10 ?cC10 ?kC10 ?a1 ?l1 ?c1 ?k1 ?a2 ?l2 ?c2 ?k2 ?a3 ?l3 ?c3 ?k3 ?a4 ?l4 ?c4 ?k4 ?a5 ?l5 ?c5 ?k5 ?a6 ?l6 ?c6 ?k6 ?a7 ?l7 ?c7 ?k7 ?a8 ?l8 ?c8 ?k8 ?a9 ?l9 ?c9 ?k9 ?a0 ?l0 ?c0 ?k0 ?z_len ?z_int ?z_isinstance ?z_tuple ?z_list ?z_bool ?z_zip ?z_range ?z_max ?z_min ?z_enumerate ?z_KeyError ?z_ValueError ?hB ?cq
    (case aB => k_is)
    (case aC0 => k_is)
    (case xL0 => k_is)
    (case iC0 => k_is)
    (case tC0 => k_is)
    (case lC0 => k_is)
    (case cC0 => k_is)
    (case kC0 => k_is)
    (case aC1 => k_is)
    (case xL1 => k_is)
    (case iC1 => k_is)
    (case tC1 => k_is)
    (case lC1 => k_is)
    (case cC1 => k_is)
    (case kC1 => k_is)
    (case aC2 => k_is)
    (case xL2 => k_is)
    (case iC2 => k_is)
    (case tC2 => k_is)
    (case lC2 => k_is)
    (case cC2 => k_is)
    (case kC2 => k_is)
    (case aC3 => k_is)
    (case xL3 => k_is)
    (case iC3 => k_is)
    (case tC3 => k_is)
    (case lC3 => k_is)
    (case cC3 => k_is)
    (case kC3 => k_is)
    (case aC4 => k_is)
    (case xL4 => k_is)
    (case iC4 => k_is)
    (case tC4 => k_is)
    (case lC4 => k_is)
    (case cC4 => k_is)
    (case kC4 => k_is)
    (case aC5 => k_is)
    (case xL5 => k_is)
    (case iC5 => k_is)
    (case tC5 => k_is)
    (case lC5 => k_is)
    (case cC5 => k_is)
    (case kC5 => k_is)
    (case aC6 => k_is)
    (case xL6 => k_is)
    (case iC6 => k_is)
    (case tC6 => k_is)
    (case lC6 => k_is)
    (case cC6 => k_is)
    (case kC6 => k_is)
    (case aC7 => k_is)
    (case xL7 => k_is)
    (case iC7 => k_is)
    (case tC7 => k_is)
    (case lC7 => k_is)
    (case cC7 => k_is)
    (case kC7 => k_is)
    (case aC8 => k_is)
    (case xL8 => k_is)
    (case aC9 => k_is)
    (case xL9 => k_is)
    (case iC9 => k_is)
    (case tC9 => k_is)
    (case lC9 => k_is)
    (case cC9 => k_is)
    (case kC9 => k_is)
    (case aC10 => k_is)
    (case xL10 => k_is)
    (case iC10 => k_is)
    (case tC10 => k_is)
    (case lC10 => k_is)
    (case cC10 => k_is)
    (case kC10 => k_is)
    (case a1 => k_is)
    (case l1 => k_is)
    (case c1 => k_is)
    (case k1 => k_is)
    (case a2 => k_is)
    (case l2 => k_is)
    (case c2 => k_is)
    (case k2 => k_is)
    (case a3 => k_is)
    (case l3 => k_is)
    (case c3 => k_is)
    (case k3 => k_is)
    (case a4 => k_is)
    (case l4 => k_is)
    (case c4 => k_is)
    (case k4 => k_is)
    (case a5 => k_is)
    (case l5 => k_is)
    (case c5 => k_is)
    (case k5 => k_is)
    (case a6 => k_is)
    (case l6 => k_is)
    (case c6 => k_is)
    (case k6 => k_is)
    (case a7 => k_is)
    (case l7 => k_is)
    (case c7 => k_is)
    (case k7 => k_is)
    (case a8 => k_is)
    (case l8 => k_is)
    (case c8 => k_is)
    (case k8 => k_is)
    (case a9 => k_is)
    (case l9 => k_is)
    (case c9 => k_is)
    (case k9 => k_is)
    (case a0 => k_is)
    (case l0 => k_is)
    (case c0 => k_is)
    (case k0 => k_is)
    (case z_len => k_is)
    (case z_int => k_is)
    (case z_isinstance => k_is)
    (case z_tuple => k_is)
    (case z_list => k_is)
    (case z_bool => k_is)
    (case z_zip => k_is)
    (case z_range => k_is)
    (case z_max => k_is)
    (case z_min => k_is)
    (case z_enumerate => k_is)
    (case z_KeyError => k_is)
    (case z_ValueError => k_is)
    (case hB => kernel_rfl)
    (case cq => kernel_rfl)
#print axioms PySem.Challenge.cw_sourwright_k01_errors_holds
