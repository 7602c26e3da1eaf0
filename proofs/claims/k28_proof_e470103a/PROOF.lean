import PyProof.Rows.All
import Wide.All
import OpenK.AllK
import Wide.FinOn
import PyProof.EqAt
import PyProof.EqKinds
import PyProof.TupleCall
import KE.GoesZip
import KE.GoesMore
import KE.GoesEnum
import KE.KDictZip
import HandS.Base
import HandS.Call
import HandS.List
import HandS.Iter
import HandS.ForMost
import HandS.Walk
import HandS.Zip
import HandS.IsInst
import HandS.Property
import HandS.TupAny
import HandS.ForExc
import HandS.TupMul
import PyProof.StrOps2
import PyProof.NeKinds
import PyProof.NeData
import HandS.Star
import HandS.Style
import HandS.OwnEq
import HandS.MakeKwOnly
import PyProof.StrLaws
import PySem.Challenge.RW_sourwright_k28_plain_forms
set_option Elab.async false
set_option linter.all false
set_option maxRecDepth 100000
set_option maxHeartbeats 2000000
/-! list(zip(a, b)): each pair is kept by the list, so that zip may not use its tuple again -/
namespace Mine
open PySem PyProof.Rows L2
section
variable {prog : Program} {w : World} {A : Around} {E : Value → Shared → Prop} {s : Shared} {z TI TO i1 i2 T : Addr} {fp1 fp2 : List Addr} {n1 n2 i : Nat} {P1 P2 : Nat → Value → Prop} {St1 St2 : Nat → Heap → Prop} {f : Bool} {oT : Obj}

/-- a further pair, while the first tuple is still out -/
theorem held_item {Q : Value → Shared → Prop} (S : ZipSep2 z TI TO i1 i2 fp1 fp2) (D1 : Draws prog w A i1 fp1 n1 P1 St1) (D2 : Draws prog w A i2 fp2 n2 P2 St2) (hz : IsZipHeld s.heap z TI TO T f) (hT : s.heap.get? T = some oT)
    (hI : IsTupOf2 s.heap TI (.ref i1) (.ref i2)) (t1 : St1 i s.heap) (t2 : St2 i s.heap) (l1 : i < n1) (l2 : i < n2)
    (k : ∀ x y h' tk, P1 i x → P2 i y → IsZipHeld h' z TI TO T true → St1 (i + 1) h' → St2 (i + 1) h' → IsTupOf2 h' s.heap.objs.size x y → (∀ c o, c ≠ z → c ≠ i1 → c ≠ i2 → s.heap.get? c = some o → h'.get? c = some o) →
      h'.objs.size = s.heap.objs.size + 1 → Q (.ref s.heap.objs.size) { s with heap := h', toks := tk }) :
    wpAny (model prog w) A (Builtin.«zip.__next__» ⟨[.ref z], []⟩) (fun r s' => ∃ v, r = .done (.ret v) ∧ Q v s') E s := by
  obtain ⟨hp, g, d, tk0, os⟩ := s
  show wpAny _ _ (field (.ref z) 2 >>= _) _ _ _
  refine wpAny_bind (wpAny_field hz rfl (x := .bool false) rfl (show wpAny _ _ (field (.ref z) 3 >>= _) _ _ _ from ?_))
  refine wpAny_bind (wpAny_field hz rfl (x := .ref TI) rfl (wpAny_bind (wpAny_seqItems hI rfl (show wpAny _ _ (Builtin.SmallTypes.ownedTupleIsFree (.ref z) >>= _) _ _ _ from ?_))))
  refine wpAny_bind (wpAny_tupleHeld_zip hz hT fun g0 z0 e0 => ?_)
  simp only [Bool.false_eq_true, if_false]
  refine wpAny_bind ?_
  rw [← Array.forIn_toList]
  simp only [List.forIn_cons, List.forIn_nil]
  replace e0 : Heap.SameBut z hp g0 := e0
  refine wpAny_bind (wpAny_bind (wpAny_holding (show wpAny _ _ (Builtin.SmallTypes.nextOf (.ref i1) >>= _) _ _ ⟨g0, g, d, tk0, os⟩ from ?_)))
  refine wpAny_bind (D1.item i _ _ _ l1 (D1.over t1 e0 S.zf1) fun x g1 tk1 hx q1 e1 => wpAny_pure (wpAny_pure ?_))
  replace e1 : Heap.SameBut i1 g0 g1 := e1
  refine wpAny_bind (wpAny_bind (wpAny_holding (show wpAny _ _ (Builtin.SmallTypes.nextOf (.ref i2) >>= _) _ _ ⟨g1, g, d, tk1, os⟩ from ?_)))
  refine wpAny_bind (D2.item i _ _ _ l2 (D2.over (D2.over t2 e0 S.zf2) e1 S.sep1_2) fun y g2 tk2 hy q2 e2 => wpAny_pure (wpAny_pure (wpAny_pure ?_)))
  replace e2 : Heap.SameBut i2 g1 g2 := e2
  refine wpAny_bind (show wpAny _ _ (newTuple [x, y]) _ _ _ from wpAny_newTuple ?_)
  have sz : g2.objs.size = hp.objs.size := by rw [e2.1, e1.1, e0.1]
  have zz : IsZipHeld g2 z TI TO T true := e2.extBut _ _ S.zi2 (e1.extBut _ _ S.zi1 z0)
  have kk : ∀ c o, c ≠ z → c ≠ i1 → c ≠ i2 → hp.get? c = some o → g2.get? c = some o := fun c o a b b' e => e2.extBut _ _ b' (e1.extBut _ _ b (e0.extBut _ _ a e))
  have hp' : IsTupOf2 (g2.push { cls := .type "tuple", data := .seq #[x, y] }) g2.objs.size x y := Heap.get?_push_size _ rfl
  have sz' : (g2.push { cls := .type "tuple", data := .seq #[x, y] }).objs.size = g2.objs.size + 1 := Heap.size_push ..
  have up : ∀ b o, g2.get? b = some o → (g2.push { cls := .type "tuple", data := .seq #[x, y] }).get? b = some o := fun b o e => Heap.get?_push_of_some _ e
  have u1 := D1.frame _ _ _ (D1.over q1 e2 S.sep2_1) fun b _ o e => up b o e
  have u2 := D2.frame _ _ _ q2 fun b _ o e => up b o e
  refine wpAny_pure ⟨_, rfl, ?_⟩
  show Q (.ref g2.objs.size) _
  rw [sz] at hp' sz' ⊢
  exact k x y _ tk2 hx hy (up _ _ zz) u1 u2 hp' (fun c o a b b' e => up _ _ (kk c o a b b' e)) sz'

theorem held_end {Q : Fin → Shared → Prop} (S : ZipSep2 z TI TO i1 i2 fp1 fp2) (D1 : Draws prog w A i1 fp1 n1 P1 St1) (hz : IsZipHeld s.heap z TI TO T f) (hT : s.heap.get? T = some oT)
    (hI : IsTupOf2 s.heap TI (.ref i1) (.ref i2)) (t1 : St1 n1 s.heap)
    (k : ∀ h' tk e, (∀ c o, c ≠ z → c ≠ i1 → s.heap.get? c = some o → h'.get? c = some o) → (∃ o, h'.get? e = some o ∧ o.cls = .type "StopIteration") → E (.ref e) { s with heap := h', toks := tk }) :
    wpAny (model prog w) A (Builtin.«zip.__next__» ⟨[.ref z], []⟩) Q E s := by
  obtain ⟨hp, g, d, tk0, os⟩ := s
  show wpAny _ _ (field (.ref z) 2 >>= _) _ _ _
  refine wpAny_bind (wpAny_field hz rfl (x := .bool false) rfl (show wpAny _ _ (field (.ref z) 3 >>= _) _ _ _ from ?_))
  refine wpAny_bind (wpAny_field hz rfl (x := .ref TI) rfl (wpAny_bind (wpAny_seqItems hI rfl (show wpAny _ _ (Builtin.SmallTypes.ownedTupleIsFree (.ref z) >>= _) _ _ _ from ?_))))
  refine wpAny_bind (wpAny_tupleHeld_zip hz hT fun g0 z0 e0 => ?_)
  simp only [Bool.false_eq_true, if_false]
  refine wpAny_bind ?_
  rw [← Array.forIn_toList]
  simp only [List.forIn_cons, List.forIn_nil]
  replace e0 : Heap.SameBut z hp g0 := e0
  refine wpAny_bind (wpAny_bind (wpAny_holding (show wpAny _ _ (Builtin.SmallTypes.nextOf (.ref i1) >>= _) _ _ ⟨g0, g, d, tk0, os⟩ from ?_)))
  exact wpAny_bind (D1.done ⟨g0, g, d, tk0, os⟩ _ _ (D1.over t1 e0 S.zf1) fun q e hq he => k q tk0 e (fun c o a b x => hq _ _ b (e0.extBut _ _ a x)) he)

theorem next_held {Q : Option Value → Shared → Prop} (S : ZipSep2 z TI TO i1 i2 fp1 fp2) (D1 : Draws prog w A.in1 i1 fp1 n1 P1 St1) (D2 : Draws prog w A.in1 i2 fp2 n2 P2 St2) (hz : IsZipHeld s.heap z TI TO T f) (hT : s.heap.get? T = some oT)
    (hI : IsTupOf2 s.heap TI (.ref i1) (.ref i2)) (t1 : St1 i s.heap) (t2 : St2 i s.heap) (l1 : i < n1) (l2 : i < n2)
    (k : ∀ x y h' tk, P1 i x → P2 i y → IsZipHeld h' z TI TO T true → St1 (i + 1) h' → St2 (i + 1) h' → IsTupOf2 h' s.heap.objs.size x y → (∀ c o, c ≠ z → c ≠ i1 → c ≠ i2 → s.heap.get? c = some o → h'.get? c = some o) →
      h'.objs.size = s.heap.objs.size + 1 → Q (some (.ref s.heap.objs.size)) { s with heap := h', toks := tk }) :
    wpAny (model prog w) A (pyNext (.ref z)) Q E s := by
  have hTy : s.TypeIs (.ref z) "zip" := ⟨_, hz, rfl⟩
  unfold pyNext
  refine wpAny_bind (wpAny_attempt (wpAny_callSpecial?_slot (name := Str.ofString "__next__") hTy F.slot_zip_next (wpAny_call_entry F.slot_zip_next hTy F.entry_zip_next ?_ (F.args_zip_next_1 _))))
  exact held_item S D1 D2 hz hT hI t1 t2 l1 l2 fun x y h' tk a b c1 c2 c3 c4 c5 c6 => wpAny_pure (k x y h' tk a b c1 c2 c3 c4 c5 c6)
theorem stop_held {Q : Option Value → Shared → Prop} (S : ZipSep2 z TI TO i1 i2 fp1 fp2) (D1 : Draws prog w A.in1 i1 fp1 n1 P1 St1) (hz : IsZipHeld s.heap z TI TO T f) (hT : s.heap.get? T = some oT)
    (hI : IsTupOf2 s.heap TI (.ref i1) (.ref i2)) (t1 : St1 n1 s.heap) (k : ∀ h' tk, (∀ c o, c ≠ z → c ≠ i1 → s.heap.get? c = some o → h'.get? c = some o) → Q none { s with heap := h', toks := tk }) :
    wpAny (model prog w) A (pyNext (.ref z)) Q E s := by
  have hTy : s.TypeIs (.ref z) "zip" := ⟨_, hz, rfl⟩
  unfold pyNext
  refine wpAny_bind (wpAny_attempt (wpAny_callSpecial?_slot (name := Str.ofString "__next__") hTy F.slot_zip_next (wpAny_call_entry F.slot_zip_next hTy F.entry_zip_next ?_ (F.args_zip_next_1 _))))
  refine held_end S D1 hz hT hI t1 fun h' tk e hk he => ?_
  obtain ⟨o, ho, hc⟩ := he
  exact wpAny_bind (wpAny_isInstance (T := "StopIteration") (b := true) ⟨o, ho, hc⟩ isSubtype_stop (wpAny_pure (k _ _ hk)))

theorem zip_nolen : typeLookup (.type "zip") "__len__" = pure none := am_miss_of_fast (by decide +kernel)
theorem zip_nohint : typeLookup (.type "zip") "__length_hint__" = pure none := am_miss_of_fast (by decide +kernel)

/-- where the list, the zip and its parts lie: all new, all apart -/
structure ZApart (n0 : Nat) (q z TI TO i1 i2 : Addr) (fp1 fp2 : List Addr) : Prop where
  sep : ZipSep2 z TI TO i1 i2 fp1 fp2
  nq : n0 ≤ q
  nz : n0 ≤ z
  nO : n0 ≤ TO
  n1 : n0 ≤ i1
  n2 : n0 ≤ i2
  qz : q ≠ z
  qI : q ≠ TI
  qO : q ≠ TO
  q1 : q ∉ fp1
  q2 : q ∉ fp2
/-- behind some turns: the pairs so far lie at the addresses `ps` -/
structure ZS (h0 : Heap) (q z TI TO i1 i2 : Addr) (P1 P2 : Nat → Value → Prop) (St1 St2 : Nat → Heap → Prop) (ps : List Addr) (h : Heap) : Prop where
  keep : ∀ b o, h0.get? b = some o → h.get? b = some o
  lst : ∃ c, h.get? q = some { cls := .type "list", data := .seq (ps.map Value.ref).toArray c }
  tI : IsTupOf2 h TI (.ref i1) (.ref i2)
  tO : ∃ a b, IsTupOf2 h TO a b
  zip : (ps = [] ∧ IsZip h z TI TO .none) ∨ ∃ T r f, ps = T :: r ∧ IsZipHeld h z TI TO T f
  s1 : St1 ps.length h
  s2 : St2 ps.length h
  prs : ∀ (j : Nat) (a : Addr), ps[j]? = some a → (h0.objs.size ≤ a ∧ a ≠ q ∧ a ≠ z ∧ a ≠ TO ∧ a ≠ i1 ∧ a ≠ i2) ∧ ∃ x y, P1 j x ∧ P2 j y ∧ IsTupOf2 h a x y
end
section
variable {prog : Program} {w : World} {A : Around} {E : Value → Shared → Prop} {z TI TO i1 i2 q : Addr} {fp1 fp2 : List Addr} {n : Nat} {P1 P2 : Nat → Value → Prop} {St1 St2 : Nat → Heap → Prop} {h0 h h' : Heap} {ps : List Addr} {g : Array GenState} {d : Drawn} {os : OsState} {tk : Nat}
/-- one turn's bookkeeping: `a` is the new pair -/
theorem ZS.turn (S : ZS h0 q z TI TO i1 i2 P1 P2 St1 St2 ps h) (Z : ZApart h0.objs.size q z TI TO i1 i2 fp1 fp2) (D1 : Draws prog w A i1 fp1 n P1 St1) (D2 : Draws prog w A i2 fp2 n P2 St2) {a : Addr} {x y : Value} (ha : h.objs.size = a) (hx : P1 ps.length x) (hy : P2 ps.length y)
    (kz : ∃ T f, (ps ++ [a]).head? = some T ∧ IsZipHeld h' z TI TO T f) (kO : ∃ a b, IsTupOf2 h' TO a b) (t1 : St1 (ps.length + 1) h') (t2 : St2 (ps.length + 1) h') (hp : IsTupOf2 h' a x y) (k : ∀ c o, c ≠ z → c ≠ TO → c ≠ i1 → c ≠ i2 → h.get? c = some o → h'.get? c = some o) :
    ZS h0 q z TI TO i1 i2 P1 P2 St1 St2 (ps ++ [a]) (h'.update q (Obj.mapSeq (·.push (.ref a)))) := by
  obtain ⟨c, hl⟩ := S.lst
  have lt0 : ∀ {b : Addr} {o : Obj} {m : Addr}, h0.get? b = some o → h0.objs.size ≤ m → b ≠ m := fun e l => Nat.ne_of_lt (Nat.lt_of_lt_of_le (Heap.lt_size e) l)
  have q1 : q ≠ i1 := fun e => Z.q1 (e ▸ Z.sep.mem1)
  have q2 : q ≠ i2 := fun e => Z.q2 (e ▸ Z.sep.mem2)
  have hl' := k q _ Z.qz Z.qO q1 q2 hl
  have up : ∀ b o, b ≠ q → h'.get? b = some o → (h'.update q (Obj.mapSeq (·.push (.ref a)))).get? b = some o := fun b o hb e => (Heap.get?_update_other _ _ (Ne.symm hb)).trans e
  have fresh : ∀ {b : Addr} {o : Obj}, h.get? b = some o → a ≠ b := fun e => by rw [← ha]; exact Nat.ne_of_gt (Heap.lt_size e)
  have hle : h0.objs.size ≤ a := by
    rw [← ha]
    exact Nat.le_of_lt (Nat.lt_of_le_of_lt Z.nq (Heap.lt_size hl))
  obtain ⟨aO, bO, hO⟩ := S.tO
  have zz : ∃ o, h.get? z = some o := by
    rcases S.zip with ⟨_, e⟩ | ⟨_, _, _, _, e⟩
    · exact ⟨_, e⟩
    · exact ⟨_, e⟩
  obtain ⟨oz, hz⟩ := zz
  obtain ⟨o1, e1⟩ := D1.live _ _ S.s1
  obtain ⟨o2, e2⟩ := D2.live _ _ S.s2
  refine ⟨fun b o e => up b o (lt0 e Z.nq) (k b o (lt0 e Z.nz) (lt0 e Z.nO) (lt0 e Z.n1) (lt0 e Z.n2) (S.keep b o e)), ?_, up _ _ (Ne.symm Z.qI) (k _ _ Z.sep.TIz Z.sep.TITO Z.sep.TIi1 Z.sep.TIi2 S.tI), ?_, .inr ?_, ?_, ?_, fun j b hb => ?_⟩
  · refine ⟨c + 1, (Heap.get?_update_self _ hl' rfl).trans ?_⟩
    simp [Obj.mapSeq]
  · obtain ⟨u, v, e⟩ := kO
    exact ⟨u, v, up _ _ (Ne.symm Z.qO) e⟩
  · obtain ⟨T, f, eT, e⟩ := kz
    cases hps : ps ++ [a] with
    | nil => rw [hps] at eT; cases eT
    | cons T' r =>
      rw [hps] at eT
      obtain rfl := Option.some.inj eT
      exact ⟨T', r, f, rfl, up _ _ (Ne.symm Z.qz) e⟩
  · rw [List.length_append]
    exact D1.frame _ _ _ t1 fun b hb o e => up b o (fun z => Z.q1 (z ▸ hb)) e
  · rw [List.length_append]
    exact D2.frame _ _ _ t2 fun b hb o e => up b o (fun z => Z.q2 (z ▸ hb)) e
  · by_cases hj : j < ps.length
    · rw [List.getElem?_append_left hj] at hb
      obtain ⟨⟨m0, m1, m2, m3, m4, m5⟩, x', y', hx', hy', e⟩ := S.prs j b hb
      exact ⟨⟨m0, m1, m2, m3, m4, m5⟩, x', y', hx', hy', up _ _ m1 (k _ _ m2 m3 m4 m5 e)⟩
    · rw [List.getElem?_append_right (by omega)] at hb
      obtain ⟨j0, eb⟩ : j - ps.length = 0 ∧ b = a := by
        cases hj0 : j - ps.length with
        | zero => rw [hj0] at hb; exact ⟨rfl, (Option.some.inj hb).symm⟩
        | succ m => rw [hj0] at hb; cases hb
      have ej : j = ps.length := by omega
      subst eb ej
      exact ⟨⟨hle, fresh hl, fresh hz, fresh hO, fresh e1, fresh e2⟩, x, y, hx, hy, up _ _ (fresh hl) hp⟩

/-- the list takes what zip hands out, to the end -/
theorem zip_drain {R : Result → Shared → Prop} (hh : A.handled = none) (hn : n < sizeLine) (Z : ZApart h0.objs.size q z TI TO i1 i2 fp1 fp2) (D1 : Draws prog w A.in1.in1 i1 fp1 n P1 St1) (D2 : Draws prog w A.in1.in1 i2 fp2 n P2 St2)
    (hend : ∀ (ps : List Addr) (h : Heap) (tk : Nat), ps.length = n → (∀ b o, h0.get? b = some o → h.get? b = some o) → (∃ c, h.get? q = some { cls := .type "list", data := .seq (ps.map Value.ref).toArray c }) →
      (∀ (j : Nat) (a : Addr), ps[j]? = some a → h0.objs.size ≤ a ∧ a ≠ q ∧ ∃ x y, P1 j x ∧ P2 j y ∧ IsTupOf2 h a x y) → R (.ok (.ret .none)) ⟨h, g, d, tk, os⟩) :
    ∀ (m : Nat) (ps : List Addr) (h : Heap) (tk : Nat), ps.length + m = n → ZS h0 q z TI TO i1 i2 P1 P2 St1 St2 ps h → codeAny (model prog w) A (.builtin "list.extend.loop" ⟨[.ref q, .ref z, .none], []⟩) R ⟨h, g, d, tk, os⟩ := by
  intro m
  have fin : ∀ (ps : List Addr) (h h' : Heap) (tk : Nat), ps.length = n → ZS h0 q z TI TO i1 i2 P1 P2 St1 St2 ps h → (∀ c o, c ≠ z → c ≠ TO → c ≠ i1 → c ≠ i2 → h.get? c = some o → h'.get? c = some o) → R (.ok (.ret .none)) ⟨h', g, d, tk, os⟩ := by
    intro ps h h' tk hl S k
    have lt0 : ∀ {b : Addr} {o : Obj} {m : Addr}, h0.get? b = some o → h0.objs.size ≤ m → b ≠ m := fun e l => Nat.ne_of_lt (Nat.lt_of_lt_of_le (Heap.lt_size e) l)
    obtain ⟨c, hc⟩ := S.lst
    refine hend ps h' tk hl (fun b o e => k b o (lt0 e Z.nz) (lt0 e Z.nO) (lt0 e Z.n1) (lt0 e Z.n2) (S.keep b o e)) ⟨c, k _ _ Z.qz Z.qO (fun e => Z.q1 (e ▸ Z.sep.mem1)) (fun e => Z.q2 (e ▸ Z.sep.mem2)) hc⟩ fun j a ha => ?_
    obtain ⟨⟨m0, m1, m2, m3, m4, m5⟩, x, y, hx, hy, e⟩ := S.prs j a ha
    exact ⟨m0, m1, x, y, hx, hy, k _ _ m2 m3 m4 m5 e⟩
  induction m with
  | zero =>
    intro ps h tk hl S
    have hl' : ps.length = n := hl
    refine codeAny_builtin F.entry_extend_loop ?_
    rw [Around.under_plainId F.plain_extend_loop _]
    show wpAny _ A.in1 (pyNext (.ref z) >>= _) _ _ _
    have s1 := S.s1
    have s2 := S.s2
    rw [hl'] at s1 s2
    rcases S.zip with ⟨_, hz⟩ | ⟨T, r, f, ep, hz⟩
    · obtain ⟨a, b, hO⟩ := S.tO
      refine wpAny_bind (wpAny_pyNext_zipD2_end Z.sep D1 D2 hz S.tI hO s1 s2 (Nat.le_refl _) (Nat.le_refl _) (.inl rfl) fun h' tk' k => wpAny_pure ?_)
      exact fin ps h h' tk' hl' S k
    · obtain ⟨_, x, y, _, _, hT⟩ := S.prs 0 T (by rw [ep]; rfl)
      refine wpAny_bind (stop_held Z.sep D1 hz hT S.tI s1 fun h' tk' k => wpAny_pure ?_)
      exact fin ps h h' tk' hl' S fun c o c1 _ c3 _ e => k c o c1 c3 e
  | succ m ih =>
    intro ps h tk hl S
    have hlt : ps.length < n := by omega
    refine codeAny_builtin F.entry_extend_loop ?_
    rw [Around.under_plainId F.plain_extend_loop _]
    show wpAny _ A.in1 (pyNext (.ref z) >>= _) _ _ _
    have next : ∀ (x y : Value) (h' : Heap) (tk' : Nat), P1 ps.length x → P2 ps.length y → (∃ T f, (ps ++ [h.objs.size]).head? = some T ∧ IsZipHeld h' z TI TO T f) → (∃ a b, IsTupOf2 h' TO a b) → St1 (ps.length + 1) h' → St2 (ps.length + 1) h' → IsTupOf2 h' h.objs.size x y →
        (∀ c o, c ≠ z → c ≠ TO → c ≠ i1 → c ≠ i2 → h.get? c = some o → h'.get? c = some o) →
        wpAny (model prog w) A.in1 (updateSeq q (·.push (.ref h.objs.size)) >>= fun _ => again (.builtin "list.extend.loop" ⟨[.ref q, .ref z, .none], []⟩))
          (fun r s' => match r with | .done f => R (.ok f) s' | .again c' => c'.quiet = true ∧ codeAny (model prog w) A c' R s') (fun e s' => R (.error e) s') ⟨h', g, d, tk', os⟩ := by
      intro x y h' tk' hx hy kz kO t1 t2 hp k
      obtain ⟨c, hc⟩ := S.lst
      have hc' := k _ _ Z.qz Z.qO (fun e => Z.q1 (e ▸ Z.sep.mem1)) (fun e => Z.q2 (e ▸ Z.sep.mem2)) hc
      refine wpAny_bind (wpAny_updateSeq (s := ⟨h', g, d, tk', os⟩) hc' rfl (wpAny_pure ⟨plainId_quiet F.plain_extend_loop _, ?_⟩) ?_ ?_)
      · exact ih (ps ++ [h.objs.size]) _ tk' (by rw [List.length_append, List.length_singleton]; omega) (S.turn Z D1 D2 rfl hx hy kz kO t1 t2 hp k)
      · show (ps.map Value.ref).toArray.size ≤ sizeLine
        rw [List.size_toArray, List.length_map]
        omega
      · show ((ps.map Value.ref).toArray.push (.ref h.objs.size)).size ≤ sizeLine + 1
        rw [Array.size_push, List.size_toArray, List.length_map]
        omega
    rcases S.zip with ⟨e0, hz⟩ | ⟨T, r, f, ep, hz⟩
    · obtain ⟨a, b, hO⟩ := S.tO
      refine wpAny_bind (wpAny_pyNext_zipD2_item Z.sep D1 D2 hz S.tI hO S.s1 S.s2 hlt hlt fun x y h' tk' hx hy k1 k2 t1 t2 hp _ k => ?_)
      exact next x y h' tk' hx hy ⟨_, false, by rw [e0]; rfl, k1⟩ ⟨_, _, k2⟩ t1 t2 hp k
    · obtain ⟨_, x0, y0, _, _, hT⟩ := S.prs 0 T (by rw [ep]; rfl)
      obtain ⟨a, b, hO⟩ := S.tO
      refine wpAny_bind (next_held Z.sep D1 D2 hz hT S.tI S.s1 S.s2 hlt hlt fun x y h' tk' hx hy k1 t1 t2 hp k _ => ?_)
      refine next x y h' tk' hx hy ⟨T, true, by rw [ep]; rfl, k1⟩ ⟨a, b, k _ _ Z.sep.TOz Z.sep.Ti1 Z.sep.Ti2 hO⟩ t1 t2 hp fun c o c1 _ c3 c4 e => k c o c1 c3 c4 e

/-- list(z), z a zip that has not begun -/
theorem call_list_zip {Q : Value → Shared → Prop} {tk : Nat} (hh : A.handled = none) (hn : n < sizeLine) (D1 : ∀ B : Around, B.handled = none → Draws prog w B i1 fp1 n P1 St1) (D2 : ∀ B : Around, B.handled = none → Draws prog w B i2 fp2 n P2 St2) (sep : ZipSep2 z TI TO i1 i2 fp1 fp2)
    (k0 : ∀ b o, h0.get? b = some o → h.get? b = some o) (nz : h0.objs.size ≤ z) (nO : h0.objs.size ≤ TO) (n1 : h0.objs.size ≤ i1) (n2 : h0.objs.size ≤ i2) (f1 : ∀ b ∈ fp1, b < h.objs.size) (f2 : ∀ b ∈ fp2, b < h.objs.size) (hz : IsZip h z TI TO .none) (tI : IsTupOf2 h TI (.ref i1) (.ref i2)) {a b : Value} (tO : IsTupOf2 h TO a b) (s1 : St1 0 h) (s2 : St2 0 h)
    (hQ : ∀ (S : Addr) (ps : List Addr) (h' : Heap) (tk : Nat), h0.objs.size ≤ S → ps.length = n → (∀ b o, h0.get? b = some o → h'.get? b = some o) → (∃ c, h'.get? S = some { cls := .type "list", data := .seq (ps.map Value.ref).toArray c }) →
      (∀ (j : Nat) (a : Addr), ps[j]? = some a → h0.objs.size ≤ a ∧ a ≠ S ∧ ∃ x y, P1 j x ∧ P2 j y ∧ IsTupOf2 h' a x y) → Q (.ref S) ⟨h', g, d, tk, os⟩) :
    wpAny (model prog w) A (call (.type "list") [.ref z]) Q E ⟨h, g, d, tk, os⟩ := by
  have lt : ∀ {c : Addr} {o : Obj}, h.get? c = some o → h.objs.size ≠ c := fun e => Nat.ne_of_gt (Heap.lt_size e)
  have le0 : h0.objs.size ≤ h.objs.size := Nat.le_of_lt (Nat.lt_of_le_of_lt nz (Heap.lt_size hz))
  have Z : ZApart h0.objs.size h.objs.size z TI TO i1 i2 fp1 fp2 := ⟨sep, le0, nz, nO, n1, n2, lt hz, lt tI, lt tO, fun m => Nat.lt_irrefl _ (f1 _ m), fun m => Nat.lt_irrefl _ (f2 _ m)⟩
  refine callType_codes (Q₁ := fun obj s₁ => obj = .ref h.objs.size ∧ s₁ = ⟨h.push { cls := .type "list", data := .seq #[] }, g, d, tk, os⟩) F.called_list (F.typeCall_list_1 _) F.entry_list_init (code_list_new _ ⟨rfl, rfl⟩) fun obj s₁ hs => ?_
  obtain ⟨rfl, rfl⟩ := hs
  have e0 : (h.push { cls := .type "list", data := .seq #[] }).get? h.objs.size = some { cls := .type "list", data := .seq #[] } := Heap.get?_push_size _ rfl
  have u0 : ∀ b o, h.get? b = some o → (h.push { cls := .type "list", data := .seq #[] }).get? b = some o := fun b o e => Heap.get?_push_of_some _ e
  have up : ∀ (h₁ : Heap) (f : Obj → Obj), (∀ b o, h.get? b = some o → h₁.get? b = some o) → ∀ b o, h.get? b = some o → (h₁.update h.objs.size f).get? b = some o := fun h₁ f q b o e => (Heap.get?_update_other _ _ (lt e)).trans (q b o e)
  refine ⟨⟨_, e0, rfl⟩, F.args_list_init_2 _ _, ?_⟩
  show wpAny _ A.in1.in1 (do let old ← Builtin.List.listItems (.ref h.objs.size); Builtin.List.listUpdate (.ref h.objs.size) (fun _ => #[]); letGo old.toList.reverse; Builtin.List.listExtendWith (.ref h.objs.size) (.ref z) .none) _ _ _
  refine wpAny_bind ?_
  unfold Builtin.List.listItems
  refine wpAny_bind (wpAny_seqItems e0 rfl (wpAny_pure ?_))
  show wpAny _ A.in1.in1 (updateSeq h.objs.size (fun _ => #[]) >>= fun _ => letGo (#[] : Array Value).toList.reverse >>= fun _ => Builtin.List.listExtendWith (.ref h.objs.size) (.ref z) .none) _ _ _
  refine wpAny_bind (wpAny_updateSeq e0 rfl (wpAny_bind (wpAny_letGo ?_)))
  have e1 := Heap.get?_update_self (Obj.mapSeq (fun _ => (#[] : Array Value))) e0 rfl
  have u1 := up _ (Obj.mapSeq (fun _ => (#[] : Array Value))) u0
  unfold Builtin.List.listExtendWith
  have ty : ∀ {h₁ : Heap} {t : Nat}, (∀ b o, h.get? b = some o → h₁.get? b = some o) → (⟨h₁, g, d, t, os⟩ : Shared).TypeIs (.ref z) "zip" := fun k => ⟨_, k _ _ hz, rfl⟩
  refine wpAny_bind (wpAny_typeOf (ty u1) ?_)
  have h1 : Builtin.List.listSameRef (.ref h.objs.size) (.ref z) = false := by simp [Builtin.List.listSameRef, lt hz]
  have h2 : (Value.type "zip" == Value.type "list") = false := by decide
  have h3 : (Value.type "zip" == Value.type "tuple") = false := by decide
  simp only [h1, h2, h3, Bool.or_false, Bool.false_eq_true, if_false]
  refine wpAny_bind (wpAny_pyIter_zip (s := ⟨_, g, d, tk, os⟩) (f0 := .none) (u1 _ _ hz) (wpAny_bind (wpAny_holding ?_)))
  unfold Builtin.List.listLengthHint
  refine wpAny_bind (wpAny_specialOf (ty u1) zip_nolen ?_)
  show wpAny _ A.in1.in1 (specialOf (Value.ref z) (Str.ofString "__length_hint__") >>= _) _ _ _
  refine wpAny_bind (wpAny_specialOf (ty u1) zip_nohint (wpAny_pure ?_))
  show wpAny _ A.in1.in1 (rule "list.extend.makes-room" >>= fun _ => Builtin.List.listTouch (.ref h.objs.size) >>= fun _ => again (.builtin "list.extend.loop" ⟨[.ref h.objs.size, .ref z, .none], []⟩)) _ _ _
  refine wpAny_bind (wpAny_rule (wpAny_bind ?_))
  show wpAny _ A.in1.in1 (updateSeq h.objs.size (·.push .none) >>= fun _ => updateSeq h.objs.size (·.pop)) _ _ _
  refine wpAny_bind (wpAny_updateSeq e1 rfl ?_)
  have e2 := Heap.get?_update_self (Obj.mapSeq (·.push Value.none)) e1 rfl
  refine wpAny_updateSeq (hz := by seq_fits) e2 rfl ?_
  have e3 := Heap.get?_update_self (Obj.mapSeq (·.pop)) e2 rfl
  have u3 := up _ (Obj.mapSeq (·.pop)) (up _ (Obj.mapSeq (·.push Value.none)) u1)
  refine wpAny_pure ⟨plainId_quiet F.plain_extend_loop _, ?_⟩
  have hA : A.in1.handled = none := hh
  have hB : A.in1.in1.in1.handled = none := hh
  refine zip_drain (A := A.in1) (h0 := h0) hA hn Z (D1 _ hB) (D2 _ hB) (fun ps h' tk' hl k hS hp => ⟨rfl, hQ _ ps h' tk' le0 hl k hS hp⟩) n [] _ tk (by simp) ?_
  refine ⟨fun b o e => u3 b o (k0 b o e), ⟨_, e3⟩, u3 _ _ tI, ⟨_, _, u3 _ _ tO⟩, .inl ⟨rfl, u3 _ _ hz⟩, (D1 _ hB).frame _ _ _ s1 fun b _ o e => u3 b o e, (D2 _ hB).frame _ _ _ s2 fun b _ o e => u3 b o e, fun j a e => by cases e⟩
end
end Mine

set_option maxRecDepth 100000
set_option maxHeartbeats 2000000
namespace Mine
open PySem PySem.Spec PyProof.Rows L2
section
variable {X : Cx} {pins : List (Addr × Obj)} {σ : L2.St} {H H' : Hp} {s : Shared} {h' : Heap}
theorem HOk.at {P : Program} {w : World} {h : Heap} (x : HOk P w H h) {a : Addr} {o : HO} (e : H a = some o) : ∃ u, h.get? a = some u := by
  have q := x a o e
  cases o with
  | lst xs => obtain ⟨_, _, _, _, e⟩ := q; exact ⟨_, e⟩
  | tup xs => obtain ⟨_, _, _, o, e, _⟩ := q; exact ⟨_, e⟩
  | dK kvs => obtain ⟨_, _, _, _, o, _, _, e, _⟩ := q; exact ⟨_, e⟩
  | dT kvs => obtain ⟨_, _, _, _, o, _, _, e, _⟩ := q; exact ⟨_, e⟩
  | set S n => obtain ⟨o, _, _, _, e, _⟩ := q; exact ⟨_, e⟩
  | ins C dx fs => obtain ⟨_, _, _, e, _⟩ := q; exact ⟨_, e⟩
  | own y => obtain ⟨_, e⟩ := q; exact ⟨_, e⟩
  | xd fs => obtain ⟨_, ⟨_, _, _, e, _⟩, _⟩ := q; exact ⟨_, e⟩
  | rng lo hi => obtain ⟨_, _, _, e⟩ := q; exact ⟨_, e⟩
  | frz ob u => obtain ⟨e, _⟩ := q; exact ⟨_, e⟩
  | tbl ps => exact ⟨_, (show h.get? a = some _ from q)⟩
  | met f y => exact ⟨_, (show h.get? a = some _ from q)⟩
  | ext φ => obtain ⟨_, ⟨_, e⟩, _⟩ := q; exact ⟨_, e⟩
/-- several new objects at once: all that stood stands, what is told besides lies where nothing stood -/
theorem Inv.grow {t' : Nat} (I : Inv X pins σ H s) (k : ∀ b u, s.heap.get? b = some u → h'.get? b = some u) (e : ∀ b, (∃ u, s.heap.get? b = some u) → H' b = H b) (new : ∀ b o, H' b = some o → H b = none → ObjOk X.prog X.w H' h' b o) :
    Inv X pins σ H' { s with heap := h', toks := t' } := by
  have st : ∀ b o, H b = some o → H' b = some o := fun b o q => (e b (HOk.at I.hok q)).trans q
  refine I.un ⟨fun b u q _ _ _ => k b u q, fun b u q _ _ _ => ⟨u.slots, k b u q⟩, fun b u q n _ => (e b ⟨u, q⟩).trans n, fun b u q _ => ⟨u, k b u q⟩, fun b xs q => st b _ q, fun b o u q => st b _ q, fun b ps q => ⟨#[], by rw [st b _ q, Array.append_empty]⟩⟩ fun b o q => ?_
  cases hb : H b with
  | none => exact new b o q hb
  | some u =>
    have z := st b u hb
    rw [q] at z
    cases z
    exact (I.hok b o hb).stay (fun c v _ r => k c v r) (fun c r => st c _ r) fun c xs r => st c _ r
end
/-- the pairs of two lists of values lie at ps, the list of them at S -/
structure Zipped (H H' : Hp) (S : Addr) (ps : List Addr) (xs ys : List V) : Prop where
  same : Same H H'
  fresh : H S = none
  at_ : H' S = some (.lst (ps.map V.ref))
  len : ps.length = xs.length
  pair : ∀ (j : Nat) (p : Addr) (x y : V), ps[j]? = some p → xs[j]? = some x → ys[j]? = some y → H' p = some (.tup [x, y])
  apart : ∀ (j : Nat) (p : Addr), ps[j]? = some p → H p = none
def SqA (K : PySem.W.Frag) (H : Hp) (a : Addr) (xs : List V) : Prop := SqL K H a xs ∨ SqT K H a xs
def tLZ (K : PySem.W.Frag) (ta : TA) : TE := fun σ H Q => ta σ H fun vs H1 => ∃ (a b : Addr) (xs ys : List V), vs = [.ref a, .ref b] ∧ SqA K H1 a xs ∧ SqA K H1 b ys ∧ xs.length = ys.length ∧ xs.length < sizeLine ∧
  ∀ (S : Addr) (ps : List Addr) (H2 : Hp), Zipped H1 H2 S ps xs ys → Q (.ref S) H2
section
variable {X : Cx} {pins : List (Addr × Obj)} {σ : L2.St} {H H' : Hp} {s : Shared}
/-- what iter and next of a list or a tuple do, for zip -/
structure Src (prog : Program) (w : World) (s : Shared) (a : Addr) (o : Obj) (Hs : Heap → Prop) (its : List Value) (St : Addr → Nat → Heap → Prop) : Prop where
  lt : a < s.heap.objs.size
  beg : Begins (.ref a) o Hs
  now : Hs s.heap
  draw : ∀ (it : Addr), a ≠ it → ∀ B : Around, B.handled = none → Draws prog w B it [it, a] its.length (fun i x => its[i]? = some x) (St it)
  st : ∀ (it : Addr) (h : Heap), h.get? it = some o → (∀ c u, s.heap.get? c = some u → h.get? c = some u) → St it 0 h
theorem src_of (I : Inv X pins σ H s) {a : Addr} {xs : List V} (h : SqA X.K H a xs) : ∃ o Hs its St, Src X.prog X.w s a o Hs its St ∧ Vals xs its := by
  rcases h with h | h
  · obtain ⟨its, rv, p, _⟩ := I.list h
    refine ⟨_, _, its, fun it i h => h.IsListIter it a i ∧ h.IsList a its.toArray, ⟨p.lt, begins_list a its.toArray, p.isList, fun it ne B hB => ?_, fun it h e k => ⟨⟨_, e, rfl, rfl⟩, p.isList.at fun o q => k a o q⟩⟩, rv⟩
    have q := Draws.list (prog := X.prog) (w := X.w) hB it a ne its.toArray
    simpa using q
  · obtain ⟨its, rv, p, _⟩ := I.tuple h
    have p' : s.heap.IsTuple a its.toArray := p
    refine ⟨_, _, its, fun it i h => h.IsTupleIter it a i ∧ h.IsTuple a its.toArray, ⟨p.lt, begins_tuple a its.toArray, p', fun it ne B hB => ?_, fun it h e k => ⟨⟨_, e, rfl, rfl⟩, p'.at fun o q => k a o q⟩⟩, rv⟩
    have q := Draws.tuple (prog := X.prog) (w := X.w) hB it a ne its.toArray
    simpa using q
theorem run_listZip {Q : VK} {E : Value → Shared → Prop} {A : Around} {a b : Addr} {xs ys : List V} (hh : A.handled = none) (I : Inv X pins σ H s) (ha : SqA X.K H a xs) (hb : SqA X.K H b ys) (hl : xs.length = ys.length) (hz : xs.length < sizeLine)
    (q : ∀ (S : Addr) (ps : List Addr) (H2 : Hp), Zipped H H2 S ps xs ys → Q (.ref S) H2) :
    wpAny (model X.prog X.w) A (call (.type "zip") [.ref a, .ref b]) (fun z s' => wpAny (model X.prog X.w) A (call (.type "list") [z]) (EP X pins σ Q) E s') E s := by
  obtain ⟨o1, H1, its1, St1, S1, r1⟩ := src_of I ha
  obtain ⟨o2, H2, its2, St2, S2, r2⟩ := src_of I hb
  have e1 := r1.length
  have e2 := r2.length
  have el : its2.length = its1.length := by omega
  refine zip_begins2 S1.beg S2.beg S1.now S2.now fun h hz' tI tO g1 g2 hsz hk => ?_
  obtain ⟨hp, g, d, tk, os⟩ := s
  replace hk : ∀ c o, hp.get? c = some o → h.get? c = some o := hk
  have la : a < hp.objs.size := S1.lt
  have lb : b < hp.objs.size := S2.lt
  replace hsz : h.objs.size = hp.objs.size + 5 := hsz
  refine call_list_zip (h0 := hp) (n := its1.length) hh (by omega) (S1.draw hp.objs.size (Nat.ne_of_lt la)) (fun B hB => el ▸ S2.draw (hp.objs.size + 1) (Nat.ne_of_lt (Nat.lt_succ_of_lt lb)) B hB)
    (zip_sep2 (N := hp.objs.size) (fp1 := [a]) (fp2 := [b]) (by simpa using la) (by simpa using lb)) hk (Nat.le_add_right _ _) (Nat.le_add_right _ _) (Nat.le_refl _) (Nat.le_add_right _ _) (fun c hc => ?_) (fun c hc => ?_) hz' tI tO (S1.st _ _ g1 hk) (S2.st _ _ g2 hk) fun S ps h' tk' nS pl k hS hp' => ?_
  · have hc' : c = hp.objs.size ∨ c = a := by simpa using hc
    rcases hc' with rfl | rfl
    · exact Nat.lt_of_lt_of_eq (Nat.lt_add_of_pos_right (by decide)) hsz.symm
    · exact Nat.lt_of_lt_of_le la (hsz ▸ Nat.le_add_right _ _)
  · have hc' : c = hp.objs.size + 1 ∨ c = b := by simpa using hc
    rcases hc' with rfl | rfl
    · exact Nat.lt_of_lt_of_eq (Nat.add_lt_add_left (by decide) _) hsz.symm
    · exact Nat.lt_of_lt_of_le lb (hsz ▸ Nat.le_add_right _ _)
  · obtain ⟨c, hS⟩ := hS
    have pr : ∀ (j : Nat) (p : Addr), ps[j]? = some p → ∃ x y u v, xs[j]? = some x ∧ ys[j]? = some y ∧ RelV x u ∧ RelV y v ∧ IsTupOf2 h' p u v ∧ hp.objs.size ≤ p ∧ p ≠ S := fun j p ep => by
      obtain ⟨m0, m1, u, v, hu, hv, et⟩ := hp' j p ep
      have hj : j < ps.length := (List.getElem?_eq_some_iff.mp ep).1
      have j1 : xs[j]? = some xs[j] := List.getElem?_eq_getElem (by omega)
      have j2 : ys[j]? = some ys[j] := List.getElem?_eq_getElem (by omega)
      obtain ⟨u', hu', ru⟩ := r1.get j1
      obtain ⟨v', hv', rv⟩ := r2.get j2
      rw [hu] at hu'
      rw [hv] at hv'
      cases hu'
      cases hv'
      exact ⟨_, _, u, v, j1, j2, ru, rv, et, m0, m1⟩
    let H2 : Hp := fun b => if b = S then some (.lst (ps.map V.ref)) else match ps.idxOf? b with
      | some j => match xs[j]?, ys[j]? with
        | some x, some y => some (.tup [x, y])
        | _, _ => H b
      | none => H b
    have free : ∀ {c : Addr}, hp.objs.size ≤ c → H c = none := fun {c} hc => I.hok.fresh hc
    have inp : ∀ {c : Addr} {j : Nat}, ps.idxOf? c = some j → ps[j]? = some c := fun {c j} e => by
      obtain ⟨h1, h2, _⟩ := List.idxOf?_eq_some_iff.mp e
      rw [List.getElem?_eq_getElem h1, h2]
    have old : ∀ c, (∃ u, hp.get? c = some u) → H2 c = H c := fun c ⟨u, e⟩ => by
      have lc := Heap.lt_size e
      show (if c = S then _ else _) = H c
      rw [if_neg (Nat.ne_of_lt (Nat.lt_of_lt_of_le lc nS))]
      cases ei : ps.idxOf? c with
      | none => rfl
      | some j =>
        obtain ⟨_, _, _, _, _, _, _, _, _, m0, _⟩ := pr j c (inp ei)
        exact absurd (Nat.lt_of_lt_of_le lc m0) (Nat.lt_irrefl _)
    have ch : ∀ {c : Addr} {j : Nat}, ps[j]? = some c → ∃ x y u v, xs[j]? = some x ∧ ys[j]? = some y ∧ RelV x u ∧ RelV y v ∧ IsTupOf2 h' c u v ∧ hp.objs.size ≤ c ∧ c ≠ S ∧ H2 c = some (.tup [x, y]) := fun {c j} e => by
      obtain ⟨x, y, u, v, hx, hy, rx, ry, et, m0, m1⟩ := pr j c e
      refine ⟨x, y, u, v, hx, hy, rx, ry, et, m0, m1, ?_⟩
      show (if c = S then _ else _) = _
      rw [if_neg m1]
      cases ei : ps.idxOf? c with
      | none => exact absurd (List.mem_of_getElem? e) (by simpa [List.idxOf?_eq_none_iff] using ei)
      | some j' =>
        obtain ⟨x', y', u', v', hx', hy', rx', ry', et', _, _⟩ := pr j' c (inp ei)
        have q' := et.symm.trans et'
        simp only [Option.some.injEq, Obj.mk.injEq, Data.seq.injEq, Array.mk.injEq, List.cons.injEq, and_true, true_and] at q'
        obtain ⟨qu, qv⟩ := q'
        subst qu qv
        have ex := rx.inj rx'
        have ey := ry.inj ry'
        subst ex ey
        simp only [hx', hy']
    have new : ∀ c o, H2 c = some o → H c = none → ObjOk X.prog X.w H2 h' c o := fun c o e n => by
      have e' : (if c = S then some (HO.lst (ps.map V.ref)) else match ps.idxOf? c with
        | some j => match xs[j]?, ys[j]? with
          | some x, some y => some (.tup [x, y])
          | _, _ => H c
        | none => H c) = some o := e
      by_cases hc : c = S
      · rw [if_pos hc] at e'
        cases e'
        subst hc
        refine ⟨by rw [List.length_map]; omega, ps.map Value.ref, _, ?_, hS⟩
        have vr : ∀ l : List Addr, Vals (l.map V.ref) (l.map Value.ref) := fun l => by
          induction l with
          | nil => exact .nil
          | cons p r ih => exact .cons rfl ih
        exact vr ps
      · rw [if_neg hc] at e'
        cases ei : ps.idxOf? c with
        | none =>
          rw [ei] at e'
          rw [n] at e'
          cases e'
        | some j =>
          obtain ⟨x, y, u, v, _, _, rx, ry, et, _, _, et2⟩ := ch (inp ei)
          rw [et2] at e
          cases e
          exact ⟨by show 2 ≤ sizeLine; decide, [u, v], .cons rx (.cons ry .nil), ⟨_, et, rfl, _, rfl⟩⟩
    have J : Inv X pins σ H2 ⟨h', g, d, tk', os⟩ := Inv.grow (s := ⟨hp, g, d, tk, os⟩) I k old new
    refine ⟨.ref S, H2, J, rfl, q S ps H2 ⟨fun c o e => ?_, free nS, ?_, by omega, fun j p x y ep hx hy => ?_, fun j p ep => ?_⟩⟩
    · exact (old c (HOk.at I.hok e)).trans e
    · show (if S = S then _ else _) = _
      rw [if_pos rfl]
    · obtain ⟨x', y', _, _, hx', hy', _, _, _, _, _, e⟩ := ch ep
      rw [hx] at hx'
      rw [hy] at hy'
      cases hx'
      cases hy'
      exact e
    · obtain ⟨_, _, _, _, _, _, _, _, _, m0, _⟩ := pr j p ep
      exact free m0

/-- list(zip(e, e2)), two lists or tuples of one length -/
theorem pe_listZip {e e2 : Expr} {ta : TA} {p p2 pos pos2 : Pos} (hc : X.calm = true) (gL : Gl X "list") (mL : X.mg "list" = none) (gZ : Gl X "zip") (mZ : X.mg "zip" = none) (ha : PA X [e, e2] ta)
    (h1 : starEach [.Call (.Name "zip" p2) [e, e2] [] pos2] X.env = (false, eval (.Call (.Name "zip" p2) [e, e2] [] pos2) X.env) :: starEach [] X.env := by rfl)
    (h2 : starEach [e, e2] X.env = (false, eval e X.env) :: starEach [e2] X.env := by rfl) (hpl : (backTo pos2 (starEach [e2] X.env)).any (·.1) = false := by rfl) :
    PE X (.Call (.Name "list" p) [.Call (.Name "zip" p2) [e, e2] [] pos2] [] pos) (tLZ X.K ta) := by
  refine ⟨fun pins s σ H Q I h => ?_⟩
  refine wpAny_Call_Name_kw (ld_blt I gL mL PyProof.Rows.boot_list ?_ (by decide) (by decide))
  refine PyProof.Rows.callWith_type1 ?_ h1 rfl
  rw [h1]
  show wpAny _ _ (spliced ((false, eval (.Call (.Name "zip" p2) [e, e2] [] pos2) X.env) :: backTo pos (starEach [] X.env))) _ _ s
  refine Calls.spliced_cons ?_
  refine wpAny_Call_Name_kw (ld_blt I gZ mZ PyProof.Rows.boot_zip ?_ (by decide) (by decide))
  refine PyProof.Rows.callWith_type1 (thn (ha.run pos2 pins s σ H _ I h) fun us s1 ⟨vs, H1, I1, r1, a, b, xs, ys, ev, ka, kb, kl, kz, q⟩ => ?_) h2 hpl
  subst ev
  cases r1 with
  | cons ra rr =>
    cases rr with
    | cons rb rr =>
      cases rr
      cases ra
      cases rb
      exact wpAny_mono (run_listZip (I1.ok.hd hc) I1 ka kb kl kz q) (fun z s' hz => Calls.spliced_nil hz) fun _ _ x => x
end
end Mine

set_option maxRecDepth 100000
set_option maxHeartbeats 4000000
/-! Data without a heap, the store of what may change, and what denotes what -/
namespace Pm
open PySem L2

inductive D where
  | non | bl (b : Bool) | int (i : Int) | str (s : Str)
  | lst (ds : List D) | tup (ds : List D) | frl (ds : List D)
  | ins (c : Str) (fs : List (Str × D))
  | own (k : Nat)
  | ty (n : String)
  | cls (c : Str)
  deriving Inhabited

/-- what may change: a list, an instance; a list while it is walked; what is no longer used -/
inductive O where
  | lst (ds : List D) | ins (c : Str) (fs : List (Str × D)) | lck (ds : List D) | dead
  deriving Inhabited
abbrev Mu := List O

/-- the names of classes -/
structure Tb where
  K : PySem.W.Frag
  cls : Str → Option Addr

section
variable (T : Tb) (Z : Hp) (α : List Addr)
mutual
inductive Dn : V → D → Prop
  | non : Dn .non .non
  | bl (b : Bool) : Dn (.bl b) (.bl b)
  | int (i : Int) : Dn (.int i) (.int i)
  | str (x : Str) : Dn (.str x) (.str x)
  | lst {a : Addr} {vs : List V} {ds : List D} : Z a = some (.lst vs) → Dns vs ds → Dn (.ref a) (.lst ds)
  | tup {a : Addr} {vs : List V} {ds : List D} : Z a = some (.tup vs) → Dns vs ds → Dn (.ref a) (.tup ds)
  | frl {a : Addr} {vs : List V} {ds : List D} : SqL T.K Z a vs → Dns vs ds → Dn (.ref a) (.frl ds)
  | ins {a C dx : Addr} {c : Str} {vs : List (Str × V)} {fs : List (Str × D)} : T.cls c = some C → Z a = some (.ins C dx vs) → Dfs vs fs → Dn (.ref a) (.ins c fs)
  | own {a : Addr} {k : Nat} : α[k]? = some a → Dn (.ref a) (.own k)
  | ty (n : String) : Dn (.ty n) (.ty n)
  | cls {c : Str} {C : Addr} : T.cls c = some C → Dn (.ref C) (.cls c)
inductive Dns : List V → List D → Prop
  | nil : Dns [] []
  | cons {v : V} {vs : List V} {d : D} {ds : List D} : Dn v d → Dns vs ds → Dns (v :: vs) (d :: ds)
inductive Dfs : List (Str × V) → List (Str × D) → Prop
  | nil : Dfs [] []
  | cons {f : Str} {v : V} {vs : List (Str × V)} {d : D} {ds : List (Str × D)} : Dn v d → Dfs vs ds → Dfs ((f, v) :: vs) ((f, d) :: ds)
end
end

/-- one frozen heap within another, one list of addresses ahead of another -/
structure Le (Z : Hp) (α : List Addr) (Z' : Hp) (α' : List Addr) : Prop where
  z : ∀ a o, Z a = some o → Z' a = some o
  al : ∃ more, α' = α ++ more
section
variable {T : Tb} {Z Z' Z'' : Hp} {α α' α'' : List Addr}
theorem Le.rfl' : Le Z α Z α := ⟨fun _ _ h => h, [], by simp⟩
theorem Le.trans (h : Le Z α Z' α') (h' : Le Z' α' Z'' α'') : Le Z α Z'' α'' :=
  ⟨fun a o e => h'.z a o (h.z a o e), by
    obtain ⟨m, rfl⟩ := h.al
    obtain ⟨m', rfl⟩ := h'.al
    exact ⟨m ++ m', by simp⟩⟩
theorem Le.get (h : Le Z α Z' α') {k : Nat} {a : Addr} (e : α[k]? = some a) : α'[k]? = some a := by
  obtain ⟨m, rfl⟩ := h.al
  rw [List.getElem?_append_left (List.getElem?_eq_some_iff.mp e).1]
  exact e
theorem sqL_mono {K : PySem.W.Frag} {H H' : Hp} (h : ∀ a o, H a = some o → H' a = some o) {a : Addr} {vs : List V} (q : SqL K H a vs) : SqL K H' a vs := by
  rcases q with (q | ⟨o, q⟩) | q
  · exact .inl (.inl (h _ _ q))
  · exact .inl (.inr ⟨o, h _ _ q⟩)
  · exact .inr q
mutual
theorem Dn.mono (h : Le Z α Z' α') : ∀ {v : V} {d : D}, Dn T Z α v d → Dn T Z' α' v d
  | _, _, .non => .non
  | _, _, .bl b => .bl b
  | _, _, .int i => .int i
  | _, _, .str x => .str x
  | _, _, .lst e r => .lst (h.z _ _ e) (Dns.mono h r)
  | _, _, .tup e r => .tup (h.z _ _ e) (Dns.mono h r)
  | _, _, .frl e r => .frl (sqL_mono h.z e) (Dns.mono h r)
  | _, _, .ins c e r => .ins c (h.z _ _ e) (Dfs.mono h r)
  | _, _, .own e => .own (h.get e)
  | _, _, .ty n => .ty n
  | _, _, .cls e => .cls e
theorem Dns.mono (h : Le Z α Z' α') : ∀ {v : List V} {d : List D}, Dns T Z α v d → Dns T Z' α' v d
  | _, _, .nil => .nil
  | _, _, .cons a r => .cons (Dn.mono h a) (Dns.mono h r)
theorem Dfs.mono (h : Le Z α Z' α') : ∀ {v : List (Str × V)} {d : List (Str × D)}, Dfs T Z α v d → Dfs T Z' α' v d
  | _, _, .nil => .nil
  | _, _, .cons a r => .cons (Dn.mono h a) (Dfs.mono h r)
end
theorem Dns.len : ∀ {vs : List V} {ds : List D}, Dns T Z α vs ds → vs.length = ds.length
  | _, _, .nil => rfl
  | _, _, .cons _ r => by rw [List.length_cons, List.length_cons, Dns.len r]
theorem Dns.get : ∀ {vs : List V} {ds : List D}, Dns T Z α vs ds → ∀ {i : Nat} {d : D}, ds[i]? = some d → ∃ v, vs[i]? = some v ∧ Dn T Z α v d
  | _, _, .nil, _, _, h => by simp at h
  | _, _, .cons a _, 0, _, h => by simp at h; subst h; exact ⟨_, rfl, a⟩
  | _, _, .cons _ r, i + 1, d, h => by
    obtain ⟨v, e, q⟩ := Dns.get r (i := i) (d := d) (by simpa using h)
    exact ⟨v, by simpa using e, q⟩
theorem Dns.get' : ∀ {vs : List V} {ds : List D}, Dns T Z α vs ds → ∀ {i : Nat} {v : V}, vs[i]? = some v → ∃ d, ds[i]? = some d ∧ Dn T Z α v d
  | _, _, .nil, _, _, h => by simp at h
  | _, _, .cons a _, 0, _, h => by simp at h; subst h; exact ⟨_, rfl, a⟩
  | _, _, .cons _ r, i + 1, v, h => by
    obtain ⟨d, e, q⟩ := Dns.get' r (i := i) (v := v) (by simpa using h)
    exact ⟨d, by simpa using e, q⟩
theorem Dns.append : ∀ {vs ws : List V} {ds es : List D}, Dns T Z α vs ds → Dns T Z α ws es → Dns T Z α (vs ++ ws) (ds ++ es)
  | _, _, _, _, .nil, h => h
  | _, _, _, _, .cons a r, h => .cons a (Dns.append r h)
theorem Dns.take : ∀ {vs : List V} {ds : List D} (n : Nat), Dns T Z α vs ds → Dns T Z α (vs.take n) (ds.take n)
  | _, _, 0, _ => by simpa using Dns.nil
  | _, _, _ + 1, .nil => .nil
  | _, _, n + 1, .cons a r => .cons a (Dns.take n r)
theorem Dns.drop : ∀ {vs : List V} {ds : List D} (n : Nat), Dns T Z α vs ds → Dns T Z α (vs.drop n) (ds.drop n)
  | _, _, 0, h => h
  | _, _, _ + 1, .nil => .nil
  | _, _, n + 1, .cons _ r => Dns.drop n r
theorem Dns.set {v : V} {d : D} (h : Dn T Z α v d) : ∀ {vs : List V} {ds : List D} (n : Nat), Dns T Z α vs ds → Dns T Z α (vs.set n v) (ds.set n d)
  | _, _, _, .nil => .nil
  | _, _, 0, .cons _ r => .cons h r
  | _, _, n + 1, .cons a r => .cons a (Dns.set h n r)
theorem Dns.dropLast : ∀ {vs : List V} {ds : List D}, Dns T Z α vs ds → Dns T Z α vs.dropLast ds.dropLast := fun {vs ds} h => by
  rw [List.dropLast_eq_take, List.dropLast_eq_take, h.len]
  exact h.take _
theorem Dns.rep {v : V} {d : D} (h : Dn T Z α v d) : ∀ n : Nat, Dns T Z α (List.replicate n v) (List.replicate n d)
  | 0 => .nil
  | n + 1 => .cons h (Dns.rep h n)
theorem Dns.reps {vs : List V} {ds : List D} (h : Dns T Z α vs ds) : ∀ n : Nat, Dns T Z α (List.replicate n vs).flatten (List.replicate n ds).flatten
  | 0 => .nil
  | n + 1 => by
    rw [List.replicate_succ, List.replicate_succ, List.flatten_cons, List.flatten_cons]
    exact h.append (Dns.reps h n)
theorem Dns.ints : ∀ {vs : List V} {ns : List Int}, Dns T Z α vs (ns.map D.int) → vs = ns.map V.int
  | _, [], .nil => rfl
  | _, n :: ns, .cons a r => by
    cases a
    rw [Dns.ints r, List.map_cons]
theorem Dns.bools : ∀ {vs : List V} {ns : List Bool}, Dns T Z α vs (ns.map D.bl) → vs = ns.map V.bl
  | _, [], .nil => rfl
  | _, n :: ns, .cons a r => by
    cases a
    rw [Dns.bools r, List.map_cons]
theorem Dns.strs : ∀ {vs : List V} {ns : List Str}, Dns T Z α vs (ns.map D.str) → vs = ns.map V.str
  | _, [], .nil => rfl
  | _, n :: ns, .cons a r => by
    cases a
    rw [Dns.strs r, List.map_cons]
theorem Dfs.lookup (f : Str) : ∀ {vs : List (Str × V)} {fs : List (Str × D)}, Dfs T Z α vs fs → (∀ d, fs.lookup f = some d → ∃ v, vs.lookup f = some v ∧ Dn T Z α v d) ∧ (fs.lookup f = none → vs.lookup f = none)
  | _, _, .nil => ⟨fun _ h => by simp at h, fun _ => rfl⟩
  | _, _, .cons (f := g) a r => by
    have ih := Dfs.lookup f r
    simp only [List.lookup_cons]
    cases f == g with
    | true => exact ⟨fun d h => ⟨_, rfl, by cases h; exact a⟩, fun h => by cases h⟩
    | false => exact ih
def putD (f : Str) (v : D) : List (Str × D) → List (Str × D)
  | [] => [(f, v)]
  | (g, x) :: r => if g = f then (g, v) :: r else (g, x) :: putD f v r
theorem Dfs.put {f : Str} {v : V} {d : D} (h : Dn T Z α v d) : ∀ {vs : List (Str × V)} {fs : List (Str × D)}, Dfs T Z α vs fs → Dfs T Z α (putF f v vs) (putD f d fs)
  | _, _, .nil => .cons h .nil
  | _, _, .cons (f := g) a r => by
    unfold putF putD
    split
    · exact .cons h r
    · exact .cons a (Dfs.put h r)
theorem Dfs.len : ∀ {vs : List (Str × V)} {fs : List (Str × D)}, Dfs T Z α vs fs → vs.length = fs.length
  | _, _, .nil => rfl
  | _, _, .cons _ r => by rw [List.length_cons, List.length_cons, Dfs.len r]
end

/-- an object of the store, at its address -/
def OAt (T : Tb) (H Z : Hp) (α : List Addr) (a : Addr) : O → Prop
  | .lst ds => ∃ vs, H a = some (.lst vs) ∧ Dns T Z α vs ds
  | .lck ds => ∃ vs, H a = some (.lst vs) ∧ Dns T Z α vs ds
  | .ins c fs => ∃ C dx vs, T.cls c = some C ∧ H a = some (.ins C dx vs) ∧ Dfs T Z α vs fs
  | .dead => ∃ o, H a = some o

def O.live : O → Bool
  | .dead => false
  | _ => true
structure Rep (T : Tb) (H Z : Hp) (α : List Addr) (m : Mu) : Prop where
  sub : ∀ a o, Z a = some o → H a = some o
  len : α.length = m.length
  nd : ∀ (i j : Nat) (a : Addr), α[i]? = some a → α[j]? = some a → i = j
  out : ∀ (i : Nat) (a : Addr) (o : O), α[i]? = some a → m[i]? = some o → o.live = true → Z a = none
  obj : ∀ (i : Nat) (a : Addr) (o : O), α[i]? = some a → m[i]? = some o → OAt T H Z α a o

/-- from one state to a later one -/
structure Fut (H Z : Hp) (α : List Addr) (H' Z' : Hp) (α' : List Addr) : Prop where
  le : Le Z α Z' α'
  fr : ∀ a o, H a = some o → a ∉ α → H' a = some o
  na : ∀ a, a ∈ α' → a ∈ α ∨ H a = none
  th : ∀ a, H a ≠ none → H' a ≠ none
  nz : ∀ a, Z' a ≠ none → Z a ≠ none ∨ H a = none ∨ a ∈ α
section
variable {T : Tb} {H Z H' Z' H'' Z'' : Hp} {α α' α'' : List Addr} {m : Mu}
theorem Fut.rfl' : Fut H Z α H Z α := ⟨.rfl', fun _ _ h _ => h, fun _ h => .inl h, fun _ h => h, fun _ h => .inl h⟩
theorem Fut.trans (h : Fut H Z α H' Z' α') (h' : Fut H' Z' α' H'' Z'' α'') : Fut H Z α H'' Z'' α'' where
  le := h.le.trans h'.le
  fr := fun a o e n => h'.fr a o (h.fr a o e n) fun z => by
    rcases h.na a z with q | q
    · exact n q
    · rw [e] at q; cases q
  na := fun a z => by
    rcases h'.na a z with q | q
    · exact h.na a q
    · refine .inr ?_
      cases e : H a with
      | none => rfl
      | some o => exact absurd q (h.th a (by rw [e]; exact fun z => by cases z))
  th := fun a z => h'.th a (h.th a z)
  nz := fun a z => by
    have back : H' a = none → H a = none := fun q => by
      cases e : H a with
      | none => rfl
      | some o => exact absurd q (h.th a (by rw [e]; exact fun z => by cases z))
    rcases h'.nz a z with q | q | q
    · exact h.nz a q
    · exact .inr (.inl (back q))
    · rcases h.na a q with r | r
      · exact .inr (.inr r)
      · exact .inr (.inl r)
theorem Rep.back (R : Rep T H Z α m) {a : Addr} (h : H a = none) : Z a = none := by
  cases e : Z a with
  | none => rfl
  | some o => have := R.sub a o e; rw [h] at this; cases this
theorem Rep.hit (R : Rep T H Z α m) {i : Nat} {a : Addr} (h : α[i]? = some a) : ∃ o, H a = some o := by
  have hi : i < α.length := (List.getElem?_eq_some_iff.mp h).1
  have hm : i < m.length := by rw [← R.len]; exact hi
  have := R.obj i a m[i] h (List.getElem?_eq_getElem hm)
  revert this
  cases m[i] with
  | lst ds => rintro ⟨vs, e, _⟩; exact ⟨_, e⟩
  | lck ds => rintro ⟨vs, e, _⟩; exact ⟨_, e⟩
  | ins c fs => rintro ⟨C, dx, vs, _, e, _⟩; exact ⟨_, e⟩
  | dead => exact fun h => h
theorem Rep.notIn (R : Rep T H Z α m) {a : Addr} (h : H a = none) : a ∉ α := fun z => by
  obtain ⟨i, hi⟩ := List.mem_iff_getElem?.mp z
  obtain ⟨o, e⟩ := R.hit hi
  rw [h] at e; cases e
theorem OAt.mono {a : Addr} {o : O} (h : OAt T H Z α a o) (le : Le Z α Z' α') (e : ∀ u, H a = some u → H' a = some u) : OAt T H' Z' α' a o := by
  cases o with
  | lst ds => obtain ⟨vs, q, r⟩ := h; exact ⟨vs, e _ q, r.mono le⟩
  | lck ds => obtain ⟨vs, q, r⟩ := h; exact ⟨vs, e _ q, r.mono le⟩
  | ins c fs => obtain ⟨C, dx, vs, z, q, r⟩ := h; exact ⟨C, dx, vs, z, e _ q, r.mono le⟩
  | dead => obtain ⟨o, q⟩ := h; exact ⟨o, e _ q⟩
/-- the heap has grown outside -/
theorem Rep.grow (R : Rep T H Z α m) (e : ∀ a o, H a = some o → H' a = some o) : Rep T H' Z α m :=
  ⟨fun a o z => e a o (R.sub a o z), R.len, R.nd, R.out, fun i a o h1 h2 => (R.obj i a o h1 h2).mono .rfl' (e a)⟩
theorem Fut.grow (e : ∀ a o, H a = some o → H' a = some o) : Fut H Z α H' Z α :=
  ⟨.rfl', fun a o q _ => e a o q, fun _ q => .inl q, fun a q z => q (by
    cases h : H a with
    | none => rfl
    | some o => rw [e a o h] at z; cases z), fun _ q => .inl q⟩
/-- a new thing that is frozen at once -/
theorem Rep.new {p : Addr} {o : HO} (R : Rep T H Z α m) (hp : H p = none) : Rep T (upd H p o) (upd Z p o) α m := by
  have hz := R.back hp
  have le : Le Z α (upd Z p o) α := ⟨fun a u e => by rw [upd_ne (ne_of_none e hz)]; exact e, [], by simp⟩
  refine ⟨fun a u e => ?_, R.len, R.nd, fun i a v e ev lv => ?_, fun i a u h1 h2 => (R.obj i a u h1 h2).mono le fun v e => by rw [upd_ne (ne_of_none e hp)]; exact e⟩
  · by_cases h : a = p
    · subst h; rw [upd_same] at e ⊢; exact e
    · rw [upd_ne h] at e ⊢; exact R.sub a u e
  · obtain ⟨u, hu⟩ := R.hit e
    rw [upd_ne (ne_of_none hu hp)]
    exact R.out i a v e ev lv
theorem Fut.new {p : Addr} {o : HO} (R : Rep T H Z α m) (hp : H p = none) : Fut H Z α (upd H p o) (upd Z p o) α := by
  have hz := R.back hp
  refine ⟨⟨fun a u e => by rw [upd_ne (ne_of_none e hz)]; exact e, [], by simp⟩, fun a u e _ => by rw [upd_ne (ne_of_none e hp)]; exact e, fun _ q => .inl q, fun a q z => q ?_, fun a q => ?_⟩
  · by_cases h : a = p
    · subst h; exact hp
    · rw [upd_ne h] at z; exact z
  · by_cases h : a = p
    · subst h; exact .inr (.inl hp)
    · rw [upd_ne h] at q; exact .inl q
/-- a new thing of the store -/
theorem Rep.push {p : Addr} {u : HO} {o : O} (R : Rep T H Z α m) (hp : H p = none) (ho : OAt T (upd H p u) Z (α ++ [p]) p o) : Rep T (upd H p u) Z (α ++ [p]) (m ++ [o]) := by
  have ni := R.notIn hp
  have le : Le Z α Z (α ++ [p]) := ⟨fun _ _ e => e, [p], rfl⟩
  have cases2 : ∀ {i : Nat} {a : Addr}, (α ++ [p])[i]? = some a → α[i]? = some a ∨ (i = α.length ∧ a = p) := fun {i a} e => by
    by_cases h : i < α.length
    · rw [List.getElem?_append_left h] at e; exact .inl e
    · rw [List.getElem?_append_right (by omega)] at e
      have : i - α.length = 0 := by
        by_cases z : i - α.length = 0
        · exact z
        · rw [List.getElem?_eq_none (by simp; omega)] at e; cases e
      rw [this] at e
      simp at e
      exact .inr ⟨by omega, e.symm⟩
  refine ⟨fun a v e => ?_, by simp [R.len], fun i j a e1 e2 => ?_, fun i a v e ev lv => ?_, fun i a v e1 e2 => ?_⟩
  · have := R.sub a v e
    rw [upd_ne (ne_of_none this hp)]; exact this
  · rcases cases2 e1 with q | ⟨q1, q2⟩
    · rcases cases2 e2 with r | ⟨r1, r2⟩
      · exact R.nd i j a q r
      · subst r2; exact absurd (List.mem_of_getElem? q) ni
    · rcases cases2 e2 with r | ⟨r1, r2⟩
      · subst q2; exact absurd (List.mem_of_getElem? r) ni
      · omega
  · rcases cases2 e with q | ⟨q1, q2⟩
    · have hi : i < m.length := by rw [← R.len]; exact (List.getElem?_eq_some_iff.mp q).1
      rw [List.getElem?_append_left hi] at ev
      exact R.out i a v q ev lv
    · subst q2; exact R.back hp
  · rcases cases2 e1 with q | ⟨q1, q2⟩
    · have hi : i < m.length := by rw [← R.len]; exact (List.getElem?_eq_some_iff.mp q).1
      rw [List.getElem?_append_left hi] at e2
      refine (R.obj i a v q e2).mono le fun w e => ?_
      rw [upd_ne (ne_of_none e hp)]; exact e
    · subst q1 q2
      rw [R.len, List.getElem?_append_right (Nat.le_refl _), Nat.sub_self] at e2
      simp at e2
      subst e2
      exact ho
theorem Fut.push {p : Addr} {u : HO} (hp : H p = none) : Fut H Z α (upd H p u) Z (α ++ [p]) := by
  refine ⟨⟨fun _ _ e => e, [p], rfl⟩, fun a v e _ => by rw [upd_ne (ne_of_none e hp)]; exact e, fun a q => ?_, fun a q z => q ?_, fun _ q => .inl q⟩
  · rcases List.mem_append.mp q with r | r
    · exact .inl r
    · simp at r; subst r; exact .inr hp
  · by_cases h : a = p
    · subst h; exact hp
    · rw [upd_ne h] at z; exact z
/-- a thing of the store is written -/
theorem Rep.put {k : Nat} {p : Addr} {u : HO} {o w : O} (R : Rep T H Z α m) (hk : α[k]? = some p) (hw : m[k]? = some w) (lw : w.live = true) (ho : OAt T (upd H p u) Z α p o) : Rep T (upd H p u) Z α (m.set k o) := by
  have zp : Z p = none := R.out k p w hk hw lw
  have hkm : k < m.length := (List.getElem?_eq_some_iff.mp hw).1
  refine ⟨fun a v e => ?_, by simp [R.len], R.nd, fun i a v e1 e2 lv => ?_, fun i a v e1 e2 => ?_⟩
  · have h : a ≠ p := fun z => by subst z; rw [zp] at e; cases e
    rw [upd_ne h]; exact R.sub a v e
  · by_cases h : i = k
    · subst h
      rw [hk] at e1; cases e1
      exact zp
    · rw [List.getElem?_set_ne (Ne.symm h)] at e2
      exact R.out i a v e1 e2 lv
  · by_cases h : i = k
    · subst h
      rw [hk] at e1; cases e1
      rw [List.getElem?_set_self hkm] at e2
      cases e2
      exact ho
    · rw [List.getElem?_set_ne (Ne.symm h)] at e2
      have hne : a ≠ p := fun z => by subst z; exact h (R.nd i k a e1 hk)
      exact (R.obj i a v e1 e2).mono .rfl' fun w e => by rw [upd_ne hne]; exact e
theorem Fut.put {k : Nat} {p : Addr} {u : HO} (R : Rep T H Z α m) (hk : α[k]? = some p) : Fut H Z α (upd H p u) Z α := by
  refine ⟨.rfl', fun a v e n => ?_, fun _ q => .inl q, fun a q z => ?_, fun _ q => .inl q⟩
  · have h : a ≠ p := fun z => by subst z; exact n (List.mem_of_getElem? hk)
    rw [upd_ne h]; exact e
  · by_cases h : a = p
    · subst h; rw [upd_same] at z; cases z
    · rw [upd_ne h] at z; exact q z
/-- a thing of the store is known to change no more: it is frozen -/
theorem Rep.freeze {k : Nat} {p : Addr} {u : HO} {w : O} (R : Rep T H Z α m) (hk : α[k]? = some p) (hw : m[k]? = some w) (lw : w.live = true) (hu : H p = some u) : Rep T H (upd Z p u) α (m.set k .dead) := by
  have zp : Z p = none := R.out k p w hk hw lw
  have hkm : k < m.length := (List.getElem?_eq_some_iff.mp hw).1
  have le : Le Z α (upd Z p u) α := ⟨fun a v e => by rw [upd_ne (ne_of_none e zp)]; exact e, [], by simp⟩
  refine ⟨fun a v e => ?_, by simp [R.len], R.nd, fun i a v e1 e2 lv => ?_, fun i a v e1 e2 => ?_⟩
  · by_cases h : a = p
    · subst h; rw [upd_same] at e; cases e; exact hu
    · rw [upd_ne h] at e; exact R.sub a v e
  · by_cases h : i = k
    · subst h
      rw [List.getElem?_set_self hkm] at e2
      cases e2
      cases lv
    · rw [List.getElem?_set_ne (Ne.symm h)] at e2
      have hne : a ≠ p := fun z => by subst z; exact h (R.nd i k a e1 hk)
      rw [upd_ne hne]
      exact R.out i a v e1 e2 lv
  · by_cases h : i = k
    · subst h
      rw [hk] at e1; cases e1
      rw [List.getElem?_set_self hkm] at e2
      cases e2
      exact ⟨u, hu⟩
    · rw [List.getElem?_set_ne (Ne.symm h)] at e2
      exact (R.obj i a v e1 e2).mono le fun w e => e
theorem Fut.freeze {k : Nat} {p : Addr} {u : HO} {w : O} (R : Rep T H Z α m) (hk : α[k]? = some p) (hw : m[k]? = some w) (lw : w.live = true) : Fut H Z α H (upd Z p u) α := by
  have zp : Z p = none := R.out k p w hk hw lw
  exact ⟨⟨fun a v e => by rw [upd_ne (ne_of_none e zp)]; exact e, [], by simp⟩, fun _ _ e _ => e, fun _ q => .inl q, fun _ q => q, fun a q => by
    by_cases h : a = p
    · subst h; exact .inr (.inr (List.mem_of_getElem? hk))
    · rw [upd_ne h] at q; exact .inl q⟩
end
end Pm

set_option maxRecDepth 100000
set_option maxHeartbeats 4000000
/-! Programs without names, and what they do to data -/
namespace Pm
open PySem L2

/-- built-in functions and classes that are called -/
inductive Bn where
  | len | min | max | int | tuple | list | listO | isi | any | all
  deriving DecidableEq, Inhabited
/-- methods of lists -/
inductive Mt where
  | append | pop | extend
  deriving DecidableEq, Inhabited

mutual
inductive E where
  | var (i : Nat)
  | con (d : D)
  | tup (es : List E) | lst (es : List E) | lsto (es : List E)
  | bin (op : Operator) (a b : E)
  | neg (a : E)
  | cmp (op : CmpOp) (a b : E)
  | chn (o1 o2 : CmpOp) (a b c : E)
  | and (a b : E) | or (a b : E) | not (a : E) | tru (a : E)
  | ife (t a b : E)
  | fn (f : Str) (es : List E) | blt (b : Bn) (es : List E) | mk (c : Str) (es : List E)
  | att (a : E) (f : Str) | met (a : E) (f : Str) (es : List E) | bm (a : E) (f : Mt) (es : List E)
  | idx (a b : E) | slc (a : E) (lo hi : Option E)
  | lc (o : Bool) (g : Gt) (it : It) (c : Option E) (elt : E) (ws : List Nat)
  | lzp (a b : E) | cal (a : E) (es : List E) | rpr (a : E) | fmt (a : E) | jst (es : List E)
  | ext (t : Str) (es : List E)
inductive Gt where
  | nm (i : Nat) | tup (gs : List Gt) | sub (o i : E) | fld (o : E) (f : Str)
inductive It where
  | val (e : E) | rng (es : List E) | zip (a b : E) | enu (a : E) | ext (t : Str) (es : List E)
end
inductive C where
  | asg (g : Gt) (e : E) | aug (i : Nat) (op : Operator) (e : E) | expr (e : E)
  | ife (t : E) (a b : List C) | whl (t : E) (b : List C) | for (g : Gt) (it : It) (b : List C)
  | ret (e : E) | retN | brk | cnt | pas
  | frz (is : List Nat) (c : C)

/-- an exception: an own class with its fields, a built-in one -/
inductive Xn where
  | own (c : Str) (fs : List (Str × D)) | bi (n : String)
inductive Rs (β : Type) where
  | ok (b : β) (m : Mu) | ex (x : Xn) (m : Mu) | no
def Rs.bind {β γ : Type} (r : Rs β) (k : β → Mu → Rs γ) : Rs γ :=
  match r with
  | .ok b m => k b m
  | .ex x m => .ex x m
  | .no => .no
abbrev Fn := List D → Mu → Rs D
structure Stc where
  P : Program
  w : World
  K : PySem.W.Frag
  mg : Str → Option Value
  base : Heap

/-- lists of the store that are walked, as they are to be -/
abbrev Wt := List (Nat × List D)
/-- what the names mean -/
structure Gm where
  T : Tb
  fn : Str → Option Fn
  cs : Str → Option Fn
  me : Str → Str → Option Fn
  pr : Str → Str → Option Fn
  op : Str → Operator → Option Fn
  cm : Str → CmpOp → Option Fn
  fl : Str → Str → Bool
  isi : Value → Value → Option Bool
  ca : Str → Option Fn
  rp : Str → Option Fn
  /-- further expressions, things to go over, comparisons; what they rest on -/
  xt : Str → Option Fn
  xi : Str → Option (List D → Mu → Option (List D × Wt))
  cx : CmpOp → D → D → Option Bool
  fx : Stc → Prop

/-! ### operations on data -/
def look (m : Mu) : D → Option (List D)
  | .lst ds => some ds
  | .frl ds => some ds
  | .own k => match m[k]? with
    | some (.lst ds) => some ds
    | _ => none
  | _ => none
/-- a list that is tracked -/
def lookT (m : Mu) : D → Option (List D)
  | .lst ds => some ds
  | .own k => match m[k]? with
    | some (.lst ds) => some ds
    | _ => none
  | _ => none
/-- a list or a tuple -/
def lookS (m : Mu) : D → Option (List D)
  | .tup ds => some ds
  | d => look m d
mutual
def D.same : D → D → Bool
  | .non, .non => true
  | .bl a, .bl b => decide (a = b)
  | .int a, .int b => decide (a = b)
  | .str a, .str b => decide (a = b)
  | .lst a, .lst b => D.sames a b
  | .tup a, .tup b => D.sames a b
  | .frl a, .frl b => D.sames a b
  | .ins c a, .ins d b => decide (c = d) && D.samef a b
  | .own a, .own b => decide (a = b)
  | .ty a, .ty b => decide (a = b)
  | .cls a, .cls b => decide (a = b)
  | _, _ => false
def D.sames : List D → List D → Bool
  | [], [] => true
  | a :: as, b :: bs => D.same a b && D.sames as bs
  | _, _ => false
def D.samef : List (Str × D) → List (Str × D) → Bool
  | [], [] => true
  | (f, a) :: as, (g, b) :: bs => decide (f = g) && D.same a b && D.samef as bs
  | _, _ => false
end
def okW (w : Wt) (m : Mu) : Bool := w.all fun p => match m[p.1]? with
  | some (.lst ds) => D.sames ds p.2
  | _ => false
/-- what is walked -/
def lookW (m : Mu) : D → Option (List D × Wt)
  | .tup ds => some (ds, [])
  | .lst ds => some (ds, [])
  | .frl ds => some (ds, [])
  | .own k => match m[k]? with
    | some (.lst ds) => some (ds, [(k, ds)])
    | _ => none
  | _ => none
mutual
def D.py : D → Option PyData
  | .non => some .none
  | .bl b => some (.bool b)
  | .int i => some (.int i)
  | .str s => some (.str s)
  | .lst ds => (D.pys ds).map .list
  | .frl ds => (D.pys ds).map .list
  | .tup ds => (D.pys ds).map .tuple
  | _ => none
def D.pys : List D → Option (List PyData)
  | [] => some []
  | d :: ds => match D.py d, D.pys ds with
    | some x, some xs => some (x :: xs)
    | _, _ => none
end
def D.isNon : D → Bool
  | .non => true
  | _ => false
def eqD (m : Mu) (a b : D) : Option Bool :=
  match a.py, b.py with
  | some x, some y => if SeqAt.shaped x && SeqAt.shaped y then some (PyData.eqv x y) else none
  | _, _ => match lookT m a, b with
    | some xs, .lst [] => some xs.isEmpty
    | _, _ => none
def D.flat : D → Bool
  | .non => true | .bl _ => true | .int _ => true | .str _ => true
  | _ => false
def D.eqF : D → D → Bool
  | .non, .non => true
  | .bl a, .bl b => a == b
  | .bl a, .int b => (if a then 1 else 0) == b
  | .int a, .bl b => a == (if b then 1 else 0)
  | .int a, .int b => a == b
  | .str a, .str b => a == b
  | _, _ => false
def inF (x : D) (ys : List D) : Bool := ys.any fun y => D.eqF y x
def smallI (i : Int) : Bool := decide (-(2 ^ 64) < i) && decide (i < 2 ^ 64)
def binI (op : Operator) (i j : Int) : Option Int :=
  match op with
  | .Add => some (i + j)
  | .Sub => some (i - j)
  | .Mult => if smallI i || smallI j then some (i * j) else none
  | .Mod => if 0 < j then some (i % j) else none
  | .FloorDiv => if 0 < j ∧ j < 1073741824 then some (i / j) else none
  | .Pow => if 0 ≤ j ∧ j ≤ 1000000 ∧ i.natAbs < 2 ^ 64 then some (i ^ j.toNat) else none
  | _ => none
def binT (op : Operator) (xs ys : List D) : Option D :=
  match op with
  | .Add => if xs.length + ys.length ≤ sizeLine then some (.tup (xs ++ ys)) else none
  | _ => none
def binS (op : Operator) (x y : Str) : Option D :=
  match op with
  | .Add => if x.length + y.length ≤ sizeLine then some (.str (x ++ y)) else none
  | _ => none
def binL (op : Operator) (xs : List D) (m : Mu) (b : D) : Option D :=
  match op with
  | .Add => match lookT m b with
    | some ys => if xs.length + ys.length ≤ sizeLine then some (.lst (xs ++ ys)) else none
    | none => none
  | .Mult => match b with
    | .int k => if -(2 ^ 63) ≤ k ∧ k < 2 ^ 63 ∧ xs.length * k.toNat ≤ sizeLine then some (.lst (List.replicate k.toNat xs).flatten) else none
    | _ => none
  | _ => none
def binD (op : Operator) (a b : D) (m : Mu) : Option D :=
  match a, b with
  | .int i, .int j => (binI op i j).map .int
  | .tup xs, .tup ys => binT op xs ys
  | .str x, .str y => binS op x y
  | .str x, .int k => match op with
    | .Mult => if k = 0 ∨ k = 1 then some (.str (if k = 1 then x else Str.empty)) else none
    | _ => none
  | .tup xs, .int k => match op with
    | .Mult => if xs ≠ [] ∧ 0 ≤ k ∧ k ≤ 1000 ∧ xs.length ≤ 1000 then some (.tup (List.replicate k.toNat xs).flatten) else none
    | _ => none
  | .lst xs, y => binL op xs m y
  | .own k, y => match m[k]? with
    | some (.lst xs) => binL op xs m y
    | _ => none
  | _, _ => none
def cmpD (op : CmpOp) (a b : D) (m : Mu) : Option Bool :=
  match op with
  | .Eq => eqD m a b
  | .NotEq => (eqD m a b).map (!·)
  | .Is => match b with
    | .non => some a.isNon
    | .bl c => match a with
      | .bl d => some (d == c)
      | _ => none
    | _ => none
  | .IsNot => match b with
    | .non => some (!a.isNon)
    | .bl c => match a with
      | .bl d => some (!(d == c))
      | _ => none
    | _ => none
  | .Lt => match a, b with
    | .int i, .int j => some (decide (i < j))
    | _, _ => none
  | .LtE => match a, b with
    | .int i, .int j => some (decide (i ≤ j))
    | _, _ => none
  | .Gt => match a, b with
    | .int i, .int j => some (decide (j < i))
    | _, _ => none
  | .GtE => match a, b with
    | .int i, .int j => some (decide (j ≤ i))
    | _, _ => none
  | .In => match lookS m b with
    | some ys => if a.flat && ys.all D.flat then some (inF a ys) else none
    | none => none
  | .NotIn => match lookS m b with
    | some ys => if a.flat && ys.all D.flat then some (!inF a ys) else none
    | none => none
def truD (m : Mu) : D → Option Bool
  | .non => some false
  | .bl b => some b
  | .int i => some (i != 0)
  | .str y => if y.length ≤ sizeLine then some ((y.length : Int) != 0) else none
  | .tup ds => some (!ds.isEmpty)
  | d => match look m d with
    | some ds => some (!ds.isEmpty)
    | none => none
def intsOf : List D → Option (List Int)
  | [] => some []
  | .int i :: r => (intsOf r).map (i :: ·)
  | _ => none
def blsOf : List D → Option (List Bool)
  | [] => some []
  | .bl i :: r => (blsOf r).map (i :: ·)
  | _ => none
def minL : List Int → Option Int
  | [] => none
  | i :: r => match minL r with
    | none => some i
    | some j => some (if j < i then j else i)
def maxL : List Int → Option Int
  | [] => none
  | i :: r => match maxL r with
    | none => some i
    | some j => some (if i < j then j else i)
/-- a value's class -/
def D.typ (T : Tb) (m : Mu) : D → Option Value
  | .non => some (.type "NoneType")
  | .bl _ => some (.type "bool")
  | .int _ => some (.type "int")
  | .str _ => some (.type "str")
  | .lst _ => some (.type "list")
  | .tup _ => some (.type "tuple")
  | .ins c _ => (T.cls c).map .ref
  | .own k => match m[k]? with
    | some (.lst _) => some (.type "list")
    | some (.ins c _) => (T.cls c).map .ref
    | _ => none
  | _ => none
def D.asCls (T : Tb) : D → Option Value
  | .ty n => some (.type n)
  | .cls c => (T.cls c).map .ref
  | _ => none
def kitD (G : Gm) (t : Value) (c : D) : Option Bool :=
  match t, c with
  | .type a, .ty b => kitB a b
  | t, c => match c.asCls G.T with
    | some u => G.isi t u
    | none => none
def kitsD (G : Gm) (t : Value) : List D → Option Bool
  | [] => some false
  | c :: cs => match kitD G t c with
    | some true => some true
    | some false => kitsD G t cs
    | none => none
def isiD (G : Gm) (m : Mu) (x c : D) : Option Bool :=
  match x.typ G.T m with
  | none => none
  | some t => match c with
    | .tup cs => if cs.all fun c => (c.asCls G.T).isSome then kitsD G t cs else none
    | c => kitD G t c
def bltD (G : Gm) (b : Bn) (ds : List D) (m : Mu) : Rs D :=
  match b, ds with
  | .len, [.str y] => if y.length ≤ sizeLine then .ok (.int y.length) m else .no
  | .len, [x] => match lookS m x with
    | some xs => .ok (.int xs.length) m
    | none => .no
  | .min, [.int i, .int j] => .ok (.int (if j < i then j else i)) m
  | .max, [.int i, .int j] => .ok (.int (if j > i then j else i)) m
  | .min, [x] => match (look m x).bind intsOf with
    | some ns => match minL ns with
      | some i => .ok (.int i) m
      | none => .no
    | none => .no
  | .max, [x] => match (look m x).bind intsOf with
    | some ns => match maxL ns with
      | some i => .ok (.int i) m
      | none => .no
    | none => .no
  | .int, [.int i] => .ok (.int i) m
  | .int, [.bl b] => .ok (.int (if b then 1 else 0)) m
  | .tuple, [.tup ds] => .ok (.tup ds) m
  | .tuple, [x] => match look m x with
    | some xs => .ok (.tup xs) m
    | none => .no
  | .list, [x] => match lookS m x with
    | some xs => .ok (.lst xs) m
    | none => .no
  | .listO, [x] => match lookS m x with
    | some xs => .ok (.own m.length) (m ++ [.lst xs])
    | none => .no
  | .isi, [x, c] => match isiD G m x c with
    | some b => .ok (.bl b) m
    | none => .no
  | .any, [x] => match (look m x).bind blsOf with
    | some bs => .ok (.bl (bs.any id)) m
    | none => .no
  | .all, [x] => match (look m x).bind blsOf with
    | some bs => .ok (.bl (bs.all id)) m
    | none => .no
  | _, _ => .no
def mtD (f : Mt) (x : D) (ds : List D) (m : Mu) : Rs D :=
  match x with
  | .own k => match m[k]? with
    | some (.lst xs) => match f, ds with
      | .append, [y] => if xs.length < sizeLine then .ok .non (m.set k (.lst (xs ++ [y]))) else .no
      | .extend, [y] => match lookT m y with
        | some ys => if xs.length + ys.length ≤ sizeLine then .ok .non (m.set k (.lst (xs ++ ys))) else .no
        | none => .no
      | .pop, [] => match xs[xs.length - 1]? with
        | some y => .ok y (m.set k (.lst xs.dropLast))
        | none => .no
      | _, _ => .no
    | _ => .no
  | _ => .no
def idxD (m : Mu) (a b : D) : Option D :=
  match b with
  | .int i => match lookS m a with
    | some xs => atI xs i
    | none => none
  | _ => none
def cutD (xs : List D) (lo hi : Option Int) : List D := (xs.drop (HT.sIx xs.length 0 lo)).take (HT.sIx xs.length xs.length hi - HT.sIx xs.length 0 lo)
def slcD (m : Mu) (a : D) (lo hi : Option Int) : Option D :=
  match a with
  | .tup xs => some (.tup (cutD xs lo hi))
  | a => (look m a).map fun xs => .lst (cutD xs lo hi)
/-- no exception leaves it -/
def Rs.noX {β : Type} : Rs β → Rs β
  | .ex _ _ => .no
  | r => r
/-- the class of an instance and its fields -/
def insOf (m : Mu) : D → Option (Str × List (Str × D))
  | .ins c fs => some (c, fs)
  | .own k => match m[k]? with
    | some (.ins c fs) => some (c, fs)
    | _ => none
  | _ => none
def attD (G : Gm) (m : Mu) (a : D) (f : Str) : Rs D :=
  match insOf m a with
  | some (c, fs) => if G.fl c f then match fs.lookup f with
      | some d => .ok d m
      | none => .no
    else match G.pr c f with
      | some g => (g [a] m).noX
      | none => .no
  | none => .no
def metF (G : Gm) (m : Mu) (a : D) (f : Str) : Option Fn :=
  match insOf m a with
  | some (c, fs) => match fs.lookup f with
    | none => G.me c f
    | some _ => none
  | none => none
/-- data as a text -/
def shownD (d : D) : Option Str := match d.py with
  | some x => if x.showable && !x.hasDict && decide (x.depth < 100) && decide (x.shown.length ≤ sizeLine) then some x.shown else none
  | none => none
def fmtD (d : D) : Option Str := match d with
  | .str y => if y.length ≤ sizeLine then some y else none
  | d => shownD d
def strR (r : Rs D) : Rs D := r.bind fun d m => match d with
  | .str y => if y.length ≤ sizeLine then .ok (.str y) m else .no
  | _ => .no
def rprD (G : Gm) (d : D) (m : Mu) : Rs D := match shownD d with
  | some y => .ok (.str y) m
  | none => match insOf m d with
    | some (c, _) => match G.rp c with
      | some g => strR (g [d] m).noX
      | none => .no
    | none => .no
def opD (G : Gm) (op : Operator) (a b : D) (m : Mu) : Rs D :=
  match binD op a b m with
  | some d => .ok d m
  | none => match insOf m a with
    | some (c, _) => match G.op c op with
      | some g => (g [a, b] m).noX
      | none => .no
    | none => .no
def cmD (G : Gm) (op : CmpOp) (a b : D) (m : Mu) : Rs D :=
  match cmpD op a b m with
  | some d => .ok (.bl d) m
  | none => match G.cx op a b with
    | some r => .ok (.bl r) m
    | none => match insOf m a with
      | some (c, _) => match G.cm c op with
        | some g => (g [a, b] m).noX
        | none => .no
      | none => .no

abbrev Env := List (Option D)
def wipeD (ρ : Env) : List Nat → Env
  | [] => ρ
  | v :: vs => (wipeD ρ vs).set v none
/-- the items of a range -/
def rngD : List D → Option (List D)
  | [.int n] => if n < 2 ^ 62 ∧ -(2 ^ 62) ≤ n then some ((List.range n.toNat).map fun (i : Nat) => D.int (0 + (i : Int))) else none
  | [.int a, .int b] => if -(2 ^ 62) ≤ a ∧ a < 2 ^ 62 ∧ -(2 ^ 62) ≤ b ∧ b < 2 ^ 62 then some ((List.range (b - a).toNat).map fun (i : Nat) => D.int (a + (i : Int))) else none
  | _ => none
def zipD (m : Mu) (a b : D) : Option (List D × Wt) :=
  match lookW m a, lookW m b with
  | some (xs, w), some (ys, u) => some (List.zipWith (fun x y => .tup [x, y]) xs ys, w ++ u)
  | _, _ => none
def enuD (m : Mu) (a : D) : Option (List D × Wt) :=
  match lookW m a with
  | some (xs, w) => some ((List.range xs.length).zipWith (fun i x => .tup [.int (i : Nat), x]) xs, w)
  | none => none

inductive Fl where
  | nx (ρ : Env) | bk (ρ : Env) | ct (ρ : Env) | rt (d : D)
/-- a comprehension's turns -/
def lcL (w : Wt) (f : D → Mu → Rs (Option D)) : List D → List D → Mu → Rs (List D)
  | [], acc, m => .ok acc m
  | d :: ds, acc, m => (f d m).bind fun o m => if okW w m = true then (match o with
    | some x => if acc.length < sizeLine then lcL w f ds (acc ++ [x]) m else .no
    | none => lcL w f ds acc m) else .no
/-- a loop's turns -/
def forL (w : Wt) (f : D → Env → Mu → Rs Fl) : List D → Env → Mu → Rs Fl
  | [], ρ, m => .ok (.nx ρ) m
  | d :: ds, ρ, m => (f d ρ m).bind fun fl m => match fl with
    | .nx ρ => if okW w m = true then forL w f ds ρ m else .no
    | .ct ρ => if okW w m = true then forL w f ds ρ m else .no
    | .bk ρ => .ok (.nx ρ) m
    | .rt d => .ok (.rt d) m
def whlL (t : Env → Mu → Rs D) (f : Env → Mu → Rs Fl) : Nat → Env → Mu → Rs Fl
  | 0, _, _ => .no
  | n + 1, ρ, m => (t ρ m).bind fun d m => match d with
    | .bl true => (f ρ m).bind fun fl m => match fl with
      | .nx ρ => whlL t f n ρ m
      | .ct ρ => whlL t f n ρ m
      | .bk ρ => .ok (.nx ρ) m
      | .rt d => .ok (.rt d) m
    | .bl false => .ok (.nx ρ) m
    | _ => .no
def liftO (m : Mu) : Option D → Rs D
  | some d => .ok d m
  | none => .no
def liftB (m : Mu) : Option Bool → Rs D
  | some b => .ok (.bl b) m
  | none => .no

mutual
def evE (G : Gm) : E → Env → Mu → Rs D
  | .var i, ρ, m => match ρ[i]? with
    | some (some d) => .ok d m
    | _ => .no
  | .con d, _, m => .ok d m
  | .tup es, ρ, m => (evEs G es ρ m).bind fun ds m => if ds.length ≤ sizeLine then .ok (.tup ds) m else .no
  | .lst es, ρ, m => (evEs G es ρ m).bind fun ds m => if ds.length ≤ sizeLine then .ok (.lst ds) m else .no
  | .lsto es, ρ, m => (evEs G es ρ m).bind fun ds m => if ds.length ≤ sizeLine then .ok (.own m.length) (m ++ [.lst ds]) else .no
  | .bin op a b, ρ, m => (evE G a ρ m).bind fun x m => (evE G b ρ m).bind fun y m => opD G op x y m
  | .neg a, ρ, m => (evE G a ρ m).bind fun x m => match x with
    | .int i => .ok (.int (-i)) m
    | _ => .no
  | .cmp op a b, ρ, m => (evE G a ρ m).bind fun x m => (evE G b ρ m).bind fun y m => cmD G op x y m
  | .chn o1 o2 a b c, ρ, m => (evE G a ρ m).bind fun x m => (evE G b ρ m).bind fun y m => match cmpD o1 x y m with
    | some true => (evE G c ρ m).bind fun z m => liftB m (cmpD o2 y z m)
    | some false => .ok (.bl false) m
    | none => .no
  | .and a b, ρ, m => (evE G a ρ m).bind fun x m => match x with
    | .bl true => evE G b ρ m
    | .bl false => .ok (.bl false) m
    | _ => .no
  | .or a b, ρ, m => (evE G a ρ m).bind fun x m => match x with
    | .bl true => .ok (.bl true) m
    | .bl false => evE G b ρ m
    | _ => .no
  | .not a, ρ, m => (evE G a ρ m).bind fun x m => match x with
    | .bl b => .ok (.bl (!b)) m
    | _ => .no
  | .tru a, ρ, m => (evE G a ρ m).bind fun x m => liftB m (truD m x)
  | .ife t a b, ρ, m => (evE G t ρ m).bind fun x m => match x with
    | .bl true => evE G a ρ m
    | .bl false => evE G b ρ m
    | _ => .no
  | .fn f es, ρ, m => match G.fn f with
    | some g => (evEs G es ρ m).bind fun ds m => g ds m
    | none => .no
  | .blt b es, ρ, m => (evEs G es ρ m).bind fun ds m => bltD G b ds m
  | .mk c es, ρ, m => match G.cs c with
    | some g => (evEs G es ρ m).bind fun ds m => g ds m
    | none => .no
  | .att a f, ρ, m => (evE G a ρ m).bind fun x m => attD G m x f
  | .met a f es, ρ, m => (evE G a ρ m).bind fun x m => match metF G m x f with
    | some g => (evEs G es ρ m).bind fun ds m => g (x :: ds) m
    | none => .no
  | .bm a f es, ρ, m => (evE G a ρ m).bind fun x m => match lookT m x with
    | some _ => (evEs G es ρ m).bind fun ds m => mtD f x ds m
    | none => .no
  | .idx a b, ρ, m => (evE G a ρ m).bind fun x m => (evE G b ρ m).bind fun y m => liftO m (idxD m x y)
  | .slc a lo hi, ρ, m => (evE G a ρ m).bind fun x m => (evO G lo ρ m).bind fun l m => (evO G hi ρ m).bind fun h m => liftO m (slcD m x l h)
  | .lc o g it c elt ws, ρ, m => (evI G it ρ m).bind fun ds m => (lcL ds.2 (fun d m => (evG G g d (wipeD ρ ws) m).bind fun ρ2 m => (evT G c ρ2 m).bind fun b m =>
      if b then (evE G elt ρ2 m).bind fun x m => .ok (some x) m else .ok none m) ds.1 [] m).noX.bind fun xs m => if o then .ok (.own m.length) (m ++ [.lst xs]) else .ok (.lst xs) m
  | .lzp a b, ρ, m => (evE G a ρ m).bind fun x m => (evE G b ρ m).bind fun y m => match lookS m x, lookS m y with
    | some xs, some ys => if xs.length = ys.length ∧ xs.length < sizeLine then .ok (.lst (List.zipWith (fun x y => .tup [x, y]) xs ys)) m else .no
    | _, _ => .no
  | .cal a es, ρ, m => (evE G a ρ m).bind fun x m => match insOf m x with
    | some _ => (evEs G es ρ m).bind fun ds m => match insOf m x with
      | some (c, _) => match G.ca c with
        | some g => g (x :: ds) m
        | none => .no
      | none => .no
    | none => .no
  | .rpr a, ρ, m => (evE G a ρ m).bind fun x m => rprD G x m
  | .fmt a, ρ, m => (evE G a ρ m).bind fun x m => match fmtD x with
    | some y => .ok (.str y) m
    | none => .no
  | .jst es, ρ, m => evJ G es Str.empty ρ m
  | .ext t es, ρ, m => match G.xt t with
    | some g => (evEs G es ρ m).bind fun ds m => g ds m
    | none => .no
def evJ (G : Gm) : List E → Str → Env → Mu → Rs D
  | [], acc, _, m => .ok (.str acc) m
  | e :: es, acc, ρ, m => (evE G e ρ m).bind fun d m => match d with
    | .str y => if (acc ++ y).length ≤ sizeLine then evJ G es (acc ++ y) ρ m else .no
    | _ => .no
def evEs (G : Gm) : List E → Env → Mu → Rs (List D)
  | [], _, m => .ok [] m
  | e :: es, ρ, m => (evE G e ρ m).bind fun d m => (evEs G es ρ m).bind fun ds m => .ok (d :: ds) m
def evO (G : Gm) : Option E → Env → Mu → Rs (Option Int)
  | none, _, m => .ok none m
  | some e, ρ, m => (evE G e ρ m).bind fun d m => match d with
    | .int i => .ok (some i) m
    | _ => .no
/-- a comprehension's test -/
def evT (G : Gm) : Option E → Env → Mu → Rs Bool
  | none, _, m => .ok true m
  | some e, ρ, m => (evE G e ρ m).bind fun d m => match d with
    | .bl b => .ok b m
    | _ => .no
def evI (G : Gm) : It → Env → Mu → Rs (List D × Wt)
  | .val e, ρ, m => (evE G e ρ m).bind fun d m => match lookW m d with
    | some ds => .ok ds m
    | none => .no
  | .rng es, ρ, m => (evEs G es ρ m).bind fun ds m => match rngD ds with
    | some xs => .ok (xs, []) m
    | none => .no
  | .zip a b, ρ, m => (evE G a ρ m).bind fun x m => (evE G b ρ m).bind fun y m => match zipD m x y with
    | some xs => .ok xs m
    | none => .no
  | .enu a, ρ, m => (evE G a ρ m).bind fun x m => match enuD m x with
    | some xs => .ok xs m
    | none => .no
  | .ext t es, ρ, m => match G.xi t with
    | some g => (evEs G es ρ m).bind fun ds m => match g ds m with
      | some xs => .ok xs m
      | none => .no
    | none => .no
def evG (G : Gm) : Gt → D → Env → Mu → Rs Env
  | .nm i, d, ρ, m => .ok (ρ.set i (some d)) m
  | .tup gs, d, ρ, m => match d with
    | .tup ds => if ds.length = gs.length then evGs G gs ds ρ m else .no
    | _ => .no
  | .sub o i, d, ρ, m => (evE G o ρ m).bind fun x m => (evE G i ρ m).bind fun y m => match x, y with
    | .own k, .int j => match m[k]? with
      | some (.lst xs) => match ixN xs.length j with
        | some n => .ok ρ (m.set k (.lst (xs.set n d)))
        | none => .no
      | _ => .no
    | _, _ => .no
  | .fld o f, d, ρ, m => (evE G o ρ m).bind fun x m => match x with
    | .own k => match m[k]? with
      | some (.ins c fs) => if fs.length < 1000 then (if G.fl c f then .ok ρ (m.set k (.ins c (putD f d fs))) else .no) else .no
      | _ => .no
    | _ => .no
def evGs (G : Gm) : List Gt → List D → Env → Mu → Rs Env
  | [], [], ρ, m => .ok ρ m
  | g :: gs, d :: ds, ρ, m => (evG G g d ρ m).bind fun ρ m => evGs G gs ds ρ m
  | _, _, _, _ => .no
end
/-- names whose lists change no more -/
def frzD : List Nat → Env → Mu → Rs Env
  | [], ρ, m => .ok ρ m
  | i :: is, ρ, m => match ρ[i]? with
    | some (some (.own k)) => match m[k]? with
      | some (.lst ds) => frzD is (ρ.set i (some (.lst ds))) (m.set k .dead)
      | _ => .no
    | _ => .no
def fuelW : Nat := 1000000000000
mutual
def evC (G : Gm) : C → Env → Mu → Rs Fl
  | .asg g e, ρ, m => (evE G e ρ m).bind fun d m => (evG G g d ρ m).bind fun ρ m => .ok (.nx ρ) m
  | .aug i op e, ρ, m => match ρ[i]? with
    | some (some (.int x)) => (evE G e ρ m).bind fun d m => match d with
      | .int y => match op with
        | .Add => .ok (.nx (ρ.set i (some (.int (x + y))))) m
        | .Sub => .ok (.nx (ρ.set i (some (.int (x - y))))) m
        | _ => .no
      | _ => .no
    | _ => .no
  | .expr e, ρ, m => (evE G e ρ m).bind fun _ m => .ok (.nx ρ) m
  | .ife t a b, ρ, m => (evE G t ρ m).bind fun d m => match d with
    | .bl true => evCs G a ρ m
    | .bl false => evCs G b ρ m
    | _ => .no
  | .whl t b, ρ, m => whlL (fun ρ m => evE G t ρ m) (fun ρ m => evCs G b ρ m) fuelW ρ m
  | .for g it b, ρ, m => (evI G it ρ m).bind fun ds m => forL ds.2 (fun d ρ m => (evG G g d ρ m).bind fun ρ m => evCs G b ρ m) ds.1 ρ m
  | .ret e, ρ, m => (evE G e ρ m).bind fun d m => .ok (.rt d) m
  | .retN, _, m => .ok (.rt .non) m
  | .brk, ρ, m => .ok (.bk ρ) m
  | .cnt, ρ, m => .ok (.ct ρ) m
  | .pas, ρ, m => .ok (.nx ρ) m
  | .frz is c, ρ, m => (frzD is ρ m).bind fun ρ m => evC G c ρ m
def evCs (G : Gm) : List C → Env → Mu → Rs Fl
  | [], ρ, m => .ok (.nx ρ) m
  | c :: cs, ρ, m => (evC G c ρ m).bind fun fl m => match fl with
    | .nx ρ => evCs G cs ρ m
    | fl => .ok fl m
end
/-- a class: a new instance, its __init__; frz: it changes no more -/
def mkFn (c : Str) (frz : Bool) (gi : Fn) : Fn := fun ds m =>
  (gi (.own m.length :: ds) (m ++ [.ins c []])).bind fun r m1 => match r, m1[m.length]? with
    | .non, some (.ins c2 fs) => if c2 = c then (if frz then .ok (.ins c fs) (m1.set m.length .dead) else .ok (.own m.length) m1) else .no
    | _, _ => .no
/-- a def: its body at its arguments -/
def runF (G : Gm) (np nN : Nat) (body : List C) : Fn := fun ds m => if ds.length = np then
    (evCs G body (ds.map some ++ List.replicate (nN - ds.length) none) m).bind fun fl m => match fl with
      | .rt d => .ok d m
      | .nx _ => .ok .non m
      | _ => .no
  else .no
end Pm

set_option maxRecDepth 100000
set_option maxHeartbeats 4000000
/-! What is wanted behind a piece of a program; the strongest readings; operations -/
namespace Pm
open PySem L2

def PostX (T : Tb) (W : XK) (H Z : Hp) (α : List Addr) (x : Xn) (m : Mu) : Prop :=
  ∀ H' Z' α', Fut H Z α H' Z' α' → Rep T H' Z' α' m → match x with
    | .own c fs => ∀ C d vs, T.cls c = some C → H' d = some (.xd vs) → Dfs T Z' α' vs fs → W (.ref C) (some d) H'
    | .bi n => W (.type n) none H'
def Post {β : Type} (T : Tb) (W : XK) (H Z : Hp) (α : List Addr) (r : Rs β) (K : β → Mu → Hp → Hp → List Addr → Prop) : Prop :=
  match r with
  | .ok b m => ∀ H' Z' α', Fut H Z α H' Z' α' → Rep T H' Z' α' m → K b m H' Z' α'
  | .ex x m => PostX T W H Z α x m
  | .no => False
section
variable {β γ : Type} {T : Tb} {W : XK} {H Z H' Z' : Hp} {α α' : List Addr} {r : Rs β} {k : β → Mu → Rs γ} {K K' : β → Mu → Hp → Hp → List Addr → Prop} {J : γ → Mu → Hp → Hp → List Addr → Prop}
theorem Post.later (h : Post T W H Z α r K) (f : Fut H Z α H' Z' α') : Post T W H' Z' α' r K := by
  cases r with
  | ok b m => exact fun H2 Z2 α2 f2 R => h H2 Z2 α2 (f.trans f2) R
  | ex x m => exact fun H2 Z2 α2 f2 R => h H2 Z2 α2 (f.trans f2) R
  | no => exact h
theorem Post.mono (h : Post T W H Z α r K) (f : ∀ b m H' Z' α', Fut H Z α H' Z' α' → Rep T H' Z' α' m → K b m H' Z' α' → K' b m H' Z' α') : Post T W H Z α r K' := by
  cases r with
  | ok b m => exact fun H2 Z2 α2 f2 R => f _ _ _ _ _ f2 R (h H2 Z2 α2 f2 R)
  | ex x m => exact h
  | no => exact h
theorem Post.bind (h : Post T W H Z α (r.bind k) J) : Post T W H Z α r (fun b m H' Z' α' => Post T W H' Z' α' (k b m) J) := by
  cases r with
  | ok b m => exact fun H2 Z2 α2 f2 R => Post.later h f2
  | ex x m => exact h
  | no => exact h
theorem Post.now {b : β} {m : Mu} (h : Post T W H Z α (.ok b m) K) (R : Rep T H Z α m) : K b m H Z α := h _ _ _ .rfl' R
end

/-- the slots -/
structure EnvR (T : Tb) (Z : Hp) (α : List Addr) (σ : St) (ρ : Env) : Prop where
  len : σ.length = ρ.length
  at_ : ∀ (i : Nat) (d : D), ρ[i]? = some (some d) → ∃ v, σ[i]? = some (some v) ∧ Dn T Z α v d
section
variable {T : Tb} {Z Z' : Hp} {α α' : List Addr} {σ : St} {ρ : Env}
theorem EnvR.mono (h : EnvR T Z α σ ρ) (le : Le Z α Z' α') : EnvR T Z' α' σ ρ := ⟨h.len, fun i d e => let ⟨v, a, b⟩ := h.at_ i d e; ⟨v, a, b.mono le⟩⟩
theorem EnvR.set (h : EnvR T Z α σ ρ) {i : Nat} {v : V} {d : D} (dv : Dn T Z α v d) : EnvR T Z α (σ.set i (some v)) (ρ.set i (some d)) := by
  refine ⟨by simp [h.len], fun j e q => ?_⟩
  by_cases hj : i = j
  · subst hj
    have hi : i < ρ.length := by
      by_cases hi : i < ρ.length
      · exact hi
      · rw [List.getElem?_eq_none (by simp; omega)] at q; cases q
    rw [List.getElem?_set_self hi] at q
    cases q
    exact ⟨v, by rw [List.getElem?_set_self (by rw [h.len]; exact hi)], dv⟩
  · rw [List.getElem?_set_ne hj] at q
    rw [List.getElem?_set_ne hj]
    exact h.at_ j e q
theorem EnvR.wiped (h : EnvR T Z α σ ρ) (vs : List Nat) : EnvR T Z α (L2.wipe σ vs) (wipeD ρ vs) := by
  induction vs with
  | nil => exact h
  | cons v vs ih =>
    refine ⟨by simp [L2.wipe, wipeD, ih.len], fun j e q => ?_⟩
    unfold wipeD at q
    unfold L2.wipe
    by_cases hj : v = j
    · subst hj
      by_cases hi : v < (wipeD ρ vs).length
      · rw [List.getElem?_set_self hi] at q; cases q
      · rw [List.getElem?_eq_none (by simp; omega)] at q; cases q
    · rw [List.getElem?_set_ne hj] at q
      rw [List.getElem?_set_ne hj]
      exact ih.at_ j e q
end

/-! ### the strongest readings -/
def tA (X : Cx) (e : Expr) : TE := fun σ H Q => ∃ t, PE X e t ∧ t σ H Q
theorem pe_all {X : Cx} {e : Expr} : PE X e (tA X e) := ⟨fun pins s σ H Q I ⟨_, h, q⟩ => h.run pins s σ H Q I q⟩
def tAT (X : Cx) (e : Expr) : TT := fun σ H Q => ∃ t, PT X e t ∧ t σ H Q
theorem pt_all {X : Cx} {e : Expr} : PT X e (tAT X e) := ⟨fun pins s σ H Q I ⟨_, h, q⟩ => h.run pins s σ H Q I q⟩
def tAA (X : Cx) (es : List Expr) : TA := fun σ H Q => ∃ t, PA X es t ∧ t σ H Q
theorem pa_all {X : Cx} {es : List Expr} : PA X es (tAA X es) := ⟨fun pos pins s σ H Q I ⟨_, h, q⟩ => h.run pos pins s σ H Q I q⟩
def tAO (X : Cx) (e : Option Expr) : TO := fun σ H Q => ∃ t, PO X e t ∧ t σ H Q
theorem po_all {X : Cx} {e : Option Expr} : PO X e (tAO X e) := ⟨fun pins s σ H Q I ⟨_, h, q⟩ => h.run pins s σ H Q I q⟩
def tAI (X : Cx) (tg e : Expr) : TI := fun σ H R => ∃ t, PI X tg e t ∧ t σ H R
theorem pi_all {X : Cx} {tg e : Expr} : PI X tg e (tAI X tg e) := ⟨fun pins s σ H Q I ⟨_, h, q⟩ => h.run pins s σ H Q I q⟩
def tAG (X : Cx) (e : Expr) : TG := fun v σ H Q => ∃ t, PG X e t ∧ t v σ H Q
theorem pg_all {X : Cx} {e : Expr} : PG X e (tAG X e) := ⟨fun pins s σ H v u Q I r ⟨_, h, q⟩ => h.run pins s σ H v u Q I r q⟩
def tAGs (X : Cx) (es : List Expr) : TGs := fun v σ H Q => ∃ t, PGs X es t ∧ t v σ H Q
theorem pgs_all {X : Cx} {es : List Expr} : PGs X es (tAGs X es) := ⟨fun pins s σ H v u Q I r ⟨_, h, q⟩ => h.run pins s σ H v u Q I r q⟩
def tAS (X : Cx) (e : Stmt) : TS := fun D σ H => ∃ t, PS X e t ∧ t D σ H
theorem ps_all {X : Cx} {e : Stmt} : PS X e (tAS X e) := ⟨fun pins s σ H D I ⟨_, h, q⟩ => h.run pins s σ H D I q⟩
def tASs (X : Cx) (e : List Stmt) : TS := fun D σ H => ∃ t, PSs X e t ∧ t D σ H
theorem pss_all {X : Cx} {e : List Stmt} : PSs X e (tASs X e) := ⟨fun pins s σ H D I ⟨_, h, q⟩ => h.run pins s σ H D I q⟩
def oA (X : Cx) (f : Value → Value → Sem Value) : R2 := fun x y H Q => ∃ r, OpR X f r ∧ r x y H Q
theorem op_all {X : Cx} {f : Value → Value → Sem Value} : OpR X f (oA X f) := fun pins s σ H x y v u Q I r1 r2 ⟨_, h, q⟩ => h pins s σ H x y v u Q I r1 r2 q
def cA (X : Cx) (f : Value) : List V → Hp → VK → Prop := fun xs H Q => ∃ r, CallR X f r ∧ r xs H Q
theorem call_all {X : Cx} {f : Value} : CallR X f (cA X f) := fun pins s σ H xs us Q I r1 ⟨_, h, q⟩ => h pins s σ H xs us Q I r1 q
def mA (X : Cx) (id : String) : V → List V → Hp → VK → Prop := fun x xs H Q => ∃ r, MtR X id r ∧ r x xs H Q
theorem mt_all {X : Cx} {id : String} : MtR X id (mA X id) := fun pins s σ H x xs v us Q I r1 r2 ⟨_, h, q⟩ => h pins s σ H x xs v us Q I r1 r2 q
def iA (X : Cx) : R2 := fun x y H Q => ∃ r, IxR X r ∧ r x y H Q
theorem ix_all {X : Cx} : IxR X (iA X) := fun va sl pins s σ H x y v u Q I r1 r2 ⟨_, h, q⟩ e => h va sl pins s σ H x y v u Q I r1 r2 q e

/-! ### what a state knows of data -/
section
variable {T : Tb} {H Z : Hp} {α : List Addr} {m : Mu} {v : V} {d : D} {ds : List D}
/-- what is wanted of a value -/
abbrev KQ (T : Tb) (Q : VK) : D → Mu → Hp → Hp → List Addr → Prop := fun d _ H' Z' α' => ∀ v, Dn T Z' α' v d → Q v H'
theorem look_lst (R : Rep T H Z α m) {k : Nat} (e : m[k]? = some (.lst ds)) : ∃ a vs, α[k]? = some a ∧ H a = some (.lst vs) ∧ Dns T Z α vs ds := by
  have hk : k < α.length := by rw [R.len]; exact (List.getElem?_eq_some_iff.mp e).1
  obtain ⟨vs, e1, e2⟩ := R.obj k α[k] _ (List.getElem?_eq_getElem hk) e
  exact ⟨_, vs, List.getElem?_eq_getElem hk, e1, e2⟩
theorem lookT_at (R : Rep T H Z α m) (dv : Dn T Z α v d) (e : lookT m d = some ds) : ∃ a vs, v = .ref a ∧ H a = some (.lst vs) ∧ Dns T Z α vs ds := by
  cases dv with
  | lst e1 e2 => cases e; exact ⟨_, _, rfl, R.sub _ _ e1, e2⟩
  | own e1 =>
    rename_i k
    simp only [lookT] at e
    split at e
    · rename_i q
      cases e
      obtain ⟨a, vs, f1, f2, f3⟩ := look_lst R q
      rw [e1] at f1; cases f1
      exact ⟨_, vs, rfl, f2, f3⟩
    · cases e
  | _ => cases e
theorem look_at (R : Rep T H Z α m) (dv : Dn T Z α v d) (e : look m d = some ds) : ∃ a vs, v = .ref a ∧ SqL T.K H a vs ∧ Dns T Z α vs ds := by
  cases dv with
  | frl e1 e2 => cases e; exact ⟨_, _, rfl, sqL_mono R.sub e1, e2⟩
  | lst e1 e2 =>
    obtain ⟨a, vs, f1, f2, f3⟩ := lookT_at R (.lst e1 e2) (ds := ds) e
    exact ⟨a, vs, f1, SqL.of f2, f3⟩
  | own e1 =>
    obtain ⟨a, vs, f1, f2, f3⟩ := lookT_at R (.own e1) (ds := ds) e
    exact ⟨a, vs, f1, SqL.of f2, f3⟩
  | _ => cases e
theorem lookS_at (R : Rep T H Z α m) (dv : Dn T Z α v d) (e : lookS m d = some ds) : ∃ a vs, v = .ref a ∧ (SqL T.K H a vs ∨ SqT T.K H a vs) ∧ Dns T Z α vs ds := by
  cases dv with
  | tup e1 e2 => cases e; exact ⟨_, _, rfl, .inr (SqT.of (R.sub _ _ e1)), e2⟩
  | frl e1 e2 =>
    obtain ⟨a, vs, f1, f2, f3⟩ := look_at R (.frl e1 e2) (ds := ds) e
    exact ⟨a, vs, f1, .inl f2, f3⟩
  | lst e1 e2 =>
    obtain ⟨a, vs, f1, f2, f3⟩ := look_at R (.lst e1 e2) (ds := ds) e
    exact ⟨a, vs, f1, .inl f2, f3⟩
  | own e1 =>
    obtain ⟨a, vs, f1, f2, f3⟩ := look_at R (.own e1) (ds := ds) e
    exact ⟨a, vs, f1, .inl f2, f3⟩
  | _ => cases e
mutual
theorem D.py_at (R : Rep T H Z α m) : ∀ {d : D} {v : V} {p : PyData}, Dn T Z α v d → d.py = some p → Dp T.K H v p
  | .non, _, _, .non, e => by simp [D.py] at e; subst e; exact .non
  | .bl b, _, _, .bl _, e => by simp [D.py] at e; subst e; exact .bl b
  | .int b, _, _, .int _, e => by simp [D.py] at e; subst e; exact .int b
  | .str b, _, _, .str _, e => by simp [D.py] at e; subst e; exact .str b
  | .lst ds, _, p, .lst e1 e2, e => by
    simp only [D.py, Option.map_eq_some_iff] at e
    obtain ⟨ps, e, rfl⟩ := e
    exact .lst (SqL.of (R.sub _ _ e1)) (D.pys_at R e2 e)
  | .frl ds, _, p, .frl e1 e2, e => by
    simp only [D.py, Option.map_eq_some_iff] at e
    obtain ⟨ps, e, rfl⟩ := e
    exact .lst (sqL_mono R.sub e1) (D.pys_at R e2 e)
  | .tup ds, _, p, .tup e1 e2, e => by
    simp only [D.py, Option.map_eq_some_iff] at e
    obtain ⟨ps, e, rfl⟩ := e
    exact .tup (SqT.of (R.sub _ _ e1)) (D.pys_at R e2 e)
  | .ins _ _, _, _, _, e => by simp [D.py] at e
  | .own _, _, _, _, e => by simp [D.py] at e
  | .ty _, _, _, _, e => by simp [D.py] at e
  | .cls _, _, _, _, e => by simp [D.py] at e
theorem D.pys_at (R : Rep T H Z α m) : ∀ {ds : List D} {vs : List V} {ps : List PyData}, Dns T Z α vs ds → D.pys ds = some ps → DpAll T.K H vs ps
  | [], _, _, .nil, e => by simp [D.pys] at e; subst e; exact .nil
  | d :: ds, _, _, .cons e1 e2, e => by
    simp only [D.pys] at e
    split at e
    · rename_i q1 q2
      cases e
      exact .cons (D.py_at R e1 q1) (D.pys_at R e2 q2)
    · cases e
end
theorem Dn.flat (dv : Dn T Z α v d) (f : d.flat = true) : flatV v = true := by
  cases dv with
  | non => rfl
  | bl _ => rfl
  | int _ => rfl
  | str _ => rfl
  | _ => cases f
theorem Dns.flat : ∀ {vs : List V} {ds : List D}, Dns T Z α vs ds → ds.all D.flat = true → vs.all flatV = true
  | _, _, .nil, _ => rfl
  | _, _, .cons a r, f => by
    rw [List.all_cons, Bool.and_eq_true] at f
    rw [List.all_cons, a.flat f.1, Dns.flat r f.2]
    rfl
theorem Dn.eqF {u : V} {e : D} (dv : Dn T Z α v d) (du : Dn T Z α u e) (f : d.flat = true) (f' : e.flat = true) : eqV v u = D.eqF d e := by
  cases dv <;> first
    | (cases du <;> first | rfl | cases f')
    | cases f
theorem Dns.inF {x : V} {c : D} (dx : Dn T Z α x c) (fc : c.flat = true) : ∀ {vs : List V} {ds : List D}, Dns T Z α vs ds → ds.all D.flat = true → inV x vs = Pm.inF c ds
  | _, _, .nil, _ => rfl
  | _, _, .cons a r, f => by
    rw [List.all_cons, Bool.and_eq_true] at f
    have ih := Dns.inF dx fc r f.2
    unfold inV Pm.inF at ih ⊢
    rw [List.any_cons, List.any_cons, ih, a.eqF dx f.1 fc]
theorem Dn.isNon (dv : Dn T Z α v d) : decide (v = .non) = d.isNon := by cases dv <;> rfl
/-- a new thing is frozen -/
theorem Post.frozen {W : XK} {o : HO} {p : Addr} {Q : VK} (h : Post T W H Z α (.ok d m) (KQ T Q)) (R : Rep T H Z α m) (hp : H p = none) (hd : Dn T (upd Z p o) α (.ref p) d) : Q (.ref p) (upd H p o) :=
  h _ _ _ (Fut.new R hp) (R.new hp) _ hd
theorem le_new {p : Addr} {o : HO} (R : Rep T H Z α m) (hp : H p = none) : Le Z α (upd Z p o) α := (Fut.new (o := o) R hp).le
theorem Post.tup {W : XK} {p : Addr} {Q : VK} {vs : List V} (h : Post T W H Z α (.ok (.tup ds) m) (KQ T Q)) (R : Rep T H Z α m) (hv : Dns T Z α vs ds) (hp : H p = none) : Q (.ref p) (upd H p (.tup vs)) :=
  h.frozen R hp (.tup upd_same (hv.mono (le_new R hp)))
theorem Post.lst {W : XK} {p : Addr} {Q : VK} {vs : List V} (h : Post T W H Z α (.ok (.lst ds) m) (KQ T Q)) (R : Rep T H Z α m) (hv : Dns T Z α vs ds) (hp : H p = none) : Q (.ref p) (upd H p (.lst vs)) :=
  h.frozen R hp (.lst upd_same (hv.mono (le_new R hp)))
/-- a new list of the store -/
theorem Post.lsto {W : XK} {p : Addr} {Q : VK} {vs : List V} (h : Post T W H Z α (.ok (.own m.length) (m ++ [.lst ds])) (KQ T Q)) (R : Rep T H Z α m) (hv : Dns T Z α vs ds) (hp : H p = none) : Q (.ref p) (upd H p (.lst vs)) := by
  have le : Le Z α Z (α ++ [p]) := ⟨fun _ _ e => e, [p], rfl⟩
  refine h _ _ _ (Fut.push hp) (R.push hp ⟨vs, upd_same, hv.mono le⟩) _ (.own ?_)
  rw [← R.len, List.getElem?_append_right (Nat.le_refl _), Nat.sub_self]
  rfl
end
end Pm

set_option maxRecDepth 100000
set_option maxHeartbeats 400000
/-! A tuple many times over, none and one as well -/
namespace Pm
open PySem L2 PySem.Spec PyProof.Rows
theorem tup_mul1 (l : Addr) (items : Array Value) (n : Nat) (dd : Option Addr) (sl : Array (Option Value)) (u : Tok) :
    Meets (Builtin.«tuple.__mul__» ⟨[.ref l, .int 1 u], []⟩) (fun _ R s => s.heap.get? l = some { cls := .type "tuple", dict := dd, data := .seq items n, slots := sl } ∧ R (.ok (.ret (.ref l))) s) :=
  .of_wp fun prog w A R s h => by
    obtain ⟨hp, g, d, tk, os⟩ := s
    obtain ⟨hl, h⟩ := h
    have f1 := AutoSeq1.idx_int
    wp_walk using wpAny_loadPart' hl
    exact ⟨_, rfl, h⟩
theorem tup_mul0 (l : Addr) (items : Array Value) (n : Nat) (dd : Option Addr) (sl : Array (Option Value)) (u : Tok) (hne : items.isEmpty = false) :
    Meets (Builtin.«tuple.__mul__» ⟨[.ref l, .int 0 u], []⟩) (fun _ R s => s.heap.get? l = some { cls := .type "tuple", dict := dd, data := .seq items n, slots := sl } ∧
      R (.ok (.ret (Value.ref s.heap.objs.size))) { s with heap := s.heap.push { cls := Value.type "tuple", data := Data.seq #[] }, toks := s.toks }) :=
  .of_wp fun prog w A R s h => by
    obtain ⟨hp, g, d, tk, os⟩ := s
    obtain ⟨hl, h⟩ := h
    have f1 := AutoSeq1.idx_int
    wp_walk using wpAny_loadPart' hl
    exact ⟨_, rfl, h⟩
def rMulT (K : PySem.W.Frag) : R2 := fun x y H Q => ∃ l k xs, x = .ref l ∧ y = .int k ∧ SqT K H l xs ∧ xs ≠ [] ∧ 0 ≤ k ∧ k ≤ 1000 ∧ xs.length ≤ 1000 ∧ (k = 1 → Q (.ref l) H) ∧ (k ≠ 1 → ∀ p, H p = none → Q (.ref p) (upd H p (.tup (List.replicate k.toNat xs).flatten)))
theorem op_mulT {X : Cx} : OpR X (binaryOp .Mult) (rMulT X.K) := by
  intro pins s σ H x y v u Q I rx ry h
  obtain ⟨l, k, xs, rfl, rfl, hT, hne, h1, h2, hz, q1, q2⟩ := h
  by_cases k2 : 2 ≤ k
  · exact op_repT pins s σ H (.ref l) (.int k) v u Q I rx ry ⟨l, k, xs, rfl, rfl, hT, hne, k2, h2, hz, q2 (by omega)⟩
  cases rx
  obtain ⟨t, rfl⟩ := ry
  obtain ⟨its, r, ⟨⟨cls, dd, data, sl⟩, ho, hc, n, hd⟩, hs⟩ := I.tuple hT
  simp only at hc hd
  subst hc hd
  have hle : its.length = xs.length := r.length.symm
  have hi : its.toArray.isEmpty = false := by
    cases its with
    | nil => exact absurd (List.eq_nil_of_length_eq_zero hle.symm) hne
    | cons a b => rfl
  obtain rfl | rfl : k = 0 ∨ k = 1 := by omega
  · refine wpAny_binaryOp_repeat_ref (T := "tuple") (U := "int") (by decide) ⟨_, ho, rfl⟩ (fun s' => typeIs_int s' 0 t) noFill_tuple_mul F.fills_int_mul F.slot_int_rmul repeat_tuple F.slot_int_index.lookup
      (call_meets F.slot_int_rmul (typeIs_int s 0 t) F.entry_int_rmul (F.args_int_rmul_2 _ _) (int_rmul_tuple 0 t l its.toArray n dd sl)
        ⟨ho, rfl, ⟨_, ho, rfl⟩, call_meets F.slot_tuple_mul ⟨_, ho, rfl⟩ F.entry_tuple_mul (F.args_tuple_mul_2 _ _) (tup_mul0 l its.toArray n dd sl t hi) ⟨ho, ?_⟩⟩)
    refine ⟨.ref s.heap.objs.size, _, I.laid (t' := s.toks) (o := .tup []) (fun b ob q => Heap.get?_push_of_some _ q) (Nat.le_refl _) ?_, rfl, q2 (by omega) _ (I.hok.fresh (Nat.le_refl _))⟩
    exact ⟨Nat.zero_le _, [], .nil, IsTup.new _ _⟩
  · refine wpAny_binaryOp_repeat_ref (T := "tuple") (U := "int") (by decide) ⟨_, ho, rfl⟩ (fun s' => typeIs_int s' 1 t) noFill_tuple_mul F.fills_int_mul F.slot_int_rmul repeat_tuple F.slot_int_index.lookup
      (call_meets F.slot_int_rmul (typeIs_int s 1 t) F.entry_int_rmul (F.args_int_rmul_2 _ _) (int_rmul_tuple 1 t l its.toArray n dd sl)
        ⟨ho, rfl, ⟨_, ho, rfl⟩, call_meets F.slot_tuple_mul ⟨_, ho, rfl⟩ F.entry_tuple_mul (F.args_tuple_mul_2 _ _) (tup_mul1 l its.toArray n dd sl t) ⟨ho, ?_⟩⟩)
    exact ⟨.ref l, H, I, rfl, q1 rfl⟩
theorem op_mulS {X : Cx} : OpR X (binaryOp .Mult) (fun x y H Q => ∃ a k, x = .str a ∧ y = .int k ∧ (k = 0 ∨ k = 1) ∧ Q (.str (if k = 1 then a else Str.empty)) H) := by
  intro pins s σ H x y v u Q I rx ry h
  obtain ⟨a, k, rfl, rfl, hk, q⟩ := h
  obtain ⟨t, rfl⟩ := rx
  obtain ⟨t2, rfl⟩ := ry
  rcases hk with rfl | rfl
  · exact P.mul_str_none (by decide) (by decide) ⟨.str Str.empty, H, I.tok (s.toks + 1), ⟨s.toks, rfl⟩, q⟩
  · refine P.mul_str (by decide) (fun _ h => by simp at h) (fun _ h => by simp at h) ?_
    rw [if_neg (by decide), if_pos (by simp)]
    exact ⟨.str a, H, I, ⟨t, rfl⟩, q⟩
theorem op_isB {X : Cx} : OpR X (compareOp .Is) (fun x y H Q => ∃ a b, x = .bl a ∧ y = .bl b ∧ Q (.bl (a == b)) H) := by
  intro pins s σ H x y v u Q I rx ry h
  obtain ⟨a, b, rfl, rfl, q⟩ := h
  cases rx
  cases ry
  have e : isSame (.bool a) (.bool b) = pure (a == b) := by cases a <;> cases b <;> rfl
  show wpAny _ _ (isSame (.bool a) (.bool b) >>= fun r => pure (Value.bool r)) _ _ s
  exact wpAny_bind (wpAny_of_eq e (wpAny_pure ⟨.bl (a == b), H, I, rfl, q⟩))
theorem op_notB {X : Cx} : OpR X (compareOp .IsNot) (fun x y H Q => ∃ a b, x = .bl a ∧ y = .bl b ∧ Q (.bl (!(a == b))) H) := by
  intro pins s σ H x y v u Q I rx ry h
  obtain ⟨a, b, rfl, rfl, q⟩ := h
  cases rx
  cases ry
  have e : isSame (.bool a) (.bool b) = pure (a == b) := by cases a <;> cases b <;> rfl
  show wpAny _ _ (isSame (.bool a) (.bool b) >>= fun r => pure (Value.bool (!r))) _ _ s
  exact wpAny_bind (wpAny_of_eq e (wpAny_pure ⟨.bl (!(a == b)), H, I, rfl, q⟩))
end Pm

set_option maxRecDepth 100000
set_option maxHeartbeats 4000000
/-! Operators, comparisons, truth, built-ins: on data and on values -/
namespace Pm
open PySem L2
theorem Post.noX {β : Type} {T : Tb} {W : XK} {H Z : Hp} {α : List Addr} {r : Rs β} {K : β → Mu → Hp → Hp → List Addr → Prop} (h : Post T W H Z α r.noX K) : Post T E0 H Z α r K := by
  cases r with
  | ok b m => exact h
  | ex x m => exact h.elim
  | no => exact h
/-! ### xs != [] -/
def rNeNil (K : PySem.W.Frag) : R2 := fun x y H Q => ∃ (l p : Addr) (xs : List V), x = .ref l ∧ y = .ref p ∧ SqL K H l xs ∧ H p = some (.lst []) ∧ Q (.bl (!xs.isEmpty)) H
theorem op_neNil {X : Cx} (hu : X.A.units + 64 < cLine) : OpR X (compareOp .NotEq) (rNeNil X.K) := by
  intro pins s σ H x y v u Q I rx ry h
  obtain ⟨l, p, xs, rfl, rfl, hl, hp, q⟩ := h
  cases rx
  cases ry
  obtain ⟨its, rv, pl, _⟩ := I.list hl
  obtain ⟨its2, rv2, pp, _⟩ := I.list (SqL.of hp)
  cases rv2
  have el := rv.length
  cases xs with
  | nil =>
    cases rv
    have d : ∀ {a : Addr}, PlainL s.heap a #[] → ∃ as, Reads s.heap (.ref a) (.list []) as := fun {a} z => by
      obtain ⟨o, n, ho, hc, _, hd⟩ := z
      exact ⟨_, Reads.list ho hc hd ReadsAll.nil⟩
    obtain ⟨as, r1⟩ := d pl
    obtain ⟨bs, r2⟩ := d pp
    exact SeqAt.compareNe_shaped r1 r2 (by decide) (by decide) hu ⟨.bl _, H, I, rfl, q⟩
  | cons x r =>
    refine SeqAt.RcNeAt.lists_lengths pl.isList pp.isList ?_ (Nat.lt_of_le_of_lt (Nat.le_add_right _ 64) hu) _ _ _ _ ⟨.bl _, H, I, rfl, q⟩
    cases rv
    simp

def rEqNil (K : PySem.W.Frag) : R2 := fun x y H Q => ∃ (l p : Addr) (xs : List V), x = .ref l ∧ y = .ref p ∧ SqL K H l xs ∧ H p = some (.lst []) ∧ Q (.bl xs.isEmpty) H
theorem op_eqNil {X : Cx} (hu : X.A.units + 64 < cLine) : OpR X (compareOp .Eq) (rEqNil X.K) := by
  intro pins s σ H x y v u Q I rx ry h
  obtain ⟨l, p, xs, rfl, rfl, hl, hp, q⟩ := h
  cases rx
  cases ry
  obtain ⟨its, rv, pl, _⟩ := I.list hl
  obtain ⟨its2, rv2, pp, _⟩ := I.list (SqL.of hp)
  cases rv2
  have el := rv.length
  cases xs with
  | nil =>
    cases rv
    have d : ∀ {a : Addr}, PlainL s.heap a #[] → ∃ as, Reads s.heap (.ref a) (.list []) as := fun {a} z => by
      obtain ⟨o, n, ho, hc, _, hd⟩ := z
      exact ⟨_, Reads.list ho hc hd ReadsAll.nil⟩
    obtain ⟨as, r1⟩ := d pl
    obtain ⟨bs, r2⟩ := d pp
    exact SeqAt.compareEq_shaped r1 r2 (by decide) (by decide) hu ⟨.bl _, H, I, rfl, q⟩
  | cons x r =>
    refine SeqAt.RcAt.lists_lengths pl.isList pp.isList ?_ (Nat.lt_of_le_of_lt (Nat.le_add_right _ 64) hu) _ _ _ _ ⟨.bl _, H, I, rfl, q⟩
    cases rv
    simp

section
variable {X : Cx} {T : Tb} {W : XK} {H Z : Hp} {α : List Addr} {m : Mu} {v u : V} {a b d : D} {Q : VK}

theorem Dns.emp {vs : List V} {ds : List D} (h : Dns T Z α vs ds) : vs.isEmpty = ds.isEmpty := by cases h <;> rfl
theorem smallI_iff {i : Int} (h : smallI i = true) : -(2 ^ 64) < i ∧ i < 2 ^ 64 := by
  unfold smallI at h
  rw [Bool.and_eq_true, decide_eq_true_eq, decide_eq_true_eq] at h
  exact h
theorem binI_ok {op : Operator} {i j k : Int} (e : binI op i j = some k) (q : Q (.int k) H) : oA X (binaryOp op) (.int i) (.int j) H Q := by
  cases op <;> simp only [binI] at e
  case Add => cases e; exact ⟨_, op_add, i, j, rfl, rfl, q⟩
  case Sub => cases e; exact ⟨_, op_sub, i, j, rfl, rfl, q⟩
  case Mult =>
    split at e
    · rename_i h
      cases e
      rw [Bool.or_eq_true] at h
      exact ⟨_, op_mul, i, j, rfl, rfl, h.elim (fun h => .inl (smallI_iff h)) fun h => .inr (smallI_iff h), q⟩
    · cases e
  case Mod =>
    split at e
    · rename_i h; cases e; exact ⟨_, op_mod, i, j, rfl, rfl, h, q⟩
    · cases e
  case FloorDiv =>
    split at e
    · rename_i h; cases e; exact ⟨_, op_fdiv, i, j, rfl, rfl, h, q⟩
    · cases e
  case Pow =>
    split at e
    · rename_i h; cases e; exact ⟨_, op_pow, i, j, rfl, rfl, h, q⟩
    · cases e
  all_goals cases e
theorem binL_ok {op : Operator} {p : Addr} {vs : List V} {xs : List D} (R : Rep T H Z α m) (hp : H p = some (.lst vs)) (hv : Dns T Z α vs xs) (du : Dn T Z α u b) (e : binL op xs m b = some d) (q : Post T W H Z α (.ok d m) (KQ T Q)) :
    oA X (binaryOp op) (.ref p) u H Q := by
  cases op <;> simp only [binL] at e
  case Add =>
    split at e
    · rename_i ys hy
      split at e
      · rename_i hs
        cases e
        obtain ⟨a2, ws, rfl, h2, d2⟩ := lookT_at R du hy
        exact ⟨_, op_cat, p, a2, vs, ws, rfl, rfl, hp, h2, by rw [hv.len, d2.len]; exact hs, fun r hr => q.lst R (hv.append d2) hr⟩
      · cases e
    · cases e
  case Mult =>
    split at e
    · rename_i k
      split at e
      · rename_i hs
        cases e
        cases du
        exact ⟨_, op_rep, p, k, vs, rfl, rfl, hp, hs.1, hs.2.1, by rw [hv.len]; exact hs.2.2, fun r hr => q.lst R (hv.reps _) hr⟩
      · cases e
    · cases e
  all_goals cases e
theorem binD_ok {op : Operator} (R : Rep T H Z α m) (dv : Dn T Z α v a) (du : Dn T Z α u b) (hK : T.K = X.K) (e : binD op a b m = some d) (q : Post T W H Z α (.ok d m) (KQ T Q)) : oA X (binaryOp op) v u H Q := by
  cases dv with
  | int i =>
    cases du with
    | int j =>
      simp only [binD, Option.map_eq_some_iff] at e
      obtain ⟨k, e, rfl⟩ := e
      exact binI_ok e (q.now R _ (.int k))
    | _ => cases e
  | str x =>
    cases du with
    | str y =>
      cases op <;> simp only [binD, binS] at e
      case Add =>
        split at e
        · rename_i h
          cases e
          exact ⟨_, op_add_str, x, y, rfl, rfl, h, q.now R _ (.str _)⟩
        · cases e
      all_goals cases e
    | int k =>
      cases op <;> simp only [binD] at e
      case Mult =>
        split at e
        · rename_i h
          cases e
          exact ⟨_, op_mulS, x, k, rfl, rfl, h, q.now R _ (.str _)⟩
        · cases e
      all_goals cases e
    | _ => cases e
  | tup e1 e2 =>
    rename_i p vs xs
    cases du with
    | tup f1 f2 =>
      rename_i p2 ws ys
      cases op <;> simp only [binD, binT] at e
      case Add =>
        split at e
        · rename_i h
          cases e
          refine ⟨_, op_catA, p, p2, vs, ws, rfl, rfl, hK ▸ SqT.of (R.sub _ _ e1), hK ▸ SqT.of (R.sub _ _ f1), by rw [e2.len, f2.len]; exact h, fun z => ?_, fun _ z => ?_, fun _ _ r hr => ?_⟩
          · subst z
            cases e2
            exact q.now R _ (.tup f1 f2)
          · subst z
            cases f2
            rw [List.append_nil] at q
            exact q.now R _ (.tup e1 e2)
          · exact q.tup R (e2.append f2) hr
        · cases e
      all_goals cases e
    | int k =>
      cases op <;> simp only [binD] at e
      case Mult =>
        split at e
        · rename_i h
          cases e
          refine ⟨_, op_mulT, p, k, vs, rfl, rfl, hK ▸ SqT.of (R.sub _ _ e1), fun z => ?_, h.2.1, h.2.2.1, by rw [e2.len]; exact h.2.2.2, fun z => ?_, fun _ r hr => ?_⟩
          · subst z
            cases e2
            exact h.1 rfl
          · subst z
            rw [show (List.replicate (1 : Int).toNat xs).flatten = xs by simp] at q
            exact q.now R _ (.tup e1 e2)
          · exact q.tup R (e2.reps _) hr
        · cases e
      all_goals cases e
    | _ => cases e
  | lst e1 e2 => exact binL_ok R (R.sub _ _ e1) e2 du e q
  | own e1 =>
    rename_i p k
    simp only [binD] at e
    split at e
    · rename_i xs hx
      obtain ⟨a, vs, f1, f2, f3⟩ := look_lst R hx
      rw [e1] at f1; cases f1
      exact binL_ok R f2 f3 du e q
    · cases e
  | _ => cases e

theorem cmpD_ok {op : CmpOp} {c : Bool} {k : Nat} (hr : Room k X.A) (R : Rep T H Z α m) (dv : Dn T Z α v a) (du : Dn T Z α u b) (hK : T.K = X.K) (e : cmpD op a b m = some c) (q : Q (.bl c) H) : oA X (compareOp op) v u H Q := by
  have flat : ∀ {ys : List D}, lookS m b = some ys → (a.flat && ys.all D.flat) = true → ∃ p ws, u = .ref p ∧ (SqL X.K H p ws ∨ SqT X.K H p ws) ∧ flatV v = true ∧ ws.all flatV = true ∧ inV v ws = inF a ys := fun {ys} hy hf => by
    rw [Bool.and_eq_true] at hf
    obtain ⟨p, ws, rfl, hs, hw⟩ := lookS_at R du hy
    exact ⟨p, ws, rfl, hK ▸ hs, dv.flat hf.1, hw.flat hf.2, hw.inF dv hf.1 hf.2⟩
  have eqs : ∀ {r : Bool}, eqD m a b = some r → (∃ x y, Dp X.K H v x ∧ Dp X.K H u y ∧ SeqAt.shaped x = true ∧ SeqAt.shaped y = true ∧ r = PyData.eqv x y) ∨
      ∃ p1 p2 ws, v = .ref p1 ∧ u = .ref p2 ∧ H p1 = some (.lst ws) ∧ H p2 = some (.lst []) ∧ r = ws.isEmpty := fun {r} hq => by
    unfold eqD at hq
    split at hq
    · rename_i h1 h2
      split at hq
      · rename_i hs
        rw [Bool.and_eq_true] at hs
        cases hq
        exact .inl ⟨_, _, hK ▸ D.py_at R dv h1, hK ▸ D.py_at R du h2, hs.1, hs.2, rfl⟩
      · cases hq
    · split at hq
      · rename_i h1 _
        cases hq
        obtain ⟨p1, ws, rfl, h2, h3⟩ := lookT_at R dv h1
        obtain ⟨p2, ws2, rfl, h4, h5⟩ := lookT_at (ds := []) R du rfl
        cases h5
        exact .inr ⟨p1, p2, ws, rfl, rfl, h2, h4, h3.emp.symm⟩
      · cases hq
  cases op <;> simp only [cmpD] at e
  case Eq =>
    rcases eqs e with ⟨x, y, h1, h2, h3, h4, rfl⟩ | ⟨p1, p2, ws, rfl, rfl, h1, h2, rfl⟩
    · exact ⟨_, op_eqD hr.units, x, y, h1, h2, h3, h4, q⟩
    · exact ⟨_, op_eqNil hr.units, p1, p2, ws, rfl, rfl, SqL.of h1, h2, q⟩
  case NotEq =>
    rw [Option.map_eq_some_iff] at e
    obtain ⟨r, e, rfl⟩ := e
    rcases eqs e with ⟨x, y, h1, h2, h3, h4, rfl⟩ | ⟨p1, p2, ws, rfl, rfl, h1, h2, rfl⟩
    · exact ⟨_, op_neD hr.units, x, y, h1, h2, h3, h4, q⟩
    · exact ⟨_, op_neNil hr.units, p1, p2, ws, rfl, rfl, SqL.of h1, h2, q⟩
  case Is =>
    split at e
    · cases e
      cases du
      exact ⟨_, op_isN, rfl, by rw [dv.isNon]; exact q⟩
    · split at e
      · cases e
        cases du
        cases dv
        exact ⟨_, op_isB, _, _, rfl, rfl, q⟩
      · cases e
    · cases e
  case IsNot =>
    split at e
    · cases e
      cases du
      exact ⟨_, op_notN, rfl, by rw [dv.isNon]; exact q⟩
    · split at e
      · cases e
        cases du
        cases dv
        exact ⟨_, op_notB, _, _, rfl, rfl, q⟩
      · cases e
    · cases e
  case Lt =>
    split at e
    · cases e
      cases dv; cases du
      exact ⟨_, op_lt, _, _, rfl, rfl, q⟩
    · cases e
  case LtE =>
    split at e
    · cases e
      cases dv; cases du
      exact ⟨_, op_le, _, _, rfl, rfl, q⟩
    · cases e
  case Gt =>
    split at e
    · cases e
      cases dv; cases du
      exact ⟨_, op_gt, _, _, rfl, rfl, q⟩
    · cases e
  case GtE =>
    split at e
    · cases e
      cases dv; cases du
      exact ⟨_, op_ge, _, _, rfl, rfl, q⟩
    · cases e
  case In =>
    split at e
    · rename_i ys hy
      split at e
      · rename_i hf
        cases e
        obtain ⟨p, ws, rfl, h1, h2, h3, h4⟩ := flat hy hf
        exact ⟨_, op_in_seq, p, ws, rfl, h1, h2, h3, by rw [h4]; exact q⟩
      · cases e
    · cases e
  case NotIn =>
    split at e
    · rename_i ys hy
      split at e
      · rename_i hf
        cases e
        obtain ⟨p, ws, rfl, h1, h2, h3, h4⟩ := flat hy hf
        exact ⟨_, op_notIn_seq, p, ws, rfl, h1, h2, h3, by rw [h4]; exact q⟩
      · cases e
    · cases e
theorem truD_ok {c : Bool} (R : Rep T H Z α m) (dv : Dn T Z α v a) (hK : T.K = X.K) (e : truD m a = some c) : TruV X.K v H c := by
  have l : ∀ {ds}, look m a = some ds → TruV X.K v H (!ds.isEmpty) := fun {ds} h => by
    obtain ⟨p, vs, rfl, h1, h2⟩ := look_at R dv h
    exact .inl ⟨vs, hK ▸ h1, by rw [h2.emp]⟩
  cases dv with
  | non => cases e; rfl
  | bl b => cases e; rfl
  | int i => cases e; rfl
  | str x =>
    simp only [truD] at e
    split at e
    · rename_i h; cases e; exact ⟨h, rfl⟩
    · cases e
  | tup e1 e2 => cases e; exact .inr (.inl ⟨_, SqT.of (R.sub _ _ e1), by rw [e2.emp]⟩)
  | lst e1 e2 =>
    simp only [truD] at e
    split at e
    · rename_i h; cases e; exact l h
    · cases e
  | frl e1 e2 =>
    simp only [truD] at e
    split at e
    · rename_i h; cases e; exact l h
    · cases e
  | own e1 =>
    simp only [truD] at e
    split at e
    · rename_i h; cases e; exact l h
    · cases e
  | ins e1 e2 e3 =>
    simp only [truD] at e
    split at e
    · rename_i h; cases h
    · cases e
  | ty n =>
    simp only [truD] at e
    split at e
    · rename_i h; cases h
    · cases e
  | cls e1 =>
    simp only [truD] at e
    split at e
    · rename_i h; cases h
    · cases e
end
end Pm

set_option maxRecDepth 100000
set_option maxHeartbeats 4000000
/-! Built-in functions, methods of lists, subscripts, slices -/
namespace Pm
open PySem L2
/-- what the written part says of the classes -/
structure GoodK (G : Gm) (K : PySem.W.Frag) : Prop where
  eK : G.T.K = K
  isi : ∀ t u b, G.isi t u = some b → PySem.W.kitOne K t u = some b
  cls : ∀ c C, G.T.cls c = some C → Cls K C ∧ PySem.W.findIn K (.ref C) "__class__" = some (some (.builtin "object.__class__")) ∧
      PySem.W.specialIn K (.builtin "object.__class__") "__get__" = some (some (.builtin "getset_descriptor.__get__")) ∧ PySem.W.takesIn K (.builtin "object.__class__") = some true ∧
      PySem.W.mroIn K C (.type "object") = some true
  fl : ∀ c C f, G.T.cls c = some C → G.fl c f = true → NoAttr K C f
section
variable {X : Cx} {G : Gm} {W : XK} {H Z : Hp} {α : List Addr} {m : Mu} {v u : V} {a b d : D} {Q : VK}

theorem intsOf_eq : ∀ {ds : List D} {ns : List Int}, intsOf ds = some ns → ds = ns.map D.int
  | [], _, e => by cases e; rfl
  | .int i :: r, ns, e => by
    simp only [intsOf, Option.map_eq_some_iff] at e
    obtain ⟨ms, e, rfl⟩ := e
    rw [intsOf_eq e, List.map_cons]
  | .non :: _, _, e => by cases e
  | .bl _ :: _, _, e => by cases e
  | .str _ :: _, _, e => by cases e
  | .lst _ :: _, _, e => by cases e
  | .tup _ :: _, _, e => by cases e
  | .frl _ :: _, _, e => by cases e
  | .ins _ _ :: _, _, e => by cases e
  | .own _ :: _, _, e => by cases e
  | .ty _ :: _, _, e => by cases e
  | .cls _ :: _, _, e => by cases e
theorem blsOf_eq : ∀ {ds : List D} {ns : List Bool}, blsOf ds = some ns → ds = ns.map D.bl
  | [], _, e => by cases e; rfl
  | .bl i :: r, ns, e => by
    simp only [blsOf, Option.map_eq_some_iff] at e
    obtain ⟨ms, e, rfl⟩ := e
    rw [blsOf_eq e, List.map_cons]
  | .non :: _, _, e => by cases e
  | .int _ :: _, _, e => by cases e
  | .str _ :: _, _, e => by cases e
  | .lst _ :: _, _, e => by cases e
  | .tup _ :: _, _, e => by cases e
  | .frl _ :: _, _, e => by cases e
  | .ins _ _ :: _, _, e => by cases e
  | .own _ :: _, _, e => by cases e
  | .ty _ :: _, _, e => by cases e
  | .cls _ :: _, _, e => by cases e
theorem minL_spec : ∀ {ns : List Int} {i : Int}, minL ns = some i → i ∈ ns ∧ ∀ y ∈ ns, i ≤ y
  | [], _, e => by cases e
  | n :: r, i, e => by
    simp only [minL] at e
    cases h : minL r with
    | none =>
      rw [h] at e
      cases e
      refine ⟨List.mem_cons_self .., fun y hy => ?_⟩
      cases r with
      | nil => simp at hy; omega
      | cons k r => simp only [minL] at h; cases q : minL r <;> rw [q] at h <;> cases h
    | some j =>
      rw [h] at e
      cases e
      obtain ⟨h1, h2⟩ := minL_spec h
      split
      · exact ⟨List.mem_cons_of_mem _ h1, fun y hy => by
          rcases List.mem_cons.mp hy with rfl | hy
          · omega
          · exact h2 y hy⟩
      · exact ⟨List.mem_cons_self .., fun y hy => by
          rcases List.mem_cons.mp hy with rfl | hy
          · omega
          · have := h2 y hy; omega⟩
theorem maxL_spec : ∀ {ns : List Int} {i : Int}, maxL ns = some i → i ∈ ns ∧ ∀ y ∈ ns, y ≤ i
  | [], _, e => by cases e
  | n :: r, i, e => by
    simp only [maxL] at e
    cases h : maxL r with
    | none =>
      rw [h] at e
      cases e
      refine ⟨List.mem_cons_self .., fun y hy => ?_⟩
      cases r with
      | nil => simp at hy; omega
      | cons k r => simp only [maxL] at h; cases q : maxL r <;> rw [q] at h <;> cases h
    | some j =>
      rw [h] at e
      cases e
      obtain ⟨h1, h2⟩ := maxL_spec h
      split
      · exact ⟨List.mem_cons_of_mem _ h1, fun y hy => by
          rcases List.mem_cons.mp hy with rfl | hy
          · omega
          · exact h2 y hy⟩
      · exact ⟨List.mem_cons_self .., fun y hy => by
          rcases List.mem_cons.mp hy with rfl | hy
          · omega
          · have := h2 y hy; omega⟩
theorem typ_ok (g : GoodK G X.K) (R : Rep G.T H Z α m) (dv : Dn G.T Z α v a) {t : Value} (e : a.typ G.T m = some t) : TyX X.K H v t := by
  have insT : ∀ {p C dx : Addr} {c : Str} {vs : List (Str × V)}, G.T.cls c = some C → H p = some (.ins C dx vs) → TyX X.K H (.ref p) (.ref C) := fun {p C dx c vs} h1 h2 => by
    obtain ⟨h3, h4, h5, h6, h7⟩ := g.cls c C h1
    exact .base (.ins h2 h3 h4 h5 h6 h7)
  cases dv with
  | non => cases e; exact .base .non
  | bl b => cases e; exact .base (.bl b)
  | int i => cases e; exact .base (.int i)
  | str x => cases e; exact .base (.str x)
  | lst e1 e2 => cases e; exact .base (.lst (R.sub _ _ e1))
  | tup e1 e2 => cases e; exact .base (.tup (R.sub _ _ e1))
  | ins e1 e2 e3 =>
    simp only [D.typ, e1, Option.map_some, Option.some.injEq] at e
    subst e
    exact insT e1 (R.sub _ _ e2)
  | own e1 =>
    rename_i p k
    simp only [D.typ] at e
    split at e
    · rename_i q
      cases e
      obtain ⟨p', vs, f1, f2, f3⟩ := look_lst R q
      rw [e1] at f1; cases f1
      exact .base (.lst f2)
    · rename_i c fs q
      rw [Option.map_eq_some_iff] at e
      obtain ⟨C, e, rfl⟩ := e
      obtain ⟨C', dx, vs, h1, h2, h3⟩ := R.obj k p _ e1 q
      rw [e] at h1; cases h1
      exact insT e h2
    · cases e
  | _ => cases e
theorem kitD_ok (g : GoodK G X.K) (R : Rep G.T H Z α m) (dv : Dn G.T Z α v a) {t : Value} {r : Bool} (e : kitD G t a = some r) : ∃ w, ClsV v w ∧ PySem.W.kitOne X.K t w = some r := by
  unfold kitD at e
  split at e
  · cases dv
    exact ⟨_, .ty _, kit_ty e⟩
  · split at e
    · rename_i w hw
      refine ⟨w, ?_, g.isi _ _ _ e⟩
      cases dv with
      | ty n => cases hw; exact .ty n
      | cls e1 =>
        simp only [D.asCls, e1, Option.map_some, Option.some.injEq] at hw
        subst hw
        exact .own _
      | _ => cases hw
    · cases e
theorem clsVs : ∀ {vs : List V} {ds : List D}, Dns G.T Z α vs ds → (∀ d ∈ ds, ∃ w, d.asCls G.T = some w) → ∃ ws, Paired ClsV vs ws
  | _, _, .nil, _ => ⟨[], .nil⟩
  | _, _, .cons dv r, hc => by
    obtain ⟨ws, hw⟩ := clsVs r fun d hd => hc d (List.mem_cons_of_mem _ hd)
    obtain ⟨w, hw'⟩ := hc _ (List.mem_cons_self ..)
    cases dv with
    | ty n => exact ⟨_, .cons (.ty n) hw⟩
    | cls e1 => exact ⟨_, .cons (.own _) hw⟩
    | _ => cases hw'
theorem kitsD_ok (g : GoodK G X.K) (R : Rep G.T H Z α m) {t : Value} : ∀ {vs : List V} {ds : List D} {r : Bool}, Dns G.T Z α vs ds → kitsD G t ds = some r → (∀ d ∈ ds, ∃ w, d.asCls G.T = some w) → ∃ ws, Paired ClsV vs ws ∧ PySem.W.kitAny X.K t ws = some r
  | _, _, r, .nil, e, _ => by cases e; exact ⟨[], .nil, kitAny_nil⟩
  | _, _, r, .cons (v := v) (d := d) (ds := ds) dv rest, e, hc => by
    simp only [kitsD] at e
    split at e
    · rename_i h
      cases e
      obtain ⟨w, c, k⟩ := kitD_ok g R dv h
      obtain ⟨ws, hw⟩ := clsVs rest fun d hd => hc d (List.mem_cons_of_mem _ hd)
      exact ⟨w :: ws, .cons c hw, kitAny_cons k (fun z => by cases z) fun _ => rfl⟩
    · rename_i h
      obtain ⟨w, c, k⟩ := kitD_ok g R dv h
      obtain ⟨ws, hw, hk⟩ := kitsD_ok g R rest e fun d hd => hc d (List.mem_cons_of_mem _ hd)
      exact ⟨w :: ws, .cons c hw, kitAny_cons k (fun _ => hk) fun z => by cases z⟩
    · cases e
theorem isiD_ok (g : GoodK G X.K) (R : Rep G.T H Z α m) (dv : Dn G.T Z α v a) (du : Dn G.T Z α u b) {r : Bool} (e : isiD G m a b = some r) (q : Q (.bl r) H) : cA X (.builtin "isinstance") [v, u] H Q := by
  unfold isiD at e
  split at e
  · cases e
  · rename_i t ht
    have ty := typ_ok g R dv ht
    split at e
    · split at e
      · rename_i hc
        rw [List.all_eq_true] at hc
        cases du with
        | tup e1 e2 =>
          obtain ⟨ws, h1, h2⟩ := kitsD_ok g R e2 e fun d hd => Option.isSome_iff_exists.mp (hc d hd)
          exact ⟨_, call_isiT, v, _, _, t, ws, r, rfl, R.sub _ _ e1, h1, ty, h2, q⟩
      · cases e
    · obtain ⟨w, h1, h2⟩ := kitD_ok g R du e
      exact ⟨_, call_isi, v, u, t, w, r, rfl, h1, ty, h2, q⟩
theorem dns1 {vs : List V} (h : Dns G.T Z α vs [a]) : ∃ v, vs = [v] ∧ Dn G.T Z α v a := by
  cases h with
  | cons h r => cases r; exact ⟨_, rfl, h⟩
theorem dns2 {vs : List V} (h : Dns G.T Z α vs [a, b]) : ∃ v u, vs = [v, u] ∧ Dn G.T Z α v a ∧ Dn G.T Z α u b := by
  cases h with
  | cons h r => cases r with
    | cons h2 r => cases r; exact ⟨_, _, rfl, h, h2⟩
def Bn.id : Bn → Value
  | .len => .builtin "len" | .min => .builtin "min" | .max => .builtin "max" | .int => .type "int" | .tuple => .type "tuple"
  | .list => .type "list" | .listO => .type "list" | .isi => .builtin "isinstance" | .any => .builtin "any" | .all => .builtin "all"
theorem bltD_ok {b : Bn} {ds : List D} {vs : List V} (g : GoodK G X.K) (hc : X.calm = true) (R : Rep G.T H Z α m) (dv : Dns G.T Z α vs ds) (q : Post G.T W H Z α (bltD G b ds m) (KQ G.T Q)) : cA X b.id vs H Q := by
  have hK := g.eK
  unfold bltD at q
  split at q
  · -- len of a text
    obtain ⟨v, rfl, d1⟩ := dns1 dv
    cases d1
    split at q
    · rename_i h
      exact ⟨_, call_len, _, _, rfl, ⟨h, rfl⟩, q.now R _ (.int _)⟩
    · exact q.elim
  · obtain ⟨v, rfl, d1⟩ := dns1 dv
    split at q
    · rename_i xs h
      obtain ⟨p, ws, rfl, h1, h2⟩ := lookS_at R d1 h
      refine ⟨_, call_len_seq, p, ws, rfl, hK ▸ h1, ?_⟩
      rw [h2.len]
      exact q.now R _ (.int _)
    · exact q.elim
  · obtain ⟨v, u, rfl, d1, d2⟩ := dns2 dv
    cases d1; cases d2
    exact ⟨_, call_min2 hc, _, _, rfl, q.now R _ (.int _)⟩
  · obtain ⟨v, u, rfl, d1, d2⟩ := dns2 dv
    cases d1; cases d2
    exact ⟨_, call_max2 hc, _, _, rfl, q.now R _ (.int _)⟩
  · obtain ⟨v, rfl, d1⟩ := dns1 dv
    split at q
    · rename_i ns h
      rw [Option.bind_eq_some_iff] at h
      obtain ⟨xs, h, hn⟩ := h
      split at q
      · rename_i i hi
        obtain ⟨p, ws, rfl, h1, h2⟩ := look_at R d1 h
        rw [intsOf_eq hn] at h2
        rw [h2.ints] at h1
        obtain ⟨m1, m2⟩ := minL_spec hi
        refine ⟨_, cr_min hc, p, ns, rfl, hK ▸ h1, List.length_pos_of_mem m1, fun k hk hk2 => ?_⟩
        have e : k = i := Int.le_antisymm (hk2 i m1) (m2 k hk)
        rw [e]
        exact q.now R _ (.int _)
      · exact q.elim
    · exact q.elim
  · obtain ⟨v, rfl, d1⟩ := dns1 dv
    split at q
    · rename_i ns h
      rw [Option.bind_eq_some_iff] at h
      obtain ⟨xs, h, hn⟩ := h
      split at q
      · rename_i i hi
        obtain ⟨p, ws, rfl, h1, h2⟩ := look_at R d1 h
        rw [intsOf_eq hn] at h2
        rw [h2.ints] at h1
        obtain ⟨m1, m2⟩ := maxL_spec hi
        refine ⟨_, cr_max hc, p, ns, rfl, hK ▸ h1, List.length_pos_of_mem m1, fun k hk hk2 => ?_⟩
        have e : k = i := Int.le_antisymm (m2 k hk) (hk2 i m1)
        rw [e]
        exact q.now R _ (.int _)
      · exact q.elim
    · exact q.elim
  · obtain ⟨v, rfl, d1⟩ := dns1 dv
    cases d1
    exact ⟨_, call_int1, .inl ⟨_, rfl, q.now R _ (.int _)⟩⟩
  · obtain ⟨v, rfl, d1⟩ := dns1 dv
    cases d1
    exact ⟨_, call_int1, .inr ⟨_, rfl, q.now R _ (.int _)⟩⟩
  · obtain ⟨v, rfl, d1⟩ := dns1 dv
    cases d1 with
    | tup e1 e2 => exact ⟨_, call_tuple_of, _, _, rfl, .inr ⟨SqT.of (R.sub _ _ e1), q.now R _ (.tup e1 e2)⟩⟩
  · obtain ⟨v, rfl, d1⟩ := dns1 dv
    split at q
    · rename_i xs h
      obtain ⟨p, ws, rfl, h1, h2⟩ := look_at R d1 h
      exact ⟨_, call_tuple_of, p, ws, rfl, .inl ⟨hK ▸ h1, fun l hl => q.tup R h2 hl⟩⟩
    · exact q.elim
  · obtain ⟨v, rfl, d1⟩ := dns1 dv
    split at q
    · rename_i xs h
      obtain ⟨p, ws, rfl, h1, h2⟩ := lookS_at R d1 h
      exact ⟨_, call_list_of, p, ws, rfl, hK ▸ h1, fun l hl => q.lst R h2 hl⟩
    · exact q.elim
  · obtain ⟨v, rfl, d1⟩ := dns1 dv
    split at q
    · rename_i xs h
      obtain ⟨p, ws, rfl, h1, h2⟩ := lookS_at R d1 h
      exact ⟨_, call_list_of, p, ws, rfl, hK ▸ h1, fun l hl => q.lsto R h2 hl⟩
    · exact q.elim
  · obtain ⟨v, u, rfl, d1, d2⟩ := dns2 dv
    split at q
    · rename_i r h
      exact isiD_ok g R d1 d2 h (q.now R _ (.bl _))
    · exact q.elim
  · obtain ⟨v, rfl, d1⟩ := dns1 dv
    split at q
    · rename_i bs h
      rw [Option.bind_eq_some_iff] at h
      obtain ⟨xs, h, hn⟩ := h
      obtain ⟨p, ws, rfl, h1, h2⟩ := look_at R d1 h
      rw [blsOf_eq hn] at h2
      rw [h2.bools] at h1
      exact ⟨_, cr_any hc, p, bs, rfl, hK ▸ h1, q.now R _ (.bl _)⟩
    · exact q.elim
  · obtain ⟨v, rfl, d1⟩ := dns1 dv
    split at q
    · rename_i bs h
      rw [Option.bind_eq_some_iff] at h
      obtain ⟨xs, h, hn⟩ := h
      obtain ⟨p, ws, rfl, h1, h2⟩ := look_at R d1 h
      rw [blsOf_eq hn] at h2
      rw [h2.bools] at h1
      exact ⟨_, cr_all hc, p, bs, rfl, hK ▸ h1, q.now R _ (.bl _)⟩
    · exact q.elim
  · exact q.elim
def Mt.id : Mt → String
  | .append => "list.append" | .pop => "list.pop" | .extend => "list.extend"
/-- a list of the store is written -/
theorem Post.put {k : Nat} {p : Addr} {ws : List V} {xs : List D} {w : O} (q : Post G.T W H Z α (.ok d (m.set k (.lst xs))) (KQ G.T Q)) (R : Rep G.T H Z α m) (hk : α[k]? = some p) (hm : m[k]? = some w) (lw : w.live = true) (hx : Dns G.T Z α ws xs) (dv : Dn G.T Z α v d) : Q v (upd H p (.lst ws)) :=
  q _ _ _ (Fut.put R hk) (R.put hk hm lw ⟨ws, upd_same, hx⟩) v dv
theorem Dns.last {vs : List V} {ds : List D} (h : Dns G.T Z α vs ds) {d : D} (e : ds[ds.length - 1]? = some d) : ∃ v, vs[vs.length - 1]? = some v ∧ Dn G.T Z α v d := by
  rw [h.len]
  exact h.get e
theorem mtD_ok {f : Mt} {ds : List D} {vs : List V} (R : Rep G.T H Z α m) (dv : Dn G.T Z α v a) (du : Dns G.T Z α vs ds) (q : Post G.T W H Z α (mtD f a ds m) (KQ G.T Q)) : tyV X.K "list" v H ∧ mA X f.id v vs H Q := by
  unfold mtD at q
  split at q
  · rename_i k
    split at q
    · rename_i xs hx
      cases dv with
      | own e1 =>
        rename_i p
        obtain ⟨p', ws, f1, f2, f3⟩ := look_lst R hx
        rw [e1] at f1; cases f1
        refine ⟨.inl ⟨rfl, _, SqL.of f2⟩, ?_⟩
        split at q
        · obtain ⟨y, rfl, d1⟩ := dns1 du
          split at q
          · rename_i h
            refine ⟨_, mt_append, p, ws, y, rfl, rfl, f2, by rw [f3.len]; exact h, ?_⟩
            exact q.put R e1 hx rfl (f3.append (.cons d1 .nil)) .non
          · exact q.elim
        · obtain ⟨y, rfl, d1⟩ := dns1 du
          split at q
          · rename_i ys hy
            split at q
            · rename_i h
              obtain ⟨p2, zs, rfl, g1, g2⟩ := lookT_at R d1 hy
              refine ⟨_, mt_extend, p, p2, ws, zs, rfl, rfl, f2, g1, by rw [f3.len, g2.len]; exact h, ?_⟩
              exact q.put R e1 hx rfl (f3.append g2) .non
            · exact q.elim
          · exact q.elim
        · cases du
          split at q
          · rename_i y hy
            obtain ⟨z, h1, h2⟩ := f3.last hy
            refine ⟨_, mt_pop, p, ws, z, rfl, rfl, f2, h1, ?_⟩
            exact q.put R e1 hx rfl f3.dropLast h2
          · exact q.elim
        · exact q.elim
    · exact q.elim
  · exact q.elim
theorem Dns.atI {vs : List V} {ds : List D} (h : Dns G.T Z α vs ds) {i : Int} {d : D} (e : L2.atI ds i = some d) : ∃ v, L2.atI vs i = some v ∧ Dn G.T Z α v d := by
  unfold L2.atI at e ⊢
  rw [h.len]
  rw [Option.bind_eq_some_iff] at e
  obtain ⟨j, h1, h2⟩ := e
  obtain ⟨v, h3, h4⟩ := h.get h2
  exact ⟨v, by rw [h1]; exact h3, h4⟩
theorem idxD_ok (hK : G.T.K = X.K) (R : Rep G.T H Z α m) (dv : Dn G.T Z α v a) (du : Dn G.T Z α u b) (e : idxD m a b = some d) (q : Post G.T W H Z α (.ok d m) (KQ G.T Q)) : iA X v u H Q := by
  unfold idxD at e
  split at e
  · rename_i i
    split at e
    · rename_i xs hx
      cases du
      obtain ⟨p, ws, rfl, h1, h2⟩ := lookS_at R dv hx
      obtain ⟨w, h3, h4⟩ := h2.atI e
      rcases h1 with h1 | h1
      · exact ⟨_, ix_list, p, ws, i, w, rfl, rfl, hK ▸ h1, h3, q.now R _ h4⟩
      · exact ⟨_, ix_tup, p, ws, i, w, rfl, rfl, hK ▸ h1, h3, q.now R _ h4⟩
    · cases e
  · cases e
def sA (X : Cx) : V → Option Int → Option Int → Hp → VK → Prop := fun x lo hi H Q => ∃ r, SlR X r ∧ r x lo hi H Q
theorem sl_all {X : Cx} : SlR X (sA X) := fun pins s σ H x v vl vu lo hi sl Q I r i p1 p2 ⟨_, h, q⟩ => h pins s σ H x v vl vu lo hi sl Q I r i p1 p2 q
theorem Dns.cut {vs : List V} {ds : List D} (h : Dns G.T Z α vs ds) (lo hi : Option Int) : Dns G.T Z α (cutV vs lo hi) (cutD ds lo hi) := by
  unfold cutV cutD
  rw [h.len]
  exact (h.drop _).take _
theorem slcD_ok (hK : G.T.K = X.K) (R : Rep G.T H Z α m) (dv : Dn G.T Z α v a) {lo hi : Option Int} (e : slcD m a lo hi = some d) (q : Post G.T W H Z α (.ok d m) (KQ G.T Q)) : sA X v lo hi H Q := by
  unfold slcD at e
  split at e
  · cases e
    cases dv with
    | tup e1 e2 =>
      rename_i p ws
      refine ⟨_, sl_tupA, p, ws, rfl, SqT.of (R.sub _ _ e1), fun z => ?_, fun _ r hr => q.tup R (e2.cut lo hi) hr⟩
      have ec : ∀ xs : List D, xs.length = ws.length → cutD xs lo hi = xs := fun xs hx => by
        unfold cutD
        rw [hx, z.1, z.2, List.drop_zero, Nat.sub_zero, ← hx, List.take_length]
      rw [ec _ e2.len.symm] at q
      exact q.now R _ (.tup e1 e2)
  · rw [Option.map_eq_some_iff] at e
    obtain ⟨xs, hx, rfl⟩ := e
    obtain ⟨p, ws, rfl, h1, h2⟩ := look_at R dv hx
    exact ⟨_, sl_list, p, ws, rfl, hK ▸ h1, fun r hr => q.lst R (h2.cut lo hi) hr⟩
end
end Pm

set_option maxRecDepth 100000
set_option maxHeartbeats 4000000
namespace Pm
open PySem L2
def plainO : Expr → Bool
  | .Call (.Name _ _) [] [] _ => false
  | _ => true
theorem attrBase_plain {o : Expr} {f : Str} {env : PySem.Env} (h : plainO o = true) : attributeBase o f env (eval o env) = eval o env := by
  cases o <;> first | rfl | skip
  rename_i fn es kw p
  cases fn <;> first | rfl | skip
  cases es <;> first | rfl | skip
  cases kw <;> first | rfl | cases h
theorem plainIx {b : Expr} (h : ∀ a c d e, b ≠ .Slice a c d e) : PlainIx b := by
  intro o i
  cases b <;> first | rfl | exact absurd rfl (h _ _ _ _)
def noStar : Expr → Bool
  | .Starred _ _ => false
  | _ => true
theorem star_cons {e : Expr} {es : List Expr} {env : PySem.Env} (h : noStar e = true) : starEach (e :: es) env = (false, eval e env) :: starEach es env := by
  cases e <;> first | rfl | cases h
theorem star_all : ∀ {es : List Expr} {env : PySem.Env} {pos : Pos}, es.all noStar = true → (backTo pos (starEach es env)).any (·.1) = false
  | [], _, _, _ => rfl
  | e :: es, env, pos, h => by
    rw [List.all_cons, Bool.and_eq_true] at h
    rw [star_cons h.1]
    exact star_all h.2
theorem noSet {iter : Expr} {env : PySem.Env} (h : ∀ a b c, iter ≠ .Set a b c) : ∀ x, foldedSetIterable iter env x = pure x := by
  intro x
  cases iter <;> first | rfl | exact absurd rfl (h _ _ _)
def isBO : Expr → Bool
  | .BoolOp .. => true
  | .UnaryOp .Not _ _ => true
  | .Compare .. => true
  | .IfExp .. => true
  | .NamedExpr .. => true
  | _ => false
theorem tru_he {a : Expr} {env : PySem.Env} (h : isBO a = false) : ∀ whole, isTrue a env whole = (do let v ← whole; standAt a.pos; holding [v] (truthy v)) := by
  intro w
  cases a <;> first | rfl | cases h | (rename_i op _ _; cases op <;> first | rfl | cases h)
theorem noMark {b : Expr} {op : CmpOp} (h : ∀ a c d, b ≠ .Set a c d) : behindInMarks op b = false := by
  cases b <;> first | rfl | exact absurd rfl (h _ _ _)
theorem sw_none {e : Expr} {tg : Option Expr} {l : Nat} {env : PySem.Env} (h : ∀ a b c d, e ≠ .ListComp a b c d) (h2 : ∀ a b c d, e ≠ .SetComp a b c d) (h3 : ∀ a b c d f, e ≠ .DictComp a b c d f) : swapsWith e tg l env = pure false := by
  cases e <;> first | rfl | exact absurd rfl (h _ _ _ _) | exact absurd rfl (h2 _ _ _ _) | exact absurd rfl (h3 _ _ _ _ _)
theorem star_few : ∀ {es : List Expr} {env : PySem.Env} {pos : Pos}, es.all noStar = true → (backTo pos (starEach es env)).all (fun x => !x.1) = true
  | [], _, _, _ => rfl
  | e :: es, env, pos, h => by
    rw [List.all_cons, Bool.and_eq_true] at h
    rw [star_cons h.1]
    exact star_few h.2
theorem meth_few {es : List Expr} {env : PySem.Env} {pos : Pos} (hs : es.all noStar = true) (hl : es.length < 30) : methodCallForm (es.length + ([] : List Keyword).length) (backTo pos (starEach es env)) (backToKw pos (keywordEach [] env)) = true := by
  unfold methodCallForm
  rw [star_few hs]
  show (true && true && decide (es.length + 0 + 0 < 30)) = true
  simpa using hl
theorem meth_ht {o : Expr} {m : Str} {apos pos : Pos} {es : List Expr} {env : PySem.Env} (h : plainO o = true) (hs : es.all noStar = true) (hl : es.length < 30) (hp : (apos.endLine == pos.line) = true) : ∃ pl : Sem Bool, eval (.Call (.Attribute o m apos) es [] pos) env = (do
      let ov ← eval o env
      standAt apos.atName
      let (f, first) ← holding [ov] (getMethod ov m pl)
      callWith pos f first (backTo pos (starEach es env)) (backToKw pos (keywordEach [] env))) := by
  have e1 : eval (.Call (.Attribute o m apos) es [] pos) env = (do
      let ov ← attributeBase o m env (eval o env)
      standAt apos.atName
      methodCall o m apos pos env ov (es.length + ([] : List Keyword).length) (backTo pos (starEach es env)) (backToKw pos (keywordEach [] env))) := rfl
  rw [attrBase_plain h] at e1
  unfold methodCall at e1
  rw [meth_few hs hl] at e1
  unfold calleeOf methodCallPos at e1
  rw [hp] at e1
  exact ⟨_, e1⟩
end Pm

set_option maxRecDepth 100000
set_option maxHeartbeats 200000
/-! Defs that are called where no text of an object is being written: their promise, their calls, the law's end -/
namespace Pm
open PySem L2

/-- a def's promise, where no repr runs -/
structure FnG (P : Program) (w : World) (K : PySem.W.Frag) (mg : Str → Option Value) (base : Heap) (k : Nat) (f : Addr) (fd : FuncData) (ps : List Str) (sp : Sp) : Prop where
  lenG : ∀ vs H Q E, sp vs H Q E → vs.length = ps.length
  runG : ∀ (A : Around) (outer : List PySem.Env) (s : Shared) (H : Hp) (args : Args) (us : List Value) (vs : List V) (Q : VK) (E : XK), A.guards = some [] → Room k A → Env0 P w K mg base A outer s H → BindsTo s fd args (ps.zip us) → Vals vs us → sp vs H Q E →
    codeAny (model P w) A (.call (.ref f) args) (CR (L2.CX P w) outer P w H s Q E) s
theorem FnG.ofOk {P : Program} {w : World} {K : PySem.W.Frag} {mg : Str → Option Value} {base : Heap} {k : Nat} {f : Addr} {fd : FuncData} {ps : List Str} {sp : Sp} (F : FnOk P w K mg base (L2.CX P w) k f fd ps sp) : FnG P w K mg base k f fd ps sp :=
  ⟨F.len, fun A outer s H args us vs Q E _ => F.run A outer s H args us vs Q E⟩
/-- the codes between are no guards -/
theorem gd_make {A : Around} {C : Addr} {us : List Value} {kw : List (Str × Value)} (h : A.guards = some []) : (A.under (.builtin "type.__call__" ⟨.ref C :: us, kw⟩)).guards = some [] := by
  show pushGuards (Code.guards (.builtin "type.__call__" ⟨.ref C :: us, kw⟩)) A.guards = some []
  rw [h]
  rfl
theorem gd_deeper {A : Around} {env : PySem.Env} (h : A.guards = some []) : (A.deeper env).guards = some [] := h
section
variable {X : Cx} {k : Nat} {f C g : Addr} {fd : FuncData} {ps : List Str} {sp : Sp} {E : XK} {x m : Str} {p pos apos : Pos} {e o : Expr} {es : List Expr} {ta : TE} {t : TA}
theorem len_all {vs : List V} {us : List Value} {H : Hp} {Q : VK} (F : FnG X.prog X.w X.K X.mg X.base k f fd ps sp) (r : Vals vs us) (h : sp vs H Q E) : (us ++ []).length = ps.length := by
  rw [List.append_nil, ← r.length]; exact F.lenG _ _ _ _ h
theorem run_g {pins : List (Addr × Obj)} {σ : L2.St} {H : Hp} {s : Shared} {Q : VK} {us : List Value} {vs : List V} (F : FnG X.prog X.w X.K X.mg X.base k f fd ps sp) (gd : X.A.guards = some []) (hr : Room k X.A) (hb : Binds X.K fd ps []) (hx : Passes (L2.CX X.prog X.w) X E)
    (I : Inv X pins σ H s) (r : Vals vs us) (h : sp vs H Q E) : wpAny (model X.prog X.w) X.A (call (.ref f) us) (EP X pins σ Q) X.xe s := by
  have b := hb s us I.kIn (len_all F r h)
  rw [List.append_nil] at b
  refine wpAny_call (codeAny_mono (F.runG X.A X.stack s H ⟨us, []⟩ us vs Q E gd hr I.env0 b r h) fun fin s2 q => ?_)
  match fin, q with
  | .error er, q => exact hx pins σ H s er s2 I q
  | .ok (.ret u), q => exact I.after q
theorem pe_g (F : FnG X.prog X.w X.K X.mg X.base k f fd ps sp) (gd : X.A.guards = some []) (hr : Room k X.A) (hg : Gl X x) (hm : X.mg x = some (.ref f)) (hk : PySem.W.keepIn X.K (.ref f) = true) (hb : Binds X.K fd ps []) (hx : Passes (L2.CX X.prog X.w) X E) (ha : PA X (e :: es) t)
    (hdb : (x == ("__debug__" : Str)) = false) (he : starEach (e :: es) X.env = (false, eval e X.env) :: starEach es X.env) (hpl : (backTo pos (starEach es X.env)).any (·.1) = false) : PE X (.Call (.Name x p) (e :: es) [] pos) (fun σ H Q => t σ H fun vs H1 => sp vs H1 Q E) :=
  ⟨fun pins s σ H Q I h => wpAny_Call_Name_kw (ld_glob I hg hm (PySem.W.callWith_K (h₀ := X.base) I.ok.mod.kin hk (thn (ha.run pos pins s σ H _ I h) fun us s1 ⟨vs, H1, I1, r, q⟩ => ⟨I1.kIn, run_g F gd hr hb hx I1 r q⟩) he hpl) hdb)⟩
theorem pe_g0 (F : FnG X.prog X.w X.K X.mg X.base k f fd ps sp) (gd : X.A.guards = some []) (hr : Room k X.A) (hg : Gl X x) (hm : X.mg x = some (.ref f)) (hk : PySem.W.keepIn X.K (.ref f) = true) (hb : Binds X.K fd ps []) (hx : Passes (L2.CX X.prog X.w) X E)
    (hdb : (x == ("__debug__" : Str)) = false) : PE X (.Call (.Name x p) [] [] pos) (fun σ H Q => sp [] H Q E) :=
  ⟨fun pins s σ H Q I h => wpAny_Call_Name_kw (ld_glob I hg hm (PySem.W.callWith_K0 I.kIn hk (run_g (us := []) F gd hr hb hx I .nil h)) hdb)⟩
/-- a new instance -/
theorem run_new {pins : List (Addr × Obj)} {σ : L2.St} {H : Hp} {s : Shared} {Q : VK} {us : List Value} {vs : List V} (M : Mk X.K C f) (F : FnG X.prog X.w X.K X.mg X.base k f fd ps sp) (gd : X.A.guards = some []) (hr : Room (k + 1) X.A) (hb : Binds X.K fd ps []) (hx : Passes (L2.CX X.prog X.w) X E)
    (I : Inv X pins σ H s) (r : Vals vs us) (h : ∀ x dx, H x = none → H dx = none → dx ≠ x → sp (.ref x :: vs) (upd (upd H dx (.own x)) x (.ins C dx [])) (fun v H2 => v = .non ∧ Q (.ref x) H2) E) :
    wpAny (model X.prog X.w) X.A (call (.ref C) us) (EP X pins σ Q) X.xe s := by
  let n := s.heap.objs.size
  have I2 := Inv.made (C := C) I
  have q := h (n + 1) n (I.hok.fresh (Nat.le_succ _)) (I.hok.fresh (Nat.le_refl _)) (Nat.ne_of_lt (Nat.lt_succ_self _))
  have r2 : Vals (V.ref (n + 1) :: vs) (Value.ref (n + 1) :: us) := .cons rfl r
  have b := hb _ (Value.ref (n + 1) :: us) I2.kIn (len_all F r2 q)
  rw [List.append_nil] at b
  refine wpAny_call (make_map (f := f) I.kIn M.makes M.init (beq_iff_eq.mp M.fn) (codeAny_mono (F.runG _ X.stack _ _ ⟨Value.ref (n + 1) :: us, []⟩ _ _ _ E (gd_make gd) (hr.make C us []) (I2.env0.make C us []) b r2 q) fun fin s2 q2 => ?_))
  match fin, q2 with
  | .error er, q2 => exact hx pins σ _ _ er s2 I2 q2
  | .ok (.ret u), q2 =>
    obtain ⟨v, H2, I3, rv, rfl, q3⟩ := I2.after q2
    exact ⟨rv, ⟨V.ref (n + 1), H2, I3, rfl, q3⟩⟩
theorem pe_new (M : Mk X.K C f) (F : FnG X.prog X.w X.K X.mg X.base k f fd ps sp) (gd : X.A.guards = some []) (hr : Room (k + 1) X.A) (hg : Gl X x) (hm : X.mg x = some (.ref C)) (hb : Binds X.K fd ps []) (hx : Passes (L2.CX X.prog X.w) X E) (ha : PA X (e :: es) t)
    (hdb : (x == ("__debug__" : Str)) = false) (he : starEach (e :: es) X.env = (false, eval e X.env) :: starEach es X.env) (hpl : (backTo pos (starEach es X.env)).any (·.1) = false) :
    PE X (.Call (.Name x p) (e :: es) [] pos) (fun σ H Q => t σ H fun vs H1 => ∀ x dx, H1 x = none → H1 dx = none → dx ≠ x → sp (.ref x :: vs) (upd (upd H1 dx (.own x)) x (.ins C dx [])) (fun v H2 => v = .non ∧ Q (.ref x) H2) E) :=
  ⟨fun pins s σ H Q I h => wpAny_Call_Name_kw (ld_glob I hg hm (PySem.W.callWith_K (h₀ := X.base) I.ok.mod.kin M.kp (thn (ha.run pos pins s σ H _ I h) fun us s1 ⟨vs, H1, I1, r, q⟩ => ⟨I1.kIn, run_new M F gd hr hb hx I1 r q⟩) he hpl) hdb)⟩
theorem pe_new0 (M : Mk X.K C f) (F : FnG X.prog X.w X.K X.mg X.base k f fd ps sp) (gd : X.A.guards = some []) (hr : Room (k + 1) X.A) (hg : Gl X x) (hm : X.mg x = some (.ref C)) (hb : Binds X.K fd ps []) (hx : Passes (L2.CX X.prog X.w) X E)
    (hdb : (x == ("__debug__" : Str)) = false) : PE X (.Call (.Name x p) [] [] pos) (fun σ H Q => ∀ x dx, H x = none → H dx = none → dx ≠ x → sp [.ref x] (upd (upd H dx (.own x)) x (.ins C dx [])) (fun v H2 => v = .non ∧ Q (.ref x) H2) E) :=
  ⟨fun pins s σ H Q I h => wpAny_Call_Name_kw (ld_glob I hg hm (PySem.W.callWith_K0 I.kIn M.kp (run_new (us := []) M F gd hr hb hx I .nil h)) hdb)⟩
/-- a property -/
theorem get_g {pins : List (Addr × Obj)} {σ : L2.St} {H : Hp} {s : Shared} {Q : VK} {b : Bool} {E' : Value → Shared → Prop} {a dx pr : Addr} {fs : List (Str × V)} {nm : Str} (I : Inv X pins σ H s) (ea : H a = some (.ins C dx fs)) (c : Cls X.K C) (hp : PropOf X.K C nm pr g)
    (F : FnG X.prog X.w X.K X.mg X.base k g fd ps sp) (gd : X.A.guards = some []) (hr : Room (k + 1) X.A) (hb : Binds X.K fd ps []) (hx : Passes (L2.CX X.prog X.w) X.nox E) (h : sp [.ref a] H Q E) : wpAny (model X.prog X.w) X.A (getAttr (.ref a) nm b) (EP X pins σ Q) E' s := by
  obtain ⟨mA, O, _⟩ := ins_get I.hok ea
  obtain ⟨od, J, _⟩ := O.look
  obtain ⟨rest, hrec⟩ := hp.rec_
  let s1 : Shared := { s with toks := s.toks + 1 }
  have I1 : Inv X pins σ H s1 := I.tok (s.toks + 1)
  have r1 : Vals [V.ref a] [Value.ref a] := .cons rfl .nil
  have b1 := hb s1 [.ref a] I1.kIn (len_all F r1 h)
  rw [List.append_nil] at b1
  have hc : (PySem.W.clsIn X.K C).isSome = true := by obtain ⟨cd, e, _⟩ := PySem.W.any_some c.hd; rw [e]; rfl
  refine PySem.W.get_bind I.kIn J (PySem.W.plainGet_of (c.get nm)).1 (PySem.W.findObj_data hc hp.at_ hp.get hp.tak) (PySem.W.plainGet_of (c.get nm)).2 (wpAny_call (PySem.W.prop_get (s := s1) I.kIn hrec (codeAny_mono (F.runG X.A.in1 X.stack s1 H ⟨[.ref a], []⟩ [.ref a] [.ref a] Q E gd hr.in1 I1.env0.in1 b1 r1 h) fun fin s2 q => ?_)))
  match fin, q with
  | .error er, q => exact (hx pins σ H s1 er s2 (I1.wish _) q).elim
  | .ok (.ret u), q =>
    obtain ⟨v, H2, I3, rv, q3⟩ := I1.after q
    show wpAny _ _ (handedOut u) _ _ _
    rw [PySem.W.handedOut_of (handed_of rv)]
    exact wpAny_pure ⟨v, H2, I3, rv, q3⟩
end
section
variable {P : Program} {w : World} {K : PySem.W.Frag} {mg : Str → Option Value} {base : Heap} {k : Nat} {f : Addr} {ps N : List Str} {sp : Sp}
/-- a def keeps its promise -/
theorem okG {x qual : Str} {st : Stmt} {fd : FuncData} (F : Fun K x qual st f fd) (S : FnScope N ps (defScope st)) (len : ∀ vs H Q E, sp vs H Q E → vs.length = ps.length)
    (hbody : ∀ (cdv : Value) (A : Around) (outer : List PySem.Env) (s : Shared) (H : Hp) (vs : List V) (Q : VK) (E : XK), (A.deeper (PyProof.Rows.envOfC qual (defScope st) s.heap.objs.size f cdv)).guards = some [] → Room k (A.deeper (PyProof.Rows.envOfC qual (defScope st) s.heap.objs.size f cdv)) → sp vs H Q E →
      ∃ t, PSs (cxOf (L2.CX P w) P w K mg base N qual (defScope st) f cdv A outer s H E) (defBody st) t ∧ t { nx := fun _ H' => Q .non H', rt := Q } (L2.start N vs) H) : FnG P w K mg base (k + 1) f fd ps sp := by
  obtain ⟨oc, od, kV, doc, pm, an, cdv, ct, osl, rfl, lk, hcd⟩ := F.ex
  refine ⟨len, fun A outer s H args us vs Q E gd hr e0 hb r q => ?_⟩
  have KX : K.In s.heap := e0.mod.kin.keeps fun b o e => (e0.bs b o e).1
  have nl : s.heap.NoLimit := e0.mod.nolimit.keeps fun b o e => (e0.bs b o e).1
  refine codeAny_call_function hr.depth (KX _ _ lk) rfl S.co S.gen rfl (PySem.W.codeRec_of KX hcd) (hb _ _ _ _ ?_)
  refine wpAny_newFunctionEnv_cells S.kind (fun y hy => ?_) fun env he s1 z => ?_
  · obtain ⟨n, v⟩ := y
    exact (S.par n (List.of_mem_zip hy).1).elim .inl fun c => .inr ⟨c, PySem.W.cellsFrom_some _ _ _ (.inl c)⟩
  · subst he
    obtain ⟨t, ht, q2⟩ := hbody cdv A outer s H vs Q E gd (hr.deeper _) q
    have I := inv_start (E := E) (CX := L2.CX P w) (cd := cdv) (qual := qual) S hr.hd e0 (len _ _ _ _ q) r z
    refine ⟨nl.keeps z.toInCall.keep, codeAny_func (wpAny_mono (ht.run [] s1 _ H _ I q2) (fun fl s2 h2 => ?_) fun _ _ h2 => h2)⟩
    cases fl with
    | ret u => obtain ⟨v, σ2, H2, J, rv, q3⟩ := h2; exact ⟨v, H2, J.os, J.bare, J.base, J.hok, rv, q3⟩
    | next => obtain ⟨σ2, H2, J, q3⟩ := h2; exact ⟨V.non, H2, J.os, J.bare, J.base, J.hok, rfl, q3⟩
    | brk => obtain ⟨_, _, _, q3⟩ := h2; exact q3.elim
    | cont => obtain ⟨_, _, _, q3⟩ := h2; exact q3.elim
end
end Pm

set_option maxRecDepth 100000
set_option maxHeartbeats 4000000
/-! From the text to programs without names; where a piece stands -/
namespace Pm
open PySem L2

/-- what is told beside the text: the own classes; the places of lists that change; names whose lists are frozen ahead of a statement -/
structure Tp where
  cls : List Str
  own : List (Nat × Nat)
  frz : List (Nat × List Nat)
  /-- further expressions, things to go over: a word, and what is reckoned first -/
  hk : Scope → Expr → Option (Str × List Expr) := fun _ _ => none
  hi : Scope → Expr → Expr → Option (Str × List Expr) := fun _ _ _ => none
def ixOf (N : List Str) (x : Str) : Option Nat := N.findIdx? (fun y => decide (y = x))
theorem ixOf_get {N : List Str} {x : Str} {i : Nat} (h : ixOf N x = some i) : N[i]? = some x := by
  unfold ixOf at h
  rw [List.findIdx?_eq_some_iff_getElem] at h
  obtain ⟨hi, h1, _⟩ := h
  rw [List.getElem?_eq_getElem hi, of_decide_eq_true h1]
def tyNames : List (Str × String) := [("tuple", "tuple"), ("list", "list"), ("int", "int"), ("str", "str"), ("bool", "bool")]
def bnOf (x : Str) (own : Bool) : Option Bn :=
  if x = "len" then some .len else if x = "min" then some .min else if x = "max" then some .max else if x = "int" then some .int else if x = "tuple" then some .tuple
  else if x = "list" then some (if own then .listO else .list) else if x = "isinstance" then some .isi else if x = "any" then some .any else if x = "all" then some .all else none
def mtOf (x : Str) : Option Mt := if x = "append" then some .append else if x = "pop" then some .pop else if x = "extend" then some .extend else none
def isVis : Option NameKind → Bool
  | some .local => true | some .cell => true | some .free => true
  | _ => false
def isLoc : Option NameKind → Bool
  | some .local => true | some .cell => true
  | _ => false
def isGl : Option NameKind → Bool
  | some .globalImplicit => true
  | _ => false
def okName (x : Str) : Bool := !(x == ("__debug__" : Str)) && !(x == ("__classdict__" : Str)) && decide (x ≠ "__name__")
/-- a comprehension's own names in the list of names -/
def ownOf (N : List Str) (scope : Scope) : List (Str × Nat) := scope.names.filterMap fun y => if isLoc (some y.2) then (ixOf N y.1).map fun i => (y.1, i) else none
/-- a row of and, or -/
def andE : List E → Option E
  | [] => none
  | [e] => some e
  | e :: es => (andE es).map (.and e)
def orE : List E → Option E
  | [] => none
  | [e] => some e
  | e :: es => (orE es).map (.or e)
mutual
def slotsG : Gt → List Nat
  | .nm i => [i]
  | .tup gs => slotsGs gs
  | _ => []
def slotsGs : List Gt → List Nat
  | [] => []
  | g :: gs => slotsG g ++ slotsGs gs
end
/-- zip(a, b) as the one argument -/
def lzpA (es : List Expr) : Option (Str × Expr × Expr) := match es with
  | [.Call (.Name g _) [a, b] [] _] => if g = "zip" then some (g, a, b) else none
  | _ => none
section
variable (tp : Tp) (N : List Str)
mutual
def trE (n : Nat) (sc : Scope) (e : Expr) : Option E :=
  match n with
  | 0 => none
  | n + 1 => match tp.hk sc e with
    | some (t, es) => (trEs n sc es).map (.ext t)
    | none => match e with
    | .Name x _ => if okName x then
        if isVis (sc.names.lookup x) then (ixOf N x).map .var
        else if isGl (sc.names.lookup x) then
          match tyNames.lookup x with
          | some t => some (.con (.ty t))
          | none => if tp.cls.contains x then some (.con (.cls x)) else none
        else none
      else none
    | .Constant (.int i) _ _ => some (.con (.int i))
    | .Constant (.bool b) _ _ => some (.con (.bl b))
    | .Constant .none _ _ => some (.con .non)
    | .Constant (.str s) _ _ => some (.con (.str s))
    | .Tuple es _ _ => (trEs n sc es).map .tup
    | .List es pos => (trEs n sc es).map (if tp.own.contains (pos.line, pos.col) then .lsto else .lst)
    | .BinOp a op b _ => match trE n sc a, trE n sc b with
      | some x, some y => some (.bin op x y)
      | _, _ => none
    | .UnaryOp .USub a _ => (trE n sc a).map .neg
    | .UnaryOp .Not a _ => (trE n sc a).map .not
    | .Compare a [op] [b] _ => match b with
      | .Set .. => none
      | _ => match trE n sc a, trE n sc b with
        | some x, some y => some (.cmp op x y)
        | _, _ => none
    | .Compare a [o1, o2] [b, c] _ => match c with
      | .Set .. => none
      | _ => match trE n sc a, trE n sc b, trE n sc c with
        | some x, some y, some z => some (.chn o1 o2 x y z)
        | _, _, _ => none
    | .BoolOp .And es _ => (trEs n sc es).bind andE
    | .BoolOp .Or es _ => (trEs n sc es).bind orE
    | .IfExp t a b _ => match trT n sc t, trE n sc a, trE n sc b with
      | some x, some y, some z => some (.ife x y z)
      | _, _, _ => none
    | .Call (.Name f _) es [] pos => if okName f && isGl (sc.names.lookup f) && es.all noStar then
        match lzpA es with
        | some (g, a, b) => if f = "list" ∧ isGl (sc.names.lookup g) = true ∧ noStar a = true ∧ noStar b = true then (match trE n sc a, trE n sc b with
          | some x, some y => some (.lzp x y)
          | _, _ => none) else none
        | none => match trEs n sc es with
        | none => none
        | some xs => if tp.cls.contains f then some (.mk f xs)
          else if f = "repr" then (match es, xs with
            | [_], [x] => some (.rpr x)
            | _, _ => none)
          else match bnOf f (tp.own.contains (pos.line, pos.col)), es with
            | some b, _ :: _ => some (.blt b xs)
            | some _, [] => none
            | none, _ => some (.fn f xs)
      else if okName f && isVis (sc.names.lookup f) && es.all noStar then
        match es, ixOf N f, trEs n sc es with
        | _ :: _, some i, some xs => some (.cal (.var i) xs)
        | _, _, _ => none
      else none
    | .FormattedValue e (-1) none _ => (trE n sc e).map .fmt
    | .JoinedStr es _ => match es with
      | _ :: _ :: _ => if es.all noStar then (trEs n sc es).map .jst else none
      | _ => none
    | .Call (.Attribute o m apos) es [] pos => if plainO o && es.all noStar && decide (es.length < 29) && (apos.endLine == pos.line) then
        match trE n sc o, trEs n sc es with
        | some x, some xs => match mtOf m with
          | some f => some (.bm x f xs)
          | none => some (.met x m xs)
        | _, _ => none
      else none
    | .Attribute o f _ => if plainO o then (trE n sc o).map (.att · f) else none
    | .Subscript a (.Slice lo hi none _) _ => match trE n sc a, trO n sc lo, trO n sc hi with
      | some x, some l, some h => some (.slc x l h)
      | _, _, _ => none
    | .Subscript a b _ => match b with
      | .Slice .. => none
      | _ => match trE n sc a, trE n sc b with
        | some x, some y => some (.idx x y)
        | _, _ => none
    | .ListComp elt [⟨tg, iter, ifs, 0⟩] scope pos => if blkC N sc scope (ownOf N scope) then
        match trI n sc tg iter, trG n scope tg, trIfs n scope ifs, trE n scope elt with
        | some it, some g, some c, some x => if (slotsG g).all (((ownOf N scope).map (·.2)).contains ·) then some (.lc (tp.own.contains (pos.line, pos.col)) g it c x ((ownOf N scope).map (·.2))) else none
        | _, _, _, _ => none
      else none
    | _ => none
def trEs (n : Nat) (sc : Scope) (es : List Expr) : Option (List E) :=
  match n with
  | 0 => none
  | n + 1 => match es with
    | [] => some []
    | e :: r => if noStar e then match trE n sc e, trEs n sc r with
      | some x, some xs => some (x :: xs)
      | _, _ => none
      else none
def trO (n : Nat) (sc : Scope) (e : Option Expr) : Option (Option E) :=
  match n with
  | 0 => none
  | n + 1 => match e with
    | none => some none
    | some e => (trE n sc e).map some
/-- a test -/
def trT (n : Nat) (sc : Scope) (e : Expr) : Option E :=
  match n with
  | 0 => none
  | n + 1 => match e with
    | .BoolOp .And es _ => (trTs n sc es).bind andE
    | .BoolOp .Or es _ => (trTs n sc es).bind orE
    | .UnaryOp .Not a _ => (trT n sc a).map .not
    | .Compare a [op] [b] _ => match b with
      | .Set .. => none
      | _ => match trE n sc a, trE n sc b with
        | some x, some y => some (.cmp op x y)
        | _, _ => none
    | .Compare a [o1, o2] [b, c] _ => match c with
      | .Set .. => none
      | _ => match trE n sc a, trE n sc b, trE n sc c with
        | some x, some y, some z => some (.chn o1 o2 x y z)
        | _, _, _ => none
    | e => if isBO e then none else (trE n sc e).map .tru
def trTs (n : Nat) (sc : Scope) (es : List Expr) : Option (List E) :=
  match n with
  | 0 => none
  | n + 1 => match es with
    | [] => some []
    | e :: r => match trT n sc e, trTs n sc r with
      | some x, some xs => some (x :: xs)
      | _, _ => none
def trIfs (n : Nat) (sc : Scope) (es : List Expr) : Option (Option E) :=
  match n with
  | 0 => none
  | n + 1 => match es with
    | [] => some none
    | [e] => (trT n sc e).map some
    | _ => none
def trI (n : Nat) (sc : Scope) (tg it : Expr) : Option It :=
  match n with
  | 0 => none
  | n + 1 => match tp.hi sc tg it with
    | some (t, es) => (trEs n sc es).map (.ext t)
    | none => match it with
    | .Set .. => none
    | .Call (.Name f _) es [] _ => if okName f && isGl (sc.names.lookup f) && es.all noStar then
        if f = "range" then (match es with
          | [_] => (trEs n sc es).map .rng
          | [_, _] => (trEs n sc es).map .rng
          | _ => none)
        else if f = "zip" then (match tg, es with
          | .Tuple .., [a, b] => match trE n sc a, trE n sc b with
            | some x, some y => some (.zip x y)
            | _, _ => none
          | _, _ => none)
        else if f = "enumerate" then (match tg, es with
          | .Tuple .., [a] => (trE n sc a).map .enu
          | _, _ => none)
        else (trE n sc it).map .val
      else none
    | it => (trE n sc it).map .val
def trG (n : Nat) (sc : Scope) (e : Expr) : Option Gt :=
  match n with
  | 0 => none
  | n + 1 => match e with
    | .Name x _ => if isLoc (sc.names.lookup x) then (ixOf N x).map .nm else none
    | .Tuple es _ _ => (trGs n sc es).map .tup
    | .Subscript o i _ => match i with
      | .Slice .. => none
      | _ => match trE n sc o, trE n sc i with
        | some x, some y => some (.sub x y)
        | _, _ => none
    | .Attribute o f _ => if plainO o then (trE n sc o).map (.fld · f) else none
    | _ => none
def trGs (n : Nat) (sc : Scope) (es : List Expr) : Option (List Gt) :=
  match n with
  | 0 => none
  | n + 1 => match es with
    | [] => some []
    | e :: r => if noStar e then match trG n sc e, trGs n sc r with
      | some x, some xs => some (x :: xs)
      | _, _ => none
      else none
end
end

/-- the promise of a def by what it does to data -/
def spD (T : Tb) (n : Nat) (g : Fn) : Sp := fun vs H Q E => vs.length = n ∧ ∃ (Z : Hp) (α : List Addr) (m : Mu) (ds : List D), Rep T H Z α m ∧ Dns T Z α vs ds ∧ Post T E H Z α (g ds m) (KQ T Q)
/-- an own operator -/
def rOwn (T : Tb) (c : Str) (g : Fn) : R2 := fun x y H Q => ∃ (Z : Hp) (α : List Addr) (m : Mu) (a b : D) (fs : List (Str × D)), Rep T H Z α m ∧ Dn T Z α x a ∧ Dn T Z α y b ∧ insOf m a = some (c, fs) ∧ Post T E0 H Z α (g [a, b] m) (KQ T Q)
abbrev stc (X : Cx) : Stc := ⟨X.prog, X.w, X.K, X.mg, X.base⟩
/-- the names mean what the table says -/
structure Good (G : Gm) (lv : Nat) (s : Stc) : Prop where
  gk : GoodK G s.K
  fn : ∀ x g, G.fn x = some g → ∃ f fd ps k, s.mg x = some (.ref f) ∧ PySem.W.keepIn s.K (.ref f) = true ∧ FnG s.P s.w s.K s.mg s.base k f fd ps (spD G.T ps.length g) ∧ Binds s.K fd ps [] ∧ k ≤ lv ∧ ∀ ds m, ds.length ≠ ps.length → g ds m = .no
  me : ∀ c C f g, G.me c f = some g → G.T.cls c = some C → ∃ a fd ps k, Meth s.K C f a ∧ FnG s.P s.w s.K s.mg s.base k a fd ps (spD G.T ps.length g) ∧ Binds s.K fd ps [] ∧ k ≤ lv ∧ ∀ ds m, ds.length ≠ ps.length → g ds m = .no
  pr : ∀ c C f g, G.pr c f = some g → G.T.cls c = some C → ∃ p a fd ps k, PropOf s.K C f p a ∧ FnG s.P s.w s.K s.mg s.base k a fd ps (spD G.T ps.length g) ∧ Binds s.K fd ps [] ∧ k + 1 ≤ lv ∧ ps.length = 1
  cs : ∀ c g, G.cs c = some g → ∃ C f fd ps k gi frz, G.T.cls c = some C ∧ s.mg c = some (.ref C) ∧ Mk s.K C f ∧ FnG s.P s.w s.K s.mg s.base k f fd ps (spD G.T ps.length gi) ∧ Binds s.K fd ps [] ∧ k + 1 ≤ lv ∧
    (∀ ds m, ds.length ≠ ps.length → gi ds m = .no) ∧ g = mkFn c frz gi
  op : ∀ c o g, G.op c o = some g → ∀ X : Cx, stc X = s → Room lv X.A → X.A.guards = some [] → OpR X (binaryOp o) (rOwn G.T c g)
  cm : ∀ c o g, G.cm c o = some g → ∀ X : Cx, stc X = s → Room lv X.A → X.A.guards = some [] → OpR X (compareOp o) (rOwn G.T c g)
  ca : ∀ c C g, G.ca c = some g → G.T.cls c = some C → ∃ a fd ps k, StX.CallO s.K C a ∧ FnG s.P s.w s.K s.mg s.base k a fd ps (spD G.T ps.length g) ∧ Binds s.K fd ps [] ∧ k ≤ lv ∧ ∀ ds m, ds.length ≠ ps.length → g ds m = .no
  rp : ∀ c C g, G.rp c = some g → G.T.cls c = some C → ∃ a fd ps k, PySem.W.findIn s.K (.ref C) "__repr__" = some (some (.ref a)) ∧ PySem.W.isFn s.K (.ref a) = true ∧ FnG s.P s.w s.K s.mg s.base k a fd ps (spD G.T ps.length g) ∧ Binds s.K fd ps [] ∧ k + 1 ≤ lv ∧ ps.length = 1
  bl : ∀ x, x ∈ (["len", "min", "max", "int", "tuple", "list", "isinstance", "any", "all", "range", "zip", "enumerate", "str", "bool", "repr"] : List Str) → s.mg x = none
  cl : ∀ c C, G.T.cls c = some C → s.mg c = some (.ref C)
  cx : ∀ o a b r, G.cx o a b = some r → ∀ X : Cx, stc X = s → Room lv X.A → X.A.guards = some [] → ∀ (H Z : Hp) (α : List Addr) (m : Mu) (v u : V) (Q : VK), Rep G.T H Z α m → Dn G.T Z α v a → Dn G.T Z α u b →
    (∀ H' Z' α', Fut H Z α H' Z' α' → Rep G.T H' Z' α' m → Q (.bl r) H') → oA X (compareOp o) v u H Q
  fx : G.fx s

structure CxOk (G : Gm) (N : List Str) (lv : Nat) (W : XK) (sc : Scope) (X : Cx) : Prop where
  good : Good G lv (stc X)
  eN : X.N = N
  nd : N.Nodup
  calm : X.calm = true
  room : Room lv X.A
  gd : X.A.guards = some []
  vis : ∀ x, isVis (sc.names.lookup x) = true → Vis X.env.scope x
  glob : ∀ x, isGl (sc.names.lookup x) = true → Gl X x
  loc : ∀ x, isLoc (sc.names.lookup x) = true → Loc X.env.scope x ∧ (X.fn x = true ∨ X.env.scope.names.lookup x = some .local)
  kind : X.env.scope.kind = .function
  fre : ∀ x, sc.names.lookup x = some .cell ∨ sc.names.lookup x = some .free → X.env.scope.names.lookup x = some .cell ∨ X.env.scope.names.lookup x = some .free
  tk : Takes X (fun c d _ H => W c d H)
theorem lookup_rel (scope sc : Scope) (x : Str) : (relS scope sc).names.lookup x = (scope.names.lookup x).map fun k => if (k == .free && sc.kind == .function && sc.names.lookup x == some .cell) then .cell else k := by
  unfold relS
  dsimp only
  induction scope.names with
  | nil => rfl
  | cons p r ih =>
    obtain ⟨n, k⟩ := p
    rw [List.map_cons, List.lookup_cons]
    dsimp only
    by_cases hc : (k == NameKind.free && sc.kind == .function && sc.names.lookup n == some .cell) = true
    · rw [if_pos hc, List.lookup_cons]
      cases h : x == n with
      | true =>
        rw [beq_iff_eq] at h
        subst h
        show some _ = Option.map _ (some k)
        rw [Option.map_some, if_pos hc]
      | false => exact ih
    · rw [if_neg hc, List.lookup_cons]
      cases h : x == n with
      | true =>
        rw [beq_iff_eq] at h
        subst h
        show some _ = Option.map _ (some k)
        rw [Option.map_some, if_neg hc]
      | false => exact ih
theorem rel_vis {scope sc : Scope} {x : Str} (h : isVis (scope.names.lookup x) = true) : Vis (relS scope sc) x := by
  unfold Vis
  rw [lookup_rel]
  cases e : scope.names.lookup x with
  | none => rw [e] at h; cases h
  | some k =>
    rw [e] at h
    rw [Option.map_some]
    split
    · exact .inr (.inl rfl)
    · cases k <;> first | exact .inl rfl | exact .inr (.inl rfl) | exact .inr (.inr rfl) | cases h
theorem rel_keep {scope sc : Scope} {x : Str} {k : NameKind} (h : scope.names.lookup x = some k) (hk : k ≠ .free) : (relS scope sc).names.lookup x = some k := by
  rw [lookup_rel, h, Option.map_some]
  have : (k == NameKind.free) = false := by cases k <;> first | rfl | exact absurd rfl hk
  rw [this]
  rfl
theorem blk_ok {G : Gm} {N : List Str} {lv : Nat} {W : XK} {sc scope : Scope} {X : Cx} {own : List (Str × Nat)} (h : CxOk G N lv W sc X) (b : BlkOk N sc scope own) (s : Shared) (H : Hp) (C : Addr) (cl : List (Str × Addr)) (fp : List Addr) :
    CxOk G N lv E0 scope (X.blk s H scope (compEnvC scope cl C X.env) fp) where
  good := h.good
  eN := h.eN
  nd := h.nd
  calm := h.calm
  room := h.room
  gd := h.gd
  vis := fun x e => rel_vis (sc := X.env.scope) e
  glob := fun x e => by
    cases q : scope.names.lookup x with
    | none => rw [q] at e; cases e
    | some k =>
      rw [q] at e
      cases k <;> first | cases e | skip
      exact rel_keep (sc := X.env.scope) q (fun z => by cases z)
  loc := fun x e => by
    cases q : scope.names.lookup x with
    | none => rw [q] at e; cases e
    | some k =>
      rw [q] at e
      cases k with
      | «local» =>
        have := rel_keep (sc := X.env.scope) q (fun z => by cases z)
        exact ⟨.inl this, .inr this⟩
      | cell =>
        have := rel_keep (sc := X.env.scope) q (fun z => by cases z)
        refine ⟨.inr this, .inl ?_⟩
        show (scope.names.lookup x == some .cell) = true
        rw [q]
        rfl
      | _ => cases e
  kind := b.kind
  fre := fun x e => by
    show (relS scope X.env.scope).names.lookup x = _ ∨ (relS scope X.env.scope).names.lookup x = _
    rw [lookup_rel]
    rcases e with e | e
    · rw [e, Option.map_some]
      exact .inl rfl
    · rw [e, Option.map_some]
      split
      · exact .inl rfl
      · exact .inr rfl
  tk := takes0
theorem CxOk.blkOk {G : Gm} {N : List Str} {lv : Nat} {W : XK} {sc scope : Scope} {X : Cx} {own : List (Str × Nat)} (h : CxOk G N lv W sc X) (b : BlkOk N sc scope own) : BlkOk X.N X.env.scope scope own := by
  rw [h.eN]
  exact ⟨b.kind, b.uniq, b.ix, fun y hy e => h.fre y.1 (b.free y hy e), b.own⟩
end Pm

set_option maxRecDepth 100000
set_option maxHeartbeats 4000000
/-! Expressions: what the program without names does, the text does -/
namespace Pm
open PySem L2
section
variable (G : Gm) (W : XK) (X : Cx)
def SE (e : Expr) (ir : E) : Prop := ∀ (σ : St) (H Z : Hp) (α : List Addr) (ρ : Env) (m : Mu) (Q : VK), Rep G.T H Z α m → EnvR G.T Z α σ ρ → Post G.T W H Z α (evE G ir ρ m) (KQ G.T Q) → tA X e σ H Q
def ST (e : Expr) (ir : E) : Prop := ∀ (σ : St) (H Z : Hp) (α : List Addr) (ρ : Env) (m : Mu) (Q : Bool → Hp → Prop), Rep G.T H Z α m → EnvR G.T Z α σ ρ → Post G.T W H Z α (evE G ir ρ m) (fun d _ H' _ _ => ∃ b, d = .bl b ∧ Q b H') → tAT X e σ H Q
def SW (e : Expr) (ir : E) : Prop := ∀ (σ : St) (H Z : Hp) (α : List Addr) (ρ : Env) (m : Mu) (Q : Bool → Hp → Prop), Rep G.T H Z α m → EnvR G.T Z α σ ρ → Post G.T W H Z α (evE G ir ρ m) (fun d _ H' _ _ => ∃ b, d = .bl b ∧ Q b H') → ∃ t, PW X e t ∧ t σ H Q
def SEs (es : List Expr) (irs : List E) : Prop := ∀ (σ : St) (H Z : Hp) (α : List Addr) (ρ : Env) (m : Mu) (Q : List V → Hp → Prop), Rep G.T H Z α m → EnvR G.T Z α σ ρ → Post G.T W H Z α (evEs G irs ρ m) (fun ds _ H' Z' α' => ∀ vs, Dns G.T Z' α' vs ds → Q vs H') → tAA X es σ H Q
def SO (e : Option Expr) (ir : Option E) : Prop := ∀ (σ : St) (H Z : Hp) (α : List Addr) (ρ : Env) (m : Mu) (Q : Option Int → Hp → Prop), Rep G.T H Z α m → EnvR G.T Z α σ ρ → Post G.T W H Z α (evO G ir ρ m) (fun o _ H' _ _ => Q o H') → tAO X e σ H Q
def tAPts (X : Cx) (ifs : List Expr) : TT := fun σ H Q => ∃ t, PTs X ifs t ∧ t σ H Q
def SIfs (es : List Expr) (c : Option E) : Prop := ∀ (σ : St) (H Z : Hp) (α : List Addr) (ρ : Env) (m : Mu) (Q : Bool → Hp → Prop), Rep G.T H Z α m → EnvR G.T Z α σ ρ → Post G.T W H Z α (evT G c ρ m) (fun b _ H' _ _ => Q b H') → tAPts X es σ H Q
/-- an iterator that gives these items, each once -/
def WalkD (T : Tb) (J : L2.It) (ds : List D) (w : Wt) (Z : Hp) (α : List Addr) : Prop := ∃ (Gd : Hp → Prop) (Y : Nat → Hp → V → Hp → Prop), Walk J ds.length Gd Y ∧ (∀ (H Z2 : Hp) (α2 : List Addr) (m : Mu), Le Z α Z2 α2 → Rep T H Z2 α2 m → okW w m = true → Gd H) ∧
  ∀ (i : Nat) (H : Hp) (x : V) (H' : Hp), i < ds.length → Gd H → Y i H x H' → ∀ (Z2 : Hp) (α2 : List Addr) (m : Mu), Le Z α Z2 α2 → Rep T H Z2 α2 m → okW w m = true →
    ∃ Z3 d, ds[i]? = some d ∧ Fut H Z2 α2 H' Z3 α2 ∧ Rep T H' Z3 α2 m ∧ Dn T Z3 α2 x d
def SI (tg it : Expr) (ir : It) : Prop := ∀ (σ : St) (H Z : Hp) (α : List Addr) (ρ : Env) (m : Mu) (R : L2.It → Hp → Prop), Rep G.T H Z α m → EnvR G.T Z α σ ρ → Post G.T W H Z α (evI G ir ρ m) (fun ds m' H' Z' α' => okW ds.2 m' = true → ∀ J, WalkD G.T J ds.1 ds.2 Z' α' → R J H') → tAI X tg it σ H R
def SG (e : Expr) (g : Gt) : Prop := ∀ (σ : St) (H Z : Hp) (α : List Addr) (ρ : Env) (m : Mu) (v : V) (d : D) (Q : St → Hp → Prop), Rep G.T H Z α m → EnvR G.T Z α σ ρ → Dn G.T Z α v d →
  Post G.T W H Z α (evG G g d ρ m) (fun ρ' _ H' Z' α' => ∀ σ', EnvR G.T Z' α' σ' ρ' → σ'.length = σ.length → (∀ j, j ∉ slotsG g → σ'[j]? = σ[j]?) → Q σ' H') → tAG X e v σ H Q
def SGs (es : List Expr) (gs : List Gt) : Prop := ∀ (σ : St) (H Z : Hp) (α : List Addr) (ρ : Env) (m : Mu) (vs : List V) (ds : List D) (Q : St → Hp → Prop), Rep G.T H Z α m → EnvR G.T Z α σ ρ → Dns G.T Z α vs ds →
  Post G.T W H Z α (evGs G gs ds ρ m) (fun ρ' _ H' Z' α' => ∀ σ', EnvR G.T Z' α' σ' ρ' → σ'.length = σ.length → (∀ j, j ∉ slotsGs gs → σ'[j]? = σ[j]?) → Q σ' H') → tAGs X es vs σ H Q
end
inductive All2 {α β : Type} (R : α → β → Prop) : List α → List β → Prop
  | nil : All2 R [] []
  | cons {a : α} {b : β} {as : List α} {bs : List β} : R a b → All2 R as bs → All2 R (a :: as) (b :: bs)
section
variable {G : Gm} {W : XK} {X : Cx} {N : List Str} {lv : Nat} {sc : Scope}

theorem se_var {x : Str} {p : Pos} {i : Nat} (h : CxOk G N lv W sc X) (ok : okName x = true) (hv : isVis (sc.names.lookup x) = true) (hi : ixOf N x = some i) : SE G W X (.Name x p) (.var i) := by
  intro σ H Z α ρ m Q R En q
  unfold okName at ok
  simp only [Bool.and_eq_true, Bool.not_eq_true'] at ok
  unfold evE at q
  split at q
  · rename_i d e
    obtain ⟨v, e1, e2⟩ := En.at_ i d e
    exact ⟨_, pe_var (i := i) (by rw [h.eN]; exact ixOf_get hi) (h.vis x hv) ok.1.1 ok.1.2, v, e1, q.now R v e2⟩
  · exact q.elim
theorem se_con {e : Expr} {v : V} {d : D} (he : PE X e (tC v)) (hd : ∀ Z α, Dn G.T Z α v d) : SE G W X e (.con d) := fun σ H Z α ρ m Q R En q => by
  unfold evE at q
  exact ⟨_, he, q.now R v (hd _ _)⟩
theorem ses_of : ∀ {es : List Expr} {irs : List E}, es.all noStar = true → All2 (SE G W X) es irs → SEs G W X es irs
  | [], [], _, .nil => fun σ H Z α ρ m Q R En q => by
    unfold evEs at q
    exact ⟨_, pa_nil, q.now R [] .nil⟩
  | e :: es, ir :: irs, hs, .cons h1 h2 => fun σ H Z α ρ m Q R En q => by
    rw [List.all_cons, Bool.and_eq_true] at hs
    unfold evEs at q
    refine ⟨_, pa_cons pe_all pa_all (star_cons hs.1), ?_⟩
    refine h1 σ H Z α ρ m _ R En (q.bind.mono fun d m1 H1 Z1 α1 F1 R1 p1 v dv => ?_)
    refine ses_of hs.2 h2 σ H1 Z1 α1 ρ m1 _ R1 (En.mono F1.le) (p1.bind.mono fun ds m2 H2 Z2 α2 F2 R2 p2 vs dvs => ?_)
    exact p2.now R2 _ (.cons (dv.mono F2.le) dvs)
theorem se_tup {es : List Expr} {irs : List E} {k p} (h : SEs G W X es irs) : SE G W X (.Tuple es k p) (.tup irs) := fun σ H Z α ρ m Q R En q => by
  unfold evE at q
  refine ⟨_, pe_tup pa_all, ?_⟩
  refine h σ H Z α ρ m _ R En (q.bind.mono fun ds m1 H1 Z1 α1 F1 R1 p1 vs dvs => ?_)
  split at p1
  · rename_i hl
    exact ⟨by rw [dvs.len]; exact hl, fun r hr => p1.tup R1 dvs hr⟩
  · exact p1.elim
theorem se_lst {es : List Expr} {irs : List E} {p} (h : SEs G W X es irs) : SE G W X (.List es p) (.lst irs) := fun σ H Z α ρ m Q R En q => by
  unfold evE at q
  refine ⟨_, pe_lst pa_all, ?_⟩
  refine h σ H Z α ρ m _ R En (q.bind.mono fun ds m1 H1 Z1 α1 F1 R1 p1 vs dvs => ?_)
  split at p1
  · rename_i hl
    exact ⟨by rw [dvs.len]; exact hl, fun r hr => p1.lst R1 dvs hr⟩
  · exact p1.elim
theorem se_lsto {es : List Expr} {irs : List E} {p} (h : SEs G W X es irs) : SE G W X (.List es p) (.lsto irs) := fun σ H Z α ρ m Q R En q => by
  unfold evE at q
  refine ⟨_, pe_lst pa_all, ?_⟩
  refine h σ H Z α ρ m _ R En (q.bind.mono fun ds m1 H1 Z1 α1 F1 R1 p1 vs dvs => ?_)
  split at p1
  · rename_i hl
    exact ⟨by rw [dvs.len]; exact hl, fun r hr => p1.lsto R1 dvs hr⟩
  · exact p1.elim
theorem insOf_cls {T : Tb} {H Z : Hp} {α : List Addr} {m : Mu} {v : V} {a : D} {c : Str} {fs : List (Str × D)} (R : Rep T H Z α m) (dv : Dn T Z α v a) (e : insOf m a = some (c, fs)) : ∃ p C dx vs, v = .ref p ∧ T.cls c = some C ∧ H p = some (.ins C dx vs) ∧ Dfs T Z α vs fs := by
  cases dv with
  | ins e1 e2 e3 => cases e; exact ⟨_, _, _, _, rfl, e1, R.sub _ _ e2, e3⟩
  | own e1 =>
    rename_i p k
    simp only [insOf] at e
    split at e
    · rename_i q
      cases e
      obtain ⟨C, dx, vs, h1, h2, h3⟩ := R.obj k p _ e1 q
      exact ⟨_, _, _, _, rfl, h1, h2, h3⟩
    · cases e
  | _ => cases e
theorem opD_ok {op : Operator} {H Z : Hp} {α : List Addr} {m : Mu} {v u : V} {a b : D} {Q : VK} (h : CxOk G N lv W sc X) (R : Rep G.T H Z α m) (dv : Dn G.T Z α v a) (du : Dn G.T Z α u b) (q : Post G.T W H Z α (opD G op a b m) (KQ G.T Q)) : oA X (binaryOp op) v u H Q := by
  unfold opD at q
  split at q
  · rename_i d e
    exact binD_ok R dv du h.good.gk.eK e q
  · split at q
    · rename_i c fs e
      split at q
      · rename_i g hg
        exact ⟨_, h.good.op c op g hg X rfl h.room h.gd, Z, α, m, a, b, fs, R, dv, du, e, q.noX⟩
      · exact q.elim
    · exact q.elim
theorem cmD_ok {op : CmpOp} {H Z : Hp} {α : List Addr} {m : Mu} {v u : V} {a b : D} {Q : VK} (h : CxOk G N lv W sc X) (R : Rep G.T H Z α m) (dv : Dn G.T Z α v a) (du : Dn G.T Z α u b) (q : Post G.T W H Z α (cmD G op a b m) (KQ G.T Q)) : oA X (compareOp op) v u H Q := by
  unfold cmD at q
  split at q
  · rename_i d e
    exact cmpD_ok h.room R dv du h.good.gk.eK e (q.now R _ (.bl _))
  · split at q
    · rename_i r e
      exact h.good.cx op a b r e X rfl h.room h.gd H Z α m v u Q R dv du fun H' Z' α' F R' => q H' Z' α' F R' _ (.bl _)
    · split at q
      · rename_i c fs e
        split at q
        · rename_i g hg
          exact ⟨_, h.good.cm c op g hg X rfl h.room h.gd, Z, α, m, a, b, fs, R, dv, du, e, q.noX⟩
        · exact q.elim
      · exact q.elim
theorem se_bin {a b : Expr} {x y : E} {op : Operator} {p} (h : CxOk G N lv W sc X) (ha : SE G W X a x) (hb : SE G W X b y) : SE G W X (.BinOp a op b p) (.bin op x y) := fun σ H Z α ρ m Q R En q => by
  unfold evE at q
  refine ⟨_, pe_op op_all pe_all pe_all, ?_⟩
  refine ha σ H Z α ρ m _ R En (q.bind.mono fun d m1 H1 Z1 α1 F1 R1 p1 v dv => ?_)
  refine hb σ H1 Z1 α1 ρ m1 _ R1 (En.mono F1.le) (p1.bind.mono fun d2 m2 H2 Z2 α2 F2 R2 p2 u du => ?_)
  exact opD_ok h R2 (dv.mono F2.le) du p2
theorem se_neg {a : Expr} {x : E} {p} (ha : SE G W X a x) : SE G W X (.UnaryOp .USub a p) (.neg x) := fun σ H Z α ρ m Q R En q => by
  unfold evE at q
  refine ⟨_, pe_un un_neg pe_all, ?_⟩
  refine ha σ H Z α ρ m _ R En (q.bind.mono fun d m1 H1 Z1 α1 F1 R1 p1 v dv => ?_)
  split at p1
  · cases dv
    exact ⟨_, rfl, p1.now R1 _ (.int _)⟩
  · exact p1.elim
theorem se_not {a : Expr} {x : E} {p} (ha : SE G W X a x) : SE G W X (.UnaryOp .Not a p) (.not x) := fun σ H Z α ρ m Q R En q => by
  unfold evE at q
  refine ⟨_, pe_not pe_all, ?_⟩
  refine ha σ H Z α ρ m _ R En (q.bind.mono fun d m1 H1 Z1 α1 F1 R1 p1 v dv => ?_)
  split at p1
  · cases dv
    exact ⟨_, rfl, p1.now R1 _ (.bl _)⟩
  · exact p1.elim
theorem se_cmp {a b : Expr} {x y : E} {op : CmpOp} {p} (h : CxOk G N lv W sc X) (hm : behindInMarks op b = false) (ha : SE G W X a x) (hb : SE G W X b y) : SE G W X (.Compare a [op] [b] p) (.cmp op x y) := fun σ H Z α ρ m Q R En q => by
  unfold evE at q
  refine ⟨_, pe_cmpR op_all pe_all pe_all hm, ?_⟩
  refine ha σ H Z α ρ m _ R En (q.bind.mono fun d m1 H1 Z1 α1 F1 R1 p1 v dv => ?_)
  refine hb σ H1 Z1 α1 ρ m1 _ R1 (En.mono F1.le) (p1.bind.mono fun d2 m2 H2 Z2 α2 F2 R2 p2 u du => ?_)
  exact cmD_ok h R2 (dv.mono F2.le) du p2
theorem st_cmp {a b : Expr} {x y : E} {op : CmpOp} {p} (h : CxOk G N lv W sc X) (hm : behindInMarks op b = false) (ha : SE G W X a x) (hb : SE G W X b y) : ST G W X (.Compare a [op] [b] p) (.cmp op x y) := fun σ H Z α ρ m Q R En q => by
  unfold evE at q
  refine ⟨_, pt_cmpR op_all pe_all pe_all hm, ?_⟩
  refine ha σ H Z α ρ m _ R En (q.bind.mono fun d m1 H1 Z1 α1 F1 R1 p1 v dv => ?_)
  refine hb σ H1 Z1 α1 ρ m1 _ R1 (En.mono F1.le) (p1.bind.mono fun d2 m2 H2 Z2 α2 F2 R2 p2 u du => ?_)
  refine cmD_ok h R2 (dv.mono F2.le) du (p2.mono fun d3 m3 H3 Z3 α3 F3 R3 ⟨c, e, q3⟩ w dw => ?_)
  subst e
  cases dw
  exact ⟨c, rfl, q3⟩
theorem se_chn {a b c : Expr} {x y z : E} {o1 o2 : CmpOp} {p} (h : CxOk G N lv W sc X) (hm : lastMarks [o1, o2] [b, c] = false) (ha : SE G W X a x) (hb : SE G W X b y) (hc : SE G W X c z) : SE G W X (.Compare a [o1, o2] [b, c] p) (.chn o1 o2 x y z) := fun σ H Z α ρ m Q R En q => by
  unfold evE at q
  refine ⟨_, pe_chain op_all op_all pe_all pe_all pe_all hm, ?_⟩
  refine ha σ H Z α ρ m _ R En (q.bind.mono fun d m1 H1 Z1 α1 F1 R1 p1 v dv => ?_)
  refine hb σ H1 Z1 α1 ρ m1 _ R1 (En.mono F1.le) (p1.bind.mono fun d2 m2 H2 Z2 α2 F2 R2 p2 u du => ?_)
  split at p2
  · rename_i e
    refine cmpD_ok h.room R2 (dv.mono F2.le) du h.good.gk.eK e ⟨true, rfl, ?_⟩
    rw [if_pos rfl]
    refine hc σ H2 Z2 α2 ρ m2 _ R2 (En.mono (F1.le.trans F2.le)) (p2.bind.mono fun d3 m3 H3 Z3 α3 F3 R3 p3 w dw => ?_)
    unfold liftB at p3
    split at p3
    · rename_i e2
      exact cmpD_ok h.room R3 (du.mono F3.le) dw h.good.gk.eK e2 (p3.now R3 _ (.bl _))
    · exact p3.elim
  · rename_i e
    refine cmpD_ok h.room R2 (dv.mono F2.le) du h.good.gk.eK e ⟨false, rfl, ?_⟩
    rw [if_neg Bool.false_ne_true]
    exact p2.now R2 _ (.bl _)
  · exact p2.elim
theorem st_chn {a b c : Expr} {x y z : E} {o1 o2 : CmpOp} {p} (h : CxOk G N lv W sc X) (hm : lastMarks [o1, o2] [b, c] = false) (ha : SE G W X a x) (hb : SE G W X b y) (hc : SE G W X c z) : ST G W X (.Compare a [o1, o2] [b, c] p) (.chn o1 o2 x y z) := fun σ H Z α ρ m Q R En q => by
  unfold evE at q
  refine ⟨_, pt_chain op_all op_all pe_all pe_all pe_all hm, ?_⟩
  refine ha σ H Z α ρ m _ R En (q.bind.mono fun d m1 H1 Z1 α1 F1 R1 p1 v dv => ?_)
  refine hb σ H1 Z1 α1 ρ m1 _ R1 (En.mono F1.le) (p1.bind.mono fun d2 m2 H2 Z2 α2 F2 R2 p2 u du => ?_)
  split at p2
  · rename_i e
    refine cmpD_ok h.room R2 (dv.mono F2.le) du h.good.gk.eK e ⟨true, rfl, ?_⟩
    rw [if_pos rfl]
    refine hc σ H2 Z2 α2 ρ m2 _ R2 (En.mono (F1.le.trans F2.le)) (p2.bind.mono fun d3 m3 H3 Z3 α3 F3 R3 p3 w dw => ?_)
    unfold liftB at p3
    split at p3
    · rename_i e2
      obtain ⟨k, ek, q3⟩ := p3.now R3
      cases ek
      exact cmpD_ok h.room R3 (du.mono F3.le) dw h.good.gk.eK e2 ⟨_, rfl, q3⟩
    · exact p3.elim
  · rename_i e
    obtain ⟨k, ek, q3⟩ := p2.now R2
    cases ek
    refine cmpD_ok h.room R2 (dv.mono F2.le) du h.good.gk.eK e ⟨false, rfl, ?_⟩
    rw [if_neg Bool.false_ne_true]
    exact ⟨_, rfl, q3⟩
  · exact p2.elim
/-! and, or -/
theorem se_and {p : Pos} : ∀ {es : List Expr} {irs : List E} {ir : E}, All2 (SE G W X) es irs → andE irs = some ir → SE G W X (.BoolOp .And es p) ir
  | _, _, _, .nil, e => by cases e
  | _, _, _, .cons h .nil, e => by
    cases e
    exact fun σ H Z α ρ m Q R En q => ⟨_, pe_one pe_all, h σ H Z α ρ m Q R En q⟩
  | _ :: _ :: _, x :: y :: ys, _, .cons h (.cons h2 r), e => fun σ H Z α ρ m Q R En q => by
    simp only [andE, Option.map_eq_some_iff] at e
    obtain ⟨ir2, e, rfl⟩ := e
    have ih := se_and (p := p) (All2.cons h2 r) (ir := ir2) e
    unfold evE at q
    refine ⟨_, pe_and pe_all (pe_all (X := X)), ?_⟩
    refine h σ H Z α ρ m _ R En (q.bind.mono fun d m1 H1 Z1 α1 F1 R1 p1 v dv => ?_)
    split at p1
    · cases dv
      exact ⟨true, rfl, by rw [if_pos rfl]; exact ih σ H1 Z1 α1 ρ m1 _ R1 (En.mono F1.le) p1⟩
    · cases dv
      exact ⟨false, rfl, by rw [if_neg Bool.false_ne_true]; exact p1.now R1 _ (.bl _)⟩
    · exact p1.elim
theorem se_or {p : Pos} : ∀ {es : List Expr} {irs : List E} {ir : E}, All2 (SE G W X) es irs → orE irs = some ir → SE G W X (.BoolOp .Or es p) ir
  | _, _, _, .nil, e => by cases e
  | _, _, _, .cons h .nil, e => by
    cases e
    exact fun σ H Z α ρ m Q R En q => ⟨_, pe_one pe_all, h σ H Z α ρ m Q R En q⟩
  | _ :: _ :: _, x :: y :: ys, _, .cons h (.cons h2 r), e => fun σ H Z α ρ m Q R En q => by
    simp only [orE, Option.map_eq_some_iff] at e
    obtain ⟨ir2, e, rfl⟩ := e
    have ih := se_or (p := p) (All2.cons h2 r) (ir := ir2) e
    unfold evE at q
    refine ⟨_, pe_or pe_all (pe_all (X := X)), ?_⟩
    refine h σ H Z α ρ m _ R En (q.bind.mono fun d m1 H1 Z1 α1 F1 R1 p1 v dv => ?_)
    split at p1
    · cases dv
      exact ⟨true, rfl, by rw [if_pos rfl]; exact p1.now R1 _ (.bl _)⟩
    · cases dv
      exact ⟨false, rfl, by rw [if_neg Bool.false_ne_true]; exact ih σ H1 Z1 α1 ρ m1 _ R1 (En.mono F1.le) p1⟩
    · exact p1.elim
theorem sw_and {p : Pos} : ∀ {es : List Expr} {irs : List E} {ir : E}, All2 (ST G W X) es irs → andE irs = some ir → SW G W X (.BoolOp .And es p) ir
  | _, _, _, .nil, e => by cases e
  | _, _, _, .cons h .nil, e => by
    cases e
    exact fun σ H Z α ρ m Q R En q => ⟨_, pw_and1 pt_all, h σ H Z α ρ m Q R En q⟩
  | _ :: _ :: _, x :: y :: ys, _, .cons h (.cons h2 r), e => fun σ H Z α ρ m Q R En q => by
    simp only [andE, Option.map_eq_some_iff] at e
    obtain ⟨ir2, e, rfl⟩ := e
    have ih := sw_and (p := p) (All2.cons h2 r) (ir := ir2) e
    unfold evE at q
    refine ⟨_, pw_and pt_all (tB' := fun σ H Q => ∃ t, PW X _ t ∧ t σ H Q) ⟨fun w pins s σ H Q I ⟨_, h, q⟩ => h.run w pins s σ H Q I q⟩, ?_⟩
    refine h σ H Z α ρ m _ R En (q.bind.mono fun d m1 H1 Z1 α1 F1 R1 p1 => ?_)
    split at p1
    · exact ⟨true, rfl, by rw [if_pos rfl]; exact ih σ H1 Z1 α1 ρ m1 _ R1 (En.mono F1.le) p1⟩
    · obtain ⟨k, ek, q3⟩ := p1.now R1
      cases ek
      exact ⟨false, rfl, by rw [if_neg Bool.false_ne_true]; exact q3⟩
    · exact p1.elim
theorem sw_or {p : Pos} : ∀ {es : List Expr} {irs : List E} {ir : E}, All2 (ST G W X) es irs → orE irs = some ir → SW G W X (.BoolOp .Or es p) ir
  | _, _, _, .nil, e => by cases e
  | _, _, _, .cons h .nil, e => by
    cases e
    exact fun σ H Z α ρ m Q R En q => ⟨_, pw_or1 pt_all, h σ H Z α ρ m Q R En q⟩
  | _ :: _ :: _, x :: y :: ys, _, .cons h (.cons h2 r), e => fun σ H Z α ρ m Q R En q => by
    simp only [orE, Option.map_eq_some_iff] at e
    obtain ⟨ir2, e, rfl⟩ := e
    have ih := sw_or (p := p) (All2.cons h2 r) (ir := ir2) e
    unfold evE at q
    refine ⟨_, pw_or pt_all (tB' := fun σ H Q => ∃ t, PW X _ t ∧ t σ H Q) ⟨fun w pins s σ H Q I ⟨_, h, q⟩ => h.run w pins s σ H Q I q⟩, ?_⟩
    refine h σ H Z α ρ m _ R En (q.bind.mono fun d m1 H1 Z1 α1 F1 R1 p1 => ?_)
    split at p1
    · obtain ⟨k, ek, q3⟩ := p1.now R1
      cases ek
      exact ⟨true, rfl, by rw [if_pos rfl]; exact q3⟩
    · exact ⟨false, rfl, by rw [if_neg Bool.false_ne_true]; exact ih σ H1 Z1 α1 ρ m1 _ R1 (En.mono F1.le) p1⟩
    · exact p1.elim
theorem SW.st {e : Expr} {ir : E} (h : SW G W X e ir) : ST G W X e ir := fun σ H Z α ρ m Q R En q => let ⟨t, h1, h2⟩ := h σ H Z α ρ m Q R En q; ⟨t, h1.pt, h2⟩
theorem st_not {a : Expr} {x : E} {p} (ha : ST G W X a x) : ST G W X (.UnaryOp .Not a p) (.not x) := fun σ H Z α ρ m Q R En q => by
  unfold evE at q
  refine ⟨_, pt_not pt_all, ?_⟩
  refine ha σ H Z α ρ m _ R En (q.bind.mono fun d m1 H1 Z1 α1 F1 R1 p1 => ?_)
  split at p1
  · obtain ⟨k, ek, q3⟩ := p1.now R1
    cases ek
    exact ⟨_, rfl, q3⟩
  · exact p1.elim
theorem st_tru {a : Expr} {x : E} (h : CxOk G N lv W sc X) (hb : isBO a = false) (ha : SE G W X a x) : ST G W X a (.tru x) := fun σ H Z α ρ m Q R En q => by
  unfold evE at q
  refine ⟨_, pt_truth pe_all (tru_he hb), ?_⟩
  refine ha σ H Z α ρ m _ R En (q.bind.mono fun d m1 H1 Z1 α1 F1 R1 p1 v dv => ?_)
  unfold liftB at p1
  split at p1
  · rename_i e
    obtain ⟨k, ek, q3⟩ := p1.now R1
    cases ek
    exact ⟨_, truD_ok R1 dv h.good.gk.eK e, q3⟩
  · exact p1.elim
theorem se_ife {t a b : Expr} {x y z : E} {p} (ht : ST G W X t x) (ha : SE G W X a y) (hb : SE G W X b z) : SE G W X (.IfExp t a b p) (.ife x y z) := fun σ H Z α ρ m Q R En q => by
  unfold evE at q
  refine ⟨_, pe_ifExp pt_all pe_all pe_all, ?_⟩
  refine ht σ H Z α ρ m _ R En (q.bind.mono fun d m1 H1 Z1 α1 F1 R1 p1 => ?_)
  split at p1
  · exact ⟨true, rfl, by rw [if_pos rfl]; exact ha σ H1 Z1 α1 ρ m1 _ R1 (En.mono F1.le) p1⟩
  · exact ⟨false, rfl, by rw [if_neg Bool.false_ne_true]; exact hb σ H1 Z1 α1 ρ m1 _ R1 (En.mono F1.le) p1⟩
  · exact p1.elim
theorem se_idx {a b : Expr} {x y : E} {p} (h : CxOk G N lv W sc X) (hs : PlainIx b) (ha : SE G W X a x) (hb : SE G W X b y) : SE G W X (.Subscript a b p) (.idx x y) := fun σ H Z α ρ m Q R En q => by
  unfold evE at q
  refine ⟨_, pe_ix ix_all pe_all pe_all hs, ?_⟩
  refine ha σ H Z α ρ m _ R En (q.bind.mono fun d m1 H1 Z1 α1 F1 R1 p1 v dv => ?_)
  refine hb σ H1 Z1 α1 ρ m1 _ R1 (En.mono F1.le) (p1.bind.mono fun d2 m2 H2 Z2 α2 F2 R2 p2 u du => ?_)
  unfold liftO at p2
  split at p2
  · rename_i e
    exact idxD_ok h.good.gk.eK R2 (dv.mono F2.le) du e p2
  · exact p2.elim
theorem so_none : SO G W X none none := fun σ H Z α ρ m Q R En q => by
  unfold evO at q
  exact ⟨_, po_none, q.now R⟩
theorem so_some {a : Expr} {x : E} (ha : SE G W X a x) : SO G W X (some a) (some x) := fun σ H Z α ρ m Q R En q => by
  unfold evO at q
  refine ⟨_, po_some pe_all, ?_⟩
  refine ha σ H Z α ρ m _ R En (q.bind.mono fun d m1 H1 Z1 α1 F1 R1 p1 v dv => ?_)
  split at p1
  · cases dv
    exact ⟨_, rfl, p1.now R1⟩
  · exact p1.elim
theorem se_slc {a : Expr} {x : E} {lo hi : Option Expr} {l u : Option E} {p p2} (h : CxOk G N lv W sc X) (ha : SE G W X a x) (hl : SO G W X lo l) (hu : SO G W X hi u) : SE G W X (.Subscript a (.Slice lo hi none p2) p) (.slc x l u) := fun σ H Z α ρ m Q R En q => by
  unfold evE at q
  refine ⟨_, pe_slice sl_all pe_all po_all po_all, ?_⟩
  refine ha σ H Z α ρ m _ R En (q.bind.mono fun d m1 H1 Z1 α1 F1 R1 p1 v dv => ?_)
  refine hl σ H1 Z1 α1 ρ m1 _ R1 (En.mono F1.le) (p1.bind.mono fun o1 m2 H2 Z2 α2 F2 R2 p2 => ?_)
  refine hu σ H2 Z2 α2 ρ m2 _ R2 (En.mono (F1.le.trans F2.le)) (p2.bind.mono fun o2 m3 H3 Z3 α3 F3 R3 p3 => ?_)
  unfold liftO at p3
  split at p3
  · rename_i e
    exact slcD_ok h.good.gk.eK R3 (dv.mono (F2.le.trans F3.le)) e p3
  · exact p3.elim
end
end Pm

set_option maxRecDepth 100000
set_option maxHeartbeats 4000000
/-! Calls, fields, methods -/
namespace Pm
open PySem L2
section
variable {G : Gm} {W : XK} {X : Cx} {N : List Str} {lv : Nat} {sc : Scope}
theorem CxOk.passes (h : CxOk G N lv W sc X) : Passes (L2.CX X.prog X.w) X W := passes_call h.tk fun _ _ _ _ z => z
theorem glob_ok (h : CxOk G N lv W sc X) {f : Str} (ok : okName f = true) : (f == ("__debug__" : Str)) = false ∧ (f == ("__classdict__" : Str)) = false ∧ f ≠ "__name__" := by
  unfold okName at ok
  simp only [Bool.and_eq_true, Bool.not_eq_true', decide_eq_true_eq] at ok
  exact ⟨ok.1.1, ok.1.2, ok.2⟩
theorem spD_of {T : Tb} {H Z : Hp} {α : List Addr} {m : Mu} {vs : List V} {ds : List D} {Q : VK} {n : Nat} {g : Fn} (R : Rep T H Z α m) (dv : Dns T Z α vs ds) (hn : ∀ ds m, ds.length ≠ n → g ds m = .no) (q : Post T W H Z α (g ds m) (KQ T Q)) : spD T n g vs H Q W := by
  refine ⟨?_, Z, α, m, ds, R, dv, q⟩
  rw [dv.len]
  by_cases e : ds.length = n
  · exact e
  · rw [hn ds m e] at q; exact q.elim
/-- f(..), an own def -/
theorem se_fn {f : Str} {p pos : Pos} {es : List Expr} {irs : List E} (h : CxOk G N lv W sc X) (ok : okName f = true) (hg : isGl (sc.names.lookup f) = true) (hs : es.all noStar = true) (ha : All2 (SE G W X) es irs) :
    SE G W X (.Call (.Name f p) es [] pos) (.fn f irs) := fun σ H Z α ρ m Q R En q => by
  unfold evE at q
  split at q
  · rename_i g hf
    obtain ⟨a, fd, ps, k, h1, h2, h3, h4, h5, h6⟩ := h.good.fn f g hf
    cases ha with
    | nil =>
      refine ⟨_, pe_g0 h3 h.gd (h.room.mono h5) (h.glob f hg) h1 h2 h4 h.passes (glob_ok h ok).1, ?_⟩
      unfold evEs at q
      exact spD_of R .nil h6 q
    | cons a1 ar =>
      have hs' := hs
      rw [List.all_cons, Bool.and_eq_true] at hs'
      refine ⟨_, pe_g h3 h.gd (h.room.mono h5) (h.glob f hg) h1 h2 h4 h.passes pa_all (glob_ok h ok).1 (star_cons hs'.1) (star_all hs'.2), ?_⟩
      refine ses_of hs (.cons a1 ar) σ H Z α ρ m _ R En (q.bind.mono fun ds m1 H1 Z1 α1 F1 R1 p1 vs dvs => ?_)
      exact spD_of R1 dvs h6 p1
  · exact q.elim
/-- C(..), an own class -/
theorem Post.made {T : Tb} {H Z : Hp} {α : List Addr} {m : Mu} {vs : List V} {ds : List D} {Q : VK} {c : Str} {C : Addr} {n : Nat} {gi : Fn} {frz : Bool} (R : Rep T H Z α m) (dv : Dns T Z α vs ds) (hc : T.cls c = some C) (hn : ∀ ds m, ds.length ≠ n → gi ds m = .no)
    (q : Post T W H Z α (mkFn c frz gi ds m) (KQ T Q)) (x dx : Addr) (hx : H x = none) (hd : H dx = none) (ne : dx ≠ x) :
    spD T n gi (.ref x :: vs) (upd (upd H dx (.own x)) x (.ins C dx [])) (fun v H2 => v = .non ∧ Q (.ref x) H2) W := by
  have grow : ∀ a o, H a = some o → (upd H dx (.own x)) a = some o := fun a o e => by rw [upd_ne (ne_of_none e hd)]; exact e
  have hx1 : (upd H dx (.own x)) x = none := by rw [upd_ne (Ne.symm ne)]; exact hx
  have R1 := R.grow grow
  have le : Le Z α Z (α ++ [x]) := ⟨fun _ _ e => e, [x], rfl⟩
  have R2 : Rep T (upd (upd H dx (.own x)) x (.ins C dx [])) Z (α ++ [x]) (m ++ [.ins c []]) := R1.push hx1 ⟨C, dx, [], hc, upd_same, .nil⟩
  have F2 : Fut H Z α (upd (upd H dx (.own x)) x (.ins C dx [])) Z (α ++ [x]) := (Fut.grow grow).trans (Fut.push hx1)
  have ek : (α ++ [x])[m.length]? = some x := by
    rw [← R.len, List.getElem?_append_right (Nat.le_refl _), Nat.sub_self]
    rfl
  unfold mkFn at q
  refine spD_of R2 (.cons (.own ek) (dv.mono le)) hn ((Post.later q.bind F2).mono fun r m1 H1 Z1 α1 F1 Q1 p1 v dr => ?_)
  split at p1
  · rename_i c2 fs e
    cases dr
    split at p1
    · rename_i hcc
      subst hcc
      have ek1 := F1.le.get ek
      obtain ⟨C', dx', ws, h1, h2, h3⟩ := Q1.obj _ _ _ ek1 e
      rw [hc] at h1; cases h1
      split at p1
      · refine ⟨rfl, p1 _ _ _ (Fut.freeze Q1 ek1 e rfl) (Q1.freeze ek1 e rfl h2) _ (.ins hc upd_same (h3.mono ?_))⟩
        exact (Fut.freeze (u := .ins C dx' ws) Q1 ek1 e rfl).le
      · exact ⟨rfl, p1.now Q1 _ (.own ek1)⟩
    · exact p1.elim
  · exact p1.elim
theorem se_mk {f : Str} {p pos : Pos} {es : List Expr} {irs : List E} (h : CxOk G N lv W sc X) (ok : okName f = true) (hg : isGl (sc.names.lookup f) = true) (hs : es.all noStar = true) (ha : All2 (SE G W X) es irs) :
    SE G W X (.Call (.Name f p) es [] pos) (.mk f irs) := fun σ H Z α ρ m Q R En q => by
  unfold evE at q
  split at q
  · rename_i g hf
    obtain ⟨C, a, fd, ps, k, gi, frz, h1, h2, h3, h4, h5, h6, h7, rfl⟩ := h.good.cs f g hf
    cases ha with
    | nil =>
      refine ⟨_, pe_new0 h3 h4 h.gd (h.room.mono h6) (h.glob f hg) h2 h5 h.passes (glob_ok h ok).1, ?_⟩
      unfold evEs at q
      exact fun x dx hx hd ne => Post.made R .nil h1 h7 q x dx hx hd ne
    | cons a1 ar =>
      have hs' := hs
      rw [List.all_cons, Bool.and_eq_true] at hs'
      refine ⟨_, pe_new h3 h4 h.gd (h.room.mono h6) (h.glob f hg) h2 h5 h.passes pa_all (glob_ok h ok).1 (star_cons hs'.1) (star_all hs'.2), ?_⟩
      refine ses_of hs (.cons a1 ar) σ H Z α ρ m _ R En (q.bind.mono fun ds m1 H1 Z1 α1 F1 R1 p1 vs dvs x dx hx hd ne => ?_)
      exact Post.made R1 dvs h1 h7 p1 x dx hx hd ne
  · exact q.elim
/-! built-ins -/
def bnName : Bn → Str
  | .len => "len" | .min => "min" | .max => "max" | .int => "int" | .tuple => "tuple" | .list => "list" | .listO => "list" | .isi => "isinstance" | .any => "any" | .all => "all"
theorem bnOf_name {f : Str} {o : Bool} {b : Bn} (h : bnOf f o = some b) : f = bnName b := by
  unfold bnOf at h
  repeat' (split at h)
  all_goals first | (cases h; assumption) | skip
  all_goals (cases h)
theorem bn_boot (b : Bn) : bootBuiltins (bnName b) = some b.id := by cases b <;> decide +kernel
theorem bn_bl (h : CxOk G N lv W sc X) (b : Bn) : X.mg (bnName b) = none := h.good.bl _ (by cases b <;> decide +kernel)
theorem se_blt {f : Str} {p pos : Pos} {e : Expr} {es : List Expr} {irs : List E} {b : Bn} {o : Bool} (h : CxOk G N lv W sc X) (ok : okName f = true) (hg : isGl (sc.names.lookup f) = true) (hs : (e :: es).all noStar = true) (ha : All2 (SE G W X) (e :: es) irs) (hb : bnOf f o = some b) :
    SE G W X (.Call (.Name f p) (e :: es) [] pos) (.blt b irs) := fun σ H Z α ρ m Q R En q => by
  obtain rfl := bnOf_name hb
  have hs' := hs
  rw [List.all_cons, Bool.and_eq_true] at hs'
  unfold evE at q
  have key : tAA X (e :: es) σ H fun vs H1 => cA X b.id vs H1 Q := ses_of hs ha σ H Z α ρ m _ R En (q.bind.mono fun ds m1 H1 Z1 α1 F1 R1 p1 vs dvs => bltD_ok h.good.gk h.calm R1 dvs p1)
  have bo := bn_boot b
  have gk := glob_ok h ok
  have hm := bn_bl h b
  cases hi : b.id with
  | builtin id => rw [hi] at bo key; exact ⟨_, pe_callB call_all (h.glob _ hg) hm bo pa_all gk.2.2 gk.1 (star_cons hs'.1) (star_all hs'.2), key⟩
  | type id => rw [hi] at bo key; exact ⟨_, pe_callTy call_all (h.glob _ hg) hm bo pa_all gk.2.2 gk.1 (star_cons hs'.1) (star_all hs'.2), key⟩
  | _ => cases b <;> cases hi
end
end Pm

set_option maxRecDepth 100000
set_option maxHeartbeats 4000000
/-! Methods, fields, what is walked, targets -/
namespace Pm
open PySem L2
section
variable {G : Gm} {W : XK} {X : Cx} {N : List Str} {lv : Nat} {sc : Scope}
def argsR (X : Cx) (es : List Expr) : TA := match es with
  | [] => tNil
  | e :: r => tAA X (e :: r)
/-- o.m(..) of an own class: the class is told where the object has come -/
theorem pe_metA (gd : X.A.guards = some []) {o : Expr} {m : Str} {es : List Expr} {apos pos : Pos} (ho : plainO o = true) (hs : es.all noStar = true) (hl : es.length < 30) (hp : (apos.endLine == pos.line) = true) :
    PE X (.Call (.Attribute o m apos) es [] pos) (fun σ H Q => tA X o σ H fun x H1 => ∃ (C a dx f : Addr) (vs : List (Str × V)) (fd : FuncData) (ps : List Str) (k : Nat) (sp : Sp) (E : XK), x = .ref a ∧ H1 a = some (.ins C dx vs) ∧ Cls X.K C ∧ Meth X.K C m f ∧
      FnG X.prog X.w X.K X.mg X.base k f fd ps sp ∧ Room k X.A ∧ Binds X.K fd ps [] ∧ Passes (L2.CX X.prog X.w) X E ∧ vs.lookup m = none ∧ argsR X es σ H1 fun us H2 => sp (x :: us) H2 Q E) := by
  refine ⟨fun pins s σ H Q I h => ?_⟩
  obtain ⟨pl, ht⟩ := meth_ht (m := m) (apos := apos) (pos := pos) (env := X.env) ho hs hl hp
  refine PySem.W.methodCall_KW (pl := pl) (thn (pe_all.run pins s σ H _ I h) fun u s1 ⟨x, H1, I1, rx, C, a, dx, f, vs, fd, ps, k, sp, E, ex, ea, c, hm, F, hr, hb, hx, l, q⟩ => ?_) ht
  subst ex
  obtain rfl : u = Value.ref a := rx
  refine getmeth_ok I1 ea c hm l ?_
  cases es with
  | nil => exact PySem.W.callWith_K0 (first := [.ref a]) I1.kIn hm.kp (run_g (us := [.ref a]) (vs := [.ref a]) F gd hr hb hx I1 (.cons rfl .nil) q)
  | cons e es =>
    rw [List.all_cons, Bool.and_eq_true] at hs
    refine PySem.W.callWith_K (first := [.ref a]) (h₀ := X.base) I1.ok.mod.kin hm.kp (thn (pa_all.run pos pins s1 σ H1 _ I1 q) fun us s2 ⟨ws, H2, I2, r, q2⟩ => ⟨I2.kIn, ?_⟩) (star_cons hs.1) (star_all hs.2)
    refine run_g (us := .ref a :: us) (vs := .ref a :: ws) F gd hr hb hx I2 (.cons rfl r) ?_
    exact q2
theorem args_ok {es : List Expr} {irs : List E} (hs : es.all noStar = true) (ha : All2 (SE G W X) es irs) {σ : St} {H Z : Hp} {α : List Addr} {ρ : Env} {m : Mu} {Q : List V → Hp → Prop} (R : Rep G.T H Z α m) (En : EnvR G.T Z α σ ρ)
    (q : Post G.T W H Z α (evEs G irs ρ m) (fun ds _ H' Z' α' => ∀ vs, Dns G.T Z' α' vs ds → Q vs H')) : argsR X es σ H Q := by
  cases ha with
  | nil =>
    unfold evEs at q
    exact q.now R [] .nil
  | cons a1 ar => exact ses_of hs (.cons a1 ar) σ H Z α ρ m _ R En q
theorem se_met {o : Expr} {f : Str} {apos pos : Pos} {es : List Expr} {irs : List E} {x : E} (h : CxOk G N lv W sc X) (hpo : plainO o = true) (hs : es.all noStar = true) (hl : es.length < 30) (hp : (apos.endLine == pos.line) = true) (ho : SE G W X o x) (ha : All2 (SE G W X) es irs) :
    SE G W X (.Call (.Attribute o f apos) es [] pos) (.met x f irs) := fun σ H Z α ρ m Q R En q => by
  unfold evE at q
  refine ⟨_, pe_metA h.gd hpo hs hl hp, ?_⟩
  refine ho σ H Z α ρ m _ R En (q.bind.mono fun d m1 H1 Z1 α1 F1 R1 p1 v dv => ?_)
  split at p1
  · rename_i g eg
    unfold metF at eg
    split at eg
    · rename_i c fs e
      split at eg
      · rename_i e1
        obtain ⟨a, C, dx, vs, rfl, h1, h2, h3⟩ := insOf_cls R1 dv e
        obtain ⟨fa, fd, ps, k, hm, F, hb, hk, hn⟩ := h.good.me c C f g eg h1
        refine ⟨C, a, dx, fa, vs, fd, ps, k, _, W, rfl, h2, (h.good.gk.cls c C h1).1, hm, F, h.room.mono hk, hb, h.passes, (h3.lookup f).2 e1, ?_⟩
        refine args_ok hs ha R1 (En.mono F1.le) (p1.bind.mono fun ds m2 H2 Z2 α2 F2 R2 p2 us dus => ?_)
        exact spD_of R2 (.cons (dv.mono F2.le) dus) hn p2
      · cases eg
    · cases eg
  · exact p1.elim
/-! methods of lists -/
def mtName : Mt → Str
  | .append => "append" | .pop => "pop" | .extend => "extend"
theorem mtOf_name {x : Str} {f : Mt} (e : mtOf x = some f) : x = mtName f := by
  unfold mtOf at e
  repeat' (split at e)
  all_goals first | (cases e; assumption) | skip
  all_goals (cases e)
theorem mt_slot (f : Mt) : Nonempty (Slot "list" (mtName f) f.id) ∧ typeOf (.builtin f.id) = pure (.type "method_descriptor") := by
  cases f
  · exact ⟨⟨PySem.F.slot_list_append⟩, PySem.F.type_list_append⟩
  · exact ⟨⟨PySem.F.slot_list_pop⟩, PySem.F.type_list_pop⟩
  · exact ⟨⟨PySem.F.slot_list_extend⟩, PySem.F.type_list_extend⟩
theorem se_bm {o : Expr} {nm : Str} {f : Mt} {apos pos : Pos} {es : List Expr} {irs : List E} {x : E} (hf : mtOf nm = some f) (hpo : plainO o = true) (hs : es.all noStar = true) (hl : es.length < 29) (hp : (apos.endLine == pos.line) = true) (ho : SE G W X o x) (ha : All2 (SE G W X) es irs) :
    SE G W X (.Call (.Attribute o nm apos) es [] pos) (.bm x f irs) := fun σ H Z α ρ m Q R En q => by
  obtain ⟨⟨h2⟩, h3⟩ := mt_slot f
  obtain rfl := mtOf_name hf
  unfold evE at q
  cases ha with
  | nil =>
    refine ⟨_, pe_bm0 PySem.F.plainAttrs_list h2 h3 mt_all pe_all (attrBase_plain hpo) hp, ?_⟩
    refine ho σ H Z α ρ m _ R En (q.bind.mono fun d m1 H1 Z1 α1 F1 R1 p1 v dv => ?_)
    split at p1
    · unfold evEs at p1
      exact mtD_ok R1 dv .nil p1
    · exact p1.elim
  | cons a1 ar =>
    have hs' := hs
    rw [List.all_cons, Bool.and_eq_true] at hs'
    refine ⟨_, pe_bm PySem.F.plainAttrs_list h2 h3 mt_all pe_all pa_all (attrBase_plain hpo) ?_ hp (star_cons hs'.1) (star_all hs'.2), ?_⟩
    · rw [star_few hs]
      show (true && true && decide (_ + 0 + 0 < 30)) = true
      simp only [Bool.true_and, decide_eq_true_eq, Nat.add_zero]
      simp only [List.length_cons] at hl ⊢
      omega
    refine ho σ H Z α ρ m _ R En (q.bind.mono fun d m1 H1 Z1 α1 F1 R1 p1 v dv => ?_)
    split at p1
    · rename_i xs hx
      obtain ⟨a, ws, rfl, h4, h5⟩ := lookT_at R1 dv hx
      refine ⟨.inl ⟨rfl, ws, SqL.of h4⟩, ?_⟩
      exact ses_of hs (.cons a1 ar) σ H1 Z1 α1 ρ m1 _ R1 (En.mono F1.le) (p1.bind.mono fun ds m2 H2 Z2 α2 F2 R2 p2 us dus => (mtD_ok (X := X) R2 (dv.mono F2.le) dus p2).2)
    · exact p1.elim
/-! fields -/
theorem se_att {o : Expr} {f : Str} {pos : Pos} {x : E} (h : CxOk G N lv W sc X) (hpo : plainO o = true) (ho : SE G W X o x) : SE G W X (.Attribute o f pos) (.att x f) := fun σ H Z α ρ m Q R En q => by
  have hb : attributeBase o f X.env (eval o X.env) = eval o X.env := attrBase_plain hpo
  have gd := h.gd
  have pe : PE X (.Attribute o f pos) (fun σ H Q => tA X o σ H fun x H1 => ∃ (C a dx : Addr) (vs : List (Str × V)), x = .ref a ∧ H1 a = some (.ins C dx vs) ∧ Cls X.K C ∧ ((∃ v, NoAttr X.K C f ∧ vs.lookup f = some v ∧ Q v H1) ∨
      ∃ (p g : Addr) (fd : FuncData) (ps : List Str) (k : Nat) (sp : Sp) (E : XK), PropOf X.K C f p g ∧ FnG X.prog X.w X.K X.mg X.base k g fd ps sp ∧ Room (k + 1) X.A ∧ Binds X.K fd ps [] ∧ Passes (L2.CX X.prog X.w) X.nox E ∧ sp [x] H1 Q E)) := by
    refine ⟨fun pins s σ H Q I h => ?_⟩
    refine attr_of hb (thn (pe_all.run pins s σ H _ I h) fun u s1 ⟨x, H1, I1, rx, C, a, dx, vs, ex, ea, c, q⟩ => ?_)
    subst ex
    obtain rfl : u = Value.ref a := rx
    rcases q with ⟨v, n, l, q⟩ | ⟨p, g, fd, ps, k, sp, E, hp, F, hr, hb, hx, q⟩
    · exact getattr_ok I1 ea c n l fun u s2 I2 r => ⟨v, H1, I2, r, q⟩
    · exact get_g I1 ea c hp F gd hr hb hx q
  unfold evE at q
  refine ⟨_, pe, ?_⟩
  refine ho σ H Z α ρ m _ R En (q.bind.mono fun d m1 H1 Z1 α1 F1 R1 p1 v dv => ?_)
  unfold attD at p1
  split at p1
  · rename_i c fs e
    obtain ⟨a, C, dx, vs, rfl, h1, h2, h3⟩ := insOf_cls R1 dv e
    refine ⟨C, a, dx, vs, rfl, h2, (h.good.gk.cls c C h1).1, ?_⟩
    split at p1
    · rename_i hfl
      split at p1
      · rename_i d1 hd
        obtain ⟨w, hw, dw⟩ := (h3.lookup f).1 d1 hd
        exact .inl ⟨w, h.good.gk.fl c C f h1 hfl, hw, p1.now R1 w dw⟩
      · exact p1.elim
    · split at p1
      · rename_i g hg
        obtain ⟨p, ga, fd, ps, k, hp, F, hb2, hk, hl⟩ := h.good.pr c C f g hg h1
        refine .inr ⟨p, ga, fd, ps, k, _, E0, hp, F, h.room.mono hk, hb2, passL, ?_⟩
        exact ⟨by simp [hl], Z1, α1, m1, [d], R1, .cons dv .nil, p1.noX⟩
      · exact p1.elim
  · exact p1.elim
end
end Pm

set_option maxRecDepth 100000
set_option maxHeartbeats 400000
/-! What is walked, of any kind -/
namespace Pm
open PySem L2 PySem.Spec PyProof.Rows
inductive SK where
  | l | t
def SqK (K : PySem.W.Frag) (k : SK) (H : Hp) (a : Addr) (xs : List V) : Prop := match k with
  | .l => SqL K H a xs
  | .t => SqT K H a xs
def cellK (k : SK) (h : Heap) (it a : Addr) (i : Nat) : Prop := match k with
  | .l => h.IsListIter it a i
  | .t => h.IsTupleIter it a i
def objK (k : SK) (h : Heap) (a : Addr) (items : Array Value) : Prop := match k with
  | .l => h.IsList a items
  | .t => h.IsTuple a items
theorem drawsK {prog : Program} {w : World} {A : Around} (k : SK) (hh : A.handled = none) (it a : Addr) (hne : a ≠ it) (items : Array Value) :
    Draws prog w A it [it, a] items.size (fun i v => items[i]? = some v) (fun i h => cellK k h it a i ∧ objK k h a items) := by
  cases k with
  | l => exact .list hh it a hne items
  | t => exact .tuple hh it a hne items
theorem cellK.obj {k : SK} {h : Heap} {it a : Addr} {i : Nat} (c : cellK k h it a i) : ∃ o, h.get? it = some o ∧ ∀ v, o.data ≠ .cell v := by
  cases k with
  | l => obtain ⟨o, e, _, d⟩ := c; exact ⟨o, e, fun v q => by rw [d] at q; cases q⟩
  | t => obtain ⟨o, e, _, d⟩ := c; exact ⟨o, e, fun v q => by rw [d] at q; cases q⟩
theorem cellK.at {k : SK} {h h' : Heap} {it a : Addr} {i : Nat} (c : cellK k h it a i) (e : ∀ o, h.get? it = some o → h'.get? it = some o) : cellK k h' it a i := by
  cases k with
  | l => exact Heap.IsListIter.at c e
  | t => exact Heap.IsTupleIter.at c e
theorem sqK_obj {X : Cx} {pins : List (Addr × Obj)} {σ : L2.St} {H : Hp} {s : Shared} {k : SK} {a : Addr} {xs : List V} (I : Inv X pins σ H s) (h : SqK X.K k H a xs) : ∃ its, Vals xs its ∧ objK k s.heap a its.toArray ∧ a < s.heap.objs.size := by
  cases k with
  | l =>
    obtain ⟨its, rv, p, _⟩ := I.list h
    exact ⟨its, rv, p.isList, p.lt⟩
  | t =>
    obtain ⟨its, rv, p, _⟩ := I.tuple h
    obtain ⟨o, ho, _⟩ := id p
    exact ⟨its, rv, p, Heap.lt_size ho⟩
theorem sqK_inj {X : Cx} {pins : List (Addr × Obj)} {σ : L2.St} {H : Hp} {s : Shared} {k : SK} {a : Addr} {xs ys : List V} (I : Inv X pins σ H s) (h : SqK X.K k H a xs) (h' : SqK X.K k H a ys) : xs = ys := by
  cases k with
  | l => exact I.list_inj h h'
  | t => exact I.tuple_inj h h'
/-- a and b as they stand at each turn, the items in new pairs -/
def ItzK (K : PySem.W.Frag) (ka kb : SK) (a b : Addr) : L2.It :=
  ⟨fun i H => ∃ (xs ys : List V) (x y : V), SqK K ka H a xs ∧ SqK K kb H b ys ∧ xs[i]? = some x ∧ ys[i]? = some y,
    fun i H v H' => ∃ T x y, v = .ref T ∧ H T = none ∧ H' = upd H T (.tup [x, y]) ∧ (∀ xs, SqK K ka H a xs → xs[i]? = some x) ∧ ∀ ys, SqK K kb H b ys → ys[i]? = some y,
    fun i H => ∃ xs ys : List V, SqK K ka H a xs ∧ SqK K kb H b ys ∧ i ≤ xs.length ∧ i ≤ ys.length ∧ (xs.length = i ∨ ys.length = i)⟩
theorem turn_zipK {P : Program} {w : World} {K : PySem.W.Frag} {elts : List Expr} {kk : Nat} {tpos : Pos} {ka kb : SK} {a b z TI TO i1 i2 : Addr} (D : ZipSep2 z TI TO i1 i2 [i1, a] [i2, b]) (h1a : a ≠ i1) (h2b : b ≠ i2) :
    Turn P w K (.Tuple elts kk tpos) (ItzK K ka kb a b) [z, TI, TO, i1, i2] z (fun i h => IsZip h z TI TO .none ∧ IsTupOf2 h TI (.ref i1) (.ref i2) ∧ (∃ x y, IsTupOf2 h TO x y) ∧ cellK ka h i1 a i ∧ cellK kb h i2 b i) where
  mem := by simp
  obj := fun i h st c hc => by
    obtain ⟨hz, hTI, ⟨x, y, hTO⟩, c1, c2⟩ := st
    have e' : c = z ∨ c = TI ∨ c = TO ∨ c = i1 ∨ c = i2 := by simpa using hc
    rcases e' with q | q | q | q | q <;> subst q
    · exact ⟨_, hz, fun v q => nomatch q⟩
    · exact ⟨_, hTI, fun v q => nomatch q⟩
    · exact ⟨_, hTO, fun v q => nomatch q⟩
    · exact c1.obj
    · exact c2.obj
  keep := fun i h h' st k => by
    obtain ⟨hz, hTI, ⟨x, y, hTO⟩, c1, c2⟩ := st
    exact ⟨k z (by simp) _ hz, k TI (by simp) _ hTI, ⟨x, y, k TO (by simp) _ hTO⟩, c1.at fun o q => k i1 (by simp) o q, c2.at fun o q => k i2 (by simp) o q⟩
  item := by
    intro X hP hw hK hc i pins s σ H E I hf st hg
    subst hP hw hK
    obtain ⟨hz, hTI, ⟨x0, y0, hTO⟩, c1, c2⟩ := st
    obtain ⟨xs, ys, x, y, hqx, hqy, hx, hy⟩ := hg
    obtain ⟨its, rv, p1, l1⟩ := sqK_obj I hqx
    obtain ⟨its2, rv2, p2, l2⟩ := sqK_obj I hqy
    obtain ⟨u, hu, ru⟩ := rv.get hx
    obtain ⟨u2, hu2, ru2⟩ := rv2.get hy
    have hzl : z < s.heap.objs.size := Heap.lt_size hz
    have hh : X.A.in1.handled = none := I.ok.hd hc
    refine wpAny_pyNext_zipD2_item D (drawsK ka hh i1 a h1a its.toArray) (drawsK kb hh i2 b h2b its2.toArray) hz hTI hTO ⟨c1, p1⟩ ⟨c2, p2⟩ (by simpa using (List.getElem?_eq_some_iff.mp hu).1) (by simpa using (List.getElem?_eq_some_iff.mp hu2).1) fun v1 v2 h' tk e1 e2 z' TO' c1' c2' hT hsz hk => ?_
    obtain rfl : u = v1 := by rw [show its.toArray[i]? = some u by simpa using hu] at e1; injection e1
    obtain rfl : u2 = v2 := by rw [show its2.toArray[i]? = some u2 by simpa using hu2] at e2; injection e2
    refine ⟨_, rfl, wpAny_letOwnedTupleGo_zip (s := { s with heap := h', toks := tk }) z' fun h'' z'' sb => ?_⟩
    have hT2 : h''.get? s.heap.objs.size = some { cls := .type "tuple", data := .seq #[u, u2] } := (sb.2 _ (Nat.ne_of_gt hzl)).trans hT
    have new : ObjOk X.prog X.w (upd H s.heap.objs.size (.tup [x, y])) h'' s.heap.objs.size (.tup [x, y]) := ⟨by show 2 ≤ sizeLine; decide, [u, u2], .cons ru (.cons ru2 .nil), ⟨_, hT2, rfl, _, rfl⟩⟩
    have I1 : Inv X pins σ (upd H s.heap.objs.size (.tup [x, y])) { s with heap := h'', toks := tk } :=
      I.turnedNew (ch := [z, TI, TO, i1, i2]) (fun c o hb q => (sb.2 c (fun e => hb (by simp [e]))).trans (hk c o (fun e => hb (by simp [e])) (fun e => hb (by simp [e])) (fun e => hb (by simp [e])) (fun e => hb (by simp [e])) q)) hf (Nat.le_refl _) new
    refine ⟨.ref s.heap.objs.size, _, I1, rfl, ⟨_, x, y, rfl, I.hok.fresh (Nat.le_refl _), rfl, fun l hl => by rw [sqK_inj I hl hqx]; exact hx, fun l hl => by rw [sqK_inj I hl hqy]; exact hy⟩, ⟨z'', ?_, ⟨u, u2, ?_⟩, ?_, ?_⟩, fun c hcm => ?_⟩
    · exact (sb.2 _ D.TIz).trans (hk _ _ D.TIz D.TITO D.TIi1 D.TIi2 hTI)
    · exact (sb.2 _ D.TOz).trans TO'
    · exact c1'.1.at fun o q => (sb.2 _ (Ne.symm D.zi1)).trans q
    · exact c2'.1.at fun o q => (sb.2 _ (Ne.symm D.zi2)).trans q
    · have hlt : c < s.heap.objs.size := by
        have e' : c = z ∨ c = TI ∨ c = TO ∨ c = i1 ∨ c = i2 := by simpa using hcm
        rcases e' with q | q | q | q | q <;> subst q
        · exact hzl
        · exact Heap.lt_size hTI
        · exact Heap.lt_size hTO
        · obtain ⟨_, e1, _⟩ := c1.obj; exact Heap.lt_size e1
        · obtain ⟨_, e2, _⟩ := c2.obj; exact Heap.lt_size e2
      rw [upd_ne (Nat.ne_of_lt hlt)]
      exact (hf c hcm).1
  done := by
    intro X hP hw hK hc i pins s σ H E I hf st hg
    subst hP hw hK
    obtain ⟨hz, hTI, ⟨x0, y0, hTO⟩, c1, c2⟩ := st
    obtain ⟨xs, ys, hqx, hqy, g1, g2, hend⟩ := hg
    obtain ⟨its, rv, p1, l1⟩ := sqK_obj I hqx
    obtain ⟨its2, rv2, p2, l2⟩ := sqK_obj I hqy
    have n1 := rv.length
    have n2 := rv2.length
    have hh : X.A.in1.handled = none := I.ok.hd hc
    refine wpAny_pyNext_zipD2_end D (drawsK ka hh i1 a h1a its.toArray) (drawsK kb hh i2 b h2b its2.toArray) hz hTI hTO ⟨c1, p1⟩ ⟨c2, p2⟩ (by simp; omega) (by simp; omega) (by simp; omega) fun h' tk hk => ⟨rfl, ?_⟩
    exact I.turnedL (ch := [z, TI, TO, i1, i2]) (fun c o hb q => hk c o (fun e => hb (by simp [e])) (fun e => hb (by simp [e])) (fun e => hb (by simp [e])) (fun e => hb (by simp [e])) q) hf
  self := fun A i s Q E st h => wpAny_pyIter_zip st.1 h
def objN (k : SK) (a : Addr) : Obj := match k with
  | .l => { cls := .type "list_iterator", data := .fields #[.ref a, .int 0 0] }
  | .t => { cls := .type "tuple_iterator", data := .fields #[.ref a, .int 0 0] }
theorem beginsK (k : SK) (a : Addr) (items : Array Value) : Begins (.ref a) (objN k a) fun h => objK k h a items := by
  cases k with
  | l => exact begins_list a items
  | t => exact begins_tuple a items
theorem cellN {k : SK} {h : Heap} {it a : Addr} (e : h.get? it = some (objN k a)) : cellK k h it a 0 := by
  cases k with
  | l => exact ⟨_, e, rfl, rfl⟩
  | t => exact ⟨_, e, rfl, rfl⟩
/-- zip of two, each a list or a tuple -/
def iZipK (K : PySem.W.Frag) (ta : TA) : TI := fun σ H R => ta σ H fun vs H1 => ∃ ka kb a b xs ys, vs = [.ref a, .ref b] ∧ SqK K ka H1 a xs ∧ SqK K kb H1 b ys ∧ R (ItzK K ka kb a b) H1
theorem pi_zipK {X : Cx} {e e2 : Expr} {ta : TA} {p pos tpos : Pos} {elts : List Expr} {kk : Nat} (hg : Gl X "zip") (hm : X.mg "zip" = none) (ha : PA X [e, e2] ta)
    (hs : starEach [e, e2] X.env = (false, eval e X.env) :: starEach [e2] X.env) (hpl : (backTo pos (starEach [e2] X.env)).any (·.1) = false) :
    PI X (.Tuple elts kk tpos) (.Call (.Name "zip" p) [e, e2] [] pos) (iZipK X.K ta) := by
  refine ⟨fun pins s σ H R I h => ?_⟩
  refine Call_ (ld_blt I hg hm boot_zip (callWith_type1 (thn (ha.run pos pins s σ H _ I h) fun us s1 ⟨vs, H1, I1, r1, q1⟩ => ?_) hs hpl))
  obtain ⟨ka, kb, a, b, xs, ys, rfl, hqx, hqy, q⟩ := q1
  obtain ⟨u, u2, rfl, ra, rb⟩ : ∃ u u2, us = [u, u2] ∧ L2.RelV (.ref a) u ∧ L2.RelV (.ref b) u2 := by
    cases r1 with
    | cons r rr => cases rr with
      | cons r' rr => cases rr; exact ⟨_, _, rfl, r, r'⟩
  cases ra
  cases rb
  obtain ⟨its, rv, p1, l1⟩ := sqK_obj I1 hqx
  obtain ⟨its2, rv2, p2, l2⟩ := sqK_obj I1 hqy
  generalize hN : s1.heap.objs.size = N at *
  have fresh : ∀ c, c ∈ [N + 4, N + 2, N + 3, N, N + 1] → FpOk X pins H1 c := fun c hcm => by
    have hle : s1.heap.objs.size ≤ c := by
      have e' : c = N + 4 ∨ c = N + 2 ∨ c = N + 3 ∨ c = N ∨ c = N + 1 := by simpa using hcm
      omega
    exact I1.fpOk hle (I1.hok.fresh hle)
  subst hN
  refine zip_begins2 (beginsK ka a its.toArray) (beginsK kb b its2.toArray) p1 p2 fun h' hz hTI hTO h1 h2 hsz hk => wpAny_pyIter_zip hz ?_
  have I2 : Inv X pins σ H1 { s1 with heap := h' } := I1.kept (t' := s1.toks) hk
  refine ⟨s1.heap.objs.size + 4, _, _, _, H1, rfl, I2, turn_zipK (ka := ka) (kb := kb) (zip_sep2 (fp1 := [a]) (fp2 := [b]) (fun c hc => by simp at hc; rw [hc]; exact l1) (fun c hc => by simp at hc; rw [hc]; exact l2)) (Nat.ne_of_lt l1) (Nat.ne_of_lt (Nat.lt_succ_of_lt l2)), ⟨hz, hTI, ⟨_, _, hTO⟩, cellN h1, cellN h2⟩, fresh, q⟩
/-- the two as they are seen in data -/
theorem walk_zipK {K : PySem.W.Frag} {ka kb : SK} {a b : Addr} {vs ws : List V} : Walk (ItzK K ka kb a b) (min vs.length ws.length) (fun H => SqK K ka H a vs ∧ SqK K kb H b ws) (YPair (fun i => vs[i]?) (fun i => ws[i]?)) where
  goes := fun i H hi ⟨q1, q2⟩ => ⟨vs, ws, vs[i]'(by omega), ws[i]'(by omega), q1, q2, by simp, by simp⟩
  stops := fun H ⟨q1, q2⟩ => ⟨vs, ws, q1, q2, by omega, by omega, by omega⟩
  yields := fun i H x H' hi ⟨q1, q2⟩ ⟨t, x1, y1, e1, e2, e3, e4, e5⟩ => ⟨t, x1, y1, e1, e2, e3, e4 vs q1, e5 ws q2⟩
end Pm

set_option maxRecDepth 100000
set_option maxHeartbeats 1000000
/-! enumerate of a list or a tuple -/
namespace Pm
open PySem L2 PySem.Spec PyProof.Rows
theorem meets_enumB {v : Value} {o : Obj} {H : Heap → Prop} (B : Begins v o H) :
    Meets (Builtin.«enumerate.__new__» ⟨[.type "enumerate", v], []⟩) (fun _ R s => H s.heap ∧
      R (.ok (.ret (.ref (s.heap.push o).objs.size))) { s with heap := (s.heap.push o).push { cls := .type "enumerate", data := .fields #[.none, .bool false, .ref s.heap.objs.size, rawInt 0, .none, .none] } }) :=
  .of_wp fun prog w A R s h => by
    obtain ⟨hp, g, d, tk, os⟩ := s
    obtain ⟨hH, h⟩ := h
    have hsub := sub_enumerate
    wp_walk
    refine wpAny_stack_any fun st => wpAny_pure ?_
    split
    · rename_i c _ _ _ _ _
      cases (c == Value.type "enumerate")
      · wp_walk using B.iter _ _ _ _ _ _ hH
        exact ⟨_, rfl, h⟩
      · wp_walk using B.iter _ _ _ _ _ _ hH
        exact ⟨_, rfl, h⟩
    · wp_walk using B.iter _ _ _ _ _ _ hH
      exact ⟨_, rfl, h⟩
section
variable {prog : Program} {w : World} {A : Around} {E : Value → Shared → Prop} {s : Shared}
theorem call_enumB {v : Value} {o : Obj} {H : Heap → Prop} {Q : Value → Shared → Prop} (B : Begins v o H) (h1 : H s.heap)
    (h : ∀ h', IsEnum h' (s.heap.objs.size + 1) s.heap.objs.size 0 .none → h'.get? s.heap.objs.size = some o → (∀ b o, s.heap.get? b = some o → h'.get? b = some o) → Q (.ref (s.heap.objs.size + 1)) { s with heap := h' }) :
    wpAny (model prog w) A (call (.type "enumerate") [v]) Q E s := by
  refine callType_new F.called_enumerate (by decide) (F.typeCall_enumerate_1 _) (F.newCall_enumerate_1 _) (fun obj => F.args_object_init_2 obj _) F.entry_enumerate_new (meets_enumB B) ⟨h1, ?_⟩
  have hz : (s.heap.push o).objs.size = s.heap.objs.size + 1 := Heap.size_push ..
  show _ ∧ _
  rw [hz]
  have he : IsEnum ((s.heap.push o).push { cls := .type "enumerate", data := .fields #[.none, .bool false, .ref s.heap.objs.size, rawInt 0, .none, .none] }) (s.heap.objs.size + 1) s.heap.objs.size 0 .none := by
    have q := Heap.get?_push_size (s.heap.push o) (o := { cls := .type "enumerate", data := .fields #[.none, .bool false, .ref s.heap.objs.size, rawInt 0, .none, .none] }) rfl
    rw [hz] at q; exact q
  exact ⟨⟨_, he, rfl⟩, h _ he (Heap.get?_push_of_some _ (Heap.get?_push_size _ B.free)) fun b u x => Heap.get?_push_of_some _ (Heap.get?_push_of_some _ x)⟩
end
/-- a as it stands at each turn, each item in a new pair behind its place -/
def IteK (K : PySem.W.Frag) (k : SK) (a : Addr) : L2.It :=
  ⟨fun i H => ∃ (xs : List V) (x : V), SqK K k H a xs ∧ xs[i]? = some x,
    fun i H v H' => ∃ T x, v = .ref T ∧ H T = none ∧ H' = upd H T (.tup [.int (i : Nat), x]) ∧ ∀ xs, SqK K k H a xs → xs[i]? = some x,
    fun i H => ∃ xs : List V, SqK K k H a xs ∧ xs.length = i⟩
theorem turn_enumK {P : Program} {w : World} {K : PySem.W.Frag} {elts : List Expr} {kk : Nat} {tpos : Pos} {k : SK} {a e it : Addr} (h1 : a ≠ it) (h2 : e ≠ it) (h3 : a ≠ e) :
    Turn P w K (.Tuple elts kk tpos) (IteK K k a) [e, it] e (fun i h => (∃ old, IsEnum h e it ((i : Nat) : Int) old) ∧ cellK k h it a i) where
  mem := by simp
  obj := fun i h st c hc => by
    obtain ⟨⟨old, he⟩, c1⟩ := st
    have e' : c = e ∨ c = it := by simpa using hc
    rcases e' with q | q <;> subst q
    · exact ⟨_, he, fun v q => nomatch q⟩
    · exact c1.obj
  keep := fun i h h' st k => by
    obtain ⟨⟨old, he⟩, c1⟩ := st
    exact ⟨⟨old, k e (by simp) _ he⟩, c1.at fun o q => k it (by simp) o q⟩
  item := by
    intro X hP hw hK hc i pins s σ H E I hf st hg
    subst hP hw hK
    obtain ⟨⟨old, he⟩, c1⟩ := st
    obtain ⟨xs, x, hq, hx⟩ := hg
    obtain ⟨its, rv, p1, l1⟩ := sqK_obj I hq
    obtain ⟨u, hu, ru⟩ := rv.get hx
    have hel : e < s.heap.objs.size := Heap.lt_size he
    have hh : X.A.in1.handled = none := I.ok.hd hc
    have hef : e ∉ [it, a] := by simp; exact ⟨h2, Ne.symm h3⟩
    refine wpAny_pyNext_enum_itemC (drawsK k hh it a h1 its.toArray) he ⟨c1, p1⟩ (by simpa using (List.getElem?_eq_some_iff.mp hu).1) h2 hef fun v1 h' tk e1 ho c1' hT hsz hk => ?_
    obtain rfl : u = v1 := by rw [show its.toArray[i]? = some u by simpa using hu] at e1; injection e1
    refine ⟨_, rfl, wpAny_letOwnedTupleGo_enum (s := { s with heap := h', toks := tk + 1 }) ho fun h'' he' sb => ?_⟩
    have hT2 : h''.get? s.heap.objs.size = some { cls := .type "tuple", data := .seq #[.int i tk, u] } := (sb.2 _ (Nat.ne_of_gt hel)).trans hT
    have new : ObjOk X.prog X.w (upd H s.heap.objs.size (.tup [.int (i : Nat), x])) h'' s.heap.objs.size (.tup [.int (i : Nat), x]) := ⟨by show 2 ≤ sizeLine; decide, [.int i tk, u], .cons ⟨_, rfl⟩ (.cons ru .nil), ⟨_, hT2, rfl, _, rfl⟩⟩
    have I1 : Inv X pins σ (upd H s.heap.objs.size (.tup [.int (i : Nat), x])) { s with heap := h'', toks := tk + 1 } :=
      I.turnedNew (ch := [e, it]) (fun c o hb q => (sb.2 c (fun z => hb (by simp [z]))).trans (hk c o (fun z => hb (by simp [z])) (fun z => hb (by simp [z])) q)) hf (Nat.le_refl _) new
    refine ⟨.ref s.heap.objs.size, _, I1, rfl, ⟨_, x, rfl, I.hok.fresh (Nat.le_refl _), rfl, fun l hl => by rw [sqK_inj I hl hq]; exact hx⟩, ⟨⟨u, ?_⟩, c1'.1.at fun o q => (sb.2 _ (Ne.symm h2)).trans q⟩, fun c hcm => ?_⟩
    · rw [show ((i + 1 : Nat) : Int) = (i : Int) + 1 by omega]; exact he'
    · have hlt : c < s.heap.objs.size := by
        have e' : c = e ∨ c = it := by simpa using hcm
        rcases e' with q | q <;> subst q
        · exact hel
        · obtain ⟨_, e1, _⟩ := c1.obj; exact Heap.lt_size e1
      rw [upd_ne (Nat.ne_of_lt hlt)]
      exact (hf c hcm).1
  done := by
    intro X hP hw hK hc i pins s σ H E I hf st hg
    subst hP hw hK
    obtain ⟨⟨old, he⟩, c1⟩ := st
    obtain ⟨xs, hq, hend⟩ := hg
    obtain ⟨its, rv, p1, l1⟩ := sqK_obj I hq
    have n1 := rv.length
    have hh : X.A.in1.handled = none := I.ok.hd hc
    have hn : its.toArray.size = i := by rw [List.size_toArray]; omega
    refine wpAny_pyNext_enum_endD (drawsK k hh it a h1 its.toArray) he (by rw [hn]; exact ⟨c1, p1⟩) fun h' hk => ⟨rfl, ?_⟩
    exact I.turnedL (t' := s.toks) (ch := [e, it]) (fun c o hb q => hk c o (fun z => hb (by simp [z])) q) hf
  self := fun A i s Q E st h => let ⟨⟨_, he⟩, _⟩ := st; wpAny_pyIter_enum he h
def iEnumK (K : PySem.W.Frag) (ta : TA) : TI := fun σ H R => ta σ H fun vs H1 => ∃ k a xs, vs = [.ref a] ∧ SqK K k H1 a xs ∧ R (IteK K k a) H1
theorem pi_enumK {X : Cx} {e : Expr} {ta : TA} {p pos tpos : Pos} {elts : List Expr} {kk : Nat} (hg : Gl X "enumerate") (hm : X.mg "enumerate" = none) (ha : PA X [e] ta) (hs : starEach [e] X.env = [(false, eval e X.env)]) :
    PI X (.Tuple elts kk tpos) (.Call (.Name "enumerate" p) [e] [] pos) (iEnumK X.K ta) := by
  refine ⟨fun pins s σ H R I h => ?_⟩
  refine Call_ (ld_blt I hg hm boot_enumerate (callWith_type1 (thn (ha.run pos pins s σ H _ I h) fun us s1 ⟨vs, H1, I1, r1, q1⟩ => ?_) hs rfl))
  obtain ⟨k, a, xs, rfl, hq, q⟩ := q1
  obtain ⟨u, rfl, ra⟩ := vals1 r1
  cases ra
  obtain ⟨its, rv, p1, l1⟩ := sqK_obj I1 hq
  refine call_enumB (beginsK k a its.toArray) p1 fun h' he hit hk => wpAny_pyIter_enum he ?_
  have I2 : Inv X pins σ H1 { s1 with heap := h' } := I1.kept (t' := s1.toks) hk
  refine ⟨s1.heap.objs.size + 1, [s1.heap.objs.size + 1, s1.heap.objs.size], _, _, H1, rfl, I2, turn_enumK (k := k) (Nat.ne_of_lt l1) (Nat.succ_ne_self _) (Nat.ne_of_lt (Nat.lt_succ_of_lt l1)), ⟨⟨.none, he⟩, cellN hit⟩, fun b hb => ?_, q⟩
  have hle : s1.heap.objs.size ≤ b := by
    have e' : b = s1.heap.objs.size + 1 ∨ b = s1.heap.objs.size := by simpa using hb
    rcases e' with z | z
    · rw [z]; exact Nat.le_succ _
    · rw [z]; exact Nat.le_refl _
  exact I1.fpOk hle (I1.hok.fresh hle)
theorem walk_enumK {K : PySem.W.Frag} {k : SK} {a : Addr} {vs : List V} : Walk (IteK K k a) vs.length (fun H => SqK K k H a vs) (YPair (fun i => some (.int (i : Nat))) (fun i => vs[i]?)) where
  goes := fun i H hi q1 => ⟨vs, vs[i]'hi, q1, by simp⟩
  stops := fun H q1 => ⟨vs, q1, rfl⟩
  yields := fun i H x H' hi q1 ⟨t, x1, e1, e2, e3, e4⟩ => ⟨t, .int (i : Nat), x1, e1, e2, e3, rfl, e4 vs q1⟩
end Pm

set_option maxRecDepth 100000
set_option maxHeartbeats 1000000
/-! Lists of the store that are walked -/
namespace Pm
open PySem L2
mutual
theorem same_eq : ∀ {a b : D}, D.same a b = true → a = b
  | .non, b, h => by cases b <;> first | rfl | (simp [D.same] at h)
  | .bl x, b, h => by cases b <;> simp [D.same] at h; rw [h]
  | .int x, b, h => by cases b <;> simp [D.same] at h; rw [h]
  | .str x, b, h => by cases b <;> simp [D.same] at h; rw [h]
  | .lst xs, b, h => by cases b <;> simp [D.same] at h; rw [sames_eq h]
  | .tup xs, b, h => by cases b <;> simp [D.same] at h; rw [sames_eq h]
  | .frl xs, b, h => by cases b <;> simp [D.same] at h; rw [sames_eq h]
  | .ins c fs, b, h => by cases b <;> simp [D.same] at h; rw [h.1, samef_eq h.2]
  | .own x, b, h => by cases b <;> simp [D.same] at h; rw [h]
  | .ty x, b, h => by cases b <;> simp [D.same] at h; rw [h]
  | .cls x, b, h => by cases b <;> simp [D.same] at h; rw [h]
theorem sames_eq : ∀ {a b : List D}, D.sames a b = true → a = b
  | [], b, h => by cases b <;> first | rfl | (simp [D.sames] at h)
  | a :: as, b, h => by
    cases b with
    | nil => simp [D.sames] at h
    | cons b bs =>
      rw [D.sames, Bool.and_eq_true] at h
      rw [same_eq h.1, sames_eq h.2]
theorem samef_eq : ∀ {a b : List (Str × D)}, D.samef a b = true → a = b
  | [], b, h => by cases b <;> first | rfl | (simp [D.samef] at h)
  | (f, a) :: as, b, h => by
    cases b with
    | nil => simp [D.samef] at h
    | cons b bs =>
      obtain ⟨g, b⟩ := b
      rw [D.samef, Bool.and_eq_true, Bool.and_eq_true, decide_eq_true_eq] at h
      rw [h.1.1, same_eq h.1.2, samef_eq h.2]
end
mutual
theorem same_rfl : ∀ (a : D), D.same a a = true
  | .non => rfl
  | .bl x => by simp [D.same]
  | .int x => by simp [D.same]
  | .str x => by simp [D.same]
  | .lst xs => by rw [D.same]; exact sames_rfl xs
  | .tup xs => by rw [D.same]; exact sames_rfl xs
  | .frl xs => by rw [D.same]; exact sames_rfl xs
  | .ins c fs => by rw [D.same, samef_rfl fs]; simp
  | .own x => by simp [D.same]
  | .ty x => by simp [D.same]
  | .cls x => by simp [D.same]
theorem sames_rfl : ∀ (a : List D), D.sames a a = true
  | [] => rfl
  | a :: as => by rw [D.sames, same_rfl a, sames_rfl as]; rfl
theorem samef_rfl : ∀ (a : List (Str × D)), D.samef a a = true
  | [] => rfl
  | (f, a) :: as => by rw [D.samef, same_rfl a, samef_rfl as]; simp
end
theorem okW_app {w u : Wt} {m : Mu} : okW (w ++ u) m = (okW w m && okW u m) := by
  unfold okW
  rw [List.all_append]
theorem okW_one {k : Nat} {ds : List D} {m : Mu} (h : m[k]? = some (.lst ds)) : okW [(k, ds)] m = true := by
  unfold okW
  rw [List.all_cons, List.all_nil, Bool.and_true]
  dsimp only
  rw [h]
  exact sames_rfl ds
theorem okW_get {k : Nat} {ds : List D} {m : Mu} (h : okW [(k, ds)] m = true) : m[k]? = some (.lst ds) := by
  unfold okW at h
  rw [List.all_cons, List.all_nil, Bool.and_true] at h
  dsimp only at h
  split at h
  · rename_i xs e
    rw [e, sames_eq h]
  · cases h
section
variable {T : Tb} {Z : Hp} {α : List Addr}
theorem sqT_mono {K : PySem.W.Frag} {H H' : Hp} (h : ∀ a o, H a = some o → H' a = some o) {a : Addr} {vs : List V} (q : SqT K H a vs) : SqT K H' a vs := by
  rcases q with (q | ⟨o, q⟩) | q
  · exact .inl (.inl (h _ _ q))
  · exact .inl (.inr ⟨o, h _ _ q⟩)
  · exact .inr q
theorem sqK_mono {K : PySem.W.Frag} {k : SK} {H H' : Hp} {a : Addr} {vs : List V} (h : ∀ a o, H a = some o → H' a = some o) (q : SqK K k H a vs) : SqK K k H' a vs := by
  cases k with
  | l => exact sqL_mono h q
  | t => exact sqT_mono h q
/-- a list or a tuple that stays as it is while w says so -/
def SeqW (T : Tb) (k : SK) (a : Addr) (ds : List D) (w : Wt) (Z : Hp) (α : List Addr) : Prop := ∀ (H Z2 : Hp) (α2 : List Addr) (m : Mu), Le Z α Z2 α2 → Rep T H Z2 α2 m → okW w m = true → ∃ vs, SqK T.K k H a vs ∧ Dns T Z2 α2 vs ds
theorem lookW_at {H : Hp} {m : Mu} {v : V} {d : D} {ds : List D} {w : Wt} (R : Rep T H Z α m) (dv : Dn T Z α v d) (e : lookW m d = some (ds, w)) : ∃ k a, v = .ref a ∧ SeqW T k a ds w Z α ∧ okW w m = true ∧ (k = .t ↔ ∃ xs, d = .tup xs) := by
  cases dv with
  | tup e1 e2 => cases e; exact ⟨.t, _, rfl, fun H2 Z2 α2 m2 le R2 _ => ⟨_, SqT.of (R2.sub _ _ (le.z _ _ e1)), e2.mono le⟩, rfl, by simp⟩
  | lst e1 e2 => cases e; exact ⟨.l, _, rfl, fun H2 Z2 α2 m2 le R2 _ => ⟨_, SqL.of (R2.sub _ _ (le.z _ _ e1)), e2.mono le⟩, rfl, by simp⟩
  | frl e1 e2 => cases e; exact ⟨.l, _, rfl, fun H2 Z2 α2 m2 le R2 _ => ⟨_, sqL_mono R2.sub (sqL_mono le.z e1), e2.mono le⟩, rfl, by simp⟩
  | own e1 =>
    simp only [lookW] at e
    split at e
    · rename_i xs h
      cases e
      refine ⟨.l, _, rfl, fun H2 Z2 α2 m2 le R2 ok => ?_, okW_one h, by simp⟩
      obtain ⟨vs, h1, h2⟩ := R2.obj _ _ _ (le.get e1) (okW_get ok)
      exact ⟨vs, SqL.of h1, h2⟩
    · cases e
  | _ => cases e
theorem SeqW.more {k : SK} {a : Addr} {ds : List D} {w u : Wt} (h : SeqW T k a ds w Z α) (hw : ∀ m, okW u m = true → okW w m = true) : SeqW T k a ds u Z α := fun H Z2 α2 m le R ok => h H Z2 α2 m le R (hw m ok)
theorem SeqW.mono {k : SK} {a : Addr} {ds : List D} {w : Wt} {Z' : Hp} {α' : List Addr} (h : SeqW T k a ds w Z α) (le : Le Z α Z' α') : SeqW T k a ds w Z' α' := fun H Z2 α2 m le2 R ok => h H Z2 α2 m (le.trans le2) R ok
end
/-! what is walked, as far as its length stands -/
section
variable {K : PySem.W.Frag} {k ka kb : SK} {a b : Addr} {n n2 : Nat}
def ItK (K : PySem.W.Frag) (k : SK) (a : Addr) : L2.It := match k with
  | .l => Itl K a
  | .t => Itt K a
theorem walk_seqN : Walk (ItK K k a) n (fun H => ∃ vs, SqK K k H a vs ∧ vs.length = n) (fun i H x H' => H' = H ∧ ∀ vs, SqK K k H a vs → vs[i]? = some x) := by
  cases k with
  | l => exact ⟨fun i _ hi ⟨vs, q, e⟩ => ⟨vs, vs[i]'(by omega), q, by simp⟩, fun _ ⟨vs, q, e⟩ => ⟨vs, q, Nat.le_of_eq e⟩, fun _ _ _ _ _ _ y => y⟩
  | t => exact ⟨fun i _ hi ⟨vs, q, e⟩ => ⟨vs, vs[i]'(by omega), q, by simp⟩, fun _ ⟨vs, q, e⟩ => ⟨vs, q, Nat.le_of_eq e⟩, fun _ _ _ _ _ _ y => y⟩
theorem walk_zipN : Walk (ItzK K ka kb a b) (min n n2) (fun H => (∃ vs, SqK K ka H a vs ∧ vs.length = n) ∧ ∃ ws, SqK K kb H b ws ∧ ws.length = n2)
    (fun i H v H' => ∃ T x y, v = .ref T ∧ H T = none ∧ H' = upd H T (.tup [x, y]) ∧ (∀ xs, SqK K ka H a xs → xs[i]? = some x) ∧ ∀ ys, SqK K kb H b ys → ys[i]? = some y) where
  goes := fun i H hi ⟨⟨vs, q1, e1⟩, ws, q2, e2⟩ => ⟨vs, ws, vs[i]'(by omega), ws[i]'(by omega), q1, q2, by simp, by simp⟩
  stops := fun H ⟨⟨vs, q1, e1⟩, ws, q2, e2⟩ => ⟨vs, ws, q1, q2, by omega, by omega, by omega⟩
  yields := fun i H x H' hi _ y => y
theorem walk_enumN : Walk (IteK K k a) n (fun H => ∃ vs, SqK K k H a vs ∧ vs.length = n)
    (fun i H v H' => ∃ T x, v = .ref T ∧ H T = none ∧ H' = upd H T (.tup [.int (i : Nat), x]) ∧ ∀ xs, SqK K k H a xs → xs[i]? = some x) where
  goes := fun i H hi ⟨vs, q1, e1⟩ => ⟨vs, vs[i]'(by omega), q1, by simp⟩
  stops := fun H ⟨vs, q1, e1⟩ => ⟨vs, q1, e1⟩
  yields := fun i H x H' hi _ y => y
end
end Pm

set_option maxRecDepth 100000
set_option maxHeartbeats 4000000
/-! What is walked, targets -/
namespace Pm
open PySem L2
section
variable {G : Gm} {W : XK} {X : Cx} {N : List Str} {lv : Nat} {sc : Scope} {T : Tb} {Z : Hp} {α : List Addr} {a b : Addr} {vs ws : List V} {ds es : List D}
theorem wd_seqK {k : SK} {w : Wt} (h : SeqW T k a ds w Z α) : WalkD T (ItK T.K k a) ds w Z α := by
  refine ⟨_, _, walk_seqN, fun H Z2 α2 m le R ok => let ⟨vs, h1, h2⟩ := h H Z2 α2 m le R ok; ⟨vs, h1, h2.len⟩, fun i H x H' hi _ y Z2 α2 m le R ok => ?_⟩
  obtain ⟨rfl, hx⟩ := y
  obtain ⟨vs, h1, h2⟩ := h _ Z2 α2 m le R ok
  obtain ⟨d, e1, e2⟩ := h2.get' (hx vs h1)
  exact ⟨Z2, d, e1, .rfl', R, e2⟩
theorem wd_range {T : Tb} {Z : Hp} {α : List Addr} {lo : Int} {n : Nat} : WalkD T (Itr lo n) ((List.range n).map fun (i : Nat) => D.int (lo + (i : Int))) [] Z α := by
  refine ⟨fun _ => True, YFn fun i => .int (lo + (i : Int)), ?_, fun _ _ _ _ _ _ _ => trivial, fun i H x H' hi _ y Z2 α2 m le R _ => ?_⟩
  · have : ((List.range n).map fun (i : Nat) => D.int (lo + (i : Int))).length = n := by simp
    rw [this]
    exact walk_range
  · obtain ⟨rfl, rfl⟩ := y
    simp only [List.length_map, List.length_range] at hi
    exact ⟨Z2, .int (lo + (i : Int)), by simp [hi], .rfl', R, .int _⟩
theorem wd_zipK {ka kb : SK} {w u : Wt} (h1 : SeqW T ka a ds w Z α) (h2 : SeqW T kb b es u Z α) : WalkD T (ItzK T.K ka kb a b) (List.zipWith (fun x y => D.tup [x, y]) ds es) (w ++ u) Z α := by
  have hs : ∀ {m : Mu}, okW (w ++ u) m = true → okW w m = true ∧ okW u m = true := fun q => by rwa [okW_app, Bool.and_eq_true] at q
  have hw := walk_zipN (K := T.K) (ka := ka) (kb := kb) (a := a) (b := b) (n := ds.length) (n2 := es.length)
  rw [← List.length_zipWith (f := fun x y => D.tup [x, y])] at hw
  refine ⟨_, _, hw, fun H Z2 α2 m le R ok => ⟨let ⟨vs, q1, q2⟩ := h1 H Z2 α2 m le R (hs ok).1; ⟨vs, q1, q2.len⟩, let ⟨vs, q1, q2⟩ := h2 H Z2 α2 m le R (hs ok).2; ⟨vs, q1, q2.len⟩⟩, fun i H x H' hi _ y Z2 α2 m le R ok => ?_⟩
  obtain ⟨t, x1, y1, rfl, ht, rfl, g1, g2⟩ := y
  obtain ⟨vs, q1, q2⟩ := h1 _ Z2 α2 m le R (hs ok).1
  obtain ⟨ws, q3, q4⟩ := h2 _ Z2 α2 m le R (hs ok).2
  obtain ⟨d, e1, e2⟩ := q2.get' (g1 vs q1)
  obtain ⟨e, f1, f2⟩ := q4.get' (g2 ws q3)
  have le2 := le_new (o := .tup [x1, y1]) R ht
  exact ⟨_, .tup [d, e], by rw [List.getElem?_zipWith, e1, f1], Fut.new R ht, R.new ht, .tup upd_same (.cons (e2.mono le2) (.cons (f2.mono le2) .nil))⟩
theorem wd_enumK {k : SK} {w : Wt} (h1 : SeqW T k a ds w Z α) : WalkD T (IteK T.K k a) ((List.range ds.length).zipWith (fun i x => .tup [.int (i : Nat), x]) ds) w Z α := by
  have hn : ((List.range ds.length).zipWith (fun (i : Nat) x => D.tup [.int (i : Nat), x]) ds).length = ds.length := by rw [List.length_zipWith, List.length_range]; omega
  have hw := walk_enumN (K := T.K) (k := k) (a := a) (n := ds.length)
  rw [← hn] at hw
  refine ⟨_, _, hw, fun H Z2 α2 m le R ok => let ⟨vs, q1, q2⟩ := h1 H Z2 α2 m le R ok; ⟨vs, q1, q2.len.trans hn.symm⟩, fun i H x H' hi _ y Z2 α2 m le R ok => ?_⟩
  obtain ⟨t, x1, rfl, ht, rfl, g1⟩ := y
  obtain ⟨vs, q1, q2⟩ := h1 _ Z2 α2 m le R ok
  obtain ⟨d, e1, e2⟩ := q2.get' (g1 vs q1)
  have le2 := le_new (o := .tup [.int (i : Nat), x1]) R ht
  have hi' : i < ds.length := by rw [← hn]; exact hi
  exact ⟨_, .tup [.int (i : Nat), d], by rw [List.getElem?_zipWith, List.getElem?_range hi', e1], Fut.new R ht, R.new ht, .tup upd_same (.cons (.int _) (.cons (e2.mono le2) .nil))⟩
theorem si_val {tg : Expr} {e : Expr} {x : E} (h : CxOk G N lv W sc X) (he : SE G W X e x) : SI G W X tg e (.val x) := fun σ H Z α ρ m R Rp En q => by
  have hK : G.T.K = X.K := h.good.gk.eK
  unfold evI at q
  have lst : (∀ ds m1, evE G x ρ m ≠ .ok (.tup ds) m1) → tAI X tg e σ H R := fun hn => by
    refine ⟨_, pi_list pe_all, ?_⟩
    have q2 := he σ H Z α ρ m (fun x H1 => ∃ a, x = .ref a ∧ (∃ xs, SqL X.K H1 a xs) ∧ R (Itl X.K a) H1) Rp En
    cases er : evE G x ρ m with
    | ok d m1 =>
      rw [er] at q q2
      refine q2 fun H1 Z1 α1 F1 R1 v dv => ?_
      have p1 := q.bind H1 Z1 α1 F1 R1
      dsimp only at p1
      split at p1
      · rename_i dw ew
        obtain ⟨ds, w⟩ := dw
        obtain ⟨k, a, rfl, hs, ok, ht⟩ := lookW_at R1 dv ew
        cases k with
        | l =>
          obtain ⟨vs, h1, h2⟩ := hs H1 Z1 α1 m1 .rfl' R1 ok
          exact ⟨a, rfl, ⟨vs, hK ▸ h1⟩, hK ▸ p1.now R1 ok _ (wd_seqK hs)⟩
        | t =>
          obtain ⟨xs, rfl⟩ := ht.mp rfl
          exact absurd er (hn _ _)
      · exact p1.elim
    | ex y m1 => rw [er] at q q2; exact q2 q
    | no => rw [er] at q; exact q.elim
  cases er : evE G x ρ m with
  | ok d m1 =>
    by_cases ht : ∃ ds, d = .tup ds
    · obtain ⟨ds, rfl⟩ := ht
      refine ⟨_, pi_tup pe_all, ?_⟩
      have q2 := he σ H Z α ρ m (fun x H1 => ∃ a, x = .ref a ∧ (∃ xs, SqT X.K H1 a xs) ∧ R (Itt X.K a) H1) Rp En
      rw [er] at q q2
      refine q2 fun H1 Z1 α1 F1 R1 v dv => ?_
      have p1 := q.bind H1 Z1 α1 F1 R1
      obtain ⟨k, a, rfl, hs, ok, ht⟩ := lookW_at R1 dv (ds := ds) (w := []) rfl
      obtain rfl : k = .t := ht.mpr ⟨ds, rfl⟩
      obtain ⟨vs, h1, h2⟩ := hs H1 Z1 α1 m1 .rfl' R1 ok
      exact ⟨a, rfl, ⟨vs, hK ▸ h1⟩, hK ▸ Post.now p1 R1 ok _ (wd_seqK hs)⟩
    · exact lst fun ds m2 z => ht ⟨ds, by rw [er] at z; cases z; rfl⟩
  | ex y m1 => exact lst fun ds m2 z => by rw [er] at z; cases z
  | no => exact lst fun ds m2 z => by rw [er] at z; cases z
theorem bl_in (h : CxOk G N lv W sc X) {x : Str} (hx : x ∈ (["len", "min", "max", "int", "tuple", "list", "isinstance", "any", "all", "range", "zip", "enumerate", "str", "bool", "repr"] : List Str)) : X.mg x = none := h.good.bl x hx
theorem evEs_len : ∀ {irs : List E} {ρ : Env} {m m' : Mu} {ds : List D}, evEs G irs ρ m = .ok ds m' → ds.length = irs.length
  | [], _, _, _, _, e => by unfold evEs at e; cases e; rfl
  | i :: irs, ρ, m, m', ds, e => by
    unfold evEs at e
    cases h : evE G i ρ m with
    | ok d m1 =>
      rw [h] at e
      simp only [Rs.bind] at e
      cases h2 : evEs G irs ρ m1 with
      | ok ds2 m2 =>
        rw [h2] at e
        cases e
        rw [List.length_cons, List.length_cons, evEs_len h2]
      | ex x m2 => rw [h2] at e; cases e
      | no => rw [h2] at e; cases e
    | ex x m1 => rw [h] at e; cases e
    | no => rw [h] at e; cases e
theorem Post.lens {H Z : Hp} {α : List Addr} {irs : List E} {ρ : Env} {m : Mu} {K : List D → Mu → Hp → Hp → List Addr → Prop} (q : Post G.T W H Z α (evEs G irs ρ m) K) : Post G.T W H Z α (evEs G irs ρ m) (fun ds m' H' Z' α' => ds.length = irs.length ∧ K ds m' H' Z' α') := by
  cases e : evEs G irs ρ m with
  | ok ds m1 =>
    rw [e] at q
    exact fun H' Z' α' f R => ⟨evEs_len e, q H' Z' α' f R⟩
  | ex x m1 => rw [e] at q; exact q
  | no => rw [e] at q; exact q
theorem All2.len {β γ : Type} {R : β → γ → Prop} : ∀ {as : List β} {bs : List γ}, All2 R as bs → as.length = bs.length
  | _, _, .nil => rfl
  | _, _, .cons _ r => by rw [List.length_cons, List.length_cons, All2.len r]
theorem si_rng {tg : Expr} {p pos : Pos} {es : List Expr} {irs : List E} (h : CxOk G N lv W sc X) (hg : isGl (sc.names.lookup ("range" : Str)) = true) (hs : es.all noStar = true) (hl : es.length = 1 ∨ es.length = 2) (ha : All2 (SE G W X) es irs) :
    SI G W X tg (.Call (.Name "range" p) es [] pos) (.rng irs) := fun σ H Z α ρ m R Rp En q => by
  have hm : X.mg "range" = none := bl_in h (by decide +kernel)
  have hl2 := ha.len
  unfold evI at q
  match es, hl with
  | [e], _ =>
    have hs' := hs
    rw [List.all_cons, Bool.and_eq_true] at hs
    refine ⟨_, pi_range1 (h.glob _ hg) hm pa_all (star_cons hs.1), ?_⟩
    refine ses_of hs' ha σ H Z α ρ m _ Rp En (q.bind.lens.mono fun ds m1 H1 Z1 α1 F1 R1 ⟨hn, p1⟩ vs dvs => ?_)
    rw [← hl2] at hn
    match ds, hn with
    | [d], _ =>
      obtain ⟨v, rfl, dv⟩ := dns1 dvs
      split at p1
      · rename_i xs e1
        unfold rngD at e1
        split at e1
        · rename_i n e2
          cases e2
          cases dv
          split at e1
          · rename_i hb
            cases e1
            exact ⟨n, rfl, hb.2, hb.1, p1.now R1 rfl _ wd_range⟩
          · cases e1
        · rename_i e2; cases e2
        · cases e1
      · exact p1.elim
  | [e, e2], _ =>
    have hs' := hs
    rw [List.all_cons, Bool.and_eq_true, List.all_cons, Bool.and_eq_true] at hs
    refine ⟨_, pi_range2 (h.glob _ hg) hm pa_all (by rw [star_cons hs.1, star_cons hs.2.1]; rfl) (by rw [star_cons hs.2.1]; rfl), ?_⟩
    refine ses_of hs' ha σ H Z α ρ m _ Rp En (q.bind.lens.mono fun ds m1 H1 Z1 α1 F1 R1 ⟨hn, p1⟩ vs dvs => ?_)
    rw [← hl2] at hn
    match ds, hn with
    | [d, d2], _ =>
      obtain ⟨v, v2, rfl, dv, dv2⟩ := dns2 dvs
      split at p1
      · rename_i xs e1
        unfold rngD at e1
        split at e1
        · rename_i n e2; cases e2
        · rename_i n k e2
          cases e2
          cases dv
          cases dv2
          split at e1
          · rename_i hb
            cases e1
            exact ⟨n, k, rfl, hb, p1.now R1 rfl _ wd_range⟩
          · cases e1
        · cases e1
      · exact p1.elim
theorem si_zip {elts : List Expr} {k : Nat} {tp p pos : Pos} {a b : Expr} {x y : E} (h : CxOk G N lv W sc X) (hg : isGl (sc.names.lookup ("zip" : Str)) = true) (hs : [a, b].all noStar = true) (ha : SE G W X a x) (hb : SE G W X b y) :
    SI G W X (.Tuple elts k tp) (.Call (.Name "zip" p) [a, b] [] pos) (.zip x y) := fun σ H Z α ρ m R Rp En q => by
  have hK : G.T.K = X.K := h.good.gk.eK
  have hm : X.mg "zip" = none := bl_in h (by decide +kernel)
  have hs' := hs
  rw [List.all_cons, Bool.and_eq_true] at hs'
  unfold evI at q
  refine ⟨_, pi_zipK (h.glob _ hg) hm pa_all (star_cons hs'.1) (star_all hs'.2), ?_⟩
  refine ⟨_, pa_cons pe_all (pa_cons pe_all pa_nil (star_cons (by rw [List.all_cons, Bool.and_eq_true] at hs'; exact hs'.2.1))) (star_cons hs'.1), ?_⟩
  refine ha σ H Z α ρ m _ Rp En (q.bind.mono fun d m1 H1 Z1 α1 F1 R1 p1 v dv => ?_)
  refine hb σ H1 Z1 α1 ρ m1 _ R1 (En.mono F1.le) (p1.bind.mono fun d2 m2 H2 Z2 α2 F2 R2 p2 u du => ?_)
  have dv2 := dv.mono F2.le
  split at p2
  · rename_i ps e1
    unfold zipD at e1
    split at e1
    · rename_i xs w ys u l1 l2
      cases e1
      obtain ⟨ka, a1, rfl, s1, k1, _⟩ := lookW_at R2 dv2 l1
      obtain ⟨kb, a2, rfl, s2, k2, _⟩ := lookW_at R2 du l2
      obtain ⟨vs, h1, _⟩ := s1 H2 Z2 α2 m2 .rfl' R2 k1
      obtain ⟨ws, h2, _⟩ := s2 H2 Z2 α2 m2 .rfl' R2 k2
      exact ⟨ka, kb, _, _, _, _, rfl, hK ▸ h1, hK ▸ h2, hK ▸ p2.now R2 (by rw [okW_app, k1, k2]; rfl) _ (wd_zipK s1 s2)⟩
    · cases e1
  · exact p2.elim
theorem si_enu {elts : List Expr} {k : Nat} {tp p pos : Pos} {a : Expr} {x : E} (h : CxOk G N lv W sc X) (hg : isGl (sc.names.lookup ("enumerate" : Str)) = true) (hs : noStar a = true) (ha : SE G W X a x) :
    SI G W X (.Tuple elts k tp) (.Call (.Name "enumerate" p) [a] [] pos) (.enu x) := fun σ H Z α ρ m R Rp En q => by
  have hK : G.T.K = X.K := h.good.gk.eK
  have hm : X.mg "enumerate" = none := bl_in h (by decide +kernel)
  unfold evI at q
  refine ⟨_, pi_enumK (h.glob _ hg) hm pa_all (star_cons hs), ?_⟩
  refine ⟨_, pa_cons pe_all pa_nil (star_cons hs), ?_⟩
  refine ha σ H Z α ρ m _ Rp En (q.bind.mono fun d m1 H1 Z1 α1 F1 R1 p1 v dv => ?_)
  split at p1
  · rename_i ps e1
    unfold enuD at e1
    split at e1
    · rename_i xs w l1
      cases e1
      obtain ⟨k, a1, rfl, s1, k1, _⟩ := lookW_at R1 dv l1
      obtain ⟨vs, h1, _⟩ := s1 H1 Z1 α1 m1 .rfl' R1 k1
      exact ⟨k, _, _, rfl, hK ▸ h1, hK ▸ p1.now R1 k1 _ (wd_enumK s1)⟩
    · cases e1
  · exact p1.elim
end
end Pm

set_option maxRecDepth 100000
set_option maxHeartbeats 1000000
/-! zip of three -/
namespace Pm
open PySem L2 PySem.Spec PyProof.Rows
def ItzK3 (K : PySem.W.Frag) (ka kb kc : SK) (a b c : Addr) : L2.It :=
  ⟨fun i H => ∃ (xs ys zs : List V) (x y z : V), SqK K ka H a xs ∧ SqK K kb H b ys ∧ SqK K kc H c zs ∧ xs[i]? = some x ∧ ys[i]? = some y ∧ zs[i]? = some z,
    fun i H v H' => ∃ T x y z, v = .ref T ∧ H T = none ∧ H' = upd H T (.tup [x, y, z]) ∧ (∀ xs, SqK K ka H a xs → xs[i]? = some x) ∧ (∀ ys, SqK K kb H b ys → ys[i]? = some y) ∧ ∀ zs, SqK K kc H c zs → zs[i]? = some z,
    fun i H => ∃ xs ys zs : List V, SqK K ka H a xs ∧ SqK K kb H b ys ∧ SqK K kc H c zs ∧ i ≤ xs.length ∧ i ≤ ys.length ∧ i ≤ zs.length ∧ (xs.length = i ∨ ys.length = i ∨ zs.length = i)⟩
theorem turn_zipK3 {P : Program} {w : World} {K : PySem.W.Frag} {elts : List Expr} {kk : Nat} {tpos : Pos} {ka kb kc : SK} {a b c z TI TO i1 i2 i3 : Addr} (D : ZipSep3 z TI TO i1 i2 i3 [i1, a] [i2, b] [i3, c]) (h1a : a ≠ i1) (h2b : b ≠ i2) (h3c : c ≠ i3) :
    Turn P w K (.Tuple elts kk tpos) (ItzK3 K ka kb kc a b c) [z, TI, TO, i1, i2, i3] z (fun i h => IsZip h z TI TO .none ∧ IsTupOf3 h TI (.ref i1) (.ref i2) (.ref i3) ∧ (∃ x y u, IsTupOf3 h TO x y u) ∧ cellK ka h i1 a i ∧ cellK kb h i2 b i ∧ cellK kc h i3 c i) where
  mem := by simp
  obj := fun i h st q hc => by
    obtain ⟨hz, hTI, ⟨x, y, u, hTO⟩, c1, c2, c3⟩ := st
    have e' : q = z ∨ q = TI ∨ q = TO ∨ q = i1 ∨ q = i2 ∨ q = i3 := by simpa using hc
    rcases e' with q | q | q | q | q | q <;> subst q
    · exact ⟨_, hz, fun v q => nomatch q⟩
    · exact ⟨_, hTI, fun v q => nomatch q⟩
    · exact ⟨_, hTO, fun v q => nomatch q⟩
    · exact c1.obj
    · exact c2.obj
    · exact c3.obj
  keep := fun i h h' st k => by
    obtain ⟨hz, hTI, ⟨x, y, u, hTO⟩, c1, c2, c3⟩ := st
    exact ⟨k z (by simp) _ hz, k TI (by simp) _ hTI, ⟨x, y, u, k TO (by simp) _ hTO⟩, c1.at fun o q => k i1 (by simp) o q, c2.at fun o q => k i2 (by simp) o q, c3.at fun o q => k i3 (by simp) o q⟩
  item := by
    intro X hP hw hK hc i pins s σ H E I hf st hg
    subst hP hw hK
    obtain ⟨hz, hTI, ⟨x0, y0, u0, hTO⟩, c1, c2, c3⟩ := st
    obtain ⟨xs, ys, zs, x, y, u', hqx, hqy, hqz, hx, hy, hzz⟩ := hg
    obtain ⟨its, rv, p1, l1⟩ := sqK_obj I hqx
    obtain ⟨its2, rv2, p2, l2⟩ := sqK_obj I hqy
    obtain ⟨its3, rv3, p3, l3⟩ := sqK_obj I hqz
    obtain ⟨u, hu, ru⟩ := rv.get hx
    obtain ⟨u2, hu2, ru2⟩ := rv2.get hy
    obtain ⟨u3, hu3, ru3⟩ := rv3.get hzz
    have hzl : z < s.heap.objs.size := Heap.lt_size hz
    have hh : X.A.in1.handled = none := I.ok.hd hc
    refine wpAny_pyNext_zipD3_item D (drawsK ka hh i1 a h1a its.toArray) (drawsK kb hh i2 b h2b its2.toArray) (drawsK kc hh i3 c h3c its3.toArray) hz hTI hTO ⟨c1, p1⟩ ⟨c2, p2⟩ ⟨c3, p3⟩ (by simpa using (List.getElem?_eq_some_iff.mp hu).1) (by simpa using (List.getElem?_eq_some_iff.mp hu2).1) (by simpa using (List.getElem?_eq_some_iff.mp hu3).1) fun v1 v2 v3 h' tk e1 e2 e3 z' TO' c1' c2' c3' hT hsz hk => ?_
    obtain rfl : u = v1 := by rw [show its.toArray[i]? = some u by simpa using hu] at e1; injection e1
    obtain rfl : u2 = v2 := by rw [show its2.toArray[i]? = some u2 by simpa using hu2] at e2; injection e2
    obtain rfl : u3 = v3 := by rw [show its3.toArray[i]? = some u3 by simpa using hu3] at e3; injection e3
    refine ⟨_, rfl, wpAny_letOwnedTupleGo_zip (s := { s with heap := h', toks := tk }) z' fun h'' z'' sb => ?_⟩
    have hT2 : h''.get? s.heap.objs.size = some { cls := .type "tuple", data := .seq #[u, u2, u3] } := (sb.2 _ (Nat.ne_of_gt hzl)).trans hT
    have new : ObjOk X.prog X.w (upd H s.heap.objs.size (.tup [x, y, u'])) h'' s.heap.objs.size (.tup [x, y, u']) := ⟨by show 3 ≤ sizeLine; decide, [u, u2, u3], .cons ru (.cons ru2 (.cons ru3 .nil)), ⟨_, hT2, rfl, _, rfl⟩⟩
    have I1 : Inv X pins σ (upd H s.heap.objs.size (.tup [x, y, u'])) { s with heap := h'', toks := tk } :=
      I.turnedNew (ch := [z, TI, TO, i1, i2, i3]) (fun q o hb e => (sb.2 q (fun e => hb (by simp [e]))).trans (hk q o (fun e => hb (by simp [e])) (fun e => hb (by simp [e])) (fun e => hb (by simp [e])) (fun e => hb (by simp [e])) (fun e => hb (by simp [e])) e)) hf (Nat.le_refl _) new
    refine ⟨.ref s.heap.objs.size, _, I1, rfl, ⟨_, x, y, u', rfl, I.hok.fresh (Nat.le_refl _), rfl, fun l hl => by rw [sqK_inj I hl hqx]; exact hx, fun l hl => by rw [sqK_inj I hl hqy]; exact hy, fun l hl => by rw [sqK_inj I hl hqz]; exact hzz⟩, ⟨z'', ?_, ⟨u, u2, u3, ?_⟩, ?_, ?_, ?_⟩, fun q hcm => ?_⟩
    · exact (sb.2 _ D.TIz).trans (hk _ _ D.TIz D.TITO D.TIi1 D.TIi2 D.TIi3 hTI)
    · exact (sb.2 _ D.TOz).trans TO'
    · exact c1'.1.at fun o q => (sb.2 _ (Ne.symm D.zi1)).trans q
    · exact c2'.1.at fun o q => (sb.2 _ (Ne.symm D.zi2)).trans q
    · exact c3'.1.at fun o q => (sb.2 _ (Ne.symm D.zi3)).trans q
    · have hlt : q < s.heap.objs.size := by
        have e' : q = z ∨ q = TI ∨ q = TO ∨ q = i1 ∨ q = i2 ∨ q = i3 := by simpa using hcm
        rcases e' with q | q | q | q | q | q <;> subst q
        · exact hzl
        · exact Heap.lt_size hTI
        · exact Heap.lt_size hTO
        · obtain ⟨_, e1, _⟩ := c1.obj; exact Heap.lt_size e1
        · obtain ⟨_, e2, _⟩ := c2.obj; exact Heap.lt_size e2
        · obtain ⟨_, e3, _⟩ := c3.obj; exact Heap.lt_size e3
      rw [upd_ne (Nat.ne_of_lt hlt)]
      exact (hf q hcm).1
  done := by
    intro X hP hw hK hc i pins s σ H E I hf st hg
    subst hP hw hK
    obtain ⟨hz, hTI, ⟨x0, y0, u0, hTO⟩, c1, c2, c3⟩ := st
    obtain ⟨xs, ys, zs, hqx, hqy, hqz, g1, g2, g3, hend⟩ := hg
    obtain ⟨its, rv, p1, l1⟩ := sqK_obj I hqx
    obtain ⟨its2, rv2, p2, l2⟩ := sqK_obj I hqy
    obtain ⟨its3, rv3, p3, l3⟩ := sqK_obj I hqz
    have n1 := rv.length
    have n2 := rv2.length
    have n3 := rv3.length
    have hh : X.A.in1.handled = none := I.ok.hd hc
    refine wpAny_pyNext_zipD3_end D (drawsK ka hh i1 a h1a its.toArray) (drawsK kb hh i2 b h2b its2.toArray) (drawsK kc hh i3 c h3c its3.toArray) hz hTI hTO ⟨c1, p1⟩ ⟨c2, p2⟩ ⟨c3, p3⟩ (by simp; omega) (by simp; omega) (by simp; omega) (by simp; omega) fun h' tk hk => ⟨rfl, ?_⟩
    exact I.turnedL (ch := [z, TI, TO, i1, i2, i3]) (fun q o hb e => hk q o (fun e => hb (by simp [e])) (fun e => hb (by simp [e])) (fun e => hb (by simp [e])) (fun e => hb (by simp [e])) (fun e => hb (by simp [e])) e) hf
  self := fun A i s Q E st h => wpAny_pyIter_zip st.1 h
def iZipK3 (K : PySem.W.Frag) (ta : TA) : TI := fun σ H R => ta σ H fun vs H1 => ∃ ka kb kc a b c xs ys zs, vs = [.ref a, .ref b, .ref c] ∧ SqK K ka H1 a xs ∧ SqK K kb H1 b ys ∧ SqK K kc H1 c zs ∧ R (ItzK3 K ka kb kc a b c) H1
theorem pi_zipK3 {X : Cx} {e e2 e3 : Expr} {ta : TA} {p pos tpos : Pos} {elts : List Expr} {kk : Nat} (hg : Gl X "zip") (hm : X.mg "zip" = none) (ha : PA X [e, e2, e3] ta)
    (hs : starEach [e, e2, e3] X.env = (false, eval e X.env) :: starEach [e2, e3] X.env) (hpl : (backTo pos (starEach [e2, e3] X.env)).any (·.1) = false) :
    PI X (.Tuple elts kk tpos) (.Call (.Name "zip" p) [e, e2, e3] [] pos) (iZipK3 X.K ta) := by
  refine ⟨fun pins s σ H R I h => ?_⟩
  refine Call_ (ld_blt I hg hm boot_zip (callWith_type1 (thn (ha.run pos pins s σ H _ I h) fun us s1 ⟨vs, H1, I1, r1, q1⟩ => ?_) hs hpl))
  obtain ⟨ka, kb, kc, a, b, c, xs, ys, zs, rfl, hqx, hqy, hqz, q⟩ := q1
  obtain ⟨u, u2, u3, rfl, ra, rb, rc⟩ : ∃ u u2 u3, us = [u, u2, u3] ∧ L2.RelV (.ref a) u ∧ L2.RelV (.ref b) u2 ∧ L2.RelV (.ref c) u3 := by
    cases r1 with
    | cons r rr => cases rr with
      | cons r' rr => cases rr with
        | cons r'' rr => cases rr; exact ⟨_, _, _, rfl, r, r', r''⟩
  cases ra
  cases rb
  cases rc
  obtain ⟨its, rv, p1, l1⟩ := sqK_obj I1 hqx
  obtain ⟨its2, rv2, p2, l2⟩ := sqK_obj I1 hqy
  obtain ⟨its3, rv3, p3, l3⟩ := sqK_obj I1 hqz
  generalize hN : s1.heap.objs.size = N at *
  have fresh : ∀ c, c ∈ [N + 5, N + 3, N + 4, N, N + 1, N + 2] → FpOk X pins H1 c := fun c hcm => by
    have hle : s1.heap.objs.size ≤ c := by
      have e' : c = N + 5 ∨ c = N + 3 ∨ c = N + 4 ∨ c = N ∨ c = N + 1 ∨ c = N + 2 := by simpa using hcm
      omega
    exact I1.fpOk hle (I1.hok.fresh hle)
  subst hN
  refine zip_begins3 (beginsK ka a its.toArray) (beginsK kb b its2.toArray) (beginsK kc c its3.toArray) p1 p2 p3 fun h' hz hTI hTO h1 h2 h3 hsz hk => wpAny_pyIter_zip hz ?_
  have I2 : Inv X pins σ H1 { s1 with heap := h' } := I1.kept (t' := s1.toks) hk
  refine ⟨s1.heap.objs.size + 5, _, _, _, H1, rfl, I2, turn_zipK3 (ka := ka) (kb := kb) (kc := kc) (zip_sep3 (fp1 := [a]) (fp2 := [b]) (fp3 := [c]) (fun q hc => by simp at hc; rw [hc]; exact l1) (fun q hc => by simp at hc; rw [hc]; exact l2) (fun q hc => by simp at hc; rw [hc]; exact l3)) (Nat.ne_of_lt l1) (Nat.ne_of_lt (Nat.lt_succ_of_lt l2)) (Nat.ne_of_lt (Nat.lt_succ_of_lt (Nat.lt_succ_of_lt l3))), ⟨hz, hTI, ⟨_, _, _, hTO⟩, cellN h1, cellN h2, cellN h3⟩, fresh, q⟩
theorem walk_zipN3 {K : PySem.W.Frag} {ka kb kc : SK} {a b c : Addr} {n n2 n3 : Nat} : Walk (ItzK3 K ka kb kc a b c) (min (min n n2) n3) (fun H => (∃ vs, SqK K ka H a vs ∧ vs.length = n) ∧ (∃ ws, SqK K kb H b ws ∧ ws.length = n2) ∧ ∃ us, SqK K kc H c us ∧ us.length = n3)
    (fun i H v H' => ∃ T x y z, v = .ref T ∧ H T = none ∧ H' = upd H T (.tup [x, y, z]) ∧ (∀ xs, SqK K ka H a xs → xs[i]? = some x) ∧ (∀ ys, SqK K kb H b ys → ys[i]? = some y) ∧ ∀ zs, SqK K kc H c zs → zs[i]? = some z) where
  goes := fun i H hi ⟨⟨vs, q1, e1⟩, ⟨ws, q2, e2⟩, us, q3, e3⟩ => ⟨vs, ws, us, vs[i]'(by omega), ws[i]'(by omega), us[i]'(by omega), q1, q2, q3, by simp, by simp, by simp⟩
  stops := fun H ⟨⟨vs, q1, e1⟩, ⟨ws, q2, e2⟩, us, q3, e3⟩ => ⟨vs, ws, us, q1, q2, q3, by omega, by omega, by omega, by omega⟩
  yields := fun i H x H' hi _ y => y
end Pm

set_option maxRecDepth 100000
set_option maxHeartbeats 1000000
/-! zip of three, as data -/
namespace Pm
open PySem L2
def zip3L : List D → List D → List D → List D
  | x :: xs, y :: ys, z :: zs => .tup [x, y, z] :: zip3L xs ys zs
  | _, _, _ => []
theorem zip3L_len : ∀ {xs ys zs : List D}, (zip3L xs ys zs).length = min (min xs.length ys.length) zs.length
  | [], _, _ => by simp [zip3L]
  | _ :: _, [], _ => by simp [zip3L]
  | _ :: _, _ :: _, [] => by simp [zip3L]
  | _ :: xs, _ :: ys, _ :: zs => by simp only [zip3L, List.length_cons, zip3L_len]; omega
theorem zip3L_get : ∀ {xs ys zs : List D} {i : Nat} {x y z : D}, xs[i]? = some x → ys[i]? = some y → zs[i]? = some z → (zip3L xs ys zs)[i]? = some (.tup [x, y, z])
  | [], _, _, _, _, _, _, h, _, _ => by simp at h
  | _ :: _, [], _, _, _, _, _, _, h, _ => by simp at h
  | _ :: _, _ :: _, [], _, _, _, _, _, _, h => by simp at h
  | _ :: xs, _ :: ys, _ :: zs, 0, _, _, _, h1, h2, h3 => by
    simp at h1 h2 h3
    subst h1 h2 h3
    rfl
  | _ :: xs, _ :: ys, _ :: zs, i + 1, _, _, _, h1, h2, h3 => by
    simp only [zip3L, List.getElem?_cons_succ] at *
    exact zip3L_get h1 h2 h3
def zip3D (ds : List D) (m : Mu) : Option (List D × Wt) := match ds with
  | [a, b, c] => match lookW m a, lookW m b, lookW m c with
    | some (xs, w), some (ys, u), some (zs, t) => some (zip3L xs ys zs, w ++ (u ++ t))
    | _, _, _ => none
  | _ => none
section
variable {G : Gm} {W : XK} {X : Cx} {N : List Str} {lv : Nat} {sc : Scope} {T : Tb} {Z : Hp} {α : List Addr} {a b c : Addr} {ds es fs : List D}
theorem wd_zipK3 {ka kb kc : SK} {w u t : Wt} (h1 : SeqW T ka a ds w Z α) (h2 : SeqW T kb b es u Z α) (h3 : SeqW T kc c fs t Z α) : WalkD T (ItzK3 T.K ka kb kc a b c) (zip3L ds es fs) (w ++ (u ++ t)) Z α := by
  have hs : ∀ {m : Mu}, okW (w ++ (u ++ t)) m = true → okW w m = true ∧ okW u m = true ∧ okW t m = true := fun q => by rwa [okW_app, okW_app, Bool.and_eq_true, Bool.and_eq_true] at q
  have hw := walk_zipN3 (K := T.K) (ka := ka) (kb := kb) (kc := kc) (a := a) (b := b) (c := c) (n := ds.length) (n2 := es.length) (n3 := fs.length)
  rw [← zip3L_len] at hw
  refine ⟨_, _, hw, fun H Z2 α2 m le R ok => ⟨let ⟨vs, q1, q2⟩ := h1 H Z2 α2 m le R (hs ok).1; ⟨vs, q1, q2.len⟩, let ⟨vs, q1, q2⟩ := h2 H Z2 α2 m le R (hs ok).2.1; ⟨vs, q1, q2.len⟩, let ⟨vs, q1, q2⟩ := h3 H Z2 α2 m le R (hs ok).2.2; ⟨vs, q1, q2.len⟩⟩, fun i H x H' hi _ y Z2 α2 m le R ok => ?_⟩
  obtain ⟨t, x1, y1, z1, rfl, ht, rfl, g1, g2, g3⟩ := y
  obtain ⟨vs, q1, q2⟩ := h1 _ Z2 α2 m le R (hs ok).1
  obtain ⟨ws, q3, q4⟩ := h2 _ Z2 α2 m le R (hs ok).2.1
  obtain ⟨us, q5, q6⟩ := h3 _ Z2 α2 m le R (hs ok).2.2
  obtain ⟨d, e1, e2⟩ := q2.get' (g1 vs q1)
  obtain ⟨e, f1, f2⟩ := q4.get' (g2 ws q3)
  obtain ⟨f, k1, k2⟩ := q6.get' (g3 us q5)
  have le2 := le_new (o := .tup [x1, y1, z1]) R ht
  exact ⟨_, .tup [d, e, f], zip3L_get e1 f1 k1, Fut.new R ht, R.new ht, .tup upd_same (.cons (e2.mono le2) (.cons (f2.mono le2) (.cons (k2.mono le2) .nil)))⟩
theorem si_zip3 {elts : List Expr} {k : Nat} {tp p pos : Pos} {a b c : Expr} {irs : List E} {t : Str} (ht : G.xi t = some zip3D) (h : CxOk G N lv W sc X) (hg : isGl (sc.names.lookup ("zip" : Str)) = true) (hs : [a, b, c].all noStar = true) (ha : All2 (SE G W X) [a, b, c] irs) :
    SI G W X (.Tuple elts k tp) (.Call (.Name "zip" p) [a, b, c] [] pos) (.ext t irs) := fun σ H Z α ρ m R Rp En q => by
  have hK : G.T.K = X.K := h.good.gk.eK
  have hm : X.mg "zip" = none := bl_in h (by decide +kernel)
  have hl := ha.len
  unfold evI at q
  rw [ht] at q
  dsimp only at q
  refine ⟨_, pi_zipK3 (h.glob _ hg) hm pa_all (star_cons (by simp only [List.all_cons, Bool.and_eq_true] at hs; exact hs.1)) (star_all (by simp only [List.all_cons, Bool.and_eq_true, List.all_nil, and_true] at hs ⊢; exact hs.2)), ?_⟩
  refine ses_of hs ha σ H Z α ρ m _ Rp En (q.bind.lens.mono fun ds m1 H1 Z1 α1 F1 R1 ⟨hn, p1⟩ vs dvs => ?_)
  rw [← hl] at hn
  match ds, hn with
  | [d1, d2, d3], _ =>
    cases dvs with
    | cons v1 r => cases r with
      | cons v2 r => cases r with
        | cons v3 r =>
          cases r
          split at p1
          · rename_i xs e1
            unfold zip3D at e1
            dsimp only at e1
            split at e1
            · rename_i xs w ys u zs t l1 l2 l3
              cases e1
              obtain ⟨ka, a1, rfl, s1, k1, _⟩ := lookW_at R1 v1 l1
              obtain ⟨kb, a2, rfl, s2, k2, _⟩ := lookW_at R1 v2 l2
              obtain ⟨kc, a3, rfl, s3, k3, _⟩ := lookW_at R1 v3 l3
              obtain ⟨vs, h1, _⟩ := s1 H1 Z1 α1 m1 .rfl' R1 k1
              obtain ⟨ws, h2, _⟩ := s2 H1 Z1 α1 m1 .rfl' R1 k2
              obtain ⟨us, h3, _⟩ := s3 H1 Z1 α1 m1 .rfl' R1 k3
              exact ⟨ka, kb, kc, _, _, _, _, _, _, rfl, hK ▸ h1, hK ▸ h2, hK ▸ h3, hK ▸ p1.now R1 (by rw [okW_app, okW_app, k1, k2, k3]; rfl) _ (wd_zipK3 s1 s2 s3)⟩
            · cases e1
          · exact p1.elim
end
end Pm

set_option maxRecDepth 100000
set_option maxHeartbeats 2000000
/-! a zip within an enumerate: its first tuple is out, and may be gone -/
namespace Mine
open PySem PyProof.Rows L2
section
variable {prog : Program} {w : World} {A : Around} {E : Value → Shared → Prop} {s : Shared} {z TI TO i1 i2 T : Addr} {fp1 fp2 : List Addr} {n1 n2 i : Nat} {P1 P2 : Nat → Value → Prop} {St1 St2 : Nat → Heap → Prop} {f : Bool} {a1 a2 : Value}
theorem gone {a : Addr} {Q : Option Obj → Shared → Prop} (e : s.heap.get? a = none) (k : Q none s) : wpAny (model prog w) A (loadIfAlive a) Q E s := by
  have q : Q (s.heap.get? a) s := by rw [e]; exact k
  exact fun _ _ _ => q
theorem loose_free {Q : Bool → Shared → Prop} (hz : IsZipHeld s.heap z TI TO T f) (hT : s.heap.get? T = none) (k : Q true s) : wpAny (model prog w) A (Builtin.SmallTypes.ownedTupleIsFree (.ref z)) Q E s := by
  unfold Builtin.SmallTypes.ownedTupleIsFree
  refine wpAny_bind (wpAny_field hz rfl (x := rawInt T) rfl (show wpAny _ _ (loadIfAlive ((T : Int).toNat) >>= _) _ _ _ from ?_))
  rw [Int.toNat_natCast]
  refine wpAny_bind (gone hT ?_)
  simp only [Option.isNone_none, if_true]
  exact wpAny_pure k
theorem loose_item {Q : Value → Shared → Prop} (S : ZipSep2 z TI TO i1 i2 fp1 fp2) (D1 : Draws prog w A i1 fp1 n1 P1 St1) (D2 : Draws prog w A i2 fp2 n2 P2 St2) (hz : IsZipHeld s.heap z TI TO T f) (hT : s.heap.get? T = none)
    (hI : IsTupOf2 s.heap TI (.ref i1) (.ref i2)) (hO : IsTupOf2 s.heap TO a1 a2) (t1 : St1 i s.heap) (t2 : St2 i s.heap) (l1 : i < n1) (l2 : i < n2)
    (k : ∀ x y h' tk, P1 i x → P2 i y → IsZipHeld h' z TI TO s.heap.objs.size false → IsTupOf2 h' TO x y → St1 (i + 1) h' → St2 (i + 1) h' → IsTupOf2 h' s.heap.objs.size x y → (∀ c o, c ≠ z → c ≠ TO → c ≠ i1 → c ≠ i2 → s.heap.get? c = some o → h'.get? c = some o) →
      h'.objs.size = s.heap.objs.size + 1 → Q (.ref s.heap.objs.size) { s with heap := h', toks := tk }) :
    wpAny (model prog w) A (Builtin.«zip.__next__» ⟨[.ref z], []⟩) (fun r s' => ∃ v, r = .done (.ret v) ∧ Q v s') E s := by
  obtain ⟨hp, g, d, tk0, os⟩ := s
  show wpAny _ _ (field (.ref z) 2 >>= _) _ _ _
  refine wpAny_bind (wpAny_field hz rfl (x := .bool false) rfl (show wpAny _ _ (field (.ref z) 3 >>= _) _ _ _ from ?_))
  refine wpAny_bind (wpAny_field hz rfl (x := .ref TI) rfl (wpAny_bind (wpAny_seqItems hI rfl (show wpAny _ _ (Builtin.SmallTypes.ownedTupleIsFree (.ref z) >>= _) _ _ _ from ?_))))
  refine wpAny_bind (loose_free hz hT ?_)
  simp only [if_true]
  refine wpAny_bind (wpAny_rule (wpAny_bind (wpAny_field hz rfl (x := .ref TO) rfl (wpAny_bind (wpAny_setField_rec hz (by simp) fun g0 z0 e0 => ?_)))))
  replace z0 : g0.get? z = some { cls := .type "zip", dict := none, data := .fields #[.ellipsis, .bool f, .bool false, .ref TI, .ref TO], slots := #[] } := z0
  replace e0 : Heap.SameBut z hp g0 := e0
  refine wpAny_bind ?_
  simp only [List.zipIdx_cons, List.zipIdx_nil, List.forIn_cons, List.forIn_nil]
  refine wpAny_bind (wpAny_bind (wpAny_onRaise (show wpAny _ _ (Builtin.SmallTypes.nextOf (.ref i1) >>= _) _ _ ⟨g0, g, d, tk0, os⟩ from ?_)))
  refine wpAny_bind (D1.item i _ _ _ l1 (D1.over t1 e0 S.zf1) fun x q1 tk1 hx sn1 b1 => wpAny_pure ?_)
  replace b1 : Heap.SameBut i1 g0 q1 := b1
  have U1 : IsTupOf2 q1 TO a1 a2 := b1.extBut _ _ S.Ti1 (e0.extBut _ _ S.TOz hO)
  refine wpAny_bind (wpAny_seqItems (s := ⟨q1, g, d, tk1, os⟩) U1 rfl (wpAny_bind (updateSeq_IsTupOf2 (s := ⟨q1, g, d, tk1, os⟩) U1 fun g1 T1 c1 => ?_)))
  replace T1 : IsTupOf2 g1 TO x a2 := T1
  replace c1 : Heap.SameBut TO q1 g1 := c1
  refine wpAny_bind (wpAny_letGo (wpAny_pure (wpAny_bind (wpAny_bind (wpAny_onRaise (show wpAny _ _ (Builtin.SmallTypes.nextOf (.ref i2) >>= _) _ _ ⟨g1, g, d, tk1, os⟩ from ?_))))))
  refine wpAny_bind (D2.item i _ _ _ l2 (D2.over (D2.over (D2.over t2 e0 S.zf2) b1 S.sep1_2) c1 S.Tf2) fun y q2 tk2 hy sn2 b2 => wpAny_pure ?_)
  replace b2 : Heap.SameBut i2 g1 q2 := b2
  have U2 : IsTupOf2 q2 TO x a2 := b2.extBut _ _ S.Ti2 T1
  refine wpAny_bind (wpAny_seqItems (s := ⟨q2, g, d, tk2, os⟩) U2 rfl (wpAny_bind (updateSeq_IsTupOf2 (s := ⟨q2, g, d, tk2, os⟩) U2 fun g2 T2 c2 => ?_)))
  replace T2 : IsTupOf2 g2 TO x y := T2
  replace c2 : Heap.SameBut TO q2 g2 := c2
  refine wpAny_bind (wpAny_letGo (wpAny_pure (wpAny_pure (wpAny_bind (wpAny_seqItems (s := ⟨g2, g, d, tk2, os⟩) T2 rfl (wpAny_bind (wpAny_newTuple ?_)))))))
  have sz : g2.objs.size = hp.objs.size := by rw [c2.1, b2.1, c1.1, b1.1, e0.1]
  have keep : ∀ c o, c ≠ TO → c ≠ i1 → c ≠ i2 → g0.get? c = some o → g2.get? c = some o := fun c o n2 n3 n4 e => c2.extBut _ _ n2 (b2.extBut _ _ n4 (c1.extBut _ _ n2 (b1.extBut _ _ n3 e)))
  have zz := keep _ _ S.TOz.symm S.zi1 S.zi2 z0
  have j1 : St1 (i + 1) g2 := D1.over (D1.over (D1.over sn1 c1 S.Tf1) b2 S.sep2_1) c2 S.Tf1
  have j2 : St2 (i + 1) g2 := D2.over sn2 c2 S.Tf2
  have lt : z < g2.objs.size := Heap.lt_size zz
  have np : (g2.push { cls := .type "tuple", data := .seq #[x, y] }).get? g2.objs.size = some { cls := .type "tuple", data := .seq #[x, y] } := Heap.get?_push_size _ rfl
  have up0 : ∀ b o, g2.get? b = some o → (g2.push { cls := .type "tuple", data := .seq #[x, y] }).get? b = some o := fun b o e => Heap.get?_push_of_some _ e
  have nsz : (g2.push { cls := .type "tuple", data := .seq #[x, y] }).objs.size = g2.objs.size + 1 := Heap.size_push ..
  show wpAny _ _ (Builtin.SmallTypes.ownedTupleHandOut (.ref z) (.ref g2.objs.size) >>= _) _ _ ⟨g2.push { cls := .type "tuple", data := .seq #[x, y] }, g, d, tk2, os⟩
  generalize g2.push { cls := .type "tuple", data := .seq #[x, y] } = g3 at np up0 nsz ⊢
  refine wpAny_bind ?_
  unfold Builtin.SmallTypes.ownedTupleHandOut
  refine wpAny_bind (wpAny_setField_rec (up0 _ _ zz) (by simp) fun g4 z4 e4 => wpAny_setField_rec (s := ⟨g4, g, d, tk2, os⟩) z4 (by simp) fun g5 z5 e5 => ?_)
  replace z5 : IsZipHeld g5 z TI TO g2.objs.size false := z5
  replace e4 : Heap.SameBut z g3 g4 := e4
  replace e5 : Heap.SameBut z g4 g5 := e5
  have up : ∀ b o, b ≠ z → g2.get? b = some o → g5.get? b = some o := fun b o n e => e5.extBut _ _ n (e4.extBut _ _ n (up0 b o e))
  have T5 : IsTupOf2 g5 g2.objs.size x y := e5.extBut _ _ (Nat.ne_of_gt lt) (e4.extBut _ _ (Nat.ne_of_gt lt) np)
  have s5 : g5.objs.size = g2.objs.size + 1 := by rw [e5.1, e4.1, nsz]
  rw [sz] at z5 T5 s5
  refine wpAny_pure ⟨_, rfl, ?_⟩
  show Q (.ref g2.objs.size) ⟨g5, g, d, tk2, os⟩
  rw [sz]
  exact k x y g5 tk2 hx hy z5 (up _ _ S.TOz T2) (D1.frame _ _ _ j1 fun b hb o e => up b o (fun q => S.zf1 (q ▸ hb)) e) (D2.frame _ _ _ j2 fun b hb o e => up b o (fun q => S.zf2 (q ▸ hb)) e) T5 (fun c o n1 n2 n3 n4 e => up c o n1 (keep c o n2 n3 n4 (e0.extBut _ _ n1 e))) s5
abbrev ZEnd (s : Shared) (z TO i1 i2 : Addr) (E : Value → Shared → Prop) : Prop := ∀ h' tk e, (∀ c o, c ≠ z → c ≠ TO → c ≠ i1 → c ≠ i2 → s.heap.get? c = some o → h'.get? c = some o) → (∃ o, h'.get? e = some o ∧ o.cls = .type "StopIteration") → E (.ref e) { s with heap := h', toks := tk }
theorem loose_end {Q : Fin → Shared → Prop} (S : ZipSep2 z TI TO i1 i2 fp1 fp2) (D1 : Draws prog w A i1 fp1 n1 P1 St1) (D2 : Draws prog w A i2 fp2 n2 P2 St2) (hz : IsZipHeld s.heap z TI TO T f) (hT : s.heap.get? T = none)
    (hI : IsTupOf2 s.heap TI (.ref i1) (.ref i2)) (hO : IsTupOf2 s.heap TO a1 a2) (t1 : St1 i s.heap) (t2 : St2 i s.heap) (l1 : i ≤ n1) (l2 : i ≤ n2) (l3 : i = n1 ∨ i = n2) (k : ZEnd s z TO i1 i2 E) :
    wpAny (model prog w) A (Builtin.«zip.__next__» ⟨[.ref z], []⟩) Q E s := by
  obtain ⟨hp, g, d, tk0, os⟩ := s
  show wpAny _ _ (field (.ref z) 2 >>= _) _ _ _
  refine wpAny_bind (wpAny_field hz rfl (x := .bool false) rfl (show wpAny _ _ (field (.ref z) 3 >>= _) _ _ _ from ?_))
  refine wpAny_bind (wpAny_field hz rfl (x := .ref TI) rfl (wpAny_bind (wpAny_seqItems hI rfl (show wpAny _ _ (Builtin.SmallTypes.ownedTupleIsFree (.ref z) >>= _) _ _ _ from ?_))))
  refine wpAny_bind (loose_free hz hT ?_)
  simp only [if_true]
  refine wpAny_bind (wpAny_rule (wpAny_bind (wpAny_field hz rfl (x := .ref TO) rfl (wpAny_bind (wpAny_setField_rec hz (by simp) fun g0 z0 e0 => ?_)))))
  replace z0 : g0.get? z = some { cls := .type "zip", dict := none, data := .fields #[.ellipsis, .bool f, .bool false, .ref TI, .ref TO], slots := #[] } := z0
  replace e0 : Heap.SameBut z hp g0 := e0
  refine wpAny_bind ?_
  simp only [List.zipIdx_cons, List.zipIdx_nil, List.forIn_cons, List.forIn_nil]
  refine wpAny_bind (wpAny_bind (wpAny_onRaise (show wpAny _ _ (Builtin.SmallTypes.nextOf (.ref i1) >>= _) _ _ ⟨g0, g, d, tk0, os⟩ from ?_)))
  have fin : ∀ (q : Heap) (tk : Nat) (e : Addr), q.get? z = some { cls := .type "zip", dict := none, data := .fields #[.ellipsis, .bool f, .bool false, .ref TI, .ref TO], slots := #[] } → (∃ o, q.get? e = some o ∧ o.cls = .type "StopIteration") →
      (∀ c o, c ≠ z → c ≠ TO → c ≠ i1 → c ≠ i2 → hp.get? c = some o → q.get? c = some o) → wpAny (model prog w) A (setField (.ref z) 0 .none) (fun _ s'' => E (.ref e) s'') E ⟨q, g, d, tk, os⟩ := fun q tk e hq he hk => by
    obtain ⟨oe, h1, h2⟩ := he
    have n : e ≠ z := fun x => by subst x; rw [hq] at h1; cases h1; simp at h2
    refine wpAny_setField_rec (s := ⟨q, g, d, tk, os⟩) hq (by simp) fun q' _ b => ?_
    replace b : Heap.SameBut z q q' := b
    exact k q' tk e (fun c o n1 n2 n3 n4 x => b.extBut _ _ n1 (hk c o n1 n2 n3 n4 x)) ⟨oe, b.extBut _ _ n h1, h2⟩
  by_cases lt : i < n1
  · refine wpAny_bind (D1.item i _ _ _ lt (D1.over t1 e0 S.zf1) fun x q1 tk1 hx sn1 b1 => wpAny_pure ?_)
    replace b1 : Heap.SameBut i1 g0 q1 := b1
    have U1 : IsTupOf2 q1 TO a1 a2 := b1.extBut _ _ S.Ti1 (e0.extBut _ _ S.TOz hO)
    refine wpAny_bind (wpAny_seqItems (s := ⟨q1, g, d, tk1, os⟩) U1 rfl (wpAny_bind (updateSeq_IsTupOf2 (s := ⟨q1, g, d, tk1, os⟩) U1 fun g1 T1 c1 => ?_)))
    replace c1 : Heap.SameBut TO q1 g1 := c1
    refine wpAny_bind (wpAny_letGo (wpAny_pure (wpAny_bind (wpAny_bind (wpAny_onRaise (show wpAny _ _ (Builtin.SmallTypes.nextOf (.ref i2) >>= _) _ _ ⟨g1, g, d, tk1, os⟩ from ?_))))))
    have e2 : i = n2 := by omega
    refine wpAny_bind (D2.done ⟨g1, g, d, tk1, os⟩ _ _ (by rw [← e2]; exact D2.over (D2.over (D2.over t2 e0 S.zf2) b1 S.sep1_2) c1 S.Tf2) fun q e hq he => ?_)
    replace hq : Heap.ExtBut i2 g1 q := hq
    exact fin q tk1 e (hq _ _ S.zi2 (c1.extBut _ _ S.TOz.symm (b1.extBut _ _ S.zi1 z0))) he fun c o n1 n2 n3 n4 x => hq _ _ n4 (c1.extBut _ _ n2 (b1.extBut _ _ n3 (e0.extBut _ _ n1 x)))
  · have e1 : i = n1 := by omega
    refine wpAny_bind (D1.done ⟨g0, g, d, tk0, os⟩ _ _ (by rw [← e1]; exact D1.over t1 e0 S.zf1) fun q e hq he => ?_)
    replace hq : Heap.ExtBut i1 g0 q := hq
    exact fin q tk0 e (hq _ _ S.zi1 z0) he fun c o n1 n2 n3 n4 x => hq _ _ n3 (e0.extBut _ _ n1 x)
theorem held_end2 {Q : Fin → Shared → Prop} {oT : Obj} (S : ZipSep2 z TI TO i1 i2 fp1 fp2) (D1 : Draws prog w A i1 fp1 n1 P1 St1) (D2 : Draws prog w A i2 fp2 n2 P2 St2) (hz : IsZipHeld s.heap z TI TO T f) (hT : s.heap.get? T = some oT)
    (hI : IsTupOf2 s.heap TI (.ref i1) (.ref i2)) (t1 : St1 i s.heap) (t2 : St2 i s.heap) (l1 : i ≤ n1) (l2 : i ≤ n2) (l3 : i = n1 ∨ i = n2) (k : ZEnd s z TO i1 i2 E) :
    wpAny (model prog w) A (Builtin.«zip.__next__» ⟨[.ref z], []⟩) Q E s := by
  by_cases lt : i < n1
  · obtain ⟨hp, g, d, tk0, os⟩ := s
    show wpAny _ _ (field (.ref z) 2 >>= _) _ _ _
    refine wpAny_bind (wpAny_field hz rfl (x := .bool false) rfl (show wpAny _ _ (field (.ref z) 3 >>= _) _ _ _ from ?_))
    refine wpAny_bind (wpAny_field hz rfl (x := .ref TI) rfl (wpAny_bind (wpAny_seqItems hI rfl (show wpAny _ _ (Builtin.SmallTypes.ownedTupleIsFree (.ref z) >>= _) _ _ _ from ?_))))
    refine wpAny_bind (wpAny_tupleHeld_zip hz hT fun g0 z0 e0 => ?_)
    simp only [Bool.false_eq_true, if_false]
    refine wpAny_bind ?_
    rw [← Array.forIn_toList]
    simp only [List.forIn_cons, List.forIn_nil]
    replace e0 : Heap.SameBut z hp g0 := e0
    refine wpAny_bind (wpAny_bind (wpAny_holding (show wpAny _ _ (Builtin.SmallTypes.nextOf (.ref i1) >>= _) _ _ ⟨g0, g, d, tk0, os⟩ from ?_)))
    refine wpAny_bind (D1.item i _ _ _ lt (D1.over t1 e0 S.zf1) fun x g1 tk1 hx q1 e1 => wpAny_pure (wpAny_pure ?_))
    replace e1 : Heap.SameBut i1 g0 g1 := e1
    refine wpAny_bind (wpAny_bind (wpAny_holding (show wpAny _ _ (Builtin.SmallTypes.nextOf (.ref i2) >>= _) _ _ ⟨g1, g, d, tk1, os⟩ from ?_)))
    have e2 : i = n2 := by omega
    exact wpAny_bind (D2.done ⟨g1, g, d, tk1, os⟩ _ _ (by rw [← e2]; exact D2.over (D2.over t2 e0 S.zf2) e1 S.sep1_2) fun q e hq he => k q tk1 e (fun c o n1 n2 n3 n4 x => hq _ _ n4 (e1.extBut _ _ n3 (e0.extBut _ _ n1 x))) he)
  · have e1 : i = n1 := by omega
    subst e1
    exact held_end S D1 hz hT hI t1 fun h' tk e hk he => k h' tk e (fun c o n1 n2 n3 n4 x => hk c o n1 n3 x) he
/-- a zip, its first tuple in it or out -/
def ZAny (h : Heap) (z TI TO : Addr) : Prop := IsZip h z TI TO .none ∨ ∃ T f, IsZipHeld h z TI TO T f
theorem ZAny.obj {h : Heap} (hz : ZAny h z TI TO) : ∃ o, h.get? z = some o ∧ o.cls = .type "zip" ∧ ∀ v, o.data ≠ .cell v := by
  rcases hz with e | ⟨T, f, e⟩
  · exact ⟨_, e, rfl, fun v q => nomatch q⟩
  · exact ⟨_, e, rfl, fun v q => nomatch q⟩
theorem ZAny.at {h h' : Heap} (hz : ZAny h z TI TO) (e : ∀ o, h.get? z = some o → h'.get? z = some o) : ZAny h' z TI TO := by
  rcases hz with q | ⟨T, f, q⟩
  · exact .inl (e _ q)
  · exact .inr ⟨T, f, e _ q⟩
theorem zany_item {Q : Value → Shared → Prop} (S : ZipSep2 z TI TO i1 i2 fp1 fp2) (D1 : Draws prog w A.in1 i1 fp1 n1 P1 St1) (D2 : Draws prog w A.in1 i2 fp2 n2 P2 St2) (hz : ZAny s.heap z TI TO)
    (hI : IsTupOf2 s.heap TI (.ref i1) (.ref i2)) (hO : IsTupOf2 s.heap TO a1 a2) (t1 : St1 i s.heap) (t2 : St2 i s.heap) (l1 : i < n1) (l2 : i < n2)
    (k : ∀ x y h' tk, P1 i x → P2 i y → ZAny h' z TI TO → (∃ a b, IsTupOf2 h' TO a b) → St1 (i + 1) h' → St2 (i + 1) h' → IsTupOf2 h' s.heap.objs.size x y → (∀ c o, c ≠ z → c ≠ TO → c ≠ i1 → c ≠ i2 → s.heap.get? c = some o → h'.get? c = some o) →
      h'.objs.size = s.heap.objs.size + 1 → Q (.ref s.heap.objs.size) { s with heap := h', toks := tk }) :
    wpAny (model prog w) A (Builtin.SmallTypes.nextOf (.ref z)) Q E s := by
  obtain ⟨o, ho, hc, _⟩ := hz.obj
  have hTy : s.TypeIs (.ref z) "zip" := ⟨o, ho, hc⟩
  unfold Builtin.SmallTypes.nextOf
  refine wpAny_bind (wpAny_callSpecial?_slot (name := Str.ofString "__next__") hTy F.slot_zip_next (wpAny_call_entry F.slot_zip_next hTy F.entry_zip_next ?_ (F.args_zip_next_1 _)))
  rcases hz with e | ⟨T, f, e⟩
  · exact zipD2_next_item S D1 D2 e hI hO t1 t2 l1 l2 fun x y h' tk q1 q2 q3 q4 q5 q6 q7 q8 q9 => wpAny_pure (k x y h' tk q1 q2 (.inr ⟨_, false, q3⟩) ⟨_, _, q4⟩ q5 q6 q7 q9 q8)
  · cases eT : s.heap.get? T with
    | some oT => exact held_item S D1 D2 e eT hI t1 t2 l1 l2 fun x y h' tk q1 q2 q3 q4 q5 q6 q7 q8 => wpAny_pure (k x y h' tk q1 q2 (.inr ⟨_, true, q3⟩) ⟨_, _, q7 _ _ S.TOz S.Ti1 S.Ti2 hO⟩ q4 q5 q6 (fun c o n1 _ n3 n4 x => q7 c o n1 n3 n4 x) q8)
    | none => exact loose_item S D1 D2 e eT hI hO t1 t2 l1 l2 fun x y h' tk q1 q2 q3 q4 q5 q6 q7 q8 q9 => wpAny_pure (k x y h' tk q1 q2 (.inr ⟨_, false, q3⟩) ⟨_, _, q4⟩ q5 q6 q7 q8 q9)
theorem zany_end {Q : Value → Shared → Prop} (S : ZipSep2 z TI TO i1 i2 fp1 fp2) (D1 : Draws prog w A.in1 i1 fp1 n1 P1 St1) (D2 : Draws prog w A.in1 i2 fp2 n2 P2 St2) (hz : ZAny s.heap z TI TO)
    (hI : IsTupOf2 s.heap TI (.ref i1) (.ref i2)) (hO : IsTupOf2 s.heap TO a1 a2) (t1 : St1 i s.heap) (t2 : St2 i s.heap) (l1 : i ≤ n1) (l2 : i ≤ n2) (l3 : i = n1 ∨ i = n2) (k : ZEnd s z TO i1 i2 E) :
    wpAny (model prog w) A (Builtin.SmallTypes.nextOf (.ref z)) Q E s := by
  obtain ⟨o, ho, hc, _⟩ := hz.obj
  have hTy : s.TypeIs (.ref z) "zip" := ⟨o, ho, hc⟩
  unfold Builtin.SmallTypes.nextOf
  refine wpAny_bind (wpAny_callSpecial?_slot (name := Str.ofString "__next__") hTy F.slot_zip_next (wpAny_call_entry F.slot_zip_next hTy F.entry_zip_next ?_ (F.args_zip_next_1 _)))
  rcases hz with e | ⟨T, f, e⟩
  · exact zipD2_next_end S D1 D2 e hI hO t1 t2 l1 l2 l3 fun h' tk e hk he => k h' tk e hk he
  · cases eT : s.heap.get? T with
    | some oT => exact held_end2 S D1 D2 e eT hI t1 t2 l1 l2 l3 k
    | none => exact loose_end S D1 D2 e eT hI hO t1 t2 l1 l2 l3 k
end
end Mine

set_option maxRecDepth 100000
set_option maxHeartbeats 2000000
/-! enumerate of a zip: one turn -/
namespace Mine
open PySem PyProof.Rows L2
section
variable {prog : Program} {w : World} {A : Around} {E : Value → Shared → Prop} {s : Shared} {e z TI TO i1 i2 : Addr} {fp1 fp2 : List Addr} {n1 n2 i : Nat} {c : Int} {old : Value} {P1 P2 : Nat → Value → Prop} {St1 St2 : Nat → Heap → Prop} {a1 a2 : Value}
/-- where the enumerate lies -/
structure EApart (e z TI TO i1 i2 : Addr) (fp1 fp2 : List Addr) : Prop where
  ez : e ≠ z
  eI : e ≠ TI
  eO : e ≠ TO
  e1 : e ≠ i1
  e2 : e ≠ i2
  f1 : e ∉ fp1
  f2 : e ∉ fp2
theorem ez_next {Q : Value → Shared → Prop} (S : ZipSep2 z TI TO i1 i2 fp1 fp2) (B : EApart e z TI TO i1 i2 fp1 fp2) (D1 : Draws prog w A.in1 i1 fp1 n1 P1 St1) (D2 : Draws prog w A.in1 i2 fp2 n2 P2 St2) (he : IsEnum s.heap e z c old) (hz : ZAny s.heap z TI TO)
    (hI : IsTupOf2 s.heap TI (.ref i1) (.ref i2)) (hO : IsTupOf2 s.heap TO a1 a2) (t1 : St1 i s.heap) (t2 : St2 i s.heap) (l1 : i < n1) (l2 : i < n2)
    (k : ∀ x y h' tk, P1 i x → P2 i y → IsEnumOut h' e z (c + 1) (.ref s.heap.objs.size) (s.heap.objs.size + 1) → ZAny h' z TI TO → (∃ a b, IsTupOf2 h' TO a b) → St1 (i + 1) h' → St2 (i + 1) h' → IsTupOf2 h' s.heap.objs.size x y → IsTupOf2 h' (s.heap.objs.size + 1) (.int c tk) (.ref s.heap.objs.size) →
      (∀ b o, b ≠ e → b ≠ z → b ≠ TO → b ≠ i1 → b ≠ i2 → s.heap.get? b = some o → h'.get? b = some o) → h'.objs.size = s.heap.objs.size + 2 → Q (.ref (s.heap.objs.size + 1)) { s with heap := h', toks := tk + 1 }) :
    wpAny (model prog w) A (Builtin.«enumerate.__next__» ⟨[.ref e], []⟩) (fun r s' => ∃ v, r = .done (.ret v) ∧ Q v s') E s := by
  obtain ⟨hp, g, d, tk0, os⟩ := s
  show wpAny _ _ (field (.ref e) 2 >>= _) _ _ _
  refine wpAny_bind (wpAny_field he rfl (x := .ref z) rfl (wpAny_bind (zany_item S D1 D2 hz hI hO t1 t2 l1 l2 fun x y g1 tk hx hy z1 O1 u1 u2 p1 k1 s1 => ?_)))
  replace s1 : g1.objs.size = hp.objs.size + 1 := s1
  replace p1 : IsTupOf2 g1 hp.objs.size x y := p1
  have lt : e < hp.objs.size := Heap.lt_size he
  have he1 : IsEnum g1 e z c old := k1 _ _ B.ez B.eO B.e1 B.e2 he
  show wpAny _ _ (field (.ref e) 3 >>= _) _ _ ⟨g1, g, d, tk, os⟩
  refine wpAny_bind (wpAny_field he1 rfl (x := rawInt c) rfl (show wpAny _ _ (field (.ref e) 4 >>= _) _ _ ⟨g1, g, d, tk, os⟩ from wpAny_bind (wpAny_field he1 rfl (x := .none) rfl (show wpAny _ _ (mkInt c >>= _) _ _ ⟨g1, g, d, tk, os⟩ from wpAny_bind (wpAny_mkInt ?_)))))
  refine wpAny_bind (show wpAny _ _ (setField (.ref e) 3 (rawInt (c + 1))) _ _ ⟨g1, g, d, tk + 1, os⟩ from wpAny_setField_rec he1 (by simp) fun g2 he2 b2 => ?_)
  replace he2 : IsEnum g2 e z (c + 1) old := he2
  replace b2 : Heap.SameBut e g1 g2 := b2
  refine wpAny_bind (show wpAny _ _ (setField (.ref e) 4 .none) _ _ ⟨g2, g, d, tk + 1, os⟩ from wpAny_setField_rec he2 (by simp) fun g3 he3 b3 => ?_)
  replace he3 : IsEnum g3 e z (c + 1) old := he3
  replace b3 : Heap.SameBut e g2 g3 := b3
  refine wpAny_bind (show wpAny _ _ (newTuple [.int c tk, .ref hp.objs.size]) _ _ ⟨g3, g, d, tk + 1, os⟩ from wpAny_newTuple ?_)
  have s3 : g3.objs.size = hp.objs.size + 1 := by rw [b3.1, b2.1, s1]
  have he4 : IsEnum (g3.push { cls := .type "tuple", data := .seq #[.int c tk, .ref hp.objs.size] }) e z (c + 1) old := Heap.get?_push_of_some _ he3
  have p4 : (g3.push { cls := .type "tuple", data := .seq #[.int c tk, .ref hp.objs.size] }).get? g3.objs.size = some { cls := .type "tuple", data := .seq #[.int c tk, .ref hp.objs.size] } := Heap.get?_push_size _ rfl
  have s4 : (g3.push { cls := .type "tuple", data := .seq #[.int c tk, .ref hp.objs.size] }).objs.size = g3.objs.size + 1 := Heap.size_push ..
  have k4 : ∀ b o, b ≠ e → g1.get? b = some o → (g3.push { cls := .type "tuple", data := .seq #[.int c tk, .ref hp.objs.size] }).get? b = some o := fun b o n q => Heap.get?_push_of_some _ (b3.extBut _ _ n (b2.extBut _ _ n q))
  show wpAny _ _ (Builtin.SmallTypes.ownedTupleIsFree (.ref e) >>= _) _ _ ⟨g3.push { cls := .type "tuple", data := .seq #[.int c tk, .ref hp.objs.size] }, g, d, tk + 1, os⟩
  generalize g3.push { cls := .type "tuple", data := .seq #[.int c tk, .ref hp.objs.size] } = g4 at he4 p4 s4 k4 ⊢
  rw [s3] at p4 s4 ⊢
  refine wpAny_bind (wpAny_bind (wpAny_field he4 rfl (x := .none) rfl (wpAny_pure ?_)))
  simp only [if_true]
  refine wpAny_bind (wpAny_rule (wpAny_bind (wpAny_field he4 rfl (x := old) rfl (wpAny_bind (wpAny_setField_rec he4 (by simp) fun g5 he5 b5 => ?_)))))
  replace he5 : IsEnum g5 e z (c + 1) (.ref hp.objs.size) := he5
  replace b5 : Heap.SameBut e g4 g5 := b5
  refine wpAny_bind (show wpAny _ _ (Builtin.SmallTypes.ownedTupleHandOut (.ref e) (.ref (hp.objs.size + 1))) _ _ ⟨g5, g, d, tk + 1, os⟩ from ?_)
  unfold Builtin.SmallTypes.ownedTupleHandOut
  refine wpAny_bind (wpAny_setField_rec he5 (by simp) fun g6 he6 b6 => ?_)
  replace he6 : IsEnumOut g6 e z (c + 1) (.ref hp.objs.size) (hp.objs.size + 1) := he6
  replace b6 : Heap.SameBut e g5 g6 := b6
  refine wpAny_setField_rec he6 (by simp) fun g7 he7 b7 => ?_
  replace he7 : IsEnumOut g7 e z (c + 1) (.ref hp.objs.size) (hp.objs.size + 1) := he7
  replace b7 : Heap.SameBut e g6 g7 := b7
  have up : ∀ b o, b ≠ e → g1.get? b = some o → g7.get? b = some o := fun b o n q => b7.extBut _ _ n (b6.extBut _ _ n (b5.extBut _ _ n (k4 b o n q)))
  obtain ⟨oa, ob, O1⟩ := O1
  refine wpAny_bind (wpAny_letGo (wpAny_pure ⟨_, rfl, k x y g7 tk hx hy he7 (z1.at fun o => up _ _ (Ne.symm B.ez)) ⟨oa, ob, up _ _ (Ne.symm B.eO) O1⟩ (D1.frame _ _ _ u1 fun b hb o q => up b o (fun r => B.f1 (r ▸ hb)) q) (D2.frame _ _ _ u2 fun b hb o q => up b o (fun r => B.f2 (r ▸ hb)) q)
    (up _ _ (Nat.ne_of_gt lt) p1) ?_ (fun b o n0 n1 n2 n3 n4 q => up b o n0 (k1 b o n1 n2 n3 n4 q)) ?_⟩))
  · exact b7.extBut _ _ (Nat.ne_of_gt (Nat.lt_succ_of_lt lt)) (b6.extBut _ _ (Nat.ne_of_gt (Nat.lt_succ_of_lt lt)) (b5.extBut _ _ (Nat.ne_of_gt (Nat.lt_succ_of_lt lt)) p4))
  · rw [b7.1, b6.1, b5.1, s4]
theorem ez_item {Q : Option Value → Shared → Prop} (S : ZipSep2 z TI TO i1 i2 fp1 fp2) (B : EApart e z TI TO i1 i2 fp1 fp2) (D1 : Draws prog w A.in1.in1 i1 fp1 n1 P1 St1) (D2 : Draws prog w A.in1.in1 i2 fp2 n2 P2 St2) (he : IsEnum s.heap e z c old) (hz : ZAny s.heap z TI TO)
    (hI : IsTupOf2 s.heap TI (.ref i1) (.ref i2)) (hO : IsTupOf2 s.heap TO a1 a2) (t1 : St1 i s.heap) (t2 : St2 i s.heap) (l1 : i < n1) (l2 : i < n2)
    (k : ∀ x y h' tk, P1 i x → P2 i y → IsEnumOut h' e z (c + 1) (.ref s.heap.objs.size) (s.heap.objs.size + 1) → ZAny h' z TI TO → (∃ a b, IsTupOf2 h' TO a b) → St1 (i + 1) h' → St2 (i + 1) h' → IsTupOf2 h' s.heap.objs.size x y → IsTupOf2 h' (s.heap.objs.size + 1) (.int c tk) (.ref s.heap.objs.size) →
      (∀ b o, b ≠ e → b ≠ z → b ≠ TO → b ≠ i1 → b ≠ i2 → s.heap.get? b = some o → h'.get? b = some o) → h'.objs.size = s.heap.objs.size + 2 → Q (some (.ref (s.heap.objs.size + 1))) { s with heap := h', toks := tk + 1 }) :
    wpAny (model prog w) A (pyNext (.ref e)) Q E s := by
  have hT : s.TypeIs (.ref e) "enumerate" := ⟨_, he, rfl⟩
  unfold pyNext
  refine wpAny_bind (wpAny_attempt (wpAny_callSpecial?_slot (name := Str.ofString "__next__") hT F.slot_enumerate_next (wpAny_call_entry F.slot_enumerate_next hT F.entry_enumerate_next ?_ (F.args_enumerate_next_1 _))))
  exact ez_next S B D1 D2 he hz hI hO t1 t2 l1 l2 fun x y h' tk q1 q2 q3 q4 q5 q6 q7 q8 q9 q10 q11 => wpAny_pure (k x y h' tk q1 q2 q3 q4 q5 q6 q7 q8 q9 q10 q11)
theorem ez_end {Q : Option Value → Shared → Prop} (S : ZipSep2 z TI TO i1 i2 fp1 fp2) (D1 : Draws prog w A.in1.in1 i1 fp1 n1 P1 St1) (D2 : Draws prog w A.in1.in1 i2 fp2 n2 P2 St2) (he : IsEnum s.heap e z c old) (hz : ZAny s.heap z TI TO)
    (hI : IsTupOf2 s.heap TI (.ref i1) (.ref i2)) (hO : IsTupOf2 s.heap TO a1 a2) (t1 : St1 i s.heap) (t2 : St2 i s.heap) (l1 : i ≤ n1) (l2 : i ≤ n2) (l3 : i = n1 ∨ i = n2)
    (k : ∀ h' tk, (∀ b o, b ≠ z → b ≠ TO → b ≠ i1 → b ≠ i2 → s.heap.get? b = some o → h'.get? b = some o) → Q none { s with heap := h', toks := tk }) : wpAny (model prog w) A (pyNext (.ref e)) Q E s := by
  have hT : s.TypeIs (.ref e) "enumerate" := ⟨_, he, rfl⟩
  unfold pyNext
  refine wpAny_bind (wpAny_attempt (wpAny_callSpecial?_slot (name := Str.ofString "__next__") hT F.slot_enumerate_next (wpAny_call_entry F.slot_enumerate_next hT F.entry_enumerate_next (show wpAny _ _ (field (.ref e) 2 >>= _) _ _ _ from ?_) (F.args_enumerate_next_1 _))))
  refine wpAny_bind (wpAny_field he rfl (x := .ref z) rfl (wpAny_bind (zany_end S D1 D2 hz hI hO t1 t2 l1 l2 l3 fun h' tk x hk hx => ?_)))
  obtain ⟨o, ho, hc⟩ := hx
  exact wpAny_bind (wpAny_isInstance (T := "StopIteration") (b := true) ⟨o, ho, hc⟩ isSubtype_stop (wpAny_pure (k h' tk hk)))
end
end Mine

set_option maxRecDepth 100000
set_option maxHeartbeats 1000000
/-! enumerate of a zip of two, each a list or a tuple -/
namespace Pm
open PySem L2 PySem.Spec PyProof.Rows Mine
/-- an iterator's cells change, several new things come into being -/
theorem turnNews {X : Cx} {pins : List (Addr × Obj)} {σ : L2.St} {H H' : Hp} {s : Shared} {h' : Heap} {t' : Nat} {ch : List Addr} (I : Inv X pins σ H s) (k : ∀ b o, b ∉ ch → s.heap.get? b = some o → h'.get? b = some o) (hf : ∀ b ∈ ch, FpOk X pins H b) (st : ∀ b u, H b = some u → H' b = some u)
    (lo : ∀ b, b < s.heap.objs.size → H b = none → H' b = none) (new : ∀ b o, H' b = some o → H b = none → ObjOk X.prog X.w H' h' b o) : Inv X pins σ H' { s with heap := h', toks := t' } := by
  have ni : ∀ b u, H b = some u → b ∉ ch := fun b u e z => by rw [(hf b z).1] at e; cases e
  refine I.step (g' := s.gens) (d' := s.drawn) (ch := ch) (fun b hb => let q := hf b hb; ⟨q.2.2.2.1, q.2.1, q.2.2.2.2.1, q.2.2.2.2.2⟩) (fun b o _ _ hc e _ => k b o hc e) (fun b o _ _ hc e _ => ⟨o.slots, k b o hc e⟩) (fun b o _ e n => lo b (Heap.lt_size e) n) (fun b o hc e => ⟨o, k b o hc e⟩)
    (fun b xs e => st b _ e) (fun b o u e => st b _ e) (fun b ps e => ⟨#[], by rw [st b _ e]; simp⟩) (fun m ⟨o, es, ep, ho, r⟩ => ⟨o, es, ep, k _ o (fun z => (hf _ z).2.1 rfl) ho, r⟩) (fun b u e => ?_) I.bare
  cases hb : H b with
  | none => exact new b u e hb
  | some v =>
    have z := st b v hb
    rw [e] at z
    cases z
    exact (I.hok b u hb).stay (fun c v hc q => k c v (hc.elim (fun z => by rw [z]; exact ni b u hb) (fun z => ni c _ z)) q) (fun c q => st c _ q) fun c xs q => st c _ q
def ItezK (K : PySem.W.Frag) (ka kb : SK) (a b : Addr) : L2.It :=
  ⟨fun i H => ∃ (xs ys : List V) (x y : V), SqK K ka H a xs ∧ SqK K kb H b ys ∧ xs[i]? = some x ∧ ys[i]? = some y,
    fun i H v H' => ∃ T U x y, v = .ref U ∧ H T = none ∧ H U = none ∧ U ≠ T ∧ H' = upd (upd H T (.tup [x, y])) U (.tup [.int (i : Nat), .ref T]) ∧ (∀ xs, SqK K ka H a xs → xs[i]? = some x) ∧ ∀ ys, SqK K kb H b ys → ys[i]? = some y,
    fun i H => ∃ xs ys : List V, SqK K ka H a xs ∧ SqK K kb H b ys ∧ i ≤ xs.length ∧ i ≤ ys.length ∧ (xs.length = i ∨ ys.length = i)⟩
theorem turn_ezK {P : Program} {w : World} {K : PySem.W.Frag} {elts : List Expr} {kk : Nat} {tpos : Pos} {ka kb : SK} {a b e z TI TO i1 i2 : Addr} (D : ZipSep2 z TI TO i1 i2 [i1, a] [i2, b]) (B : EApart e z TI TO i1 i2 [i1, a] [i2, b]) (h1a : a ≠ i1) (h2b : b ≠ i2) :
    Turn P w K (.Tuple elts kk tpos) (ItezK K ka kb a b) [e, z, TI, TO, i1, i2] e (fun i h => (∃ old, IsEnum h e z ((i : Nat) : Int) old) ∧ ZAny h z TI TO ∧ IsTupOf2 h TI (.ref i1) (.ref i2) ∧ (∃ x y, IsTupOf2 h TO x y) ∧ cellK ka h i1 a i ∧ cellK kb h i2 b i) where
  mem := by simp
  obj := fun i h st c hc => by
    obtain ⟨⟨old, he⟩, hz, hTI, ⟨x, y, hTO⟩, c1, c2⟩ := st
    have e' : c = e ∨ c = z ∨ c = TI ∨ c = TO ∨ c = i1 ∨ c = i2 := by simpa using hc
    rcases e' with q | q | q | q | q | q <;> subst q
    · exact ⟨_, he, fun v q => nomatch q⟩
    · obtain ⟨o, h1, _, h2⟩ := hz.obj; exact ⟨o, h1, h2⟩
    · exact ⟨_, hTI, fun v q => nomatch q⟩
    · exact ⟨_, hTO, fun v q => nomatch q⟩
    · exact c1.obj
    · exact c2.obj
  keep := fun i h h' st k => by
    obtain ⟨⟨old, he⟩, hz, hTI, ⟨x, y, hTO⟩, c1, c2⟩ := st
    exact ⟨⟨old, k e (by simp) _ he⟩, hz.at fun o q => k z (by simp) o q, k TI (by simp) _ hTI, ⟨x, y, k TO (by simp) _ hTO⟩, c1.at fun o q => k i1 (by simp) o q, c2.at fun o q => k i2 (by simp) o q⟩
  item := by
    intro X hP hw hK hc i pins s σ H E I hf st hg
    subst hP hw hK
    obtain ⟨⟨old, he⟩, hz, hTI, ⟨x0, y0, hTO⟩, c1, c2⟩ := st
    obtain ⟨xs, ys, x, y, hqx, hqy, hx, hy⟩ := hg
    obtain ⟨its, rv, p1, l1⟩ := sqK_obj I hqx
    obtain ⟨its2, rv2, p2, l2⟩ := sqK_obj I hqy
    obtain ⟨u, hu, ru⟩ := rv.get hx
    obtain ⟨u2, hu2, ru2⟩ := rv2.get hy
    have hel : e < s.heap.objs.size := Heap.lt_size he
    have hh : X.A.in1.in1.handled = none := I.ok.hd hc
    have fN : H s.heap.objs.size = none := I.hok.fresh (Nat.le_refl _)
    have fM : H (s.heap.objs.size + 1) = none := I.hok.fresh (Nat.le_succ _)
    have ne : s.heap.objs.size + 1 ≠ s.heap.objs.size := Nat.succ_ne_self _
    refine ez_item D B (drawsK ka hh i1 a h1a its.toArray) (drawsK kb hh i2 b h2b its2.toArray) he hz hTI hTO ⟨c1, p1⟩ ⟨c2, p2⟩ (by simpa using (List.getElem?_eq_some_iff.mp hu).1) (by simpa using (List.getElem?_eq_some_iff.mp hu2).1) fun v1 v2 h' tk e1 e2 eO z1 O1 d1 d2 pN pM hk hsz => ?_
    obtain rfl : u = v1 := by rw [show its.toArray[i]? = some u by simpa using hu] at e1; injection e1
    obtain rfl : u2 = v2 := by rw [show its2.toArray[i]? = some u2 by simpa using hu2] at e2; injection e2
    refine ⟨_, rfl, wpAny_letOwnedTupleGo_enum (s := { s with heap := h', toks := tk + 1 }) eO fun h'' he' sb => ?_⟩
    have qN : h''.get? s.heap.objs.size = some { cls := .type "tuple", data := .seq #[u, u2] } := (sb.2 _ (Nat.ne_of_gt hel)).trans pN
    have qM : h''.get? (s.heap.objs.size + 1) = some { cls := .type "tuple", data := .seq #[.int i tk, .ref s.heap.objs.size] } := (sb.2 _ (Nat.ne_of_gt (Nat.lt_succ_of_lt hel))).trans pM
    have I1 : Inv X pins σ (upd (upd H s.heap.objs.size (.tup [x, y])) (s.heap.objs.size + 1) (.tup [.int (i : Nat), .ref s.heap.objs.size])) { s with heap := h'', toks := tk + 1 } := by
      refine turnNews I (ch := [e, z, TI, TO, i1, i2]) (fun c o hb q => (sb.2 c (fun z => hb (by simp [z]))).trans (hk c o (fun z => hb (by simp [z])) (fun z => hb (by simp [z])) (fun z => hb (by simp [z])) (fun z => hb (by simp [z])) (fun z => hb (by simp [z])) q)) hf (fun c v q => ?_) (fun c hc q => ?_) fun c o q n => ?_
      · rw [upd_ne (ne_of_none q fM), upd_ne (ne_of_none q fN)]; exact q
      · rw [upd_ne (Nat.ne_of_lt (Nat.lt_succ_of_lt hc)), upd_ne (Nat.ne_of_lt hc)]; exact q
      · by_cases hM : c = s.heap.objs.size + 1
        · subst hM
          rw [upd_same] at q
          cases q
          exact ⟨by show 2 ≤ sizeLine; decide, [.int i tk, .ref s.heap.objs.size], .cons ⟨_, rfl⟩ (.cons rfl .nil), ⟨_, qM, rfl, _, rfl⟩⟩
        · rw [upd_ne hM] at q
          by_cases hN : c = s.heap.objs.size
          · subst hN
            rw [upd_same] at q
            cases q
            exact ⟨by show 2 ≤ sizeLine; decide, [u, u2], .cons ru (.cons ru2 .nil), ⟨_, qN, rfl, _, rfl⟩⟩
          · rw [upd_ne hN, n] at q; cases q
    refine ⟨.ref (s.heap.objs.size + 1), _, I1, rfl, ⟨_, _, x, y, rfl, fN, fM, ne, rfl, fun l hl => by rw [sqK_inj I hl hqx]; exact hx, fun l hl => by rw [sqK_inj I hl hqy]; exact hy⟩, ⟨⟨.ref s.heap.objs.size, ?_⟩, ?_, ?_, ?_, ?_, ?_⟩, fun c hcm => ?_⟩
    · rw [show ((i + 1 : Nat) : Int) = (i : Int) + 1 by omega]; exact he'
    · exact z1.at fun o q => (sb.2 _ (Ne.symm B.ez)).trans q
    · exact (sb.2 _ (Ne.symm B.eI)).trans (hk _ _ (Ne.symm B.eI) D.TIz D.TITO D.TIi1 D.TIi2 hTI)
    · obtain ⟨oa, ob, O1⟩ := O1
      exact ⟨oa, ob, (sb.2 _ (Ne.symm B.eO)).trans O1⟩
    · exact d1.1.at fun o q => (sb.2 _ (Ne.symm B.e1)).trans q
    · exact d2.1.at fun o q => (sb.2 _ (Ne.symm B.e2)).trans q
    · have hlt : c < s.heap.objs.size := by
        have e' : c = e ∨ c = z ∨ c = TI ∨ c = TO ∨ c = i1 ∨ c = i2 := by simpa using hcm
        rcases e' with q | q | q | q | q | q <;> subst q
        · exact hel
        · obtain ⟨_, h1, _⟩ := hz.obj; exact Heap.lt_size h1
        · exact Heap.lt_size hTI
        · exact Heap.lt_size hTO
        · obtain ⟨_, e1, _⟩ := c1.obj; exact Heap.lt_size e1
        · obtain ⟨_, e2, _⟩ := c2.obj; exact Heap.lt_size e2
      rw [upd_ne (Nat.ne_of_lt (Nat.lt_succ_of_lt hlt)), upd_ne (Nat.ne_of_lt hlt)]
      exact (hf c hcm).1
  done := by
    intro X hP hw hK hc i pins s σ H E I hf st hg
    subst hP hw hK
    obtain ⟨⟨old, he⟩, hz, hTI, ⟨x0, y0, hTO⟩, c1, c2⟩ := st
    obtain ⟨xs, ys, hqx, hqy, g1, g2, hend⟩ := hg
    obtain ⟨its, rv, p1, l1⟩ := sqK_obj I hqx
    obtain ⟨its2, rv2, p2, l2⟩ := sqK_obj I hqy
    have n1 := rv.length
    have n2 := rv2.length
    have hh : X.A.in1.in1.handled = none := I.ok.hd hc
    refine ez_end D (drawsK ka hh i1 a h1a its.toArray) (drawsK kb hh i2 b h2b its2.toArray) he hz hTI hTO ⟨c1, p1⟩ ⟨c2, p2⟩ (by simp; omega) (by simp; omega) (by simp; omega) fun h' tk hk => ⟨rfl, ?_⟩
    exact I.turnedL (ch := [e, z, TI, TO, i1, i2]) (fun c o hb q => hk c o (fun e => hb (by simp [e])) (fun e => hb (by simp [e])) (fun e => hb (by simp [e])) (fun e => hb (by simp [e])) q) hf
  self := fun A i s Q E st h => let ⟨⟨_, he⟩, _⟩ := st; wpAny_pyIter_enum he h
end Pm

set_option maxRecDepth 100000
set_option maxHeartbeats 1000000
/-! enumerate(zip(a, b)) is begun -/
namespace Pm
open PySem L2 PySem.Spec PyProof.Rows Mine
theorem meets_enumZ {z TI TO : Addr} :
    Meets (Builtin.«enumerate.__new__» ⟨[.type "enumerate", .ref z], []⟩) (fun _ R s => IsZip s.heap z TI TO .none ∧
      R (.ok (.ret (.ref s.heap.objs.size))) { s with heap := s.heap.push { cls := .type "enumerate", data := .fields #[.none, .bool false, .ref z, rawInt 0, .none, .none] } }) :=
  .of_wp fun prog w A R s h => by
    obtain ⟨hp, g, d, tk, os⟩ := s
    obtain ⟨hH, h⟩ := h
    have hsub := sub_enumerate
    wp_walk
    refine wpAny_stack_any fun st => wpAny_pure ?_
    split
    · rename_i c _ _ _ _ _
      cases (c == Value.type "enumerate")
      · wp_walk using wpAny_pyIter_zip hH
        exact ⟨_, rfl, h⟩
      · wp_walk using wpAny_pyIter_zip hH
        exact ⟨_, rfl, h⟩
    · wp_walk using wpAny_pyIter_zip hH
      exact ⟨_, rfl, h⟩
theorem call_enumZ {prog : Program} {w : World} {A : Around} {E : Value → Shared → Prop} {s : Shared} {z TI TO : Addr} {Q : Value → Shared → Prop} (h1 : IsZip s.heap z TI TO .none)
    (h : ∀ h', IsEnum h' s.heap.objs.size z 0 .none → (∀ b o, s.heap.get? b = some o → h'.get? b = some o) → Q (.ref s.heap.objs.size) { s with heap := h' }) :
    wpAny (model prog w) A (call (.type "enumerate") [.ref z]) Q E s := by
  refine callType_new F.called_enumerate (by decide) (F.typeCall_enumerate_1 _) (F.newCall_enumerate_1 _) (fun obj => F.args_object_init_2 obj _) F.entry_enumerate_new meets_enumZ ⟨h1, ?_⟩
  have he : IsEnum (s.heap.push { cls := .type "enumerate", data := .fields #[.none, .bool false, .ref z, rawInt 0, .none, .none] }) s.heap.objs.size z 0 .none := Heap.get?_push_size s.heap rfl
  exact ⟨⟨_, he, rfl⟩, h _ he fun b u x => Heap.get?_push_of_some _ x⟩
/-- enumerate(zip(a, b)) -/
def iEz (K : PySem.W.Frag) (ta : TA) : TI := fun σ H R => ta σ H fun vs H1 => ∃ ka kb a b xs ys, vs = [.ref a, .ref b] ∧ SqK K ka H1 a xs ∧ SqK K kb H1 b ys ∧ R (ItezK K ka kb a b) H1
theorem pi_ez {X : Cx} {e e2 : Expr} {ta : TA} {p p2 pos pos2 tpos : Pos} {elts : List Expr} {kk : Nat} (hge : Gl X "enumerate") (hme : X.mg "enumerate" = none) (hg : Gl X "zip") (hm : X.mg "zip" = none) (ha : PA X [e, e2] ta)
    (hs : starEach [e, e2] X.env = (false, eval e X.env) :: starEach [e2] X.env) (hpl : (backTo pos2 (starEach [e2] X.env)).any (·.1) = false) :
    PI X (.Tuple elts kk tpos) (.Call (.Name "enumerate" p) [.Call (.Name "zip" p2) [e, e2] [] pos2] [] pos) (iEz X.K ta) := by
  refine ⟨fun pins s σ H R I h => ?_⟩
  have hse : starEach [Expr.Call (.Name "zip" p2) [e, e2] [] pos2] X.env = [(false, eval (Expr.Call (.Name "zip" p2) [e, e2] [] pos2) X.env)] := star_cons (es := []) rfl
  refine Call_ (ld_blt I hge hme boot_enumerate (callWith_type1 ?_ hse rfl))
  rw [hse]
  show wpAny _ _ (spliced ((false, eval (Expr.Call (.Name "zip" p2) [e, e2] [] pos2) X.env) :: [])) _ _ s
  refine Calls.spliced_cons (Call_ (ld_blt I hg hm boot_zip (callWith_type1 (thn (ha.run pos2 pins s σ H _ I h) fun us s1 ⟨vs, H1, I1, r1, q1⟩ => ?_) hs hpl)))
  obtain ⟨ka, kb, a, b, xs, ys, rfl, hqx, hqy, q⟩ := q1
  obtain ⟨u, u2, rfl, ra, rb⟩ : ∃ u u2, us = [u, u2] ∧ L2.RelV (.ref a) u ∧ L2.RelV (.ref b) u2 := by
    cases r1 with
    | cons r rr => cases rr with
      | cons r' rr => cases rr; exact ⟨_, _, rfl, r, r'⟩
  cases ra
  cases rb
  obtain ⟨its, rv, p1, l1⟩ := sqK_obj I1 hqx
  obtain ⟨its2, rv2, p2, l2⟩ := sqK_obj I1 hqy
  refine zip_begins2 (beginsK ka a its.toArray) (beginsK kb b its2.toArray) p1 p2 fun h1 hz hTI hTO c1 c2 hsz hk => Calls.spliced_nil (call_enumZ (s := { s1 with heap := h1 }) hz fun h2 he hk2 => wpAny_pyIter_enum (s := { s1 with heap := h2 }) he ?_)
  have sz5 : ({ s1 with heap := h1 } : Shared).heap.objs.size = s1.heap.objs.size + 5 := hsz
  rw [sz5] at he ⊢
  generalize hN : s1.heap.objs.size = N at *
  have I2 : Inv X pins σ H1 { s1 with heap := h2 } := I1.kept (t' := s1.toks) fun b o e => hk2 b o (hk b o e)
  have l1' : a < N := l1
  have l2' : b < N := l2
  have na : a ≠ N := Nat.ne_of_lt l1'
  have nb : b ≠ N + 1 := Nat.ne_of_lt (Nat.lt_succ_of_lt l2')
  have B : EApart (N + 5) (N + 4) (N + 2) (N + 3) N (N + 1) [N, a] [N + 1, b] := ⟨by show N + 5 ≠ N + 4; omega, by show N + 5 ≠ N + 2; omega, by show N + 5 ≠ N + 3; omega, by show N + 5 ≠ N; omega, by show N + 5 ≠ N + 1; omega,
    fun hc => by
      rcases List.mem_cons.mp hc with r | r
      · exact absurd r (by show N + 5 ≠ N; omega)
      · rw [List.mem_singleton] at r
        exact absurd r (Nat.ne_of_gt (Nat.lt_of_lt_of_le l1' (Nat.le_add_right N 5))),
    fun hc => by
      rcases List.mem_cons.mp hc with r | r
      · exact absurd r (by show N + 5 ≠ N + 1; omega)
      · rw [List.mem_singleton] at r
        exact absurd r (Nat.ne_of_gt (Nat.lt_of_lt_of_le l2' (Nat.le_add_right N 5)))⟩
  refine ⟨N + 5, _, _, _, H1, rfl, I2, turn_ezK (ka := ka) (kb := kb) (zip_sep2 (fp1 := [a]) (fp2 := [b]) (fun c hc => by simp at hc; rw [hc]; exact l1) (fun c hc => by simp at hc; rw [hc]; exact l2)) B na nb,
    ⟨⟨.none, he⟩, .inl (hk2 _ _ hz), hk2 _ _ hTI, ⟨_, _, hk2 _ _ hTO⟩, cellN (hk2 _ _ c1), cellN (hk2 _ _ c2)⟩, fun c hcm => ?_, q⟩
  have hle : s1.heap.objs.size ≤ c := by
    rw [hN]
    have e' : c = N + 5 ∨ c = N + 4 ∨ c = N + 2 ∨ c = N + 3 ∨ c = N ∨ c = N + 1 := by simpa using hcm
    have n : (N : Nat) ≤ N + 5 := Nat.le_add_right _ _
    rcases e' with r | r | r | r | r | r <;> rw [r]
    · exact Nat.le_add_right N 5
    · exact Nat.le_add_right N 4
    · exact Nat.le_add_right N 2
    · exact Nat.le_add_right N 3
    · exact Nat.le_refl N
    · exact Nat.le_add_right N 1
  exact I1.fpOk hle (I1.hok.fresh hle)
theorem walk_ezN {K : PySem.W.Frag} {ka kb : SK} {a b : Addr} {n n2 : Nat} : Walk (ItezK K ka kb a b) (min n n2) (fun H => (∃ vs, SqK K ka H a vs ∧ vs.length = n) ∧ ∃ ws, SqK K kb H b ws ∧ ws.length = n2)
    (fun i H v H' => ∃ T U x y, v = .ref U ∧ H T = none ∧ H U = none ∧ U ≠ T ∧ H' = upd (upd H T (.tup [x, y])) U (.tup [.int (i : Nat), .ref T]) ∧ (∀ xs, SqK K ka H a xs → xs[i]? = some x) ∧ ∀ ys, SqK K kb H b ys → ys[i]? = some y) where
  goes := fun i H hi ⟨⟨vs, q1, e1⟩, ws, q2, e2⟩ => ⟨vs, ws, vs[i]'(by omega), ws[i]'(by omega), q1, q2, by simp, by simp⟩
  stops := fun H ⟨⟨vs, q1, e1⟩, ws, q2, e2⟩ => ⟨vs, ws, q1, q2, by omega, by omega, by omega⟩
  yields := fun i H x H' hi _ y => y
end Pm

set_option maxRecDepth 100000
set_option maxHeartbeats 1000000
/-! enumerate(zip(a, b)), as data -/
namespace Pm
open PySem L2
def ezL (xs ys : List D) : List D := (List.range (min xs.length ys.length)).zipWith (fun (i : Nat) p => .tup [.int (i : Nat), p]) (List.zipWith (fun x y => .tup [x, y]) xs ys)
theorem ezL_len {xs ys : List D} : (ezL xs ys).length = min xs.length ys.length := by
  unfold ezL
  rw [List.length_zipWith, List.length_range, List.length_zipWith]
  omega
theorem ezL_get {xs ys : List D} {i : Nat} {x y : D} (h1 : xs[i]? = some x) (h2 : ys[i]? = some y) : (ezL xs ys)[i]? = some (.tup [.int (i : Nat), .tup [x, y]]) := by
  have l1 := (List.getElem?_eq_some_iff.mp h1).1
  have l2 := (List.getElem?_eq_some_iff.mp h2).1
  unfold ezL
  rw [List.getElem?_zipWith, List.getElem?_range (by omega), List.getElem?_zipWith, h1, h2]
def ezD (ds : List D) (m : Mu) : Option (List D × Wt) := match ds with
  | [a, b] => match lookW m a, lookW m b with
    | some (xs, w), some (ys, u) => some (ezL xs ys, w ++ u)
    | _, _ => none
  | _ => none
section
variable {G : Gm} {W : XK} {X : Cx} {N : List Str} {lv : Nat} {sc : Scope} {T : Tb} {Z : Hp} {α : List Addr} {a b c : Addr} {ds es fs : List D}
theorem wd_ez {ka kb : SK} {w u : Wt} (h1 : SeqW T ka a ds w Z α) (h2 : SeqW T kb b es u Z α) : WalkD T (ItezK T.K ka kb a b) (ezL ds es) (w ++ u) Z α := by
  have hs : ∀ {m : Mu}, okW (w ++ u) m = true → okW w m = true ∧ okW u m = true := fun q => by rwa [okW_app, Bool.and_eq_true] at q
  have hw := walk_ezN (K := T.K) (ka := ka) (kb := kb) (a := a) (b := b) (n := ds.length) (n2 := es.length)
  rw [← ezL_len] at hw
  refine ⟨_, _, hw, fun H Z2 α2 m le R ok => ⟨let ⟨vs, q1, q2⟩ := h1 H Z2 α2 m le R (hs ok).1; ⟨vs, q1, q2.len⟩, let ⟨vs, q1, q2⟩ := h2 H Z2 α2 m le R (hs ok).2; ⟨vs, q1, q2.len⟩⟩, fun i H x H' hi _ y Z2 α2 m le R ok => ?_⟩
  obtain ⟨t, r, x1, y1, rfl, ht, hr, ne, rfl, g1, g2⟩ := y
  obtain ⟨vs, q1, q2⟩ := h1 _ Z2 α2 m le R (hs ok).1
  obtain ⟨ws, q3, q4⟩ := h2 _ Z2 α2 m le R (hs ok).2
  obtain ⟨d, e1, e2⟩ := q2.get' (g1 vs q1)
  obtain ⟨e, f1, f2⟩ := q4.get' (g2 ws q3)
  have le2 := le_new (o := .tup [x1, y1]) R ht
  have R2 := R.new (o := .tup [x1, y1]) ht
  have hr2 : upd H t (.tup [x1, y1]) r = none := by rw [upd_ne ne]; exact hr
  have le3 := le_new (o := .tup [.int (i : Nat), .ref t]) R2 hr2
  have dt : Dn T (upd Z2 t (.tup [x1, y1])) α2 (.ref t) (.tup [d, e]) := .tup upd_same (.cons (e2.mono le2) (.cons (f2.mono le2) .nil))
  exact ⟨_, .tup [.int (i : Nat), .tup [d, e]], ezL_get e1 f1, (Fut.new R ht).trans (Fut.new R2 hr2), R2.new hr2, .tup upd_same (.cons (.int _) (.cons (dt.mono le3) .nil))⟩
theorem si_ez {elts : List Expr} {k : Nat} {tp p p2 pos pos2 : Pos} {a b : Expr} {irs : List E} {t : Str} (ht : G.xi t = some ezD) (h : CxOk G N lv W sc X) (hge : isGl (sc.names.lookup ("enumerate" : Str)) = true) (hg : isGl (sc.names.lookup ("zip" : Str)) = true) (hs : [a, b].all noStar = true) (ha : All2 (SE G W X) [a, b] irs) :
    SI G W X (.Tuple elts k tp) (.Call (.Name "enumerate" p) [.Call (.Name "zip" p2) [a, b] [] pos2] [] pos) (.ext t irs) := fun σ H Z α ρ m R Rp En q => by
  have hK : G.T.K = X.K := h.good.gk.eK
  have hl := ha.len
  unfold evI at q
  rw [ht] at q
  dsimp only at q
  refine ⟨_, pi_ez (h.glob _ hge) (bl_in h (by decide +kernel)) (h.glob _ hg) (bl_in h (by decide +kernel)) pa_all (star_cons (by simp only [List.all_cons, Bool.and_eq_true] at hs; exact hs.1)) (star_all (by simp only [List.all_cons, Bool.and_eq_true, List.all_nil, and_true] at hs ⊢; exact hs.2)), ?_⟩
  refine ses_of hs ha σ H Z α ρ m _ Rp En (q.bind.lens.mono fun ds m1 H1 Z1 α1 F1 R1 ⟨hn, p1⟩ vs dvs => ?_)
  rw [← hl] at hn
  match ds, hn with
  | [d1, d2], _ =>
    cases dvs with
    | cons v1 r => cases r with
      | cons v2 r =>
        cases r
        split at p1
        · rename_i xs e1
          unfold ezD at e1
          dsimp only at e1
          split at e1
          · rename_i xs w ys u l1 l2
            cases e1
            obtain ⟨ka, a1, rfl, s1, k1, _⟩ := lookW_at R1 v1 l1
            obtain ⟨kb, a2, rfl, s2, k2, _⟩ := lookW_at R1 v2 l2
            obtain ⟨vs, h1, _⟩ := s1 H1 Z1 α1 m1 .rfl' R1 k1
            obtain ⟨ws, h2, _⟩ := s2 H1 Z1 α1 m1 .rfl' R1 k2
            exact ⟨ka, kb, _, _, _, _, rfl, hK ▸ h1, hK ▸ h2, hK ▸ p1.now R1 (by rw [okW_app, k1, k2]; rfl) _ (wd_ez s1 s2)⟩
          · cases e1
        · exact p1.elim
end
end Pm

set_option maxRecDepth 100000
set_option maxHeartbeats 4000000
/-! Targets, comprehensions -/
namespace Pm
open PySem L2
section
variable {G : Gm} {W : XK} {X : Cx} {N : List Str} {lv : Nat} {sc : Scope}
theorem sg_name {x : Str} {p : Pos} {i : Nat} (h : CxOk G N lv W sc X) (hl : isLoc (sc.names.lookup x) = true) (hi : ixOf N x = some i) : SG G W X (.Name x p) (.nm i) := fun σ H Z α ρ m v d Q R En dv q => by
  unfold evG at q
  obtain ⟨l1, l2⟩ := h.loc x hl
  refine ⟨_, pg_name (i := i) (by rw [h.eN]; exact h.nd) (by rw [h.eN]; exact ixOf_get hi) l1 l2, ?_⟩
  refine q.now R _ (En.set dv) (by simp) fun j hj => ?_
  have : i ≠ j := fun z => hj (by simp [slotsG, z])
  rw [List.getElem?_set_ne this]
theorem sgs_nil : SGs G W X [] [] := fun σ H Z α ρ m vs ds Q R En dv q => by
  unfold evGs at q
  cases ds with
  | nil =>
    cases dv
    exact ⟨_, pgs_nil, rfl, q.now R σ En rfl fun _ _ => rfl⟩
  | cons d ds => exact q.elim
theorem tgt_cons {e : Expr} {es : List Expr} {env : PySem.Env} (h : noStar e = true) : (assignEach (e :: es) env).map (·.2) = assign e env :: (assignEach es env).map (·.2) := by
  cases e <;> first | rfl | cases h
theorem sgs_cons {e : Expr} {es : List Expr} {g : Gt} {gs : List Gt} (hs : noStar e = true) (h1 : SG G W X e g) (h2 : SGs G W X es gs) : SGs G W X (e :: es) (g :: gs) := fun σ H Z α ρ m vs ds Q R En dv q => by
  unfold evGs at q
  cases ds with
  | nil => exact q.elim
  | cons d ds =>
    cases dv with
    | cons d1 dr =>
      refine ⟨_, pgs_cons pg_all pgs_all (tgt_cons hs), _, _, rfl, ?_⟩
      refine h1 σ H Z α ρ m _ d _ R En d1 (q.bind.mono fun ρ1 m1 H1 Z1 α1 F1 R1 p1 σ1 En1 l1 k1 => ?_)
      refine h2 σ1 H1 Z1 α1 ρ1 m1 _ ds _ R1 En1 (dr.mono F1.le) (p1.mono fun ρ2 m2 H2 Z2 α2 F2 R2 p2 σ2 En2 l2 k2 => ?_)
      refine p2 σ2 En2 (l2.trans l1) fun j hj => ?_
      simp only [slotsGs, List.mem_append, not_or] at hj
      rw [k2 j hj.2, k1 j hj.1]
theorem tgt_len : ∀ {es : List Expr} {env : PySem.Env}, es.all noStar = true → (assignEach es env).length = es.length ∧ (assignEach es env).findIdx? (·.1) = none
  | [], _, _ => ⟨rfl, rfl⟩
  | e :: es, env, h => by
    rw [List.all_cons, Bool.and_eq_true] at h
    obtain ⟨h1, h2⟩ := tgt_len (env := env) h.2
    have e1 : assignEach (e :: es) env = (false, assign e env) :: assignEach es env := by cases e <;> first | rfl | cases h.1
    rw [e1]
    refine ⟨by simp [h1], ?_⟩
    rw [List.findIdx?_cons, h2]
    rfl
theorem sg_tup {es : List Expr} {gs : List Gt} {k : Nat} {p : Pos} (h : CxOk G N lv W sc X) (hs : es.all noStar = true) (hl : es.length = gs.length) (hg : SGs G W X es gs) : SG G W X (.Tuple es k p) (.tup gs) := fun σ H Z α ρ m v d Q R En dv q => by
  unfold evG at q
  split at q
  · rename_i ds
    split at q
    · rename_i hn
      cases dv with
      | tup e1 e2 =>
        rename_i a vs
        obtain ⟨t1, t2⟩ := tgt_len (env := X.env) hs
        refine ⟨_, pg_tup h.calm pgs_all t1 t2, a, vs, rfl, SqT.of (R.sub _ _ e1), by rw [e2.len, hn, hl], ?_⟩
        exact hg σ H Z α ρ m vs ds Q R En e2 (q.mono fun ρ1 m1 H1 Z1 α1 F1 R1 p1 σ1 En1 l1 k1 => p1 σ1 En1 l1 fun j hj => k1 j (by simpa [slotsG] using hj))
    · exact q.elim
  · exact q.elim
def pA (X : Cx) : TSet := fun o i v H Q => ∃ r, PSet X r ∧ r o i v H Q
theorem pset_all {X : Cx} : PSet X (pA X) := fun pins s σ H o i v ov iv u Q I r1 r2 r3 ⟨_, h, q⟩ => h pins s σ H o i v ov iv u Q I r1 r2 r3 q
theorem sub_ha {o i : Expr} {pos : Pos} {env : PySem.Env} (h : ∀ a c d e, i ≠ .Slice a c d e) : ∀ v, assign (.Subscript o i pos) env v = (do
      let ov ← holding [v] (eval o env)
      let iv ← holding [v, ov] (eval i env)
      standAt pos
      holding [v, ov, iv] (setItem ov iv v)
      release [v, ov, iv] []) := by
  intro v
  cases i <;> first | rfl | exact absurd rfl (h _ _ _ _)
theorem sg_sub {o i : Expr} {x y : E} {p : Pos} (hi : ∀ a c d e, i ≠ .Slice a c d e) (ho : SE G W X o x) (hy : SE G W X i y) : SG G W X (.Subscript o i p) (.sub x y) := fun σ H Z α ρ m v d Q R En dv q => by
  unfold evG at q
  refine ⟨_, pg_sub pe_all pe_all pset_all (sub_ha hi), ?_⟩
  refine ho σ H Z α ρ m _ R En (q.bind.mono fun d1 m1 H1 Z1 α1 F1 R1 p1 v1 dv1 => ?_)
  refine hy σ H1 Z1 α1 ρ m1 _ R1 (En.mono F1.le) (p1.bind.mono fun d2 m2 H2 Z2 α2 F2 R2 p2 v2 dv2 => ?_)
  split at p2
  · rename_i k j
    cases dv2
    split at p2
    · rename_i xs hx
      split at p2
      · rename_i n hn
        have dk := dv1.mono F2.le
        cases dk with
        | own e1 =>
          rename_i a
          obtain ⟨a', ws, f1, f2, f3⟩ := look_lst R2 hx
          rw [e1] at f1; cases f1
          refine ⟨_, set_list, a, ws, j, n, rfl, rfl, f2, by rw [f3.len]; exact hn, ?_⟩
          refine p2 _ _ _ (Fut.put R2 e1) (R2.put e1 hx rfl ⟨_, upd_same, Dns.set (dv.mono (F1.le.trans F2.le)) n f3⟩) σ (En.mono (F1.le.trans F2.le)) rfl fun _ _ => rfl
      · exact p2.elim
    · exact p2.elim
  · exact p2.elim
theorem sg_fld {o : Expr} {f : Str} {x : E} {p : Pos} (h : CxOk G N lv W sc X) (ho : SE G W X o x) : SG G W X (.Attribute o f p) (.fld x f) := fun σ H Z α ρ m v d Q R En dv q => by
  have pg : PG X (.Attribute o f p) (fun v σ H Q => tA X o σ H fun x H1 => ∃ a C dx fs, x = .ref a ∧ H1 a = some (.ins C dx fs) ∧ Cls X.K C ∧ NoAttr X.K C f ∧ fs.length < 1000 ∧ Q σ (upd H1 a (.ins C dx (putF f v fs)))) := by
    refine ⟨fun pins s σ H v u Q I r h => ?_⟩
    show wpAny _ _ (do
      let ov ← holding [u] (eval o X.env)
      standAt p.atName
      holding [u, ov] (setAttr ov f u)
      release [u, ov] []) _ _ _
    refine wpAny_bind (wpAny_holding (thn (pe_all.run pins s σ H _ I h) fun ov s1 ⟨x, H1, I1, r1, a, C, dx, fs, ex, ea, c, n, hl, q1⟩ => ?_))
    subst ex
    obtain rfl : ov = Value.ref a := r1
    refine wpAny_bind (wpAny_standAt (wpAny_bind (wpAny_holding (setattr_ok I1 ea c n hl r fun s2 I2 => ?_))))
    exact wpAny_release ⟨σ, _, I2, q1⟩
  unfold evG at q
  refine ⟨_, pg, ?_⟩
  refine ho σ H Z α ρ m _ R En (q.bind.mono fun d1 m1 H1 Z1 α1 F1 R1 p1 v1 dv1 => ?_)
  split at p1
  · rename_i k
    split at p1
    · rename_i c fs hk
      split at p1
      · rename_i hlt
        split at p1
        · rename_i hfl
          cases dv1 with
          | own e1 =>
            rename_i a
            obtain ⟨C, dx, ws, h1, h2, h3⟩ := R1.obj _ _ _ e1 hk
            refine ⟨a, C, dx, ws, rfl, h2, (h.good.gk.cls c C h1).1, h.good.gk.fl c C f h1 hfl, by rw [h3.len]; exact hlt, ?_⟩
            refine p1 _ _ _ (Fut.put R1 e1) (R1.put e1 hk rfl ⟨C, dx, _, h1, upd_same, Dfs.put (dv.mono F1.le) h3⟩) σ (En.mono F1.le) rfl fun _ _ => rfl
        · exact p1.elim
      · exact p1.elim
    · exact p1.elim
  · exact p1.elim
end
end Pm

set_option maxRecDepth 100000
set_option maxHeartbeats 4000000
/-! Comprehensions -/
namespace Pm
open PySem L2
section
variable {G : Gm} {W : XK} {X : Cx} {N : List Str} {lv : Nat} {sc : Scope}
theorem sifs_nil : SIfs G W X [] none := fun σ H Z α ρ m Q R En q => by
  unfold evT at q
  exact ⟨_, pts_nil, q.now R⟩
theorem sifs_one {e : Expr} {x : E} (h : ST G W X e x) : SIfs G W X [e] (some x) := fun σ H Z α ρ m Q R En q => by
  unfold evT at q
  refine ⟨_, pts_one pt_all, ?_⟩
  refine h σ H Z α ρ m Q R En (q.bind.mono fun d m1 H1 Z1 α1 F1 R1 p1 => ?_)
  split at p1
  · exact ⟨_, rfl, p1.now R1⟩
  · exact p1.elim
theorem wipe_get {σ : St} : ∀ {vs : List Nat} {j : Nat}, j ∉ vs → (L2.wipe σ vs)[j]? = σ[j]?
  | [], _, _ => rfl
  | v :: vs, j, h => by
    have h1 : v ≠ j := fun z => h (by rw [z]; exact List.mem_cons_self ..)
    have h2 : j ∉ vs := fun z => h (List.mem_cons_of_mem _ z)
    show ((L2.wipe σ vs).set v none)[j]? = _
    rw [List.getElem?_set_ne h1]
    exact wipe_get h2
theorem wipe_in {σ : St} : ∀ {vs : List Nat} {j : Nat}, j ∈ vs → j < σ.length → (L2.wipe σ vs)[j]? = some none
  | v :: vs, j, h, hj => by
    show ((L2.wipe σ vs).set v none)[j]? = _
    by_cases e : v = j
    · subst e
      rw [List.getElem?_set_self (by rw [L2.wipe_length]; exact hj)]
    · rw [List.getElem?_set_ne e]
      rcases List.mem_cons.mp h with z | z
      · exact absurd z.symm e
      · exact wipe_in z hj
theorem wipe_eq {σ τ : St} {vs : List Nat} (hl : τ.length = σ.length) (h : ∀ j, j ∉ vs → τ[j]? = σ[j]?) : L2.wipe τ vs = L2.wipe σ vs := by
  refine List.ext_getElem? fun j => ?_
  by_cases hj : j ∈ vs
  · by_cases hn : j < σ.length
    · rw [wipe_in hj hn, wipe_in hj (by rw [hl]; exact hn)]
    · rw [List.getElem?_eq_none (by rw [L2.wipe_length]; omega), List.getElem?_eq_none (by rw [L2.wipe_length]; omega)]
  · rw [wipe_get hj, wipe_get hj, h j hj]
theorem wipe_wipe {σ : St} {vs : List Nat} : L2.wipe (L2.wipe σ vs) vs = L2.wipe σ vs := wipe_eq (L2.wipe_length _ _) fun j hj => wipe_get hj
/-- what stands apart is frozen -/
theorem Rep.adopt {T : Tb} {H Z : Hp} {α : List Addr} {m : Mu} {p : Addr} {o : HO} (R : Rep T H Z α m) (hp : H p = some o) (hz : Z p = none) (hα : p ∉ α) : Rep T H (upd Z p o) α m := by
  have le : Le Z α (upd Z p o) α := ⟨fun a u e => by rw [upd_ne (ne_of_none e hz)]; exact e, [], by simp⟩
  refine ⟨fun a u e => ?_, R.len, R.nd, fun i a v e1 e2 lv => ?_, fun i a v e1 e2 => (R.obj i a v e1 e2).mono le fun _ e => e⟩
  · by_cases ha : a = p
    · subst ha; rw [upd_same] at e; cases e; exact hp
    · rw [upd_ne ha] at e; exact R.sub a u e
  · have ha : a ≠ p := fun z => by subst z; exact hα (List.mem_of_getElem? e1)
    rw [upd_ne ha]; exact R.out i a v e1 e2 lv
/-- a thing apart is written -/
theorem Rep.apart {T : Tb} {H Z : Hp} {α : List Addr} {m : Mu} {p : Addr} {o : HO} (R : Rep T H Z α m) (hz : Z p = none) (hα : p ∉ α) : Rep T (upd H p o) Z α m := by
  refine ⟨fun a u e => ?_, R.len, R.nd, R.out, fun i a v e1 e2 => (R.obj i a v e1 e2).mono .rfl' fun u e => ?_⟩
  · have ha : a ≠ p := fun z => by subst z; rw [hz] at e; cases e
    rw [upd_ne ha]; exact R.sub a u e
  · have ha : a ≠ p := fun z => by subst z; exact hα (List.mem_of_getElem? e1)
    rw [upd_ne ha]; exact e
/-- as Fut, but for one thing apart -/
structure FutX (p : Addr) (H Z : Hp) (α : List Addr) (H' Z' : Hp) (α' : List Addr) : Prop where
  le : Le Z α Z' α'
  fr : ∀ a o, H a = some o → a ∉ α → a ≠ p → H' a = some o
  na : ∀ a, a ∈ α' → a ∈ α ∨ H a = none
  th : ∀ a, H a ≠ none → H' a ≠ none
  nz : ∀ a, Z' a ≠ none → Z a ≠ none ∨ H a = none ∨ a ∈ α
theorem FutX.of {p : Addr} {H Z H' Z' : Hp} {α α' : List Addr} (f : Fut H Z α H' Z' α') : FutX p H Z α H' Z' α' := ⟨f.le, fun a o e n _ => f.fr a o e n, f.na, f.th, f.nz⟩
theorem FutX.trans {p : Addr} {H Z H' Z' H'' Z'' : Hp} {α α' α'' : List Addr} (h : FutX p H Z α H' Z' α') (h' : FutX p H' Z' α' H'' Z'' α'') : FutX p H Z α H'' Z'' α'' := by
  have back : ∀ a, H' a = none → H a = none := fun a q => by
    cases e : H a with
    | none => rfl
    | some o => exact absurd q (h.th a (by rw [e]; exact fun z => by cases z))
  refine ⟨h.le.trans h'.le, fun a o e n np => h'.fr a o (h.fr a o e n np) (fun z => ?_) np, fun a z => ?_, fun a z => h'.th a (h.th a z), fun a z => ?_⟩
  · rcases h.na a z with q | q
    · exact n q
    · rw [e] at q; cases q
  · rcases h'.na a z with q | q
    · exact h.na a q
    · exact .inr (back a q)
  · rcases h'.nz a z with q | q | q
    · exact h.nz a q
    · exact .inr (.inl (back a q))
    · rcases h.na a q with r | r
      · exact .inr (.inr r)
      · exact .inr (.inl r)
theorem FutX.upd {p : Addr} {o : HO} {H Z : Hp} {α : List Addr} : FutX p H Z α (upd H p o) Z α :=
  ⟨.rfl', fun a u e _ n => by rw [upd_ne n]; exact e, fun _ q => .inl q, fun a q z => by
    by_cases h : a = p
    · subst h; rw [upd_same] at z; cases z
    · rw [upd_ne h] at z; exact q z, fun _ q => .inl q⟩
/-- in the end the thing apart, which was not there, is frozen -/
theorem FutX.fin {p : Addr} {o : HO} {H Z H' Z' : Hp} {α α' : List Addr} (f : FutX p H Z α H' Z' α') (hp : H p = none) (hz : Z' p = none) : Fut H Z α H' (L2.upd Z' p o) α' :=
  ⟨f.le.trans ⟨fun a u e => by rw [upd_ne (ne_of_none e hz)]; exact e, [], by simp⟩, fun a u e n => f.fr a u e n (ne_of_none e hp), f.na, f.th, fun a q => by
    by_cases h : a = p
    · subst h; exact .inr (.inl hp)
    · rw [upd_ne h] at q; exact f.nz a q⟩
theorem FutX.finO {p : Addr} {H Z H' Z' : Hp} {α α' : List Addr} (f : FutX p H Z α H' Z' α') (hp : H p = none) : Fut H Z α H' Z' (α' ++ [p]) :=
  ⟨f.le.trans ⟨fun _ _ e => e, [p], rfl⟩, fun a u e n => f.fr a u e n (ne_of_none e hp), fun a q => by
    rcases List.mem_append.mp q with r | r
    · exact f.na a r
    · simp at r; subst r; exact .inr hp, f.th, f.nz⟩
/-- what stands apart comes into the store -/
theorem Rep.adoptO {T : Tb} {H Z : Hp} {α : List Addr} {m : Mu} {p : Addr} {o : O} (R : Rep T H Z α m) (hz : Z p = none) (ni : p ∉ α) (ho : OAt T H Z (α ++ [p]) p o) : Rep T H Z (α ++ [p]) (m ++ [o]) := by
  have le : Le Z α Z (α ++ [p]) := ⟨fun _ _ e => e, [p], rfl⟩
  have cases2 : ∀ {i : Nat} {a : Addr}, (α ++ [p])[i]? = some a → α[i]? = some a ∨ (i = α.length ∧ a = p) := fun {i a} e => by
    by_cases h : i < α.length
    · rw [List.getElem?_append_left h] at e; exact .inl e
    · rw [List.getElem?_append_right (by omega)] at e
      have : i - α.length = 0 := by
        by_cases z : i - α.length = 0
        · exact z
        · rw [List.getElem?_eq_none (by simp; omega)] at e; cases e
      rw [this] at e
      simp at e
      exact .inr ⟨by omega, e.symm⟩
  refine ⟨R.sub, by simp [R.len], fun i j a e1 e2 => ?_, fun i a v e ev lv => ?_, fun i a v e1 e2 => ?_⟩
  · rcases cases2 e1 with q | ⟨q1, q2⟩
    · rcases cases2 e2 with r | ⟨r1, r2⟩
      · exact R.nd i j a q r
      · subst r2; exact absurd (List.mem_of_getElem? q) ni
    · rcases cases2 e2 with r | ⟨r1, r2⟩
      · subst q2; exact absurd (List.mem_of_getElem? r) ni
      · omega
  · rcases cases2 e with q | ⟨q1, q2⟩
    · have hi : i < m.length := by rw [← R.len]; exact (List.getElem?_eq_some_iff.mp q).1
      rw [List.getElem?_append_left hi] at ev
      exact R.out i a v q ev lv
    · subst q2; exact hz
  · rcases cases2 e1 with q | ⟨q1, q2⟩
    · have hi : i < m.length := by rw [← R.len]; exact (List.getElem?_eq_some_iff.mp q).1
      rw [List.getElem?_append_left hi] at e2
      exact (R.obj i a v q e2).mono le fun w e => e
    · subst q1 q2
      rw [R.len, List.getElem?_append_right (Nat.le_refl _), Nat.sub_self] at e2
      simp at e2
      subst e2
      exact ho
theorem bind_ok {β γ : Type} {r : Rs β} {k : β → Mu → Rs γ} {c : γ} {m : Mu} (h : r.bind k = .ok c m) : ∃ b m1, r = .ok b m1 ∧ k b m1 = .ok c m := by
  cases r with
  | ok b m1 => exact ⟨b, m1, rfl, h⟩
  | ex x m1 => cases h
  | no => cases h
abbrev blkX (X : Cx) (scope : Scope) (s : Shared) (H : Hp) (C : Addr) (cl : List (Str × Addr)) (fp : List Addr) : Cx := X.blk s H scope (compEnvC scope cl C X.env) fp
def tbG (X : Cx) (scope : Scope) (tg : Expr) : TG := fun v σ H Q => ∀ s H0 C cl fp, tAG (blkX X scope s H0 C cl fp) tg v σ H Q
def tbT (X : Cx) (scope : Scope) (ifs : List Expr) : TT := fun σ H Q => ∀ s H0 C cl fp, tAPts (blkX X scope s H0 C cl fp) ifs σ H Q
def tbE (X : Cx) (scope : Scope) (elt : Expr) : TE := fun σ H Q => ∀ s H0 C cl fp, tA (blkX X scope s H0 C cl fp) elt σ H Q
/-- a comprehension's reading, in its parts -/
def tAL (X : Cx) (elt : Expr) (gs : List Comprehension) (scope : Scope) : TE := fun σ H Q => ∃ (tg iter : Expr) (ifs : List Expr) (own : List (Str × Nat)) (wi : TI) (g : TG) (tt : TT) (te : TE), gs = [⟨tg, iter, ifs, 0⟩] ∧ PI X tg iter wi ∧ BlkOk X.N X.env.scope scope own ∧
  (∀ s H C cl fp, PG (blkX X scope s H C cl fp) tg g) ∧ (∀ s H C cl fp, PTs (blkX X scope s H C cl fp) ifs tt) ∧ (∀ s H C cl fp, PE (blkX X scope s H C cl fp) elt te) ∧ (∀ x, foldedSetIterable iter X.env x = pure x) ∧ tLc wi g tt te (own.map (·.2)) σ H Q
def SL (G : Gm) (W : XK) (X : Cx) (elt : Expr) (gs : List Comprehension) (scope : Scope) (ir : E) : Prop := ∀ (σ : St) (H Z : Hp) (α : List Addr) (ρ : Env) (m : Mu) (Q : VK), Rep G.T H Z α m → EnvR G.T Z α σ ρ → Post G.T W H Z α (evE G ir ρ m) (KQ G.T Q) → tAL X elt gs scope σ H Q
theorem SL.se {elt : Expr} {gs : List Comprehension} {scope : Scope} {ir : E} {pos : Pos} (h : CxOk G N lv W sc X) (s : SL G W X elt gs scope ir) : SE G W X (.ListComp elt gs scope pos) ir := fun σ H Z α ρ m Q R En q => by
  obtain ⟨tg, iter, ifs, own, wi, g, tt, te, rfl, h1, h2, h3, h4, h5, h6, h7⟩ := s σ H Z α ρ m Q R En q
  exact ⟨_, pe_lc h.calm (by rw [h.eN]; exact h.nd) h1 h2 h3 h4 h5 h6, h7⟩
theorem sl_lc {ob : Bool} {elt tg iter : Expr} {ifs : List Expr} {scope : Scope} {g : Gt} {it : It} {c : Option E} {x : E} {own : List (Str × Nat)} (h : CxOk G N lv W sc X) (b : BlkOk N sc scope own) (hset : ∀ x, foldedSetIterable iter X.env x = pure x)
    (hsl : ∀ j ∈ slotsG g, j ∈ own.map (·.2)) (hi : SI G W X tg iter it) (hg : ∀ s H C cl fp, SG G E0 (blkX X scope s H C cl fp) tg g) (hc : ∀ s H C cl fp, SIfs G E0 (blkX X scope s H C cl fp) ifs c) (he : ∀ s H C cl fp, SE G E0 (blkX X scope s H C cl fp) elt x) :
    SL G W X elt [⟨tg, iter, ifs, 0⟩] scope (.lc ob g it c x (own.map (·.2))) := fun σ H Z α ρ m Q R En q => by
  unfold evE at q
  refine ⟨tg, iter, ifs, own, tAI X tg iter, tbG X scope tg, tbT X scope ifs, tbE X scope elt, rfl, pi_all, h.blkOk b, (fun s H0 C cl fp => ⟨fun pins s1 σ1 H1 v u Q1 I r q => pg_all.run pins s1 σ1 H1 v u Q1 I r (q s H0 C cl fp)⟩),
    (fun s H0 C cl fp => ⟨fun pins s1 σ1 H1 Q1 I q => let ⟨t, ht, hq⟩ := q s H0 C cl fp; ht.run pins s1 σ1 H1 Q1 I hq⟩), (fun s H0 C cl fp => ⟨fun pins s1 σ1 H1 Q1 I q => pe_all.run pins s1 σ1 H1 Q1 I (q s H0 C cl fp)⟩), hset, ?_⟩
  refine hi σ H Z α ρ m _ R En (q.bind.mono fun dw m1 H1 Z1 α1 F1 R1 p1 ok1 J wd L hL => ?_)
  obtain ⟨ds, w⟩ := dw
  dsimp only at p1 ok1 wd
  obtain ⟨Gd, Y, wk, hGd, yl⟩ := wd
  have zL : Z1 L = none := R1.back hL
  have aL : L ∉ α1 := R1.notIn hL
  have En1 := (En.mono F1.le).wiped (own.map (·.2))
  generalize hf : (fun (d : D) (m : Mu) => (evG G g d (wipeD ρ (own.map (·.2))) m).bind fun ρ2 m => (evT G c ρ2 m).bind fun b m => if b = true then (evE G x ρ2 m).bind fun x m => Rs.ok (some x) m else Rs.ok none m) = f at p1
  -- it comes to an end
  obtain ⟨xs, mm, eL⟩ : ∃ xs mm, lcL w f ds [] m1 = .ok xs mm := by
    cases e : lcL w f ds [] m1 with
    | ok xs mm => exact ⟨xs, mm, rfl⟩
    | ex y m2 => rw [e] at p1; exact p1.elim
    | no => rw [e] at p1; exact p1.elim
  rw [eL] at p1
  let Pv : Nat → Hp → Prop := fun i H2 => ∃ (Z2 : Hp) (α2 : List Addr) (m2 : Mu) (acc : List D) (av : List V), Rep G.T H2 Z2 α2 m2 ∧ FutX L H1 Z1 α1 H2 Z2 α2 ∧ H2 L = some (.lst av) ∧ Dns G.T Z2 α2 av acc ∧ Z2 L = none ∧ L ∉ α2 ∧ okW w m2 = true ∧ lcL w f (ds.drop i) acc m2 = .ok xs mm
  refine lc_it (g := tbG X scope tg) (tt := tbT X scope ifs) (te := tbE X scope elt) (vs := own.map (·.2)) (σ := σ) (H1 := H1) (D := L) (Qd := fun H2 => Q (.ref L) H2) wk Pv ?_ ?_ ?_ ?_
  · exact ⟨Z1, α1, m1, [], [], R1.apart zL aL, .upd, upd_same, .nil, zL, aL, ok1, by rw [List.drop_zero]; exact eL⟩
  · rintro i H2 _ ⟨Z2, α2, m2, acc, av, R2, f2, _, _, _, _, ok2, _⟩
    exact hGd H2 Z2 α2 m2 f2.le R2 ok2
  · rintro i v H2 H3 hn ⟨Z2, α2, m2, acc, av, R2, f2, eD, dacc, zL2, aL2, ok2, p4⟩ y
    obtain ⟨Z3, d, ed, F3, R3, dd⟩ := yl i H2 v H3 hn (hGd H2 Z2 α2 m2 f2.le R2 ok2) y Z2 α2 m2 f2.le R2 ok2
    have step : ∀ {Ha Za Hb Zb : Hp} {αa αb : List Addr}, Fut Ha Za αa Hb Zb αb → Ha L = some (.lst av) → Za L = none → L ∉ αa → Hb L = some (.lst av) ∧ Zb L = none ∧ L ∉ αb := fun {Ha Za Hb Zb αa αb} F e1 e2 e3 => by
      refine ⟨F.fr L _ e1 e3, ?_, fun z => ?_⟩
      · cases e : Zb L with
        | none => rfl
        | some o =>
          rcases F.nz L (by rw [e]; exact fun z => by cases z) with q | q | q
          · exact absurd e2 q
          · rw [e1] at q; cases q
          · exact absurd q e3
      · rcases F.na L z with q | q
        · exact e3 q
        · rw [e1] at q; cases q
    obtain ⟨e3, z3, a3⟩ := step F3 eD zL2 aL2
    have hdrop : ds.drop i = d :: ds.drop (i + 1) := by
      obtain ⟨hi, e⟩ := List.getElem?_eq_some_iff.mp ed
      rw [List.drop_eq_getElem_cons hi, e]
    rw [hdrop] at p4
    unfold lcL at p4
    obtain ⟨o, m4, ef, p5⟩ := bind_ok p4
    have ok4 : okW w m4 = true := by
      by_cases z : okW w m4 = true
      · exact z
      · rw [if_neg z] at p5; cases p5
    rw [if_pos ok4] at p5
    rw [← hf] at ef
    dsimp only at ef
    obtain ⟨ρ2, m5, eg, ef⟩ := bind_ok ef
    obtain ⟨b, m6, et, ef⟩ := bind_ok ef
    have f3 : FutX L H1 Z1 α1 H3 Z3 α2 := f2.trans (.of F3)
    intro s H0 C cl fp
    refine hg s H0 C cl fp _ H3 Z3 α2 (wipeD ρ (own.map (·.2))) m2 v d _ R3 (En1.mono (f3.le)) dd ?_
    rw [eg]
    intro H4 Z4 α4 F4 R4 σ4 En4 l4 k4
    obtain ⟨e4, z4, a4⟩ := step F4 e3 z3 a3
    refine ⟨(wipe_eq l4 fun j hj => k4 j fun z => hj (hsl j z)).trans wipe_wipe, ?_⟩
    intro s H0 C cl fp
    refine hc s H0 C cl fp σ4 H4 Z4 α4 ρ2 m5 _ R4 En4 ?_
    rw [et]
    intro H5 Z5 α5 F5 R5
    obtain ⟨e5, z5, a5⟩ := step F5 e4 z4 a4
    have le3 := (F3.le.trans F4.le).trans F5.le
    have f5 : FutX L H1 Z1 α1 H5 Z5 α5 := (f3.trans (.of F4)).trans (.of F5)
    cases b with
    | true =>
      rw [if_pos rfl]
      rw [if_pos rfl] at ef
      obtain ⟨y, m7, ey, ef⟩ := bind_ok ef
      cases ef
      intro s H0 C cl fp
      refine he s H0 C cl fp σ4 H5 Z5 α5 ρ2 m6 _ R5 (En4.mono F5.le) ?_
      rw [ey]
      intro H6 Z6 α6 F6 R6 w dw
      obtain ⟨e6, z6, a6⟩ := step F6 e5 z5 a5
      dsimp only at p5
      split at p5
      · rename_i hlen
        have dacc6 := dacc.mono (le3.trans F6.le)
        refine ⟨av, e6, by rw [dacc6.len]; exact hlen, Z6, α6, m4, acc ++ [y], av ++ [w], R6.apart z6 a6, (f5.trans (.of F6)).trans .upd, upd_same, dacc6.append (.cons dw .nil), z6, a6, ok4, p5⟩
      · cases p5
    | false =>
      rw [if_neg Bool.false_ne_true]
      rw [if_neg Bool.false_ne_true] at ef
      cases ef
      exact ⟨Z5, α5, m4, acc, av, R5, f5, e5, dacc.mono le3, z5, a5, ok4, p5⟩
  · rintro H2 ⟨Z2, α2, m2, acc, av, R2, f2, eD, dacc, zL2, aL2, ok2, p4⟩
    rw [List.drop_length] at p4
    unfold lcL at p4
    cases p4
    cases ob with
    | false =>
      have F := f2.fin (o := .lst av) hL zL2
      exact p1 _ _ _ F (R2.adopt eD zL2 aL2) _ (.lst upd_same (dacc.mono ⟨fun a u e => by rw [upd_ne (ne_of_none e zL2)]; exact e, [], by simp⟩))
    | true =>
      have le : Le Z2 α2 Z2 (α2 ++ [L]) := ⟨fun _ _ e => e, [L], rfl⟩
      refine p1 _ _ _ (f2.finO hL) (R2.adoptO zL2 aL2 ⟨av, eD, dacc.mono le⟩) _ (.own ?_)
      rw [← R2.len, List.getElem?_append_right (Nat.le_refl _), Nat.sub_self]
      rfl
end
end Pm

set_option maxRecDepth 100000
set_option maxHeartbeats 400000
/-! Texts of data, own instances that are called -/
namespace PySem.W
open PySem PySem.Calls
open PyProof.Rows (Fr)
section
variable {prog : Program} {w : World} {A : Around} {E : Value → Shared → Prop} {s : Shared} {K : Frag} {x C L f : Addr} {h₀ : Heap} {m : Str → Option Value} {ox : Obj} {od : Option Obj}
/-- repr(x) of an own class that has its own -/
theorem pm_repr {Q : Value → Shared → Prop} (hu : A.units + 1 < cLine) (X : K.In s.heap) (I : InstAt s.heap x ox C od) (hs : findIn K (.ref C) "__repr__" = some (some (.ref f))) (hf : isFn K (.ref f) = true)
    (h : wpAny (model prog w) A.in1 (call (.ref f) [.ref x]) (fun v s' => ∃ y t, v = .str y t ∧ Q v s') E s) : wpAny (model prog w) A (call (.builtin "repr") [.ref x]) Q E s := by
  refine Calls.call_function_entry PySem.F.kind_repr PySem.F.plain_repr PySem.F.entry_repr (PySem.F.args_repr1 _) ?_
  unfold Builtin.«repr»
  refine wpAny_bind (m := oneArg "repr" _) (wpAny_pure ?_)
  refine wpAny_bind (m := cRoomFor _ _) (wpAny_cRoomFor (by show A.units + 1 < cLine; exact hu) ?_)
  refine wpAny_bind (m := specialOf (.ref x) (Str.ofString "__repr__")) (wpAny_bind (I.type.here ((looks_findIn X hs).here ?_)))
  refine wpAny_bind (m := callSpecialIfBound? (.ref x) (Str.ofString "__repr__") _) (ifBound_K X I hs hf (wpAny_mono h (fun r s₁ h₁ => ?_) fun _ _ e => e))
  obtain ⟨y, t, rfl, hq⟩ := h₁
  refine wpAny_bind (wpAny_isInstance (T := "str") (b := true) rfl isSubtype_str_str ?_)
  exact wpAny_pure ⟨_, rfl, hq⟩
end
end PySem.W
namespace Pm
open PySem L2
section
variable {G : Gm} {W : XK} {X : Cx} {N : List Str} {lv : Nat} {sc : Scope}
theorem shownD_is {d : D} {y : Str} (h : shownD d = some y) : ∃ x, d.py = some x ∧ x.showable = true ∧ x.hasDict = false ∧ x.depth < 100 ∧ x.shown.length ≤ sizeLine ∧ y = x.shown := by
  unfold shownD at h
  split at h
  · rename_i x e
    split at h
    · rename_i c
      cases h
      simp only [Bool.and_eq_true, Bool.not_eq_true', decide_eq_true_eq] at c
      exact ⟨x, e, c.1.1.1, c.1.1.2, c.1.2, c.2, rfl⟩
    · cases h
  · cases h
/-- the text of data: by repr and in an f-string -/
theorem shown_run {pins : List (Addr × Obj)} {σ : L2.St} {H : Hp} {s : Shared} {v : V} {u : Value} {x : PyData} {Q : VK} (gd : X.A.guards = some []) (hr : Room lv X.A) (I : L2.Inv X pins σ H s) (r : RelV v u) (dp : Dp X.K H v x) (hs : x.showable = true) (hd : x.hasDict = false) (hz : x.depth < 100)
    (hl : x.shown.length ≤ sizeLine) (q : Q (.str x.shown) H) : wpAny (model X.prog X.w) X.A (call (.builtin "repr") [u]) (EP X pins σ Q) X.xe s := by
  have hu := hr.un
  have hit : ∀ i : Int, x = .int i → i.natAbs.log2 < 1920 := fun i e => by subst e; simpa [PyData.showable] using hs
  obtain ⟨as, rd⟩ := Dp.reads I x v u dp r
  cases dp with
  | non => cases r; exact PySem.P.repr_of_none ⟨.str "None", H, I.tok _, ⟨_, rfl⟩, q⟩
  | bl b => cases r; exact PySem.P.repr_of_bool ⟨.str (if b then "True" else "False"), H, I.tok _, ⟨_, rfl⟩, q⟩
  | int i => obtain ⟨t, rfl⟩ := r; exact PySem.P.repr_of_int (hit i rfl) ⟨.str (toString i), H, I.tok _, ⟨_, rfl⟩, q⟩
  | str y => obtain ⟨t, rfl⟩ := r; exact PySem.P.repr_of_str ⟨.str (reprText y), H, I.tok _, ⟨_, rfl⟩, q⟩ hl
  | lst _ _ => cases r; exact repr_of_reads' rd hs (PyData.noDict_hsm hd) gd (by omega) (fun _ _ e => e) (fun h' u tk k => ⟨.str _, H, I.kept k, ⟨u, rfl⟩, q⟩) hl
  | tup _ _ => cases r; exact repr_of_reads' rd hs (PyData.noDict_hsm hd) gd (by omega) (fun _ _ e => e) (fun h' u tk k => ⟨.str _, H, I.kept k, ⟨u, rfl⟩, q⟩) hl
theorem shown_fmt {pins : List (Addr × Obj)} {σ : L2.St} {H : Hp} {s : Shared} {v : V} {u : Value} {x : PyData} {Q : VK} (gd : X.A.guards = some []) (hr : Room lv X.A) (I : L2.Inv X pins σ H s) (r : RelV v u) (dp : Dp X.K H v x) (hs : x.showable = true) (hd : x.hasDict = false) (hz : x.depth < 100)
    (hl : x.shown.length ≤ sizeLine) (ht : ∀ y, x ≠ .str y) (q : Q (.str x.shown) H) : wpAny (model X.prog X.w) X.A (formatField u Str.empty) (EP X pins σ Q) X.xe s := by
  have hu := hr.un
  have hit : ∀ i : Int, x = .int i → i.natAbs.log2 < 1920 := fun i e => by subst e; simpa [PyData.showable] using hs
  obtain ⟨as, rd⟩ := Dp.reads I x v u dp r
  cases dp with
  | non => cases r; exact wpAny_formatField_none ⟨.str "None", H, I.tok _, ⟨_, rfl⟩, q⟩
  | bl b => cases r; exact wpAny_formatField_bool ⟨.str (if b then "True" else "False"), H, I.tok _, ⟨_, rfl⟩, q⟩
  | int i => obtain ⟨t, rfl⟩ := r; exact wpAny_formatField_int (hit i rfl) ⟨.str (toString i), H, I.tok _, ⟨_, rfl⟩, q⟩
  | str y => exact absurd rfl (ht y)
  | lst _ _ => cases r; exact formatField_of_reads rd hs (PyData.noDict_hsm hd) gd (by omega) (fun _ _ e => e) (fun h' u tk k => ⟨.str _, H, I.kept k, ⟨u, rfl⟩, q⟩) hl
  | tup _ _ => cases r; exact formatField_of_reads rd hs (PyData.noDict_hsm hd) gd (by omega) (fun _ _ e => e) (fun h' u tk k => ⟨.str _, H, I.kept k, ⟨u, rfl⟩, q⟩) hl
/-- {e} -/
theorem se_fmt {e : Expr} {pos : Pos} {x : E} (h : CxOk G N lv W sc X) (he : SE G W X e x) : SE G W X (.FormattedValue e (-1) none pos) (.fmt x) := fun σ H Z α ρ m Q R En q => by
  have pe : PE X (.FormattedValue e (-1) none pos) (fun σ H Q => tA X e σ H fun v H1 => ∀ (pins : List (Addr × Obj)) (s : Shared) (u : Value), L2.Inv X pins σ H1 s → RelV v u → wpAny (model X.prog X.w) X.A (formatField u Str.empty) (EP X pins σ Q) X.xe s) :=
    ⟨fun pins s σ H Q I q => wpAny_FormattedValue_plain (thn (pe_all.run pins s σ H _ I q) fun u s1 ⟨v, H1, I1, r1, q1⟩ => q1 pins s1 u I1 r1)⟩
  have hK : G.T.K = X.K := h.good.gk.eK
  unfold evE at q
  refine ⟨_, pe, he σ H Z α ρ m _ R En (q.bind.mono fun d m1 H1 Z1 α1 F1 R1 p1 v dv pins s u I r => ?_)⟩
  split at p1
  · rename_i y hy
    have fin := p1.now R1 _ (.str y)
    unfold fmtD at hy
    split at hy
    · split at hy
      · rename_i z hz
        cases hy
        cases dv
        obtain ⟨t, rfl⟩ := r
        exact wpAny_formatField_str ⟨.str y, H1, I, ⟨t, rfl⟩, fin⟩ ⟨.str y, H1, I.tok _, ⟨_, rfl⟩, fin⟩ hz
      · cases hy
    · rename_i hns
      obtain ⟨x, e1, e2, e3, e4, e5, rfl⟩ := shownD_is hy
      refine shown_fmt h.gd h.room I r (hK ▸ D.py_at R1 dv e1) e2 e3 e4 e5 (fun y z => ?_) fin
      subst z
      cases d <;> simp only [D.py, Option.map_eq_some_iff, reduceCtorEq, and_false, exists_false, Option.some.injEq] at e1
      rename_i s0
      exact hns s0 rfl
  · exact p1.elim
/-- repr(e) -/
theorem rpr_ok (h : CxOk G N lv W sc X) {H Z : Hp} {α : List Addr} {m : Mu} {v : V} {d : D} {Q : VK} (R : Rep G.T H Z α m) (dv : Dn G.T Z α v d) (q : Post G.T W H Z α (rprD G d m) (KQ G.T Q)) : cA X (.builtin "repr") [v] H Q := by
  have hK : G.T.K = X.K := h.good.gk.eK
  refine ⟨fun xs H Q => ∀ (pins : List (Addr × Obj)) (σ : L2.St) (s : Shared) (us : List Value), L2.Inv X pins σ H s → Vals xs us → wpAny (model X.prog X.w) X.A (call (.builtin "repr") us) (EP X pins σ Q) X.xe s, fun pins s σ H xs us Q I r q => q pins σ s us I r, fun pins σ s us I r => ?_⟩
  obtain ⟨u, rfl, rv⟩ := vals1 r
  unfold rprD at q
  split at q
  · rename_i y hy
    obtain ⟨x, e1, e2, e3, e4, e5, rfl⟩ := shownD_is hy
    exact shown_run h.gd h.room I rv (hK ▸ D.py_at R dv e1) e2 e3 e4 e5 (q.now R _ (.str _))
  · split at q
    · rename_i c fs e
      obtain ⟨a, C, dx, vs, rfl, h1, h2, h3⟩ := insOf_cls R dv e
      split at q
      · rename_i g hg
        obtain ⟨f, fd, ps, k, hs, hf, F, hb, hk, hl⟩ := h.good.rp c C g hg h1
        cases rv
        obtain ⟨mA, O, _⟩ := ins_get I.hok h2
        obtain ⟨od, J, _⟩ := O.look
        have hr := h.room.mono hk
        unfold strR at q
        have q2 := q.bind.noX
        have sp : spD G.T ps.length g [V.ref a] H (fun v H' => ∃ y, v = .str y ∧ Q (.str y) H') E0 := ⟨hl.symm, Z, α, m, [d], R, .cons dv .nil, q2.mono fun d1 m1 H1 Z1 α1 F1 R1 p1 w dw => by
          split at p1
          · split at p1
            · cases dw; exact ⟨_, rfl, p1.now R1 _ (.str _)⟩
            · exact p1.elim
          · exact p1.elim⟩
        have b2 := hb s [Value.ref a] I.kIn (by rw [List.append_nil, hl]; rfl)
        rw [List.append_nil] at b2
        refine PySem.W.pm_repr (by have := hr.units; omega) I.kIn J hs hf (wpAny_call (codeAny_mono (F.runG X.A.in1 X.stack s H ⟨[.ref a], []⟩ [.ref a] [.ref a] _ E0 h.gd hr.in1 I.env0.in1 b2 (.cons rfl .nil) sp) fun fin s2 z => ?_))
        match fin, z with
        | .error er, z => exact passL pins σ H s er s2 I z
        | .ok (.ret w), z =>
          obtain ⟨w', H2, I2, r2, y, rfl, q3⟩ := I.after z
          obtain ⟨t, rfl⟩ := r2
          exact ⟨y, t, rfl, .str y, H2, I2, ⟨t, rfl⟩, q3⟩
      · exact q.elim
    · exact q.elim
theorem se_rpr {f : Str} {p pos : Pos} {e : Expr} {x : E} (h : CxOk G N lv W sc X) (ok : okName f = true) (hf : f = "repr") (hg : isGl (sc.names.lookup f) = true) (hs : [e].all noStar = true) (he : SE G W X e x) : SE G W X (.Call (.Name f p) [e] [] pos) (.rpr x) := fun σ H Z α ρ m Q R En q => by
  have hs' := hs
  rw [List.all_cons, Bool.and_eq_true] at hs'
  have gk := glob_ok h ok
  have hm : X.mg f = none := h.good.bl _ (by rw [hf]; decide +kernel)
  have bo : bootBuiltins f = some (.builtin "repr") := by rw [hf]; decide +kernel
  refine ⟨_, pe_callB call_all (h.glob _ hg) hm bo (pa_cons pe_all pa_nil (star_cons hs'.1)) gk.2.2 gk.1 (star_cons hs'.1) (star_all hs'.2), ?_⟩
  unfold evE at q
  exact he σ H Z α ρ m _ R En (q.bind.mono fun d m1 H1 Z1 α1 F1 R1 p1 v dv => rpr_ok h R1 dv p1)
/-- f'..' -/
theorem jst_run {pins : List (Addr × Obj)} {σ : L2.St} {ρ : Env} : ∀ {es : List Expr} {xs : List E}, All2 (SE G W X) es xs → ∀ {acc : Str} {s : Shared} {H Z : Hp} {α : List Addr} {m : Mu} {Q : VK} {R : Str → Shared → Prop}, acc.length ≤ sizeLine → L2.Inv X pins σ H s → Rep G.T H Z α m → EnvR G.T Z α σ ρ → Post G.T W H Z α (evJ G xs acc ρ m) (KQ G.T Q) →
    (∀ out s1 H1, out.length ≤ sizeLine → L2.Inv X pins σ H1 s1 → Q (.str out) H1 → R out s1) → Joins (model X.prog X.w) X.A X.xe (evalEach es X.env) acc R s := by
  intro es xs a
  induction a with
  | nil =>
    intro acc s H Z α m Q R hz I R0 En q k
    rw [show evalEach [] X.env = [] by simp [evalEach]]
    unfold evJ at q
    exact k acc s H hz I (q.now R0 _ (.str _))
  | cons a1 ar ih =>
    rename_i e x es xs
    intro acc s H Z α m Q R hz I R0 En q k
    rw [show evalEach (e :: es) X.env = eval e X.env :: evalEach es X.env by simp [evalEach]]
    unfold evJ at q
    have key := a1 σ H Z α ρ m (fun v H1 => ∃ y, v = V.str y ∧ (acc ++ y).length ≤ sizeLine ∧ ∃ Z1 α1 m1, Rep G.T H1 Z1 α1 m1 ∧ EnvR G.T Z1 α1 σ ρ ∧ Post G.T W H1 Z1 α1 (evJ G xs (acc ++ y) ρ m1) (KQ G.T Q)) R0 En (q.bind.mono fun d m1 H1 Z1 α1 F1 R1 p1 v dv => by
      split at p1
      · split at p1
        · rename_i y hy
          cases dv
          exact ⟨y, rfl, hy, Z1, α1, m1, R1, En.mono F1.le, p1⟩
        · exact p1.elim
      · exact p1.elim)
    refine thn (pe_all.run pins s σ H _ I key) fun v s1 ⟨w, H1, I1, r1, y, e1, hy, Z1, α1, m1, R1, En1, q1⟩ => ?_
    subst e1
    obtain ⟨tk, rfl⟩ := r1
    exact ⟨y, tk, rfl, hy, ih hy I1 R1 En1 q1 k⟩
theorem se_jst {e1 e2 : Expr} {es : List Expr} {pos : Pos} {xs : List E} (ha : All2 (SE G W X) (e1 :: e2 :: es) xs) : SE G W X (.JoinedStr (e1 :: e2 :: es) pos) (.jst xs) := fun σ H Z α ρ m Q R En q => by
  unfold evE at q
  refine ⟨fun σ' H' Q' => σ' = σ ∧ H' = H ∧ Q' = Q, ⟨fun pins s σ' H' Q' I ⟨h1, h2, h3⟩ => ?_⟩, rfl, rfl, rfl⟩
  subst h1 h2 h3
  exact wpAny_JoinedStr (jst_run ha (Nat.zero_le _) I R En q fun out s1 H1 hz I1 q1 => ⟨hz, .str out, H1, I1.tok _, ⟨_, rfl⟩, q1⟩)
/-- x(..), an instance -/
theorem se_cal {f : Str} {p pos : Pos} {e : Expr} {es : List Expr} {irs : List E} {i : Nat} (h : CxOk G N lv W sc X) (ok : okName f = true) (hv : isVis (sc.names.lookup f) = true) (hi : ixOf N f = some i) (hs : (e :: es).all noStar = true) (ha : All2 (SE G W X) (e :: es) irs) :
    SE G W X (.Call (.Name f p) (e :: es) [] pos) (.cal (.var i) irs) := fun σ H Z α ρ m Q R En q => by
  have hs' := hs
  rw [List.all_cons, Bool.and_eq_true] at hs'
  have pe : PE X (.Call (.Name f p) (e :: es) [] pos) (fun σ H Q => tA X (.Name f p) σ H fun y H1 => ∃ a, y = V.ref a ∧ tAA X (e :: es) σ H1 fun vs H2 => ∃ C g fd ps k sp, StX.CallO X.K C g ∧ FnG X.prog X.w X.K X.mg X.base k g fd ps sp ∧ Room k X.A ∧ Binds X.K fd ps [] ∧ StX.InsC X H2 a C ∧ sp (V.ref a :: vs) H2 Q W) := by
    refine ⟨fun pins s σ H Q I q => PyProof.Rows.Call_ (thn (pe_all.run pins s σ H _ I q) fun u s1 ⟨y, H1, I1, ry, a, ey, q1⟩ => ?_) (by rfl)⟩
    subst ey
    obtain rfl : u = Value.ref a := ry
    refine StX.callO_with (thn (pa_all.run pos pins s1 σ H1 _ I1 q1) fun us s2 ⟨vs, H2, I2, r2, C, g, fd, ps, k, sp, c, F, hr, hb, hin, q2⟩ => ?_) (star_cons hs'.1) (star_all hs'.2)
    obtain ⟨ox, od, J, hd⟩ := StX.insC_at I2 hin
    have r3 : Vals (V.ref a :: vs) (Value.ref a :: us) := .cons rfl r2
    have b2 := hb s2 (Value.ref a :: us) I2.kIn (len_all F r3 q2)
    rw [List.append_nil] at b2
    refine ⟨⟨C, ox, od, J, hd⟩, wpAny_call (PySem.W.kco_code I2.kIn J hd c.at_ c.fn c.fi (codeAny_mono (F.runG X.A X.stack s2 H2 ⟨.ref a :: us, []⟩ _ _ Q W h.gd hr I2.env0 b2 r3 q2) fun fin s3 z => ?_))⟩
    match fin, z with
    | .error er, z => exact h.passes pins σ H2 s2 er s3 I2 z
    | .ok (.ret w), z => exact I2.after z
  unfold evE at q
  refine ⟨_, pe, se_var h ok hv hi σ H Z α ρ m _ R En (q.bind.mono fun d m1 H1 Z1 α1 F1 R1 p1 v dv => ?_)⟩
  split at p1
  · rename_i cf e1
    obtain ⟨a, C, dx, vs, rfl, h1, h2, h3⟩ := insOf_cls (c := cf.1) (fs := cf.2) R1 dv e1
    refine ⟨a, rfl, ses_of hs ha σ H1 Z1 α1 ρ m1 _ R1 (En.mono F1.le) (p1.bind.mono fun ds m2 H2 Z2 α2 F2 R2 p2 us dus => ?_)⟩
    split at p2
    · rename_i c fs e2
      obtain ⟨a2, C2, dx2, vs2, ea, g1, g2, g3⟩ := insOf_cls R2 (dv.mono F2.le) e2
      cases ea
      split at p2
      · rename_i g hg
        obtain ⟨fa, fd, ps, k, c1, F, hb, hk, hn⟩ := h.good.ca c C2 g hg g1
        exact ⟨C2, fa, fd, ps, k, _, c1, F, h.room.mono hk, hb, .inr ⟨_, _, g2⟩, spD_of R2 (.cons (dv.mono F2.le) dus) hn p2⟩
      · exact p2.elim
    · exact p2.elim
  · exact p1.elim
end
end Pm

set_option maxRecDepth 100000
set_option maxHeartbeats 400000
/-! list(zip(a, b)) -/
namespace Pm
open PySem L2
section
variable {T : Tb} {H Z H2 Z2 : Hp} {α : List Addr} {m : Mu}
theorem Rep.wide (R : Rep T H Z α m) (h1 : ∀ a o, H a = some o → H2 a = some o) (h2 : ∀ a o, Z a = some o → Z2 a = some o) (h3 : ∀ a o, Z2 a = some o → H2 a = some o) (h4 : ∀ a, Z2 a ≠ none → Z a ≠ none ∨ H a = none) : Rep T H2 Z2 α m ∧ Fut H Z α H2 Z2 α := by
  have le : Le Z α Z2 α := ⟨h2, [], by simp⟩
  refine ⟨⟨h3, R.len, R.nd, fun i a v e ev lv => ?_, fun i a u e1 e2 => (R.obj i a u e1 e2).mono le (h1 a)⟩, ⟨le, fun a o e _ => h1 a o e, fun _ q => .inl q, fun a q z => ?_, fun a q => (h4 a q).elim .inl fun z => .inr (.inl z)⟩⟩
  · obtain ⟨u, hu⟩ := R.hit e
    have hz := R.out i a v e ev lv
    cases q : Z2 a with
    | none => rfl
    | some w =>
      rcases h4 a (by rw [q]; exact fun z => by cases z) with z | z
      · exact absurd hz z
      · rw [hu] at z; cases z
  · cases e : H a with
    | none => exact q e
    | some o => rw [h1 a o e] at z; cases z
end
section
variable {G : Gm} {W : XK} {X : Cx} {N : List Str} {lv : Nat} {sc : Scope}
theorem lookS_sq {T : Tb} {H Z : Hp} {α : List Addr} {m : Mu} {v : V} {d : D} {ds : List D} (R : Rep T H Z α m) (dv : Dn T Z α v d) (e : lookS m d = some ds) : ∃ a vs, v = .ref a ∧ Mine.SqA T.K H a vs ∧ Dns T Z α vs ds := lookS_at R dv e
theorem lzpA_is {es : List Expr} {g : Str} {a b : Expr} (h : lzpA es = some (g, a, b)) : g = "zip" ∧ ∃ p p2, es = [.Call (.Name g p) [a, b] [] p2] := by
  unfold lzpA at h
  split at h
  · split at h
    · rename_i e; cases h; exact ⟨e, _, _, rfl⟩
    · cases h
  · cases h
theorem zip_dns {T : Tb} {Z Z2 : Hp} {α : List Addr} (le : Le Z α Z2 α) : ∀ {vs us : List V} {xs ys : List D} {ps : List Addr}, Dns T Z α vs xs → Dns T Z α us ys → ps.length = vs.length → vs.length = us.length →
    (∀ (j : Nat) (p : Addr) (x y : V), ps[j]? = some p → vs[j]? = some x → us[j]? = some y → Z2 p = some (.tup [x, y])) → Dns T Z2 α (ps.map V.ref) (List.zipWith (fun x y => D.tup [x, y]) xs ys)
  | [], [], _, _, [], .nil, .nil, _, _, _ => .nil
  | v :: vs, u :: us, _, _, p :: ps, .cons d1 r1, .cons d2 r2, h1, h2, h => by
    refine .cons (.tup (h 0 p v u rfl rfl rfl) (.cons (d1.mono le) (.cons (d2.mono le) .nil))) (zip_dns le r1 r2 (by simpa using h1) (by simpa using h2) fun j p x y a b c => h (j + 1) p x y a b c)
  | [], [], _, _, p :: ps, _, _, h1, _, _ => by simp at h1
  | v :: vs, _, _, _, [], _, _, h1, _, _ => by simp at h1
theorem se_lzp {f g : Str} {a b : Expr} {p p2 pos pos2 : Pos} {x y : E} (h : CxOk G N lv W sc X) (ok : okName f = true) (hf : f = "list") (hg : isGl (sc.names.lookup f) = true) (hz : g = "zip") (hg2 : isGl (sc.names.lookup g) = true) (h1 : noStar a = true) (h2 : noStar b = true) (ha : SE G W X a x) (hb : SE G W X b y) :
    SE G W X (.Call (.Name f p) [.Call (.Name g p2) [a, b] [] pos2] [] pos) (.lzp x y) := fun σ H Z α ρ m Q R En q => by
  subst hf hz
  have hK : G.T.K = X.K := h.good.gk.eK
  have m1 : X.mg "list" = none := h.good.bl _ (by decide +kernel)
  have m2 : X.mg "zip" = none := h.good.bl _ (by decide +kernel)
  refine ⟨_, Mine.pe_listZip h.calm (h.glob _ hg) m1 (h.glob _ hg2) m2 (pa_cons pe_all (pa_cons pe_all pa_nil (star_cons h2)) (star_cons h1)) (star_cons rfl) (star_cons h1) (star_all (by rw [List.all_cons, h2]; rfl)), ?_⟩
  unfold evE at q
  refine ha σ H Z α ρ m _ R En (q.bind.mono fun d1 m1 H1 Z1 α1 F1 R1 p1 v1 dv1 => ?_)
  refine hb σ H1 Z1 α1 ρ m1 _ R1 (En.mono F1.le) (p1.bind.mono fun d2 m2 H2 Z2 α2 F2 R2 p2 v2 dv2 => ?_)
  split at p2
  · rename_i xs ys hx hy
    split at p2
    · rename_i hl
      obtain ⟨a1, vs, rfl, s1, n1⟩ := lookS_sq R2 (dv1.mono F2.le) hx
      obtain ⟨a2, us, rfl, s2, n2⟩ := lookS_sq R2 dv2 hy
      rw [hK] at s1 s2
      refine ⟨a1, a2, vs, us, rfl, s1, s2, by rw [n1.len, n2.len]; exact hl.1, by rw [n1.len]; exact hl.2, fun S ps H3 z => ?_⟩
      let Z3 : Hp := fun b => if b = S ∨ b ∈ ps then H3 b else Z2 b
      have inn : ∀ b, b = S ∨ b ∈ ps → H2 b = none := fun b hb => by
        rcases hb with rfl | hb
        · exact z.fresh
        · obtain ⟨j, hj⟩ := List.mem_iff_getElem?.mp hb
          exact z.apart j b hj
      obtain ⟨R3, F3⟩ := R2.wide (H2 := H3) (Z2 := Z3) (fun a o e => z.same a o e) (fun a o e => by
          show (if a = S ∨ a ∈ ps then H3 a else Z2 a) = some o
          rw [if_neg fun hb => by have := R2.sub a o e; rw [inn a hb] at this; cases this]
          exact e) (fun a o e => by
          have e : (if a = S ∨ a ∈ ps then H3 a else Z2 a) = some o := e
          split at e
          · exact e
          · exact z.same a o (R2.sub a o e)) (fun a e => by
          by_cases hb : a = S ∨ a ∈ ps
          · exact .inr (inn a hb)
          · have e : (if a = S ∨ a ∈ ps then H3 a else Z2 a) ≠ none := e
            rw [if_neg hb] at e
            exact .inl e)
      refine p2 H3 Z3 α2 F3 R3 (V.ref S) (.lst (show Z3 S = some _ from (if_pos (.inl rfl)).trans z.at_) (zip_dns F3.le n1 n2 z.len (by rw [n1.len, n2.len]; exact hl.1) fun j p x y e1 e2 e3 => (if_pos (.inr (List.mem_iff_getElem?.mpr ⟨j, e1⟩))).trans (z.pair j p x y e1 e2 e3)))
    · exact p2.elim
  · exact p2.elim
end
end Pm

set_option maxRecDepth 100000
set_option maxHeartbeats 4000000
/-! What was translated, holds -/
namespace Pm
open PySem L2
section
variable {G : Gm} {N : List Str} {lv : Nat} {tp : Tp}
structure TrOk (G : Gm) (N : List Str) (lv : Nat) (tp : Tp) (n : Nat) : Prop where
  e : ∀ sc W X, CxOk G N lv W sc X → ∀ e ir, trE tp N n sc e = some ir → SE G W X e ir
  es : ∀ sc W X, CxOk G N lv W sc X → ∀ es irs, trEs tp N n sc es = some irs → es.all noStar = true ∧ All2 (SE G W X) es irs
  o : ∀ sc W X, CxOk G N lv W sc X → ∀ e ir, trO tp N n sc e = some ir → SO G W X e ir
  t : ∀ sc W X, CxOk G N lv W sc X → ∀ e ir, trT tp N n sc e = some ir → ST G W X e ir
  ts : ∀ sc W X, CxOk G N lv W sc X → ∀ es irs, trTs tp N n sc es = some irs → All2 (ST G W X) es irs
  ifs : ∀ sc W X, CxOk G N lv W sc X → ∀ es c, trIfs tp N n sc es = some c → SIfs G W X es c
  i : ∀ sc W X, CxOk G N lv W sc X → ∀ tg it ir, trI tp N n sc tg it = some ir → SI G W X tg it ir ∧ ∀ a b c, it ≠ .Set a b c
  g : ∀ sc W X, CxOk G N lv W sc X → ∀ e g, trG tp N n sc e = some g → SG G W X e g
  gs : ∀ sc W X, CxOk G N lv W sc X → ∀ es gs, trGs tp N n sc es = some gs → es.all noStar = true ∧ es.length = gs.length ∧ SGs G W X es gs
theorem trOk_zero : TrOk G N lv tp 0 where
  e := fun _ _ _ _ _ _ h => by unfold trE at h; cases h
  es := fun _ _ _ _ _ _ h => by unfold trEs at h; cases h
  o := fun _ _ _ _ _ _ h => by unfold trO at h; cases h
  t := fun _ _ _ _ _ _ h => by unfold trT at h; cases h
  ts := fun _ _ _ _ _ _ h => by unfold trTs at h; cases h
  ifs := fun _ _ _ _ _ _ h => by unfold trIfs at h; cases h
  i := fun _ _ _ _ _ _ _ h => by unfold trI at h; cases h
  g := fun _ _ _ _ _ _ h => by unfold trG at h; cases h
  gs := fun _ _ _ _ _ _ h => by unfold trGs at h; cases h
theorem ty_boot : ∀ {x : Str} {t : String}, tyNames.lookup x = some t → x ∈ (["len", "min", "max", "int", "tuple", "list", "isinstance", "any", "all", "range", "zip", "enumerate", "str", "bool", "repr"] : List Str) ∧ bootBuiltins x = some (.type t) ∧ okName x = true := by
  intro x t h
  unfold tyNames at h
  simp only [List.lookup_cons, List.lookup_nil] at h
  repeat' (split at h)
  all_goals first
    | (rename_i e; rw [beq_iff_eq] at e; subst e; cases h; exact ⟨by decide +kernel, by decide +kernel, by decide +kernel⟩)
    | cases h
/-- the further expressions do what their words say -/
structure TpOk (tp : Tp) (G : Gm) (lv : Nat) : Prop where
  cls : ∀ x ∈ tp.cls, ∃ C, G.T.cls x = some C
  e : ∀ N W sc X, CxOk G N lv W sc X → ∀ ex t es, tp.hk sc ex = some (t, es) → ∀ xs, es.all noStar = true → All2 (SE G W X) es xs → SE G W X ex (.ext t xs)
  lc : ∀ sc elt gs scope p, tp.hk sc (.ListComp elt gs scope p) = none
  i : ∀ N W sc X, CxOk G N lv W sc X → ∀ tg it t es, tp.hi sc tg it = some (t, es) → ∀ xs, es.all noStar = true → All2 (SE G W X) es xs → SI G W X tg it (.ext t xs) ∧ ∀ a b c, it ≠ .Set a b c
theorem TpOk.plain (hk : tp.hk = fun _ _ => none) (hi : tp.hi = fun _ _ _ => none) (hc : ∀ x ∈ tp.cls, ∃ C, G.T.cls x = some C) : TpOk tp G lv where
  cls := hc
  e := fun N W sc X h ex t es q => by rw [hk] at q; cases q
  lc := fun sc elt gs scope p => by rw [hk]
  i := fun N W sc X h tg it t es q => by rw [hi] at q; cases q
theorem trE_ok (hcls : TpOk tp G lv) {n : Nat} (I : TrOk G N lv tp n) (sc : Scope) (W : XK) (X : Cx) (h : CxOk G N lv W sc X) (e : Expr) (ir : E) (q : trE tp N (n + 1) sc e = some ir) : SE G W X e ir := by
  unfold trE at q
  split at q
  · rename_i t es ht
    rw [Option.map_eq_some_iff] at q
    obtain ⟨xs, hq, rfl⟩ := q
    obtain ⟨h1, h2⟩ := I.es sc W X h _ _ hq
    exact hcls.e N W sc X h _ _ _ ht xs h1 h2
  rename_i hnone
  clear hnone
  split at q
  · -- a name
    split at q
    · rename_i ok
      split at q
      · rename_i hv
        rw [Option.map_eq_some_iff] at q
        obtain ⟨i, hi, rfl⟩ := q
        exact se_var h ok hv hi
      · split at q
        · rename_i hg
          have gk := glob_ok h ok
          split at q
          · rename_i t ht
            cases q
            obtain ⟨b1, b2, b3⟩ := ty_boot ht
            exact se_con (v := .ty t) (pe_bltn (h.glob _ hg) (bl_in h b1) b2 rfl gk.2.2 gk.1) fun Z α => .ty t
          · split at q
            · rename_i hc
              cases q
              obtain ⟨C, hC⟩ := hcls.cls _ (List.contains_iff_mem.mp hc)
              exact se_con (v := .ref C) (pe_glob (h.glob _ hg) (h.good.cl _ C hC) rfl gk.1) fun Z α => .cls hC
            · cases q
        · cases q
    · cases q
  · cases q; exact se_con pe_int fun _ _ => .int _
  · cases q; exact se_con pe_bl fun _ _ => .bl _
  · cases q; exact se_con pe_non fun _ _ => .non
  · cases q; exact se_con pe_str fun _ _ => .str _
  · rw [Option.map_eq_some_iff] at q
    obtain ⟨irs, hq, rfl⟩ := q
    obtain ⟨h1, h2⟩ := I.es sc W X h _ _ hq
    exact se_tup (ses_of h1 h2)
  · rw [Option.map_eq_some_iff] at q
    obtain ⟨irs, hq, rfl⟩ := q
    obtain ⟨h1, h2⟩ := I.es sc W X h _ _ hq
    split
    · exact se_lsto (ses_of h1 h2)
    · exact se_lst (ses_of h1 h2)
  · split at q
    · rename_i h1 h2
      cases q
      exact se_bin h (I.e sc W X h _ _ h1) (I.e sc W X h _ _ h2)
    · cases q
  · rw [Option.map_eq_some_iff] at q
    obtain ⟨x, hq, rfl⟩ := q
    exact se_neg (I.e sc W X h _ _ hq)
  · rw [Option.map_eq_some_iff] at q
    obtain ⟨x, hq, rfl⟩ := q
    exact se_not (I.e sc W X h _ _ hq)
  · split at q
    · cases q
    · rename_i hb
      split at q
      · rename_i h1 h2
        cases q
        exact se_cmp h (noMark fun a c d z => hb a c d z) (I.e sc W X h _ _ h1) (I.e sc W X h _ _ h2)
      · cases q
  · split at q
    · cases q
    · rename_i hb
      split at q
      · rename_i h1 h2 h3
        cases q
        exact se_chn h (noMark fun a c d z => hb a c d z) (I.e sc W X h _ _ h1) (I.e sc W X h _ _ h2) (I.e sc W X h _ _ h3)
      · cases q
  · rw [Option.bind_eq_some_iff] at q
    obtain ⟨irs, hq, ha⟩ := q
    exact se_and (I.es sc W X h _ _ hq).2 ha
  · rw [Option.bind_eq_some_iff] at q
    obtain ⟨irs, hq, ha⟩ := q
    exact se_or (I.es sc W X h _ _ hq).2 ha
  · split at q
    · rename_i h1 h2 h3
      cases q
      exact se_ife (I.t sc W X h _ _ h1) (I.e sc W X h _ _ h2) (I.e sc W X h _ _ h3)
    · cases q
  · -- a call
    split at q
    · rename_i hc
      rw [Bool.and_eq_true, Bool.and_eq_true] at hc
      obtain ⟨⟨ok, hg⟩, hs⟩ := hc
      split at q
      · rename_i g1 a1 b1 hl
        obtain ⟨hz, p1, p2, rfl⟩ := lzpA_is hl
        split at q
        · rename_i hc
          obtain ⟨hf, hg2, n1, n2⟩ := hc
          split at q
          · rename_i h1 h2
            cases q
            exact se_lzp h ok hf hg hz hg2 n1 n2 (I.e sc W X h _ _ h1) (I.e sc W X h _ _ h2)
          · cases q
        · cases q
      · split at q
        · cases q
        · rename_i xs hx
          have ha := (I.es sc W X h _ _ hx).2
          split at q
          · cases q
            exact se_mk h ok hg hs ha
          · split at q
            · rename_i hf
              split at q
              · cases q
                cases ha with
                | cons a1 ar => cases ar; exact se_rpr h ok hf hg hs a1
              · cases q
            · split at q
              · rename_i b e1 es hb _
                cases q
                exact se_blt h ok hg hs ha hb
              · cases q
              · cases q
                exact se_fn h ok hg hs ha
    · split at q
      · rename_i hc
        rw [Bool.and_eq_true, Bool.and_eq_true] at hc
        obtain ⟨⟨ok, hv⟩, hs⟩ := hc
        split at q
        · rename_i hi _ hx
          cases q
          exact se_cal h ok hv hi hs (I.es sc W X h _ _ hx).2
        · cases q
      · cases q
  · rw [Option.map_eq_some_iff] at q
    obtain ⟨x, hq, rfl⟩ := q
    exact se_fmt h (I.e sc W X h _ _ hq)
  · split at q
    · split at q
      · rw [Option.map_eq_some_iff] at q
        obtain ⟨xs, hq, rfl⟩ := q
        exact se_jst (I.es sc W X h _ _ hq).2
      · cases q
    · cases q
  · split at q
    · rename_i hc
      rw [Bool.and_eq_true, Bool.and_eq_true, Bool.and_eq_true, decide_eq_true_eq] at hc
      obtain ⟨⟨⟨hpo, hs⟩, hl⟩, hp⟩ := hc
      split at q
      · rename_i x xs hx hxs
        have ho := I.e sc W X h _ _ hx
        have ha := (I.es sc W X h _ _ hxs).2
        split at q
        · rename_i f hf
          cases q
          exact se_bm hf hpo hs hl hp ho ha
        · cases q
          exact se_met h hpo hs (by omega) hp ho ha
      · cases q
    · cases q
  · split at q
    · rename_i hpo
      rw [Option.map_eq_some_iff] at q
      obtain ⟨x, hq, rfl⟩ := q
      exact se_att h hpo (I.e sc W X h _ _ hq)
    · cases q
  · split at q
    · rename_i h1 h2 h3
      cases q
      exact se_slc h (I.e sc W X h _ _ h1) (I.o sc W X h _ _ h2) (I.o sc W X h _ _ h3)
    · cases q
  · split at q
    · cases q
    · rename_i hb
      split at q
      · rename_i h1 h2
        cases q
        exact se_idx h (plainIx fun a c d e z => hb a c d e z) (I.e sc W X h _ _ h1) (I.e sc W X h _ _ h2)
      · cases q
  · split at q
    · rename_i hb
      split at q
      · rename_i it g c x h1 h2 h3 h4
        split at q
        · rename_i hsl
          cases q
          have b := blkOk_by hb
          obtain ⟨i1, i2⟩ := I.i sc W X h _ _ _ h1
          exact (sl_lc h b (noSet i2) (fun j hj => by
            have := List.all_eq_true.mp hsl j hj
            exact List.contains_iff_mem.mp this) i1 (fun s H C cl fp => I.g _ _ _ (blk_ok h b s H C cl fp) _ _ h2) (fun s H C cl fp => I.ifs _ _ _ (blk_ok h b s H C cl fp) _ _ h3) (fun s H C cl fp => I.e _ _ _ (blk_ok h b s H C cl fp) _ _ h4)).se h
        · cases q
      · cases q
    · cases q
  · cases q
theorem trL_ok (hcls : TpOk tp G lv) {n : Nat} (I : TrOk G N lv tp n) (sc : Scope) (W : XK) (X : Cx) (h : CxOk G N lv W sc X) (elt : Expr) (gs : List Comprehension) (scope : Scope) (p : Pos) (ir : E) (q : trE tp N (n + 1) sc (.ListComp elt gs scope p) = some ir) : SL G W X elt gs scope ir := by
  unfold trE at q
  rw [hcls.lc] at q
  dsimp only at q
  split at q <;> first
    | (rename_i z; cases z; done)
    | skip
  · rename_i z
    cases z
    split at q
    · rename_i hb
      split at q
      · rename_i it g c x h1 h2 h3 h4
        split at q
        · rename_i hsl
          cases q
          have b := blkOk_by hb
          obtain ⟨i1, i2⟩ := I.i sc W X h _ _ _ h1
          exact (sl_lc h b (noSet i2) (fun j hj => by
            have := List.all_eq_true.mp hsl j hj
            exact List.contains_iff_mem.mp this) i1 (fun s H C cl fp => I.g _ _ _ (blk_ok h b s H C cl fp) _ _ h2) (fun s H C cl fp => I.ifs _ _ _ (blk_ok h b s H C cl fp) _ _ h3) (fun s H C cl fp => I.e _ _ _ (blk_ok h b s H C cl fp) _ _ h4))
        · cases q
      · cases q
    · cases q
  · cases q
theorem trT_ok {n : Nat} (I : TrOk G N lv tp n) (sc : Scope) (W : XK) (X : Cx) (h : CxOk G N lv W sc X) (e : Expr) (ir : E) (q : trT tp N (n + 1) sc e = some ir) : ST G W X e ir := by
  unfold trT at q
  split at q
  · rw [Option.bind_eq_some_iff] at q
    obtain ⟨irs, hq, ha⟩ := q
    exact (sw_and (I.ts sc W X h _ _ hq) ha).st
  · rw [Option.bind_eq_some_iff] at q
    obtain ⟨irs, hq, ha⟩ := q
    exact (sw_or (I.ts sc W X h _ _ hq) ha).st
  · rw [Option.map_eq_some_iff] at q
    obtain ⟨x, hq, rfl⟩ := q
    exact st_not (I.t sc W X h _ _ hq)
  · split at q
    · cases q
    · rename_i hb
      split at q
      · rename_i h1 h2
        cases q
        exact st_cmp h (noMark fun a c d z => hb a c d z) (I.e sc W X h _ _ h1) (I.e sc W X h _ _ h2)
      · cases q
  · split at q
    · cases q
    · rename_i hb
      split at q
      · rename_i h1 h2 h3
        cases q
        exact st_chn h (noMark fun a c d z => hb a c d z) (I.e sc W X h _ _ h1) (I.e sc W X h _ _ h2) (I.e sc W X h _ _ h3)
      · cases q
  · split at q
    · cases q
    · rename_i hb
      rw [Option.map_eq_some_iff] at q
      obtain ⟨x, hq, rfl⟩ := q
      exact st_tru h (by simpa using hb) (I.e sc W X h _ _ hq)
theorem trI_ok (hcls : TpOk tp G lv) {n : Nat} (I : TrOk G N lv tp n) (sc : Scope) (W : XK) (X : Cx) (h : CxOk G N lv W sc X) (tg it : Expr) (ir : It) (q : trI tp N (n + 1) sc tg it = some ir) : SI G W X tg it ir ∧ ∀ a b c, it ≠ .Set a b c := by
  unfold trI at q
  split at q
  · rename_i t es ht
    rw [Option.map_eq_some_iff] at q
    obtain ⟨xs, hq, rfl⟩ := q
    obtain ⟨h1, h2⟩ := I.es sc W X h _ _ hq
    exact hcls.i N W sc X h _ _ _ _ ht xs h1 h2
  rename_i hnone
  clear hnone
  split at q
  · cases q
  · refine ⟨?_, fun a b c z => by cases z⟩
    split at q
    · rename_i hc
      rw [Bool.and_eq_true, Bool.and_eq_true] at hc
      obtain ⟨⟨ok, hg⟩, hs⟩ := hc
      split at q
      · rename_i hf
        subst hf
        split at q
        · rw [Option.map_eq_some_iff] at q
          obtain ⟨irs, hq, rfl⟩ := q
          obtain ⟨h1, h2⟩ := I.es sc W X h _ _ hq
          exact si_rng h hg h1 (.inl rfl) h2
        · rw [Option.map_eq_some_iff] at q
          obtain ⟨irs, hq, rfl⟩ := q
          obtain ⟨h1, h2⟩ := I.es sc W X h _ _ hq
          exact si_rng h hg h1 (.inr rfl) h2
        · cases q
      · split at q
        · rename_i hf
          subst hf
          split at q
          · split at q
            · rename_i h1 h2
              cases q
              exact si_zip h hg hs (I.e sc W X h _ _ h1) (I.e sc W X h _ _ h2)
            · cases q
          · cases q
        · split at q
          · rename_i hf
            subst hf
            split at q
            · rw [Option.map_eq_some_iff] at q
              obtain ⟨x, hq, rfl⟩ := q
              rw [List.all_cons, Bool.and_eq_true] at hs
              exact si_enu h hg hs.1 (I.e sc W X h _ _ hq)
            · cases q
          · rw [Option.map_eq_some_iff] at q
            obtain ⟨x, hq, rfl⟩ := q
            exact si_val h (I.e sc W X h _ _ hq)
    · cases q
  · rename_i hset _
    rw [Option.map_eq_some_iff] at q
    obtain ⟨x, hq, rfl⟩ := q
    exact ⟨si_val h (I.e sc W X h _ _ hq), fun a b c z => hset a b c z⟩
theorem trOk_succ (hcls : TpOk tp G lv) {n : Nat} (I : TrOk G N lv tp n) : TrOk G N lv tp (n + 1) where
  e := trE_ok hcls I
  es := fun sc W X h es irs q => by
    unfold trEs at q
    split at q
    · cases q
      exact ⟨rfl, .nil⟩
    · split at q
      · rename_i hs
        split at q
        · rename_i h1 h2
          cases q
          obtain ⟨h3, h4⟩ := I.es sc W X h _ _ h2
          exact ⟨by rw [List.all_cons, hs, h3]; rfl, .cons (I.e sc W X h _ _ h1) h4⟩
        · cases q
      · cases q
  o := fun sc W X h e ir q => by
    unfold trO at q
    split at q
    · cases q; exact so_none
    · rw [Option.map_eq_some_iff] at q
      obtain ⟨x, hq, rfl⟩ := q
      exact so_some (I.e sc W X h _ _ hq)
  t := trT_ok I
  ts := fun sc W X h es irs q => by
    unfold trTs at q
    split at q
    · cases q; exact .nil
    · split at q
      · rename_i h1 h2
        cases q
        exact .cons (I.t sc W X h _ _ h1) (I.ts sc W X h _ _ h2)
      · cases q
  ifs := fun sc W X h es c q => by
    unfold trIfs at q
    split at q
    · cases q; exact sifs_nil
    · rw [Option.map_eq_some_iff] at q
      obtain ⟨x, hq, rfl⟩ := q
      exact sifs_one (I.t sc W X h _ _ hq)
    · cases q
  i := trI_ok hcls I
  g := fun sc W X h e g q => by
    unfold trG at q
    split at q
    · split at q
      · rename_i hl
        rw [Option.map_eq_some_iff] at q
        obtain ⟨i, hi, rfl⟩ := q
        exact sg_name h hl hi
      · cases q
    · rw [Option.map_eq_some_iff] at q
      obtain ⟨gs, hq, rfl⟩ := q
      obtain ⟨h1, h2, h3⟩ := I.gs sc W X h _ _ hq
      exact sg_tup h h1 h2 h3
    · split at q
      · cases q
      · rename_i hb
        split at q
        · rename_i h1 h2
          cases q
          exact sg_sub (fun a c d e z => hb a c d e z) (I.e sc W X h _ _ h1) (I.e sc W X h _ _ h2)
        · cases q
    · split at q
      · rw [Option.map_eq_some_iff] at q
        obtain ⟨x, hq, rfl⟩ := q
        exact sg_fld h (I.e sc W X h _ _ hq)
      · cases q
    · cases q
  gs := fun sc W X h es gs q => by
    unfold trGs at q
    split at q
    · cases q
      exact ⟨rfl, rfl, sgs_nil⟩
    · split at q
      · rename_i hs
        split at q
        · rename_i h1 h2
          cases q
          obtain ⟨h3, h4, h5⟩ := I.gs sc W X h _ _ h2
          exact ⟨by rw [List.all_cons, hs, h3]; rfl, by rw [List.length_cons, List.length_cons, h4], sgs_cons hs (I.g sc W X h _ _ h1) h5⟩
        · cases q
      · cases q
theorem tr_ok (hcls : TpOk tp G lv) : ∀ n, TrOk G N lv tp n
  | 0 => trOk_zero
  | n + 1 => trOk_succ hcls (tr_ok hcls n)
end
end Pm

set_option maxRecDepth 100000
set_option maxHeartbeats 4000000
/-! Statements -/
namespace Pm
open PySem L2
/-- what `swappedStores` gives, where it does not refuse -/
def swP (kindOf : Str → Option NameKind) (ts vs : List Expr) : Option (Option (List Str)) :=
  if !(ts.length == 2 || ts.length == 3) || vs.length != ts.length then some none
  else if vs.any fun | .Starred .. => true | _ => false then some none
  else
    let line := (ts.head?.map (·.pos.line)).getD 0
    let names := ts.filterMap fun
      | .Name id pos => if kindOf id == some .local && pos.line == line then some id else none
      | _ => none
    if names.length != ts.length || names.eraseDups.length != names.length then some none
    else if vs.all (foldedForSure 8) then some none
    else if vs.all (constantsAlone 8) then none
    else some (some names)
theorem swP_ok {ts vs : List Expr} {k k2 : Nat} {p p2 : Pos} {env : PySem.Env} {r : Option (List Str)} (hb : env.blockKind = .function) (h : swP env.kindOf ts vs = some r) : swappedStores [.Tuple ts k p] (.Tuple vs k2 p2) env = pure r := by
  unfold swP at h
  unfold swappedStores
  have e : (env.blockKind != .function) = false := by rw [hb]; rfl
  dsimp only at h ⊢
  rw [e, Bool.or_false]
  by_cases c1 : (!(ts.length == 2 || ts.length == 3) || vs.length != ts.length) = true
  · rw [if_pos c1] at h ⊢
    cases h; rfl
  · rw [if_neg c1] at h ⊢
    split at h
    · rename_i c2
      cases h
      exact (if_pos c2).trans rfl
    · rename_i c2
      refine (if_neg c2).trans ?_
      split at h
      · rename_i c3
        cases h
        exact (if_pos c3).trans rfl
      · rename_i c3
        refine (if_neg c3).trans ?_
        split at h
        · rename_i c4
          cases h
          exact (if_pos c4).trans rfl
        · rename_i c4
          refine (if_neg c4).trans ?_
          split at h
          · cases h
          · rename_i c5
            cases h
            exact (if_neg c5).trans rfl
def isComp : Expr → Bool
  | .ListComp .. => true | .SetComp .. => true | .DictComp .. => true
  | _ => false
theorem sw_plain {e : Expr} {tg : Option Expr} {l : Nat} {env : PySem.Env} (h : isComp e = false) : swapsWith e tg l env = pure false := by
  cases e <;> first | rfl | cases h
/-- whether a comprehension's list is stored within its frame -/
def swB (sc : Scope) (tg : Expr) (scope : Scope) (p : Pos) : Bool :=
  match tg with
  | .Name t pt => sc.names.lookup t == some .local && pt.line == p.line && !(scope.names.any fun y => y.1 == t && (y.2 == .local || y.2 == .cell))
  | _ => false
theorem sw_comp {elt : Expr} {gs : List Comprehension} {scope : Scope} {p : Pos} {tg : Expr} {l : Nat} {env : PySem.Env} (hk : env.scope.kind = .function) : swapsWith (.ListComp elt gs scope p) (some tg) l env = pure (swB env.scope tg scope p) := by
  have hb : env.blockKind = .function := by
    unfold PySem.Env.blockKind
    rw [hk]
    rfl
  cases tg <;> first | rfl | skip
  rename_i t pt
  show pure (env.blockKind == .function && env.kindOf t == some .local && pt.line == p.line && !(scope.names.any fun (n, k) => n == t && (k == .local || k == .cell))) = _
  rw [hb]
  rfl
def isTupL : Expr → Bool
  | .Tuple .. => true | .List .. => true
  | _ => false
theorem st_none {tg e : Expr} {env : PySem.Env} (h : isTupL tg = false) : swappedStores [tg] e env = pure none := by
  cases tg <;> first | rfl | cases h
theorem st_none2 {tg e : Expr} {env : PySem.Env} (h : ∀ a b c, e ≠ .Tuple a b c) : swappedStores [tg] e env = pure none := by
  cases tg <;> cases e <;> first | rfl | exact absurd rfl (h _ _ _)
section
variable (tp : Tp) (N : List Str)
/-- a statement without what is frozen ahead of it -/
def trA (n : Nat) (sc : Scope) (tg value : Expr) : Option C :=
  match trG tp N n sc tg, trE tp N n sc value with
  | some g, some x => some (.asg g x)
  | _, _ => none
def asgOk (sc : Scope) (tg value : Expr) : Bool :=
  noStar tg && match value with
    | .ListComp _ _ scope p => !swB sc tg scope p
    | .SetComp .. => false
    | .DictComp .. => false
    | .Tuple vs _ _ => match tg with
      | .Tuple ts _ _ => match swP (fun x => sc.names.lookup x) ts vs with
        | some none => true
        | _ => false
      | .List .. => false
      | _ => true
    | _ => true
def stmtLine : Stmt → Nat
  | .Assign _ _ p => p.line | .For _ _ _ _ p => p.line | .While _ _ _ p => p.line | .If _ _ _ p => p.line | .Return _ p => p.line | .Expr _ p => p.line | .AugAssign _ _ _ p => p.line
  | _ => 0
mutual
def trC (n : Nat) (sc : Scope) (s : Stmt) : Option C :=
  match n with
  | 0 => none
  | n + 1 => match tp.frz.lookup (stmtLine s) with
    | some is => (trC0 n sc s).map (.frz is)
    | none => trC0 n sc s
def trC0 (n : Nat) (sc : Scope) (s : Stmt) : Option C :=
  match n with
  | 0 => none
  | n + 1 => match s with
    | .Assign [tg] value _ => if asgOk sc tg value then trA tp N n sc tg value
      else match tg, value with
        | .Name t _, .ListComp _ _ scope p => if swB sc tg scope p then trA tp N n sc tg value else none
        | .Tuple [.Name x px, .Name y py] _ _, .Tuple [a, b] _ _ =>
          if swP (fun x => sc.names.lookup x) [.Name x px, .Name y py] [a, b] = some (some [x, y]) ∧ sc.names.lookup x = some .local ∧ sc.names.lookup y = some .local ∧ x ≠ y then
            match ixOf N x, ixOf N y, trEs tp N n sc [a, b] with
            | some i, some j, some [xa, xb] => some (.asg (.tup [.nm i, .nm j]) (.tup [xa, xb]))
            | _, _, _ => none
          else none
        | .Tuple [.Name x px, .Name y py, .Name z pz] _ _, .Tuple [a, b, c] _ _ =>
          if swP (fun x => sc.names.lookup x) [.Name x px, .Name y py, .Name z pz] [a, b, c] = some (some [x, y, z]) ∧ sc.names.lookup x = some .local ∧ sc.names.lookup y = some .local ∧ sc.names.lookup z = some .local ∧ x ≠ y ∧ x ≠ z ∧ y ≠ z then
            match ixOf N x, ixOf N y, ixOf N z, trEs tp N n sc [a, b, c] with
            | some i, some j, some l, some [xa, xb, xc] => some (.asg (.tup [.nm i, .nm j, .nm l]) (.tup [xa, xb, xc]))
            | _, _, _, _ => none
          else none
        | _, _ => none
    | .AugAssign (.Name x _) op e _ => if isLoc (sc.names.lookup x) && (op == .Add || op == .Sub) then
        match ixOf N x, trE tp N n sc e with
        | some i, some y => some (.aug i op y)
        | _, _ => none
      else none
    | .Expr e _ => if isComp e then none else (trE tp N n sc e).map .expr
    | .If t a b _ => match trT tp N n sc t, trCs n sc a, trCs n sc b with
      | some x, some y, some z => some (.ife x y z)
      | _, _, _ => none
    | .While t b [] _ => match trT tp N n sc t, trCs n sc b with
      | some x, some y => some (.whl x y)
      | _, _ => none
    | .For tg it b [] _ => match trI tp N n sc tg it, trG tp N n sc tg, trCs n sc b with
      | some i, some g, some y => some (.for g i y)
      | _, _, _ => none
    | .Return none _ => some .retN
    | .Return (some e) _ => (trE tp N n sc e).map .ret
    | .Break _ => some .brk
    | .Continue _ => some .cnt
    | .Pass _ => some .pas
    | _ => none
def trCs (n : Nat) (sc : Scope) (ss : List Stmt) : Option (List C) :=
  match n with
  | 0 => none
  | n + 1 => match ss with
    | [] => some []
    | s :: r => match trC n sc s, trCs n sc r with
      | some x, some xs => some (x :: xs)
      | _, _ => none
end
end
section
variable {G : Gm} {W : XK} {X : Cx} {N : List Str} {lv : Nat} {sc : Scope} {tp : Tp}
/-- a def's body stands here -/
structure SxOk (G : Gm) (N : List Str) (lv : Nat) (W : XK) (sc : Scope) (X : Cx) : Prop where
  cx : CxOk G N lv W sc X
  sce : X.env.scope = sc
  own : PassesOwn (model X.prog X.w) X.A X.env X.xe
/-- what is wanted behind a statement -/
abbrev KF (T : Tb) (D : Ends) : Fl → Mu → Hp → Hp → List Addr → Prop := fun fl _ H' Z' α' => match fl with
  | .nx ρ => ∀ σ, EnvR T Z' α' σ ρ → D.nx σ H'
  | .bk ρ => ∀ σ, EnvR T Z' α' σ ρ → D.bk σ H'
  | .ct ρ => ∀ σ, EnvR T Z' α' σ ρ → D.ct σ H'
  | .rt d => ∀ v, Dn T Z' α' v d → D.rt v H'
def SC (G : Gm) (W : XK) (X : Cx) (s : Stmt) (c : C) : Prop := ∀ (D : Ends) (σ : St) (H Z : Hp) (α : List Addr) (ρ : Env) (m : Mu), Rep G.T H Z α m → EnvR G.T Z α σ ρ → Post G.T W H Z α (evC G c ρ m) (KF G.T D) → tAS X s D σ H
def SCs (G : Gm) (W : XK) (X : Cx) (s : List Stmt) (c : List C) : Prop := ∀ (D : Ends) (σ : St) (H Z : Hp) (α : List Addr) (ρ : Env) (m : Mu), Rep G.T H Z α m → EnvR G.T Z α σ ρ → Post G.T W H Z α (evCs G c ρ m) (KF G.T D) → tASs X s D σ H
theorem SxOk.blk (h : SxOk G N lv W sc X) : X.env.blockKind = .function := by
  unfold PySem.Env.blockKind
  rw [h.cx.kind]
  rfl
theorem SxOk.kindOf (h : SxOk G N lv W sc X) : X.env.kindOf = fun x => sc.names.lookup x := by
  rw [← h.sce]
  rfl
theorem asg_post {g : Gt} {x : E} {D : Ends} {H Z : Hp} {α : List Addr} {ρ : Env} {m : Mu} (q : Post G.T W H Z α (evC G (.asg g x) ρ m) (KF G.T D)) : Post G.T W H Z α (evE G x ρ m) (fun d m1 H1 Z1 α1 => Post G.T W H1 Z1 α1 (evG G g d ρ m1) (fun ρ2 m2 H2 Z2 α2 => ∀ σ, EnvR G.T Z2 α2 σ ρ2 → D.nx σ H2)) := by
  unfold evC at q
  exact q.bind.mono fun d m1 H1 Z1 α1 F1 R1 p1 => p1.bind.mono fun ρ2 m2 H2 Z2 α2 F2 R2 p2 => p2.now R2
theorem sc_asg {tg value : Expr} {p : Pos} {g : Gt} {x : E} (h : SxOk G N lv W sc X) (hs : swapsWithSole [tg] value p.line X.env = pure false) (hw : swappedStores [tg] value X.env = pure none) (ht : noStar tg = true) (hg : SG G W X tg g) (he : SE G W X value x) : SC G W X (.Assign [tg] value p) (.asg g x) := fun D σ H Z α ρ m R En q => by
  refine ⟨_, ps_asg pe_all pg_all hs hw (by rw [tgt_cons ht]; rfl), ?_⟩
  refine he σ H Z α ρ m _ R En ((asg_post q).mono fun d m1 H1 Z1 α1 F1 R1 p1 v dv => ?_)
  exact hg σ H1 Z1 α1 ρ m1 v d _ R1 (En.mono F1.le) dv (p1.mono fun ρ2 m2 H2 Z2 α2 F2 R2 p2 σ2 En2 _ _ => p2 σ2 En2)
theorem sc_lc {t : Str} {pt p sp : Pos} {elt : Expr} {gs : List Comprehension} {scope : Scope} {i : Nat} {x : E} (h : SxOk G N lv W sc X) (hl : sc.names.lookup t = some .local) (hi : ixOf N t = some i) (hb : swB sc (.Name t pt) scope p = true) (he : SL G W X elt gs scope x) :
    SC G W X (.Assign [.Name t pt] (.ListComp elt gs scope p) sp) (.asg (.nm i) x) := fun D σ H Z α ρ m R En q => by
  have key := he σ H Z α ρ m (fun v H1 => D.nx (σ.set i (some v)) H1) R En ((asg_post q).mono fun d m1 H1 Z1 α1 F1 R1 p1 v dv => by
    unfold evG at p1
    exact p1.now R1 _ ((En.mono F1.le).set dv))
  obtain ⟨tg, iter, ifs, own, wi, g, tt, te, rfl, h1, h2, h3, h4, h5, h6, h7⟩ := key
  have hsw : swapsWith (.ListComp elt [⟨tg, iter, ifs, 0⟩] scope p) (some (.Name t pt)) sp.line X.env = pure true := by
    rw [sw_comp h.cx.kind, h.sce, hb]
  exact ⟨_, ps_setLc h.cx.calm (by rw [h.cx.eN]; exact h.cx.nd) (by rw [h.cx.eN]; exact ixOf_get hi) (by rw [h.sce]; exact hl) hsw h1 h2 h3 h4 h5 h6, h7⟩
theorem sc_par {x y : Str} {px py pt pt2 p : Pos} {k k2 : Nat} {a b : Expr} {i j : Nat} {xa xb : E} (h : SxOk G N lv W sc X) (hsw : swP (fun x => sc.names.lookup x) [.Name x px, .Name y py] [a, b] = some (some [x, y])) (hx : sc.names.lookup x = some .local) (hy : sc.names.lookup y = some .local) (hne : x ≠ y)
    (hi : ixOf N x = some i) (hj : ixOf N y = some j) (hs : [a, b].all noStar = true) (ha : All2 (SE G W X) [a, b] [xa, xb]) : SC G W X (.Assign [.Tuple [.Name x px, .Name y py] k pt] (.Tuple [a, b] k2 pt2) p) (.asg (.tup [.nm i, .nm j]) (.tup [xa, xb])) := fun D σ H Z α ρ m R En q => by
  have hij : i ≠ j := fun z => by
    subst z
    have e1 := ixOf_get hi
    rw [ixOf_get hj] at e1
    cases e1
    exact hne rfl
  refine ⟨_, ps_par (i := i) (j := j) h.cx.calm (by rw [h.cx.eN]; exact h.cx.nd) (by rw [h.cx.eN]; exact ixOf_get hi) (by rw [h.cx.eN]; exact ixOf_get hj) hij (by rw [h.sce]; exact hx) (by rw [h.sce]; exact hy) pa_all (swP_ok h.blk (by rw [h.kindOf]; exact hsw)), ?_⟩
  have q1 := asg_post q
  unfold evE at q1
  refine ses_of hs ha σ H Z α ρ m _ R En (q1.bind.lens.mono fun ds m1 H1 Z1 α1 F1 R1 ⟨hl, p1⟩ vs dvs => ?_)
  match ds, hl with
  | [d1, d2], _ =>
    obtain ⟨v, u, rfl, dv, du⟩ := dns2 dvs
    refine ⟨v, u, rfl, ?_⟩
    rw [if_pos (show [d1, d2].length ≤ sizeLine by show 2 ≤ sizeLine; decide)] at p1
    have p2 := p1.now R1
    have e : evG G (.tup [.nm i, .nm j]) (.tup [d1, d2]) ρ m1 = .ok ((ρ.set i (some d1)).set j (some d2)) m1 := by
      simp [evG, evGs, Rs.bind]
    rw [e] at p2
    exact p2.now R1 _ (((En.mono F1.le).set dv).set du)
theorem dns3 {T : Tb} {Z : Hp} {α : List Addr} {vs : List V} {a b c : D} (h : Dns T Z α vs [a, b, c]) : ∃ v u w, vs = [v, u, w] ∧ Dn T Z α v a ∧ Dn T Z α u b ∧ Dn T Z α w c := by
  cases h with
  | cons h1 r =>
    cases r with
    | cons h2 r =>
      cases r with
      | cons h3 r =>
        cases r
        exact ⟨_, _, _, rfl, h1, h2, h3⟩
theorem ix_ne {x y : Str} {i j : Nat} (hi : ixOf N x = some i) (hj : ixOf N y = some j) (hne : x ≠ y) : i ≠ j := fun z => by
  subst z
  have e1 := ixOf_get hi
  rw [ixOf_get hj] at e1
  cases e1
  exact hne rfl
theorem sc_par3 {x y z : Str} {px py pz pt p : Pos} {k k2 : Nat} {pt2 : Pos} {a b c : Expr} {i j l : Nat} {xa xb xc : E} (h : SxOk G N lv W sc X) (hsw : swP (fun x => sc.names.lookup x) [.Name x px, .Name y py, .Name z pz] [a, b, c] = some (some [x, y, z])) (hx : sc.names.lookup x = some .local) (hy : sc.names.lookup y = some .local) (hz : sc.names.lookup z = some .local) (hxy : x ≠ y) (hxz : x ≠ z) (hyz : y ≠ z)
    (hi : ixOf N x = some i) (hj : ixOf N y = some j) (hl : ixOf N z = some l) (hs : [a, b, c].all noStar = true) (ha : All2 (SE G W X) [a, b, c] [xa, xb, xc]) : SC G W X (.Assign [.Tuple [.Name x px, .Name y py, .Name z pz] k pt] (.Tuple [a, b, c] k2 pt2) p) (.asg (.tup [.nm i, .nm j, .nm l]) (.tup [xa, xb, xc])) := fun D σ H Z α ρ m R En q => by
  refine ⟨_, ps_par3 (i := i) (j := j) (l := l) h.cx.calm (by rw [h.cx.eN]; exact h.cx.nd) (by rw [h.cx.eN]; exact ixOf_get hi) (by rw [h.cx.eN]; exact ixOf_get hj) (by rw [h.cx.eN]; exact ixOf_get hl) (ix_ne hi hj hxy) (ix_ne hi hl hxz) (ix_ne hj hl hyz) (by rw [h.sce]; exact hx) (by rw [h.sce]; exact hy) (by rw [h.sce]; exact hz) pa_all (swP_ok h.blk (by rw [h.kindOf]; exact hsw)), ?_⟩
  have q1 := asg_post q
  unfold evE at q1
  refine ses_of hs ha σ H Z α ρ m _ R En (q1.bind.lens.mono fun ds m1 H1 Z1 α1 F1 R1 ⟨hl, p1⟩ vs dvs => ?_)
  match ds, hl with
  | [d1, d2, d3], _ =>
    obtain ⟨v, u, w, rfl, dv, du, dw⟩ := dns3 dvs
    refine ⟨v, u, w, rfl, ?_⟩
    rw [if_pos (show [d1, d2, d3].length ≤ sizeLine by show 3 ≤ sizeLine; decide)] at p1
    have p2 := p1.now R1
    have e : evG G (.tup [.nm i, .nm j, .nm l]) (.tup [d1, d2, d3]) ρ m1 = .ok (((ρ.set i (some d1)).set j (some d2)).set l (some d3)) m1 := by
      simp [evG, evGs, Rs.bind]
    rw [e] at p2
    exact p2.now R1 _ ((((En.mono F1.le).set dv).set du).set dw)
theorem sc_aug {x : Str} {px p : Pos} {op : Operator} {e : Expr} {i : Nat} {y : E} (h : SxOk G N lv W sc X) (hl : isLoc (sc.names.lookup x) = true) (hop : op = .Add ∨ op = .Sub) (hi : ixOf N x = some i) (he : SE G W X e y) : SC G W X (.AugAssign (.Name x px) op e p) (.aug i op y) := fun D σ H Z α ρ m R En q => by
  obtain ⟨l1, l2⟩ := h.cx.loc x hl
  unfold evC at q
  split at q
  · rename_i k ek
    obtain ⟨v, ev, dv⟩ := En.at_ i _ ek
    cases dv
    rcases hop with rfl | rfl
    · refine ⟨_, ps_aug (i := i) (by rw [h.cx.eN]; exact h.cx.nd) (by rw [h.cx.eN]; exact ixOf_get hi) l1 pe_all ip_add l2, _, ev, ?_⟩
      refine he σ H Z α ρ m _ R En (q.bind.mono fun d m1 H1 Z1 α1 F1 R1 p1 u du => ?_)
      split at p1
      · cases du
        exact ⟨_, _, rfl, rfl, p1.now R1 _ ((En.mono F1.le).set (.int _))⟩
      · exact p1.elim
    · refine ⟨_, ps_aug (i := i) (by rw [h.cx.eN]; exact h.cx.nd) (by rw [h.cx.eN]; exact ixOf_get hi) l1 pe_all ip_sub l2, _, ev, ?_⟩
      refine he σ H Z α ρ m _ R En (q.bind.mono fun d m1 H1 Z1 α1 F1 R1 p1 u du => ?_)
      split at p1
      · cases du
        exact ⟨_, _, rfl, rfl, p1.now R1 _ ((En.mono F1.le).set (.int _))⟩
      · exact p1.elim
  · exact q.elim
theorem sc_expr {e : Expr} {x : E} {p : Pos} (hc : isComp e = false) (he : SE G W X e x) : SC G W X (.Expr e p) (.expr x) := fun D σ H Z α ρ m R En q => by
  unfold evC at q
  refine ⟨_, ps_expr pe_all (sw_plain hc), ?_⟩
  exact he σ H Z α ρ m _ R En (q.bind.mono fun d m1 H1 Z1 α1 F1 R1 p1 v dv => p1.now R1 _ (En.mono F1.le))
theorem sc_if {t : Expr} {a b : List Stmt} {x : E} {ca cb : List C} {p : Pos} (ht : ST G W X t x) (ha : SCs G W X a ca) (hb : SCs G W X b cb) : SC G W X (.If t a b p) (.ife x ca cb) := fun D σ H Z α ρ m R En q => by
  unfold evC at q
  refine ⟨_, ps_if pt_all pss_all pss_all, ?_⟩
  refine ht σ H Z α ρ m _ R En (q.bind.mono fun d m1 H1 Z1 α1 F1 R1 p1 => ?_)
  split at p1
  · exact ⟨true, rfl, by rw [if_pos rfl]; exact ha D σ H1 Z1 α1 ρ m1 R1 (En.mono F1.le) p1⟩
  · exact ⟨false, rfl, by rw [if_neg Bool.false_ne_true]; exact hb D σ H1 Z1 α1 ρ m1 R1 (En.mono F1.le) p1⟩
  · exact p1.elim
theorem sc_whl {t : Expr} {b : List Stmt} {x : E} {cb : List C} {p : Pos} (h : SxOk G N lv W sc X) (ht : ST G W X t x) (hb : SCs G W X b cb) : SC G W X (.While t b [] p) (.whl x cb) := fun D σ H Z α ρ m R En q => by
  unfold evC at q
  refine ⟨_, ps_while h.own pt_all pss_all, ?_⟩
  refine ⟨fun n σ H => ∃ Z α ρ m, Rep G.T H Z α m ∧ EnvR G.T Z α σ ρ ∧ Post G.T W H Z α (whlL (fun ρ m => evE G x ρ m) (fun ρ m => evCs G cb ρ m) n ρ m) (KF G.T D), ⟨fuelW, Z, α, ρ, m, R, En, q⟩, ?_⟩
  rintro n σ H ⟨Z, α, ρ, m, R, En, q⟩
  cases n with
  | zero => unfold whlL at q; exact q.elim
  | succ n =>
    unfold whlL at q
    refine ht σ H Z α ρ m _ R En (q.bind.mono fun d m1 H1 Z1 α1 F1 R1 p1 => ?_)
    split at p1
    · refine ⟨true, rfl, ?_⟩
      rw [if_pos rfl]
      refine ⟨fun σ' H' => ∃ Z α ρ m, Rep G.T H' Z α m ∧ EnvR G.T Z α σ' ρ ∧ Post G.T W H' Z α (whlL (fun ρ m => evE G x ρ m) (fun ρ m => evCs G cb ρ m) n ρ m) (KF G.T D), fun σ' H' hw => ⟨n, Nat.lt_succ_self _, hw⟩, ?_⟩
      refine hb _ σ H1 Z1 α1 ρ m1 R1 (En.mono F1.le) (p1.bind.mono fun fl m2 H2 Z2 α2 F2 R2 p2 => ?_)
      cases fl with
      | nx ρ2 => exact fun σ2 En2 => ⟨Z2, α2, ρ2, m2, R2, En2, p2⟩
      | ct ρ2 => exact fun σ2 En2 => ⟨Z2, α2, ρ2, m2, R2, En2, p2⟩
      | bk ρ2 => exact fun σ2 En2 => p2.now R2 σ2 En2
      | rt d => exact fun v dv => p2.now R2 v dv
    · refine ⟨false, rfl, ?_⟩
      rw [if_neg Bool.false_ne_true]
      exact p1.now R1 σ (En.mono F1.le)
    · exact p1.elim
theorem sc_for {tg it : Expr} {b : List Stmt} {g : Gt} {i : It} {cb : List C} {p : Pos} (h : SxOk G N lv W sc X) (hset : ∀ x, foldedSetIterable it X.env x = pure x) (hi : SI G W X tg it i) (hg : SG G W X tg g) (hb : SCs G W X b cb) : SC G W X (.For tg it b [] p) (.for g i cb) := fun D σ H Z α ρ m R En q => by
  unfold evC at q
  refine ⟨_, ps_for h.own h.cx.calm pi_all pg_all pss_all hset, ?_⟩
  refine hi σ H Z α ρ m _ R En (q.bind.mono fun dw m1 H1 Z1 α1 F1 R1 p1 ok1 J wd => ?_)
  obtain ⟨ds, w⟩ := dw
  dsimp only at p1 ok1 wd
  obtain ⟨Gd, Y, wk, hGd, yl⟩ := wd
  generalize hf : (fun (d : Pm.D) (ρ : Env) (m : Mu) => (evG G g d ρ m).bind fun ρ m => evCs G cb ρ m) = f at p1
  let Pv : Nat → St → Hp → Prop := fun i σ H2 => ∃ Z2 α2 ρ2 m2, Rep G.T H2 Z2 α2 m2 ∧ EnvR G.T Z2 α2 σ ρ2 ∧ Le Z1 α1 Z2 α2 ∧ okW w m2 = true ∧ Post G.T W H2 Z2 α2 (forL w f (ds.drop i) ρ2 m2) (KF G.T D)
  refine for_it wk Pv ⟨Z1, α1, ρ, m1, R1, En.mono F1.le, .rfl', ok1, by rw [List.drop_zero]; exact p1⟩ ?_ ?_ ?_
  · rintro i σ2 H2 _ ⟨Z2, α2, ρ2, m2, R2, _, le, ok2, _⟩
    exact hGd H2 Z2 α2 m2 le R2 ok2
  · rintro i v σ2 H2 H3 hn ⟨Z2, α2, ρ2, m2, R2, En2, le2, ok2, p2⟩ y
    obtain ⟨Z3, d, ed, F3, R3, dd⟩ := yl i H2 v H3 hn (hGd H2 Z2 α2 m2 le2 R2 ok2) y Z2 α2 m2 le2 R2 ok2
    have hdrop : ds.drop i = d :: ds.drop (i + 1) := by
      obtain ⟨hi, e⟩ := List.getElem?_eq_some_iff.mp ed
      rw [List.drop_eq_getElem_cons hi, e]
    rw [hdrop] at p2
    unfold forL at p2
    have p3 := (p2.later F3).bind
    rw [← hf] at p3
    refine hg σ2 H3 Z3 α2 ρ2 m2 v d _ R3 (En2.mono F3.le) dd (p3.bind.mono fun ρ4 m4 H4 Z4 α4 F4 R4 p4 σ4 En4 _ _ => ?_)
    refine hb _ σ4 H4 Z4 α4 ρ4 m4 R4 En4 (p4.mono fun fl m5 H5 Z5 α5 F5 R5 p5 => ?_)
    have le5 := ((le2.trans F3.le).trans F4.le).trans F5.le
    rw [hf] at p5
    cases fl with
    | nx ρ6 =>
      dsimp only at p5
      by_cases z : okW w m5 = true
      · rw [if_pos z] at p5; exact fun σ6 En6 => ⟨Z5, α5, ρ6, m5, R5, En6, le5, z, p5⟩
      · rw [if_neg z] at p5; exact p5.elim
    | ct ρ6 =>
      dsimp only at p5
      by_cases z : okW w m5 = true
      · rw [if_pos z] at p5; exact fun σ6 En6 => ⟨Z5, α5, ρ6, m5, R5, En6, le5, z, p5⟩
      · rw [if_neg z] at p5; exact p5.elim
    | bk ρ6 => exact fun σ6 En6 => p5.now R5 σ6 En6
    | rt d => exact fun w dw => p5.now R5 w dw
  · rintro σ2 H2 ⟨Z2, α2, ρ2, m2, R2, En2, le2, ok2, p2⟩
    rw [List.drop_length] at p2
    unfold forL at p2
    exact p2.now R2 σ2 En2
theorem sc_ret {e : Expr} {x : E} {p : Pos} (he : SE G W X e x) : SC G W X (.Return (some e) p) (.ret x) := fun D σ H Z α ρ m R En q => by
  unfold evC at q
  refine ⟨_, ps_ret pe_all, ?_⟩
  exact he σ H Z α ρ m _ R En (q.bind.mono fun d m1 H1 Z1 α1 F1 R1 p1 v dv => p1.now R1 v dv)
theorem sc_retN {p : Pos} : SC G W X (.Return none p) .retN := fun D σ H Z α ρ m R En q => by
  unfold evC at q
  exact ⟨_, ps_retN, q.now R _ .non⟩
theorem sc_brk {p : Pos} : SC G W X (.Break p) .brk := fun D σ H Z α ρ m R En q => by
  unfold evC at q
  exact ⟨_, ps_break, q.now R _ En⟩
theorem sc_cnt {p : Pos} : SC G W X (.Continue p) .cnt := fun D σ H Z α ρ m R En q => by
  unfold evC at q
  exact ⟨_, ps_continue, q.now R _ En⟩
theorem sc_pas {p : Pos} : SC G W X (.Pass p) .pas := fun D σ H Z α ρ m R En q => by
  unfold evC at q
  exact ⟨_, ps_pass, q.now R _ En⟩
theorem frz_ok {T : Tb} {K : Env → Mu → Hp → Hp → List Addr → Prop} : ∀ {is : List Nat} {σ : St} {H Z : Hp} {α : List Addr} {ρ : Env} {m : Mu}, Rep T H Z α m → EnvR T Z α σ ρ → Post T W H Z α (frzD is ρ m) K → ∃ Z' ρ' m', Fut H Z α H Z' α ∧ Rep T H Z' α m' ∧ EnvR T Z' α σ ρ' ∧ K ρ' m' H Z' α
  | [], σ, H, Z, α, ρ, m, R, En, q => by
    unfold frzD at q
    exact ⟨Z, ρ, m, .rfl', R, En, q.now R⟩
  | i :: is, σ, H, Z, α, ρ, m, R, En, q => by
    unfold frzD at q
    split at q
    · rename_i k ek
      split at q
      · rename_i ds hk
        obtain ⟨v, ev, dv⟩ := En.at_ i _ ek
        cases dv with
        | own e1 =>
          rename_i a
          obtain ⟨a', vs, f1, f2, f3⟩ := look_lst R hk
          rw [e1] at f1; cases f1
          have F := Fut.freeze (u := .lst vs) R e1 hk rfl
          have En2 : EnvR T (upd Z a (.lst vs)) α σ (ρ.set i (some (.lst ds))) := by
            have := (En.mono F.le).set (i := i) (v := .ref a) (d := .lst ds) (.lst upd_same (f3.mono F.le))
            rwa [show σ.set i (some (V.ref a)) = σ by
              refine List.ext_getElem? fun j => ?_
              by_cases h : i = j
              · subst h
                rw [List.getElem?_set_self (List.getElem?_eq_some_iff.mp ev).1, ev]
              · rw [List.getElem?_set_ne h]] at this
          obtain ⟨Z', ρ', m', F2, R2, En3, k2⟩ := frz_ok (is := is) (R.freeze e1 hk rfl f2) En2 (q.later F)
          exact ⟨Z', ρ', m', F.trans F2, R2, En3, k2⟩
      · exact q.elim
    · exact q.elim
theorem sc_frz {s : Stmt} {c : C} {is : List Nat} (h : SC G W X s c) : SC G W X s (.frz is c) := fun D σ H Z α ρ m R En q => by
  unfold evC at q
  obtain ⟨Z', ρ', m', F, R', En', q'⟩ := frz_ok R En q.bind
  exact h D σ H Z' α ρ' m' R' En' q'
theorem scs_nil : SCs G W X [] [] := fun D σ H Z α ρ m R En q => by
  unfold evCs at q
  exact ⟨_, pss_nil, q.now R σ En⟩
theorem scs_cons {s : Stmt} {ss : List Stmt} {c : C} {cs : List C} (h1 : SC G W X s c) (h2 : SCs G W X ss cs) : SCs G W X (s :: ss) (c :: cs) := fun D σ H Z α ρ m R En q => by
  unfold evCs at q
  refine ⟨_, pss_cons ps_all pss_all, ?_⟩
  refine h1 _ σ H Z α ρ m R En (q.bind.mono fun fl m1 H1 Z1 α1 F1 R1 p1 => ?_)
  cases fl with
  | nx ρ1 => exact fun σ1 En1 => h2 D σ1 H1 Z1 α1 ρ1 m1 R1 En1 p1
  | ct ρ1 => exact fun σ1 En1 => p1.now R1 σ1 En1
  | bk ρ1 => exact fun σ1 En1 => p1.now R1 σ1 En1
  | rt d => exact fun v dv => p1.now R1 v dv
end
end Pm

set_option maxRecDepth 100000
set_option maxHeartbeats 4000000
/-! Defs -/
namespace Pm
open PySem L2
section
variable {G : Gm} {W : XK} {X : Cx} {N : List Str} {lv : Nat} {sc : Scope} {tp : Tp}
theorem trA_eq {n : Nat} {tg value : Expr} {c : C} (q : trA tp N n sc tg value = some c) : ∃ g x, c = .asg g x ∧ trG tp N n sc tg = some g ∧ trE tp N n sc value = some x := by
  unfold trA at q
  split at q
  · rename_i g x h1 h2
    cases q
    exact ⟨g, x, rfl, h1, h2⟩
  · cases q
theorem sw_sole {tg value : Expr} {l : Nat} {env : PySem.Env} (h : swapsWith value (some tg) l env = pure false) : swapsWithSole [tg] value l env = pure false := h
theorem sw_of {sc : Scope} {tg value : Expr} {p : Pos} (h : SxOk G N lv W sc X) (hok : asgOk sc tg value = true) : swapsWithSole [tg] value p.line X.env = pure false ∧ swappedStores [tg] value X.env = pure none := by
  unfold asgOk at hok
  rw [Bool.and_eq_true] at hok
  obtain ⟨_, hok⟩ := hok
  split at hok
  · rename_i scope p2
    refine ⟨?_, st_none2 fun a b c z => by cases z⟩
    refine sw_sole ((sw_comp h.cx.kind).trans ?_)
    rw [h.sce]
    simp at hok
    rw [hok]
  · cases hok
  · cases hok
  · rename_i vs k2 p2
    refine ⟨sw_sole (sw_plain rfl), ?_⟩
    split at hok
    · rename_i ts k p3
      split at hok
      · rename_i e
        exact swP_ok h.blk (by rw [h.kindOf]; exact e)
      · cases hok
    · cases hok
    · rename_i h1 h2
      exact st_none (by cases tg <;> first | rfl | exact absurd rfl (h1 _ _ _) | exact absurd rfl (h2 _ _))
  · rename_i h1 h2 h3 h4
    refine ⟨?_, st_none2 fun a b c z => h4 a b c z⟩
    refine sw_sole (sw_plain ?_)
    cases value <;> first | rfl | exact absurd rfl (h1 _ _ _ _) | exact absurd rfl (h2 _ _ _ _) | exact absurd rfl (h3 _ _ _ _ _)
structure TsOk (G : Gm) (N : List Str) (lv : Nat) (tp : Tp) (n : Nat) : Prop where
  c : ∀ sc W X, SxOk G N lv W sc X → ∀ s c, trC tp N n sc s = some c → SC G W X s c
  c0 : ∀ sc W X, SxOk G N lv W sc X → ∀ s c, trC0 tp N n sc s = some c → SC G W X s c
  cs : ∀ sc W X, SxOk G N lv W sc X → ∀ s c, trCs tp N n sc s = some c → SCs G W X s c
theorem asgOk_star {sc : Scope} {tg value : Expr} (hok : asgOk sc tg value = true) : noStar tg = true := by
  unfold asgOk at hok
  rw [Bool.and_eq_true] at hok
  exact hok.1
theorem trC0_ok (hcls : TpOk tp G lv) {n : Nat} (I : TsOk G N lv tp n) (sc : Scope) (W : XK) (X : Cx) (h : SxOk G N lv W sc X) (s : Stmt) (c : C) (q : trC0 tp N (n + 1) sc s = some c) : SC G W X s c := by
  have T := tr_ok (G := G) (N := N) (lv := lv) hcls n
  unfold trC0 at q
  split at q
  · rename_i tg value p
    split at q
    · rename_i hok
      obtain ⟨g, x, rfl, h1, h2⟩ := trA_eq q
      obtain ⟨w1, w2⟩ := sw_of (p := p) h hok
      exact sc_asg h w1 w2 (asgOk_star hok) (T.g sc W X h.cx _ _ h1) (T.e sc W X h.cx _ _ h2)
    · split at q
      · rename_i t pt elt gs scope p2 _
        split at q
        · rename_i hb
          obtain ⟨g, x, rfl, h1, h2⟩ := trA_eq q
          cases n with
          | zero => unfold trE at h2; cases h2
          | succ n =>
            unfold trG at h1
            dsimp only at h1
            split at h1
            · rw [Option.map_eq_some_iff] at h1
              obtain ⟨i, hi, rfl⟩ := h1
              have hl : sc.names.lookup t = some .local := by
                unfold swB at hb
                simp only [Bool.and_eq_true, beq_iff_eq] at hb
                exact hb.1.1
              exact sc_lc h hl hi hb (trL_ok hcls (tr_ok hcls n) sc W X h.cx _ _ _ _ _ h2)
            · cases h1
        · cases q
      · split at q
        · rename_i hc
          obtain ⟨hsw, hx, hy, hne⟩ := hc
          split at q
          · rename_i h1 h2 h3
            cases q
            obtain ⟨h4, h5⟩ := T.es sc W X h.cx _ _ h3
            exact sc_par h hsw hx hy hne h1 h2 h4 h5
          · cases q
        · cases q
      · split at q
        · rename_i hc
          obtain ⟨hsw, hx, hy, hz, hxy, hxz, hyz⟩ := hc
          split at q
          · rename_i h1 h2 h6 h3
            cases q
            obtain ⟨h4, h5⟩ := T.es sc W X h.cx _ _ h3
            exact sc_par3 h hsw hx hy hz hxy hxz hyz h1 h2 h6 h4 h5
          · cases q
        · cases q
      · cases q
  · split at q
    · rename_i hc
      rw [Bool.and_eq_true, Bool.or_eq_true, beq_iff_eq, beq_iff_eq] at hc
      split at q
      · rename_i h1 h2
        cases q
        exact sc_aug h hc.1 hc.2 h1 (T.e sc W X h.cx _ _ h2)
      · cases q
    · cases q
  · split at q
    · cases q
    · rename_i hc
      rw [Option.map_eq_some_iff] at q
      obtain ⟨x, hq, rfl⟩ := q
      exact sc_expr (by simpa using hc) (T.e sc W X h.cx _ _ hq)
  · split at q
    · rename_i h1 h2 h3
      cases q
      exact sc_if (T.t sc W X h.cx _ _ h1) (I.cs sc W X h _ _ h2) (I.cs sc W X h _ _ h3)
    · cases q
  · split at q
    · rename_i h1 h2
      cases q
      exact sc_whl h (T.t sc W X h.cx _ _ h1) (I.cs sc W X h _ _ h2)
    · cases q
  · split at q
    · rename_i h1 h2 h3
      cases q
      obtain ⟨i1, i2⟩ := T.i sc W X h.cx _ _ _ h1
      exact sc_for h (noSet i2) i1 (T.g sc W X h.cx _ _ h2) (I.cs sc W X h _ _ h3)
    · cases q
  · cases q; exact sc_retN
  · rw [Option.map_eq_some_iff] at q
    obtain ⟨x, hq, rfl⟩ := q
    exact sc_ret (T.e sc W X h.cx _ _ hq)
  · cases q; exact sc_brk
  · cases q; exact sc_cnt
  · cases q; exact sc_pas
  · cases q
theorem ts_ok (hcls : TpOk tp G lv) : ∀ n, TsOk G N lv tp n
  | 0 => ⟨fun _ _ _ _ _ _ h => (by unfold trC at h; cases h), fun _ _ _ _ _ _ h => (by unfold trC0 at h; cases h), fun _ _ _ _ _ _ h => (by unfold trCs at h; cases h)⟩
  | n + 1 => by
    have I := ts_ok hcls n
    refine ⟨fun sc W X h s c q => ?_, trC0_ok hcls I, fun sc W X h ss cs q => ?_⟩
    · unfold trC at q
      split at q
      · rw [Option.map_eq_some_iff] at q
        obtain ⟨c, q, rfl⟩ := q
        exact sc_frz (I.c0 sc W X h _ _ q)
      · exact I.c0 sc W X h _ _ q
    · unfold trCs at q
      split at q
      · cases q; exact scs_nil
      · split at q
        · rename_i h1 h2
          cases q
          exact scs_cons (I.c sc W X h _ _ h1) (I.cs sc W X h _ _ h2)
        · cases q
end
section
variable {P : Program} {w : World} {K : PySem.W.Frag} {mg : Str → Option Value} {base : Heap} {G : Gm} {lv : Nat} {tp : Tp}
theorem start_ok {T : Tb} {Z : Hp} {α : List Addr} {N : List Str} {vs : List V} {ds : List D} (h : Dns T Z α vs ds) : EnvR T Z α (L2.start N vs) (ds.map some ++ List.replicate (N.length - ds.length) none) := by
  refine ⟨by simp [L2.start, h.len], fun i d e => ?_⟩
  by_cases hi : i < ds.length
  · rw [List.getElem?_append_left (by simpa using hi), List.getElem?_map] at e
    cases q : ds[i]? with
    | none => rw [q] at e; cases e
    | some d' =>
      rw [q] at e
      cases e
      obtain ⟨v, e1, e2⟩ := h.get q
      refine ⟨v, ?_, e2⟩
      unfold L2.start
      rw [List.getElem?_append_left (by simp [h.len, hi]), List.getElem?_map, e1]
      rfl
  · rw [List.getElem?_append_right (by simp; omega)] at e
    rw [List.getElem?_replicate] at e
    split at e <;> cases e
/-- THE RULE: a def does what its program without names does to data -/
theorem fnD {x qual : Str} {st : Stmt} {f : Addr} {fd : FuncData} {N ps : List Str} {n : Nat} {body : List C} (F : Fun K x qual st f fd) (S : FnScope N ps (defScope st)) (g : Good G lv ⟨P, w, K, mg, base⟩) (hcls : TpOk tp G lv)
    (ht : trCs tp N n (defScope st) (defBody st) = some body) (hpn : ps.length ≤ N.length) : FnG P w K mg base (lv + 1) f fd ps (spD G.T ps.length (runF G ps.length N.length body)) := by
  refine okG F S (fun vs H Q E h => h.1) (fun cdv A outer s H vs Q E gd hr h => ?_)
  obtain ⟨hl, Z, α, m, ds, R, dv, q⟩ := h
  have cx : CxOk G N lv E (defScope st) (cxOf (L2.CX P w) P w K mg base N qual (defScope st) f cdv A outer s H E) :=
    { good := g, eN := rfl, nd := S.nd, calm := rfl, room := hr, gd := gd
      vis := fun x e => by
        show Vis (defScope st) x
        unfold Vis
        cases q : (defScope st).names.lookup x with
        | none => rw [q] at e; cases e
        | some k =>
          rw [q] at e
          cases k <;> first | exact .inl rfl | exact .inr (.inl rfl) | exact .inr (.inr rfl) | cases e
      glob := fun x e => by
        show (defScope st).names.lookup x = some .globalImplicit
        cases q : (defScope st).names.lookup x with
        | none => rw [q] at e; cases e
        | some k =>
          rw [q] at e
          cases k <;> first | rfl | cases e
      loc := fun x e => by
        refine ⟨?_, .inl rfl⟩
        show L2.Loc (defScope st) x
        unfold L2.Loc
        cases q : (defScope st).names.lookup x with
        | none => rw [q] at e; cases e
        | some k =>
          rw [q] at e
          cases k <;> first | exact .inl rfl | exact .inr rfl | cases e
      kind := S.kind
      fre := fun x e => e
      tk := takes_of rfl rfl rfl rfl }
  have sx : SxOk G N lv E (defScope st) (cxOf (L2.CX P w) P w K mg base N qual (defScope st) f cdv A outer s H E) := ⟨cx, rfl, passes_of rfl⟩
  refine ⟨_, pss_all, ?_⟩
  unfold runF at q
  have hd : ds.length = ps.length := by rw [← dv.len]; exact hl
  rw [if_pos hd] at q
  refine (ts_ok hcls n).cs _ E _ sx _ _ ht _ _ H Z α _ m R (start_ok dv) (q.bind.mono fun fl m1 H1 Z1 α1 F1 R1 p1 => ?_)
  cases fl with
  | nx ρ => exact fun σ En => p1.now R1 _ .non
  | rt d => exact fun v dv => p1.now R1 v dv
  | bk ρ => exact p1.elim
  | ct ρ => exact p1.elim
end
end Pm

set_option maxRecDepth 100000
set_option maxHeartbeats 400000
/-! The law at the top -/
namespace Pm
open PySem L2
open PyProof.Rows (IntsAre AllBare)
section
variable {P : Program} {w : World} {K : PySem.W.Frag} {mg mb : Str → Option Value} {k : Nat} {fa a : Addr} {fd : FuncData} {x : Str} {sp : Sp} {s : Shared} {vs : List Value} {ns : List Int}
/-- what is tracked at the top: the script, if the module doesn't hold it -/
def topH (K : PySem.W.Frag) (a : Addr) (vs : List Value) (ns : List Int) : Hp := fun b => match K.lookup a with
  | some _ => none
  | none => if b = a then some (.frz { cls := .type "list", data := .seq vs.toArray } (.lst (ns.map V.int))) else none
theorem topH_at {b : Addr} {u : HO} (h : topH K a vs ns b = some u) : K.lookup a = none ∧ b = a ∧ u = .frz { cls := .type "list", data := .seq vs.toArray } (.lst (ns.map V.int)) := by
  unfold topH at h
  split at h
  · cases h
  · rename_i e
    split at h
    · rename_i e2; cases h; exact ⟨e, e2, rfl⟩
    · cases h
theorem top_free {b : Addr} {o : Obj} (ha : s.heap.get? a = some { cls := .type "list", data := .seq vs.toArray }) (e : s.heap.get? b = some o) (hd : ∀ its n, o.data ≠ .seq its n) : topH K a vs ns b = none := by
  cases q : topH K a vs ns b with
  | none => rfl
  | some u =>
    obtain ⟨_, rfl, _⟩ := topH_at q
    rw [ha] at e
    cases e
    exact absurd rfl (hd _ _)
theorem top_K {b : Addr} {o : Obj} (e : K.lookup b = some o) : topH K a vs ns b = none := by
  cases q : topH K a vs ns b with
  | none => rfl
  | some u =>
    obtain ⟨h1, rfl, _⟩ := topH_at q
    rw [h1] at e
    cases e
theorem top_ok (ha : s.heap.get? a = some { cls := .type "list", data := .seq vs.toArray }) (hi : IntsAre vs ns) (hl : ns.length ≤ sizeLine) : HOk P w (topH K a vs ns) s.heap := fun b u e => by
  obtain ⟨_, rfl, rfl⟩ := topH_at e
  exact ⟨ha, by rw [List.length_map]; exact hl, vs, _, vals_ints hi, ha⟩
theorem top_sq (KX : K.In s.heap) (ha : s.heap.get? a = some { cls := .type "list", data := .seq vs.toArray }) (hi : IntsAre vs ns) (hl : ns.length ≤ sizeLine) : SqL K (topH K a vs ns) a (ns.map V.int) := by
  cases h : K.lookup a with
  | none => exact .inl (.inr ⟨_, by unfold topH; rw [h]; exact if_pos rfl⟩)
  | some o =>
    have e := KX a o h
    rw [ha] at e
    cases e
    exact .inr ⟨_, vs.toArray, _, h, rfl, rfl, rfl, by rw [List.size_toArray, hi.length]; exact hl, by simpa using vals_ints hi⟩
theorem callerA_guards : callerA.guards = some [] := rfl
theorem lawG (KX : K.In s.heap) (hns : s.heap.Ns mainGlobals mg) (hb : s.heap.Ns builtinsNs mb) (hbb : ∀ x : Str, x ≠ "__name__" → mb x = bootBuiltins x) (hlim : s.heap.NoLimit) (hg : s.gens = #[]) (ha : s.heap.get? a = some { cls := .type "list", data := .seq vs.toArray })
    (hi : IntsAre vs ns) (hl : ns.length ≤ sizeLine) (hr : Room k callerA) (F : ∀ base : Heap, K.In base → base.Ns mainGlobals mg → FnG P w K mg base k fa fd [x] sp) (hbind : ∀ (s : Shared) (u : Value), BindsTo s fd ⟨[u], []⟩ [(x, u)])
    (hsp : ∀ H : Hp, SqL K H a (ns.map V.int) → sp [.ref a] H (fun v _ => v = .bl true) fun _ _ _ => False) :
    codeAny (model P w) callerA (.call (.ref fa) ⟨[.ref a], []⟩) (fun r s' => r = .ok (.ret (.bool true)) ∧ OldK s.heap s'.heap ∧ s'.os = s.os ∧ AllBare s'.gens) s := by
  let H := topH K a vs ns
  let base := hidT s.heap H
  have nsK : ∀ {b : Addr} {m : Str → Option Value}, s.heap.Ns b m → base.Ns b m := fun ⟨o, es, ep, e, d, r⟩ => ⟨o, es, ep, hidT_get e (top_free ha e fun _ _ z => by rw [d] at z; cases z), d, r⟩
  have hKb : K.In base := fun b o e => hidT_get (KX b o e) (top_K e)
  have hM : Mod K mg base := ⟨hKb, nsK hns, ⟨mb, nsK hb, hbb⟩, by obtain ⟨mc, h1, h2⟩ := hlim; exact ⟨mc, nsK h1, h2⟩⟩
  have nob : ∀ b ∈ frs [], H b = none := fun b hb => absurd (show b ∈ ([] : List Addr) from hb) (by simp)
  have e0 : Env0 P w K mg base callerA [] s H := ⟨rfl, hM, fun b o e => of_hidT e, Nat.le_of_eq (hidT_size _ _), trivial, nob, top_ok ha hi hl, .of_eq hg⟩
  refine codeAny_mono ((F base hKb (nsK hns)).runG callerA [] s H ⟨[.ref a], []⟩ [.ref a] [.ref a] _ _ rfl hr e0 (hbind s (.ref a)) (.cons rfl .nil) (hsp H (top_sq KX ha hi hl))) fun fin s2 q => ?_
  match fin, q with
  | .error er, q =>
    obtain ⟨_, _, _, _, _, _, _, _, _, _, _, _, z⟩ := q
    exact z.elim
  | .ok (.ret u), ⟨v, H2, os, bare, un, ok2, r2, q2⟩ =>
    subst q2
    obtain rfl : u = Value.bool true := r2
    refine ⟨rfl, OldK.of_keep fun b o e => ?_, os, bare⟩
    cases q : H b with
    | none => exact un.keep b o e q (fun z => absurd (show b ∈ ([] : List Addr) from z) (by simp)) (by simp)
    | some u =>
      obtain ⟨_, rfl, rfl⟩ := topH_at q
      rw [ha] at e
      cases e
      exact (ok2 _ _ (un.frzs _ _ _ q)).1
/-- the script is a list that is read -/
theorem law_spD {T : Tb} {H : Hp} {g : Fn} {m : Mu} {E : XK} (h : SqL T.K H a (ns.map V.int)) (q : g [.frl (ns.map D.int)] [] = .ok (.bl true) m) : spD T 1 g [.ref a] H (fun v _ => v = .bl true) E := by
  have no : ∀ (i : Nat) (a : Addr), ([] : List Addr)[i]? = some a → False := fun i a e => by rw [List.getElem?_nil] at e; cases e
  have R : Rep T H H [] [] := { sub := fun _ _ e => e, len := rfl, nd := fun i j a e => (no i a e).elim, out := fun i a o e => (no i a e).elim, obj := fun i a o e => (no i a e).elim }
  have dv : ∀ ns : List Int, Dns T H [] (ns.map V.int) (ns.map D.int) := fun ns => by
    induction ns with
    | nil => exact .nil
    | cons n r ih => exact .cons (.int n) ih
  refine ⟨rfl, H, [], [], _, R, .cons (.frl h (dv ns)) .nil, ?_⟩
  rw [q]
  exact fun H' Z' α' F R' v dv => by cases dv; rfl
end
end Pm

set_option maxRecDepth 100000
set_option maxHeartbeats 400000
/-! Own operators, own == and != -/
namespace PySem.W
open PySem PySem.Calls
open PyProof.Rows (Fr)
section
variable {prog : Program} {w : World} {A : Around} {E : Value → Shared → Prop} {s : Shared} {K : Frag} {x C L f : Addr} {h₀ : Heap} {m : Str → Option Value} {ox : Obj} {od : Option Obj} {b tb : Value}
/-- a slot of object at an own instance -/
theorem pm_check {id n : String} {rest : List Value} {Q : Unit → Shared → Prop} (hk : builtinKind id = some .slot) (hs : splitId id = some ("object", n)) (ha : argsOk id ⟨.ref x :: rest, []⟩) (X : K.In s.heap) (I : InstAt s.heap x ox C od)
    (hm : mroIn K C (.type "object") = some true) (q : Q () s) : wpAny (model prog w) A (checkBuiltinCall id ⟨.ref x :: rest, []⟩) Q E s := by
  simp only [checkBuiltinCall, hk, hs]
  refine wpAny_bind ?_
  unfold isInstance
  refine wpAny_bind (I.type.here ((looks_mroIn X hm).here ?_))
  simp only [Bool.not_true, Bool.false_eq_true, if_false]
  cases hsig : Manifest.signature? id with
  | none => exact wpAny_pure q
  | some sig =>
    simp only [argsOk, hsig] at ha
    show wpAny _ A (Bind.checkArgs id sig ⟨.ref x :: rest, []⟩) Q E _
    rw [show Bind.checkArgs id sig ⟨.ref x :: rest, []⟩ = pure () from ha]
    exact wpAny_pure q
/-- x != b of an own class that has == and no != -/
theorem pm_ne {Q : Value → Shared → Prop} (hu : A.units + 1 < cLine) (F : Fr h₀ L s.heap m) (X₀ : K.In h₀) (I : InstAt s.heap x ox C od) (hb : Looks (model prog w) s.heap (typeOf b) tb) (hn : notFirst K C tb = true)
    (hs : findIn K (.ref C) "__eq__" = some (some (.ref f))) (hf : isFn K (.ref f) = true) (hne : findIn K (.ref C) "__ne__" = some (some (.builtin "object.__ne__"))) (hm : mroIn K C (.type "object") = some true)
    (h : wpAny (model prog w) A.in1 (call (.ref f) [.ref x, b]) (fun v s' => ∃ r, v = .bool r ∧ Q (.bool (!r)) s') E s) : wpAny (model prog w) A (richCompare .NotEq (.ref x) b) Q E s := by
  have X := X₀.keeps F.keep
  have ent : wpAny (model prog w) A.in1 (Builtin.«object.__ne__» ⟨[.ref x, b], []⟩) (fun fin s' => match fin with | .done fl => ∃ r, fl = .ret (.bool (!r)) ∧ Q (.bool (!r)) s' | .again _ => False) E s := by
    unfold Builtin.«object.__ne__»
    repeat (first
      | with_reducible refine wpAny_cRoomFor (by show A.in1.units < _; show A.units + 1 < _; exact hu) ?_
      | (refine wpAny_bind (m := callSpecialIfBound? (.ref x) (Str.ofString "__eq__") [b]) (ifBound_K X I hs hf (wpAny_mono h (fun v s2 z => ?_) fun _ _ e => e)))
      | wp_step)
    obtain ⟨r, rfl, q⟩ := z
    repeat (first
      | (refine wpAny_bind (m := truthy (.bool _)) (wpAny_truthy_bool ?_))
      | wp_step)
    exact ⟨r, rfl, q⟩
  have cl : wpAny (model prog w) A (call (.builtin "object.__ne__") [.ref x, b]) (fun v s' => ∃ r, v = .bool (!r) ∧ Q (.bool (!r)) s') E s := by
    refine wpAny_call (codeAny_call_builtin PySem.F.cmp_object.ne.plain PySem.F.cmpEntry_ne (pm_check PySem.F.cmpKind_ne PySem.F.cmpSplit_ne (PySem.F.cmpArgs_ne _ _) X I hm (wpAny_mono ent (fun fin s2 z => ?_) fun _ _ e => e)))
    cases fin with
    | done fl => obtain ⟨r, rfl, q⟩ := z; exact ⟨r, rfl, q⟩
    | again c => exact z.elim
  have one : wpAny (model prog w) A (tryCompare (.ref x) "__ne__" b) (fun r s' => ∃ v, r = some v ∧ Q v s') E s := by
    simp only [tryCompare, callSpecialIfBound?, bindSpecialIfBound?]
    refine wpAny_bind (wpAny_holding (wpAny_bind (wpAny_bind (wpAny_bind (I.type.here ((looks_findIn X hne).here ?_))))))
    simp only [PySem.F.cmp_object.ne.bind]
    have fin : wpAny (model prog w) A (call (.builtin "object.__ne__") ([.ref x] ++ [b]) >>= fun v => pure (some v)) (fun o s' => ∃ r, o = some (.bool (!r)) ∧ Q (.bool (!r)) s') E s := wpAny_bind (wpAny_mono cl (fun v s2 z => by obtain ⟨r, rfl, q⟩ := z; exact wpAny_pure ⟨r, rfl, q⟩) fun _ _ e => e)
    have go : ∀ o s2, (∃ r, o = some (Value.bool (!r)) ∧ Q (.bool (!r)) s2) → wpAny (model prog w) A (match o with | some .notImplemented | none => pure none | some v => pure (some v)) (fun r s' => ∃ v, r = some v ∧ Q v s') E s2 := fun o s2 z => by
      obtain ⟨r, rfl, q⟩ := z
      exact wpAny_pure ⟨_, rfl, q⟩
    refine wpAny_bind (wpAny_askSetting (wpAny_ite ?_))
    split
    · exact wpAny_bind (wpAny_pure (wpAny_pure (wpAny_mono fin go fun _ _ e => e)))
    · exact wpAny_tryCatch (wpAny_bind (wpAny_pure (wpAny_pure (wpAny_mono fin go fun _ _ e => e))))
  unfold richCompare
  simp only [oneThing_ref]
  refine wpAny_holding (wpAny_bind (wpAny_cRoomFor (by omega) ?_))
  refine wpAny_bind (I.type.here (wpAny_bind (hb.here ?_)))
  split
  · rename_i q
    have e : subIn K tb (.ref C) = some false := by
      rcases Bool.or_eq_true_iff.mp hn with e | e
      · rw [beq_iff_eq.mp e] at q; simp at q
      · exact beq_iff_eq.mp e
    refine wpAny_bind ((looks_subIn X e).here ?_)
    simp only [Bool.false_eq_true, if_false]
    exact wpAny_bind (wpAny_mono one (fun r s2 z => by obtain ⟨v, rfl, q⟩ := z; exact wpAny_pure q) fun _ _ e => e)
  · refine wpAny_bind (wpAny_pure ?_)
    simp only [Bool.false_eq_true, if_false]
    exact wpAny_bind (wpAny_mono one (fun r s2 z => by obtain ⟨v, rfl, q⟩ := z; exact wpAny_pure q) fun _ _ e => e)
end
end PySem.W

set_option maxRecDepth 100000
set_option maxHeartbeats 400000
/-! Own operators by what a def does to data -/
namespace Pm
open PySem L2
/-- the right operand's class is one of those -/
def okArg (T : Tb) (ok : Value → Bool) (g : Fn) : Fn := fun ds m => match ds with
  | [a, b] => match b.typ T m with
    | some t => if ok t then g [a, b] m else .no
    | none => .no
  | _ => .no
def negR (g : Fn) : Fn := fun ds m => (g ds m).bind fun d m => match d with
  | .bl r => .ok (.bl (!r)) m
  | _ => .no
/-- a def that is known by its address -/
structure Callee (T : Tb) (s : Stc) (lv : Nat) (n : Nat) (f : Addr) (g : Fn) : Prop where
  ex : ∃ fd ps k, FnG s.P s.w s.K s.mg s.base k f fd ps (spD T ps.length g) ∧ Binds s.K fd ps [] ∧ k ≤ lv ∧ ps.length = n
section
variable {X : Cx} {G : Gm} {H Z : Hp} {α : List Addr} {m : Mu} {lv k : Nat} {C f : Addr} {c : Str} {fd : FuncData} {ps : List Str} {g : Fn} {ok : Value → Bool}
theorem ty_looks {pins : List (Addr × Obj)} {σ : L2.St} {s : Shared} {v : V} {u t : Value} (I : L2.Inv X pins σ H s) (rx : RelV v u) (ty : TyX X.K H v t) : PySem.W.Looks (model X.prog X.w) s.heap (typeOf u) t := by
  obtain ⟨P, k, p, _⟩ := kit_of I rx ty
  exact k.ty _ _ I.kIn p
theorem okArg_cases {T : Tb} {a b : D} {K : D → Mu → Hp → Hp → List Addr → Prop} (q : Post T E0 H Z α (okArg T ok g [a, b] m) K) : ∃ t, b.typ T m = some t ∧ ok t = true ∧ Post T E0 H Z α (g [a, b] m) K := by
  unfold okArg at q
  dsimp only at q
  split at q
  · rename_i t e
    split at q
    · rename_i e2; exact ⟨t, e, e2, q⟩
    · exact q.elim
  · exact q.elim
/-- two arguments go in, within a frame that is no deeper than asked -/
theorem run_two {T : Tb} {pins : List (Addr × Obj)} {σ : L2.St} {s : Shared} {x y : V} {v u : Value} {a b : D} {Q : VK} (cl : Callee T (stc X) lv 2 f g) (gd : X.A.guards = some []) (hr : Room lv X.A) (I : L2.Inv X pins σ H s) (rx : RelV x v) (ry : RelV y u) (R : Rep T H Z α m)
    (dx : Dn T Z α x a) (dy : Dn T Z α y b) (q : Post T E0 H Z α (g [a, b] m) (KQ T Q)) : wpAny (model X.prog X.w) X.A (call (.ref f) [v, u]) (EP X pins σ Q) X.xe s := by
  obtain ⟨fd, ps, k, F, hb, hk, hl⟩ := cl.ex
  exact run_g (E := E0) (us := [v, u]) (vs := [x, y]) F gd (hr.mono hk) hb passL I (.cons rx (.cons ry .nil)) ⟨hl.symm, Z, α, m, [a, b], R, .cons dx (.cons dy .nil), q⟩
theorem ep_back {pins : List (Addr × Obj)} {σ : L2.St} {Q : VK} {v : Value} {s : Shared} (h : EP X pins σ Q v s) : PySem.W.CmpBack (EP X pins σ Q) v s := by
  obtain ⟨x, H1, I1, r, q⟩ := id h
  cases x
  all_goals first | (cases r; exact h) | (obtain ⟨_, rfl⟩ := r; exact h) | (obtain ⟨_, _, rfl⟩ := r; exact h)
/-- a op b, both of the class -/
theorem op_own {op : Operator} (g0 : GoodK G X.K) (gd : X.A.guards = some []) (hr : Room lv X.A) (hC : G.T.cls c = some C) (hc : PySem.W.selfFirst X.K C = true) (hs : PySem.W.findIn X.K (.ref C) (PySem.dunder op.info.2) = some (some (.ref f))) (hf : PySem.W.isFn X.K (.ref f) = true)
    (cl : Callee G.T (stc X) lv 2 f g) (hok : ∀ t, ok t = true → t = .ref C) : OpR X (binaryOp op) (rOwn G.T c (okArg G.T ok g)) := by
  intro pins s σ H x y v u Q I rx ry ⟨Z, α, m, a, b, fs, R, dv, du, e, q⟩
  obtain ⟨t, ht, hk, q⟩ := okArg_cases q
  obtain rfl := hok t hk
  obtain ⟨p, C', dx, vs, rfl, h1, h2, h3⟩ := insOf_cls R dv e
  rw [hC] at h1
  cases h1
  cases rx
  obtain ⟨mA, O, _⟩ := ins_get I.hok h2
  obtain ⟨od, J, _⟩ := O.look
  obtain ⟨mm, hF⟩ := I.fr
  exact PySem.W.binop_K hF I.ok.mod.kin J (ty_looks I ry (typ_ok g0 R du ht)) hc hs hf (thn (run_two cl gd hr I (show RelV (.ref p) (.ref p) from rfl) ry R dv du q) fun v s2 h => ep_back h)
/-- a op b, b of a built-in class -/
theorem op_ownT {op : Operator} {n : String} {fo ro rc : Option Value} (g0 : GoodK G X.K) (gd : X.A.guards = some []) (hr : Room lv X.A) (hC : G.T.cls c = some C) (hc : PySem.W.selfFirst X.K C = true) (hs : PySem.W.findIn X.K (.ref C) (PySem.dunder op.info.2) = some (some (.ref f))) (hf : PySem.W.isFn X.K (.ref f) = true)
    (h4 : PySem.W.findIn X.K (.ref C) (dunderR op.info.2) = some rc) (h5 : rc = none ∨ ∃ g : Addr, rc = some (.ref g)) (h6 : PySem.W.findIn X.K (.type "int") (PySem.dunder op.info.2) = some fo) (h7 : PySem.W.findIn X.K (.type "int") (dunderR op.info.2) = some ro) (h8 : PySem.W.subIn X.K (.type "int") (.ref C) = some false)
    (cl : Callee G.T (stc X) lv 2 f g) (hok : ∀ t, ok t = true → t = .type "int") : OpR X (binaryOp op) (rOwn G.T c (okArg G.T ok g)) := by
  intro pins s σ H x y v u Q I rx ry ⟨Z, α, m, a, b, fs, R, dv, du, e, q⟩
  obtain ⟨t, ht, hk, q⟩ := okArg_cases q
  obtain rfl := hok t hk
  obtain ⟨p, C', dx, vs, rfl, h1, h2, h3⟩ := insOf_cls R dv e
  rw [hC] at h1
  cases h1
  cases rx
  obtain ⟨mA, O, _⟩ := ins_get I.hok h2
  obtain ⟨od, J, _⟩ := O.look
  obtain ⟨mm, hF⟩ := I.fr
  have hu : typeOf u = pure (.type "int") := by
    cases du with
    | int i => obtain ⟨tk, rfl⟩ := ry; rfl
    | own e1 =>
      simp only [D.typ] at ht
      split at ht <;> first | (rw [Option.map_eq_some_iff] at ht; obtain ⟨_, _, z⟩ := ht; cases z) | (injection ht with ht; injection ht with ht; exact absurd ht (by decide)) | cases ht
    | ins e1 e2 e3 => simp only [D.typ, e1, Option.map_some] at ht; cases ht
    | _ => first | (injection ht with ht; injection ht with ht; exact absurd ht (by decide)) | cases ht
  exact PySem.W.ksp_binT hF I.ok.mod.kin J hu hc hs hf h4 h5 h6 h7 h8 (thn (run_two cl gd hr I (show RelV (.ref p) (.ref p) from rfl) ry R dv du q) fun v s2 h => ep_back h)
/-- a == b -/
theorem cm_eq (g0 : GoodK G X.K) (gd : X.A.guards = some []) (hr : Room lv X.A) (hC : G.T.cls c = some C) (hs : PySem.W.findIn X.K (.ref C) "__eq__" = some (some (.ref f))) (hf : PySem.W.isFn X.K (.ref f) = true)
    (cl : Callee G.T (stc X) lv 2 f g) (hok : ∀ t, ok t = true → PySem.W.notFirst X.K C t = true) : OpR X (compareOp .Eq) (rOwn G.T c (okArg G.T ok g)) := by
  intro pins s σ H x y v u Q I rx ry ⟨Z, α, m, a, b, fs, R, dv, du, e, q⟩
  obtain ⟨t, ht, hk, q⟩ := okArg_cases q
  obtain ⟨p, C', dx, vs, rfl, h1, h2, h3⟩ := insOf_cls R dv e
  rw [hC] at h1
  cases h1
  cases rx
  obtain ⟨mA, O, _⟩ := ins_get I.hok h2
  obtain ⟨od, J, _⟩ := O.look
  obtain ⟨mm, hF⟩ := I.fr
  exact PySem.W.cmp_K (op := .Eq) hr.units0 hF I.ok.mod.kin J (ty_looks I ry (typ_ok g0 R du ht)) (hok t hk) hs hf (thn (run_two cl gd hr I (show RelV (.ref p) (.ref p) from rfl) ry R dv du q) fun v s2 h => ep_back h)
/-- a != b, by the own == -/
theorem cm_ne (g0 : GoodK G X.K) (gd : X.A.guards = some []) (hr : Room lv X.A) (hC : G.T.cls c = some C) (hs : PySem.W.findIn X.K (.ref C) "__eq__" = some (some (.ref f))) (hf : PySem.W.isFn X.K (.ref f) = true)
    (hne : PySem.W.findIn X.K (.ref C) "__ne__" = some (some (.builtin "object.__ne__"))) (hm : PySem.W.mroIn X.K C (.type "object") = some true)
    (cl : Callee G.T (stc X) k 2 f g) (hk : k + 1 ≤ lv) (hok : ∀ t, ok t = true → PySem.W.notFirst X.K C t = true) : OpR X (compareOp .NotEq) (rOwn G.T c (negR (okArg G.T ok g))) := by
  intro pins s σ H x y v u Q I rx ry ⟨Z, α, m, a, b, fs, R, dv, du, e, q⟩
  unfold negR at q
  have q1 := q.bind
  obtain ⟨t, ht, hk2, q2⟩ := okArg_cases q1
  obtain ⟨p, C', dx, vs, rfl, h1, h2, h3⟩ := insOf_cls R dv e
  rw [hC] at h1
  cases h1
  cases rx
  obtain ⟨mA, O, _⟩ := ins_get I.hok h2
  obtain ⟨od, J, _⟩ := O.look
  obtain ⟨mm, hF⟩ := I.fr
  refine PySem.W.pm_ne (by have := hr.units; omega) hF I.ok.mod.kin J (ty_looks I ry (typ_ok g0 R du ht)) (hok t hk2) hs hf hne hm ?_
  obtain ⟨fd, ps, k', F, hb, hk', hl⟩ := cl.ex
  have sp : spD G.T ps.length g [V.ref p, y] H (fun w H' => ∃ r, w = V.bl r ∧ Q (.bl (!r)) H') E0 := ⟨hl.symm, Z, α, m, [a, b], R, .cons dv (.cons du .nil), q2.mono fun d m1 H1 Z1 α1 F1 R1 p1 w dw => by
    split at p1
    · cases dw; exact ⟨_, rfl, p1.now R1 _ (.bl _)⟩
    · exact p1.elim⟩
  have b2 := hb s [Value.ref p, u] I.kIn (by rw [List.append_nil, hl]; rfl)
  rw [List.append_nil] at b2
  refine wpAny_call (codeAny_mono (F.runG X.A.in1 X.stack s H ⟨[.ref p, u], []⟩ [.ref p, u] [.ref p, y] _ E0 gd ((hr.mono (Nat.le_trans (Nat.succ_le_succ hk') hk)).in1) I.env0.in1 b2 (.cons rfl (.cons ry .nil)) sp) fun fin s2 z => ?_)
  match fin, z with
  | .error er, z => exact passL pins σ H s er s2 I z
  | .ok (.ret w), z =>
    obtain ⟨w', H2, I2, r2, r, rfl, q3⟩ := I.after z
    cases r2
    exact ⟨r, rfl, .bl (!r), H2, I2, rfl, q3⟩
end
end Pm

set_option maxRecDepth 100000
set_option maxHeartbeats 400000
/-! Tables that grow; the law's end -/
namespace Pm
open PySem L2
open PyProof.Rows (IntsAre AllBare)
section
variable {G : Gm} {s : Stc} {lv lv' k : Nat} {f : Addr} {fd : FuncData} {ps : List Str} {h : Fn}
theorem runF_no {np nN : Nat} {body : List C} : ∀ (ds : List D) (m : Mu), ds.length ≠ np → runF G np nN body ds m = .no := fun ds m e => by
  unfold runF
  exact if_neg e
theorem Good.up (g : Good G lv s) (hl : lv ≤ lv') : Good G lv' s :=
  { gk := g.gk
    fn := fun x e h => by obtain ⟨a, fd, ps, k, h1, h2, h3, h4, h5, h6⟩ := g.fn x e h; exact ⟨a, fd, ps, k, h1, h2, h3, h4, Nat.le_trans h5 hl, h6⟩
    me := fun c C x e h hC => by obtain ⟨a, fd, ps, k, h1, h2, h3, h4, h5⟩ := g.me c C x e h hC; exact ⟨a, fd, ps, k, h1, h2, h3, Nat.le_trans h4 hl, h5⟩
    pr := fun c C x e h hC => by obtain ⟨p, a, fd, ps, k, h1, h2, h3, h4, h5⟩ := g.pr c C x e h hC; exact ⟨p, a, fd, ps, k, h1, h2, h3, Nat.le_trans h4 hl, h5⟩
    cs := fun c e h => by obtain ⟨C, a, fd, ps, k, gi, frz, h1, h2, h3, h4, h5, h6, h7⟩ := g.cs c e h; exact ⟨C, a, fd, ps, k, gi, frz, h1, h2, h3, h4, h5, Nat.le_trans h6 hl, h7⟩
    op := fun c o e h X hX hr gd => g.op c o e h X hX (hr.mono hl) gd
    cm := fun c o e h X hX hr gd => g.cm c o e h X hX (hr.mono hl) gd
    ca := fun c C e h hC => by obtain ⟨a, fd, ps, k, h1, h2, h3, h4, h5⟩ := g.ca c C e h hC; exact ⟨a, fd, ps, k, h1, h2, h3, Nat.le_trans h4 hl, h5⟩
    rp := fun c C e h hC => by obtain ⟨a, fd, ps, k, h1, h2, h3, h4, h5, h6⟩ := g.rp c C e h hC; exact ⟨a, fd, ps, k, h1, h2, h3, h4, Nat.le_trans h5 hl, h6⟩
    bl := g.bl
    cl := g.cl
    cx := fun o a b r e X hX hr gd => g.cx o a b r e X hX (hr.mono hl) gd
    fx := g.fx }
/-- a table with one def more -/
def Gm.add (G : Gm) (x : Str) (h : Fn) : Gm := { G with fn := fun y => if y = x then some h else G.fn y }
theorem Good.add {x : Str} (g : Good G lv s) (hm : s.mg x = some (.ref f)) (hk : PySem.W.keepIn s.K (.ref f) = true) (F : FnG s.P s.w s.K s.mg s.base k f fd ps (spD G.T ps.length h)) (hb : Binds s.K fd ps []) (hl : k ≤ lv) (hn : ∀ ds m, ds.length ≠ ps.length → h ds m = .no) : Good (G.add x h) lv s :=
  { gk := ⟨g.gk.eK, g.gk.isi, g.gk.cls, g.gk.fl⟩
    fn := fun y e q => by
      have q : (if y = x then some h else G.fn y) = some e := q
      by_cases e1 : y = x
      · rw [if_pos e1] at q
        cases q
        exact ⟨f, fd, ps, k, by rw [e1]; exact hm, hk, F, hb, hl, hn⟩
      · rw [if_neg e1] at q
        exact g.fn y e q
    me := g.me, pr := g.pr, cs := g.cs, op := g.op, cm := g.cm, ca := g.ca, rp := g.rp, bl := g.bl, cl := g.cl, cx := g.cx, fx := g.fx }
end
section
variable {P : Program} {w : World} {K : PySem.W.Frag} {mg : Str → Option Value} {base : Heap} {G : Gm} {lv : Nat} {tp : Tp}
/-- a def is added to the table -/
theorem Good.def {x qual : Str} {st : Stmt} {f : Addr} {fd : FuncData} {N ps : List Str} {n : Nat} {body : List C} (g : Good G lv ⟨P, w, K, mg, base⟩) (F : Fun K x qual st f fd) (S : FnScope N ps (defScope st)) (hcls : TpOk tp G lv) (ht : trCs tp N n (defScope st) (defBody st) = some body)
    (hpn : ps.length ≤ N.length) (hm : mg x = some (.ref f)) (hb : Binds K fd ps []) : Good (G.add x (runF G ps.length N.length body)) (lv + 1) ⟨P, w, K, mg, base⟩ :=
  (g.up (Nat.le_succ lv)).add hm F.kp (fnD F S g hcls ht hpn) hb (Nat.le_refl _) runF_no
end
end Pm

set_option maxRecDepth 100000
set_option maxHeartbeats 400000
namespace Pm
open PySem L2
/-- THE END -/
theorem walkG {l : PySem.W.OpenLaw} {n k : Nat} {q : Program} {loose : List Str} {XP : (Str → Option Value) → Heap → Prop} {YP : World → Heap → Prop} {d : DefRec} {K : Params → PySem.W.Frag} {x : Str} (hn : l.most = some n) (hn2 : n ≤ sizeLine) (hdf : d.params.defaults = []) (hr : Room k callerA)
    (hY : ∀ (w : World) (h : Heap), YP w h → (K w.params).In h)
    (F : ∀ (w : World) (mg : Str → Option Value) (fa : Addr) (h : Heap), (K w.params).In h → h.Ns mainGlobals mg → mg d.name = some (.ref fa) →
      ∃ (fd : FuncData) (T : Tb) (g : Fn), T.K = K w.params ∧ (∀ ns : List Int, ns.length ≤ n → ∃ m, g [.frl (ns.map D.int)] [] = .ok (.bl true) m) ∧ (∀ (s : Shared) (u : Value), BindsTo s fd ⟨[u], []⟩ [(x, u)]) ∧
        ∀ base : Heap, (K w.params).In base → base.Ns mainGlobals mg → FnG l.prog w (K w.params) mg base k fa fd [x] (spD T 1 g)) : PySem.W.WalkO q loose XP YP l.row.toRowW d [] (fun f vs => PySem.call f vs) := by
  refine Att.attach_call hn hdf fun w s₀ s₁ mg mb fa o pm cd doc a vs ns A Y ho hd hcd hmg hobj hints hlen hgs => ?_
  have KX := hY w _ Y
  obtain ⟨fd, T, g, hT, hg, hb, hF⟩ := F w mg fa _ KX A.T.g hmg
  obtain ⟨m, hm⟩ := hg ns hlen
  exact lawG KX A.T.g A.T.b A.T.builtins A.T.nolimit hgs hobj hints (Nat.le_trans hlen hn2) hr hF hb fun H hS => law_spD (by rw [hT]; exact hS) hm
end Pm

set_option maxRecDepth 100000
set_option maxHeartbeats 400000
/-! == of tuples whose items may be instances with an own == -/
namespace Pm
open PySem PySem.W PySem.SeqAt
open AutoSeq1 (wpAny_loadPart')
open MeetsSeq MeetsSeq2 MeetsSeq3 SeqRoads2
section
variable {prog : Program} {w : World} {A : Around} {E : Value → Shared → Prop} {s : Shared} {K : Frag} {x C f : Addr} {ox : Obj} {od : Option Obj}
/-- None == x of an own class with an own == -/
theorem none_own {Q : Value → Shared → Prop} (hu : A.units < cLine) (X : K.In s.heap) (I : InstAt s.heap x ox C od) (hs : findIn K (.ref C) "__eq__" = some (some (.ref f))) (hf : isFn K (.ref f) = true) (hc : subIn K (.ref C) (.type "NoneType") = some false)
    (h : wpAny (model prog w) A (call (.ref f) [.ref x, .none]) (fun v s' => ∃ r, v = .bool r ∧ Q v s') E s) : wpAny (model prog w) A (richCompare .Eq .none (.ref x)) Q E s := by
  have one : wpAny (model prog w) A (tryCompare .none "__eq__" (.ref x)) (fun r t => r = none ∧ t = s) E s :=
    wpAny_tryCompare_declines (show s.TypeIs .none "NoneType" from rfl) F.slot_NoneType_eq (call_gives F.slot_NoneType_eq rfl F.entry_NoneType_eq (F.args_NoneType_eq_2 _ _) (NoneType___eq___none_ref_0 x) ⟨rfl, rfl, rfl⟩)
  have two : wpAny (model prog w) A (tryCompare (.ref x) "__eq__" .none) (fun r t => ∃ v, r = some v ∧ Q v t) E s := by
    unfold tryCompare
    refine wpAny_bind (m := callSpecialIfBound? (.ref x) (Str.ofString "__eq__") [.none]) (ifBound_K X I hs hf (wpAny_mono h (fun v t z => ?_) fun _ _ e => e))
    obtain ⟨r, rfl, q⟩ := z
    exact wpAny_pure ⟨_, rfl, q⟩
  unfold richCompare
  simp only [cmpInfo_Eq, show oneThing? .Eq .none (.ref x) = none from rfl]
  refine wpAny_holding (wpAny_bind (wpAny_cRoomFor hu ?_))
  refine wpAny_bind (wpAny_typeOf (show s.TypeIs .none "NoneType" from rfl) ?_)
  refine wpAny_bind (I.type.here ?_)
  split
  · refine wpAny_bind ((looks_subIn X hc).here ?_)
    simp only [Bool.false_eq_true, if_false, Bool.not_false, if_true]
    refine wpAny_bind (m := tryCompare .none _ (.ref x)) (wpAny_mono one (fun r t z => ?_) fun _ _ e => e)
    obtain ⟨rfl, rfl⟩ := z
    refine wpAny_bind (m := tryCompare (.ref x) _ .none) (wpAny_mono two (fun r t z => ?_) fun _ _ e => e)
    obtain ⟨v, rfl, q⟩ := z
    exact wpAny_pure q
  · rename_i q
    exact absurd (by simp) q
/-- an item compared: at first whether it is the same -/
theorem item_same {v : Value} {Q : Bool → Shared → Prop} (h : Q true s) : wpAny (model prog w) A (eqBool v v) Q E s := by
  unfold eqBool
  exact wpAny_holding (wpAny_ite_split (fun _ => wpAny_bind (wpAny_rule (wpAny_pure h))) fun hn => absurd (beq_self_eq_true v) hn)
theorem item_rc {v u : Value} {Q : Bool → Shared → Prop} (hn : (v == u) = false) (hv : ∀ a t b t', v = .float a t → u = .float b t' → False) (h : wpAny (model prog w) A (richCompare .Eq v u) (fun y t => ∃ r, y = .bool r ∧ Q r t) E s) : wpAny (model prog w) A (eqBool v u) Q E s := by
  unfold eqBool
  refine wpAny_holding (wpAny_ite_split (fun hab => by rw [hn] at hab; cases hab) fun _ => ?_)
  have go : wpAny (model prog w) A (richCompare .Eq v u >>= truthOfDropped) Q E s := wpAny_bind (wpAny_mono h (fun y t z => by
    obtain ⟨r, rfl, q⟩ := z
    exact wpAny_truthy_bool q) fun _ _ e => e)
  split
  · rename_i p q e
    injection e with e1 e2
    exact (hv _ _ _ _ e1 e2).elim
  · exact go
/-- the items of two tuples, one behind the other, up to the first two that differ -/
theorem tup_items {R : Result → Shared → Prop} (l b : Addr) (xs ys : Array Value) (n n2 : Nat) (dd dd2 : Option Addr) (sl sl2 : Array (Option Value)) (e : Nat → Bool) (J : Nat → Shared → Prop)
    (turn : ∀ i (h1 : i < xs.size) (h2 : i < ys.size) t, (∀ j, j < i → e j = true) → J i t → wpAny (model prog w) A.in1 (eqBool xs[i] ys[i]) (fun r t' => r = e i ∧ J (i + 1) t') (fun er t' => R (.error er) t') t)
    (fin : ∀ i t, J i t → R (.ok (.ret (.bool ((List.range (min xs.size ys.size)).all e && xs.size == ys.size)))) t)
    (hl1 : s.heap.get? l = some { cls := .type "tuple", dict := dd, data := .seq xs n, slots := sl }) (hb1 : s.heap.get? b = some { cls := .type "tuple", dict := dd2, data := .seq ys n2, slots := sl2 }) (h : J 0 s) :
    wpAny (model prog w) A.in1 (Builtin.«tuple.__eq__» ⟨[.ref l, .ref b], []⟩) (GQ.FinOf prog w A R) (fun er t => R (.error er) t) s := by
  have f2 := AutoSeq1.sub_tuple_tuple
  have hZ : (xs.toList.zip ys.toList).length = min xs.size ys.size := by simp
  have h0 := h
  obtain ⟨hp, g, d, tk, os⟩ := s
  wp_walk using wpAny_loadPart' hl1, wpAny_loadPart' hb1, wpAny_forIn_list _ (fun rest c t => c.1 = none ∧ ∃ i, rest = (xs.toList.zip ys.toList).drop i ∧ i ≤ min xs.size ys.size ∧ (∀ j, j < i → e j = true) ∧ J i t) _
  case turn =>
    rintro ⟨y, x⟩ rest c t ⟨hc', i, hz, hi, he, hJ⟩
    have hlt : i < (xs.toList.zip ys.toList).length := by
      rcases Nat.lt_or_ge i (xs.toList.zip ys.toList).length with q | q
      · exact q
      · rw [List.drop_of_length_le q] at hz; cases hz
    have h1 : i < xs.size := by omega
    have h2 : i < ys.size := by omega
    rw [List.drop_eq_getElem_cons hlt] at hz
    injection hz with hyx hrest
    obtain rfl : y = xs[i] := by have := congrArg Prod.fst hyx; simpa using this
    obtain rfl : x = ys[i] := by have := congrArg Prod.snd hyx; simpa using this
    refine wpAny_bind (wpAny_mono (turn i h1 h2 t he hJ) (fun r t2 q2 => ?_) fun _ _ x => x)
    obtain ⟨hr, q2⟩ := q2
    subst hr
    cases hei : e i with
    | true =>
      wp_walk
      refine ⟨rfl, i + 1, hrest, by omega, fun j hj => ?_, q2⟩
      rcases Nat.lt_succ_iff_lt_or_eq.mp hj with q | q
      · exact he j q
      · rw [q]; exact hei
    | false =>
      have hR := fin _ _ q2
      rw [show (List.range (min xs.size ys.size)).all e = false from List.all_eq_false.mpr ⟨i, List.mem_range.mpr (by omega), by rw [hei]; exact Bool.false_ne_true⟩, Bool.false_and] at hR
      wp_walk
      exact hR
  case fin =>
    rintro ⟨b1, b2⟩ t ⟨hb', i, hz, hi, he, hJ⟩
    simp only at hb'
    subst hb'
    have hge : min xs.size ys.size ≤ i := by
      rcases Nat.lt_or_ge i (xs.toList.zip ys.toList).length with q | q
      · rw [List.drop_eq_getElem_cons q] at hz; cases hz
      · omega
    have hR := fin _ _ hJ
    rw [show (List.range (min xs.size ys.size)).all e = true from List.all_eq_true.mpr fun j hj => he j (by have := List.mem_range.mp hj; omega), Bool.true_and] at hR
    wp_walk
    simpa [Builtin.Tuple.tupleCompareSizes] using hR
  case h =>
    exact ⟨rfl, 0, rfl, Nat.zero_le _, fun j hj => absurd hj (Nat.not_lt_zero _), h0⟩
theorem tup_rc {l b : Addr} {xs ys : Array Value} {Q : Value → Shared → Prop} (hu : A.units < cLine) (e : Nat → Bool) (J : Nat → Shared → Prop) (hl : s.heap.IsTuple l xs) (hb : s.heap.IsTuple b ys)
    (turn : ∀ i (h1 : i < xs.size) (h2 : i < ys.size) t, (∀ j, j < i → e j = true) → J i t → wpAny (model prog w) A.in1 (eqBool xs[i] ys[i]) (fun r t' => r = e i ∧ J (i + 1) t') E t)
    (fin : ∀ i t, J i t → Q (.bool ((List.range (min xs.size ys.size)).all e && xs.size == ys.size)) t) (h : J 0 s) : wpAny (model prog w) A (richCompare .Eq (.ref l) (.ref b)) Q E s := by
  obtain ⟨⟨cls, dd, data, sl⟩, ho, hc, n, hd⟩ := id hl
  obtain ⟨⟨cls2, dd2, data2, sl2⟩, ho2, hc2, n2, hd2⟩ := id hb
  simp only at hc hd hc2 hd2
  subst hc hd hc2 hd2
  refine wpAny_richCompare_same_room (op := .Eq) ⟨_, ho, rfl⟩ ⟨_, ho2, rfl⟩ F.slot_tuple_eq (GQ.call_here F.slot_tuple_eq ⟨_, ho, rfl⟩ F.entry_tuple_eq (F.args_tuple_eq_2 _ _) ?_) hu
  exact tup_items (R := wants (fun v t => v ≠ .notImplemented ∧ Q v t) E) l b xs ys n n2 dd dd2 sl sl2 e J turn (fun i t q => ⟨(fun z => nomatch z), fin i t q⟩) ho ho2 h
end
end Pm

set_option maxRecDepth 100000
set_option maxHeartbeats 400000
/-! Tuples of None and instances with an own ==, compared, by data -/
namespace Pm
open PySem L2
section
variable (c : Str) (p : D → D → Option Bool)
def itE : D → D → Option Bool
  | .non, .non => some true
  | .ins c1 fs, .ins c2 gs => if c1 = c ∧ c2 = c then p (.ins c1 fs) (.ins c2 gs) else none
  | .ins c1 fs, .non => if c1 = c then p (.ins c1 fs) .non else none
  | .non, .ins c1 fs => if c1 = c then p (.ins c1 fs) .non else none
  | _, _ => none
def itsE : List D → List D → Option Bool
  | [], [] => some true
  | [], _ :: _ => some false
  | _ :: _, [] => some false
  | x :: xs, y :: ys => match itE c p x y with
    | some true => itsE xs ys
    | some false => some false
    | none => none
end
mutual
/-- data that its value tells -/
def D.dt : D → Bool
  | .non => true | .bl _ => true | .int _ => true | .str _ => true
  | .lst ds => D.dts ds
  | .tup ds => D.dts ds
  | _ => false
def D.dts : List D → Bool
  | [] => true
  | d :: ds => D.dt d && D.dts ds
end
section
variable {T : Tb} {Z : Hp} {α : List Addr}
mutual
theorem Dn.inj : ∀ {v : V} {d e : D}, Dn T Z α v d → Dn T Z α v e → d.dt = true → e.dt = true → d = e
  | _, .non, e, .non, h, _, f => by cases h; rfl
  | _, .bl b, e, .bl _, h, _, f => by cases h; rfl
  | _, .int b, e, .int _, h, _, f => by cases h; rfl
  | _, .str b, e, .str _, h, _, f => by cases h; rfl
  | _, .lst ds, e, .lst z r, h, g, f => by
    cases h with
    | lst z2 r2 =>
      rw [z] at z2; cases z2
      rw [Dns.inj r r2 (by simpa [D.dt] using g) (by simpa [D.dt] using f)]
    | tup z2 r2 => rw [z] at z2; cases z2
    | _ => simp [D.dt] at f
  | _, .tup ds, e, .tup z r, h, g, f => by
    cases h with
    | tup z2 r2 =>
      rw [z] at z2; cases z2
      rw [Dns.inj r r2 (by simpa [D.dt] using g) (by simpa [D.dt] using f)]
    | lst z2 r2 => rw [z] at z2; cases z2
    | _ => simp [D.dt] at f
theorem Dns.inj : ∀ {vs : List V} {ds es : List D}, Dns T Z α vs ds → Dns T Z α vs es → D.dts ds = true → D.dts es = true → ds = es
  | _, _, _, .nil, .nil, _, _ => rfl
  | _, _, _, .cons a r, .cons b q, g, f => by
    simp only [D.dts, Bool.and_eq_true] at g f
    rw [Dn.inj a b g.1 f.1, Dns.inj r q g.2 f.2]
end
theorem Dfs.inj : ∀ {vs : List (Str × V)} {ds es : List (Str × D)}, Dfs T Z α vs ds → Dfs T Z α vs es → (∀ x ∈ ds, x.2.dt = true) → (∀ x ∈ es, x.2.dt = true) → ds = es
  | _, _, _, .nil, .nil, _, _ => rfl
  | _, _, _, .cons a r, .cons b q, g, f => by
    rw [Dn.inj a b (g _ List.mem_cons_self) (f _ List.mem_cons_self), Dfs.inj r q (fun x h => g x (List.mem_cons_of_mem _ h)) (fun x h => f x (List.mem_cons_of_mem _ h))]
end
/-- an own == whose answers are known, and that changes nothing -/
structure OwnEq (T : Tb) (s : Stc) (lv : Nat) (c : Str) (p : D → D → Option Bool) : Prop where
  ex : ∃ C f g, T.cls c = some C ∧ PySem.W.findIn s.K (.ref C) "__eq__" = some (some (.ref f)) ∧ PySem.W.isFn s.K (.ref f) = true ∧ PySem.W.subIn s.K (.ref C) (.type "NoneType") = some false ∧ PySem.W.notFirst s.K C (.ref C) = true ∧ PySem.W.notFirst s.K C (.type "NoneType") = true ∧
    Callee T s lv 2 f g ∧ ∀ a b r m, p a b = some r → g [a, b] m = .ok (.bl r) m
  same : ∀ a r, p a a = some r → r = true
  dt : ∀ c fs gs r, p (.ins c fs) (.ins c gs) = some r → (∀ x ∈ fs, x.2.dt = true) ∧ ∀ x ∈ gs, x.2.dt = true
/-- somewhere below the running body, with room -/
structure AtA (X : Cx) (n : Nat) (A : Around) : Prop where
  room : Room n A
  fr : A.frames = X.A.frames
  gd : A.guards = some []
section
variable {X : Cx} {T : Tb} {H Z : Hp} {α : List Addr} {m : Mu} {lv : Nat} {c : Str} {p : D → D → Option Bool} {A : Around} {pins : List (Addr × Obj)} {σ : L2.St} {s : Shared}
/-- what stays: the data, from one state to a later one -/
def Kept (X : Cx) (T : Tb) (pins : List (Addr × Obj)) (σ : L2.St) (H Z : Hp) (α : List Addr) (m : Mu) (s : Shared) : Prop := ∃ H' Z' α', Inv X pins σ H' s ∧ Fut H Z α H' Z' α' ∧ Rep T H' Z' α' m
theorem own_run {f : Addr} {g : Fn} {x y : V} {v u : Value} {a b : D} {r : Bool} (at_ : AtA X lv A) (cl : Callee T (stc X) lv 2 f g) (hg : g [a, b] m = .ok (.bl r) m) (I : Inv X pins σ H s) (R : Rep T H Z α m) (rx : RelV x v) (ry : RelV y u) (dx : Dn T Z α x a) (dy : Dn T Z α y b) :
    wpAny (model X.prog X.w) A (call (.ref f) [v, u]) (fun w t => w = .bool r ∧ Kept X T pins σ H Z α m t) X.xe s := by
  obtain ⟨fd, ps, k, F, hb, hk, hl⟩ := cl.ex
  have sp : spD T ps.length g [x, y] H (fun w H' => w = V.bl r ∧ ∃ Z' α', Fut H Z α H' Z' α' ∧ Rep T H' Z' α' m) E0 := ⟨hl.symm, Z, α, m, [a, b], R, .cons dx (.cons dy .nil), by
    rw [hg]
    exact fun H' Z' α' F' R' w dw => by cases dw; exact ⟨rfl, Z', α', F', R'⟩⟩
  have b2 := hb s [v, u] I.kIn (by rw [List.append_nil, hl]; rfl)
  rw [List.append_nil] at b2
  have e0 : Env0 X.prog X.w X.K X.mg X.base A X.stack s H := by
    have e := I.env0
    exact ⟨at_.fr.trans e.frames, e.mod, e.bs, e.bsz, e.funs, e.frf, e.hok, e.bare⟩
  refine wpAny_call (codeAny_mono (F.runG A X.stack s H ⟨[v, u], []⟩ [v, u] [x, y] _ E0 at_.gd (at_.room.mono hk) e0 b2 (.cons rx (.cons ry .nil)) sp) fun fin s2 z => ?_)
  match fin, z with
  | .error er, z => exact passL pins σ H s er s2 I z
  | .ok (.ret w), z =>
    obtain ⟨w', H2, I2, r2, rfl, Z', α', F', R'⟩ := I.after z
    cases r2
    exact ⟨rfl, H2, Z', α', I2, F', R'⟩
/-- two items compared -/
theorem item_ok (o : OwnEq T (stc X) lv c p) {x y : V} {v u : Value} {a b : D} {r : Bool} (at_ : AtA X lv A) (e : itE c p a b = some r) (I : Inv X pins σ H s) (R : Rep T H Z α m) (rx : RelV x v) (ry : RelV y u) (dx : Dn T Z α x a) (dy : Dn T Z α y b) :
    wpAny (model X.prog X.w) A (eqBool v u) (fun w t => w = r ∧ Kept X T pins σ H Z α m t) X.xe s := by
  have now : Kept X T pins σ H Z α m s := ⟨H, Z, α, I, .rfl', R⟩
  obtain ⟨C, f, g, hC, h1, h2, h3, h4, h5, cl, hg⟩ := o.ex
  have insAt : ∀ {q : Addr} {vs : List (Str × V)} {C' dx' : Addr}, H q = some (.ins C' dx' vs) → ∃ ox od, PySem.W.InstAt s.heap q ox C' od := fun {q vs C' dx'} h => by
    obtain ⟨mA, O, _⟩ := ins_get I.hok h
    obtain ⟨od, J, _⟩ := O.look
    exact ⟨_, od, J⟩
  obtain ⟨mm, hF⟩ := I.fr
  have nf : ∀ {v u : Value}, (∀ a t, v = .float a t → False) → ∀ a t b t', v = .float a t → u = .float b t' → False := fun h a t b t' e _ => h a t e
  cases dx with
  | non =>
    cases rx
    cases dy with
    | non =>
      cases ry
      cases e
      exact item_same ⟨rfl, now⟩
    | ins e1 e2 e3 =>
      rename_i q C' dx' c1 vs fs
      simp only [itE] at e
      split at e
      · rename_i hc
        subst hc
        rw [hC] at e1; cases e1
        cases ry
        obtain ⟨ox, od, J⟩ := insAt (R.sub _ _ e2)
        refine item_rc rfl (nf fun a t z => nomatch z) (none_own at_.room.units0 I.kIn J h1 h2 h3 ?_)
        refine wpAny_mono (own_run at_ cl (hg _ _ _ m e) I R (show RelV (.ref q) (.ref q) from rfl) (show RelV .non .none from rfl) (.ins hC e2 e3) .non) (fun w t z => ?_) fun _ _ z => z
        exact ⟨r, z.1, ⟨r, z.1, rfl, z.2⟩⟩
      · cases e
    | _ => simp only [itE] at e; cases e
  | ins e1 e2 e3 =>
    rename_i q C' dx' c1 vs fs
    cases rx
    cases dy with
    | non =>
      cases ry
      simp only [itE] at e
      split at e
      · rename_i hc
        subst hc
        rw [hC] at e1; cases e1
        obtain ⟨ox, od, J⟩ := insAt (R.sub _ _ e2)
        refine item_rc rfl (nf fun a t z => nomatch z) (PySem.W.cmp_K (op := .Eq) at_.room.units0 hF I.ok.mod.kin J (PySem.W.Looks.of_pure rfl) h5 h1 h2 ?_)
        refine wpAny_mono (own_run at_ cl (hg _ _ _ m e) I R (show RelV (.ref q) (.ref q) from rfl) (show RelV .non .none from rfl) (.ins hC e2 e3) .non) (fun w t z => ?_) fun _ _ z => z
        obtain ⟨rfl, z⟩ := z
        exact ⟨r, rfl, rfl, z⟩
      · cases e
    | ins f1 f2 f3 =>
      rename_i q2 C2 dx2 c2 vs2 gs
      cases ry
      simp only [itE] at e
      split at e
      · rename_i hc
        obtain ⟨rfl, rfl⟩ := hc
        rw [hC] at e1 f1; cases e1; cases f1
        by_cases hq : q = q2
        · subst hq
          have hv : vs = vs2 := by rw [e2] at f2; injection f2 with f2; injection f2
          subst hv
          have hd : fs = gs := Dfs.inj e3 f3 (o.dt _ _ _ _ e).1 (o.dt _ _ _ _ e).2
          subst hd
          rw [o.same _ _ e]
          exact item_same ⟨rfl, now⟩
        · obtain ⟨ox, od, J⟩ := insAt (R.sub _ _ e2)
          obtain ⟨ox2, od2, J2⟩ := insAt (R.sub _ _ f2)
          refine item_rc (by simpa using hq) (nf fun a t z => nomatch z) (PySem.W.cmp_K (op := .Eq) at_.room.units0 hF I.ok.mod.kin J J2.type h4 h1 h2 ?_)
          refine wpAny_mono (own_run at_ cl (hg _ _ _ m e) I R (show RelV (.ref q) (.ref q) from rfl) (show RelV (.ref q2) (.ref q2) from rfl) (.ins hC e2 e3) (.ins hC f2 f3)) (fun w t z => ?_) fun _ _ z => z
          obtain ⟨rfl, z⟩ := z
          exact ⟨r, rfl, rfl, z⟩
      · cases e
    | _ => simp only [itE] at e; cases e
  | _ => cases dy <;> (simp only [itE] at e; cases e)
end
end Pm

set_option maxRecDepth 100000
set_option maxHeartbeats 400000
namespace Pm
open PySem L2
/-- whether the i-th items are equal -/
def itN (c : Str) (p : D → D → Option Bool) (xs ys : List D) (i : Nat) : Bool := match xs[i]?, ys[i]? with
  | some a, some b => (itE c p a b).getD false
  | _, _ => false
theorem itN_succ {c : Str} {p : D → D → Option Bool} {x y : D} {xs ys : List D} {i : Nat} : itN c p (x :: xs) (y :: ys) (i + 1) = itN c p xs ys i := by
  unfold itN
  rw [List.getElem?_cons_succ, List.getElem?_cons_succ]
theorem itsE_at {c : Str} {p : D → D → Option Bool} : ∀ {xs ys : List D} {r : Bool}, itsE c p xs ys = some r → (∀ i a b, (∀ j, j < i → itN c p xs ys j = true) → xs[i]? = some a → ys[i]? = some b → itE c p a b = some (itN c p xs ys i)) ∧
    ((List.range (min xs.length ys.length)).all (itN c p xs ys) && xs.length == ys.length) = r
  | [], [], r, h => by cases h; exact ⟨fun i a b _ h => by simp at h, rfl⟩
  | [], y :: ys, r, h => by cases h; exact ⟨fun i a b _ h => by simp at h, by simp⟩
  | x :: xs, [], r, h => by cases h; exact ⟨fun i a b _ _ h => by simp at h, by simp⟩
  | x :: xs, y :: ys, r, h => by
    have n0 : ∀ z, itE c p x y = some z → itN c p (x :: xs) (y :: ys) 0 = z := fun z e => by
      unfold itN
      rw [List.getElem?_cons_zero, List.getElem?_cons_zero]
      simp only [e, Option.getD_some]
    have hr : ∀ n : Nat, (List.range (n + 1)).all (itN c p (x :: xs) (y :: ys)) = (itN c p (x :: xs) (y :: ys) 0 && (List.range n).all (itN c p xs ys)) := fun n => by
      rw [List.range_succ_eq_map, List.all_cons, List.all_map]
      congr 1
    have hm : min (x :: xs).length (y :: ys).length = min xs.length ys.length + 1 := by simp only [List.length_cons]; omega
    unfold itsE at h
    split at h
    · rename_i e
      obtain ⟨i1, i2⟩ := itsE_at h
      refine ⟨fun i a b hp ha hb => ?_, ?_⟩
      · cases i with
        | zero =>
          rw [List.getElem?_cons_zero] at ha hb
          cases ha; cases hb
          rw [n0 _ e]; exact e
        | succ i =>
          rw [List.getElem?_cons_succ] at ha hb
          rw [itN_succ]
          exact i1 i a b (fun j hj => by have := hp (j + 1) (by omega); rwa [itN_succ] at this) ha hb
      · rw [hm, hr, n0 _ e, Bool.true_and, List.length_cons, List.length_cons]
        rw [show (xs.length + 1 == ys.length + 1) = (xs.length == ys.length) by simp]
        exact i2
    · rename_i e
      cases h
      refine ⟨fun i a b hp ha hb => ?_, ?_⟩
      · cases i with
        | zero =>
          rw [List.getElem?_cons_zero] at ha hb
          cases ha; cases hb
          rw [n0 _ e]; exact e
        | succ i => have := hp 0 (by omega); rw [n0 _ e] at this; cases this
      · rw [hm, hr, n0 _ e, Bool.false_and, Bool.false_and]
    · cases h
section
variable {X : Cx} {T : Tb} {H Z : Hp} {α : List Addr} {m : Mu} {lv : Nat} {c : Str} {p : D → D → Option Bool} {A : Around} {pins : List (Addr × Obj)} {σ : L2.St} {s : Shared}
theorem AtA.in1 {n : Nat} (h : AtA X (n + 1) A) : AtA X n A.in1 := ⟨h.room.in1, h.fr, h.gd⟩
theorem Kept.then {s2 : Shared} {H' Z' : Hp} {α' : List Addr} (F : Fut H Z α H' Z' α') (k : Kept X T pins σ H' Z' α' m s2) : Kept X T pins σ H Z α m s2 := by
  obtain ⟨H2, Z2, α2, I, F2, R⟩ := k
  exact ⟨H2, Z2, α2, I, F.trans F2, R⟩
theorem rows_rc (o : OwnEq T (stc X) lv c p) (hK : T.K = X.K) {x y : V} {v u : Value} {xs ys : List D} {r : Bool} (at_ : AtA X (lv + 1) A) (e : itsE c p xs ys = some r) (I : Inv X pins σ H s) (R : Rep T H Z α m) (rx : RelV x v) (ry : RelV y u) (dx : Dn T Z α x (.tup xs)) (dy : Dn T Z α y (.tup ys)) :
    wpAny (model X.prog X.w) A (richCompare .Eq v u) (fun w t => w = .bool r ∧ Kept X T pins σ H Z α m t) X.xe s := by
  obtain ⟨i1, i2⟩ := itsE_at e
  cases dx with
  | tup e1 e2 =>
    rename_i a vs
    cases dy with
    | tup f1 f2 =>
      rename_i b ws
      cases rx
      cases ry
      obtain ⟨its, ra, ha, _⟩ := I.tuple (SqT.of (K := X.K) (R.sub _ _ e1))
      obtain ⟨its2, rb, hb, _⟩ := I.tuple (SqT.of (K := X.K) (R.sub _ _ f1))
      have l1 : its.toArray.size = xs.length := by rw [List.size_toArray, ← ra.length, e2.len]
      have l2 : its2.toArray.size = ys.length := by rw [List.size_toArray, ← rb.length, f2.len]
      refine tup_rc at_.room.units0 (itN c p xs ys) (fun _ t => Kept X T pins σ H Z α m t) ha hb (fun i h1 h2 t hp k => ?_) (fun i t k => ⟨?_, k⟩) ⟨H, Z, α, I, .rfl', R⟩
      · obtain ⟨H', Z', α', I', F', R'⟩ := k
        have h1' : i < its.length := by simpa using h1
        have h2' : i < its2.length := by simpa using h2
        have k1 : i < vs.length := by rw [ra.length]; exact h1'
        have k2 : i < ws.length := by rw [rb.length]; exact h2'
        obtain ⟨d, hd, dd⟩ := e2.get' (List.getElem?_eq_getElem k1)
        obtain ⟨d2, hd2, dd2⟩ := f2.get' (List.getElem?_eq_getElem k2)
        obtain ⟨w1, g1, r1⟩ := ra.get (List.getElem?_eq_getElem k1)
        obtain ⟨w2, g2, r2⟩ := rb.get (List.getElem?_eq_getElem k2)
        rw [show its.toArray[i] = w1 by rw [List.getElem?_eq_getElem h1'] at g1; simpa using g1, show its2.toArray[i] = w2 by rw [List.getElem?_eq_getElem h2'] at g2; simpa using g2]
        refine wpAny_mono (item_ok o at_.in1 (i1 i d d2 hp hd hd2) I' R' r1 r2 (dd.mono F'.le) (dd2.mono F'.le)) (fun w t2 z => ⟨z.1, z.2.then F'⟩) fun _ _ z => z
      · rw [l1, l2, i2]
theorem rows_cx {G : Gm} (o : OwnEq G.T (stc X) lv c p) (hK : G.T.K = X.K) {v u : V} {xs ys : List D} {r : Bool} {Q : VK} (hr : Room (lv + 1) X.A) (gd : X.A.guards = some []) (e : itsE c p xs ys = some r) (R : Rep G.T H Z α m) (dv : Dn G.T Z α v (.tup xs)) (du : Dn G.T Z α u (.tup ys))
    (q : ∀ H' Z' α', Fut H Z α H' Z' α' → Rep G.T H' Z' α' m → Q (.bl r) H') : oA X (compareOp .Eq) v u H Q := by
  refine ⟨fun x y H1 Q1 => x = v ∧ y = u ∧ H1 = H ∧ Q1 = Q, fun pins s σ H1 x y w1 w2 Q1 I rx ry ⟨e1, e2, e3, e4⟩ => ?_, rfl, rfl, rfl, rfl⟩
  subst e1 e2 e3 e4
  refine wpAny_mono (rows_rc o hK ⟨hr, rfl, gd⟩ e I R rx ry dv du) (fun w t z => ?_) fun _ _ z => z
  obtain ⟨rfl, H', Z', α', I', F', R'⟩ := z
  exact ⟨.bl r, H', I', rfl, q H' Z' α' F' R'⟩
end
end Pm

set_option maxRecDepth 100000
set_option maxHeartbeats 400000
/-! A new instance with keyword-only parameters -/
namespace Pm
open PySem L2
section
variable {X : Cx} {k n : Nat} {f C : Addr} {fd : FuncData} {ps ks : List Str} {sp : Sp} {E : XK} {x : Str} {p pos : Pos} {e : Expr} {es : List Expr} {kws : List Keyword} {t tk : TA} {g : List Value → List Value → List Value} {gV : List V → List V → List V}
theorem run_newK {pins : List (Addr × Obj)} {σ : L2.St} {H : Hp} {s : Shared} {Q : VK} {us ws : List Value} {vs zs : List V} (M : Mk X.K C f) (F : FnG X.prog X.w X.K X.mg X.base k f fd ps sp) (gd : X.A.guards = some []) (hr : Room (k + 1) X.A) (hb : KBn X.K fd ps (n + 1) ks g gV) (hx : Passes (L2.CX X.prog X.w) X E)
    (I : Inv X pins σ H s) (r : Vals vs us) (rz : Vals zs ws) (l1 : vs.length = n) (l2 : zs.length = ks.length)
    (h : ∀ y dx, H y = none → H dx = none → dx ≠ y → sp (gV (.ref y :: vs) zs) (upd (upd H dx (.own y)) y (.ins C dx [])) (fun v H2 => v = .non ∧ Q (.ref y) H2) E) :
    wpAny (model X.prog X.w) X.A (call (.ref C) us (ks.zip ws)) (EP X pins σ Q) X.xe s := by
  let o := s.heap.objs.size
  have q := h (o + 1) o (I.hok.fresh (Nat.le_succ _)) (I.hok.fresh (Nat.le_refl _)) (Nat.ne_of_lt (Nat.lt_succ_self _))
  have I2 := Inv.made (C := C) I
  have r1 : Vals (V.ref (o + 1) :: vs) (Value.ref (o + 1) :: us) := .cons rfl r
  have n1 : (Value.ref (o + 1) :: us).length = n + 1 := by rw [List.length_cons, ← r.length, l1]
  refine wpAny_call (make_map (f := f) I.kIn M.makes M.init (beq_iff_eq.mp M.fn) (codeAny_mono (F.runG _ X.stack _ _ ⟨Value.ref (o + 1) :: us, ks.zip ws⟩ (g (Value.ref (o + 1) :: us) ws) _ _ E (gd_make' gd) (hr.make C us (ks.zip ws))
    (I2.env0.make C us (ks.zip ws)) (hb.to _ (Value.ref (o + 1) :: us) ws I2.kIn n1 (rz.length.symm.trans l2)) (hb.rel r1 rz) q) fun fin s2 q2 => ?_))
  match fin, q2 with
  | .error er, q2 => exact hx pins σ _ _ er s2 I2 q2
  | .ok (.ret u), q2 =>
    obtain ⟨v, H2, I3, rv, rfl, q3⟩ := I2.after q2
    exact ⟨rv, ⟨V.ref (o + 1), H2, I3, rfl, q3⟩⟩
where gd_make' {A : Around} {C : Addr} {us : List Value} {kw : List (Str × Value)} (h : A.guards = some []) : (A.under (.builtin "type.__call__" ⟨.ref C :: us, kw⟩)).guards = some [] := gd_make h
/-- C(e, ..), the keyword-only ones by their defaults -/
theorem pe_newD (M : Mk X.K C f) (F : FnG X.prog X.w X.K X.mg X.base k f fd ps sp) (gd : X.A.guards = some []) (hr : Room (k + 1) X.A) (hg : Gl X x) (hm : X.mg x = some (.ref C)) (hb : KBn X.K fd ps (n + 1) [] g gV) (hx : Passes (L2.CX X.prog X.w) X E) (ha : PA X (e :: es) t)
    (hdb : (x == ("__debug__" : Str)) = false) (he : starEach (e :: es) X.env = (false, eval e X.env) :: starEach es X.env) (hpl : (backTo pos (starEach es X.env)).any (·.1) = false) :
    PE X (.Call (.Name x p) (e :: es) [] pos) (fun σ H Q => t σ H fun vs H1 => vs.length = n ∧ ∀ y dx, H1 y = none → H1 dx = none → dx ≠ y → sp (gV (.ref y :: vs) []) (upd (upd H1 dx (.own y)) y (.ins C dx [])) (fun v H2 => v = .non ∧ Q (.ref y) H2) E) :=
  ⟨fun pins s σ H Q I h => wpAny_Call_Name_kw (ld_glob I hg hm (PySem.W.callWith_K (h₀ := X.base) I.ok.mod.kin M.kp (thn (ha.run pos pins s σ H _ I h) fun us s1 ⟨vs, H1, I1, r, l, q⟩ => ⟨I1.kIn, run_newK (ks := []) (ws := []) M F gd hr hb hx I1 r .nil l rfl q⟩) he hpl) hdb)⟩
/-- C(e, .., k = v, ..) -/
theorem pe_newK (M : Mk X.K C f) (F : FnG X.prog X.w X.K X.mg X.base k f fd ps sp) (gd : X.A.guards = some []) (hr : Room (k + 1) X.A) (hg : Gl X x) (hm : X.mg x = some (.ref C)) (hb : KBn X.K fd ps (n + 1) ks g gV) (hx : Passes (L2.CX X.prog X.w) X E) (ha : PA X (e :: es) t) (hkw : PK X kws tk)
    (hall : (backToKw pos (keywordEach kws X.env)).all (·.1.isSome) = true) (hks : (backToKw pos (keywordEach kws X.env)).filterMap (·.1) = ks) (hdb : (x == ("__debug__" : Str)) = false)
    (he : starEach (e :: es) X.env = (false, eval e X.env) :: starEach es X.env) (hpl : ((backTo pos (starEach (e :: es) X.env)).any (·.1) || (backToKw pos (keywordEach kws X.env)).any (·.1.isNone)) = false) :
    PE X (.Call (.Name x p) (e :: es) kws pos) (fun σ H Q => t σ H fun vs H1 => tk σ H1 fun zs H2 => vs.length = n ∧ zs.length = ks.length ∧ ∀ y dx, H2 y = none → H2 dx = none → dx ≠ y → sp (gV (.ref y :: vs) zs) (upd (upd H2 dx (.own y)) y (.ins C dx [])) (fun v H3 => v = .non ∧ Q (.ref y) H3) E) := by
  refine ⟨fun pins s σ H Q I h => ?_⟩
  refine wpAny_Call_Name_kw (ld_glob I hg hm ?_ hdb)
  refine PySem.W.callWith_KW (h₀ := X.base) I.ok.mod.kin M.kp hall (thn (ha.run pos pins s σ H _ I h) fun us s1 ⟨vs, H1, I1, r, q⟩ => ?_) hpl he
  refine thn (hkw.run pos pins s1 σ H1 _ I1 q) fun ws s2 ⟨zs, H2, I2, rz, l1, l2, q2⟩ => ⟨I2.kIn, ?_⟩
  rw [hks]
  exact run_newK M F gd hr hb hx I2 r rz l1 l2 q2
end
end Pm

set_option maxRecDepth 100000
set_option maxHeartbeats 400000
/-! Reckoning with programs without names -/
namespace Pm
open PySem L2
section
variable {β γ : Type} {G : Gm} {m : Mu} {i j : Int} {ρ : Env}
theorem rs_ok {b : β} {k : β → Mu → Rs γ} : (Rs.ok b m).bind k = k b m := rfl
theorem opD_add : opD G .Add (.int i) (.int j) m = .ok (.int (i + j)) m := rfl
theorem opD_sub : opD G .Sub (.int i) (.int j) m = .ok (.int (i - j)) m := rfl
theorem opD_mulL (h : smallI i = true) : opD G .Mult (.int i) (.int j) m = .ok (.int (i * j)) m := by
  simp [opD, binD, binI, h]
theorem opD_mulR (h : smallI j = true) : opD G .Mult (.int i) (.int j) m = .ok (.int (i * j)) m := by
  simp [opD, binD, binI, h]
theorem opD_mod (h : 0 < j) : opD G .Mod (.int i) (.int j) m = .ok (.int (i % j)) m := by
  simp [opD, binD, binI, h]
theorem opD_fdiv (h : 0 < j) (h2 : j < 1073741824) : opD G .FloorDiv (.int i) (.int j) m = .ok (.int (i / j)) m := by
  simp [opD, binD, binI, h, h2]
theorem cmD_lt : cmD G .Lt (.int i) (.int j) m = .ok (.bl (decide (i < j))) m := rfl
theorem cmD_le : cmD G .LtE (.int i) (.int j) m = .ok (.bl (decide (i ≤ j))) m := rfl
theorem cmD_gt : cmD G .Gt (.int i) (.int j) m = .ok (.bl (decide (j < i))) m := rfl
theorem cmD_ge : cmD G .GtE (.int i) (.int j) m = .ok (.bl (decide (j ≤ i))) m := rfl
theorem eqD_py {a b : D} {x y : PyData} (h1 : a.py = some x) (h2 : b.py = some y) (s1 : SeqAt.shaped x = true) (s2 : SeqAt.shaped y = true) : eqD m a b = some (PyData.eqv x y) := by
  unfold eqD
  rw [h1, h2]
  show (if (SeqAt.shaped x && SeqAt.shaped y) = true then some (PyData.eqv x y) else none) = _
  rw [s1, s2]
  rfl
theorem cmD_eq {a b : D} {x y : PyData} (h1 : a.py = some x) (h2 : b.py = some y) (s1 : SeqAt.shaped x = true) (s2 : SeqAt.shaped y = true) : cmD G .Eq a b m = .ok (.bl (PyData.eqv x y)) m := by
  unfold cmD cmpD
  dsimp only
  rw [eqD_py h1 h2 s1 s2]
theorem cmD_ne {a b : D} {x y : PyData} (h1 : a.py = some x) (h2 : b.py = some y) (s1 : SeqAt.shaped x = true) (s2 : SeqAt.shaped y = true) : cmD G .NotEq a b m = .ok (.bl (!PyData.eqv x y)) m := by
  unfold cmD cmpD
  dsimp only
  rw [eqD_py h1 h2 s1 s2]
  rfl
theorem cmD_eqI : cmD G .Eq (.int i) (.int j) m = .ok (.bl (i == j)) m := cmD_eq (x := .int i) (y := .int j) rfl rfl rfl rfl
theorem cmD_is (d : D) : cmD G .Is d .non m = .ok (.bl d.isNon) m := by cases d <;> rfl
theorem cmD_isNot (d : D) : cmD G .IsNot d .non m = .ok (.bl (!d.isNon)) m := by cases d <;> rfl
theorem idx_own {k : Nat} {ds : List D} {d : D} (h : m[k]? = some (.lst ds)) (e : atI ds i = some d) : liftO m (idxD m (.own k) (.int i)) = .ok d m := by
  simp [idxD, lookS, look, h, e, liftO]
theorem idx_lst {ds : List D} {d : D} (e : atI ds i = some d) : liftO m (idxD m (.lst ds) (.int i)) = .ok d m := by
  simp [idxD, lookS, look, e, liftO]
theorem idx_frl {ds : List D} {d : D} (e : atI ds i = some d) : liftO m (idxD m (.frl ds) (.int i)) = .ok d m := by
  simp [idxD, lookS, look, e, liftO]
theorem idx_tup {ds : List D} {d : D} (e : atI ds i = some d) : liftO m (idxD m (.tup ds) (.int i)) = .ok d m := by
  simp [idxD, lookS, e, liftO]
theorem at0 {α : Type} {x : α} {l : List α} : atI (x :: l) 0 = some x := by
  unfold atI ixN
  rw [if_pos (by decide), if_pos (by simp only [List.length_cons]; omega)]
  rfl
theorem atN {α : Type} {l : List α} {x : α} (n : Nat) (h : l[n]? = some x) : atI l (n : Nat) = some x := by
  have hn := (List.getElem?_eq_some_iff.mp h).1
  unfold atI ixN
  rw [if_pos (by omega), if_pos (by omega)]
  simpa using h
/-- one of the first three, by a drawn place -/
theorem at3 {α : Type} {x y z : α} {l : List α} (h0 : 0 ≤ i) (h3 : i < 3) : ∃ d, atI (x :: y :: z :: l) i = some d ∧ (d = x ∨ d = y ∨ d = z) := by
  obtain rfl | rfl | rfl : i = 0 ∨ i = 1 ∨ i = 2 := by omega
  · exact ⟨x, at0, .inl rfl⟩
  · exact ⟨y, atN (l := x :: y :: z :: l) 1 rfl, .inr (.inl rfl)⟩
  · exact ⟨z, atN (l := x :: y :: z :: l) 2 rfl, .inr (.inr rfl)⟩
theorem atR {α : Type} {l : List α} (h0 : 0 ≤ i) (h : i < l.length) : ∃ d, atI l i = some d ∧ d ∈ l := by
  have hn : i.toNat < l.length := by omega
  have e := atN i.toNat (List.getElem?_eq_getElem hn)
  rw [Int.toNat_of_nonneg h0] at e
  exact ⟨l[i.toNat], e, List.getElem_mem hn⟩
theorem set_get {k : Nat} {o o' : O} (h : m[k]? = some o) : (m.set k o')[k]? = some o' := by
  rw [List.getElem?_set_self', h]
  rfl
theorem set_set {k : Nat} {o o' : O} : (m.set k o).set k o' = m.set k o' := List.set_set ..
theorem bind_bind {δ : Type} {r : Rs β} {f : β → Mu → Rs γ} {g : γ → Mu → Rs δ} : (r.bind f).bind g = r.bind fun b m => (f b m).bind g := by cases r <;> rfl
theorem evCs_app {xs ys : List C} : ∀ {ρ : Env} {m : Mu}, evCs G (xs ++ ys) ρ m = (evCs G xs ρ m).bind fun fl m => match fl with
    | .nx ρ => evCs G ys ρ m
    | fl => .ok fl m := by
  induction xs with
  | nil => intro ρ m; simp only [List.nil_append, evCs, rs_ok]
  | cons c cs ih =>
    intro ρ m
    simp only [List.cons_append, evCs, bind_bind]
    congr 1
    funext fl m
    cases fl with
    | nx ρ => exact ih
    | _ => rfl
theorem evCs_cut (n : Nat) {xs : List C} {ρ : Env} {m : Mu} : evCs G xs ρ m = (evCs G (xs.take n) ρ m).bind fun fl m => match fl with
    | .nx ρ => evCs G (xs.drop n) ρ m
    | fl => .ok fl m := by
  rw [← evCs_app, List.take_append_drop]
/-- a loop whose turns all go on -/
theorem forL_inv {w : Wt} {f : D → Env → Mu → Rs Fl} (P : Nat → Env → Mu → Prop) : ∀ (ds : List D) (n : Nat) {ρ : Env} {m : Mu}, (∀ n ρ m, P n ρ m → okW w m = true) → (∀ (j : Nat) (d : D) ρ m, ds[j]? = some d → P (n + j) ρ m → ∃ ρ' m', (f d ρ m = .ok (.nx ρ') m' ∨ f d ρ m = .ok (.ct ρ') m') ∧ P (n + j + 1) ρ' m') → P n ρ m → ∃ ρ' m', forL w f ds ρ m = .ok (.nx ρ') m' ∧ P (n + ds.length) ρ' m'
  | [], n, ρ, m, _, _, h => ⟨ρ, m, by unfold forL; rfl, h⟩
  | d :: ds, n, ρ, m, hw, hf, h => by
    obtain ⟨ρ1, m1, e, h1⟩ := hf 0 d ρ m rfl h
    obtain ⟨ρ2, m2, e2, h2⟩ := forL_inv P ds (n + 1) (ρ := ρ1) (m := m1) hw (fun j d ρ m hj hp => by
      have := hf (j + 1) d ρ m (by simpa using hj) (by rw [show n + (j + 1) = n + 1 + j by omega]; exact hp)
      rw [show n + (j + 1) + 1 = n + 1 + j + 1 by omega] at this
      exact this) h1
    refine ⟨ρ2, m2, ?_, by rw [List.length_cons, show n + (ds.length + 1) = n + 1 + ds.length by omega]; exact h2⟩
    unfold forL
    have ok := hw _ _ _ h1
    rcases e with e | e <;> (rw [e, rs_ok]; dsimp only; rw [if_pos ok]; exact e2)
/-- a comprehension whose elements leave the store as it wants -/
theorem lcL_inv {w : Wt} {f : D → Mu → Rs (Option D)} (P : Nat → List D → Mu → Prop) : ∀ (ds : List D) (n : Nat) {acc : List D} {m : Mu}, (∀ n acc m, P n acc m → okW w m = true) → acc.length + ds.length ≤ sizeLine → (∀ (j : Nat) (d : D) acc m, ds[j]? = some d → P (n + j) acc m → ∃ o m', f d m = .ok o m' ∧ P (n + j + 1) (acc ++ o.toList) m') → P n acc m →
    ∃ xs m', lcL w f ds acc m = .ok xs m' ∧ P (n + ds.length) xs m'
  | [], n, acc, m, _, _, _, h => ⟨acc, m, by unfold lcL; rfl, h⟩
  | d :: ds, n, acc, m, hw, hz, hf, h => by
    obtain ⟨o, m1, e, h1⟩ := hf 0 d acc m rfl h
    have hz' : (acc ++ o.toList).length + ds.length ≤ sizeLine := by
      rw [List.length_append]
      have : o.toList.length ≤ 1 := by cases o <;> simp
      rw [List.length_cons] at hz
      omega
    obtain ⟨xs, m2, e2, h2⟩ := lcL_inv P ds (n + 1) (acc := acc ++ o.toList) (m := m1) hw hz' (fun j d acc m hj hp => by
      have := hf (j + 1) d acc m (by simpa using hj) (by rw [show n + (j + 1) = n + 1 + j by omega]; exact hp)
      rw [show n + (j + 1) + 1 = n + 1 + j + 1 by omega] at this
      exact this) h1
    refine ⟨xs, m2, ?_, by rw [List.length_cons, show n + (ds.length + 1) = n + 1 + ds.length by omega]; exact h2⟩
    unfold lcL
    rw [e, rs_ok, if_pos (hw _ _ _ h1)]
    cases o with
    | none => rw [show acc ++ (none : Option D).toList = acc by simp] at e2; exact e2
    | some x =>
      show (if acc.length < sizeLine then lcL w f ds (acc ++ [x]) m1 else .no) = _
      rw [if_pos (by rw [List.length_cons] at hz; omega)]
      exact e2
/-- a comprehension that changes nothing -/
theorem lcL_pure {w : Wt} {f : D → Mu → Rs (Option D)} {φ : D → Option D} (hw : okW w m = true) : ∀ (ds : List D) {acc : List D}, acc.length + ds.length ≤ sizeLine → (∀ d ∈ ds, f d m = .ok (φ d) m) → lcL w f ds acc m = .ok (acc ++ ds.filterMap φ) m
  | [], acc, _, _ => by unfold lcL; simp
  | d :: ds, acc, hz, hf => by
    unfold lcL
    rw [hf d List.mem_cons_self, rs_ok, if_pos hw]
    rw [List.length_cons] at hz
    cases e : φ d with
    | none =>
      have := lcL_pure hw ds (acc := acc) (by omega) fun x hx => hf x (List.mem_cons_of_mem _ hx)
      rw [List.filterMap_cons, e]
      exact this
    | some x =>
      have := lcL_pure hw ds (acc := acc ++ [x]) (by rw [List.length_append]; simp only [List.length_cons, List.length_nil]; omega) fun x hx => hf x (List.mem_cons_of_mem _ hx)
      show (if acc.length < sizeLine then lcL w f ds (acc ++ [x]) m else .no) = _
      rw [if_pos (by omega), this, List.filterMap_cons, e, List.append_assoc]
      rfl
theorem evCs_one {c : C} {m : Mu} : evCs G [c] ρ m = evC G c ρ m := by
  unfold evCs
  cases h : evC G c ρ m with
  | ok fl m1 => cases fl <;> (unfold evCs; rfl)
  | ex x m1 => rfl
  | no => rfl
theorem evC_for {g : Gt} {it : It} {b : List C} {m : Mu} : evC G (.for g it b) ρ m = (evI G it ρ m).bind fun ds m => forL ds.2 (fun d ρ m => (evG G g d ρ m).bind fun ρ m => evCs G b ρ m) ds.1 ρ m := by unfold evC; rfl
theorem evE_var {i : Nat} {d : D} {m : Mu} (h : ρ[i]? = some (some d)) : evE G (.var i) ρ m = .ok d m := by
  unfold evE
  rw [h]
theorem rngD_nat {n : Nat} (h : n < 1000) : rngD [.int (n : Int)] = some ((List.range n).map fun (i : Nat) => D.int (0 + (i : Int))) := by
  have h2 : (n : Int) < 2 ^ 62 ∧ -(2 ^ 62) ≤ (n : Int) := by omega
  unfold rngD
  split
  · rename_i k e
    cases e
    rw [if_pos h2, Int.toNat_natCast]
  · rename_i e
    cases e
  · rename_i h3 h4
    exact absurd rfl (h3 _)
end
end Pm

set_option maxRecDepth 100000
set_option maxHeartbeats 400000
/-! New instances with keyword-only parameters, by what a def does to data -/
namespace Pm
open PySem L2
theorem All2.snoc {α β : Type} {R : α → β → Prop} : ∀ {as : List α} {a : α} {bs : List β}, All2 R (as ++ [a]) bs → ∃ cs c, bs = cs ++ [c] ∧ All2 R as cs ∧ R a c
  | [], a, _, .cons h .nil => ⟨[], _, rfl, .nil, h⟩
  | b :: as, a, _, .cons h r => by
    obtain ⟨cs, c, rfl, h1, h2⟩ := All2.snoc r
    exact ⟨_ :: cs, c, rfl, .cons h h1, h2⟩
theorem evEs_app {G : Gm} {ρ : Env} : ∀ {xs ys : List E} {m : Mu}, evEs G (xs ++ ys) ρ m = (evEs G xs ρ m).bind fun ds m => (evEs G ys ρ m).bind fun es m => .ok (ds ++ es) m
  | [], ys, m => by
    rw [List.nil_append, evEs, rs_ok]
    cases evEs G ys ρ m <;> rfl
  | x :: xs, ys, m => by
    rw [List.cons_append, evEs, evEs]
    simp only [bind_bind, evEs_app (xs := xs) (ys := ys), rs_ok]
    rfl
section
variable {G : Gm} {W : XK} {X : Cx} {N : List Str} {lv k n : Nat} {sc : Scope} {C a : Addr} {fd : FuncData} {ps : List Str} {gi : Fn} {t f nm : Str} {p pos kp : Pos} {es : List Expr} {ke : Expr} {irs : List E} {frz : Bool} {g : List Value → List Value → List Value}
/-- C(e, ..), what lacks by default -/
theorem se_newD {zv : List V} {zd : List D} (h : CxOk G N lv W sc X) (ok : okName f = true) (hg : isGl (sc.names.lookup f) = true) (hs : es.all noStar = true) (ha : All2 (SE G W X) es irs) (hne : es ≠ []) (h1 : G.T.cls f = some C) (h2 : X.mg f = some (.ref C)) (M : Mk X.K C a) (F : FnG X.prog X.w X.K X.mg X.base k a fd ps (spD G.T ps.length gi))
    (hb : KBn X.K fd ps (n + 1) [] g (fun vs _ => vs ++ zv)) (hz : ∀ Z α, Dns G.T Z α zv zd) (hr : Room (k + 1) X.A) (hn : ∀ ds m, ds.length ≠ ps.length → gi ds m = .no) (hx : G.xt t = some fun ds m => if ds.length = n then mkFn f frz gi (ds ++ zd) m else .no) :
    SE G W X (.Call (.Name f p) es [] pos) (.ext t irs) := fun σ H Z α ρ m Q R En q => by
  unfold evE at q
  rw [hx] at q
  dsimp only at q
  cases es with
  | nil => exact absurd rfl hne
  | cons e es =>
    have hs' := hs
    rw [List.all_cons, Bool.and_eq_true] at hs'
    refine ⟨_, pe_newD M F h.gd hr (h.glob f hg) h2 hb h.passes pa_all (glob_ok h ok).1 (star_cons hs'.1) (star_all hs'.2), ?_⟩
    refine ses_of hs ha σ H Z α ρ m _ R En (q.bind.mono fun ds m1 H1 Z1 α1 F1 R1 p1 vs dvs => ?_)
    split at p1
    · rename_i hl
      refine ⟨by rw [dvs.len]; exact hl, fun x dx hx' hd ne => ?_⟩
      exact Post.made R1 (dvs.append (hz _ _)) h1 hn p1 x dx hx' hd ne
    · exact p1.elim
/-- C(e, .., nm = v) -/
theorem se_newK (h : CxOk G N lv W sc X) (ok : okName f = true) (hg : isGl (sc.names.lookup f) = true) (hs : (es ++ [ke]).all noStar = true) (ha : All2 (SE G W X) (es ++ [ke]) irs) (hne : es ≠ []) (h1 : G.T.cls f = some C) (h2 : X.mg f = some (.ref C)) (M : Mk X.K C a) (F : FnG X.prog X.w X.K X.mg X.base k a fd ps (spD G.T ps.length gi))
    (hb : KBn X.K fd ps (n + 1) [nm] g (fun vs zs => vs ++ zs)) (hr : Room (k + 1) X.A) (hn : ∀ ds m, ds.length ≠ ps.length → gi ds m = .no) (hx : G.xt t = some fun ds m => if ds.length = n + 1 then mkFn f frz gi ds m else .no) :
    SE G W X (.Call (.Name f p) es [⟨some nm, ke, kp⟩] pos) (.ext t irs) := fun σ H Z α ρ m Q R En q => by
  unfold evE at q
  rw [hx] at q
  dsimp only at q
  obtain ⟨xs, y, rfl, ha1, hk⟩ := ha.snoc
  rw [List.all_append, Bool.and_eq_true] at hs
  cases es with
  | nil => exact absurd rfl hne
  | cons e es =>
    have hs' := hs.1
    rw [List.all_cons, Bool.and_eq_true] at hs'
    have hpl : ((backTo pos (starEach (e :: es) X.env)).any (·.1) || (backToKw pos (keywordEach [⟨some nm, ke, kp⟩] X.env)).any (·.1.isNone)) = false := by
      rw [star_all (es := e :: es) (env := X.env) (pos := pos) hs.1]
      rfl
    refine ⟨_, pe_newK (ks := [nm]) M F h.gd hr (h.glob f hg) h2 hb h.passes pa_all (pk_cons pe_all pk_nil) rfl rfl (glob_ok h ok).1 (star_cons hs'.1) hpl, ?_⟩
    rw [evEs_app] at q
    refine ses_of hs.1 ha1 σ H Z α ρ m _ R En (q.bind.bind.mono fun ds m1 H1 Z1 α1 F1 R1 p1 vs dvs => ?_)
    simp only [evEs, bind_bind, rs_ok] at p1
    refine hk σ H1 Z1 α1 ρ m1 _ R1 (En.mono F1.le) (p1.bind.mono fun d m2 H2 Z2 α2 F2 R2 p2 v dv => ?_)
    have p3 := p2.now R2
    split at p3
    · rename_i hl
      have hl' : vs.length = n := by
        rw [dvs.len]
        rw [List.length_append, List.length_cons, List.length_nil] at hl
        omega
      refine ⟨hl', rfl, fun x dx hx' hd ne => ?_⟩
      exact Post.made R2 ((dvs.mono F2.le).append (.cons dv .nil)) h1 hn p3 x dx hx' hd ne
    · exact p3.elim
end
end Pm

set_option maxRecDepth 100000
set_option maxHeartbeats 400000
/-! C.m(..) of a static method, names of the top that stand for a value -/
namespace Pm
open PySem L2
/-- a static method of a class -/
structure SMeth (K : PySem.W.Frag) (C : Addr) (m : Str) (f : Addr) : Prop where
  ga : PySem.W.specialIn K (.ref C) "__getattribute__" = some (some (.builtin "type.__getattribute__"))
  rd : PySem.W.readsIn K C (.type "type") = true
  ty : PySem.W.typeIn K (.ref C) = some (.type "type")
  at_ : ∃ p rest, PySem.W.findCls K (.ref C) (.type "type") m = some (.get (.builtin "staticmethod.__get__") (.ref p) .none (.ref C)) ∧ PySem.W.recIn K p "staticmethod" = some (.ref f :: rest)
  kp : PySem.W.keepIn K (.ref f) = true
section
variable {G : Gm} {W : XK} {X : Cx} {N : List Str} {lv k n : Nat} {sc : Scope} {C f : Addr} {fd : FuncData} {ps : List Str} {sp : Sp} {E1 : XK} {g : Fn} {t c m : Str} {p apos pos : Pos} {e : Expr} {es : List Expr} {irs : List E}
theorem pe_sm (S : SMeth X.K C m f) (F : FnG X.prog X.w X.K X.mg X.base k f fd ps sp) (gd : X.A.guards = some []) (hr : Room k X.A) (hg : Gl X c) (hm : X.mg c = some (.ref C)) (hb : Binds X.K fd ps []) (hx : Passes (L2.CX X.prog X.w) X E1)
    (hdb : (c == ("__debug__" : Str)) = false) (hs : (e :: es).all noStar = true) (hl : (e :: es).length < 30) (hp : (apos.endLine == pos.line) = true) :
    PE X (.Call (.Attribute (.Name c p) m apos) (e :: es) [] pos) (fun σ H Q => tAA X (e :: es) σ H fun vs H1 => sp vs H1 Q E1) := by
  refine ⟨fun pins s σ H Q I h => ?_⟩
  obtain ⟨pl, ht⟩ := meth_ht (o := .Name c p) (m := m) (apos := apos) (pos := pos) (env := X.env) rfl hs hl hp
  have ho : PE X (.Name c p) (tC (.ref C)) := pe_glob hg hm rfl hdb
  obtain ⟨q, rest, h1, h2⟩ := S.at_
  refine PySem.W.methodCall_KW (pl := pl) (thn (ho.run pins s σ H (fun x H1 => x = .ref C ∧ tAA X (e :: es) σ H1 fun vs H2 => sp vs H2 Q E1) I ⟨rfl, h⟩) fun u s1 ⟨x, H1, I1, rx, ex, q1⟩ => ?_) ht
  subst ex
  obtain rfl : u = Value.ref C := rx
  obtain ⟨mm, hF⟩ := I1.fr
  have hs' := hs
  rw [List.all_cons, Bool.and_eq_true] at hs'
  refine PySem.W.method_of_cls hF I1.ok.mod.kin S.ga (PySem.W.cls_sm hF I1.ok.mod.kin S.ty S.rd h1 h2 rfl ?_)
  have I2 : Inv X pins σ H1 { s1 with toks := s1.toks + 1 } := I1.tok (s1.toks + 1)
  refine PySem.W.callWith_K (first := []) (h₀ := X.base) I2.ok.mod.kin S.kp (thn (pa_all.run pos pins _ σ H1 _ I2 q1) fun us s2 ⟨ws, H2, I3, r, q2⟩ => ⟨I3.kIn, ?_⟩) (star_cons hs'.1) (star_all hs'.2)
  exact run_g F gd hr hb hx I3 r q2
theorem se_sm (h : CxOk G N lv W sc X) (ok : okName c = true) (hg : isGl (sc.names.lookup c) = true) (hs : es.all noStar = true) (ha : All2 (SE G W X) es irs) (hne : es ≠ []) (hl : es.length < 30) (hp : (apos.endLine == pos.line) = true) (hm : X.mg c = some (.ref C))
    (S : SMeth X.K C m f) (F : FnG X.prog X.w X.K X.mg X.base k f fd ps (spD G.T ps.length g)) (hr : Room k X.A) (hb : Binds X.K fd ps []) (hn : ∀ ds m, ds.length ≠ ps.length → g ds m = .no) (hx : G.xt t = some g) :
    SE G W X (.Call (.Attribute (.Name c p) m apos) es [] pos) (.ext t irs) := fun σ H Z α ρ m Q R En q => by
  unfold evE at q
  rw [hx] at q
  dsimp only at q
  cases es with
  | nil => exact absurd rfl hne
  | cons e es =>
    refine ⟨_, pe_sm S F h.gd hr (h.glob c hg) hm hb h.passes (glob_ok h ok).1 hs hl hp, ?_⟩
    exact ses_of hs ha σ H Z α ρ m _ R En (q.bind.mono fun ds m1 H1 Z1 α1 F1 R1 p1 vs dvs => spD_of R1 dvs hn p1)
/-- a name of the top -/
theorem se_top {x : Str} {v : V} {u : Value} {d : D} (h : CxOk G N lv W sc X) (ok : okName x = true) (hg : isGl (sc.names.lookup x) = true) (hm : X.mg x = some u) (r : RelV v u) (hd : ∀ Z α, Dn G.T Z α v d) (hx : G.xt t = some fun _ m => .ok d m) : SE G W X (.Name x p) (.ext t []) := fun σ H Z α ρ m Q R En q => by
  unfold evE at q
  rw [hx] at q
  unfold evEs at q
  exact ⟨_, pe_glob (h.glob _ hg) hm r (glob_ok h ok).1, q.now R v (hd _ _)⟩
end
end Pm

set_option maxRecDepth 100000
set_option maxHeartbeats 1000000
/-! Whether two values are equal with the same kinds throughout: a value is so with itself -/
namespace Pm
open PySem L2
mutual
/-- plain data -/
def D.pl : D → Bool
  | .non => true | .bl _ => true | .int _ => true | .str y => SeqAt.shaped (.str y)
  | .lst ds => D.pls ds
  | .tup ds => D.pls ds
  | _ => false
def D.pls : List D → Bool
  | [] => true
  | d :: ds => D.pl d && D.pls ds
end
mutual
def D.sz : D → Nat
  | .lst ds => D.szs ds + 1
  | .tup ds => D.szs ds + 1
  | _ => 1
def D.szs : List D → Nat
  | [] => 0
  | d :: ds => D.sz d + D.szs ds
end
theorem D.sz_pos : ∀ d : D, 1 ≤ d.sz
  | .lst ds => by unfold D.sz; omega
  | .tup ds => by unfold D.sz; omega
  | .non => by unfold D.sz; omega
  | .bl _ => by unfold D.sz; omega
  | .int _ => by unfold D.sz; omega
  | .str _ => by unfold D.sz; omega
  | .frl _ => by unfold D.sz; omega
  | .ins _ _ => by unfold D.sz; omega
  | .own _ => by unfold D.sz; omega
  | .ty _ => by unfold D.sz; omega
  | .cls _ => by unfold D.sz; omega
theorem D.szs_len : ∀ ds : List D, ds.length ≤ D.szs ds
  | [] => Nat.le_refl _
  | d :: ds => by
    unfold D.szs
    have := D.sz_pos d
    have := D.szs_len ds
    rw [List.length_cons]; omega
theorem D.szs_app : ∀ (ds es : List D), D.szs (ds ++ es) = D.szs ds + D.szs es
  | [], es => by rw [List.nil_append, show D.szs [] = 0 by simp [D.szs], Nat.zero_add]
  | d :: ds, es => by
    rw [List.cons_append, show D.szs (d :: (ds ++ es)) = d.sz + D.szs (ds ++ es) by simp [D.szs], show D.szs (d :: ds) = d.sz + D.szs ds by simp [D.szs], D.szs_app ds es]
    omega
theorem D.pls_app : ∀ (ds es : List D), D.pls (ds ++ es) = (D.pls ds && D.pls es)
  | [], es => by rw [List.nil_append, show D.pls [] = true by simp [D.pls], Bool.true_and]
  | d :: ds, es => by
    rw [List.cons_append, show D.pls (d :: (ds ++ es)) = (d.pl && D.pls (ds ++ es)) by simp [D.pls], show D.pls (d :: ds) = (d.pl && D.pls ds) by simp [D.pls], D.pls_app ds es, Bool.and_assoc]
def bAlike : List C := [(.asg (.nm 2) (.lsto [(.tup [(.var 0), (.var 1)])])),
    (.whl (.cmp .NotEq (.var 2) (.lst [])) [(.asg (.tup [(.nm 3), (.nm 4)]) (.bm (.var 2) .pop [])), (.ife (.tru (.blt .isi [(.var 4), (.tup [(.con (.ty "tuple")), (.con (.ty "list"))])])) [(.ife (.or (.cmp .NotEq (.blt .isi [(.var 3), (.con (.ty "tuple"))]) (.blt .isi [(.var 4), (.con (.ty "tuple"))])) (.cmp .NotEq (.blt .isi [(.var 3), (.con (.ty "list"))]) (.blt .isi [(.var 4), (.con (.ty "list"))]))) [(.ret (.con (.bl false)))] []), (.ife (.cmp .NotEq (.blt .len [(.var 3)]) (.blt .len [(.var 4)])) [(.ret (.con (.bl false)))] []), (.expr (.bm (.var 2) .extend [(.lzp (.var 3) (.var 4))]))] [(.ife (.or (.tru (.blt .isi [(.var 3), (.tup [(.con (.ty "tuple")), (.con (.ty "list"))])])) (.or (.cmp .NotEq (.blt .isi [(.var 3), (.con (.ty "bool"))]) (.blt .isi [(.var 4), (.con (.ty "bool"))])) (.cmp .NotEq (.var 3) (.var 4)))) [(.ret (.con (.bl false)))] [])])]),
    (.ret (.con (.bl true)))]
def D.leaf : D → Bool
  | .non => true | .bl _ => true | .int _ => true | .str y => SeqAt.shaped (.str y)
  | _ => false
def D.seqO : D → Option (List D)
  | .lst ds => some ds
  | .tup ds => some ds
  | _ => none
theorem leaf_isSeq {G : Gm} {m : Mu} {d : D} (h : d.leaf = true) : isiD G m d (.tup [.ty "tuple", .ty "list"]) = some false := by
  cases d <;> first | (simp [D.leaf] at h; done) | rfl
theorem leaf_isBool {G : Gm} {m : Mu} {d : D} (h : d.leaf = true) : ∃ b, isiD G m d (.ty "bool") = some b := by
  cases d <;> first | (simp [D.leaf] at h; done) | exact ⟨_, rfl⟩
theorem leaf_ne {G : Gm} {m : Mu} {d : D} (h : d.leaf = true) : cmD G .NotEq d d m = .ok (.bl false) m := by
  cases d <;> first | (simp [D.leaf] at h; done) | skip
  · exact (cmD_ne (x := .none) (y := .none) rfl rfl rfl rfl).trans (by simp [PyData.eqv])
  · exact (cmD_ne (x := .bool _) (y := .bool _) rfl rfl rfl rfl).trans (by simp [PyData.eqv])
  · exact (cmD_ne (x := .int _) (y := .int _) rfl rfl rfl rfl).trans (by simp [PyData.eqv])
  · exact (cmD_ne (x := .str _) (y := .str _) rfl rfl (by simpa [D.leaf] using h) (by simpa [D.leaf] using h)).trans (by simp [PyData.eqv])
theorem ne_bl {G : Gm} {m : Mu} (b : Bool) : cmD G .NotEq (.bl b) (.bl b) m = .ok (.bl false) m := leaf_ne rfl
theorem ne_int {G : Gm} {m : Mu} (b : Int) : cmD G .NotEq (.int b) (.int b) m = .ok (.bl false) m := leaf_ne rfl
theorem ne_nil {G : Gm} {m : Mu} {k : Nat} {ds : List D} (h : m[k]? = some (.lst ds)) : cmD G .NotEq (.own k) (.lst []) m = .ok (.bl (!ds.isEmpty)) m := by
  simp [cmD, cmpD, eqD, D.py, lookT, h]
/-- a pair of the same -/
def twin (d : D) : D := .tup [d, d]
theorem zip_twin : ∀ ds : List D, List.zipWith (fun x y => D.tup [x, y]) ds ds = ds.map twin
  | [] => rfl
  | d :: ds => by rw [List.zipWith_cons_cons, zip_twin ds]; rfl
def alT (G : Gm) : Pm.Env → Mu → Rs D := fun ρ m => evE G (.cmp .NotEq (.var 2) (.lst [])) ρ m
def alF (G : Gm) : Pm.Env → Mu → Rs Fl := fun ρ m => evCs G [(.asg (.tup [(.nm 3), (.nm 4)]) (.bm (.var 2) .pop [])), (.ife (.tru (.blt .isi [(.var 4), (.tup [(.con (.ty "tuple")), (.con (.ty "list"))])])) [(.ife (.or (.cmp .NotEq (.blt .isi [(.var 3), (.con (.ty "tuple"))]) (.blt .isi [(.var 4), (.con (.ty "tuple"))])) (.cmp .NotEq (.blt .isi [(.var 3), (.con (.ty "list"))]) (.blt .isi [(.var 4), (.con (.ty "list"))]))) [(.ret (.con (.bl false)))] []), (.ife (.cmp .NotEq (.blt .len [(.var 3)]) (.blt .len [(.var 4)])) [(.ret (.con (.bl false)))] []), (.expr (.bm (.var 2) .extend [(.lzp (.var 3) (.var 4))]))] [(.ife (.or (.tru (.blt .isi [(.var 3), (.tup [(.con (.ty "tuple")), (.con (.ty "list"))])])) (.or (.cmp .NotEq (.blt .isi [(.var 3), (.con (.ty "bool"))]) (.blt .isi [(.var 4), (.con (.ty "bool"))])) (.cmp .NotEq (.var 3) (.var 4)))) [(.ret (.con (.bl false)))] [])])] ρ m
theorem isi_b {G : Gm} {m : Mu} {x c : D} {b : Bool} (h : isiD G m x c = some b) : bltD G .isi [x, c] m = .ok (.bl b) m := by
  unfold bltD
  simp only [h]
theorem alT_at (G : Gm) {k : Nat} {d0 d1 : D} {x3 x4 : Option D} {m : Mu} {ds : List D} (hm : m[k]? = some (.lst ds)) : alT G [some d0, some d1, some (.own k), x3, x4] m = .ok (.bl (!ds.isEmpty)) m := by
  have z0 : (0 ≤ sizeLine) = True := by decide
  unfold alT
  simp only [evE, evEs, rs_ok, List.getElem?_cons_zero, List.getElem?_cons_succ, List.length_nil, z0, if_true, ne_nil hm]
theorem alF_at (G : Gm) {k : Nat} {d0 d1 e : D} {x3 x4 : Option D} {m : Mu} {S : List D} (hm : m[k]? = some (.lst (S ++ [twin e]))) (hp : e.pl = true) (hz : S.length + e.sz ≤ 1000000) :
    ∃ ds, D.szs ds + 1 ≤ e.sz ∧ D.pls ds = true ∧ alF G [some d0, some d1, some (.own k), x3, x4] m = .ok (.nx [some d0, some d1, some (.own k), some e, some e]) (m.set k (.lst (S ++ ds.map twin))) := by
  have z1 : (0 + 1 + 1 ≤ sizeLine) = True := by decide
  have hpop : mtD .pop (.own k) [] m = .ok (twin e) (m.set k (.lst S)) := by
    simp only [mtD, hm]
    rw [show (S ++ [twin e])[(S ++ [twin e]).length - 1]? = some (twin e) by simp, List.dropLast_concat]
  have hlk : lookT m (.own k) = some (S ++ [twin e]) := by simp [lookT, hm]
  have hs : (m.set k (.lst S))[k]? = some (.lst S) := set_get hm
  have hl2 : lookT (m.set k (.lst S)) (.own k) = some S := by simp [lookT, hs]
  by_cases hleaf : e.leaf = true
  · obtain ⟨b, hb⟩ := leaf_isBool (G := G) (m := m.set k (.lst S)) hleaf
    refine ⟨[], by have := D.sz_pos e; simp [D.szs]; omega, by simp [D.pls], ?_⟩
    unfold alF
    simp only [evCs, evC, evE, evEs, evG, evGs, rs_ok, List.getElem?_cons_zero, List.getElem?_cons_succ, hlk, hpop, twin, List.length_cons, List.length_nil, if_true, List.set_cons_succ, List.set_cons_zero, z1, isi_b (leaf_isSeq hleaf), truD, liftB, isi_b hb, ne_bl, leaf_ne hleaf, List.map_nil, List.append_nil]
  · obtain ⟨ds, hds, isT, isL, isS⟩ : ∃ ds, e.seqO = some ds ∧ (∃ b, ∀ m, isiD G m e (.ty "tuple") = some b) ∧ (∃ b, ∀ m, isiD G m e (.ty "list") = some b) ∧ (∀ m, isiD G m e (.tup [.ty "tuple", .ty "list"]) = some true) := by
      cases e <;> first | (simp [D.leaf] at hleaf; done) | (simp [D.pl] at hp; done) | exact ⟨_, rfl, ⟨_, fun _ => rfl⟩, ⟨_, fun _ => rfl⟩, fun _ => rfl⟩ | (rename_i y; exact absurd (by simpa [D.pl, D.leaf] using hp) hleaf)
    obtain ⟨bt, isT⟩ := isT
    obtain ⟨bl, isL⟩ := isL
    obtain ⟨e1, e2⟩ : D.szs ds + 1 = e.sz ∧ D.pls ds = true := by
      cases e <;> first | (simp [D.seqO] at hds; done) | skip
      · simp only [D.seqO, Option.some.injEq] at hds; subst hds; exact ⟨by simp [D.sz], by simpa [D.pl] using hp⟩
      · simp only [D.seqO, Option.some.injEq] at hds; subst hds; exact ⟨by simp [D.sz], by simpa [D.pl] using hp⟩
    have hlS : ∀ m, lookS m e = some ds := fun m => by
      cases e <;> first | (simp [D.seqO] at hds; done) | (simp only [D.seqO, Option.some.injEq] at hds; subst hds; rfl)
    have hlen : ∀ m, bltD G .len [e] m = .ok (.int ds.length) m := fun m => by
      cases e <;> first | (simp [D.seqO] at hds; done) | (simp only [D.seqO, Option.some.injEq] at hds; subst hds; rfl)
    have b1 := D.szs_len ds
    have zz : 1000000 < sizeLine := by decide
    refine ⟨ds, by omega, e2, ?_⟩
    have hext : mtD .extend (.own k) [.lst (ds.map twin)] (m.set k (.lst S)) = .ok .non (m.set k (.lst (S ++ ds.map twin))) := by
      simp only [mtD, hs, lookT, List.length_map, set_set]
      rw [if_pos (by omega)]
    have hzl : (ds.length < sizeLine) = True := by simp only [eq_iff_iff, iff_true]; omega
    have hzp : List.zipWith (fun x y => D.tup [x, y]) ds ds = ds.map twin := zip_twin ds
    unfold alF
    simp only [evCs, evC, evE, evEs, evG, evGs, rs_ok, List.getElem?_cons_zero, List.getElem?_cons_succ, hlk, hpop, show twin e = .tup [e, e] from rfl, List.length_cons, List.length_nil, if_true, List.set_cons_succ, List.set_cons_zero, z1, isi_b (isS _), isi_b (isT _), isi_b (isL _), truD, liftB, ne_bl, hlen, ne_int, hl2, hlS, hzl, true_and, if_true, hzp, hext]
theorem alike_loop (G : Gm) (k : Nat) (d0 d1 : D) : ∀ (n : Nat) (S : List D) (x3 x4 : Option D) (m : Mu), D.pls S = true → D.szs S < n → D.szs S ≤ 1000000 → m[k]? = some (.lst (S.map twin)) →
    ∃ x3' x4', whlL (alT G) (alF G) n [some d0, some d1, some (.own k), x3, x4] m = .ok (.nx [some d0, some d1, some (.own k), x3', x4']) (m.set k (.lst []))
  | 0, S, _, _, _, _, h, _, _ => by omega
  | n + 1, S, x3, x4, m, hp, hn, hz, hm => by
    rcases List.eq_nil_or_concat S with rfl | ⟨S', e, rfl⟩
    · refine ⟨x3, x4, ?_⟩
      unfold whlL
      rw [alT_at G hm, rs_ok]
      simp only [List.map_nil, List.isEmpty_nil, Bool.not_true]
      rw [show m.set k (.lst []) = m from ?_]
      obtain ⟨hk, e⟩ := List.getElem?_eq_some_iff.mp hm
      exact List.ext_getElem (by simp) fun i h1 h2 => by
        by_cases hi : k = i
        · subst hi; rw [List.getElem_set_self]; exact e.symm
        · rw [List.getElem_set_ne hi]
    · rw [List.concat_eq_append] at *
      rw [D.szs_app, show D.szs [e] = e.sz by simp [D.szs]] at hn hz
      rw [D.pls_app, Bool.and_eq_true] at hp
      have hpe : e.pl = true := by have := hp.2; simpa [D.pls] using this
      have hmm : m[k]? = some (.lst (S'.map twin ++ [twin e])) := by rw [hm, List.map_append]; rfl
      have hne : (!((S' ++ [e]).map twin).isEmpty) = true := by simp
      have b2 := D.szs_len S'
      obtain ⟨ds, h1, h2, h3⟩ := alF_at G (d0 := d0) (d1 := d1) (x3 := x3) (x4 := x4) hmm hpe (by rw [List.length_map]; omega)
      obtain ⟨x3', x4', ih⟩ := alike_loop G k d0 d1 n (S' ++ ds) (some e) (some e) (m.set k (.lst (S'.map twin ++ ds.map twin))) (by rw [D.pls_app, hp.1, h2]; rfl) (by rw [D.szs_app]; omega) (by rw [D.szs_app]; omega) (by rw [List.map_append]; exact set_get hm)
      refine ⟨x3', x4', ?_⟩
      unfold whlL
      rw [alT_at G hm, rs_ok, hne]
      simp only [h3, rs_ok]
      rw [ih, set_set]
theorem alike_refl (G : Gm) {d : D} {m : Mu} (hp : d.pl = true) (hz : d.sz ≤ 1000000) : runF G 2 5 bAlike [d, d] m = .ok (.bl true) (m ++ [.lst []]) := by
  obtain ⟨x3, x4, e⟩ := alike_loop G m.length d d fuelW [d] none none (m ++ [.lst [twin d]]) (by simp [D.pls, hp]) (by simp [D.szs, fuelW]; omega) (by simp [D.szs]; omega) (by simp)
  have z1 : (0 + 1 + 1 ≤ sizeLine) = True := by decide
  have z2 : (0 + 1 ≤ sizeLine) = True := by decide
  have hw : ∀ ρ m, evC G (bAlike.getD 1 .pas) ρ m = whlL (alT G) (alF G) fuelW ρ m := fun ρ m => by unfold bAlike; rfl
  unfold runF
  rw [if_pos (show [d, d].length = 2 from rfl), show bAlike = [bAlike.getD 0 .pas, bAlike.getD 1 .pas, bAlike.getD 2 .pas] from rfl]
  rw [evCs, show evC G (bAlike.getD 0 .pas) ([d, d].map some ++ List.replicate (5 - [d, d].length) none) m = .ok (.nx [some d, some d, some (.own m.length), none, none]) (m ++ [.lst [twin d]]) from ?_]
  · simp only [rs_ok]
    rw [show ∀ ρ mm, evCs G [bAlike.getD 1 .pas, bAlike.getD 2 .pas] ρ mm = (evC G (bAlike.getD 1 .pas) ρ mm).bind fun fl m => match fl with
      | .nx ρ => evCs G [bAlike.getD 2 .pas] ρ m
      | fl => .ok fl m from fun _ _ => by (rw [evCs]; try rfl), hw, e]
    simp only [rs_ok, bAlike, List.getD_cons_succ, List.getD_cons_zero, evCs, evC, evE]
    congr 1
    rw [List.set_append_right _ _ (Nat.le_refl _), Nat.sub_self]
    rfl
  · unfold bAlike
    simp only [List.getD_cons_zero, evC, evE, evEs, evG, rs_ok, List.map_cons, List.map_nil, List.length_cons, List.length_nil, List.cons_append, List.nil_append, List.getElem?_cons_zero, List.getElem?_cons_succ, z1, z2, if_true, Nat.zero_add, Nat.reduceAdd, Nat.reduceSub, List.replicate_succ, List.replicate_zero, List.set_cons_succ, List.set_cons_zero, twin]
end Pm

set_option maxRecDepth 100000
set_option maxHeartbeats 1000000
/-! Comprehensions that change nothing -/
namespace Pm
open PySem L2
section
variable {G : Gm} {m : Mu} {ρ : Env}
theorem evCs_nx {c : C} {cs : List C} {ρ' : Env} {m' : Mu} (h : evC G c ρ m = .ok (.nx ρ') m') : evCs G (c :: cs) ρ m = evCs G cs ρ' m' := by
  rw [evCs, h]
  rfl
theorem evCs_rt {c : C} {cs : List C} {d : D} {m' : Mu} (h : evC G c ρ m = .ok (.rt d) m') : evCs G (c :: cs) ρ m = .ok (.rt d) m' := by
  rw [evCs, h]
  rfl
/-- one turn of a comprehension -/
def lcT (G : Gm) (g : Gt) (c : Option E) (elt : E) (ρ : Env) (d : D) (m : Mu) : Rs (Option D) := (evG G g d ρ m).bind fun ρ2 m => (evT G c ρ2 m).bind fun b m =>
      if b then (evE G elt ρ2 m).bind fun x m => .ok (some x) m else .ok none m
theorem evE_lc {o : Bool} {g : Gt} {it : It} {c : Option E} {elt : E} {ws : List Nat} : evE G (.lc o g it c elt ws) ρ m = (evI G it ρ m).bind fun ds m => (lcL ds.2 (lcT G g c elt (wipeD ρ ws)) ds.1 [] m).noX.bind fun xs m => if o then .ok (.own m.length) (m ++ [.lst xs]) else .ok (.lst xs) m := by
  unfold evE
  rfl
theorem lc_pure {g : Gt} {it : It} {c : Option E} {elt : E} {ws : List Nat} {ds : List D} {w : Wt} (φ : D → Option D) (hi : evI G it ρ m = .ok (ds, w) m) (hw : okW w m = true) (hz : ds.length ≤ sizeLine) (hf : ∀ d ∈ ds, lcT G g c elt (wipeD ρ ws) d m = .ok (φ d) m) : evE G (.lc false g it c elt ws) ρ m = .ok (.lst (ds.filterMap φ)) m := by
  rw [evE_lc, hi, rs_ok, lcL_pure (φ := φ) hw ds (by simpa using hz) hf]
  rfl
theorem lc_pureO {g : Gt} {it : It} {c : Option E} {elt : E} {ws : List Nat} {ds : List D} {w : Wt} (φ : D → Option D) (hi : evI G it ρ m = .ok (ds, w) m) (hw : okW w m = true) (hz : ds.length ≤ sizeLine) (hf : ∀ d ∈ ds, lcT G g c elt (wipeD ρ ws) d m = .ok (φ d) m) : evE G (.lc true g it c elt ws) ρ m = .ok (.own m.length) (m ++ [.lst (ds.filterMap φ)]) := by
  rw [evE_lc, hi, rs_ok, lcL_pure (φ := φ) hw ds (by simpa using hz) hf]
  rfl
/-- without a test: a map -/
theorem lc_map {g : Gt} {it : It} {elt : E} {ws : List Nat} {ds : List D} {w : Wt} (φ : D → D) (hi : evI G it ρ m = .ok (ds, w) m) (hw : okW w m = true) (hz : ds.length ≤ sizeLine) (hf : ∀ d ∈ ds, (evG G g d (wipeD ρ ws) m).bind (fun ρ2 m => evE G elt ρ2 m) = .ok (φ d) m) : evE G (.lc false g it none elt ws) ρ m = .ok (.lst (ds.map φ)) m := by
  have := lc_pure (G := G) (ρ := ρ) (m := m) (g := g) (c := none) (elt := elt) (ws := ws) (fun d => some (φ d)) hi hw hz fun d hd => by
    have h := hf d hd
    unfold lcT
    cases e : evG G g d (wipeD ρ ws) m with
    | ok ρ2 m2 =>
      rw [e, rs_ok] at h
      rw [rs_ok]
      unfold evT
      rw [rs_ok]
      show (evE G elt ρ2 m2).bind _ = _
      rw [h, rs_ok]
    | ex x m2 => rw [e] at h; cases h
    | no => rw [e] at h; cases h
  rw [this]
  simp
theorem lcL_src {α : Type} {w : Wt} {f : D → Mu → Rs (Option D)} {ψ : α → D} {φ : α → Option D} (hw : okW w m = true) : ∀ (src : List α) {acc : List D}, acc.length + src.length ≤ sizeLine → (∀ a ∈ src, f (ψ a) m = .ok (φ a) m) → lcL w f (src.map ψ) acc m = .ok (acc ++ src.filterMap φ) m
  | [], acc, _, _ => by unfold lcL; simp
  | d :: ds, acc, hz, hf => by
    rw [List.map_cons]
    unfold lcL
    rw [hf d List.mem_cons_self, rs_ok, if_pos hw]
    rw [List.length_cons] at hz
    cases e : φ d with
    | none =>
      have := lcL_src hw ds (acc := acc) (by omega) fun x hx => hf x (List.mem_cons_of_mem _ hx)
      rw [List.filterMap_cons, e]
      exact this
    | some x =>
      have := lcL_src hw ds (acc := acc ++ [x]) (by rw [List.length_append]; simp only [List.length_cons, List.length_nil]; omega) fun x hx => hf x (List.mem_cons_of_mem _ hx)
      show (if acc.length < sizeLine then lcL w f (ds.map ψ) (acc ++ [x]) m else .no) = _
      rw [if_pos (by omega), this, List.filterMap_cons, e, List.append_assoc]
      rfl
theorem lc_src {α : Type} {w : Wt} {g : Gt} {it : It} {c : Option E} {elt : E} {ws : List Nat} (src : List α) (ψ : α → D) (φ : α → Option D) (hi : evI G it ρ m = .ok (src.map ψ, w) m) (hw : okW w m = true) (hz : src.length ≤ sizeLine) (hf : ∀ a ∈ src, lcT G g c elt (wipeD ρ ws) (ψ a) m = .ok (φ a) m) : evE G (.lc false g it c elt ws) ρ m = .ok (.lst (src.filterMap φ)) m := by
  rw [evE_lc, hi, rs_ok, lcL_src (φ := φ) hw src (by simpa using hz) hf]
  rfl
theorem lc_srcO {α : Type} {w : Wt} {g : Gt} {it : It} {c : Option E} {elt : E} {ws : List Nat} (src : List α) (ψ : α → D) (φ : α → Option D) (hi : evI G it ρ m = .ok (src.map ψ, w) m) (hw : okW w m = true) (hz : src.length ≤ sizeLine) (hf : ∀ a ∈ src, lcT G g c elt (wipeD ρ ws) (ψ a) m = .ok (φ a) m) : evE G (.lc true g it c elt ws) ρ m = .ok (.own m.length) (m ++ [.lst (src.filterMap φ)]) := by
  rw [evE_lc, hi, rs_ok, lcL_src (φ := φ) hw src (by simpa using hz) hf]
  rfl
theorem lc_srcM {α : Type} {w : Wt} {g : Gt} {it : It} {elt : E} {ws : List Nat} (src : List α) (ψ φ : α → D) (hi : evI G it ρ m = .ok (src.map ψ, w) m) (hw : okW w m = true) (hz : src.length ≤ sizeLine) (hf : ∀ a ∈ src, (evG G g (ψ a) (wipeD ρ ws) m).bind (fun ρ2 m => evE G elt ρ2 m) = .ok (φ a) m) : evE G (.lc false g it none elt ws) ρ m = .ok (.lst (src.map φ)) m := by
  have := lc_src (G := G) (ρ := ρ) (m := m) (g := g) (c := none) (elt := elt) (ws := ws) src ψ (fun d => some (φ d)) hi hw hz fun d hd => by
    have h := hf d hd
    unfold lcT
    cases e : evG G g (ψ d) (wipeD ρ ws) m with
    | ok ρ2 m2 =>
      rw [e, rs_ok] at h
      rw [rs_ok]
      unfold evT
      rw [rs_ok]
      show (evE G elt ρ2 m2).bind _ = _
      rw [h, rs_ok]
    | ex x m2 => rw [e] at h; cases h
    | no => rw [e] at h; cases h
  rw [this]
  simp
theorem evI_tup {e : E} {ds : List D} (h : evE G e ρ m = .ok (.tup ds) m) : evI G (.val e) ρ m = .ok (ds, []) m := by
  unfold evI
  rw [h, rs_ok]
  rfl
theorem evI_lst {e : E} {ds : List D} (h : evE G e ρ m = .ok (.lst ds) m) : evI G (.val e) ρ m = .ok (ds, []) m := by
  unfold evI
  rw [h, rs_ok]
  rfl
theorem evI_own {e : E} {k : Nat} {ds : List D} (h : evE G e ρ m = .ok (.own k) m) (hk : m[k]? = some (.lst ds)) : evI G (.val e) ρ m = .ok (ds, [(k, ds)]) m := by
  unfold evI
  rw [h, rs_ok]
  simp only [lookW, hk]
theorem evI_zip {a b : E} {xs ys : List D} (h1 : evE G a ρ m = .ok (.tup xs) m) (h2 : evE G b ρ m = .ok (.tup ys) m) : evI G (.zip a b) ρ m = .ok (List.zipWith (fun x y => .tup [x, y]) xs ys, []) m := by
  unfold evI
  rw [h1, rs_ok, h2, rs_ok]
  rfl
/-- a loop that looks for something -/
theorem forL_find {α : Type} {w : Wt} {f : D → Env → Mu → Rs Fl} {ψ : α → D} {bad : α → Bool} {d : D} (I : Env → Prop) (hw : okW w m = true) : ∀ (src : List α) {ρ : Env}, (∀ a ∈ src, ∀ ρ, I ρ → (bad a = true → f (ψ a) ρ m = .ok (.rt d) m) ∧ (bad a = false → ∃ ρ', f (ψ a) ρ m = .ok (.nx ρ') m ∧ I ρ')) → I ρ →
    (src.any bad = true → forL w f (src.map ψ) ρ m = .ok (.rt d) m) ∧ (src.any bad = false → ∃ ρ', forL w f (src.map ψ) ρ m = .ok (.nx ρ') m ∧ I ρ')
  | [], ρ, _, h => ⟨fun e => by simp at e, fun _ => ⟨ρ, by unfold forL; rfl, h⟩⟩
  | a :: src, ρ, hf, h => by
    have hb := hf a List.mem_cons_self ρ h
    rw [List.any_cons, List.map_cons]
    cases e : bad a with
    | true =>
      refine ⟨fun _ => ?_, fun q => by simp at q⟩
      unfold forL
      rw [hb.1 e]
      rfl
    | false =>
      obtain ⟨ρ', e1, h1⟩ := hb.2 e
      have ih := forL_find (bad := bad) (d := d) I hw src (ρ := ρ') (fun a ha => hf a (List.mem_cons_of_mem _ ha)) h1
      rw [Bool.false_or]
      refine ⟨fun q => ?_, fun q => ?_⟩
      · unfold forL
        rw [e1, rs_ok]
        dsimp only
        rw [if_pos hw]
        exact ih.1 q
      · obtain ⟨ρ2, e2, h2⟩ := ih.2 q
        refine ⟨ρ2, ?_, h2⟩
        unfold forL
        rw [e1, rs_ok]
        dsimp only
        rw [if_pos hw]
        exact e2
end
end Pm

set_option maxRecDepth 100000
set_option maxHeartbeats 1000000
/-! Draws, bounds and their class, whatever the table -/
namespace Pm
open PySem L2
def bBox : List C := [(.asg (.nm 2) (.bin .Add (.bin .Mult (.con (.int 6841)) (.var 1)) (.con (.int 37)))),
    (.ife (.cmp .Lt (.var 1) (.blt .len [(.var 0)])) [(.asg (.nm 2) (.idx (.var 0) (.var 1)))] [(.ife (.cmp .Gt (.blt .len [(.var 0)]) (.con (.int 0))) [(.asg (.nm 2) (.bin .Add (.var 2) (.bin .Mult (.bin .Mod (.idx (.var 0) (.bin .Mod (.var 1) (.blt .len [(.var 0)]))) (.con (.int 2147483629))) (.con (.int 69623)))))] [])]),
    (.asg (.nm 3) (.bin .Add (.bin .Mod (.bin .Add (.bin .Mult (.bin .Mod (.var 2) (.con (.int 2147483629))) (.con (.int 48271))) (.bin .Mult (.con (.int 40692)) (.var 1))) (.con (.int 2147483629))) (.con (.int 1)))),
    (.ret (.lsto [(.idx (.lst [(.con (.int 0)), (.var 2)]) (.blt .int [(.cmp .GtE (.var 2) (.bin .Pow (.con (.int 10)) (.con (.int 18))))])), (.var 3), (.con (.int 0))]))]
def bTake : List C := [(.ife (.cmp .Gt (.idx (.var 0) (.con (.int 0))) (.con (.int 0))) [(.asg (.nm 2) (.bin .Mod (.idx (.var 0) (.con (.int 0))) (.var 1))), (.asg (.sub (.var 0) (.con (.int 0))) (.bin .FloorDiv (.idx (.var 0) (.con (.int 0))) (.var 1))), (.ret (.var 2))] []),
    (.asg (.sub (.var 0) (.con (.int 2))) (.bin .Add (.idx (.var 0) (.con (.int 2))) (.con (.int 1)))),
    (.asg (.nm 3) (.bin .Mod (.bin .Mult (.bin .Add (.idx (.var 0) (.con (.int 1))) (.bin .Mult (.con (.int 104729)) (.idx (.var 0) (.con (.int 2))))) (.con (.int 69623))) (.con (.int 2147483647)))),
    (.asg (.sub (.var 0) (.con (.int 1))) (.bin .Add (.bin .Mod (.bin .Add (.bin .Mult (.var 3) (.con (.int 48271))) (.con (.int 30103))) (.con (.int 2147483629))) (.con (.int 1)))),
    (.ret (.bin .Mod (.bin .FloorDiv (.bin .Add (.bin .Mult (.var 3) (.con (.int 2147483647))) (.idx (.var 0) (.con (.int 1)))) (.con (.int 8191))) (.var 1)))]
def bPick : List C := [(.ret (.idx (.var 1) (.fn "_law_take" [(.var 0), (.blt .len [(.var 1)])])))]
def bRow : List C := [(.asg (.nm 2) (.idx (.lst [(.con .non), (.bin .Sub (.fn "_law_take" [(.var 0), (.con (.int 62))]) (.con (.int 1))), (.fn "_law_pick" [(.var 0), (.lst [(.neg (.con (.int 1))), (.con (.int 0)), (.con (.int 1)), (.con (.int 2)), (.con (.int 59)), (.con (.int 60))])])]) (.fn "_law_take" [(.var 0), (.con (.int 3))]))),
    (.asg (.nm 3) (.lsto [])),
    (.for (.nm 4) (.rng [(.var 1)]) [(.expr (.bm (.var 3) .append [(.idx (.lst [(.con .non), (.fn "_law_take" [(.var 0), (.con (.int 62))]), (.fn "_law_pick" [(.var 0), (.lst [(.con (.int 0)), (.con (.int 1)), (.con (.int 2)), (.con (.int 59)), (.con (.int 60)), (.con (.int 61))])])]) (.fn "_law_take" [(.var 0), (.con (.int 3))]))]))]),
    (.frz [3] (.ife (.and (.cmp .Is (.var 2) (.con .non)) (.cmp .Eq (.lc false (.nm 5) (.val (.var 3)) (some (.cmp .IsNot (.var 5) (.con .non))) (.var 5) [5]) (.lst []))) [(.asg (.nm 2) (.fn "_law_take" [(.var 0), (.con (.int 61))]))] [])),
    (.ret (.tup [(.var 2), (.blt .tuple [(.var 3)])]))]
def bBound : List C := [(.asg (.tup [(.nm 2), (.nm 3)]) (.var 0)),
    (.asg (.nm 4) (.bin .Add (.lc false (.tup [(.nm 5), (.nm 6)]) (.zip (.var 1) (.var 3)) (some (.cmp .IsNot (.var 6) (.con .non))) (.bin .Sub (.var 5) (.var 6)) [5, 6]) (.bin .Mult (.lst [(.var 2)]) (.blt .int [(.cmp .IsNot (.var 2) (.con .non))])))),
    (.ret (.blt .max [(.neg (.con (.int 1))), (.blt .min [(.var 4)])]))]
def bAlike2 : List C := [(.asg (.nm 2) (.lsto [(.tup [(.var 0), (.var 1)])])),
    (.whl (.cmp .NotEq (.var 2) (.lst [])) [(.asg (.tup [(.nm 3), (.nm 4)]) (.bm (.var 2) .pop [])), (.ife (.tru (.blt .isi [(.var 4), (.tup [(.con (.ty "tuple")), (.con (.ty "list"))])])) [(.ife (.or (.cmp .NotEq (.blt .isi [(.var 3), (.con (.ty "tuple"))]) (.blt .isi [(.var 4), (.con (.ty "tuple"))])) (.cmp .NotEq (.blt .isi [(.var 3), (.con (.ty "list"))]) (.blt .isi [(.var 4), (.con (.ty "list"))]))) [(.ret (.con (.bl false)))] []), (.ife (.cmp .NotEq (.blt .len [(.var 3)]) (.blt .len [(.var 4)])) [(.ret (.con (.bl false)))] []), (.expr (.bm (.var 2) .extend [(.lzp (.var 3) (.var 4))]))] [(.ife (.or (.tru (.blt .isi [(.var 3), (.tup [(.con (.ty "tuple")), (.con (.ty "list"))])])) (.or (.cmp .NotEq (.blt .isi [(.var 3), (.con (.ty "bool"))]) (.blt .isi [(.var 4), (.con (.ty "bool"))])) (.cmp .NotEq (.var 3) (.var 4)))) [(.ret (.con (.bl false)))] [])])]),
    (.ret (.con (.bl true)))]
def bRowinit : List C := [(.asg (.fld (.var 0) "_left") (.var 1)),
    (.asg (.fld (.var 0) "_lost") (.blt .tuple [(.var 2)]))]
def bRowleft : List C := [(.ret (.att (.var 0) "_left"))]
def bRowlost : List C := [(.ret (.att (.var 0) "_lost"))]
def bRowcall : List C := [(.asg (.nm 2) (.lc true (.tup [(.nm 3), (.nm 4)]) (.zip (.var 1) (.att (.var 0) "_lost")) (some (.cmp .IsNot (.var 4) (.con .non))) (.bin .Sub (.var 3) (.var 4)) [3, 4])),
    (.ife (.cmp .IsNot (.att (.var 0) "_left") (.con .non)) [(.expr (.bm (.var 2) .append [(.att (.var 0) "_left")]))] []),
    (.ret (.blt .max [(.blt .min [(.var 2)]), (.neg (.con (.int 1)))]))]
def bRoweq : List C := [(.ret (.and (.blt .isi [(.var 1), (.con (.cls "LifeRow"))]) (.and (.cmp .Eq (.att (.var 0) "_left") (.att (.var 1) "_left")) (.cmp .Eq (.att (.var 0) "_lost") (.att (.var 1) "_lost")))))]
def bRowrepr : List C := [(.ret (.jst [(.con (.str "LifeRow(")), (.fmt (.att (.var 0) "_left")), (.con (.str ", ")), (.fmt (.att (.var 0) "_lost")), (.con (.str ")"))]))]
def bRowsub : List C := [(.asg (.nm 2) (.ife (.cmp .Is (.att (.var 0) "_left") (.con .non)) (.con .non) (.blt .max [(.bin .Sub (.att (.var 0) "_left") (.var 1)), (.neg (.con (.int 1)))]))),
    (.ret (.mk "LifeRow" [(.var 2), (.lc false (.nm 3) (.val (.att (.var 0) "_lost")) none (.ife (.cmp .Is (.var 3) (.con .non)) (.con .non) (.blt .min [(.bin .Add (.var 3) (.var 1)), (.con (.int 61))])) [3])]))]
def bRowand : List C := [(.asg (.nm 2) (.fn "least_term" [(.att (.var 0) "_left"), (.att (.var 1) "_left")])),
    (.ret (.mk "LifeRow" [(.var 2), (.lc false (.tup [(.nm 3), (.nm 4)]) (.zip (.att (.var 0) "_lost") (.att (.var 1) "_lost")) none (.fn "greatest_term" [(.var 3), (.var 4)]) [3, 4])]))]
def bRowisBelow : List C := [(.ife (.and (.cmp .IsNot (.att (.var 1) "_left") (.con .non)) (.or (.cmp .Is (.att (.var 0) "_left") (.con .non)) (.cmp .Gt (.att (.var 0) "_left") (.att (.var 1) "_left")))) [(.ret (.con (.bl false)))] []),
    (.for (.tup [(.nm 2), (.nm 3)]) (.zip (.att (.var 0) "_lost") (.att (.var 1) "_lost")) [(.ife (.and (.cmp .IsNot (.var 3) (.con .non)) (.or (.cmp .Is (.var 2) (.con .non)) (.cmp .Lt (.var 2) (.var 3)))) [(.ret (.con (.bl false)))] [])]),
    (.ret (.con (.bl true)))]
def bLeastTerm : List C := [(.ife (.or (.cmp .Is (.var 0) (.con .non)) (.cmp .Is (.var 1) (.con .non))) [(.ret (.ife (.cmp .Is (.var 0) (.con .non)) (.var 1) (.var 0)))] []),
    (.ret (.blt .min [(.var 0), (.var 1)]))]
def bGreatestTerm : List C := [(.ife (.or (.cmp .Is (.var 0) (.con .non)) (.cmp .Is (.var 1) (.con .non))) [(.ret (.ife (.cmp .Is (.var 0) (.con .non)) (.var 1) (.var 0)))] []),
    (.ret (.blt .max [(.var 0), (.var 1)]))]
end Pm

set_option maxRecDepth 100000
set_option maxHeartbeats 1000000
/-! Draws and bounds -/
namespace Pm
open PySem L2
section
variable {G G0 G1 : Gm}
theorem take_ok {m : Mu} {k : Nat} {a b c n : Int} (h : m[k]? = some (.lst [.int a, .int b, .int c])) (hn : 1 ≤ n) (hn2 : n < 1073741824) : ∃ r a' b' c', runF G0 2 4 bTake [.own k, .int n] m = .ok (.int r) (m.set k (.lst [.int a', .int b', .int c'])) ∧ 0 ≤ r ∧ r < n := by
  have hn0 : 0 < n := by omega
  have i0 : ∀ {x y z : D} {mm : Mu}, mm[k]? = some (.lst [x, y, z]) → liftO mm (idxD mm (.own k) (.int 0)) = .ok x mm := fun h => idx_own h at0
  have i1 : ∀ {x y z : D} {mm : Mu}, mm[k]? = some (.lst [x, y, z]) → liftO mm (idxD mm (.own k) (.int 1)) = .ok y mm := fun h => idx_own h (atN 1 rfl)
  have i2 : ∀ {x y z : D} {mm : Mu}, mm[k]? = some (.lst [x, y, z]) → liftO mm (idxD mm (.own k) (.int 2)) = .ok z mm := fun h => idx_own h (atN 2 rfl)
  have x0 : ixN 3 0 = some 0 := rfl
  have x1 : ixN 3 1 = some 1 := rfl
  have x2 : ixN 3 2 = some 2 := rfl
  unfold runF bTake
  by_cases ha : 0 < a
  · refine ⟨a % n, a / n, b, c, ?_, Int.emod_nonneg _ (by omega), Int.emod_lt_of_pos _ hn0⟩
    simp only [evCs, evC, evE, evEs, evG, rs_ok, List.map_cons, List.map_nil, List.length_cons, List.length_nil, List.cons_append, List.nil_append, List.getElem?_cons_zero, List.getElem?_cons_succ, i0 h, cmD_gt, ha, decide_true, opD_mod hn0, opD_fdiv hn0 hn2, Nat.zero_add, Nat.reduceAdd, Nat.reduceSub, List.replicate_succ, List.replicate_zero, List.set_cons_succ, List.set_cons_zero, h, x0, if_true]
  · have hs : ∀ X, (m.set k X)[k]? = some X := fun X => set_get h
    have j0 : ∀ x y z, liftO (m.set k (.lst [x, y, z])) (idxD (m.set k (.lst [x, y, z])) (.own k) (.int 0)) = .ok x (m.set k (.lst [x, y, z])) := fun x y z => i0 (set_get h)
    have j1 : ∀ x y z, liftO (m.set k (.lst [x, y, z])) (idxD (m.set k (.lst [x, y, z])) (.own k) (.int 1)) = .ok y (m.set k (.lst [x, y, z])) := fun x y z => i1 (set_get h)
    have j2 : ∀ x y z, liftO (m.set k (.lst [x, y, z])) (idxD (m.set k (.lst [x, y, z])) (.own k) (.int 2)) = .ok z (m.set k (.lst [x, y, z])) := fun x y z => i2 (set_get h)
    simp only [evCs, evC, evE, evEs, evG, rs_ok, List.map_cons, List.map_nil, List.length_cons, List.length_nil, List.cons_append, List.nil_append, List.getElem?_cons_zero, List.getElem?_cons_succ, i0 h, i2 h, cmD_gt, ha, decide_false, opD_add, Nat.zero_add, Nat.reduceAdd, Nat.reduceSub, List.replicate_succ, List.replicate_zero, List.set_cons_succ, List.set_cons_zero, h, x0, x1, x2, if_true, hs, j0, j1, j2, opD_mulL (show smallI 104729 = true by decide), opD_mulR (show smallI 69623 = true by decide), opD_mulR (show smallI 48271 = true by decide), opD_mulR (show smallI 2147483647 = true by decide), opD_mod (show (0 : Int) < 2147483647 by decide), opD_mod (show (0 : Int) < 2147483629 by decide), opD_fdiv (show (0 : Int) < 8191 by decide) (by decide), opD_mod hn0, set_set, Bool.false_eq_true, if_false]
    exact ⟨_, _, _, _, rfl, Int.emod_nonneg _ (by omega), Int.emod_lt_of_pos _ hn0⟩
/-- the box of draws at k; what else was there stays -/
def Bx (m : Mu) (k : Nat) : Prop := ∃ a b c : Int, m[k]? = some (.lst [.int a, .int b, .int c])
structure Kp (m m' : Mu) (k : Nat) : Prop where
  len : m.length ≤ m'.length
  same : ∀ i, i < m.length → i ≠ k → m'[i]? = m[i]?
theorem Kp.rfl' {m : Mu} {k : Nat} : Kp m m k := ⟨Nat.le_refl _, fun _ _ _ => rfl⟩
theorem Kp.trans {m m' m'' : Mu} {k : Nat} (h : Kp m m' k) (h' : Kp m' m'' k) : Kp m m'' k :=
  ⟨Nat.le_trans h.len h'.len, fun i hi hk => (h'.same i (Nat.lt_of_lt_of_le hi h.len) hk).trans (h.same i hi hk)⟩
theorem Kp.set {m : Mu} {k : Nat} {o : O} : Kp m (m.set k o) k := ⟨by rw [List.length_set]; exact Nat.le_refl _, fun i hi hk => by rw [List.getElem?_set_ne (Ne.symm hk)]⟩
theorem Kp.push {m : Mu} {k : Nat} {o : O} : Kp m (m ++ [o]) k := ⟨by simp, fun i hi hk => List.getElem?_append_left hi⟩
theorem take_bx {m : Mu} {k : Nat} {n : Int} (h : Bx m k) (hn : 1 ≤ n) (hn2 : n < 1073741824) : ∃ (r : Int) (m' : Mu), runF G0 2 4 bTake [.own k, .int n] m = .ok (.int r) m' ∧ 0 ≤ r ∧ r < n ∧ Bx m' k ∧ Kp m m' k := by
  obtain ⟨a, b, c, h⟩ := h
  obtain ⟨r, a', b', c', e, h1, h2⟩ := take_ok h hn hn2
  exact ⟨r, _, e, h1, h2, ⟨a', b', c', set_get h⟩, Kp.set⟩
/-- a draw from a list -/
theorem pick_ok (hT1 : G1.fn "_law_take" = some (runF G0 2 4 bTake)) {m : Mu} {k : Nat} {ds : List D} (h : Bx m k) (h1 : 1 ≤ ds.length) (h2 : ds.length < 1073741824) : ∃ d m', runF G1 2 2 bPick [.own k, .lst ds] m = .ok d m' ∧ d ∈ ds ∧ Bx m' k ∧ Kp m m' k := by
  obtain ⟨r, m', e, p1, p2, p3, p4⟩ := take_bx (G0 := G0) (n := (ds.length : Int)) h (by omega) (by omega)
  obtain ⟨d, e1, e2⟩ := atR p1 p2
  refine ⟨d, m', ?_, e2, p3, p4⟩
  unfold runF bPick
  simp only [evCs, evC, evE, evEs, rs_ok, List.map_cons, List.map_nil, List.length_cons, List.length_nil, List.cons_append, List.nil_append, List.getElem?_cons_zero, List.getElem?_cons_succ, Nat.zero_add, Nat.reduceAdd, Nat.reduceSub, if_true, hT1, bltD, lookS, look, e, idx_lst e1]

theorem pow18 {m : Mu} : opD G .Pow (.int 10) (.int 18) m = .ok (.int 1000000000000000000) m := by rfl
/-- the end of the box, whatever the cell -/
theorem box_end {m : Mu} {c j : Int} {x : Option D} (v0 : Option D) : ∃ (a b : Int), evCs G (bBox.drop 2) [v0, some (.int j), some (.int c), x] m = .ok (.rt (.own m.length)) (m ++ [.lst [.int a, .int b, .int 0]]) := by
  unfold bBox
  by_cases hb : (1000000000000000000 : Int) ≤ c
  · simp only [List.drop_succ_cons, List.drop_zero, evCs, evC, evE, evEs, evG, rs_ok, List.getElem?_cons_zero, List.getElem?_cons_succ, List.set_cons_succ, List.set_cons_zero, opD_mod (show (0 : Int) < 2147483629 by decide), opD_mulL (show smallI 40692 = true by decide), opD_mulR (show smallI 48271 = true by decide), opD_add, pow18, cmD_ge, hb, decide_true, bltD, if_true, List.length_cons, List.length_nil, show (0 + 1 + 1 ≤ sizeLine) = True by decide, show (0 + 1 + 1 + 1 ≤ sizeLine) = True by decide, idx_lst (show atI [D.int 0, D.int c] 1 = some (D.int c) from atN (l := [D.int 0, D.int c]) 1 rfl)]
    exact ⟨_, _, rfl⟩
  · simp only [List.drop_succ_cons, List.drop_zero, evCs, evC, evE, evEs, evG, rs_ok, List.getElem?_cons_zero, List.getElem?_cons_succ, List.set_cons_succ, List.set_cons_zero, opD_mod (show (0 : Int) < 2147483629 by decide), opD_mulL (show smallI 40692 = true by decide), opD_mulR (show smallI 48271 = true by decide), opD_add, pow18, cmD_ge, hb, decide_false, bltD, if_true, Bool.false_eq_true, if_false, List.length_cons, List.length_nil, show (0 + 1 + 1 ≤ sizeLine) = True by decide, show (0 + 1 + 1 + 1 ≤ sizeLine) = True by decide, idx_lst (show atI [D.int 0, D.int c] 0 = some (D.int 0) from at0)]
    exact ⟨_, _, rfl⟩
theorem box_ok (ns : List Int) (hl : ns.length < 1073741824) {j : Int} (hj : 0 ≤ j) (m : Mu) : ∃ (a b : Int), runF G 2 4 bBox [.frl (ns.map D.int), .int j] m = .ok (.own m.length) (m ++ [.lst [.int a, .int b, .int 0]]) := by
  have key : ∃ c : Int, evCs G (bBox.take 2) [some (.frl (ns.map D.int)), some (.int j), none, none] m = .ok (.nx [some (.frl (ns.map D.int)), some (.int j), some (.int c), none]) m := by
    unfold bBox
    by_cases h1 : j < (ns.length : Int)
    · obtain ⟨d, e1, e2⟩ := atR (l := ns.map D.int) hj (by rw [List.length_map]; exact h1)
      obtain ⟨n, _, rfl⟩ := List.mem_map.mp e2
      refine ⟨n, ?_⟩
      simp only [List.take_succ_cons, List.take_zero, evCs, evC, evE, evEs, evG, rs_ok, List.getElem?_cons_zero, List.getElem?_cons_succ, List.set_cons_succ, List.set_cons_zero, opD_mulL (show smallI 6841 = true by decide), opD_add, bltD, lookS, look, List.length_map, cmD_lt, h1, decide_true, idx_frl e1]
    · by_cases h2 : (0 : Int) < (ns.length : Int)
      · obtain ⟨d, e1, e2⟩ := atR (l := ns.map D.int) (i := j % (ns.length : Int)) (Int.emod_nonneg _ (by omega)) (by rw [List.length_map]; exact Int.emod_lt_of_pos _ h2)
        obtain ⟨n, _, rfl⟩ := List.mem_map.mp e2
        refine ⟨6841 * j + 37 + n % 2147483629 * 69623, ?_⟩
        simp only [List.take_succ_cons, List.take_zero, evCs, evC, evE, evEs, evG, rs_ok, List.getElem?_cons_zero, List.getElem?_cons_succ, List.set_cons_succ, List.set_cons_zero, opD_mulL (show smallI 6841 = true by decide), opD_add, bltD, lookS, look, List.length_map, cmD_lt, h1, decide_false, cmD_gt, h2, decide_true, opD_mod h2, idx_frl e1, opD_mod (show (0 : Int) < 2147483629 by decide), opD_mulR (show smallI 69623 = true by decide)]
      · refine ⟨6841 * j + 37, ?_⟩
        simp only [List.take_succ_cons, List.take_zero, evCs, evC, evE, evEs, evG, rs_ok, List.getElem?_cons_zero, List.getElem?_cons_succ, List.set_cons_succ, List.set_cons_zero, opD_mulL (show smallI 6841 = true by decide), opD_add, bltD, lookS, look, List.length_map, cmD_lt, h1, decide_false, cmD_gt, h2]
  obtain ⟨c, key⟩ := key
  obtain ⟨a, b, e⟩ := box_end (G := G) (m := m) (c := c) (j := j) (x := none) (some (.frl (ns.map D.int)))
  refine ⟨a, b, ?_⟩
  unfold runF
  rw [if_pos (show [D.frl (ns.map D.int), D.int j].length = 2 from rfl)]
  show (evCs G bBox [some (.frl (ns.map D.int)), some (.int j), none, none] m).bind _ = _
  rw [evCs_cut 2, key]
  simp only [rs_ok, e]

/-- a term of a bound: none, or an int within -/
def Tm (lo hi : Int) (d : D) : Prop := d = .non ∨ ∃ i, d = .int i ∧ lo ≤ i ∧ i ≤ hi
theorem tm_ints {lo hi : Int} {l : List Int} {d : D} (h : d ∈ l.map D.int) (hb : ∀ i ∈ l, lo ≤ i ∧ i ≤ hi) : Tm lo hi d := by
  obtain ⟨i, hi, rfl⟩ := List.mem_map.mp h
  exact .inr ⟨i, rfl, hb i hi⟩
theorem draw_left (hT : G.fn "_law_take" = some (runF G0 2 4 bTake)) (hP : G.fn "_law_pick" = some (runF G1 2 2 bPick)) (hT1 : G1.fn "_law_take" = some (runF G0 2 4 bTake)) {ρ : Env} {m : Mu} {k : Nat} (h : Bx m k) (hρ : ρ[0]? = some (some (.own k))) : ∃ d m', evE G (.idx (.lst [(.con .non), (.bin .Sub (.fn "_law_take" [(.var 0), (.con (.int 62))]) (.con (.int 1))), (.fn "_law_pick" [(.var 0), (.lst [(.neg (.con (.int 1))), (.con (.int 0)), (.con (.int 1)), (.con (.int 2)), (.con (.int 59)), (.con (.int 60))])])]) (.fn "_law_take" [(.var 0), (.con (.int 3))])) ρ m = .ok d m' ∧ Tm (-1) 60 d ∧ Bx m' k ∧ Kp m m' k := by
  obtain ⟨r, m1, e1, p1, p2, b1, k1⟩ := take_bx (G0 := G0) (n := 62) h (by decide) (by decide)
  obtain ⟨d, m2, e2, q2, b2, k2⟩ := pick_ok hT1 (ds := [.int (-1), .int 0, .int 1, .int 2, .int 59, .int 60]) b1 (by decide) (by decide)
  obtain ⟨i, m3, e3, p3, p4, b3, k3⟩ := take_bx (G0 := G0) (n := 3) b2 (by decide) (by decide)
  obtain ⟨x, ex, hx⟩ := at3 (x := D.non) (y := D.int (r - 1)) (z := d) (l := []) p3 p4
  refine ⟨x, m3, ?_, ?_, b3, (k1.trans k2).trans k3⟩
  · simp only [evE, evEs, rs_ok, hρ, hT, hP, e1, opD_sub, List.length_cons, List.length_nil, show (0 + 1 + 1 + 1 + 1 + 1 + 1 ≤ sizeLine) = True by decide, if_true, e2, show (0 + 1 + 1 + 1 ≤ sizeLine) = True by decide, e3, idx_lst ex]
  · rcases hx with rfl | rfl | rfl
    · exact .inl rfl
    · exact .inr ⟨_, rfl, by omega, by omega⟩
    · exact tm_ints (l := [-1, 0, 1, 2, 59, 60]) q2 (by decide)
theorem draw_lost (hT : G.fn "_law_take" = some (runF G0 2 4 bTake)) (hP : G.fn "_law_pick" = some (runF G1 2 2 bPick)) (hT1 : G1.fn "_law_take" = some (runF G0 2 4 bTake)) {ρ : Env} {m : Mu} {k : Nat} (h : Bx m k) (hρ : ρ[0]? = some (some (.own k))) : ∃ d m', evE G (.idx (.lst [(.con .non), (.fn "_law_take" [(.var 0), (.con (.int 62))]), (.fn "_law_pick" [(.var 0), (.lst [(.con (.int 0)), (.con (.int 1)), (.con (.int 2)), (.con (.int 59)), (.con (.int 60)), (.con (.int 61))])])]) (.fn "_law_take" [(.var 0), (.con (.int 3))])) ρ m = .ok d m' ∧ Tm 0 61 d ∧ Bx m' k ∧ Kp m m' k := by
  obtain ⟨r, m1, e1, p1, p2, b1, k1⟩ := take_bx (G0 := G0) (n := 62) h (by decide) (by decide)
  obtain ⟨d, m2, e2, q2, b2, k2⟩ := pick_ok hT1 (ds := [.int 0, .int 1, .int 2, .int 59, .int 60, .int 61]) b1 (by decide) (by decide)
  obtain ⟨i, m3, e3, p3, p4, b3, k3⟩ := take_bx (G0 := G0) (n := 3) b2 (by decide) (by decide)
  obtain ⟨x, ex, hx⟩ := at3 (x := D.non) (y := D.int r) (z := d) (l := []) p3 p4
  refine ⟨x, m3, ?_, ?_, b3, (k1.trans k2).trans k3⟩
  · simp only [evE, evEs, rs_ok, hρ, hT, hP, e1, List.length_cons, List.length_nil, show (0 + 1 + 1 + 1 + 1 + 1 + 1 ≤ sizeLine) = True by decide, if_true, e2, show (0 + 1 + 1 + 1 ≤ sizeLine) = True by decide, e3, idx_lst ex]
  · rcases hx with rfl | rfl | rfl
    · exact .inl rfl
    · exact .inr ⟨_, rfl, by omega, by omega⟩
    · exact tm_ints (l := [0, 1, 2, 59, 60, 61]) q2 (by decide)

/-- terms as numbers that may be lacking -/
def tm : Option Int → D
  | none => .non
  | some i => .int i
def tmP : Option Int → PyData
  | none => .none
  | some i => .int i
theorem tm_py (o : Option Int) : (tm o).py = some (tmP o) := by cases o <;> rfl
theorem tms_py : ∀ l : List (Option Int), D.pys (l.map tm) = some (l.map tmP)
  | [] => rfl
  | o :: l => by
    rw [List.map_cons, List.map_cons]
    unfold D.pys
    rw [tm_py, tms_py l]
theorem tms_lay : ∀ l : List (Option Int), PyData.canLayAll0 (l.map tmP) = true
  | [] => rfl
  | o :: l => by
    rw [List.map_cons]
    unfold PyData.canLayAll0
    rw [tms_lay l]
    cases o <;> rfl
theorem tms_depth : ∀ l : List (Option Int), PyData.depthAll (l.map tmP) = 0
  | [] => rfl
  | o :: l => by
    rw [List.map_cons]
    unfold PyData.depthAll
    rw [tms_depth l]
    cases o <;> rfl
theorem lst_shaped (l : List (Option Int)) : SeqAt.shaped (.list (l.map tmP)) = true := by
  unfold SeqAt.shaped
  rw [show (PyData.list (l.map tmP)).canLay0 = PyData.canLayAll0 (l.map tmP) by simp [PyData.canLay0], tms_lay, show (PyData.list (l.map tmP)).depth = PyData.depthAll (l.map tmP) + 1 by simp [PyData.depth], tms_depth]
  rfl
theorem tup_shaped (l : List (Option Int)) : SeqAt.shaped (.tuple (l.map tmP)) = true := by
  unfold SeqAt.shaped
  rw [show (PyData.tuple (l.map tmP)).canLay0 = PyData.canLayAll0 (l.map tmP) by simp [PyData.canLay0], tms_lay, show (PyData.tuple (l.map tmP)).depth = PyData.depthAll (l.map tmP) + 1 by simp [PyData.depth], tms_depth]
  rfl
theorem tmP_eqv (a b : Option Int) : PyData.eqv (tmP a) (tmP b) = decide (a = b) := by
  cases a <;> cases b <;> simp [tmP, PyData.eqv]
  rename_i i j
  by_cases h : i = j <;> simp [h]
theorem tms_eqv : ∀ l k : List (Option Int), PyData.eqvAll (l.map tmP) (k.map tmP) = decide (l = k)
  | [], [] => by simp [PyData.eqvAll]
  | [], b :: k => by simp [PyData.eqvAll]
  | a :: l, [] => by simp [PyData.eqvAll]
  | a :: l, b :: k => by
    simp only [List.map_cons, PyData.eqvAll, tmP_eqv, tms_eqv l k]
    by_cases h : a = b <;> by_cases h2 : l = k <;> simp [h, h2]
theorem lst_py (l : List (Option Int)) : (D.lst (l.map tm)).py = some (.list (l.map tmP)) := by
  unfold D.py
  rw [tms_py]
  rfl
theorem tup_py (l : List (Option Int)) : (D.tup (l.map tm)).py = some (.tuple (l.map tmP)) := by
  unfold D.py
  rw [tms_py]
  rfl
/-- a bound as data -/
def rowD (r : Option Int × List (Option Int)) : D := .tup [tm r.1, .tup (r.2.map tm)]
def rowP (r : Option Int × List (Option Int)) : PyData := .tuple [tmP r.1, .tuple (r.2.map tmP)]
theorem row_py (r : Option Int × List (Option Int)) : (rowD r).py = some (rowP r) := by
  unfold rowD rowP D.py D.pys
  rw [tm_py]
  unfold D.pys
  rw [tup_py]
  rfl
theorem row_shaped (r : Option Int × List (Option Int)) : SeqAt.shaped (rowP r) = true := by
  obtain ⟨o, l⟩ := r
  have h1 : (PyData.tuple (l.map tmP)).canLay0 = true := by simp [PyData.canLay0, tms_lay]
  have h2 : (PyData.tuple (l.map tmP)).depth = 1 := by simp [PyData.depth, tms_depth]
  unfold SeqAt.shaped rowP
  cases o <;> simp [PyData.canLay0, PyData.canLayAll0, PyData.depth, PyData.depthAll, tmP, tms_lay, tms_depth]
theorem row_eqv (r t : Option Int × List (Option Int)) : PyData.eqv (rowP r) (rowP t) = decide (r = t) := by
  obtain ⟨o, l⟩ := r
  obtain ⟨p, k⟩ := t
  simp only [rowP, PyData.eqv, PyData.eqvAll, tmP_eqv, tms_eqv, Bool.and_true]
  by_cases h : o = p <;> by_cases h2 : l = k <;> simp [h, h2]

theorem Tm.tm {lo hi : Int} {d : D} (h : Tm lo hi d) : ∃ o, d = tm o ∧ ∀ i, o = some i → lo ≤ i ∧ i ≤ hi := by
  rcases h with rfl | ⟨i, rfl, h⟩
  · exact ⟨none, rfl, fun i e => by cases e⟩
  · exact ⟨some i, rfl, fun j e => by cases e; exact h⟩
theorem Bx.lt {m : Mu} {k : Nat} (h : Bx m k) : k < m.length := by
  obtain ⟨a, b, c, h⟩ := h
  exact (List.getElem?_eq_some_iff.mp h).1
theorem Bx.push {m : Mu} {k : Nat} {o : O} (h : Bx m k) : Bx (m ++ [o]) k := by
  have hk := h.lt
  obtain ⟨a, b, c, h⟩ := h
  exact ⟨a, b, c, by rw [List.getElem?_append_left hk]; exact h⟩
theorem Bx.put {m : Mu} {k p : Nat} {o : O} (h : Bx m k) (hp : p ≠ k) : Bx (m.set p o) k := by
  obtain ⟨a, b, c, h⟩ := h
  exact ⟨a, b, c, by rw [List.getElem?_set_ne hp]; exact h⟩
theorem Kp.put {m m' : Mu} {k p : Nat} {o : O} (h : Kp m m' k) (hp : m.length ≤ p) : Kp m (m'.set p o) k :=
  ⟨by rw [List.length_set]; exact h.len, fun i hi hk => by rw [List.getElem?_set_ne (by omega)]; exact h.same i hi hk⟩
theorem Kp.at {m m' : Mu} {k p : Nat} {o : O} (h : Kp m m' k) (hp : p ≠ k) (e : m[p]? = some o) : m'[p]? = some o := by
  rw [h.same p (List.getElem?_eq_some_iff.mp e).1 hp]
  exact e
def InL (o : Option Int) : Prop := ∀ i, o = some i → -1 ≤ i ∧ i ≤ 60
def InT (o : Option Int) : Prop := ∀ i, o = some i → 0 ≤ i ∧ i ≤ 61
structure RowOk (n : Nat) (r : Option Int × List (Option Int)) : Prop where
  len : r.2.length = n
  left : InL r.1
  lost : ∀ o ∈ r.2, InT o
  some : r.1 ≠ none ∨ ∃ o ∈ r.2, o ≠ none
/-- one draw of a loss, kept -/
def rowF (G : Gm) (ρ : Env) (m : Mu) : Rs Fl := evCs G [(.expr (.bm (.var 3) .append [(.idx (.lst [(.con .non), (.fn "_law_take" [(.var 0), (.con (.int 62))]), (.fn "_law_pick" [(.var 0), (.lst [(.con (.int 0)), (.con (.int 1)), (.con (.int 2)), (.con (.int 59)), (.con (.int 60)), (.con (.int 61))])])]) (.fn "_law_take" [(.var 0), (.con (.int 3))]))]))] ρ m
def rowG (G : Gm) (d : D) (ρ : Env) (m : Mu) : Rs Fl := (evG G (.nm 4) d ρ m).bind fun ρ m => rowF G ρ m
theorem rowF_at (hT : G.fn "_law_take" = some (runF G0 2 4 bTake)) (hP : G.fn "_law_pick" = some (runF G1 2 2 bPick)) (hT1 : G1.fn "_law_take" = some (runF G0 2 4 bTake)) {m1 : Mu} {k p : Nat} {a b c x e : Option D} {ls : List (Option Int)} (q5 : Bx m1 k) (hp : p ≠ k) (q4 : m1[p]? = some (.lst (ls.map tm))) (hl : ls.length ≤ 3) : ∃ o m2, rowF G [some (.own k), b, c, some (.own p), x, e] m1 = .ok (.nx [some (.own k), b, c, some (.own p), x, e]) (m2.set p (.lst ((ls ++ [o]).map tm))) ∧ InT o ∧ m2[p]? = some (.lst (ls.map tm)) ∧ Bx m2 k ∧ Kp m1 m2 k := by
  obtain ⟨t, m2, e2, ht, b2, k2⟩ := draw_lost hT hP hT1 (ρ := [some (.own k), b, c, some (.own p), x, e]) q5 rfl
  obtain ⟨o, rfl, ho⟩ := ht.tm
  have e3 := k2.at hp q4
  have hlk : lookT m1 (.own p) = some (ls.map tm) := by simp [lookT, q4]
  have hap : mtD .append (.own p) [tm o] m2 = .ok .non (m2.set p (.lst ((ls ++ [o]).map tm))) := by
    have zz : 3 < sizeLine := by decide
    simp only [mtD, e3, List.length_map, List.map_append, List.map_cons, List.map_nil]
    rw [if_pos (by omega)]
  refine ⟨o, m2, ?_, ho, e3, b2, k2⟩
  unfold rowF
  rw [evCs_one]
  unfold evC
  have hb : ∀ E, evE G (.bm (.var 3) .append [E]) [some (.own k), b, c, some (.own p), x, e] m1 = (evE G E [some (.own k), b, c, some (.own p), x, e] m1).bind fun d m => mtD .append (.own p) [d] m := fun E => by
    rw [evE, evE_var (G := G) (d := .own p) rfl, rs_ok, hlk]
    simp only [evEs, bind_bind, rs_ok]
  rw [hb, e2, rs_ok, hap, rs_ok]
/-- the loop of a bound's losses -/
theorem row_loop (hT : G.fn "_law_take" = some (runF G0 2 4 bTake)) (hP : G.fn "_law_pick" = some (runF G1 2 2 bPick)) (hT1 : G1.fn "_law_take" = some (runF G0 2 4 bTake)) {k p : Nat} {b c z : Option D} (hp : p ≠ k) : ∀ (ds : List D) (ls : List (Option Int)) (x : Option D) (m : Mu), ls.length + ds.length ≤ 3 → Bx m k → m[p]? = some (.lst (ls.map tm)) → (∀ o ∈ ls, InT o) → ∃ (ls' : List (Option Int)) (x' : Option D) (m' : Mu), forL [] (rowG G) ds [some (.own k), b, c, some (.own p), x, z] m = .ok (.nx [some (.own k), b, c, some (.own p), x', z]) m' ∧
    ls'.length = ls.length + ds.length ∧ (∀ o ∈ ls', InT o) ∧ m'[p]? = some (.lst (ls'.map tm)) ∧ Bx m' k ∧ (∀ i, i < m.length → i ≠ k → i ≠ p → m'[i]? = m[i]?) ∧ m.length ≤ m'.length
  | [], ls, x, m, _, h, e, hl => ⟨ls, x, m, by unfold forL; rfl, by simp, hl, e, h, fun _ _ _ _ => rfl, Nat.le_refl _⟩
  | d :: ds, ls, x, m, hn, h, e, hl => by
    rw [List.length_cons] at hn
    obtain ⟨o, m2, e1, ho, e2, b2, k2⟩ := rowF_at hT hP hT1 (a := none) (b := b) (c := c) (x := some d) (e := z) h hp e (by omega)
    have hs : (m2.set p (.lst ((ls ++ [o]).map tm)))[p]? = some (.lst ((ls ++ [o]).map tm)) := set_get e2
    obtain ⟨ls', x', m', i1, i2, i3, i4, i5, i6, i7⟩ := row_loop hT hP hT1 hp ds (ls ++ [o]) (some d) (m2.set p (.lst ((ls ++ [o]).map tm))) (by rw [List.length_append]; simp only [List.length_cons, List.length_nil]; omega) (b2.put hp) hs (fun o' h' => by
      rcases List.mem_append.mp h' with q | q
      · exact hl _ q
      · rw [List.mem_singleton] at q; subst q; exact ho)
    refine ⟨ls', x', m', ?_, by rw [i2, List.length_append, List.length_cons]; simp only [List.length_cons, List.length_nil]; omega, i3, i4, i5, fun i hi h1 h2 => ?_, ?_⟩
    · unfold forL
      rw [show rowG G d [some (.own k), b, c, some (.own p), x, z] m = rowF G [some (.own k), b, c, some (.own p), some d, z] m by
        unfold rowG evG; rfl, e1, rs_ok]
      dsimp only
      rw [if_pos (show okW [] _ = true from rfl)]
      exact i1
    · rw [i6 i (by rw [List.length_set]; exact Nat.lt_of_lt_of_le hi k2.len) h1 h2, List.getElem?_set_ne (Ne.symm h2), k2.same i hi h1]
    · rw [List.length_set] at i7; exact Nat.le_trans k2.len i7
/-- the losses, from nothing on -/
theorem row_for (hT : G.fn "_law_take" = some (runF G0 2 4 bTake)) (hP : G.fn "_law_pick" = some (runF G1 2 2 bPick)) (hT1 : G1.fn "_law_take" = some (runF G0 2 4 bTake)) {m : Mu} {k p n : Nat} (hn : n ≤ 3) {c z : Option D} (h : Bx m k) (hp : p ≠ k) (e : m[p]? = some (.lst [])) : ∃ (ls : List (Option Int)) (x : Option D) (m' : Mu), evC G (bRow.getD 2 .pas) [some (.own k), some (.int n), c, some (.own p), none, z] m = .ok (.nx [some (.own k), some (.int n), c, some (.own p), x, z]) m' ∧
    ls.length = n ∧ (∀ o ∈ ls, InT o) ∧ m'[p]? = some (.lst (ls.map tm)) ∧ Bx m' k ∧ (∀ i, i < m.length → i ≠ k → i ≠ p → m'[i]? = m[i]?) ∧ m.length ≤ m'.length := by
  obtain ⟨ls, x, m', h1, h2, h3, h4, h5, h6, h7⟩ := row_loop hT hP hT1 (b := some (.int n)) (c := c) (z := z) hp ((List.range n).map fun (i : Nat) => D.int (0 + (i : Int))) [] none m (by simp; omega) h e (fun o ho => absurd ho List.not_mem_nil)
  refine ⟨ls, x, m', ?_, by rw [h2]; simp, h3, h4, h5, h6, h7⟩
  have hb : bRow.getD 2 .pas = .for (.nm 4) (.rng [(.var 1)]) [(.expr (.bm (.var 3) .append [(.idx (.lst [(.con .non), (.fn "_law_take" [(.var 0), (.con (.int 62))]), (.fn "_law_pick" [(.var 0), (.lst [(.con (.int 0)), (.con (.int 1)), (.con (.int 2)), (.con (.int 59)), (.con (.int 60)), (.con (.int 61))])])]) (.fn "_law_take" [(.var 0), (.con (.int 3))]))]))] := rfl
  rw [hb, evC_for]
  have hi : ∀ mm, evI G (.rng [(.var 1)]) [some (.own k), some (.int n), c, some (.own p), none, z] mm = .ok ((List.range n).map fun (i : Nat) => D.int (0 + (i : Int)), []) mm := fun mm => by
    unfold evI
    rw [evEs, evE_var (d := .int n) rfl, rs_ok, evEs, rs_ok, rs_ok, rngD_nat (by omega)]
  rw [hi, rs_ok]
  exact h1


section
variable {m : Mu} {ρ : Env}
theorem tm_isNon (o : Option Int) : (tm o).isNon = o.isNone := by cases o <;> rfl
theorem eq_nil (ls : List (Option Int)) : cmD G .Eq (.lst (ls.map tm)) (.lst []) m = .ok (.bl ls.isEmpty) m := by
  rw [cmD_eq (G := G) (m := m) (b := .lst []) (y := .list []) (lst_py ls) rfl (lst_shaped ls) rfl, show PyData.eqv (.list (ls.map tmP)) (.list []) = PyData.eqvAll (ls.map tmP) (([] : List (Option Int)).map tmP) by simp [PyData.eqv], tms_eqv]
  cases ls <;> simp
theorem filt : ∀ ls : List (Option Int), (ls.map tm).filterMap (fun d => if d.isNon then none else some d) = (ls.filter Option.isSome).map tm
  | [] => rfl
  | none :: ls => by
    rw [List.map_cons, List.filterMap_cons, List.filter_cons]
    exact filt ls
  | some x :: ls => by
    rw [List.map_cons, List.filterMap_cons, List.filter_cons]
    show tm (some x) :: _ = tm (some x) :: _
    rw [filt ls]
theorem three : 3 < sizeLine := by decide
/-- the terms that are there, compared with none -/
theorem noneIn {i j : Nat} {S : D} {ls : List (Option Int)} (hS : S = .lst (ls.map tm) ∨ S = .tup (ls.map tm)) (hj : ρ[j]? = some (some S)) (hi : i < ρ.length) (hn : ls.length ≤ sizeLine) : evE G (.cmp .Eq (.lc false (.nm i) (.val (.var j)) (some (.cmp .IsNot (.var i) (.con .non))) (.var i) [i]) (.lst [])) ρ m = .ok (.bl (ls.filter Option.isSome).isEmpty) m := by
  have z0 : (0 ≤ sizeLine) = True := by decide
  have hI : evI G (.val (.var j)) ρ m = .ok (ls.map tm, []) m := by
    rcases hS with rfl | rfl
    · exact evI_lst (evE_var hj)
    · exact evI_tup (evE_var hj)
  have e : evE G (.lc false (.nm i) (.val (.var j)) (some (.cmp .IsNot (.var i) (.con .non))) (.var i) [i]) ρ m = .ok (.lst ((ls.map tm).filterMap fun d => if d.isNon then none else some d)) m := lc_pure _ hI rfl (by simpa using hn) fun d hd => by
    have hg : ((wipeD ρ [i]).set i (some d))[i]? = some (some d) := by
      rw [List.getElem?_set_self (by simp [wipeD, hi])]
    unfold lcT
    rw [evG, rs_ok, evT, evE, evE_var hg, rs_ok, evE, rs_ok, cmD_isNot, rs_ok]
    cases d.isNon with
    | true => rfl
    | false =>
      simp only [Bool.not_false, rs_ok, if_true, evE_var hg, Bool.false_eq_true, if_false]
  have h2 := filt ls
  rw [evE, e, rs_ok, evE, evEs, rs_ok]
  simp only [List.length_nil, z0, if_true, rs_ok, h2, eq_nil]
end
theorem allNone_iff (ls : List (Option Int)) : (ls.filter Option.isSome).isEmpty = true ↔ ∀ o ∈ ls, o = none := by
  rw [List.isEmpty_iff, List.filter_eq_nil_iff]
  constructor
  · intro h o ho; have := h o ho; cases o <;> simp_all
  · intro h o ho; rw [h o ho]; simp
/-- what stays -/
structure Kq (m m' : Mu) (k : Nat) : Prop where
  len : m.length ≤ m'.length
  same : ∀ i, i < m.length → i ≠ k → m'[i]? = m[i]?
theorem rw_s0 {m m1 : Mu} {k n : Nat} {l : Option Int} (e1 : evE G (.idx (.lst [(.con .non), (.bin .Sub (.fn "_law_take" [(.var 0), (.con (.int 62))]) (.con (.int 1))), (.fn "_law_pick" [(.var 0), (.lst [(.neg (.con (.int 1))), (.con (.int 0)), (.con (.int 1)), (.con (.int 2)), (.con (.int 59)), (.con (.int 60))])])]) (.fn "_law_take" [(.var 0), (.con (.int 3))])) [some (.own k), some (.int n), none, none, none, none] m = .ok (tm l) m1) : evC G (bRow.getD 0 .pas) [some (.own k), some (.int n), none, none, none, none] m = .ok (.nx [some (.own k), some (.int n), some (tm l), none, none, none]) m1 := by
    unfold bRow
    simp only [List.getD_cons_zero]
    rw [evC, e1, rs_ok, evG, rs_ok]
    rfl
theorem rw_s1 {m1 : Mu} {k n : Nat} {l : Option Int} : evC G (bRow.getD 1 .pas) [some (.own k), some (.int n), some (tm l), none, none, none] m1 = .ok (.nx [some (.own k), some (.int n), some (tm l), some (.own m1.length), none, none]) (m1 ++ [.lst []]) := by
    have z0 : (0 ≤ sizeLine) = True := by decide
    unfold bRow
    simp only [List.getD_cons_zero, List.getD_cons_succ, evC, evE, evEs, rs_ok, List.length_nil, z0, if_true, evG]
    rfl
theorem rw_ret {k n : Nat} {ls : List (Option Int)} : ∀ (o : Option Int) (y z : Option D) mm, evC G (bRow.getD 4 .pas) [some (.own k), some (.int n), some (tm o), some (.lst (ls.map tm)), y, z] mm = .ok (.rt (rowD (o, ls))) mm := fun o y z mm => by
    have z1 : (0 + 1 + 1 ≤ sizeLine) = True := by decide
    unfold bRow
    simp only [List.getD_cons_zero, List.getD_cons_succ, evC, evE, evEs, rs_ok, List.getElem?_cons_zero, List.getElem?_cons_succ, bltD, look, List.length_cons, List.length_nil, z1, if_true]
    rfl
theorem rw_hb3 :  bRow.getD 3 .pas = (.frz [3] (.ife (.and (.cmp .Is (.var 2) (.con .non)) (.cmp .Eq (.lc false (.nm 5) (.val (.var 3)) (some (.cmp .IsNot (.var 5) (.con .non))) (.var 5) [5]) (.lst []))) [(.asg (.nm 2) (.fn "_law_take" [(.var 0), (.con (.int 61))]))] [])) := rfl
theorem rw_body : bRow = [bRow.getD 0 .pas, bRow.getD 1 .pas, bRow.getD 2 .pas, bRow.getD 3 .pas, bRow.getD 4 .pas] := rfl
theorem rw_nn {k n : Nat} {l : Option Int} {ls : List (Option Int)} {x : Option D} (h : ls.length ≤ 3) : ∀ mm, evE G (.cmp .Eq (.lc false (.nm 5) (.val (.var 3)) (some (.cmp .IsNot (.var 5) (.con .non))) (.var 5) [5]) (.lst [])) [some (.own k), some (.int n), some (tm l), some (.lst (ls.map tm)), x, none] mm = .ok (.bl (ls.filter Option.isSome).isEmpty) mm := fun mm => noneIn (.inl rfl) rfl (by simp) (by have := three; omega)
theorem rw_hfz {m2 : Mu} {p k n : Nat} {l : Option Int} {ls : List (Option Int)} {x : Option D} (h4 : m2[p]? = some (.lst (ls.map tm))) : frzD [3] [some (.own k), some (.int n), some (tm l), some (.own p), x, none] m2 = .ok [some (.own k), some (.int n), some (tm l), some (.lst (ls.map tm)), x, none] (m2.set p .dead) := by
    simp only [frzD, List.getElem?_cons_zero, List.getElem?_cons_succ, h4, List.set_cons_succ, List.set_cons_zero]
theorem rw_run {m : Mu} {k n : Nat} {d : D} {mm : Mu} (h : evCs G bRow [some (.own k), some (.int n), none, none, none, none] m = .ok (.rt d) mm) : runF G 2 6 bRow [.own k, .int n] m = .ok d mm := by
    unfold runF
    rw [if_pos (show [D.own k, D.int n].length = 2 from rfl)]
    show (evCs G bRow [some (.own k), some (.int n), none, none, none, none] m).bind _ = _
    rw [h]
    rfl
theorem rw_if0 {m2 mm : Mu} {p k n : Nat} {l : Option Int} {ls : List (Option Int)} {x : Option D} (h3 : ls.length ≤ 3) (h4 : m2[p]? = some (.lst (ls.map tm))) (hc : ¬ (l = none ∧ ∀ o ∈ ls, o = none)) : evC G (bRow.getD 3 .pas) [some (.own k), some (.int n), some (tm l), some (.own p), x, none] m2 = .ok (.nx [some (.own k), some (.int n), some (tm l), some (.lst (ls.map tm)), x, none]) (m2.set p .dead) := by
  rw [rw_hb3, evC, rw_hfz h4, rs_ok, evC, evE, evE, evE_var (d := tm l) rfl, rs_ok, evE, rs_ok, cmD_is, rs_ok, tm_isNon]
  cases l with
  | some i =>
    simp only [Option.isNone_some, rs_ok, evCs]
  | none =>
    have ht : (ls.filter Option.isSome).isEmpty = false := by
      cases hh : (ls.filter Option.isSome).isEmpty with
      | false => rfl
      | true => exact absurd ⟨rfl, (allNone_iff ls).mp hh⟩ hc
    simp only [Option.isNone_none]
    rw [rw_nn h3, ht, rs_ok]
    simp only [evCs]
theorem rw_if1 (hT : G.fn "_law_take" = some (runF G0 2 4 bTake)) (hP : G.fn "_law_pick" = some (runF G1 2 2 bPick)) (hT1 : G1.fn "_law_take" = some (runF G0 2 4 bTake)) {m2 m3 : Mu} {p k n : Nat} {r : Int} {ls : List (Option Int)} {x : Option D} (h3 : ls.length ≤ 3) (h4 : m2[p]? = some (.lst (ls.map tm))) (hc : ∀ o ∈ ls, o = none) (e3 : runF G0 2 4 bTake [.own k, .int 61] (m2.set p .dead) = .ok (.int r) m3) : evC G (bRow.getD 3 .pas) [some (.own k), some (.int n), some (tm none), some (.own p), x, none] m2 = .ok (.nx [some (.own k), some (.int n), some (tm (some r)), some (.lst (ls.map tm)), x, none]) m3 := by
  have ht : (ls.filter Option.isSome).isEmpty = true := (allNone_iff ls).mpr hc
  rw [rw_hb3, evC, rw_hfz h4, rs_ok, evC, evE, evE, evE_var (d := tm none) rfl, rs_ok, evE, rs_ok, cmD_is, rs_ok, tm_isNon]
  simp only [Option.isNone_none]
  rw [rw_nn h3, ht, rs_ok]
  simp only []
  rw [evCs_one, evC, evE]
  simp only [hT, evEs, evE, List.getElem?_cons_zero, rs_ok, e3, evG, List.set_cons_succ, List.set_cons_zero, tm]
theorem row_ok (hT : G.fn "_law_take" = some (runF G0 2 4 bTake)) (hP : G.fn "_law_pick" = some (runF G1 2 2 bPick)) (hT1 : G1.fn "_law_take" = some (runF G0 2 4 bTake)) {m : Mu} {k n : Nat} (h : Bx m k) (hn : n ≤ 3) : ∃ r m', runF G 2 6 bRow [.own k, .int n] m = .ok (rowD r) m' ∧ RowOk n r ∧ Bx m' k ∧ Kp m m' k := by
  obtain ⟨d, m1, e1, hd, b1, k1⟩ := draw_left hT hP hT1 (ρ := [some (.own k), some (.int n), none, none, none, none]) h rfl
  obtain ⟨l, rfl, hl⟩ := hd.tm
  have hk1 := b1.lt
  have hp : m1.length ≠ k := by omega
  obtain ⟨ls, x, m2, e2, h2, h3, h4, h5, h6, h7⟩ := row_for hT hP hT1 hn (c := some (tm l)) (z := none) (b1.push (o := .lst [])) hp (by simp)
  have b3 : Bx (m2.set m1.length .dead) k := h5.put hp
  have kk : Kp m (m2.set m1.length .dead) k := ⟨by
    have := k1.len; simp at h7; rw [List.length_set]; omega, fun i hi hk => by
    have := k1.len
    rw [List.getElem?_set_ne (by omega), h6 i (by simp; omega) hk (by omega), List.getElem?_append_left (by omega)]
    exact k1.same i hi hk⟩
  have run : ∀ (o : Option Int) mm, evC G (bRow.getD 3 .pas) [some (.own k), some (.int n), some (tm l), some (.own m1.length), x, none] m2 = .ok (.nx [some (.own k), some (.int n), some (tm o), some (.lst (ls.map tm)), x, none]) mm → runF G 2 6 bRow [.own k, .int n] m = .ok (rowD (o, ls)) mm := fun o mm h => by
    refine rw_run ?_
    rw [rw_body, evCs_nx (rw_s0 e1), evCs_nx (rw_s1), evCs_nx e2, evCs_nx h, evCs_rt (rw_ret _ _ _ _)]
  by_cases hc : l = none ∧ ∀ o ∈ ls, o = none
  · obtain ⟨r, m3, e3, q1, q2, b4, k4⟩ := take_bx (G0 := G0) (n := 61) b3 (by decide) (by decide)
    refine ⟨(some r, ls), m3, run (some r) m3 ?_, ⟨h2, fun i e => by cases e; omega, h3, .inl (by simp)⟩, b4, kk.trans k4⟩
    rw [hc.1]
    exact rw_if1 hT hP hT1 (by omega) h4 hc.2 e3
  · refine ⟨(l, ls), m2.set m1.length .dead, run l _ (rw_if0 (mm := m) (by omega) h4 hc), ⟨h2, hl, h3, ?_⟩, b3, kk⟩
    cases l with
    | some i => exact .inl (by simp)
    | none =>
      refine .inr ?_
      have : ¬ ∀ o ∈ ls, o = none := fun h => hc ⟨rfl, h⟩
      obtain ⟨o, ho⟩ := Classical.not_forall.mp this
      obtain ⟨h1, h2⟩ := Classical.not_imp.mp ho
      exact ⟨o, h1, h2⟩

end
end Pm

set_option maxRecDepth 100000
set_option maxHeartbeats 400000
/-! Further words of the laws of life types -/
namespace Pm
open PySem L2
def hkL (sc : Scope) : Expr → Option (Str × List Expr)
  | .Call (.Name c _) [x, y, z, u] [] _ => if c = "LifeType" && isGl (sc.names.lookup c) then some ("LifeType/4", [x, y, z, u]) else none
  | .Call (.Name c _) [x, y, z, u] [⟨some nm, v, _⟩] _ => if c = "LifeType" && nm = "sours" && isGl (sc.names.lookup c) then some ("LifeType/5", [x, y, z, u, v]) else none
  | .Call (.Attribute (.Name c _) m apos) [x, y] [] pos => if c = "LifeType" && m = "never" && isGl (sc.names.lookup c) && apos.endLine == pos.line then some ("LifeType.never", [x, y]) else none
  | .BinOp (.List [.Tuple es k p1] p2) .Mult n _ => some ("repO", [.List [.Tuple es k p1] p2, n])
  | .Name x _ => if x = "MOST_TOOK" && isGl (sc.names.lookup x) then some ("MOST_TOOK", []) else none
  | _ => none
def hiL (sc : Scope) (tg it : Expr) : Option (Str × List Expr) := match tg, it with
  | .Tuple .., .Call (.Name f _) [.Call (.Name g _) [a, b] [] _] [] _ => if f = "enumerate" && g = "zip" && isGl (sc.names.lookup f) && isGl (sc.names.lookup g) then some ("enumzip", [a, b]) else none
  | .Tuple .., .Call (.Name f _) [a, b, c] [] _ => if f = "zip" && isGl (sc.names.lookup f) then some ("zip3", [a, b, c]) else none
  | _, _ => none
end Pm

set_option maxRecDepth 100000
set_option maxHeartbeats 400000
/-! a list times a number, as a list that may change -/
namespace Pm
open PySem L2
def repO (ds : List D) (m : Mu) : Rs D := match ds with
  | [x, .int k] => match lookT m x with
    | some xs => if -(2 ^ 63) ≤ k ∧ k < 2 ^ 63 ∧ xs.length * k.toNat ≤ sizeLine then .ok (.own m.length) (m ++ [.lst (List.replicate k.toNat xs).flatten]) else .no
    | none => .no
  | _ => .no
section
variable {G : Gm} {W : XK} {X : Cx} {N : List Str} {lv : Nat} {sc : Scope}
theorem se_repO {a b : Expr} {x y : E} {p : Pos} {t : Str} (ht : G.xt t = some repO) (ha : SE G W X a x) (hb : SE G W X b y) : SE G W X (.BinOp a .Mult b p) (.ext t [x, y]) := fun σ H Z α ρ m Q R En q => by
  unfold evE at q
  rw [ht] at q
  dsimp only at q
  refine ⟨_, pe_op op_all pe_all pe_all, ?_⟩
  unfold evEs at q
  refine ha σ H Z α ρ m _ R En (q.bind.bind.mono fun d m1 H1 Z1 α1 F1 R1 p1 v dv => ?_)
  unfold evEs at p1
  refine hb σ H1 Z1 α1 ρ m1 _ R1 (En.mono F1.le) (p1.bind.bind.mono fun d2 m2 H2 Z2 α2 F2 R2 p2 u du => ?_)
  unfold evEs at p2
  have p3 : Post G.T W H2 Z2 α2 (repO [d, d2] m2) (KQ G.T Q) := Post.now (Post.now p2 R2) R2
  unfold repO at p3
  split at p3
  · rename_i x k hx
    cases hx
    split at p3
    · rename_i xs hl
      split at p3
      · rename_i hs
        cases du
        obtain ⟨r, ws, rfl, h2, d3⟩ := lookT_at R2 (dv.mono F2.le) hl
        exact ⟨_, op_rep, r, k, ws, rfl, rfl, h2, hs.1, hs.2.1, by rw [d3.len]; exact hs.2.2, fun r hr => p3.lsto R2 (d3.reps _) hr⟩
      · exact p3.elim
    · exact p3.elim
  · exact p3.elim
end
end Pm

set_option maxRecDepth 100000
set_option maxHeartbeats 400000
/-! Tables that grow, piece by piece -/
namespace Pm
open PySem L2
def Gm.addMe (G : Gm) (c x : Str) (h : Fn) : Gm := { G with me := fun d y => if d = c ∧ y = x then some h else G.me d y }
def Gm.addPr (G : Gm) (c x : Str) (h : Fn) : Gm := { G with pr := fun d y => if d = c ∧ y = x then some h else G.pr d y }
def Gm.addCs (G : Gm) (c : Str) (h : Fn) : Gm := { G with cs := fun d => if d = c then some h else G.cs d }
def Gm.addCa (G : Gm) (c : Str) (h : Fn) : Gm := { G with ca := fun d => if d = c then some h else G.ca d }
def Gm.addRp (G : Gm) (c : Str) (h : Fn) : Gm := { G with rp := fun d => if d = c then some h else G.rp d }
def Gm.addOp (G : Gm) (c : Str) (o : Operator) (h : Fn) : Gm := { G with op := fun d p => if d = c ∧ p = o then some h else G.op d p }
def eqTab (T : Tb) (ok : Value → Bool) (h : Fn) : CmpOp → Option Fn
  | .Eq => some (okArg T ok h)
  | .NotEq => some (negR (okArg T ok h))
  | _ => none
def Gm.addEq (G : Gm) (c : Str) (ok : Value → Bool) (h : Fn) : Gm := { G with cm := fun d p => if d = c then eqTab G.T ok h p else G.cm d p }
def Gm.addXt (G : Gm) (t : Str) (h : Fn) (P : Stc → Prop) : Gm := { G with xt := fun u => if u = t then some h else G.xt u, fx := fun s => P s ∧ G.fx s }
def Gm.addXi (G : Gm) (t : Str) (h : List D → Mu → Option (List D × Wt)) : Gm := { G with xi := fun u => if u = t then some h else G.xi u }
def Gm.setCx (G : Gm) (p : CmpOp → D → D → Option Bool) : Gm := { G with cx := p }
section
variable {G : Gm} {s : Stc} {lv k : Nat} {f C p : Addr} {fd : FuncData} {ps : List Str} {h gi : Fn} {c x : Str}
theorem Good.addMe (g : Good G lv s) (hC : G.T.cls c = some C) (M : Meth s.K C x f) (F : FnG s.P s.w s.K s.mg s.base k f fd ps (spD G.T ps.length h)) (hb : Binds s.K fd ps []) (hl : k ≤ lv) (hn : ∀ ds m, ds.length ≠ ps.length → h ds m = .no) : Good (G.addMe c x h) lv s :=
  { g with
    gk := ⟨g.gk.eK, g.gk.isi, g.gk.cls, g.gk.fl⟩
    me := fun d E y e q hE => by
      have q : (if d = c ∧ y = x then some h else G.me d y) = some e := q
      by_cases e1 : d = c ∧ y = x
      · rw [if_pos e1] at q
        cases q
        obtain ⟨rfl, rfl⟩ := e1
        have hE : G.T.cls d = some E := hE
        rw [hC] at hE
        cases hE
        exact ⟨f, fd, ps, k, M, F, hb, hl, hn⟩
      · rw [if_neg e1] at q
        exact g.me d E y e q hE
    fn := g.fn, pr := g.pr, cs := g.cs, op := g.op, cm := g.cm, ca := g.ca, rp := g.rp, bl := g.bl, cl := g.cl, cx := g.cx, fx := g.fx }
theorem Good.addPr (g : Good G lv s) (hC : G.T.cls c = some C) (M : PropOf s.K C x p f) (F : FnG s.P s.w s.K s.mg s.base k f fd ps (spD G.T ps.length h)) (hb : Binds s.K fd ps []) (hl : k + 1 ≤ lv) (hp : ps.length = 1) : Good (G.addPr c x h) lv s :=
  { g with
    gk := ⟨g.gk.eK, g.gk.isi, g.gk.cls, g.gk.fl⟩
    pr := fun d E y e q hE => by
      have q : (if d = c ∧ y = x then some h else G.pr d y) = some e := q
      by_cases e1 : d = c ∧ y = x
      · rw [if_pos e1] at q
        cases q
        obtain ⟨rfl, rfl⟩ := e1
        have hE : G.T.cls d = some E := hE
        rw [hC] at hE
        cases hE
        exact ⟨p, f, fd, ps, k, M, F, hb, hl, hp⟩
      · rw [if_neg e1] at q
        exact g.pr d E y e q hE
    fn := g.fn, me := g.me, cs := g.cs, op := g.op, cm := g.cm, ca := g.ca, rp := g.rp, bl := g.bl, cl := g.cl, cx := g.cx, fx := g.fx }
theorem Good.addCs {frz : Bool} (g : Good G lv s) (hC : G.T.cls c = some C) (M : Mk s.K C f) (F : FnG s.P s.w s.K s.mg s.base k f fd ps (spD G.T ps.length gi)) (hb : Binds s.K fd ps []) (hl : k + 1 ≤ lv) (hn : ∀ ds m, ds.length ≠ ps.length → gi ds m = .no) : Good (G.addCs c (mkFn c frz gi)) lv s :=
  { g with
    gk := ⟨g.gk.eK, g.gk.isi, g.gk.cls, g.gk.fl⟩
    cs := fun d e q => by
      have q : (if d = c then some (mkFn c frz gi) else G.cs d) = some e := q
      by_cases e1 : d = c
      · rw [if_pos e1] at q
        cases q
        subst e1
        exact ⟨C, f, fd, ps, k, gi, frz, hC, g.cl _ _ hC, M, F, hb, hl, hn, rfl⟩
      · rw [if_neg e1] at q
        exact g.cs d e q
    fn := g.fn, me := g.me, pr := g.pr, op := g.op, cm := g.cm, ca := g.ca, rp := g.rp, bl := g.bl, cl := g.cl, cx := g.cx, fx := g.fx }
theorem Good.addCa (g : Good G lv s) (hC : G.T.cls c = some C) (M : StX.CallO s.K C f) (F : FnG s.P s.w s.K s.mg s.base k f fd ps (spD G.T ps.length h)) (hb : Binds s.K fd ps []) (hl : k ≤ lv) (hn : ∀ ds m, ds.length ≠ ps.length → h ds m = .no) : Good (G.addCa c h) lv s :=
  { g with
    gk := ⟨g.gk.eK, g.gk.isi, g.gk.cls, g.gk.fl⟩
    ca := fun d E e q hE => by
      have q : (if d = c then some h else G.ca d) = some e := q
      by_cases e1 : d = c
      · rw [if_pos e1] at q
        cases q
        subst e1
        have hE : G.T.cls d = some E := hE
        rw [hC] at hE
        cases hE
        exact ⟨f, fd, ps, k, M, F, hb, hl, hn⟩
      · rw [if_neg e1] at q
        exact g.ca d E e q hE
    fn := g.fn, me := g.me, pr := g.pr, cs := g.cs, op := g.op, cm := g.cm, rp := g.rp, bl := g.bl, cl := g.cl, cx := g.cx, fx := g.fx }
theorem Good.addRp (g : Good G lv s) (hC : G.T.cls c = some C) (h1 : PySem.W.findIn s.K (.ref C) "__repr__" = some (some (.ref f))) (h2 : PySem.W.isFn s.K (.ref f) = true) (F : FnG s.P s.w s.K s.mg s.base k f fd ps (spD G.T ps.length h)) (hb : Binds s.K fd ps []) (hl : k + 1 ≤ lv) (hp : ps.length = 1) : Good (G.addRp c h) lv s :=
  { g with
    gk := ⟨g.gk.eK, g.gk.isi, g.gk.cls, g.gk.fl⟩
    rp := fun d E e q hE => by
      have q : (if d = c then some h else G.rp d) = some e := q
      by_cases e1 : d = c
      · rw [if_pos e1] at q
        cases q
        subst e1
        have hE : G.T.cls d = some E := hE
        rw [hC] at hE
        cases hE
        exact ⟨f, fd, ps, k, h1, h2, F, hb, hl, hp⟩
      · rw [if_neg e1] at q
        exact g.rp d E e q hE
    fn := g.fn, me := g.me, pr := g.pr, cs := g.cs, op := g.op, cm := g.cm, ca := g.ca, bl := g.bl, cl := g.cl, cx := g.cx, fx := g.fx }
theorem Good.addOp {o : Operator} (g : Good G lv s) (ho : ∀ X : Cx, stc X = s → Room lv X.A → X.A.guards = some [] → OpR X (binaryOp o) (rOwn G.T c h)) : Good (G.addOp c o h) lv s :=
  { g with
    gk := ⟨g.gk.eK, g.gk.isi, g.gk.cls, g.gk.fl⟩
    op := fun d o2 e q X hX hr gd => by
      have q : (if d = c ∧ o2 = o then some h else G.op d o2) = some e := q
      by_cases e1 : d = c ∧ o2 = o
      · rw [if_pos e1] at q
        cases q
        obtain ⟨rfl, rfl⟩ := e1
        exact ho X hX hr gd
      · rw [if_neg e1] at q
        exact g.op d o2 e q X hX hr gd
    fn := g.fn, me := g.me, pr := g.pr, cs := g.cs, cm := g.cm, ca := g.ca, rp := g.rp, bl := g.bl, cl := g.cl, cx := g.cx, fx := g.fx }
theorem Good.addEq {ok : Value → Bool} (g : Good G lv s) (hC : G.T.cls c = some C) (hs : PySem.W.findIn s.K (.ref C) "__eq__" = some (some (.ref f))) (hf : PySem.W.isFn s.K (.ref f) = true) (hne : PySem.W.findIn s.K (.ref C) "__ne__" = some (some (.builtin "object.__ne__"))) (hm : PySem.W.mroIn s.K C (.type "object") = some true)
    (F : FnG s.P s.w s.K s.mg s.base k f fd ps (spD G.T ps.length h)) (hb : Binds s.K fd ps []) (hl : k + 1 ≤ lv) (hp : ps.length = 2) (hok : ∀ t, ok t = true → PySem.W.notFirst s.K C t = true) : Good (G.addEq c ok h) lv s :=
  { g with
    gk := ⟨g.gk.eK, g.gk.isi, g.gk.cls, g.gk.fl⟩
    cm := fun d o e q0 X hX hr gd => by
      have q : (if d = c then eqTab G.T ok h o else G.cm d o) = some e := q0
      by_cases e1 : d = c
      · rw [if_pos e1] at q
        clear q0
        subst e1
        have hK : X.K = s.K := congrArg Stc.K hX
        have gX : GoodK (G.addEq d ok h) X.K := by rw [hK]; exact ⟨g.gk.eK, g.gk.isi, g.gk.cls, g.gk.fl⟩
        cases o <;> first | (cases q; done) | skip
        · cases q
          exact cm_eq (lv := lv) gX gd hr hC (by rw [hK]; exact hs) (by rw [hK]; exact hf) (by rw [hX]; exact ⟨fd, ps, k, F, hb, by omega, hp⟩) (fun t e => by rw [hK]; exact hok t e)
        · cases q
          exact cm_ne (k := k) gX gd hr hC (by rw [hK]; exact hs) (by rw [hK]; exact hf) (by rw [hK]; exact hne) (by rw [hK]; exact hm) (by rw [hX]; exact ⟨fd, ps, k, F, hb, Nat.le_refl _, hp⟩) hl (fun t e => by rw [hK]; exact hok t e)
      · rw [if_neg e1] at q
        exact g.cm d o e q X hX hr gd
    fn := g.fn, me := g.me, pr := g.pr, cs := g.cs, op := g.op, ca := g.ca, rp := g.rp, bl := g.bl, cl := g.cl, cx := g.cx, fx := g.fx }
theorem Good.addXt {t : Str} {P : Stc → Prop} (g : Good G lv s) (hP : P s) : Good (G.addXt t h P) lv s :=
  { g with
    gk := ⟨g.gk.eK, g.gk.isi, g.gk.cls, g.gk.fl⟩
    fn := g.fn, me := g.me, pr := g.pr, cs := g.cs, op := g.op, cm := g.cm, ca := g.ca, rp := g.rp, bl := g.bl, cl := g.cl, cx := g.cx, fx := ⟨hP, g.fx⟩ }
theorem Good.addXi {t : Str} {z : List D → Mu → Option (List D × Wt)} (g : Good G lv s) : Good (G.addXi t z) lv s :=
  { g with
    gk := ⟨g.gk.eK, g.gk.isi, g.gk.cls, g.gk.fl⟩
    fn := g.fn, me := g.me, pr := g.pr, cs := g.cs, op := g.op, cm := g.cm, ca := g.ca, rp := g.rp, bl := g.bl, cl := g.cl, cx := g.cx, fx := g.fx }
theorem Good.setCx {q : CmpOp → D → D → Option Bool} (g : Good G lv s) (hq : ∀ o a b r, q o a b = some r → ∀ X : Cx, stc X = s → Room lv X.A → X.A.guards = some [] → ∀ (H Z : Hp) (α : List Addr) (m : Mu) (v u : V) (Q : VK), Rep G.T H Z α m → Dn G.T Z α v a → Dn G.T Z α u b →
    (∀ H' Z' α', Fut H Z α H' Z' α' → Rep G.T H' Z' α' m → Q (.bl r) H') → oA X (compareOp o) v u H Q) : Good (G.setCx q) lv s :=
  { g with
    gk := ⟨g.gk.eK, g.gk.isi, g.gk.cls, g.gk.fl⟩
    fn := g.fn, me := g.me, pr := g.pr, cs := g.cs, op := g.op, cm := g.cm, ca := g.ca, rp := g.rp, bl := g.bl, cl := g.cl, cx := hq, fx := g.fx }
end
/-! ### the first table: classes, their fields, isinstance -/
abbrev Cs := List (Str × Addr × List Str)
def tys0 : List Value := [.type "int", .type "tuple", .type "str", .type "NoneType", .type "list", .type "bool"]
def clsOf (cs : Cs) (c : Str) : Option Addr := match cs with
  | [] => none
  | d :: cs => if c = d.1 then some d.2.1 else clsOf cs c
def fldOf (cs : Cs) (c f : Str) : Bool := match cs with
  | [] => false
  | d :: cs => if c = d.1 then decide (f ∈ d.2.2) else fldOf cs c f
def asOf (cs : Cs) : List Value := cs.map fun d => .ref d.2.1
def isiC (cs : Cs) (t u : Value) : Option Bool := if u ∈ asOf cs then (if t = u then some true else if t ∈ asOf cs then some false else if t ∈ tys0 then some false else none)
  else if t ∈ asOf cs ∧ u ∈ tys0 then some false else none
def Tc (K : PySem.W.Frag) (cs : Cs) : Tb := ⟨K, clsOf cs⟩
def Gm.base (K : PySem.W.Frag) (cs : Cs) : Gm := { T := Tc K cs, fn := fun _ => none, cs := fun _ => none, me := fun _ _ => none, pr := fun _ _ => none, op := fun _ _ => none, cm := fun _ _ => none, fl := fldOf cs, isi := isiC cs, ca := fun _ => none, rp := fun _ => none, xt := fun _ => none, xi := fun _ => none, cx := fun _ _ _ => none, fx := fun _ => True }
/-- what the top leaves of the classes, as one answer -/
def clsB (K : PySem.W.Frag) (cs : Cs) : Bool :=
  decide (PySem.W.specialIn K (.builtin "object.__class__") "__get__" = some (some (.builtin "getset_descriptor.__get__"))) && (decide (PySem.W.takesIn K (.builtin "object.__class__") = some true) &&
  cs.all fun d => PySem.W.plainGet K d.2.1 Str.empty && (PySem.W.hasDictIn K d.2.1 && (PySem.W.plainOver K d.2.1 && (decide (PySem.W.findIn K (.ref d.2.1) "__setattr__" = some (some (.builtin "object.__setattr__"))) &&
    (decide (PySem.W.findIn K (.ref d.2.1) "__class__" = some (some (.builtin "object.__class__"))) && (decide (PySem.W.mroIn K d.2.1 (.type "object") = some true) && (PySem.W.keepIn K (.ref d.2.1) && (d.2.2.all (fun f => decide (PySem.W.findIn K (.ref d.2.1) f = some none)) &&
    (decide (PySem.W.findIn K (.ref d.2.1) "__ne__" = some (some (.builtin "object.__ne__"))) && (PySem.W.selfFirst K d.2.1 && (decide (PySem.W.kitOne K (.ref d.2.1) (.ref d.2.1) = some true) && (cs.all (fun e => decide (e.2.1 = d.2.1) || decide (PySem.W.kitOne K (.ref e.2.1) (.ref d.2.1) = some false)) &&
    (tys0.all (fun t => decide (PySem.W.kitOne K t (.ref d.2.1) = some false) && decide (PySem.W.kitOne K (.ref d.2.1) t = some false)) && (cs.all (fun e => PySem.W.notFirst K d.2.1 (.ref e.2.1)) && (tys0.all (fun t => PySem.W.notFirst K d.2.1 t) && decide (PySem.W.subIn K (.ref d.2.1) (.type "NoneType") = some false))))))))))))))))
structure Cf (K : PySem.W.Frag) (cs : Cs) (C : Addr) (fs : List Str) : Prop where
  cls : Cls K C
  c5 : PySem.W.findIn K (.ref C) "__class__" = some (some (.builtin "object.__class__"))
  c8 : PySem.W.mroIn K C (.type "object") = some true
  kp : PySem.W.keepIn K (.ref C) = true
  fl : ∀ f ∈ fs, PySem.W.findIn K (.ref C) f = some none
  ne : PySem.W.findIn K (.ref C) "__ne__" = some (some (.builtin "object.__ne__"))
  sf : PySem.W.selfFirst K C = true
  k1 : PySem.W.kitOne K (.ref C) (.ref C) = some true
  k2 : ∀ t ∈ asOf cs, t ≠ .ref C → PySem.W.kitOne K t (.ref C) = some false
  k3 : ∀ t ∈ tys0, PySem.W.kitOne K t (.ref C) = some false ∧ PySem.W.kitOne K (.ref C) t = some false
  nf : ∀ t ∈ asOf cs ++ tys0, PySem.W.notFirst K C t = true
  sn : PySem.W.subIn K (.ref C) (.type "NoneType") = some false
section
variable {K : PySem.W.Frag} {cs : Cs}
theorem clsB_at (h : clsB K cs = true) : (PySem.W.specialIn K (.builtin "object.__class__") "__get__" = some (some (.builtin "getset_descriptor.__get__")) ∧ PySem.W.takesIn K (.builtin "object.__class__") = some true) ∧ ∀ c C fs, (c, C, fs) ∈ cs → Cf K cs C fs := by
  unfold clsB at h
  simp only [Bool.and_eq_true, decide_eq_true_eq, List.all_eq_true, Bool.or_eq_true] at h
  obtain ⟨a1, a2, a3⟩ := h
  refine ⟨⟨a1, a2⟩, fun c C fs hm => ?_⟩
  obtain ⟨c1, c2, c3, c4, c5, c6, c7, c8, c9, c10, c11, c12, c13, c14, c15, c16⟩ := a3 _ hm
  refine ⟨⟨c1, c2, c3, c4⟩, c5, c6, c7, c8, c9, c10, c11, fun t ht hn => ?_, c13, fun t ht => ?_, c16⟩
  · unfold asOf at ht
    rw [List.mem_map] at ht
    obtain ⟨e, he, rfl⟩ := ht
    rcases c12 e he with q | q
    · exact absurd (by rw [q]) hn
    · exact q
  · rcases List.mem_append.mp ht with q | q
    · unfold asOf at q
      rw [List.mem_map] at q
      obtain ⟨e, he, rfl⟩ := q
      exact c14 e he
    · exact c15 t q
theorem clsOf_mem {c : Str} {C : Addr} : ∀ {cs : Cs}, clsOf cs c = some C → ∃ fs, (c, C, fs) ∈ cs
  | [], h => by cases h
  | d :: cs, h => by
    unfold clsOf at h
    by_cases e : c = d.1
    · rw [if_pos e] at h
      cases h
      exact ⟨d.2.2, by rw [e]; exact List.mem_cons_self⟩
    · rw [if_neg e] at h
      obtain ⟨fs, q⟩ := clsOf_mem h
      exact ⟨fs, List.mem_cons_of_mem _ q⟩
theorem fldOf_mem {c f : Str} {C : Addr} : ∀ {cs : Cs}, clsOf cs c = some C → fldOf cs c f = true → ∃ fs, (c, C, fs) ∈ cs ∧ f ∈ fs
  | [], h, _ => by cases h
  | d :: cs, h, g => by
    unfold clsOf at h
    unfold fldOf at g
    by_cases e : c = d.1
    · rw [if_pos e] at h g
      cases h
      exact ⟨d.2.2, by rw [e]; exact List.mem_cons_self, of_decide_eq_true g⟩
    · rw [if_neg e] at h g
      obtain ⟨fs, q, q2⟩ := fldOf_mem h g
      exact ⟨fs, List.mem_cons_of_mem _ q, q2⟩
theorem asOf_mem {t : Value} (h : t ∈ asOf cs) : ∃ c C fs, (c, C, fs) ∈ cs ∧ t = .ref C := by
  unfold asOf at h
  rw [List.mem_map] at h
  obtain ⟨⟨c, C, fs⟩, he, rfl⟩ := h
  exact ⟨c, C, fs, he, rfl⟩
theorem base_k (h : clsB K cs = true) : GoodK (Gm.base K cs) K := by
  obtain ⟨⟨a1, a2⟩, a3⟩ := clsB_at h
  exact
  { eK := rfl
    isi := fun t u b e => by
      have e : isiC cs t u = some b := e
      unfold isiC at e
      by_cases h1 : u ∈ asOf cs
      · rw [if_pos h1] at e
        obtain ⟨c, C, fs, hm, rfl⟩ := asOf_mem h1
        have F := a3 c C fs hm
        by_cases h2 : t = .ref C
        · rw [if_pos h2] at e; cases e; rw [h2]; exact F.k1
        · rw [if_neg h2] at e
          by_cases h3 : t ∈ asOf cs
          · rw [if_pos h3] at e; cases e; exact F.k2 t h3 h2
          · rw [if_neg h3] at e
            by_cases h4 : t ∈ tys0
            · rw [if_pos h4] at e; cases e; exact (F.k3 t h4).1
            · rw [if_neg h4] at e; cases e
      · rw [if_neg h1] at e
        by_cases h3 : t ∈ asOf cs ∧ u ∈ tys0
        · rw [if_pos h3] at e; cases e
          obtain ⟨c, C, fs, hm, rfl⟩ := asOf_mem h3.1
          exact ((a3 c C fs hm).k3 u h3.2).2
        · rw [if_neg h3] at e; cases e
    cls := fun c C e => by
      obtain ⟨fs, hm⟩ := clsOf_mem (show clsOf cs c = some C from e)
      have F := a3 c C fs hm
      exact ⟨F.cls, F.c5, a1, a2, F.c8⟩
    fl := fun c C f e g => by
      obtain ⟨fs, hm, hf⟩ := fldOf_mem (show clsOf cs c = some C from e) (show fldOf cs c f = true from g)
      exact (a3 c C fs hm).fl f hf }
theorem base_good {P : Program} {w : World} {mg : Str → Option Value} {base : Heap} (h : clsB K cs = true) (bl : ∀ x, x ∈ (["len", "min", "max", "int", "tuple", "list", "isinstance", "any", "all", "range", "zip", "enumerate", "str", "bool", "repr"] : List Str) → mg x = none) (hm : ∀ c C fs, (c, C, fs) ∈ cs → mg c = some (.ref C)) : Good (Gm.base K cs) 0 ⟨P, w, K, mg, base⟩ where
  gk := base_k h
  fn := fun _ _ h => by cases h
  me := fun _ _ _ _ h => by cases h
  pr := fun _ _ _ _ h => by cases h
  cs := fun _ _ h => by cases h
  op := fun _ _ _ h => by cases h
  cm := fun _ _ _ h => by cases h
  ca := fun _ _ _ h => by cases h
  rp := fun _ _ _ h => by cases h
  bl := bl
  cl := fun c C e => by
    obtain ⟨fs, q⟩ := clsOf_mem (show clsOf cs c = some C from e)
    exact hm c C fs q
  cx := fun _ _ _ _ h => by cases h
  fx := trivial
end
/-! ### words that no table knows -/
theorem se_none {G : Gm} {W : XK} {X : Cx} {ex : Expr} {t : Str} {xs : List E} (h : G.xt t = none) : SE G W X ex (.ext t xs) := fun σ H Z α ρ m Q R En q => by
  unfold evE at q
  rw [h] at q
  exact q.elim
theorem si_none {G : Gm} {W : XK} {X : Cx} {tg it : Expr} {t : Str} {xs : List E} (h : G.xi t = none) : SI G W X tg it (.ext t xs) := fun σ H Z α ρ m R Rp En q => by
  unfold evI at q
  rw [h] at q
  exact q.elim
end Pm

set_option maxRecDepth 100000
set_option maxHeartbeats 400000
/-! The further words of the laws of life types do what they say -/
namespace Pm
open PySem L2
/-- a class whose last parameter is keyword-only: new by default -/
def NewD (T : Tb) (c : Str) (gi : Fn) (k n : Nat) (zv : List V) (s : Stc) : Prop := ∃ C a fd ps g, T.cls c = some C ∧ s.mg c = some (.ref C) ∧ Mk s.K C a ∧ FnG s.P s.w s.K s.mg s.base k a fd ps (spD T ps.length gi) ∧ KBn s.K fd ps (n + 1) [] g (fun vs _ => vs ++ zv) ∧ ∀ ds m, ds.length ≠ ps.length → gi ds m = .no
/-- new by a keyword -/
def NewK (T : Tb) (c : Str) (gi : Fn) (k n : Nat) (nm : Str) (s : Stc) : Prop := ∃ C a fd ps g, T.cls c = some C ∧ s.mg c = some (.ref C) ∧ Mk s.K C a ∧ FnG s.P s.w s.K s.mg s.base k a fd ps (spD T ps.length gi) ∧ KBn s.K fd ps (n + 1) [nm] g (fun vs zs => vs ++ zs) ∧ ∀ ds m, ds.length ≠ ps.length → gi ds m = .no
/-- a static method -/
def StF (T : Tb) (c m : Str) (g : Fn) (k : Nat) (s : Stc) : Prop := ∃ C f fd ps, s.mg c = some (.ref C) ∧ SMeth s.K C m f ∧ FnG s.P s.w s.K s.mg s.base k f fd ps (spD T ps.length g) ∧ Binds s.K fd ps [] ∧ ∀ ds m, ds.length ≠ ps.length → g ds m = .no
def fD (c : Str) (n : Nat) (gi : Fn) (zd : List D) : Fn := fun ds m => if ds.length = n then mkFn c true gi (ds ++ zd) m else .no
def fK (c : Str) (n : Nat) (gi : Fn) : Fn := fun ds m => if ds.length = n then mkFn c true gi ds m else .no
def fTop (d : D) : Fn := fun _ m => .ok d m
section
variable {G : Gm} {N : List Str} {lv : Nat} {W : XK} {sc : Scope} {X : Cx} {tp : Tp}
structure HkL (G : Gm) (lv : Nat) : Prop where
  a4 : G.xt "LifeType/4" = none ∨ ∃ gi k, G.xt "LifeType/4" = some (fD "LifeType" 4 gi [.bl false]) ∧ k + 1 ≤ lv ∧ ∀ s, G.fx s → NewD G.T "LifeType" gi k 4 [.bl false] s
  a5 : G.xt "LifeType/5" = none ∨ ∃ gi k, G.xt "LifeType/5" = some (fK "LifeType" 5 gi) ∧ k + 1 ≤ lv ∧ ∀ s, G.fx s → NewK G.T "LifeType" gi k 4 "sours" s
  nv : G.xt "LifeType.never" = none ∨ ∃ g k, G.xt "LifeType.never" = some g ∧ k ≤ lv ∧ ∀ s, G.fx s → StF G.T "LifeType" "never" g k s
  ro : G.xt "repO" = none ∨ G.xt "repO" = some repO
  mt : G.xt "MOST_TOOK" = none ∨ ∃ i : Int, G.xt "MOST_TOOK" = some (fTop (.int i)) ∧ ∀ s, G.fx s → ∃ u, s.mg "MOST_TOOK" = some u ∧ RelV (.int i) u
  ez : G.xi "enumzip" = none ∨ G.xi "enumzip" = some ezD
  z3 : G.xi "zip3" = none ∨ G.xi "zip3" = some zip3D
theorem hkL_ok (H : HkL G lv) (h : CxOk G N lv W sc X) {ex : Expr} {t : Str} {es : List Expr} (q : hkL sc ex = some (t, es)) {xs : List E} (hs : es.all noStar = true) (ha : All2 (SE G W X) es xs) : SE G W X ex (.ext t xs) := by
  unfold hkL at q
  split at q
  · rename_i c p x y z u pos
    split at q
    · rename_i e
      cases q
      rw [Bool.and_eq_true, decide_eq_true_eq] at e
      obtain ⟨rfl, hg⟩ := e
      rcases H.a4 with e | ⟨gi, k, e, hl, hf⟩
      · exact se_none e
      · obtain ⟨C, a, fd, ps, g, h1, h2, M, F, hb, hn⟩ := hf _ h.good.fx
        exact se_newD (frz := true) h (by decide) hg hs ha (by simp) h1 h2 M F hb (fun Z α => .cons (.bl false) .nil) (h.room.mono hl) hn e
    · cases q
  · rename_i c p x y z u nm v kp pos
    split at q
    · rename_i e
      cases q
      rw [Bool.and_eq_true, Bool.and_eq_true, decide_eq_true_eq, decide_eq_true_eq] at e
      obtain ⟨⟨rfl, rfl⟩, hg⟩ := e
      rcases H.a5 with e | ⟨gi, k, e, hl, hf⟩
      · exact se_none e
      · obtain ⟨C, a, fd, ps, g, h1, h2, M, F, hb, hn⟩ := hf _ h.good.fx
        exact se_newK (n := 4) (frz := true) (es := [x, y, z, u]) (ke := v) h (by decide) hg hs ha (by simp) h1 h2 M F hb (h.room.mono hl) hn e
    · cases q
  · rename_i c p m apos x y pos
    split at q
    · rename_i e
      cases q
      rw [Bool.and_eq_true, Bool.and_eq_true, Bool.and_eq_true, decide_eq_true_eq, decide_eq_true_eq] at e
      obtain ⟨⟨⟨rfl, rfl⟩, hg⟩, hp⟩ := e
      rcases H.nv with e | ⟨g, k, e, hl, hf⟩
      · exact se_none e
      · obtain ⟨C, f, fd, ps, h2, S, F, hb, hn⟩ := hf _ h.good.fx
        exact se_sm h (by decide) hg hs ha (by simp) (by simp) hp h2 S F (h.room.mono hl) hb hn e
    · cases q
  · rename_i es' k p1 p2 n pos
    cases q
    rcases H.ro with e | e
    · exact se_none e
    · cases ha with
      | cons a1 r =>
        cases r with
        | cons a2 r =>
          cases r
          exact se_repO e a1 a2
  · rename_i x p
    split at q
    · rename_i e
      cases q
      rw [Bool.and_eq_true, decide_eq_true_eq] at e
      obtain ⟨rfl, hg⟩ := e
      rcases H.mt with e | ⟨i, e, hf⟩
      · exact se_none e
      · cases ha
        obtain ⟨u, hu, ru⟩ := hf _ h.good.fx
        exact se_top h (by decide) hg hu ru (fun Z α => .int i) e
    · cases q
  · cases q
theorem hiL_ok (H : HkL G lv) (h : CxOk G N lv W sc X) {tg it : Expr} {t : Str} {es : List Expr} (q : hiL sc tg it = some (t, es)) {xs : List E} (hs : es.all noStar = true) (ha : All2 (SE G W X) es xs) : SI G W X tg it (.ext t xs) ∧ ∀ a b c, it ≠ .Set a b c := by
  unfold hiL at q
  split at q
  · split at q
    · rename_i e
      cases q
      simp only [Bool.and_eq_true, decide_eq_true_eq] at e
      obtain ⟨⟨⟨rfl, rfl⟩, h1⟩, h2⟩ := e
      refine ⟨?_, fun a b c z => by cases z⟩
      rcases H.ez with e | e
      · exact si_none e
      · exact si_ez e h h1 h2 hs ha
    · cases q
  · split at q
    · rename_i e
      cases q
      simp only [Bool.and_eq_true, decide_eq_true_eq] at e
      obtain ⟨rfl, h1⟩ := e
      refine ⟨?_, fun a b c z => by cases z⟩
      rcases H.z3 with e | e
      · exact si_none e
      · exact si_zip3 e h h1 hs ha
    · cases q
  · cases q
theorem tpL (hk : tp.hk = hkL) (hi : tp.hi = hiL) (hc : ∀ x ∈ tp.cls, ∃ C, G.T.cls x = some C) (H : HkL G lv) : TpOk tp G lv where
  cls := hc
  e := fun N W sc X h ex t es q xs hs ha => by rw [hk] at q; exact hkL_ok H h q hs ha
  lc := fun sc elt gs scope p => by rw [hk]; rfl
  i := fun N W sc X h tg it t es q xs hs ha => by rw [hi] at q; exact hiL_ok H h q hs ha
end
end Pm

set_option maxRecDepth 100000
set_option maxHeartbeats 400000
/-! k28: rows of a life type, as lists: the mathematics -/
namespace Pm
open PySem L2
/-! least of a list -/
theorem minL_le : ∀ {l : List Int} {m : Int}, minL l = some m → m ∈ l ∧ ∀ x ∈ l, m ≤ x
  | [], _, h => by cases h
  | i :: r, m, h => by
    unfold minL at h
    cases e : minL r with
    | none =>
      rw [e] at h
      cases h
      have hr : r = [] := by
        cases r with
        | nil => rfl
        | cons a b =>
          unfold minL at e
          cases e2 : minL b <;> rw [e2] at e <;> cases e
      subst hr
      exact ⟨List.mem_cons_self, fun x hx => by simp at hx; omega⟩
    | some j =>
      rw [e] at h
      cases h
      obtain ⟨h1, h2⟩ := minL_le e
      by_cases c : j < i
      · rw [if_pos c]
        exact ⟨List.mem_cons_of_mem _ h1, fun x hx => by
          rcases List.mem_cons.mp hx with rfl | hx
          · omega
          · exact h2 x hx⟩
      · rw [if_neg c]
        exact ⟨List.mem_cons_self, fun x hx => by
          rcases List.mem_cons.mp hx with rfl | hx
          · omega
          · have := h2 x hx; omega⟩
theorem minL_none {l : List Int} (h : minL l = none) : l = [] := by
  cases l with
  | nil => rfl
  | cons a b =>
    unfold minL at h
    cases e2 : minL b <;> rw [e2] at h <;> cases h
theorem minL_some {l : List Int} (h : l ≠ []) : ∃ m, minL l = some m := by
  cases e : minL l with
  | none => exact absurd (minL_none e) h
  | some m => exact ⟨m, rfl⟩
/-- what each dominates, the least of both is one -/
theorem minL_dom {l k : List Int} (h1 : ∀ x ∈ l, ∃ y ∈ k, y ≤ x) (h2 : ∀ y ∈ k, ∃ x ∈ l, x ≤ y) : minL l = minL k := by
  cases e : minL l with
  | none =>
    have := minL_none e
    subst this
    cases k with
    | nil => rfl
    | cons a b => obtain ⟨x, hx, _⟩ := h2 a List.mem_cons_self; exact absurd hx List.not_mem_nil
  | some m =>
    obtain ⟨a1, a2⟩ := minL_le e
    obtain ⟨y, hy, _⟩ := h1 m a1
    obtain ⟨n, en⟩ := minL_some (l := k) (fun z => by rw [z] at hy; exact absurd hy List.not_mem_nil)
    obtain ⟨b1, b2⟩ := minL_le en
    rw [en]
    obtain ⟨x, hx, c1⟩ := h2 n b1
    obtain ⟨y', hy', c2⟩ := h1 m a1
    have := a2 x hx
    have := b2 y' hy'
    exact congrArg some (by omega)
/-! rows -/
abbrev Ls := List (Option Int)
/-- the term at a place -/
def tmAt (vs : List Int) (ls : Ls) (k : Nat) : Option Int := match vs[k]?, ls[k]? with
  | some v, some (some x) => some (v - x)
  | _, _ => none
/-- the terms, but for a place -/
def tmsB (vs : List Int) (ls : Ls) (b : Option Nat) : List Int := (List.range vs.length).filterMap fun k => if some k = b then none else tmAt vs ls k
def allT (vs : List Int) (l : Option Int) (ls : Ls) : List Int := tmsB vs ls none ++ l.toList
/-- what a row bounds a life to -/
def bnd (vs : List Int) (l : Option Int) (ls : Ls) : Int := match minL (allT vs l ls) with
  | some m => max (-1) m
  | none => -1
theorem mem_tmsB {vs : List Int} {ls : Ls} {b : Option Nat} {t : Int} : t ∈ tmsB vs ls b ↔ ∃ k, some k ≠ b ∧ tmAt vs ls k = some t := by
  unfold tmsB
  rw [List.mem_filterMap]
  constructor
  · rintro ⟨k, hk, e⟩
    by_cases c : some k = b
    · rw [if_pos c] at e; cases e
    · rw [if_neg c] at e; exact ⟨k, c, e⟩
  · rintro ⟨k, c, e⟩
    have hk : k < vs.length := by
      unfold tmAt at e
      cases h : vs[k]? with
      | none => rw [h] at e; cases e
      | some v => exact (List.getElem?_eq_some_iff.mp h).1
    exact ⟨k, List.mem_range.mpr hk, by rw [if_neg c]; exact e⟩
theorem tmAt_set {vs : List Int} {ls : Ls} {k j : Nat} : tmAt vs (ls.set k none) j = if j = k then none else tmAt vs ls j := by
  unfold tmAt
  by_cases c : j = k
  · subst c
    rw [if_pos rfl]
    rw [List.getElem?_set_self']
    cases vs[j]? <;> cases ls[j]? <;> rfl
  · rw [if_neg c, List.getElem?_set_ne (Ne.symm c)]
theorem tmsB_set {vs : List Int} {ls : Ls} {k : Nat} {b : Option Nat} {t : Int} : t ∈ tmsB vs (ls.set k none) b ↔ ∃ j, some j ≠ b ∧ j ≠ k ∧ tmAt vs ls j = some t := by
  rw [mem_tmsB]
  constructor
  · rintro ⟨j, h1, h2⟩
    rw [tmAt_set] at h2
    by_cases c : j = k
    · rw [if_pos c] at h2; cases h2
    · rw [if_neg c] at h2; exact ⟨j, h1, c, h2⟩
  · rintro ⟨j, h1, h2, h3⟩
    exact ⟨j, h1, by rw [tmAt_set, if_neg h2]; exact h3⟩
theorem mem_allT {vs : List Int} {l : Option Int} {ls : Ls} {t : Int} : t ∈ allT vs l ls ↔ (∃ k, tmAt vs ls k = some t) ∨ l = some t := by
  unfold allT
  rw [List.mem_append, mem_tmsB, Option.mem_toList]
  constructor
  · rintro (⟨k, _, h⟩ | h)
    · exact .inl ⟨k, h⟩
    · exact .inr h
  · rintro (⟨k, h⟩ | h)
    · exact .inl ⟨k, by simp, h⟩
    · exact .inr h
/-- lives between needs and keeps -/
structure InBox (needs keeps vs : List Int) : Prop where
  ln : needs.length = vs.length
  lk : keeps.length = vs.length
  lo : ∀ (k : Nat) (n v : Int), needs[k]? = some n → vs[k]? = some v → n ≤ v
  hi : ∀ (k : Nat) (v m : Int), vs[k]? = some v → keeps[k]? = some m → v ≤ m
theorem tmAt_up {vs ws : List Int} {ls : Ls} {k : Nat} {t : Int} (hl : ws.length = vs.length) (h : tmAt vs ls k = some t) : ∃ v w x, vs[k]? = some v ∧ ws[k]? = some w ∧ ls[k]? = some (some x) ∧ t = v - x ∧ tmAt ws ls k = some (w - x) := by
  unfold tmAt at h
  cases e : vs[k]? with
  | none => rw [e] at h; cases h
  | some v =>
    have hk := (List.getElem?_eq_some_iff.mp e).1
    cases e2 : ls[k]? with
    | none => rw [e, e2] at h; cases h
    | some o =>
      cases o with
      | none => rw [e, e2] at h; cases h
      | some x =>
        rw [e, e2] at h
        cases h
        have hw : ws[k]? = some ws[k] := List.getElem?_eq_getElem (by omega)
        exact ⟨v, ws[k], x, rfl, hw, rfl, rfl, by unfold tmAt; rw [hw, e2]⟩
/-- the least of the others at the keeps, and of what is left -/
def others (keeps : List Int) (l : Option Int) (ls : Ls) (k : Nat) : List Int := tmsB keeps ls (some k) ++ [l.getD 61]
/-- a term that is never the least goes -/
def dropAt (keeps needs : List Int) (l : Option Int) (ls : Ls) (k : Nat) : Ls := match tmAt needs ls k, minL (others keeps l ls k) with
  | some t, some o => if o ≤ t then ls.set k none else ls
  | _, _ => ls
theorem drop_minL {keeps needs vs : List Int} {l : Option Int} {ls : Ls} {k : Nat} (B : InBox needs keeps vs) (h61 : ∀ t, tmAt needs ls k = some t → t < 61) : minL (allT vs l (dropAt keeps needs l ls k)) = minL (allT vs l ls) := by
  unfold dropAt
  split
  · rename_i t o e1 e2
    split
    · rename_i hle
      refine minL_dom (fun x hx => ?_) (fun y hy => ?_)
      · rw [mem_allT] at hx
        rcases hx with ⟨j, h⟩ | h
        · rw [tmAt_set] at h
          by_cases c : j = k
          · rw [if_pos c] at h; cases h
          · rw [if_neg c] at h; exact ⟨x, mem_allT.mpr (.inl ⟨j, h⟩), Int.le_refl _⟩
        · exact ⟨x, mem_allT.mpr (.inr h), Int.le_refl _⟩
      · rw [mem_allT] at hy
        rcases hy with ⟨j, h⟩ | h
        · by_cases c : j = k
          · subst c
            obtain ⟨v, n, x, h1, h2, h3, rfl, h4⟩ := tmAt_up (ws := needs) B.ln h
            rw [e1] at h4
            cases h4
            have b1 := B.lo _ _ _ h2 h1
            obtain ⟨m1, m2⟩ := minL_le e2
            unfold others at m1
            rcases List.mem_append.mp m1 with q | q
            · rw [mem_tmsB] at q
              obtain ⟨i, i1, i2⟩ := q
              obtain ⟨kp, w, y, k1, k2, k3, rfl, k4⟩ := tmAt_up (ws := vs) B.lk.symm i2
              have b2 := B.hi _ _ _ k2 k1
              refine ⟨w - y, mem_allT.mpr (.inl ⟨i, ?_⟩), by omega⟩
              rw [tmAt_set, if_neg (fun z => i1 (by rw [z]))]
              exact k4
            · rw [List.mem_singleton] at q
              cases l with
              | none =>
                have := h61 _ e1
                have : o = 61 := q
                omega
              | some y =>
                have : o = y := q
                exact ⟨y, mem_allT.mpr (.inr rfl), by omega⟩
          · exact ⟨y, mem_allT.mpr (.inl ⟨j, by rw [tmAt_set, if_neg c]; exact h⟩), Int.le_refl _⟩
        · exact ⟨y, mem_allT.mpr (.inr h), Int.le_refl _⟩
    · rfl
  · rfl
end Pm

set_option maxRecDepth 100000
set_option maxHeartbeats 400000
/-! k28: a plain row tells the same -/
namespace Pm
open PySem L2
def clampM : Option Int → Int
  | some m => max (-1) m
  | none => -1
theorem bnd_def {vs : List Int} {l : Option Int} {ls : Ls} : bnd vs l ls = clampM (minL (allT vs l ls)) := by
  unfold bnd clampM
  cases minL (allT vs l ls) <;> rfl
theorem clamp_dom {l k : List Int} (h1 : ∀ x ∈ l, ∃ y ∈ k, y ≤ max (-1) x) (h2 : ∀ y ∈ k, ∃ x ∈ l, x ≤ max (-1) y) : clampM (minL l) = clampM (minL k) := by
  cases e : minL l with
  | none =>
    have := minL_none e
    subst this
    cases k with
    | nil => rfl
    | cons a b => obtain ⟨x, hx, _⟩ := h2 a List.mem_cons_self; exact absurd hx List.not_mem_nil
  | some m =>
    obtain ⟨a1, a2⟩ := minL_le e
    obtain ⟨y, hy, c1⟩ := h1 m a1
    obtain ⟨n, en⟩ := minL_some (l := k) (fun z => by rw [z] at hy; exact absurd hy List.not_mem_nil)
    obtain ⟨b1, b2⟩ := minL_le en
    rw [en]
    obtain ⟨x, hx, c2⟩ := h2 n b1
    have := a2 x hx
    have := b2 y hy
    show max (-1) m = max (-1) n
    omega
/-- terms only go -/
def Sub1 (ls ls' : Ls) : Prop := ∀ vs k t, tmAt vs ls' k = some t → tmAt vs ls k = some t
theorem Sub1.rfl' {ls : Ls} : Sub1 ls ls := fun _ _ _ h => h
theorem Sub1.trans {a b c : Ls} (h : Sub1 a b) (h' : Sub1 b c) : Sub1 a c := fun vs k t e => h vs k t (h' vs k t e)
theorem Sub1.set {ls : Ls} {k : Nat} : Sub1 ls (ls.set k none) := fun vs j t e => by
  rw [tmAt_set] at e
  by_cases c : j = k
  · rw [if_pos c] at e; cases e
  · rw [if_neg c] at e; exact e
theorem drop_sub {keeps needs : List Int} {l : Option Int} {ls : Ls} {k : Nat} : Sub1 ls (dropAt keeps needs l ls k) := by
  unfold dropAt
  split
  · split
    · exact .set
    · exact .rfl'
  · exact .rfl'
theorem drop_len {keeps needs : List Int} {l : Option Int} {ls : Ls} {k : Nat} : (dropAt keeps needs l ls k).length = ls.length := by
  unfold dropAt
  split
  · split
    · rw [List.length_set]
    · rfl
  · rfl
def drops (keeps needs : List Int) (l : Option Int) (ks : List Nat) (ls : Ls) : Ls := ks.foldl (dropAt keeps needs l) ls
theorem drops_sub {keeps needs : List Int} {l : Option Int} : ∀ {ks : List Nat} {ls : Ls}, Sub1 ls (drops keeps needs l ks ls)
  | [], ls => .rfl'
  | k :: ks, ls => drop_sub.trans (drops_sub (ks := ks))
theorem drops_len {keeps needs : List Int} {l : Option Int} : ∀ {ks : List Nat} {ls : Ls}, (drops keeps needs l ks ls).length = ls.length
  | [], ls => rfl
  | k :: ks, ls => (drops_len (ks := ks)).trans drop_len
theorem drops_minL {keeps needs vs : List Int} {l : Option Int} (B : InBox needs keeps vs) : ∀ {ks : List Nat} {ls : Ls}, (∀ k t, tmAt needs ls k = some t → t < 61) → minL (allT vs l (drops keeps needs l ks ls)) = minL (allT vs l ls)
  | [], ls, _ => rfl
  | k :: ks, ls, h => by
    show minL (allT vs l (drops keeps needs l ks (dropAt keeps needs l ls k))) = _
    rw [drops_minL B fun j t e => h j t (drop_sub needs j t e), drop_minL B (h k)]
/-- what is left goes where another is never more -/
def lastL (keeps : List Int) (l : Option Int) (ls : Ls) : Option Int := match l, minL (tmsB keeps ls none) with
  | some x, some e => if e ≤ x then none else some x
  | l, _ => l
theorem last_minL {keeps needs vs : List Int} {l : Option Int} {ls : Ls} (B : InBox needs keeps vs) : minL (allT vs (lastL keeps l ls) ls) = minL (allT vs l ls) := by
  unfold lastL
  split
  · rename_i x e he
    split
    · rename_i hle
      refine minL_dom (fun y hy => ?_) (fun y hy => ?_)
      · rw [mem_allT] at hy
        rcases hy with h | h
        · exact ⟨y, mem_allT.mpr (.inl h), Int.le_refl _⟩
        · cases h
      · rw [mem_allT] at hy
        rcases hy with h | h
        · exact ⟨y, mem_allT.mpr (.inl h), Int.le_refl _⟩
        · cases h
          obtain ⟨m1, _⟩ := minL_le he
          rw [mem_tmsB] at m1
          obtain ⟨i, _, i2⟩ := m1
          obtain ⟨kp, w, z, k1, k2, k3, rfl, k4⟩ := tmAt_up (ws := vs) B.lk.symm i2
          have := B.hi _ _ _ k2 k1
          exact ⟨w - z, mem_allT.mpr (.inl ⟨i, k4⟩), by omega⟩
    · rfl
  · rfl
/-- where a need is the keep, the term is a number -/
def leastI : Option Int → Int → Option Int
  | none, x => some x
  | some y, x => some (if x < y then x else y)
def oneAt (keeps needs : List Int) (s : Option Int × Ls) (k : Nat) : Option Int × Ls := match keeps[k]?, tmAt keeps s.2 k with
  | some kp, some t => if needs[k]? = some kp then (leastI s.1 (max t (-1)), s.2.set k none) else s
  | _, _ => s
theorem mem_leastI {l : Option Int} {x t : Int} (h : leastI l x = some t) : t = x ∨ l = some t := by
  cases l with
  | none => left; cases h; rfl
  | some y =>
    simp only [leastI] at h
    cases h
    by_cases c : x < y
    · rw [if_pos c]; exact .inl rfl
    · rw [if_neg c]; exact .inr rfl
theorem leastI_le {l : Option Int} {x : Int} : ∃ t, leastI l x = some t ∧ t ≤ x ∧ ∀ y, l = some y → t ≤ y := by
  cases l with
  | none => exact ⟨x, rfl, Int.le_refl _, fun y h => by cases h⟩
  | some y =>
    refine ⟨_, rfl, ?_, fun z h => ?_⟩
    · split <;> omega
    · cases h; split <;> omega
theorem one_bnd {keeps needs vs : List Int} {s : Option Int × Ls} {k : Nat} (B : InBox needs keeps vs) : bnd vs (oneAt keeps needs s k).1 (oneAt keeps needs s k).2 = bnd vs s.1 s.2 := by
  unfold oneAt
  split
  · rename_i kp t e1 e2
    split
    · rename_i hn
      rw [bnd_def, bnd_def]
      -- the life at k is the keep
      obtain ⟨kp', v, x, q1, q2, q3, ht, q4⟩ := tmAt_up (ws := vs) B.lk.symm e2
      rw [e1] at q1
      cases q1
      have h1 := B.lo _ _ _ hn q2
      have h2 := B.hi _ _ _ q2 e1
      have hv : v = kp := by omega
      subst hv
      refine clamp_dom (fun y hy => ?_) (fun y hy => ?_)
      · rw [mem_allT] at hy
        rcases hy with ⟨j, h⟩ | h
        · rw [tmAt_set] at h
          by_cases c : j = k
          · rw [if_pos c] at h; cases h
          · rw [if_neg c] at h; exact ⟨y, mem_allT.mpr (.inl ⟨j, h⟩), by omega⟩
        · rcases mem_leastI h with h | h
          · exact ⟨v - x, mem_allT.mpr (.inl ⟨k, q4⟩), by omega⟩
          · exact ⟨y, mem_allT.mpr (.inr h), by omega⟩
      · obtain ⟨t', w1, w2, w3⟩ := leastI_le (l := s.1) (x := max t (-1))
        rw [mem_allT] at hy
        rcases hy with ⟨j, h⟩ | h
        · by_cases c : j = k
          · subst c
            rw [q4] at h
            cases h
            exact ⟨t', mem_allT.mpr (.inr w1), by omega⟩
          · exact ⟨y, mem_allT.mpr (.inl ⟨j, by rw [tmAt_set, if_neg c]; exact h⟩), by omega⟩
        · have := w3 y h
          exact ⟨t', mem_allT.mpr (.inr w1), by omega⟩
    · rfl
  · rfl
def ones (keeps needs : List Int) (ks : List Nat) (s : Option Int × Ls) : Option Int × Ls := ks.foldl (oneAt keeps needs) s
theorem ones_bnd {keeps needs vs : List Int} (B : InBox needs keeps vs) : ∀ {ks : List Nat} {s : Option Int × Ls}, bnd vs (ones keeps needs ks s).1 (ones keeps needs ks s).2 = bnd vs s.1 s.2
  | [], s => rfl
  | k :: ks, s => (ones_bnd B (ks := ks)).trans (one_bnd B)
def plainRow (keeps needs : List Int) (r : Option Int × Ls) : Option (Option Int × Ls) :=
  let s := ones keeps needs (List.range keeps.length) r
  if bnd keeps s.1 s.2 < 1 then none else
    let ls := drops keeps needs s.1 (List.range keeps.length) s.2
    some (lastL keeps s.1 ls, ls)
theorem one_sub {keeps needs : List Int} {s : Option Int × Ls} {k : Nat} : Sub1 s.2 (oneAt keeps needs s k).2 := by
  unfold oneAt
  split
  · split
    · exact .set
    · exact .rfl'
  · exact .rfl'
theorem ones_sub {keeps needs : List Int} : ∀ {ks : List Nat} {s : Option Int × Ls}, Sub1 s.2 (ones keeps needs ks s).2
  | [], s => .rfl'
  | k :: ks, s => (one_sub (k := k)).trans (ones_sub (ks := ks))
/-- T1: the same bound, at all lives within the box -/
theorem plain_bnd {keeps needs vs : List Int} {r p : Option Int × Ls} (h : plainRow keeps needs r = some p) (B : InBox needs keeps vs) (h61 : ∀ k t, tmAt needs r.2 k = some t → t < 61) : bnd vs p.1 p.2 = bnd vs r.1 r.2 := by
  unfold plainRow at h
  dsimp only at h
  split at h
  · cases h
  · cases h
    rw [bnd_def, last_minL B, drops_minL B fun k t e => h61 k t (ones_sub needs k t e), ← bnd_def, ones_bnd B]
/-- more life, no less bound -/
theorem bnd_mono {vs ws : List Int} {l : Option Int} {ls : Ls} (hl : vs.length = ws.length) (h : ∀ (k : Nat) (v w : Int), vs[k]? = some v → ws[k]? = some w → v ≤ w) : bnd vs l ls ≤ bnd ws l ls := by
  rw [bnd_def, bnd_def]
  cases e : minL (allT ws l ls) with
  | none =>
    have hn := minL_none e
    have : allT vs l ls = [] := by
      rw [List.eq_nil_iff_forall_not_mem]
      intro x hx
      rw [mem_allT] at hx
      rcases hx with ⟨k, q⟩ | q
      · obtain ⟨v, w, y, q1, q2, q3, rfl, q4⟩ := tmAt_up (ws := ws) hl.symm q
        have : w - y ∈ allT ws l ls := mem_allT.mpr (.inl ⟨k, q4⟩)
        rw [hn] at this
        exact absurd this List.not_mem_nil
      · have : x ∈ allT ws l ls := mem_allT.mpr (.inr q)
        rw [hn] at this
        exact absurd this List.not_mem_nil
    rw [this]
    exact Int.le_refl _
  | some m =>
    obtain ⟨a1, a2⟩ := minL_le e
    rw [mem_allT] at a1
    have : ∃ y ∈ allT vs l ls, y ≤ m := by
      rcases a1 with ⟨k, q⟩ | q
      · obtain ⟨w, v, y, q1, q2, q3, rfl, q4⟩ := tmAt_up (ws := vs) hl q
        have := h _ _ _ q2 q1
        exact ⟨v - y, mem_allT.mpr (.inl ⟨k, q4⟩), by omega⟩
      · exact ⟨m, mem_allT.mpr (.inr q), Int.le_refl _⟩
    obtain ⟨y, hy, c⟩ := this
    obtain ⟨n, en⟩ := minL_some (l := allT vs l ls) (fun z => by rw [z] at hy; exact absurd hy List.not_mem_nil)
    have := (minL_le en).2 y hy
    rw [en]
    show max (-1) n ≤ max (-1) m
    omega
theorem box_keeps {needs keeps vs : List Int} (B : InBox needs keeps vs) : InBox needs keeps keeps := ⟨by rw [B.ln, B.lk], rfl, fun k n v h1 h2 => by
    have hk : k < vs.length := by rw [← B.ln]; exact (List.getElem?_eq_some_iff.mp h1).1
    have hv : vs[k]? = some vs[k] := List.getElem?_eq_getElem hk
    have := B.lo _ _ _ h1 hv
    have := B.hi _ _ _ hv h2
    omega, fun k v m h1 h2 => by rw [h1] at h2; cases h2; exact Int.le_refl _⟩
/-- T1': none says that all is sour -/
theorem plain_none {keeps needs vs : List Int} {r : Option Int × Ls} (h : plainRow keeps needs r = none) (B : InBox needs keeps vs) : bnd vs r.1 r.2 < 1 := by
  unfold plainRow at h
  dsimp only at h
  split at h
  · rename_i hb
    rw [ones_bnd (box_keeps B)] at hb
    have := bnd_mono (vs := vs) (ws := keeps) (l := r.1) (ls := r.2) B.lk.symm fun k v w q1 q2 => B.hi _ _ _ q1 q2
    omega
  · cases h
theorem plain_some {keeps needs vs : List Int} {r p : Option Int × Ls} (h : plainRow keeps needs r = some p) (B : InBox needs keeps vs) : 1 ≤ bnd keeps r.1 r.2 := by
  unfold plainRow at h
  dsimp only at h
  split at h
  · cases h
  · rename_i hb
    rw [ones_bnd (box_keeps B)] at hb
    omega
end Pm

set_option maxRecDepth 100000
set_option maxHeartbeats 400000
/-! k28: a plain row tells nothing twice; plain again it is itself -/
namespace Pm
open PySem L2
variable {keeps needs vs : List Int} {l : Option Int} {r p : Option Int × Ls}
theorem others_sub {ls ls' : Ls} (h : Sub1 ls ls') {k : Nat} {y : Int} (hy : y ∈ others keeps l ls' k) : y ∈ others keeps l ls k := by
  unfold others at hy ⊢
  rcases List.mem_append.mp hy with q | q
  · rw [mem_tmsB] at q
    obtain ⟨i, h1, h2⟩ := q
    exact List.mem_append_left _ (mem_tmsB.mpr ⟨i, h1, h _ _ _ h2⟩)
  · exact List.mem_append_right _ q
theorem drop_stays {ls : Ls} {k : Nat} {t : Int} (h : tmAt needs (dropAt keeps needs l ls k) k = some t) : dropAt keeps needs l ls k = ls ∧ ∀ y ∈ others keeps l ls k, t < y := by
  have e1 := drop_sub needs k t h
  obtain ⟨o, e2⟩ := minL_some (l := others keeps l ls k) (fun z => by unfold others at z; simp at z)
  unfold dropAt at h ⊢
  rw [e1, e2] at h ⊢
  dsimp only at h ⊢
  by_cases c : o ≤ t
  · rw [if_pos c, tmAt_set, if_pos rfl] at h
    cases h
  · rw [if_neg c]
    exact ⟨rfl, fun y hy => by have := (minL_le e2).2 y hy; omega⟩
theorem drops_stay : ∀ {ks : List Nat} {ls : Ls} {k : Nat} {t : Int}, k ∈ ks → tmAt needs (drops keeps needs l ks ls) k = some t → ∀ y ∈ others keeps l (drops keeps needs l ks ls) k, t < y
  | j :: ks, ls, k, t, hk, h, y, hy => by
    by_cases hin : k ∈ ks
    · exact drops_stay (ks := ks) hin h y hy
    · rcases List.mem_cons.mp hk with rfl | hk
      · have h1 : tmAt needs (dropAt keeps needs l ls k) k = some t := drops_sub (ks := ks) _ _ _ h
        obtain ⟨e, h2⟩ := drop_stays h1
        have hy : y ∈ others keeps l (dropAt keeps needs l ls k) k := others_sub (drops_sub (ks := ks)) hy
        rw [e] at hy
        exact h2 y hy
      · exact absurd hk hin
theorem ones_no : ∀ {ks : List Nat} {s : Option Int × Ls} {k : Nat} {t : Int}, k ∈ ks → tmAt keeps (ones keeps needs ks s).2 k = some t → needs[k]? ≠ keeps[k]?
  | j :: ks, s, k, t, hk, h, hn => by
    by_cases hin : k ∈ ks
    · exact ones_no (ks := ks) hin h hn
    · rcases List.mem_cons.mp hk with rfl | hk
      · have h1 : tmAt keeps (oneAt keeps needs s k).2 k = some t := ones_sub (ks := ks) _ _ _ h
        have h2 := one_sub (keeps := keeps) (needs := needs) (s := s) (k := k) _ _ _ h1
        obtain ⟨kp, _, x, q1, _, q3, _, _⟩ := tmAt_up (ws := keeps) rfl h2
        unfold oneAt at h1
        rw [q1, h2] at h1
        dsimp only at h1
        rw [if_pos (by rw [hn, q1]), tmAt_set, if_pos rfl] at h1
        cases h1
      · exact absurd hk hin
theorem tm_lt {ls : Ls} {k : Nat} {t : Int} (h : tmAt vs ls k = some t) : k < vs.length := by
  unfold tmAt at h
  cases e : vs[k]? with
  | none => rw [e] at h; cases h
  | some v => exact (List.getElem?_eq_some_iff.mp e).1
/-- the facts of a plain row -/
structure PlainOk (keeps needs : List Int) (p : Option Int × Ls) : Prop where
  lt : ∀ k t, tmAt needs p.2 k = some t → ∀ y ∈ others keeps p.1 p.2 k, t < y
  lf : ∀ x, p.1 = some x → ∀ y ∈ tmsB keeps p.2 none, x < y
  ne : ∀ k t, tmAt keeps p.2 k = some t → needs[k]? ≠ keeps[k]?
  one : 1 ≤ bnd keeps p.1 p.2
theorem plain_ok (h : plainRow keeps needs r = some p) (B : InBox needs keeps keeps) (h61 : ∀ k t, tmAt needs r.2 k = some t → t < 61) : PlainOk keeps needs p := by
  have hb : bnd keeps p.1 p.2 = bnd keeps r.1 r.2 := plain_bnd h B h61
  have h1 := plain_some h B
  unfold plainRow at h
  dsimp only at h
  split at h
  · cases h
  · cases h
    have hlt : ∀ {ls : Ls} {k : Nat} {t : Int}, tmAt needs ls k = some t → k ∈ List.range keeps.length := fun q => by
      have := tm_lt q
      rw [B.ln] at this
      exact List.mem_range.mpr this
    refine ⟨fun k t e y hy => ?_, fun x e y hy => ?_, fun k t e => ?_, by omega⟩
    · have h61' := h61 k t (ones_sub _ _ _ (drops_sub _ _ _ e))
      have key := drops_stay (hlt e) e
      unfold others at hy key
      rcases List.mem_append.mp hy with q | q
      · exact key y (List.mem_append_left _ q)
      · rw [List.mem_singleton] at q
        subst q
        have k2 := key _ (List.mem_append_right _ (List.mem_singleton.mpr rfl))
        dsimp only
        unfold lastL
        split
        · split
          · exact h61'
          · rename_i x e2 c1 c2 c3
            rw [c1] at k2
            exact k2
        · exact k2
    · dsimp only at e hy
      unfold lastL at e
      split at e
      · rename_i z m c1 c2
        split at e
        · cases e
        · cases e
          have := (minL_le c2).2 y hy
          omega
      · rename_i l' o c1
        obtain ⟨m, hm⟩ := minL_some (l := tmsB keeps (drops keeps needs (ones keeps needs (List.range keeps.length) r).1 (List.range keeps.length) (ones keeps needs (List.range keeps.length) r).2) none) (fun z => by rw [z] at hy; exact absurd hy List.not_mem_nil)
        exact absurd hm (c1 _ _ e)
    · have := drops_sub _ _ _ e
      exact ones_no (List.mem_range.mpr (tm_lt this)) this
/-- T3 -/
theorem drops_id {ls : Ls} : ∀ {ks : List Nat}, (∀ k t, tmAt needs ls k = some t → ∀ y ∈ others keeps l ls k, t < y) → drops keeps needs l ks ls = ls
  | [], _ => rfl
  | k :: ks, h => by
    have : dropAt keeps needs l ls k = ls := by
      unfold dropAt
      split
      · rename_i t o e1 e2
        have := h k t e1 o (minL_le e2).1
        rw [if_neg (by omega)]
      · rfl
    show drops keeps needs l ks (dropAt keeps needs l ls k) = ls
    rw [this]
    exact drops_id h
theorem ones_id {s : Option Int × Ls} : ∀ {ks : List Nat}, (∀ k t, tmAt keeps s.2 k = some t → needs[k]? ≠ keeps[k]?) → ones keeps needs ks s = s
  | [], _ => rfl
  | k :: ks, h => by
    have : oneAt keeps needs s k = s := by
      unfold oneAt
      split
      · rename_i kp t e1 e2
        rw [if_neg (fun z => h k t e2 (z.trans e1.symm))]
      · rfl
    show ones keeps needs ks (oneAt keeps needs s k) = s
    rw [this]
    exact ones_id h
theorem plain_idem (P : PlainOk keeps needs p) : plainRow keeps needs p = some p := by
  unfold plainRow
  dsimp only
  rw [ones_id P.ne, if_neg (by have := P.one; omega), drops_id P.lt]
  have : lastL keeps p.1 p.2 = p.1 := by
    unfold lastL
    split
    · rename_i x e c1 c2
      have := P.lf x c1 e (minL_le c2).1
      rw [if_neg (by omega), c1]
    · rfl
  rw [this]
/-! T2: without a term it tells more -/
theorem bnd_of {l : Option Int} {ls : Ls} {m : Int} (h : ∃ t ∈ allT vs l ls, t ≤ m) (h2 : ∀ t ∈ allT vs l ls, m ≤ t) : bnd vs l ls = max (-1) m := by
  rw [bnd_def]
  obtain ⟨t, ht, hm⟩ := h
  obtain ⟨n, en⟩ := minL_some (l := allT vs l ls) (fun z => by rw [z] at ht; exact absurd ht List.not_mem_nil)
  obtain ⟨a, b⟩ := minL_le en
  have := h2 n a
  have := b t ht
  rw [en]
  show max (-1) n = _
  omega
theorem bnd_ge {l : Option Int} {ls : Ls} {m : Int} (hm : 0 ≤ m) (h : allT vs l ls ≠ []) (h2 : ∀ t ∈ allT vs l ls, m ≤ t) : m ≤ bnd vs l ls := by
  rw [bnd_def]
  obtain ⟨n, en⟩ := minL_some h
  have := h2 n (minL_le en).1
  rw [en]
  show m ≤ max (-1) n
  omega
theorem all_pos (P : PlainOk keeps needs p) : ∀ t ∈ allT keeps p.1 p.2, 1 ≤ t := fun t ht => by
  have h := P.one
  rw [bnd_def] at h
  obtain ⟨n, en⟩ := minL_some (l := allT keeps p.1 p.2) (fun z => by rw [z] at ht; exact absurd ht List.not_mem_nil)
  rw [en] at h
  have h : 1 ≤ max (-1) n := h
  have := (minL_le en).2 t ht
  omega
theorem without_left (P : PlainOk keeps needs p) {x : Int} (hx : p.1 = some x) (hne : allT keeps none p.2 ≠ []) : max 0 (bnd keeps none p.2) ≠ max 0 (bnd keeps p.1 p.2) := by
  have hx1 := all_pos P x (mem_allT.mpr (.inr hx))
  have h1 : bnd keeps p.1 p.2 = max (-1) x := bnd_of ⟨x, mem_allT.mpr (.inr hx), Int.le_refl _⟩ fun t ht => by
    rw [mem_allT] at ht
    rcases ht with ⟨k, q⟩ | q
    · have := P.lf x hx t (mem_tmsB.mpr ⟨k, by simp, q⟩); omega
    · rw [hx] at q; cases q; omega
  have h2 : x + 1 ≤ bnd keeps none p.2 := bnd_ge (by omega) hne fun t ht => by
    rw [mem_allT] at ht
    rcases ht with ⟨k, q⟩ | q
    · have := P.lf x hx t (mem_tmsB.mpr ⟨k, by simp, q⟩); omega
    · cases q
  omega
/-- the lives that show it: all keeps, the need at k -/
theorem box_at (B : InBox needs keeps keeps) {k : Nat} {n : Int} (hn : needs[k]? = some n) : InBox needs keeps (keeps.set k n) := by
  have hk : k < keeps.length := by rw [← B.ln]; exact (List.getElem?_eq_some_iff.mp hn).1
  have hkk : keeps[k]? = some keeps[k] := List.getElem?_eq_getElem hk
  have hle := B.lo _ _ _ hn hkk
  refine ⟨by rw [List.length_set]; exact B.ln, by rw [List.length_set], fun j a v h1 h2 => ?_, fun j v m h1 h2 => ?_⟩
  · by_cases c : j = k
    · subst c
      rw [List.getElem?_set_self hk] at h2
      rw [hn] at h1
      cases h1; cases h2
      exact Int.le_refl _
    · rw [List.getElem?_set_ne (Ne.symm c)] at h2
      exact B.lo _ _ _ h1 h2
  · by_cases c : j = k
    · subst c
      rw [List.getElem?_set_self hk] at h1
      rw [hkk] at h2
      cases h1; cases h2
      exact hle
    · rw [List.getElem?_set_ne (Ne.symm c)] at h1
      rw [h1] at h2
      cases h2
      exact Int.le_refl _
theorem tmAt_vs {ls : Ls} {k j : Nat} {n : Int} (c : j ≠ k) : tmAt (keeps.set k n) ls j = tmAt keeps ls j := by
  unfold tmAt
  rw [List.getElem?_set_ne (Ne.symm c)]
theorem without_lost (P : PlainOk keeps needs p) (B : InBox needs keeps keeps) {k : Nat} {n x : Int} (hn : needs[k]? = some n) (hx : p.2[k]? = some (some x)) (hne : allT keeps p.1 (p.2.set k none) ≠ []) : max 0 (bnd (keeps.set k n) p.1 (p.2.set k none)) ≠ max 0 (bnd (keeps.set k n) p.1 p.2) := by
  have hk : k < keeps.length := by rw [← B.ln]; exact (List.getElem?_eq_some_iff.mp hn).1
  have tk : tmAt (keeps.set k n) p.2 k = some (n - x) := by unfold tmAt; rw [List.getElem?_set_self hk, hx]
  have tn : tmAt needs p.2 k = some (n - x) := by unfold tmAt; rw [hn, hx]
  have big : ∀ j t, j ≠ k → tmAt keeps p.2 j = some t → n - x < t := fun j t c e => P.lt k _ tn t (List.mem_append_left _ (mem_tmsB.mpr ⟨j, fun z => c (by injection z), e⟩))
  have bigl : ∀ t, p.1 = some t → n - x < t := fun t e => P.lt k _ tn t (List.mem_append_right _ (by rw [e]; exact List.mem_singleton.mpr rfl))
  have pos := all_pos P
  have h1 : bnd (keeps.set k n) p.1 p.2 = max (-1) (n - x) := bnd_of ⟨_, mem_allT.mpr (.inl ⟨k, tk⟩), Int.le_refl _⟩ fun t ht => by
    rw [mem_allT] at ht
    rcases ht with ⟨j, q⟩ | q
    · by_cases c : j = k
      · subst c; rw [tk] at q; cases q; exact Int.le_refl _
      · rw [tmAt_vs c] at q; have := big j t c q; omega
    · have := bigl t q; omega
  have low : ∀ t ∈ allT (keeps.set k n) p.1 (p.2.set k none), n - x < t ∧ 1 ≤ t := fun t ht => by
    rw [mem_allT] at ht
    rcases ht with ⟨j, q⟩ | q
    · rw [tmAt_set] at q
      by_cases c : j = k
      · rw [if_pos c] at q; cases q
      · rw [if_neg c, tmAt_vs c] at q; exact ⟨big j t c q, pos t (mem_allT.mpr (.inl ⟨j, q⟩))⟩
    · exact ⟨bigl t q, pos t (mem_allT.mpr (.inr q))⟩
  have ne2 : allT (keeps.set k n) p.1 (p.2.set k none) ≠ [] := by
    obtain ⟨t, ht⟩ := List.exists_mem_of_ne_nil _ hne
    rw [mem_allT] at ht
    have : t ∈ allT (keeps.set k n) p.1 (p.2.set k none) := by
      rw [mem_allT]
      rcases ht with ⟨j, q⟩ | q
      · rw [tmAt_set] at q
        by_cases c : j = k
        · rw [if_pos c] at q; cases q
        · rw [if_neg c] at q; exact .inl ⟨j, by rw [tmAt_set, if_neg c, tmAt_vs c]; exact q⟩
      · exact .inr q
    intro z
    rw [z] at this
    exact absurd this List.not_mem_nil
  have h2 : max 1 (n - x + 1) ≤ bnd (keeps.set k n) p.1 (p.2.set k none) := bnd_ge (by omega) ne2 fun t ht => by have := low t ht; omega
  omega
end Pm

set_option maxRecDepth 100000
set_option maxHeartbeats 400000
/-! k28: all lives between needs and keeps -/
namespace Pm
open PySem L2
def upto (n k : Int) : List Int := (List.range (k - n).toNat).map fun (i : Nat) => n + (i : Int)
def boxStep (acc : List (List Int)) (p : Int × Int) : List (List Int) := acc.flatMap fun vs => (upto p.1 (p.2 + 1)).map fun v => vs ++ [v]
def boxL (ps : List (Int × Int)) : List (List Int) := ps.foldl boxStep [[]]
theorem mem_upto {n k v : Int} : v ∈ upto n k ↔ n ≤ v ∧ v < k := by
  unfold upto
  rw [List.mem_map]
  constructor
  · rintro ⟨i, hi, rfl⟩
    have := List.mem_range.mp hi
    omega
  · rintro ⟨h1, h2⟩
    exact ⟨(v - n).toNat, List.mem_range.mpr (by omega), by omega⟩
/-- lives that fit, place by place -/
inductive Fits : List (Int × Int) → List Int → Prop
  | nil : Fits [] []
  | cons {p : Int × Int} {ps : List (Int × Int)} {v : Int} {vs : List Int} : p.1 ≤ v → v ≤ p.2 → Fits ps vs → Fits (p :: ps) (v :: vs)
theorem mem_box : ∀ {ps : List (Int × Int)} {acc : List (List Int)} {vs : List Int}, vs ∈ ps.foldl boxStep acc ↔ ∃ a ∈ acc, ∃ ws, vs = a ++ ws ∧ Fits ps ws
  | [], acc, vs => by
    constructor
    · exact fun h => ⟨vs, h, [], by simp, .nil⟩
    · rintro ⟨a, ha, ws, rfl, f⟩
      cases f
      rw [List.append_nil]
      exact ha
  | p :: ps, acc, vs => by
    rw [List.foldl_cons, mem_box]
    constructor
    · rintro ⟨a, ha, ws, rfl, f⟩
      unfold boxStep at ha
      rw [List.mem_flatMap] at ha
      obtain ⟨b, hb, ha⟩ := ha
      rw [List.mem_map] at ha
      obtain ⟨v, hv, rfl⟩ := ha
      rw [mem_upto] at hv
      exact ⟨b, hb, v :: ws, by simp, .cons hv.1 (by omega) f⟩
    · rintro ⟨a, ha, ws, rfl, f⟩
      cases f with
      | cons h1 h2 f =>
        rename_i v ws
        refine ⟨a ++ [v], ?_, ws, by simp, f⟩
        unfold boxStep
        rw [List.mem_flatMap]
        exact ⟨a, ha, List.mem_map.mpr ⟨v, mem_upto.mpr ⟨h1, by omega⟩, rfl⟩⟩
theorem fits_of : ∀ {needs keeps vs : List Int}, InBox needs keeps vs → Fits (needs.zip keeps) vs
  | [], keeps, vs, B => by
    have h1 := B.ln
    cases vs with
    | nil => exact .nil
    | cons v vs => simp at h1
  | n :: needs, [], vs, B => by
    have h1 := B.ln
    have h2 := B.lk
    simp at h1 h2
    omega
  | n :: needs, k :: keeps, [], B => by have h1 := B.ln; simp at h1
  | n :: needs, k :: keeps, v :: vs, B => by
    rw [List.zip_cons_cons]
    refine .cons (B.lo 0 n v rfl rfl) (B.hi 0 v k rfl rfl) (fits_of ⟨by have := B.ln; simpa using this, by have := B.lk; simpa using this, fun i a b h1 h2 => B.lo (i + 1) a b (by simpa using h1) (by simpa using h2), fun i a b h1 h2 => B.hi (i + 1) a b (by simpa using h1) (by simpa using h2)⟩)
theorem of_fits : ∀ {needs keeps vs : List Int}, needs.length = keeps.length → Fits (needs.zip keeps) vs → InBox needs keeps vs
  | [], [], vs, _, f => by
    cases f
    exact ⟨rfl, rfl, fun k n v h1 _ => by simp at h1, fun k v m h1 _ => by simp at h1⟩
  | [], _ :: _, _, h, _ => by simp at h
  | _ :: _, [], _, h, _ => by simp at h
  | n :: needs, k :: keeps, vs, h, f => by
    rw [List.zip_cons_cons] at f
    cases f with
    | cons h1 h2 f =>
      rename_i v vs
      have ih := of_fits (by simpa using h) f
      refine ⟨by rw [List.length_cons, List.length_cons, ih.ln], by rw [List.length_cons, List.length_cons, ih.lk], fun i a b e1 e2 => ?_, fun i a b e1 e2 => ?_⟩
      · cases i with
        | zero => simp at e1 e2; subst e1 e2; exact h1
        | succ i => exact ih.lo i a b (by simpa using e1) (by simpa using e2)
      · cases i with
        | zero => simp at e1 e2; subst e1 e2; exact h2
        | succ i => exact ih.hi i a b (by simpa using e1) (by simpa using e2)
theorem mem_boxL {needs keeps vs : List Int} (h : needs.length = keeps.length) : vs ∈ boxL (needs.zip keeps) ↔ InBox needs keeps vs := by
  unfold boxL
  rw [mem_box]
  constructor
  · rintro ⟨a, ha, ws, rfl, f⟩
    rw [List.mem_singleton] at ha
    subst ha
    exact of_fits h f
  · exact fun B => ⟨[], List.mem_singleton.mpr rfl, vs, by simp, fits_of B⟩
end Pm

set_option maxRecDepth 100000
set_option maxHeartbeats 1000000
/-! Rows of lives as objects, for any table -/
namespace Pm
open PySem L2
def leastO : Option Int → Option Int → Option Int
  | none, b => b
  | some a, none => some a
  | some a, some b => some (if b < a then b else a)
def rowS (r : Option Int × List (Option Int)) : List (Str × D) := [("_left", tm r.1), ("_lost", .tup (r.2.map tm))]
def rowI (r : Option Int × List (Option Int)) : D := .ins "LifeRow" (rowS r)
theorem ins_row {m : Mu} (r : Option Int × List (Option Int)) : insOf m (rowI r) = some (("LifeRow" : Str), rowS r) := rfl
theorem set_last {m : Mu} (o o' : O) : (m ++ [o]).set m.length o' = m ++ [o'] := by
  rw [List.set_append_right _ _ (Nat.le_refl _), Nat.sub_self]; rfl
theorem get_last {m : Mu} (o : O) : (m ++ [o])[m.length]? = some o := by simp
theorem ints_of : ∀ l : List Int, intsOf (l.map D.int) = some l
  | [] => rfl
  | a :: l => by rw [List.map_cons]; unfold intsOf; rw [ints_of l]; rfl
def terms (lv : List Int) (ls : List (Option Int)) : List Int := (lv.zip ls).filterMap fun p => p.2.map fun o => p.1 - o
theorem terms_eq : ∀ (lv : List Int) (ls : List (Option Int)), terms lv ls = tmsB lv ls none
  | [], ls => by simp [terms, tmsB]
  | v :: lv, [] => by
    have : tmsB (v :: lv) [] none = [] := by
      rw [List.eq_nil_iff_forall_not_mem]
      intro t ht
      rw [mem_tmsB] at ht
      obtain ⟨k, _, h⟩ := ht
      unfold tmAt at h
      cases (v :: lv)[k]? <;> simp at h
    rw [this]
    simp [terms]
  | v :: lv, o :: ls => by
    have h : tmsB (v :: lv) (o :: ls) none = (o.map fun x => v - x).toList ++ tmsB lv ls none := by
      unfold tmsB
      rw [List.length_cons, List.range_succ_eq_map, List.filterMap_cons, List.filterMap_map]
      have e0 : tmAt (v :: lv) (o :: ls) 0 = o.map fun x => v - x := by cases o <;> rfl
      have es : ((fun k => if some k = none then none else tmAt (v :: lv) (o :: ls) k) ∘ Nat.succ) = fun k => if some k = (none : Option Nat) then none else tmAt lv ls k := by
        funext k
        show (if some (k + 1) = none then none else tmAt (v :: lv) (o :: ls) (k + 1)) = _
        rw [if_neg (by simp), if_neg (by simp)]
        unfold tmAt
        rw [List.getElem?_cons_succ, List.getElem?_cons_succ]
      rw [es, if_neg (by simp), e0]
      cases o <;> rfl
    rw [h, ← terms_eq lv ls]
    unfold terms
    rw [List.zip_cons_cons, List.filterMap_cons]
    cases o <;> rfl
def ioD (p : Int × Option Int) : D := .tup [.int p.1, tm p.2]
theorem zip_io : ∀ (lv : List Int) (ks : List (Option Int)), List.zipWith (fun x y => D.tup [x, y]) (lv.map D.int) (ks.map tm) = (lv.zip ks).map ioD
  | [], _ => by simp
  | _ :: _, [] => by simp
  | a :: ls, b :: ks => by
    rw [List.map_cons, List.map_cons, List.zipWith_cons_cons, List.zip_cons_cons, List.map_cons, zip_io ls ks]
    rfl
theorem zip_len' (lv : List Int) (ks : List (Option Int)) (h : lv.length ≤ 3) : (lv.zip ks).length ≤ sizeLine := by
  have := three
  rw [List.length_zip]
  omega
theorem terms_len (lv : List Int) (ls : List (Option Int)) : (terms lv ls).length ≤ lv.length := by
  unfold terms
  refine Nat.le_trans (List.length_filterMap_le ..) ?_
  rw [List.length_zip]; omega
theorem terms_map (lv : List Int) (ls : List (Option Int)) : (lv.zip ls).filterMap (fun p => p.2.map fun o => D.int (p.1 - o)) = (terms lv ls).map .int := by
  unfold terms
  rw [List.map_filterMap]
  congr 1
  funext p
  cases p.2 <;> rfl
theorem allT_eq (lv : List Int) (r : Option Int × List (Option Int)) : allT lv r.1 r.2 = terms lv r.2 ++ r.1.toList := by unfold allT; rw [terms_eq]
theorem w_two : (0 + 1 + 1 ≤ sizeLine) = True := by decide
theorem w_one : (0 + 1 ≤ sizeLine) = True := by decide
section
variable {G : Gm} {m : Mu}
theorem blt_max {a b : Int} : bltD G .max [.int a, .int b] m = .ok (.int (if a < b then b else a)) m := rfl
theorem blt_min {a b : Int} : bltD G .min [.int a, .int b] m = .ok (.int (if b < a then b else a)) m := rfl
theorem least_ok (a b : Option Int) : runF G 2 2 bLeastTerm [tm a, tm b] m = .ok (tm (leastO a b)) m := by
  unfold runF bLeastTerm
  cases a <;> cases b <;> simp only [evCs, evC.eq_1, evC.eq_2, evC.eq_3, evC.eq_4, evC.eq_7, evC.eq_8, evC.eq_9, evC.eq_10, evC.eq_11, evC.eq_12, evE.eq_1, evE.eq_2, evE.eq_3, evE.eq_4, evE.eq_5, evE.eq_6, evE.eq_7, evE.eq_8, evE.eq_9, evE.eq_10, evE.eq_11, evE.eq_12, evE.eq_13, evE.eq_14, evE.eq_15, evE.eq_16, evE.eq_17, evE.eq_18, evE.eq_19, evE.eq_20, evE.eq_21, evE.eq_22, evE.eq_24, evE.eq_25, evE.eq_26, evE.eq_27, evE.eq_28, evEs, evG, evGs, rs_ok, List.map_cons, List.map_nil, List.length_cons, List.length_nil, List.cons_append, List.nil_append, List.getElem?_cons_zero, List.getElem?_cons_succ, Nat.zero_add, Nat.reduceAdd, Nat.reduceSub, List.replicate_succ, List.replicate_zero, List.set_cons_succ, List.set_cons_zero, if_true, tm, cmD_is, D.isNon, leastO, blt_min]
theorem att_left0 (h : G.fl "LifeRow" "_left" = true) (r : Option Int × List (Option Int)) : attD G m (rowI r) "_left" = .ok (tm r.1) m := by
  unfold attD
  rw [ins_row]
  simp only [h, if_true]
  rfl
theorem att_lost0 (h : G.fl "LifeRow" "_lost" = true) (r : Option Int × List (Option Int)) : attD G m (rowI r) "_lost" = .ok (.tup (r.2.map tm)) m := by
  unfold attD
  rw [ins_row]
  simp only [h, if_true]
  rfl
theorem left_ok (h : G.fl "LifeRow" "_left" = true) (r : Option Int × List (Option Int)) : runF G 1 1 bRowleft [rowI r] m = .ok (tm r.1) m := by
  have := att_left0 (m := m) h r
  unfold runF bRowleft
  simp only [evCs, evC.eq_1, evC.eq_2, evC.eq_3, evC.eq_4, evC.eq_7, evC.eq_8, evC.eq_9, evC.eq_10, evC.eq_11, evC.eq_12, evE.eq_1, evE.eq_2, evE.eq_3, evE.eq_4, evE.eq_5, evE.eq_6, evE.eq_7, evE.eq_8, evE.eq_9, evE.eq_10, evE.eq_11, evE.eq_12, evE.eq_13, evE.eq_14, evE.eq_15, evE.eq_16, evE.eq_17, evE.eq_18, evE.eq_19, evE.eq_20, evE.eq_21, evE.eq_22, evE.eq_24, evE.eq_25, evE.eq_26, evE.eq_27, evE.eq_28, evEs, evG, evGs, rs_ok, List.map_cons, List.map_nil, List.length_cons, List.length_nil, List.cons_append, List.nil_append, List.getElem?_cons_zero, List.getElem?_cons_succ, Nat.zero_add, Nat.reduceAdd, Nat.reduceSub, List.replicate_succ, List.replicate_zero, List.set_cons_succ, List.set_cons_zero, if_true, this]
theorem lost_ok (h : G.fl "LifeRow" "_lost" = true) (r : Option Int × List (Option Int)) : runF G 1 1 bRowlost [rowI r] m = .ok (.tup (r.2.map tm)) m := by
  have := att_lost0 (m := m) h r
  unfold runF bRowlost
  simp only [evCs, evC.eq_1, evC.eq_2, evC.eq_3, evC.eq_4, evC.eq_7, evC.eq_8, evC.eq_9, evC.eq_10, evC.eq_11, evC.eq_12, evE.eq_1, evE.eq_2, evE.eq_3, evE.eq_4, evE.eq_5, evE.eq_6, evE.eq_7, evE.eq_8, evE.eq_9, evE.eq_10, evE.eq_11, evE.eq_12, evE.eq_13, evE.eq_14, evE.eq_15, evE.eq_16, evE.eq_17, evE.eq_18, evE.eq_19, evE.eq_20, evE.eq_21, evE.eq_22, evE.eq_24, evE.eq_25, evE.eq_26, evE.eq_27, evE.eq_28, evEs, evG, evGs, rs_ok, List.map_cons, List.map_nil, List.length_cons, List.length_nil, List.cons_append, List.nil_append, List.getElem?_cons_zero, List.getElem?_cons_succ, Nat.zero_add, Nat.reduceAdd, Nat.reduceSub, List.replicate_succ, List.replicate_zero, List.set_cons_succ, List.set_cons_zero, if_true, this]
theorem mkrow_ok (h1 : G.fl "LifeRow" "_left" = true) (h2 : G.fl "LifeRow" "_lost" = true) {X : D} {l : Option Int} {ls : List (Option Int)} (h : ∀ o : O, bltD G .tuple [X] (m ++ [o]) = .ok (.tup (ls.map tm)) (m ++ [o])) : mkFn "LifeRow" true (runF G 3 3 bRowinit) [tm l, X] m = .ok (rowI (l, ls)) (m ++ [.dead]) := by
  have hi : runF G 3 3 bRowinit [.own m.length, tm l, X] (m ++ [.ins "LifeRow" []]) = .ok .non (m ++ [.ins "LifeRow" [("_left", tm l), ("_lost", .tup (ls.map tm))]]) := by
    have z : (0 < 1000) = True := by decide
    have z1 : (0 + 1 < 1000) = True := by decide
    unfold runF bRowinit
    simp only [evCs, evC.eq_1, evC.eq_2, evC.eq_3, evC.eq_4, evC.eq_7, evC.eq_8, evC.eq_9, evC.eq_10, evC.eq_11, evC.eq_12, evE.eq_1, evE.eq_2, evE.eq_3, evE.eq_4, evE.eq_5, evE.eq_6, evE.eq_7, evE.eq_8, evE.eq_9, evE.eq_10, evE.eq_11, evE.eq_12, evE.eq_13, evE.eq_14, evE.eq_15, evE.eq_16, evE.eq_17, evE.eq_18, evE.eq_19, evE.eq_20, evE.eq_21, evE.eq_22, evE.eq_24, evE.eq_25, evE.eq_26, evE.eq_27, evE.eq_28, evEs, evG, evGs, rs_ok, List.map_cons, List.map_nil, List.length_cons, List.length_nil, List.cons_append, List.nil_append, List.getElem?_cons_zero, List.getElem?_cons_succ, Nat.zero_add, Nat.reduceAdd, Nat.reduceSub, List.replicate_succ, List.replicate_zero, List.set_cons_succ, List.set_cons_zero, if_true, get_last, h1, h2, z, z1, set_last, putD, h]
    rfl
  unfold mkFn
  rw [hi, rs_ok, get_last]
  simp only [if_true, set_last]
  rfl
/-- a row at lives -/
theorem call_ok (h1 : G.fl "LifeRow" "_left" = true) (h2 : G.fl "LifeRow" "_lost" = true) (r : Option Int × List (Option Int)) (lv : List Int) (hl : lv.length ≤ 3) {i : Int} (hi : minL (allT lv r.1 r.2) = some i) : runF G 2 5 bRowcall [rowI r, .tup (lv.map .int)] m = .ok (.int (bnd lv r.1 r.2)) (m ++ [.lst ((allT lv r.1 r.2).map .int)]) := by
  have hb : bnd lv r.1 r.2 = if i < -1 then -1 else i := by
    unfold bnd
    rw [hi]
    show max (-1) i = _
    split <;> omega
  rw [hb]
  rw [allT_eq] at hi ⊢
  have a1 : ∀ r (m : Mu), attD G m (rowI r) "_left" = .ok (tm r.1) m := fun r m => att_left0 h1 r
  have a2 : ∀ r (m : Mu), attD G m (rowI r) "_lost" = .ok (.tup (r.2.map tm)) m := fun r m => att_lost0 h2 r
  have lc : ∀ x y z, evE G (.lc true (.tup [(.nm 3), (.nm 4)]) (.zip (.var 1) (.att (.var 0) "_lost")) (some (.cmp .IsNot (.var 4) (.con .non))) (.bin .Sub (.var 3) (.var 4)) [3, 4]) [some (rowI r), some (.tup (lv.map .int)), x, y, z] m = .ok (.own m.length) (m ++ [.lst ((terms lv r.2).map .int)]) := fun x y z => by
    have := lc_srcO (G := G) (m := m) (ρ := [some (rowI r), some (.tup (lv.map .int)), x, y, z]) (g := .tup [(.nm 3), (.nm 4)]) (it := .zip (.var 1) (.att (.var 0) "_lost")) (c := some (.cmp .IsNot (.var 4) (.con .non))) (elt := .bin .Sub (.var 3) (.var 4)) (ws := [3, 4]) (lv.zip r.2) ioD (fun p => p.2.map fun o => D.int (p.1 - o))
      (by rw [← zip_io]; refine evI_zip ?_ ?_ <;> simp only [evCs, evC.eq_1, evC.eq_2, evC.eq_3, evC.eq_4, evC.eq_7, evC.eq_8, evC.eq_9, evC.eq_10, evC.eq_11, evC.eq_12, evE.eq_1, evE.eq_2, evE.eq_3, evE.eq_4, evE.eq_5, evE.eq_6, evE.eq_7, evE.eq_8, evE.eq_9, evE.eq_10, evE.eq_11, evE.eq_12, evE.eq_13, evE.eq_14, evE.eq_15, evE.eq_16, evE.eq_17, evE.eq_18, evE.eq_19, evE.eq_20, evE.eq_21, evE.eq_22, evE.eq_24, evE.eq_25, evE.eq_26, evE.eq_27, evE.eq_28, evEs, evG, evGs, rs_ok, List.map_cons, List.map_nil, List.length_cons, List.length_nil, List.cons_append, List.nil_append, List.getElem?_cons_zero, List.getElem?_cons_succ, Nat.zero_add, Nat.reduceAdd, Nat.reduceSub, List.replicate_succ, List.replicate_zero, List.set_cons_succ, List.set_cons_zero, if_true, a2]) rfl (zip_len' _ _ (by omega)) fun p _ => by
        obtain ⟨a, b⟩ := p
        cases b <;> simp only [lcT, evT, evCs, evC.eq_1, evC.eq_2, evC.eq_3, evC.eq_4, evC.eq_7, evC.eq_8, evC.eq_9, evC.eq_10, evC.eq_11, evC.eq_12, evE.eq_1, evE.eq_2, evE.eq_3, evE.eq_4, evE.eq_5, evE.eq_6, evE.eq_7, evE.eq_8, evE.eq_9, evE.eq_10, evE.eq_11, evE.eq_12, evE.eq_13, evE.eq_14, evE.eq_15, evE.eq_16, evE.eq_17, evE.eq_18, evE.eq_19, evE.eq_20, evE.eq_21, evE.eq_22, evE.eq_24, evE.eq_25, evE.eq_26, evE.eq_27, evE.eq_28, evEs, evG, evGs, rs_ok, List.map_cons, List.map_nil, List.length_cons, List.length_nil, List.cons_append, List.nil_append, List.getElem?_cons_zero, List.getElem?_cons_succ, Nat.zero_add, Nat.reduceAdd, Nat.reduceSub, List.replicate_succ, List.replicate_zero, List.set_cons_succ, List.set_cons_zero, if_true, wipeD, ioD, tm, cmD_isNot, D.isNon, Bool.not_true, Bool.not_false, Bool.false_eq_true, if_false, opD_sub, Option.map_none, Option.map_some]
    rw [this, terms_map]
  have hap : evC G (.ife (.cmp .IsNot (.att (.var 0) "_left") (.con .non)) [(.expr (.bm (.var 2) .append [(.att (.var 0) "_left")]))] []) [some (rowI r), some (.tup (lv.map .int)), some (.own m.length), none, none] (m ++ [.lst ((terms lv r.2).map .int)]) = .ok (.nx [some (rowI r), some (.tup (lv.map .int)), some (.own m.length), none, none]) (m ++ [.lst ((terms lv r.2 ++ r.1.toList).map .int)]) := by
    have tl := terms_len lv r.2
    have z : ((terms lv r.2).map D.int).length < sizeLine := by have := three; rw [List.length_map]; omega
    have hg : lookT (m ++ [.lst ((terms lv r.2).map D.int)]) (.own m.length) = some ((terms lv r.2).map D.int) := by simp [lookT]
    cases h1 : r.1 with
    | none => simp only [evCs, evC.eq_1, evC.eq_2, evC.eq_3, evC.eq_4, evC.eq_7, evC.eq_8, evC.eq_9, evC.eq_10, evC.eq_11, evC.eq_12, evE.eq_1, evE.eq_2, evE.eq_3, evE.eq_4, evE.eq_5, evE.eq_6, evE.eq_7, evE.eq_8, evE.eq_9, evE.eq_10, evE.eq_11, evE.eq_12, evE.eq_13, evE.eq_14, evE.eq_15, evE.eq_16, evE.eq_17, evE.eq_18, evE.eq_19, evE.eq_20, evE.eq_21, evE.eq_22, evE.eq_24, evE.eq_25, evE.eq_26, evE.eq_27, evE.eq_28, evEs, evG, evGs, rs_ok, List.map_cons, List.map_nil, List.length_cons, List.length_nil, List.cons_append, List.nil_append, List.getElem?_cons_zero, List.getElem?_cons_succ, Nat.zero_add, Nat.reduceAdd, Nat.reduceSub, List.replicate_succ, List.replicate_zero, List.set_cons_succ, List.set_cons_zero, if_true, a1, h1, tm, cmD_isNot, D.isNon, Bool.not_true, Option.toList_none, List.append_nil]
    | some a =>
      simp only [evCs, evC.eq_1, evC.eq_2, evC.eq_3, evC.eq_4, evC.eq_7, evC.eq_8, evC.eq_9, evC.eq_10, evC.eq_11, evC.eq_12, evE.eq_1, evE.eq_2, evE.eq_3, evE.eq_4, evE.eq_5, evE.eq_6, evE.eq_7, evE.eq_8, evE.eq_9, evE.eq_10, evE.eq_11, evE.eq_12, evE.eq_13, evE.eq_14, evE.eq_15, evE.eq_16, evE.eq_17, evE.eq_18, evE.eq_19, evE.eq_20, evE.eq_21, evE.eq_22, evE.eq_24, evE.eq_25, evE.eq_26, evE.eq_27, evE.eq_28, evEs, evG, evGs, rs_ok, List.map_cons, List.map_nil, List.length_cons, List.length_nil, List.cons_append, List.nil_append, List.getElem?_cons_zero, List.getElem?_cons_succ, Nat.zero_add, Nat.reduceAdd, Nat.reduceSub, List.replicate_succ, List.replicate_zero, List.set_cons_succ, List.set_cons_zero, if_true, a1, h1, tm, cmD_isNot, D.isNon, Bool.not_false, Option.toList_some, hg, mtD, get_last, z, set_last, List.map_append]
  have hmin : ∀ mm : Mu, mm[m.length]? = some (.lst ((terms lv r.2 ++ r.1.toList).map .int)) → bltD G .min [.own m.length] mm = .ok (.int i) mm := fun mm e => by
    simp only [bltD, look, e, Option.bind_some, ints_of, hi]
  unfold runF
  rw [if_pos (show [rowI r, D.tup (lv.map .int)].length = 2 from rfl), show [rowI r, D.tup (lv.map .int)].map some ++ List.replicate (5 - [rowI r, D.tup (lv.map .int)].length) none = [some (rowI r), some (.tup (lv.map .int)), none, none, none] from rfl]
  unfold bRowcall
  rw [evCs_nx (ρ' := [some (rowI r), some (.tup (lv.map .int)), some (.own m.length), none, none]) (m' := m ++ [.lst ((terms lv r.2).map .int)]) (by rw [evC, lc, rs_ok, evG, rs_ok]; rfl), evCs_nx hap]
  simp only [evCs, evC.eq_1, evC.eq_2, evC.eq_3, evC.eq_4, evC.eq_7, evC.eq_8, evC.eq_9, evC.eq_10, evC.eq_11, evC.eq_12, evE.eq_1, evE.eq_2, evE.eq_3, evE.eq_4, evE.eq_5, evE.eq_6, evE.eq_7, evE.eq_8, evE.eq_9, evE.eq_10, evE.eq_11, evE.eq_12, evE.eq_13, evE.eq_14, evE.eq_15, evE.eq_16, evE.eq_17, evE.eq_18, evE.eq_19, evE.eq_20, evE.eq_21, evE.eq_22, evE.eq_24, evE.eq_25, evE.eq_26, evE.eq_27, evE.eq_28, evEs, evG, evGs, rs_ok, List.map_cons, List.map_nil, List.length_cons, List.length_nil, List.cons_append, List.nil_append, List.getElem?_cons_zero, List.getElem?_cons_succ, Nat.zero_add, Nat.reduceAdd, Nat.reduceSub, List.replicate_succ, List.replicate_zero, List.set_cons_succ, List.set_cons_zero, if_true, hmin _ (get_last _), blt_max]
/-- the law's own reckoning of a row at lives -/
theorem bound_ok (r : Option Int × List (Option Int)) (lv : List Int) (hl : lv.length ≤ 3) {i : Int} (hi : minL (allT lv r.1 r.2) = some i) : runF G 2 7 bBound [rowD r, .tup (lv.map .int)] m = .ok (.int (bnd lv r.1 r.2)) m := by
  have hb : bnd lv r.1 r.2 = if -1 < i then i else -1 := by
    unfold bnd
    rw [hi]
    show max (-1) i = _
    split <;> omega
  rw [hb]
  rw [allT_eq] at hi
  have lc : ∀ z x y w, evE G (.lc false (.tup [(.nm 5), (.nm 6)]) (.zip (.var 1) (.var 3)) (some (.cmp .IsNot (.var 6) (.con .non))) (.bin .Sub (.var 5) (.var 6)) [5, 6]) [some (rowD r), some (.tup (lv.map .int)), z, some (.tup (r.2.map tm)), x, y, w] m = .ok (.lst ((terms lv r.2).map .int)) m := fun z x y w => by
    have := lc_src (G := G) (m := m) (ρ := [some (rowD r), some (.tup (lv.map .int)), z, some (.tup (r.2.map tm)), x, y, w]) (g := .tup [(.nm 5), (.nm 6)]) (it := .zip (.var 1) (.var 3)) (c := some (.cmp .IsNot (.var 6) (.con .non))) (elt := .bin .Sub (.var 5) (.var 6)) (ws := [5, 6]) (lv.zip r.2) ioD (fun p => p.2.map fun o => D.int (p.1 - o))
      (by rw [← zip_io]; refine evI_zip ?_ ?_ <;> simp only [evCs, evC.eq_1, evC.eq_2, evC.eq_3, evC.eq_4, evC.eq_7, evC.eq_8, evC.eq_9, evC.eq_10, evC.eq_11, evC.eq_12, evE.eq_1, evE.eq_2, evE.eq_3, evE.eq_4, evE.eq_5, evE.eq_6, evE.eq_7, evE.eq_8, evE.eq_9, evE.eq_10, evE.eq_11, evE.eq_12, evE.eq_13, evE.eq_14, evE.eq_15, evE.eq_16, evE.eq_17, evE.eq_18, evE.eq_19, evE.eq_20, evE.eq_21, evE.eq_22, evE.eq_24, evE.eq_25, evE.eq_26, evE.eq_27, evE.eq_28, evEs, evG, evGs, rs_ok, List.map_cons, List.map_nil, List.length_cons, List.length_nil, List.cons_append, List.nil_append, List.getElem?_cons_zero, List.getElem?_cons_succ, Nat.zero_add, Nat.reduceAdd, Nat.reduceSub, List.replicate_succ, List.replicate_zero, List.set_cons_succ, List.set_cons_zero, if_true]) rfl (zip_len' _ _ (by omega)) fun p _ => by
        obtain ⟨a, b⟩ := p
        cases b <;> simp only [lcT, evT, evCs, evC.eq_1, evC.eq_2, evC.eq_3, evC.eq_4, evC.eq_7, evC.eq_8, evC.eq_9, evC.eq_10, evC.eq_11, evC.eq_12, evE.eq_1, evE.eq_2, evE.eq_3, evE.eq_4, evE.eq_5, evE.eq_6, evE.eq_7, evE.eq_8, evE.eq_9, evE.eq_10, evE.eq_11, evE.eq_12, evE.eq_13, evE.eq_14, evE.eq_15, evE.eq_16, evE.eq_17, evE.eq_18, evE.eq_19, evE.eq_20, evE.eq_21, evE.eq_22, evE.eq_24, evE.eq_25, evE.eq_26, evE.eq_27, evE.eq_28, evEs, evG, evGs, rs_ok, List.map_cons, List.map_nil, List.length_cons, List.length_nil, List.cons_append, List.nil_append, List.getElem?_cons_zero, List.getElem?_cons_succ, Nat.zero_add, Nat.reduceAdd, Nat.reduceSub, List.replicate_succ, List.replicate_zero, List.set_cons_succ, List.set_cons_zero, if_true, wipeD, ioD, tm, cmD_isNot, D.isNon, Bool.not_true, Bool.not_false, Bool.false_eq_true, if_false, opD_sub, Option.map_none, Option.map_some]
    rw [this, terms_map]
  have tl := terms_len lv r.2
  have ad : opD G .Add (.lst ((terms lv r.2).map .int)) (.lst (r.1.toList.map .int)) m = .ok (.lst ((terms lv r.2 ++ r.1.toList).map .int)) m := by
    have z : ((terms lv r.2).map D.int).length + (r.1.toList.map D.int).length ≤ sizeLine := by
      have zz : 4 ≤ sizeLine := by decide
      rw [List.length_map, List.length_map]
      have : r.1.toList.length ≤ 1 := by cases r.1 <;> simp
      omega
    simp only [opD, binD, binL, lookT, z, if_true, List.map_append]
  have el : ∀ x y w, evE G (.bin .Mult (.lst [(.var 2)]) (.blt .int [(.cmp .IsNot (.var 2) (.con .non))])) [some (rowD r), some (.tup (lv.map .int)), some (tm r.1), some (.tup (r.2.map tm)), x, y, w] m = .ok (.lst (r.1.toList.map .int)) m := fun x y w => by
    have z1 : (0 + 1 ≤ sizeLine) = True := by decide
    cases h1 : r.1 with
    | none => simp only [evCs, evC.eq_1, evC.eq_2, evC.eq_3, evC.eq_4, evC.eq_7, evC.eq_8, evC.eq_9, evC.eq_10, evC.eq_11, evC.eq_12, evE.eq_1, evE.eq_2, evE.eq_3, evE.eq_4, evE.eq_5, evE.eq_6, evE.eq_7, evE.eq_8, evE.eq_9, evE.eq_10, evE.eq_11, evE.eq_12, evE.eq_13, evE.eq_14, evE.eq_15, evE.eq_16, evE.eq_17, evE.eq_18, evE.eq_19, evE.eq_20, evE.eq_21, evE.eq_22, evE.eq_24, evE.eq_25, evE.eq_26, evE.eq_27, evE.eq_28, evEs, evG, evGs, rs_ok, List.map_cons, List.map_nil, List.length_cons, List.length_nil, List.cons_append, List.nil_append, List.getElem?_cons_zero, List.getElem?_cons_succ, Nat.zero_add, Nat.reduceAdd, Nat.reduceSub, List.replicate_succ, List.replicate_zero, List.set_cons_succ, List.set_cons_zero, if_true, h1, z1, tm, cmD_isNot, D.isNon, bltD, Bool.not_true]; rfl
    | some a => simp only [evCs, evC.eq_1, evC.eq_2, evC.eq_3, evC.eq_4, evC.eq_7, evC.eq_8, evC.eq_9, evC.eq_10, evC.eq_11, evC.eq_12, evE.eq_1, evE.eq_2, evE.eq_3, evE.eq_4, evE.eq_5, evE.eq_6, evE.eq_7, evE.eq_8, evE.eq_9, evE.eq_10, evE.eq_11, evE.eq_12, evE.eq_13, evE.eq_14, evE.eq_15, evE.eq_16, evE.eq_17, evE.eq_18, evE.eq_19, evE.eq_20, evE.eq_21, evE.eq_22, evE.eq_24, evE.eq_25, evE.eq_26, evE.eq_27, evE.eq_28, evEs, evG, evGs, rs_ok, List.map_cons, List.map_nil, List.length_cons, List.length_nil, List.cons_append, List.nil_append, List.getElem?_cons_zero, List.getElem?_cons_succ, Nat.zero_add, Nat.reduceAdd, Nat.reduceSub, List.replicate_succ, List.replicate_zero, List.set_cons_succ, List.set_cons_zero, if_true, h1, z1, tm, cmD_isNot, D.isNon, bltD, Bool.not_false]; rfl
  unfold runF bBound
  rw [if_pos (show [rowD r, D.tup (lv.map .int)].length = 2 from rfl), show [rowD r, D.tup (lv.map .int)].map some ++ List.replicate (7 - [rowD r, D.tup (lv.map .int)].length) none = [some (rowD r), some (.tup (lv.map .int)), none, none, none, none, none] from rfl,
    evCs_nx (ρ' := [some (rowD r), some (.tup (lv.map .int)), some (tm r.1), some (.tup (r.2.map tm)), none, none, none]) (m' := m) (by simp only [evCs, evC.eq_1, evC.eq_2, evC.eq_3, evC.eq_4, evC.eq_7, evC.eq_8, evC.eq_9, evC.eq_10, evC.eq_11, evC.eq_12, evE.eq_1, evE.eq_2, evE.eq_3, evE.eq_4, evE.eq_5, evE.eq_6, evE.eq_7, evE.eq_8, evE.eq_9, evE.eq_10, evE.eq_11, evE.eq_12, evE.eq_13, evE.eq_14, evE.eq_15, evE.eq_16, evE.eq_17, evE.eq_18, evE.eq_19, evE.eq_20, evE.eq_21, evE.eq_22, evE.eq_24, evE.eq_25, evE.eq_26, evE.eq_27, evE.eq_28, evEs, evG, evGs, rs_ok, List.map_cons, List.map_nil, List.length_cons, List.length_nil, List.cons_append, List.nil_append, List.getElem?_cons_zero, List.getElem?_cons_succ, Nat.zero_add, Nat.reduceAdd, Nat.reduceSub, List.replicate_succ, List.replicate_zero, List.set_cons_succ, List.set_cons_zero, if_true, show rowD r = .tup [tm r.1, .tup (r.2.map tm)] from rfl]),
    evCs_nx (ρ' := [some (rowD r), some (.tup (lv.map .int)), some (tm r.1), some (.tup (r.2.map tm)), some (.lst ((terms lv r.2 ++ r.1.toList).map .int)), none, none]) (m' := m) (by rw [evC, evE, lc, rs_ok, el, rs_ok, ad, rs_ok, evG, rs_ok]; rfl)]
  simp only [evCs, evC.eq_1, evC.eq_2, evC.eq_3, evC.eq_4, evC.eq_7, evC.eq_8, evC.eq_9, evC.eq_10, evC.eq_11, evC.eq_12, evE.eq_1, evE.eq_2, evE.eq_3, evE.eq_4, evE.eq_5, evE.eq_6, evE.eq_7, evE.eq_8, evE.eq_9, evE.eq_10, evE.eq_11, evE.eq_12, evE.eq_13, evE.eq_14, evE.eq_15, evE.eq_16, evE.eq_17, evE.eq_18, evE.eq_19, evE.eq_20, evE.eq_21, evE.eq_22, evE.eq_24, evE.eq_25, evE.eq_26, evE.eq_27, evE.eq_28, evEs, evG, evGs, rs_ok, List.map_cons, List.map_nil, List.length_cons, List.length_nil, List.cons_append, List.nil_append, List.getElem?_cons_zero, List.getElem?_cons_succ, Nat.zero_add, Nat.reduceAdd, Nat.reduceSub, List.replicate_succ, List.replicate_zero, List.set_cons_succ, List.set_cons_zero, if_true, bltD, look, Option.bind_some, ints_of, hi, gt_iff_lt]
end
end Pm

set_option maxRecDepth 100000
set_option maxHeartbeats 1000000
/-! Life types as objects, for any table -/
namespace Pm
open PySem L2
structure Cl where
  keeps : List Int
  needs : List Int
  took : Int
  rows : List (Option (Option Int × Ls))
  sours : Bool
def iD (l : List Int) : D := .tup (l.map .int)
def rD : Option (Option Int × Ls) → D
  | none => .non
  | some r => rowD r
def rI : Option (Option Int × Ls) → D
  | none => .non
  | some r => rowI r
def claimD (c : Cl) : D := .tup [iD c.keeps, iD c.needs, .int c.took, .tup (c.rows.map rD), .bl c.sours]
def lifeS (c : Cl) : List (Str × D) := [("_keeps", iD c.keeps), ("_needs", iD c.needs), ("_took", .int c.took), ("_rows", .tup (c.rows.map rI)), ("_sours", .bl c.sours)]
def lifeI (c : Cl) : D := .ins "LifeType" (lifeS c)
theorem ins_life {m : Mu} (c : Cl) : insOf m (lifeI c) = some (("LifeType" : Str), lifeS c) := rfl
/-- the fields of the two classes -/
structure FlOk (G : Gm) : Prop where
  r1 : G.fl "LifeRow" "_left" = true
  r2 : G.fl "LifeRow" "_lost" = true
  t1 : G.fl "LifeType" "_keeps" = true
  t2 : G.fl "LifeType" "_needs" = true
  t3 : G.fl "LifeType" "_took" = true
  t4 : G.fl "LifeType" "_rows" = true
  t5 : G.fl "LifeType" "_sours" = true
def bTinit : List C := [(.asg (.fld (.var 0) "_keeps") (.blt .tuple [(.var 1)])),
    (.asg (.fld (.var 0) "_needs") (.blt .tuple [(.var 2)])),
    (.asg (.fld (.var 0) "_took") (.var 3)),
    (.asg (.fld (.var 0) "_rows") (.blt .tuple [(.var 4)])),
    (.asg (.fld (.var 0) "_sours") (.var 5))]
def bTnever : List C := [(.ret (.ext "LifeType/5" [(.var 0), (.bin .Mult (.tup [(.con (.int 61))]) (.blt .len [(.var 0)])), (.ext "MOST_TOOK" []), (.bin .Mult (.tup [(.con .non)]) (.var 1)), (.con (.bl true))]))]
def bTisNever : List C := [(.ret (.or (.att (.var 0) "_sours") (.blt .any [(.lc false (.tup [(.nm 1), (.nm 2)]) (.zip (.att (.var 0) "_needs") (.att (.var 0) "_keeps")) none (.cmp .Gt (.var 1) (.var 2)) [1, 2])])))]
def bEnds : List C := [(.ret (.lc false (.tup [(.nm 2), (.nm 3)]) (.zip (.var 0) (.var 1)) (some (.cmp .IsNot (.var 3) (.con .non))) (.bin .Sub (.var 2) (.var 3)) [2, 3]))]
def bTother : List C := [(.asg (.nm 4) (.fn "best_ends" [(.att (.var 0) "_keeps"), (.lc false (.tup [(.nm 5), (.nm 6)]) (.enu (.var 2)) none (.ife (.cmp .Eq (.var 5) (.var 3)) (.con .non) (.var 6)) [5, 6])])),
    (.ret (.blt .min [(.bin .Add (.var 4) (.lst [(.ife (.cmp .Is (.var 1) (.con .non)) (.con (.int 61)) (.var 1))]))]))]
section
variable {G : Gm} {m : Mu}
theorem att_keeps (h : FlOk G) (c : Cl) : attD G m (lifeI c) "_keeps" = .ok (iD c.keeps) m := by
  unfold attD; rw [ins_life]; simp only [h.t1, if_true]; rfl
theorem att_needs (h : FlOk G) (c : Cl) : attD G m (lifeI c) "_needs" = .ok (iD c.needs) m := by
  unfold attD; rw [ins_life]; simp only [h.t2, if_true]; rfl
theorem att_took (h : FlOk G) (c : Cl) : attD G m (lifeI c) "_took" = .ok (.int c.took) m := by
  unfold attD; rw [ins_life]; simp only [h.t3, if_true]; rfl
theorem att_rows (h : FlOk G) (c : Cl) : attD G m (lifeI c) "_rows" = .ok (.tup (c.rows.map rI)) m := by
  unfold attD; rw [ins_life]; simp only [h.t4, if_true]; rfl
theorem att_sours (h : FlOk G) (c : Cl) : attD G m (lifeI c) "_sours" = .ok (.bl c.sours) m := by
  unfold attD; rw [ins_life]; simp only [h.t5, if_true]; rfl
theorem mklife_ok (h : FlOk G) {c : Cl} {X : D} (hX : ∀ mm : Mu, (∀ i, i < m.length → mm[i]? = m[i]?) → bltD G .tuple [X] mm = .ok (.tup (c.rows.map rI)) mm) :
    mkFn "LifeType" true (runF G 6 6 bTinit) [iD c.keeps, iD c.needs, .int c.took, X, .bl c.sours] m = .ok (lifeI c) (m ++ [.dead]) := by
  have tl : ∀ (l : List Int) mm, bltD G .tuple [iD l] mm = .ok (iD l) mm := fun _ _ => rfl
  have hx : ∀ o : O, bltD G .tuple [X] (m ++ [o]) = .ok (.tup (c.rows.map rI)) (m ++ [o]) := fun o => hX _ fun i hi => List.getElem?_append_left hi
  have st : ∀ (f : Str) (x : E) (v : D) (fs gs : List (Str × D)), G.fl "LifeType" f = true → fs.length < 1000 → evE G x [some (.own m.length), some (iD c.keeps), some (iD c.needs), some (.int c.took), some X, some (.bl c.sours)] (m ++ [.ins "LifeType" fs]) = .ok v (m ++ [.ins "LifeType" fs]) → putD f v fs = gs →
      evC G (.asg (.fld (.var 0) f) x) [some (.own m.length), some (iD c.keeps), some (iD c.needs), some (.int c.took), some X, some (.bl c.sours)] (m ++ [.ins "LifeType" fs]) = .ok (.nx [some (.own m.length), some (iD c.keeps), some (iD c.needs), some (.int c.took), some X, some (.bl c.sours)]) (m ++ [.ins "LifeType" gs]) := fun f x v fs gs hf hl e hp => by
    rw [evC, e, rs_ok, evG, evE_var (d := .own m.length) rfl, rs_ok]
    simp only [get_last, hl, if_true, hf, set_last, rs_ok, hp]
  have tp : ∀ (j : Nat) (d d2 : D) mm, ([some (.own m.length), some (iD c.keeps), some (iD c.needs), some (.int c.took), some X, some (.bl c.sours)] : Env)[j]? = some (some d) → bltD G .tuple [d] mm = .ok d2 mm → evE G (.blt .tuple [(.var j)]) [some (.own m.length), some (iD c.keeps), some (iD c.needs), some (.int c.took), some X, some (.bl c.sours)] mm = .ok d2 mm := fun j d d2 mm hj hb => by
    rw [evE, evEs, evE_var hj, rs_ok, evEs, rs_ok, rs_ok, hb]
  have hi : runF G 6 6 bTinit [.own m.length, iD c.keeps, iD c.needs, .int c.took, X, .bl c.sours] (m ++ [.ins "LifeType" []]) = .ok .non (m ++ [.ins "LifeType" (lifeS c)]) := by
    unfold runF
    refine (if_pos (by rfl)).trans ?_
    show (evCs G bTinit [some (.own m.length), some (iD c.keeps), some (iD c.needs), some (.int c.took), some X, some (.bl c.sours)] _).bind _ = _
    unfold bTinit
    rw [evCs_nx (st "_keeps" _ _ [] [("_keeps", iD c.keeps)] h.t1 (by simp only [List.length_cons, List.length_nil]; omega) (tp 1 _ _ _ rfl (tl _ _)) rfl), evCs_nx (st "_needs" _ _ _ [("_keeps", iD c.keeps), ("_needs", iD c.needs)] h.t2 (by simp only [List.length_cons, List.length_nil]; omega) (tp 2 _ _ _ rfl (tl _ _)) rfl),
      evCs_nx (st "_took" _ _ _ [("_keeps", iD c.keeps), ("_needs", iD c.needs), ("_took", .int c.took)] h.t3 (by simp only [List.length_cons, List.length_nil]; omega) (evE_var (d := .int c.took) rfl) rfl), evCs_nx (st "_rows" _ _ _ [("_keeps", iD c.keeps), ("_needs", iD c.needs), ("_took", .int c.took), ("_rows", .tup (c.rows.map rI))] h.t4 (by simp only [List.length_cons, List.length_nil]; omega) (tp 4 X _ _ rfl (hx _)) rfl),
      evCs_nx (st "_sours" _ _ _ (lifeS c) h.t5 (by simp only [List.length_cons, List.length_nil]; omega) (evE_var (d := .bl c.sours) rfl) rfl), evCs, rs_ok]
  unfold mkFn
  rw [hi, rs_ok, get_last]
  simp only [if_true, set_last]
  rfl
theorem evI_zipW {a b : E} {ρ : Env} {x y : D} {xs ys : List D} {w u : Wt} (h1 : evE G a ρ m = .ok x m) (h2 : evE G b ρ m = .ok y m) (hx : lookW m x = some (xs, w)) (hy : lookW m y = some (ys, u)) : evI G (.zip a b) ρ m = .ok (List.zipWith (fun x y => .tup [x, y]) xs ys, w ++ u) m := by
  unfold evI
  rw [h1, rs_ok, h2, rs_ok]
  simp only [zipD, hx, hy]
theorem evI_enuW {a : E} {ρ : Env} {x : D} {xs : List D} {w : Wt} (h1 : evE G a ρ m = .ok x m) (hx : lookW m x = some (xs, w)) : evI G (.enu a) ρ m = .ok ((List.range xs.length).zipWith (fun i x => .tup [.int (i : Nat), x]) xs, w) m := by
  unfold evI
  rw [h1, rs_ok]
  simp only [enuD, hx]
/-- where the best ends are -/
theorem ends_ok (keeps : List Int) (hk : keeps.length ≤ 3) {X : D} {ls : Ls} {w : Wt} (hx : lookW m X = some (ls.map tm, w)) (hw : okW w m = true) : runF G 2 4 bEnds [iD keeps, X] m = .ok (.lst ((terms keeps ls).map .int)) m := by
  have := lc_src (G := G) (m := m) (ρ := [some (iD keeps), some X, none, none]) (w := [] ++ w) (g := .tup [(.nm 2), (.nm 3)]) (it := .zip (.var 0) (.var 1)) (c := some (.cmp .IsNot (.var 3) (.con .non))) (elt := .bin .Sub (.var 2) (.var 3)) (ws := [2, 3]) (keeps.zip ls) ioD (fun p => p.2.map fun o => D.int (p.1 - o))
    (by rw [← zip_io]; exact evI_zipW (evE_var rfl) (evE_var rfl) rfl hx) (by rw [List.nil_append]; exact hw) (zip_len' _ _ hk) fun p _ => by
      obtain ⟨a, b⟩ := p
      cases b <;> simp only [lcT, evT, evCs, evC.eq_1, evC.eq_2, evC.eq_3, evC.eq_4, evC.eq_7, evC.eq_8, evC.eq_9, evC.eq_10, evC.eq_11, evC.eq_12, evE.eq_1, evE.eq_2, evE.eq_3, evE.eq_4, evE.eq_5, evE.eq_6, evE.eq_7, evE.eq_8, evE.eq_9, evE.eq_10, evE.eq_11, evE.eq_12, evE.eq_13, evE.eq_14, evE.eq_15, evE.eq_16, evE.eq_17, evE.eq_18, evE.eq_19, evE.eq_20, evE.eq_21, evE.eq_22, evE.eq_24, evE.eq_25, evE.eq_26, evE.eq_27, evE.eq_28, evEs, evG, evGs, rs_ok, List.map_cons, List.map_nil, List.length_cons, List.length_nil, List.cons_append, List.nil_append, List.getElem?_cons_zero, List.getElem?_cons_succ, Nat.zero_add, Nat.reduceAdd, Nat.reduceSub, List.replicate_succ, List.replicate_zero, List.set_cons_succ, List.set_cons_zero, if_true, wipeD, ioD, tm, cmD_isNot, D.isNon, Bool.not_true, Bool.not_false, Bool.false_eq_true, if_false, opD_sub, Option.map_none, Option.map_some]
  rw [terms_map] at this
  unfold runF bEnds
  refine (if_pos (by rfl)).trans ?_
  show (evCs G [_] [some (iD keeps), some X, none, none] m).bind _ = _
  rw [evCs_rt (by rw [evC, this, rs_ok]), rs_ok]
theorem tms_set (vs : List Int) (ls : Ls) (k : Nat) : terms vs (ls.set k none) = tmsB vs ls (some k) := by
  rw [terms_eq]
  unfold tmsB
  congr 1
  funext j
  rw [if_neg (by simp), tmAt_set]
  by_cases c : j = k
  · rw [if_pos c, if_pos (by rw [c])]
  · rw [if_neg c, if_neg (fun z => c (by injection z))]
theorem zw_map {α β γ : Type} (f : α → β → γ) : ∀ (a : List α) (b : List β), List.zipWith f a b = (a.zip b).map fun p => f p.1 p.2
  | [], _ => by simp
  | _ :: _, [] => by simp
  | x :: a, y :: b => by rw [List.zipWith_cons_cons, List.zip_cons_cons, List.map_cons, zw_map f a b]
theorem enu_src : ∀ (ls : List D), (List.range ls.length).zipWith (fun (i : Nat) x => D.tup [.int (i : Nat), x]) ls = ((List.range ls.length).zip ls).map fun p => .tup [.int (p.1 : Nat), p.2] := fun ls => zw_map _ _ _
theorem set_map : ∀ (ls : Ls) (k : Nat), ((List.range (ls.map tm).length).zip (ls.map tm)).map (fun p => if p.1 = k then D.non else p.2) = (ls.set k none).map tm := fun ls k => by
  apply List.ext_getElem?
  intro i
  rw [List.getElem?_map, List.getElem?_map]
  by_cases hi : i < ls.length
  · have e1 : ((List.range (ls.map tm).length).zip (ls.map tm))[i]? = some (i, tm ls[i]) := by
      rw [List.getElem?_zip_eq_some]
      exact ⟨by rw [List.getElem?_range (by rw [List.length_map]; exact hi)], by rw [List.getElem?_map, List.getElem?_eq_getElem hi]; rfl⟩
    rw [e1]
    by_cases c : i = k
    · subst c
      rw [List.getElem?_set_self hi]
      simp [tm]
    · rw [List.getElem?_set_ne (Ne.symm c), List.getElem?_eq_getElem hi]
      simp [c]
  · rw [List.getElem?_eq_none (by rw [List.length_zip, List.length_range, List.length_map]; omega), List.getElem?_eq_none (by rw [List.length_set]; omega)]
    rfl
/-- the least of the others -/
theorem other_ok {G1 : Gm} (h : FlOk G) (hf : G.fn "best_ends" = some (runF G1 2 4 bEnds)) (c : Cl) (hk : c.keeps.length ≤ 3) (l : Option Int) {X : D} {ls : Ls} (hls : ls.length ≤ 3) {w : Wt} (hx : lookW m X = some (ls.map tm, w)) (hw : okW w m = true) (k : Nat) {o : Int} (ho : minL (others c.keeps l ls k) = some o) :
    runF G 4 7 bTother [lifeI c, tm l, X, .int (k : Nat)] m = .ok (.int o) m := by
  have lc : evE G (.lc false (.tup [(.nm 5), (.nm 6)]) (.enu (.var 2)) none (.ife (.cmp .Eq (.var 5) (.var 3)) (.con .non) (.var 6)) [5, 6]) [some (lifeI c), some (tm l), some X, some (.int (k : Nat)), none, none, none] m = .ok (.lst ((ls.set k none).map tm)) m := by
    have := lc_srcM (G := G) (m := m) (ρ := [some (lifeI c), some (tm l), some X, some (.int (k : Nat)), none, none, none]) (w := w) (g := .tup [(.nm 5), (.nm 6)]) (it := .enu (.var 2)) (elt := .ife (.cmp .Eq (.var 5) (.var 3)) (.con .non) (.var 6)) (ws := [5, 6]) ((List.range (ls.map tm).length).zip (ls.map tm)) (fun p => .tup [.int (p.1 : Nat), p.2]) (fun p => if p.1 = k then D.non else p.2)
      (by rw [← enu_src]; exact evI_enuW (evE_var rfl) hx) hw (by rw [List.length_zip, List.length_range, List.length_map]; have := three; omega) fun p hp => by
        obtain ⟨a, b⟩ := p
        have hb : ∃ o, b = tm o := by
          have := (List.of_mem_zip hp).2
          rw [List.mem_map] at this
          obtain ⟨o, _, e⟩ := this
          exact ⟨o, e.symm⟩
        by_cases q : a = k
        · subst q
          simp only [evCs, evC.eq_1, evC.eq_2, evC.eq_3, evC.eq_4, evC.eq_7, evC.eq_8, evC.eq_9, evC.eq_10, evC.eq_11, evC.eq_12, evE.eq_1, evE.eq_2, evE.eq_3, evE.eq_4, evE.eq_5, evE.eq_6, evE.eq_7, evE.eq_8, evE.eq_9, evE.eq_10, evE.eq_11, evE.eq_12, evE.eq_13, evE.eq_14, evE.eq_15, evE.eq_16, evE.eq_17, evE.eq_18, evE.eq_19, evE.eq_20, evE.eq_21, evE.eq_22, evE.eq_24, evE.eq_25, evE.eq_26, evE.eq_27, evE.eq_28, evEs, evG, evGs, rs_ok, List.map_cons, List.map_nil, List.length_cons, List.length_nil, List.cons_append, List.nil_append, List.getElem?_cons_zero, List.getElem?_cons_succ, Nat.zero_add, Nat.reduceAdd, Nat.reduceSub, List.replicate_succ, List.replicate_zero, List.set_cons_succ, List.set_cons_zero, if_true, wipeD, cmD_eqI, beq_self_eq_true]
        · have : ((a : Int) == (k : Int)) = false := by rw [beq_eq_false_iff_ne]; omega
          simp only [evCs, evC.eq_1, evC.eq_2, evC.eq_3, evC.eq_4, evC.eq_7, evC.eq_8, evC.eq_9, evC.eq_10, evC.eq_11, evC.eq_12, evE.eq_1, evE.eq_2, evE.eq_3, evE.eq_4, evE.eq_5, evE.eq_6, evE.eq_7, evE.eq_8, evE.eq_9, evE.eq_10, evE.eq_11, evE.eq_12, evE.eq_13, evE.eq_14, evE.eq_15, evE.eq_16, evE.eq_17, evE.eq_18, evE.eq_19, evE.eq_20, evE.eq_21, evE.eq_22, evE.eq_24, evE.eq_25, evE.eq_26, evE.eq_27, evE.eq_28, evEs, evG, evGs, rs_ok, List.map_cons, List.map_nil, List.length_cons, List.length_nil, List.cons_append, List.nil_append, List.getElem?_cons_zero, List.getElem?_cons_succ, Nat.zero_add, Nat.reduceAdd, Nat.reduceSub, List.replicate_succ, List.replicate_zero, List.set_cons_succ, List.set_cons_zero, if_true, wipeD, cmD_eqI, this, q, if_false]
    rw [this, set_map]
  have he := ends_ok (G := G1) (m := m) c.keeps hk (X := .lst ((ls.set k none).map tm)) (ls := ls.set k none) (w := []) rfl rfl
  have z : ((terms c.keeps (ls.set k none)).map D.int).length + [D.int (l.getD 61)].length ≤ sizeLine := by
    have := terms_len c.keeps (ls.set k none)
    have zz : 4 ≤ sizeLine := by decide
    rw [List.length_map]
    simp only [List.length_cons, List.length_nil]
    omega
  have ad : opD G .Add (.lst ((terms c.keeps (ls.set k none)).map .int)) (.lst [.int (l.getD 61)]) m = .ok (.lst ((others c.keeps l ls k).map .int)) m := by
    unfold others
    rw [← tms_set]
    simp only [opD, binD, binL, lookT, z, if_true, List.map_append, List.map_cons, List.map_nil]
  have el : evE G (.lst [(.ife (.cmp .Is (.var 1) (.con .non)) (.con (.int 61)) (.var 1))]) [some (lifeI c), some (tm l), some X, some (.int (k : Nat)), some (.lst ((terms c.keeps (ls.set k none)).map .int)), none, none] m = .ok (.lst [.int (l.getD 61)]) m := by
    cases l <;> simp only [evCs, evC.eq_1, evC.eq_2, evC.eq_3, evC.eq_4, evC.eq_7, evC.eq_8, evC.eq_9, evC.eq_10, evC.eq_11, evC.eq_12, evE.eq_1, evE.eq_2, evE.eq_3, evE.eq_4, evE.eq_5, evE.eq_6, evE.eq_7, evE.eq_8, evE.eq_9, evE.eq_10, evE.eq_11, evE.eq_12, evE.eq_13, evE.eq_14, evE.eq_15, evE.eq_16, evE.eq_17, evE.eq_18, evE.eq_19, evE.eq_20, evE.eq_21, evE.eq_22, evE.eq_24, evE.eq_25, evE.eq_26, evE.eq_27, evE.eq_28, evEs, evG, evGs, rs_ok, List.map_cons, List.map_nil, List.length_cons, List.length_nil, List.cons_append, List.nil_append, List.getElem?_cons_zero, List.getElem?_cons_succ, Nat.zero_add, Nat.reduceAdd, Nat.reduceSub, List.replicate_succ, List.replicate_zero, List.set_cons_succ, List.set_cons_zero, if_true, tm, cmD_is, D.isNon, w_one, Option.getD_none, Option.getD_some]
  unfold runF bTother
  refine (if_pos (by rfl)).trans ?_
  show (evCs G [_, _] [some (lifeI c), some (tm l), some X, some (.int (k : Nat)), none, none, none] m).bind _ = _
  rw [evCs_nx (ρ' := [some (lifeI c), some (tm l), some X, some (.int (k : Nat)), some (.lst ((terms c.keeps (ls.set k none)).map .int)), none, none]) (m' := m) (by
    rw [evC, evE, hf]
    dsimp only
    rw [evEs, evE, evE_var (d := lifeI c) rfl, rs_ok, att_keeps h, rs_ok, evEs, lc, rs_ok, evEs, rs_ok, rs_ok, rs_ok, he, rs_ok, evG, rs_ok]
    rfl)]
  rw [evCs_rt (d := .int o) (m' := m) (by
    rw [evC, evE, evEs, evE, evE_var (d := .lst ((terms c.keeps (ls.set k none)).map .int)) rfl, rs_ok, el, rs_ok, ad, rs_ok, evEs, rs_ok, rs_ok]
    simp only [bltD, look, Option.bind_some, ints_of, ho, rs_ok]), rs_ok]
end
end Pm

set_option maxRecDepth 100000
set_option maxHeartbeats 1000000
/-! The plain row, reckoned by the class -/
namespace Pm
open PySem L2
def bOne : List C := [(.ife (.and (.cmp .IsNot (.idx (.var 3) (.var 4)) (.con .non)) (.cmp .Eq (.var 5) (.var 6))) [(.asg (.nm 2) (.fn "least_term" [(.var 2), (.blt .max [(.bin .Sub (.var 6) (.idx (.var 3) (.var 4))), (.neg (.con (.int 1)))])])), (.asg (.sub (.var 3) (.var 4)) (.con .non))] [])]
def bTwo : List C := [(.ife (.and (.cmp .IsNot (.idx (.var 3) (.var 4)) (.con .non)) (.cmp .GtE (.bin .Sub (.var 5) (.idx (.var 3) (.var 4))) (.met (.var 0) "_least_other" [(.var 2), (.var 3), (.var 4)]))) [(.asg (.sub (.var 3) (.var 4)) (.con .non))] [])]
theorem tm_at {ls : Ls} {k : Nat} {o : Option Int} (h : ls[k]? = some o) : atI (ls.map tm) (k : Nat) = some (tm o) := atN k (by rw [List.getElem?_map, h]; rfl)
theorem ix_at {α : Type} {ls : List α} {k : Nat} (h : k < ls.length) : ixN ls.length (k : Nat) = some k := by
  unfold ixN
  rw [if_pos (by omega), if_pos (by omega)]
  simp
theorem set_tm (ls : Ls) (k : Nat) : (ls.map tm).set k .non = (ls.set k none).map tm := by rw [List.map_set]; rfl
section
variable {G G1 : Gm} {m : Mu}
theorem sub_none {p k : Nat} {ls : Ls} {ρ : Env} {j i : Nat} (hj : ρ[j]? = some (some (.own p))) (hi : ρ[i]? = some (some (.int (k : Nat)))) (hm : m[p]? = some (.lst (ls.map tm))) (hk : k < ls.length) : evC G (.asg (.sub (.var j) (.var i)) (.con .non)) ρ m = .ok (.nx ρ) (m.set p (.lst ((ls.set k none).map tm))) := by
  have hx : ixN (ls.map tm).length (k : Nat) = some k := ix_at (by rw [List.length_map]; exact hk)
  rw [evC, evE, rs_ok, evG, evE_var hj, rs_ok, evE_var hi, rs_ok]
  simp only [hm, hx, rs_ok, set_tm]
theorem idx_at {p k : Nat} {ls : Ls} {ρ : Env} {j i : Nat} {o : Option Int} (hj : ρ[j]? = some (some (.own p))) (hi : ρ[i]? = some (some (.int (k : Nat)))) (hm : m[p]? = some (.lst (ls.map tm))) (ho : ls[k]? = some o) : evE G (.idx (.var j) (.var i)) ρ m = .ok (tm o) m := by
  rw [evE, evE_var hj, rs_ok, evE_var hi, rs_ok, idx_own hm (tm_at ho)]
theorem leastO_I (l : Option Int) (y : Int) : leastO l (some y) = leastI l y := by cases l <;> rfl
/-- one turn of the first loop -/
theorem one_turn {c : Cl} {r l : Option Int} {v1 : D} {x7 x8 : Option D} {p k : Nat} {ls : Ls} (hf : G.fn "least_term" = some (runF G1 2 2 bLeastTerm)) (hm : m[p]? = some (.lst (ls.map tm))) {n kp : Int} (hn : c.needs[k]? = some n) (hkp : c.keeps[k]? = some kp) (hk : k < ls.length) :
    evCs G bOne [some (lifeI c), some v1, some (tm l), some (.own p), some (.int (k : Nat)), some (.int n), some (.int kp), x7, x8] m =
      .ok (.nx [some (lifeI c), some v1, some (tm (oneAt c.keeps c.needs (l, ls) k).1), some (.own p), some (.int (k : Nat)), some (.int n), some (.int kp), x7, x8]) (m.set p (.lst ((oneAt c.keeps c.needs (l, ls) k).2.map tm))) := by
  have same : m.set p (.lst (ls.map tm)) = m := by
    apply List.ext_getElem?
    intro i
    by_cases q : i = p
    · subst q; rw [hm, List.getElem?_set_self (List.getElem?_eq_some_iff.mp hm).1]
    · rw [List.getElem?_set_ne (Ne.symm q)]
  obtain ⟨o, ho⟩ : ∃ o, ls[k]? = some o := ⟨ls[k], List.getElem?_eq_getElem hk⟩
  have ix := idx_at (G := G) (ρ := [some (lifeI c), some v1, some (tm l), some (.own p), some (.int (k : Nat)), some (.int n), some (.int kp), x7, x8]) (j := 3) (i := 4) rfl rfl hm ho
  unfold bOne
  rw [evCs_one, evC, evE, evE, ix, rs_ok, evE, rs_ok, cmD_isNot, rs_ok]
  cases o with
  | none =>
    have e : oneAt c.keeps c.needs (l, ls) k = (l, ls) := by
      unfold oneAt tmAt
      rw [hkp, ho]
    rw [e, same]
    simp only [tm_isNon, Option.isNone_none, Bool.not_true, rs_ok]
    rw [evCs]
  | some x =>
    have et : tmAt c.keeps ls k = some (kp - x) := by unfold tmAt; rw [hkp, ho]
    simp only [tm_isNon, Option.isNone_some, Bool.not_false]
    rw [evE, evE_var (d := .int n) rfl, rs_ok, evE_var (d := .int kp) rfl, rs_ok, cmD_eqI, rs_ok]
    by_cases q : n = kp
    · subst q
      have e : oneAt c.keeps c.needs (l, ls) k = (leastI l (max (n - x) (-1)), ls.set k none) := by
        unfold oneAt
        rw [hkp, et]
        dsimp only
        rw [if_pos hn]
      rw [e, beq_self_eq_true]
      dsimp only
      have emax : bltD G .max [.int (n - x), .int (-1)] m = .ok (.int (max (n - x) (-1))) m := by
        rw [blt_max]
        congr 2
        split <;> omega
      rw [evCs_nx (ρ' := [some (lifeI c), some v1, some (tm (leastI l (max (n - x) (-1)))), some (.own p), some (.int (k : Nat)), some (.int n), some (.int n), x7, x8]) (m' := m) (by
        rw [evC, evE, hf]
        dsimp only
        rw [evEs, evE_var (d := tm l) rfl, rs_ok, evEs, evE, evEs, evE, evE_var (d := .int n) rfl, rs_ok, ix, rs_ok, show tm (some x) = .int x from rfl, opD_sub, rs_ok, evEs, evE, evE, rs_ok]
        dsimp only
        rw [rs_ok, evEs, rs_ok, rs_ok, rs_ok, emax, rs_ok, evEs, rs_ok, rs_ok, rs_ok, show D.int (max (n - x) (-1)) = tm (some (max (n - x) (-1))) from rfl, least_ok, leastO_I, rs_ok, evG, rs_ok]
        rfl), evCs_nx (sub_none (j := 3) (i := 4) rfl rfl hm hk), evCs]
    · have e : oneAt c.keeps c.needs (l, ls) k = (l, ls) := by
        unfold oneAt
        rw [hkp, et]
        dsimp only
        rw [if_neg (by rw [hn]; intro z; injection z; omega)]
      rw [e, same, show (n == kp) = false by rw [beq_eq_false_iff_ne]; exact q]
      dsimp only
      rw [evCs]
theorem set_same {p : Nat} {o : O} (hm : m[p]? = some o) : m.set p o = m := by
  apply List.ext_getElem?
  intro i
  by_cases q : i = p
  · subst q; rw [hm, List.getElem?_set_self (List.getElem?_eq_some_iff.mp hm).1]
  · rw [List.getElem?_set_ne (Ne.symm q)]
theorem lookW_own {p : Nat} {ds : List D} (hm : m[p]? = some (.lst ds)) : lookW m (.own p) = some (ds, [(p, ds)]) := by simp only [lookW, hm]
/-- one turn of the second loop -/
theorem two_turn {G2 : Gm} {c : Cl} {l : Option Int} {v1 : D} {x6 x7 x8 : Option D} {p k : Nat} {ls : Ls} (h1 : FlOk G1) (hf : G1.fn "best_ends" = some (runF G2 2 4 bEnds)) (hme : G.me "LifeType" "_least_other" = some (runF G1 4 7 bTother)) (hm : m[p]? = some (.lst (ls.map tm))) (hkl : c.keeps.length ≤ 3) (hls : ls.length ≤ 3)
    {n : Int} (hn : c.needs[k]? = some n) (hk : k < ls.length) :
    evCs G bTwo [some (lifeI c), some v1, some (tm l), some (.own p), some (.int (k : Nat)), some (.int n), x6, x7, x8] m =
      .ok (.nx [some (lifeI c), some v1, some (tm l), some (.own p), some (.int (k : Nat)), some (.int n), x6, x7, x8]) (m.set p (.lst ((dropAt c.keeps c.needs l ls k).map tm))) := by
  obtain ⟨o, ho⟩ : ∃ o, ls[k]? = some o := ⟨ls[k], List.getElem?_eq_getElem hk⟩
  have ix := idx_at (G := G) (ρ := [some (lifeI c), some v1, some (tm l), some (.own p), some (.int (k : Nat)), some (.int n), x6, x7, x8]) (j := 3) (i := 4) rfl rfl hm ho
  obtain ⟨b, hb⟩ := minL_some (l := others c.keeps l ls k) (fun z => by unfold others at z; simp at z)
  have hw : okW [(p, ls.map tm)] m = true := okW_one hm
  have hother := other_ok (m := m) h1 hf c hkl l hls (lookW_own hm) hw k hb
  have hmet : metF G m (lifeI c) "_least_other" = some (runF G1 4 7 bTother) := by
    unfold metF
    rw [ins_life]
    exact hme
  unfold bTwo
  rw [evCs_one, evC, evE, evE, ix, rs_ok, evE, rs_ok, cmD_isNot, rs_ok]
  cases o with
  | none =>
    have e : dropAt c.keeps c.needs l ls k = ls := by
      unfold dropAt tmAt
      rw [hn, ho]
    rw [e, set_same hm]
    simp only [tm_isNon, Option.isNone_none, Bool.not_true, rs_ok]
    rw [evCs]
  | some x =>
    have et : tmAt c.needs ls k = some (n - x) := by unfold tmAt; rw [hn, ho]
    simp only [tm_isNon, Option.isNone_some, Bool.not_false]
    rw [evE, evE, evE_var (d := .int n) rfl, rs_ok, ix, rs_ok, show tm (some x) = .int x from rfl, opD_sub, rs_ok, evE, evE_var (d := lifeI c) rfl, rs_ok, hmet]
    dsimp only
    rw [evEs, evE_var (d := tm l) rfl, rs_ok, evEs, evE_var (d := .own p) rfl, rs_ok, evEs, evE_var (d := .int (k : Nat)) rfl, rs_ok, evEs, rs_ok, rs_ok, rs_ok, rs_ok, hother, rs_ok, cmD_ge, rs_ok]
    by_cases q : b ≤ n - x
    · have e : dropAt c.keeps c.needs l ls k = ls.set k none := by
        unfold dropAt
        rw [et, hb]
        dsimp only
        rw [if_pos q]
      rw [e, decide_eq_true q]
      dsimp only
      rw [evCs_nx (sub_none (j := 3) (i := 4) rfl rfl hm hk), evCs]
    · have e : dropAt c.keeps c.needs l ls k = ls := by
        unfold dropAt
        rw [et, hb]
        dsimp only
        rw [if_neg q]
      rw [e, set_same hm, decide_eq_false q]
      dsimp only
      rw [evCs]
end
end Pm

set_option maxRecDepth 100000
set_option maxHeartbeats 1000000
/-! The plain row, reckoned by the class: its loops, its end -/
namespace Pm
open PySem L2
theorem one_len {keeps needs : List Int} {s : Option Int × Ls} {k : Nat} : (oneAt keeps needs s k).2.length = s.2.length := by
  unfold oneAt
  split
  · split
    · rw [List.length_set]
    · rfl
  · rfl
theorem ones_len {keeps needs : List Int} : ∀ {ks : List Nat} {s : Option Int × Ls}, (ones keeps needs ks s).2.length = s.2.length
  | [], s => rfl
  | k :: ks, s => (ones_len (ks := ks)).trans one_len
theorem ones_succ {keeps needs : List Int} {n : Nat} {s : Option Int × Ls} : ones keeps needs (List.range (n + 1)) s = oneAt keeps needs (ones keeps needs (List.range n) s) n := by
  unfold ones
  rw [List.range_succ, List.foldl_append]
  rfl
theorem drops_succ {keeps needs : List Int} {l : Option Int} {n : Nat} {ls : Ls} : drops keeps needs l (List.range (n + 1)) ls = dropAt keeps needs l (drops keeps needs l (List.range n) ls) n := by
  unfold drops
  rw [List.range_succ, List.foldl_append]
  rfl
theorem ez_at {xs ys : List Int} {j : Nat} {d : D} (h : (ezL (xs.map .int) (ys.map .int))[j]? = some d) : ∃ x y, xs[j]? = some x ∧ ys[j]? = some y ∧ d = .tup [.int (j : Nat), .tup [.int x, .int y]] := by
  have hj := (List.getElem?_eq_some_iff.mp h).1
  rw [ezL_len, List.length_map, List.length_map] at hj
  have e1 : xs[j]? = some xs[j] := List.getElem?_eq_getElem (by omega)
  have e2 : ys[j]? = some ys[j] := List.getElem?_eq_getElem (by omega)
  have := ezL_get (xs := xs.map D.int) (ys := ys.map D.int) (i := j) (x := .int xs[j]) (y := .int ys[j]) (by rw [List.getElem?_map, e1]; rfl) (by rw [List.getElem?_map, e2]; rfl)
  rw [this] at h
  cases h
  exact ⟨_, _, e1, e2, rfl⟩
theorem en_at {xs : List Int} {j : Nat} {d : D} (h : ((List.range (xs.map D.int).length).zipWith (fun (i : Nat) x => D.tup [.int (i : Nat), x]) (xs.map .int))[j]? = some d) : ∃ x, xs[j]? = some x ∧ d = .tup [.int (j : Nat), .int x] := by
  rw [List.getElem?_zipWith] at h
  have hj : j < xs.length := by
    cases e : (List.range (xs.map D.int).length)[j]? with
    | none => rw [e] at h; cases h
    | some i =>
      have := (List.getElem?_eq_some_iff.mp e).1
      rw [List.length_range, List.length_map] at this
      exact this
  have e1 : xs[j]? = some xs[j] := List.getElem?_eq_getElem hj
  rw [List.getElem?_range (by rw [List.length_map]; exact hj), List.getElem?_map, e1] at h
  cases h
  exact ⟨_, e1, rfl⟩
section
variable {G G1 : Gm} {m : Mu}
/-- the first loop -/
theorem one_loop {c : Cl} {v1 : D} {p : Nat} {o : O} (hf : G.fn "least_term" = some (runF G1 2 2 bLeastTerm)) {l : Option Int} {ls : Ls} (hl1 : c.needs.length = ls.length) (hl2 : c.keeps.length = ls.length) (hm : m[p]? = some (.lst (ls.map tm))) :
    ∃ x4 x5 x6, forL [] (fun (d : D) (ρ : Env) (m : Mu) => (evG G (.tup [(.nm 4), (.tup [(.nm 5), (.nm 6)])]) d ρ m).bind fun ρ m => evCs G bOne ρ m) (ezL (c.needs.map .int) (c.keeps.map .int)) [some (lifeI c), some v1, some (tm l), some (.own p), none, none, none, none, none] m =
      .ok (.nx [some (lifeI c), some v1, some (tm (ones c.keeps c.needs (List.range ls.length) (l, ls)).1), some (.own p), x4, x5, x6, none, none]) (m.set p (.lst ((ones c.keeps c.needs (List.range ls.length) (l, ls)).2.map tm))) := by
  obtain ⟨ρ', m', e, hP⟩ := forL_inv (w := []) (f := fun (d : D) (ρ : Env) (m : Mu) => (evG G (.tup [(.nm 4), (.tup [(.nm 5), (.nm 6)])]) d ρ m).bind fun ρ m => evCs G bOne ρ m)
    (fun n ρ mm => ∃ x4 x5 x6, ρ = [some (lifeI c), some v1, some (tm (ones c.keeps c.needs (List.range n) (l, ls)).1), some (.own p), x4, x5, x6, none, none] ∧ mm = m.set p (.lst ((ones c.keeps c.needs (List.range n) (l, ls)).2.map tm)))
    (ezL (c.needs.map .int) (c.keeps.map .int)) 0 (ρ := [some (lifeI c), some v1, some (tm l), some (.own p), none, none, none, none, none]) (m := m) (fun _ _ _ _ => rfl) (fun j d ρ mm hj ⟨x4, x5, x6, e1, e2⟩ => by
      obtain ⟨nd, kp, h1, h2, rfl⟩ := ez_at hj
      rw [Nat.zero_add] at e1 e2 ⊢
      subst e1 e2
      have hk : j < ls.length := by rw [← hl1]; exact (List.getElem?_eq_some_iff.mp h1).1
      have ht := one_turn (G := G) (c := c) (r := none) (l := (ones c.keeps c.needs (List.range j) (l, ls)).1) (v1 := v1) (x7 := none) (x8 := none) (p := p) (k := j) (ls := (ones c.keeps c.needs (List.range j) (l, ls)).2) hf (m := m.set p (.lst ((ones c.keeps c.needs (List.range j) (l, ls)).2.map tm)))
        (set_get hm) h1 h2 (by rw [ones_len]; exact hk)
      refine ⟨_, _, .inl ?_, some (.int (j : Nat)), some (.int nd), some (.int kp), rfl, rfl⟩
      simp only [evG, evGs, List.length_cons, List.length_nil, if_true, rs_ok, List.set_cons_succ, List.set_cons_zero]
      rw [ht, set_set, ones_succ]) ⟨none, none, none, rfl, by
        show m = m.set p (.lst (ls.map tm))
        rw [set_same hm]⟩
  obtain ⟨x4, x5, x6, rfl, rfl⟩ := hP
  rw [Nat.zero_add, ezL_len, List.length_map, List.length_map, hl1, hl2, Nat.min_self] at e
  exact ⟨x4, x5, x6, e⟩
/-- the second loop -/
theorem two_loop {G2 : Gm} {c : Cl} {v1 : D} {x4 x5 x6 x7 : Option D} {p : Nat} (h1 : FlOk G1) (hf : G1.fn "best_ends" = some (runF G2 2 4 bEnds)) (hme : G.me "LifeType" "_least_other" = some (runF G1 4 7 bTother)) {l : Option Int} {ls : Ls} (hl1 : c.needs.length = ls.length) (hl2 : c.keeps.length = ls.length) (hl3 : ls.length ≤ 3) (hm : m[p]? = some (.lst (ls.map tm))) :
    ∃ x4' x5', forL [] (fun (d : D) (ρ : Env) (m : Mu) => (evG G (.tup [(.nm 4), (.nm 5)]) d ρ m).bind fun ρ m => evCs G bTwo ρ m) ((List.range (c.needs.map D.int).length).zipWith (fun (i : Nat) x => D.tup [.int (i : Nat), x]) (c.needs.map .int)) [some (lifeI c), some v1, some (tm l), some (.own p), x4, x5, x6, x7, none] m =
      .ok (.nx [some (lifeI c), some v1, some (tm l), some (.own p), x4', x5', x6, x7, none]) (m.set p (.lst ((drops c.keeps c.needs l (List.range ls.length) ls).map tm))) := by
  obtain ⟨ρ', m', e, hP⟩ := forL_inv (w := []) (f := fun (d : D) (ρ : Env) (m : Mu) => (evG G (.tup [(.nm 4), (.nm 5)]) d ρ m).bind fun ρ m => evCs G bTwo ρ m)
    (fun n ρ mm => ∃ x4 x5, ρ = [some (lifeI c), some v1, some (tm l), some (.own p), x4, x5, x6, x7, none] ∧ mm = m.set p (.lst ((drops c.keeps c.needs l (List.range n) ls).map tm)))
    ((List.range (c.needs.map D.int).length).zipWith (fun (i : Nat) x => D.tup [.int (i : Nat), x]) (c.needs.map .int)) 0 (ρ := [some (lifeI c), some v1, some (tm l), some (.own p), x4, x5, x6, x7, none]) (m := m) (fun _ _ _ _ => rfl) (fun j d ρ mm hj ⟨y4, y5, e1, e2⟩ => by
      obtain ⟨nd, h2, rfl⟩ := en_at hj
      rw [Nat.zero_add] at e2 ⊢
      subst e1 e2
      have hk : j < ls.length := by rw [← hl1]; exact (List.getElem?_eq_some_iff.mp h2).1
      have ht := two_turn (G := G) (c := c) (l := l) (v1 := v1) (x6 := x6) (x7 := x7) (x8 := none) (p := p) (k := j) (ls := drops c.keeps c.needs l (List.range j) ls) h1 hf hme (m := m.set p (.lst ((drops c.keeps c.needs l (List.range j) ls).map tm)))
        (set_get hm) (by omega) (by rw [drops_len]; exact hl3) h2 (by rw [drops_len]; exact hk)
      refine ⟨_, _, .inl ?_, some (.int (j : Nat)), some (.int nd), rfl, rfl⟩
      simp only [evG, evGs, List.length_cons, List.length_nil, if_true, rs_ok, List.set_cons_succ, List.set_cons_zero]
      rw [ht, set_set, drops_succ]) ⟨x4, x5, rfl, by
        show m = m.set p (.lst (ls.map tm))
        rw [set_same hm]⟩
  obtain ⟨y4, y5, rfl, rfl⟩ := hP
  rw [Nat.zero_add, List.length_zipWith, List.length_range, List.length_map, Nat.min_self, hl1] at e
  exact ⟨y4, y5, by rw [List.length_map, hl1]; exact e⟩
end
end Pm

set_option maxRecDepth 100000
set_option maxHeartbeats 1000000
/-! The plain row, reckoned by the class -/
namespace Pm
open PySem L2
def bTplainRow : List C := [(.ife (.cmp .Is (.var 1) (.con .non)) [(.ret (.con .non))] []),
    (.asg (.nm 2) (.att (.var 1) "left")),
    (.asg (.nm 3) (.blt .listO [(.att (.var 1) "lost")])),
    (.for (.tup [(.nm 4), (.tup [(.nm 5), (.nm 6)])]) (.ext "enumzip" [(.att (.var 0) "_needs"), (.att (.var 0) "_keeps")]) bOne),
    (.asg (.nm 7) (.mk "LifeRow" [(.var 2), (.var 3)])),
    (.ife (.cmp .Lt (.cal (.var 7) [(.att (.var 0) "_keeps")]) (.con (.int 1))) [(.ret (.con .non))] []),
    (.for (.tup [(.nm 4), (.nm 5)]) (.enu (.att (.var 0) "_needs")) bTwo),
    (.asg (.nm 8) (.fn "best_ends" [(.att (.var 0) "_keeps"), (.var 3)])),
    (.ife (.and (.tru (.var 8)) (.and (.cmp .IsNot (.var 2) (.con .non)) (.cmp .GtE (.var 2) (.blt .min [(.var 8)])))) [(.asg (.nm 2) (.con .non))] []),
    (.ret (.mk "LifeRow" [(.var 2), (.var 3)]))]
theorem set_mid {m : Mu} {o o' : O} {e : List O} : (m ++ (o :: e)).set m.length o' = m ++ (o' :: e) := by
  rw [List.set_append_right _ _ (Nat.le_refl _), Nat.sub_self]; rfl
theorem get_mid {m : Mu} {o : O} {e : List O} : (m ++ (o :: e))[m.length]? = some o := by simp
theorem app_mid {m : Mu} {o : O} {e : List O} {x : O} : (m ++ (o :: e)) ++ [x] = m ++ (o :: (e ++ [x])) := by simp
theorem one_ne {keeps needs : List Int} {s : Option Int × Ls} {k : Nat} (h : allT keeps s.1 s.2 ≠ []) : allT keeps (oneAt keeps needs s k).1 (oneAt keeps needs s k).2 ≠ [] := by
  unfold oneAt
  split
  · split
    · obtain ⟨t, e, _⟩ := leastI_le (l := s.1) (x := max (α := Int) _ (-1))
      intro z
      have : t ∈ allT keeps (leastI s.1 (max (α := Int) _ (-1))) (s.2.set k none) := mem_allT.mpr (.inr e)
      rw [z] at this
      exact absurd this List.not_mem_nil
    · exact h
  · exact h
theorem ones_ne {keeps needs : List Int} : ∀ {ks : List Nat} {s : Option Int × Ls}, allT keeps s.1 s.2 ≠ [] → allT keeps (ones keeps needs ks s).1 (ones keeps needs ks s).2 ≠ []
  | [], s, h => h
  | k :: ks, s, h => ones_ne (ks := ks) (one_ne h)
/-- what the class's tables hold -/
structure RowTab (G Gl Gi Gc Ge Go : Gm) : Prop where
  fl : FlOk G
  gi : FlOk Gi
  gc : FlOk Gc
  go : FlOk Go
  fl1 : G.fl "LifeRow" "left" = false
  fl2 : G.fl "LifeRow" "lost" = false
  p1 : G.pr "LifeRow" "left" = some (runF Gi 1 1 bRowleft)
  p2 : G.pr "LifeRow" "lost" = some (runF Gi 1 1 bRowlost)
  lt : G.fn "least_term" = some (runF Gl 2 2 bLeastTerm)
  be : G.fn "best_ends" = some (runF Ge 2 4 bEnds)
  be2 : Go.fn "best_ends" = some (runF Ge 2 4 bEnds)
  cs : G.cs "LifeRow" = some (mkFn "LifeRow" true (runF Gi 3 3 bRowinit))
  ca : G.ca "LifeRow" = some (runF Gc 2 5 bRowcall)
  lo : G.me "LifeType" "_least_other" = some (runF Go 4 7 bTother)
  ez : G.xi "enumzip" = some ezD
section
variable {G Gl Gi Gc Ge Go : Gm} {m : Mu}
theorem att_left (T : RowTab G Gl Gi Gc Ge Go) (r : Option Int × List (Option Int)) : attD G m (rowI r) "left" = .ok (tm r.1) m := by
  unfold attD
  rw [ins_row]
  simp only [T.fl1, T.p1, Bool.false_eq_true, if_false, left_ok T.gi.r1, Rs.noX]
theorem att_lost (T : RowTab G Gl Gi Gc Ge Go) (r : Option Int × List (Option Int)) : attD G m (rowI r) "lost" = .ok (.tup (r.2.map tm)) m := by
  unfold attD
  rw [ins_row]
  simp only [T.fl2, T.p2, Bool.false_eq_true, if_false, lost_ok T.gi.r2, Rs.noX]
theorem mkrow_at (T : RowTab G Gl Gi Gc Ge Go) {l : Option Int} {ls : Ls} {p : Nat} {ρ : Env} {i j : Nat} (hi : ρ[i]? = some (some (tm l))) (hj : ρ[j]? = some (some (.own p))) (hp : m[p]? = some (.lst (ls.map tm))) : evE G (.mk "LifeRow" [(.var i), (.var j)]) ρ m = .ok (rowI (l, ls)) (m ++ [.dead]) := by
  rw [evE, T.cs]
  dsimp only
  rw [evEs, evE_var hi, rs_ok, evEs, evE_var hj, rs_ok, evEs, rs_ok, rs_ok, rs_ok]
  exact mkrow_ok T.gi.r1 T.gi.r2 fun o => by
    have : (m ++ [o])[p]? = some (.lst (ls.map tm)) := by rw [List.getElem?_append_left (List.getElem?_eq_some_iff.mp hp).1]; exact hp
    simp only [bltD, look, this]
theorem trow_none : runF G 2 9 bTplainRow [lifeI c, .non] m = .ok .non m := by
  unfold runF bTplainRow
  refine (if_pos (by rfl)).trans ?_
  show (evCs G (_ :: _) [some (lifeI c), some .non, none, none, none, none, none, none, none] m).bind _ = _
  rw [evCs_rt (d := .non) (m' := m) (by
    rw [evC, evE, evE_var (d := .non) rfl, rs_ok, evE, rs_ok, cmD_is, rs_ok]
    simp only [D.isNon]
    rw [evCs_one, evC, evE, rs_ok]), rs_ok]
theorem trow_ok (T : RowTab G Gl Gi Gc Ge Go) (c : Cl) (r : Option Int × Ls) (hl1 : c.needs.length = r.2.length) (hl2 : c.keeps.length = r.2.length) (hl3 : r.2.length ≤ 3) (hne : allT c.keeps r.1 r.2 ≠ []) : ∃ e, runF G 2 9 bTplainRow [lifeI c, rowI r] m = .ok (rI (plainRow c.keeps c.needs r)) (m ++ e) := by
  obtain ⟨l, ls⟩ := r
  dsimp only at hl1 hl2 hl3 hne
  have hrange : List.range c.keeps.length = List.range ls.length := by rw [hl2]
  unfold plainRow
  rw [hrange]
  obtain ⟨y4, y5, y6, e3⟩ := one_loop (G := G) (c := c) (v1 := rowI (l, ls)) (p := m.length) (m := m ++ [.lst (ls.map tm)]) (o := .dead) T.lt (l := l) (ls := ls) hl1 hl2 get_mid
  have hlen := ones_len (keeps := c.keeps) (needs := c.needs) (ks := List.range ls.length) (s := (l, ls))
  have hne2 := ones_ne (needs := c.needs) (ks := List.range ls.length) (s := (l, ls)) hne
  generalize ones c.keeps c.needs (List.range ls.length) (l, ls) = s at e3 hlen hne2 ⊢
  obtain ⟨l1, ls1⟩ := s
  dsimp only at e3 hlen hne2 ⊢
  rw [set_mid] at e3
  obtain ⟨i, hi⟩ := minL_some hne2
  have ecall := fun mm => call_ok (G := Gc) (m := mm) T.gc.r1 T.gc.r2 (l1, ls1) c.keeps (by omega) hi
  have s0 : evC G (.ife (.cmp .Is (.var 1) (.con .non)) [(.ret (.con .non))] []) [some (lifeI c), some (rowI (l, ls)), none, none, none, none, none, none, none] m = .ok (.nx [some (lifeI c), some (rowI (l, ls)), none, none, none, none, none, none, none]) m := by
    rw [evC, evE, evE_var (d := rowI (l, ls)) rfl, rs_ok, evE, rs_ok, cmD_is, rs_ok]
    simp only [rowI, D.isNon]
    rw [evCs]
  have s1 : evC G (.asg (.nm 2) (.att (.var 1) "left")) [some (lifeI c), some (rowI (l, ls)), none, none, none, none, none, none, none] m = .ok (.nx [some (lifeI c), some (rowI (l, ls)), some (tm l), none, none, none, none, none, none]) m := by
    rw [evC, evE, evE_var (d := rowI (l, ls)) rfl, rs_ok, att_left T, rs_ok, evG, rs_ok]
    rfl
  have s2 : evC G (.asg (.nm 3) (.blt .listO [(.att (.var 1) "lost")])) [some (lifeI c), some (rowI (l, ls)), some (tm l), none, none, none, none, none, none] m = .ok (.nx [some (lifeI c), some (rowI (l, ls)), some (tm l), some (.own m.length), none, none, none, none, none]) (m ++ [.lst (ls.map tm)]) := by
    rw [evC, evE, evEs, evE, evE_var (d := rowI (l, ls)) rfl, rs_ok, att_lost T, rs_ok, evEs, rs_ok, rs_ok]
    rfl
  have s3 : evC G (.for (.tup [(.nm 4), (.tup [(.nm 5), (.nm 6)])]) (.ext "enumzip" [(.att (.var 0) "_needs"), (.att (.var 0) "_keeps")]) bOne) [some (lifeI c), some (rowI (l, ls)), some (tm l), some (.own m.length), none, none, none, none, none] (m ++ [.lst (ls.map tm)]) = .ok (.nx [some (lifeI c), some (rowI (l, ls)), some (tm l1), some (.own m.length), y4, y5, y6, none, none]) (m ++ [.lst (ls1.map tm)]) := by
    rw [evC_for, evI, T.ez]
    dsimp only
    rw [evEs, evE, evE_var (d := lifeI c) rfl, rs_ok, att_needs T.fl, rs_ok, evEs, evE, evE_var (d := lifeI c) rfl, rs_ok, att_keeps T.fl, rs_ok, evEs, rs_ok, rs_ok, rs_ok]
    exact e3
  have s4 : evC G (.asg (.nm 7) (.mk "LifeRow" [(.var 2), (.var 3)])) [some (lifeI c), some (rowI (l, ls)), some (tm l1), some (.own m.length), y4, y5, y6, none, none] (m ++ [.lst (ls1.map tm)]) = .ok (.nx [some (lifeI c), some (rowI (l, ls)), some (tm l1), some (.own m.length), y4, y5, y6, some (rowI (l1, ls1)), none]) (m ++ [.lst (ls1.map tm), .dead]) := by
    rw [evC, mkrow_at T (l := l1) (ls := ls1) (p := m.length) rfl rfl get_mid, rs_ok, app_mid, evG, rs_ok]
    rfl
  have c5 : evE G (.cmp .Lt (.cal (.var 7) [(.att (.var 0) "_keeps")]) (.con (.int 1))) [some (lifeI c), some (rowI (l, ls)), some (tm l1), some (.own m.length), y4, y5, y6, some (rowI (l1, ls1)), none] (m ++ [.lst (ls1.map tm), .dead]) = .ok (.bl (decide (bnd c.keeps l1 ls1 < 1))) (m ++ [.lst (ls1.map tm), .dead, .lst ((allT c.keeps l1 ls1).map .int)]) := by
    rw [evE, evE, evE_var (d := rowI (l1, ls1)) rfl, rs_ok, ins_row]
    dsimp only
    rw [evEs, evE, evE_var (d := lifeI c) rfl, rs_ok, att_keeps T.fl, rs_ok, evEs, rs_ok, rs_ok, ins_row]
    dsimp only
    rw [T.ca]
    dsimp only
    rw [show iD c.keeps = .tup (c.keeps.map .int) from rfl, ecall, rs_ok, evE, rs_ok, cmD_lt, app_mid]
    rfl
  by_cases hb : bnd c.keeps l1 ls1 < 1
  · rw [if_pos hb]
    refine ⟨[.lst (ls1.map tm), .dead, .lst ((allT c.keeps l1 ls1).map .int)], ?_⟩
    unfold runF bTplainRow
    refine (if_pos (by rfl)).trans ?_
    show (evCs G (_ :: _) [some (lifeI c), some (rowI (l, ls)), none, none, none, none, none, none, none] m).bind _ = _
    rw [evCs_nx s0, evCs_nx s1, evCs_nx s2, evCs_nx s3, evCs_nx s4, evCs_rt (d := .non) (by
      rw [evC, c5, rs_ok, decide_eq_true hb]
      dsimp only
      rw [evCs_one, evC, evE, rs_ok]), rs_ok]
    rfl
  · rw [if_neg hb]
    have s5 : evC G (.ife (.cmp .Lt (.cal (.var 7) [(.att (.var 0) "_keeps")]) (.con (.int 1))) [(.ret (.con .non))] []) [some (lifeI c), some (rowI (l, ls)), some (tm l1), some (.own m.length), y4, y5, y6, some (rowI (l1, ls1)), none] (m ++ [.lst (ls1.map tm), .dead]) = .ok (.nx [some (lifeI c), some (rowI (l, ls)), some (tm l1), some (.own m.length), y4, y5, y6, some (rowI (l1, ls1)), none]) (m ++ [.lst (ls1.map tm), .dead, .lst ((allT c.keeps l1 ls1).map .int)]) := by
      rw [evC, c5, rs_ok, decide_eq_false hb]
      dsimp only
      rw [evCs]
    obtain ⟨z4, z5, e6⟩ := two_loop (G := G) (c := c) (v1 := rowI (l, ls)) (x4 := y4) (x5 := y5) (x6 := y6) (x7 := some (rowI (l1, ls1))) (p := m.length) T.go T.be2 T.lo (l := l1) (ls := ls1) (m := m ++ [.lst (ls1.map tm), .dead, .lst ((allT c.keeps l1 ls1).map .int)]) (by omega) (by omega) (by omega) get_mid
    rw [hlen, set_mid] at e6
    have hl4 := drops_len (keeps := c.keeps) (needs := c.needs) (l := l1) (ks := List.range ls.length) (ls := ls1)
    generalize drops c.keeps c.needs l1 (List.range ls.length) ls1 = ls2 at e6 hl4 ⊢
    have s6 : evC G (.for (.tup [(.nm 4), (.nm 5)]) (.enu (.att (.var 0) "_needs")) bTwo) [some (lifeI c), some (rowI (l, ls)), some (tm l1), some (.own m.length), y4, y5, y6, some (rowI (l1, ls1)), none] (m ++ [.lst (ls1.map tm), .dead, .lst ((allT c.keeps l1 ls1).map .int)]) = .ok (.nx [some (lifeI c), some (rowI (l, ls)), some (tm l1), some (.own m.length), z4, z5, y6, some (rowI (l1, ls1)), none]) (m ++ [.lst (ls2.map tm), .dead, .lst ((allT c.keeps l1 ls1).map .int)]) := by
      rw [evC_for, evI_enuW (x := iD c.needs) (xs := c.needs.map .int) (w := []) (by rw [evE, evE_var (d := lifeI c) rfl, rs_ok, att_needs T.fl]) rfl, rs_ok]
      exact e6
    have s7 : evC G (.asg (.nm 8) (.fn "best_ends" [(.att (.var 0) "_keeps"), (.var 3)])) [some (lifeI c), some (rowI (l, ls)), some (tm l1), some (.own m.length), z4, z5, y6, some (rowI (l1, ls1)), none] (m ++ [.lst (ls2.map tm), .dead, .lst ((allT c.keeps l1 ls1).map .int)]) = .ok (.nx [some (lifeI c), some (rowI (l, ls)), some (tm l1), some (.own m.length), z4, z5, y6, some (rowI (l1, ls1)), some (.lst ((terms c.keeps ls2).map .int))]) (m ++ [.lst (ls2.map tm), .dead, .lst ((allT c.keeps l1 ls1).map .int)]) := by
      rw [evC, evE, T.be]
      dsimp only
      rw [evEs, evE, evE_var (d := lifeI c) rfl, rs_ok, att_keeps T.fl, rs_ok, evEs, evE_var (d := .own m.length) rfl, rs_ok, evEs, rs_ok, rs_ok, rs_ok, ends_ok c.keeps (by omega) (lookW_own get_mid) (okW_one get_mid), rs_ok, evG, rs_ok]
      rfl
    have s8 : evC G (.ife (.and (.tru (.var 8)) (.and (.cmp .IsNot (.var 2) (.con .non)) (.cmp .GtE (.var 2) (.blt .min [(.var 8)])))) [(.asg (.nm 2) (.con .non))] []) [some (lifeI c), some (rowI (l, ls)), some (tm l1), some (.own m.length), z4, z5, y6, some (rowI (l1, ls1)), some (.lst ((terms c.keeps ls2).map .int))] (m ++ [.lst (ls2.map tm), .dead, .lst ((allT c.keeps l1 ls1).map .int)]) = .ok (.nx [some (lifeI c), some (rowI (l, ls)), some (tm (lastL c.keeps l1 ls2)), some (.own m.length), z4, z5, y6, some (rowI (l1, ls1)), some (.lst ((terms c.keeps ls2).map .int))]) (m ++ [.lst (ls2.map tm), .dead, .lst ((allT c.keeps l1 ls1).map .int)]) := by
      have ht : ∀ mm, truD mm (.lst ((terms c.keeps ls2).map .int)) = some (!((terms c.keeps ls2).map D.int).isEmpty) := fun mm => rfl
      rw [evC, evE, evE, evE_var (d := .lst ((terms c.keeps ls2).map .int)) rfl, rs_ok, ht]
      unfold lastL
      rw [← terms_eq]
      cases hx : terms c.keeps ls2 with
      | nil =>
        have e0 : minL ([] : List Int) = none := rfl
        rw [e0]
        simp only [List.map_nil, List.isEmpty_nil, Bool.not_true, liftB, rs_ok]
        rw [evCs]
      | cons a as =>
        obtain ⟨q, hq⟩ := minL_some (l := a :: as) (fun z => by cases z)
        rw [hq]
        simp only [List.map_cons, List.isEmpty_cons, Bool.not_false, liftB, rs_ok]
        rw [evE, evE, evE_var (d := tm l1) rfl, rs_ok, evE, rs_ok, cmD_isNot, rs_ok, tm_isNon]
        cases l1 with
        | none =>
          simp only [Option.isNone_none, Bool.not_true, rs_ok]
          rw [evCs]
          try rfl
        | some x =>
          simp only [Option.isNone_some, Bool.not_false]
          rw [evE, evE_var (d := .int x) rfl, rs_ok, evE, evEs, evE_var (d := .lst (.int a :: as.map .int)) rfl, rs_ok, evEs, rs_ok, rs_ok]
          have hmin : ∀ mm, bltD G .min [.lst (.int a :: as.map .int)] mm = .ok (.int q) mm := fun mm => by
            rw [show D.int a :: as.map D.int = (a :: as).map D.int from rfl]
            simp only [bltD, look, Option.bind_some, ints_of, hq]
          rw [hmin, rs_ok, cmD_ge, rs_ok]
          by_cases w : q ≤ x
          · rw [decide_eq_true w, if_pos w]
            dsimp only
            rw [evCs_one, evC, evE, rs_ok, evG, rs_ok]
            rfl
          · rw [decide_eq_false w, if_neg w]
            dsimp only
            rw [evCs]
    refine ⟨[.lst (ls2.map tm), .dead, .lst ((allT c.keeps l1 ls1).map .int)] ++ [.dead], ?_⟩
    unfold runF bTplainRow
    refine (if_pos (by rfl)).trans ?_
    show (evCs G (_ :: _) [some (lifeI c), some (rowI (l, ls)), none, none, none, none, none, none, none] m).bind _ = _
    rw [evCs_nx s0, evCs_nx s1, evCs_nx s2, evCs_nx s3, evCs_nx s4, evCs_nx s5, evCs_nx s6, evCs_nx s7, evCs_nx s8, evCs_rt (d := rowI (lastL c.keeps l1 ls2, ls2)) (by
      rw [evC, mkrow_at T (l := lastL c.keeps l1 ls2) (ls := ls2) (p := m.length) rfl rfl get_mid, rs_ok]), rs_ok, List.append_assoc]
    rfl
end
end Pm

set_option maxRecDepth 100000
set_option maxHeartbeats 1000000
/-! The plain row, reckoned by the law: its turns -/
namespace Pm
open PySem L2
def bL1 : List C := [(.ife (.and (.cmp .IsNot (.idx (.var 5) (.var 6)) (.con .non)) (.cmp .Eq (.idx (.var 3) (.var 6)) (.var 7))) [(.asg (.nm 4) (.blt .min [(.bin .Add (.lst [(.blt .max [(.neg (.con (.int 1))), (.bin .Sub (.var 7) (.idx (.var 5) (.var 6)))])]) (.bin .Mult (.lst [(.var 4)]) (.blt .int [(.cmp .IsNot (.var 4) (.con .non))])))])), (.asg (.sub (.var 5) (.var 6)) (.con .non))] [])]
def bL2a : E := .lc false (.tup [(.nm 10), (.nm 11)]) (.enu (.var 5)) (some (.and (.cmp .IsNot (.var 11) (.con .non)) (.cmp .NotEq (.var 10) (.var 6)))) (.bin .Sub (.idx (.var 2) (.var 10)) (.var 11)) [10, 11]
def bL2b : E := .lc false (.tup [(.nm 10), (.nm 11)]) (.enu (.var 5)) (some (.cmp .IsNot (.var 11) (.con .non))) (.bin .Sub (.idx (.var 2) (.var 10)) (.var 11)) [10, 11]
def bL2 : List C := [(.asg (.nm 9) bL2a), (.asg (.nm 12) (.blt .min [(.bin .Add (.bin .Add (.var 9) (.bin .Mult (.lst [(.var 4)]) (.blt .int [(.cmp .IsNot (.var 4) (.con .non))]))) (.lst [(.con (.int 61))]))])), (.ife (.and (.cmp .IsNot (.idx (.var 5) (.var 6)) (.con .non)) (.cmp .GtE (.bin .Sub (.var 8) (.idx (.var 5) (.var 6))) (.var 12))) [(.asg (.sub (.var 5) (.var 6)) (.con .non))] [])]
theorem fm_congr {α β : Type} {f g : α → Option β} : ∀ {l : List α}, (∀ x ∈ l, f x = g x) → l.filterMap f = l.filterMap g
  | [], _ => rfl
  | a :: l, h => by
    rw [List.filterMap_cons, List.filterMap_cons, h a List.mem_cons_self, fm_congr fun x hx => h x (List.mem_cons_of_mem _ hx)]
/-- the terms, but for a place, by the places of the lost -/
theorem tms_enum (b : Option Nat) : ∀ (vs : List Int) (ls : Ls), vs.length = ls.length → ((List.range ls.length).zip ls).filterMap (fun p => if some p.1 = b then none else match vs[p.1]?, p.2 with | some v, some x => some (v - x) | _, _ => none) = tmsB vs ls b := fun vs ls h => by
  unfold tmsB
  rw [h]
  have e : (List.range ls.length).zip ls = (List.range ls.length).filterMap fun k => ls[k]?.map fun o => (k, o) := by
    have : ∀ (n : Nat) (l : Ls), n = l.length → (List.range n).zip l = (List.range n).filterMap fun k => l[k]?.map fun o => (k, o) := fun n l hn => by
      subst hn
      apply List.ext_getElem?
      intro i
      by_cases hi : i < l.length
      · have h1 : ((List.range l.length).zip l)[i]? = some (i, l[i]) := by
          rw [List.getElem?_zip_eq_some]
          exact ⟨List.getElem?_range hi, List.getElem?_eq_getElem hi⟩
        have h2 : (List.range l.length).filterMap (fun k => l[k]?.map fun o => (k, o)) = (List.range l.length).map fun k => (k, l.getD k none) := by
          rw [← List.filterMap_eq_map]
          apply fm_congr
          intro k hk
          have hk := List.mem_range.mp hk
          rw [List.getElem?_eq_getElem hk]
          simp [List.getD, List.getElem?_eq_getElem hk]
        rw [h1, h2, List.getElem?_map, List.getElem?_range hi]
        simp [List.getD, List.getElem?_eq_getElem hi]
      · rw [List.getElem?_eq_none (by rw [List.length_zip, List.length_range]; omega)]
        symm
        apply List.getElem?_eq_none
        refine Nat.le_trans (List.length_filterMap_le ..) ?_
        rw [List.length_range]
        omega
    exact this _ _ rfl
  rw [e, List.filterMap_filterMap]
  apply fm_congr
  intro k hk
  have hk := List.mem_range.mp hk
  rw [List.getElem?_eq_getElem hk]
  unfold tmAt
  rw [List.getElem?_eq_getElem hk]
  have hv : vs[k]? = some vs[k] := List.getElem?_eq_getElem (by omega)
  rw [hv]
  show (if some k = b then none else match vs[k]?, ls[k] with | some v, some x => some (v - x) | _, _ => none) = _
  rw [hv]
  cases ls[k] <;> rfl
theorem int_at {xs : List Int} {k : Nat} {x : Int} (h : xs[k]? = some x) : atI (xs.map D.int) (k : Nat) = some (.int x) := atN k (by rw [List.getElem?_map, h]; rfl)
theorem idxI {G : Gm} {m : Mu} {ρ : Env} {i j k : Nat} {xs : List Int} {x : Int} (hi : ρ[i]? = some (some (iD xs))) (hj : ρ[j]? = some (some (.int (k : Nat)))) (h : xs[k]? = some x) : evE G (.idx (.var i) (.var j)) ρ m = .ok (.int x) m := by
  rw [evE, evE_var hi, rs_ok, evE_var hj, rs_ok]
  exact idx_tup (int_at h)
/-- the law's list of what is left, none or one -/
theorem oneL {G : Gm} {m : Mu} {ρ : Env} {j : Nat} {l : Option Int} (hj : ρ[j]? = some (some (tm l))) : evE G (.bin .Mult (.lst [(.var j)]) (.blt .int [(.cmp .IsNot (.var j) (.con .non))])) ρ m = .ok (.lst (l.toList.map .int)) m := by
  rw [evE, evE, evEs, evE_var hj, rs_ok, evEs, rs_ok, rs_ok]
  simp only [List.length_cons, List.length_nil, w_one, if_true, rs_ok]
  rw [evE, evEs, evE, evE_var hj, rs_ok, evE, rs_ok, cmD_isNot, rs_ok, evEs, rs_ok, rs_ok, tm_isNon]
  cases l <;> rfl
section
variable {G : Gm} {m : Mu}
theorem min_ints {l : List Int} {i : Int} (h : minL l = some i) : bltD G .min [.lst (l.map .int)] m = .ok (.int i) m := by
  simp only [bltD, look, Option.bind_some, ints_of, h]
theorem addL {a b : List Int} (h : a.length + b.length ≤ sizeLine) : opD G .Add (.lst (a.map .int)) (.lst (b.map .int)) m = .ok (.lst ((a ++ b).map .int)) m := by
  have z : (a.map D.int).length + (b.map D.int).length ≤ sizeLine := by rw [List.length_map, List.length_map]; exact h
  simp only [opD, binD, binL, lookT, z, if_true, List.map_append]
theorem toL_len (l : Option Int) : l.toList.length ≤ 1 := by cases l <;> simp
theorem min_leastI (l : Option Int) (y : Int) : minL (y :: l.toList) = some ((leastI l y).getD 0) := by
  cases l with
  | none => rfl
  | some a =>
    show some (if a < y then a else y) = some (if y < a then y else a)
    congr 1
    split <;> split <;> omega
theorem leastI_some (l : Option Int) (y : Int) : leastI l y = some ((leastI l y).getD 0) := by cases l <;> rfl
/-- one turn of the first loop -/
theorem l1_turn {keeps needs : List Int} {l : Option Int} {cl rw : D} {x8 x9 x10 x11 x12 : Option D} {p k : Nat} {ls : Ls} (hm : m[p]? = some (.lst (ls.map tm))) {n kp : Int} (hn : needs[k]? = some n) (hkp : keeps[k]? = some kp) (hk : k < ls.length) :
    evCs G bL1 [some cl, some rw, some (iD keeps), some (iD needs), some (tm l), some (.own p), some (.int (k : Nat)), some (.int kp), x8, x9, x10, x11, x12] m =
      .ok (.nx [some cl, some rw, some (iD keeps), some (iD needs), some (tm (oneAt keeps needs (l, ls) k).1), some (.own p), some (.int (k : Nat)), some (.int kp), x8, x9, x10, x11, x12]) (m.set p (.lst ((oneAt keeps needs (l, ls) k).2.map tm))) := by
  obtain ⟨o, ho⟩ : ∃ o, ls[k]? = some o := ⟨ls[k], List.getElem?_eq_getElem hk⟩
  have ix := idx_at (G := G) (ρ := [some cl, some rw, some (iD keeps), some (iD needs), some (tm l), some (.own p), some (.int (k : Nat)), some (.int kp), x8, x9, x10, x11, x12]) (j := 5) (i := 6) rfl rfl hm ho
  have ixn := idxI (G := G) (m := m) (ρ := [some cl, some rw, some (iD keeps), some (iD needs), some (tm l), some (.own p), some (.int (k : Nat)), some (.int kp), x8, x9, x10, x11, x12]) (i := 3) (j := 6) rfl rfl hn
  unfold bL1
  rw [evCs_one, evC, evE, evE, ix, rs_ok, evE, rs_ok, cmD_isNot, rs_ok]
  cases o with
  | none =>
    have e : oneAt keeps needs (l, ls) k = (l, ls) := by
      unfold oneAt tmAt
      rw [hkp, ho]
    rw [e, set_same hm]
    simp only [tm_isNon, Option.isNone_none, Bool.not_true, rs_ok]
    rw [evCs]
  | some x =>
    have et : tmAt keeps ls k = some (kp - x) := by unfold tmAt; rw [hkp, ho]
    simp only [tm_isNon, Option.isNone_some, Bool.not_false]
    rw [evE, ixn, rs_ok, evE_var (d := .int kp) rfl, rs_ok, cmD_eqI, rs_ok]
    by_cases q : n = kp
    · subst q
      have e : oneAt keeps needs (l, ls) k = (leastI l (max (n - x) (-1)), ls.set k none) := by
        unfold oneAt
        rw [hkp, et]
        dsimp only
        rw [if_pos hn]
      rw [e, beq_self_eq_true]
      dsimp only
      have emax : bltD G .max [.int (-1), .int (n - x)] m = .ok (.int (max (n - x) (-1))) m := by
        rw [blt_max]
        congr 2
        split <;> omega
      have hz : [max (n - x) (-1)].length + l.toList.length ≤ sizeLine := by
        have h1 := toL_len l
        have h2 : 2 ≤ sizeLine := by decide
        simp only [List.length_cons, List.length_nil]
        omega
      have e1 : evE G (.lst [(.blt .max [(.neg (.con (.int 1))), (.bin .Sub (.var 7) (.idx (.var 5) (.var 6)))])]) [some cl, some rw, some (iD keeps), some (iD needs), some (tm l), some (.own p), some (.int (k : Nat)), some (.int n), x8, x9, x10, x11, x12] m = .ok (.lst ([max (n - x) (-1)].map .int)) m := by
        rw [evE, evEs, evE, evEs, evE, evE, rs_ok]
        dsimp only
        rw [rs_ok, evEs, evE, evE_var (d := .int n) rfl, rs_ok, ix, rs_ok, show tm (some x) = .int x from rfl, opD_sub, rs_ok, evEs, rs_ok, rs_ok, rs_ok, emax, rs_ok, evEs, rs_ok, rs_ok]
        simp only [List.length_cons, List.length_nil, w_one, if_true, List.map_cons, List.map_nil]
      rw [evCs_nx (ρ' := [some cl, some rw, some (iD keeps), some (iD needs), some (tm (leastI l (max (n - x) (-1)))), some (.own p), some (.int (k : Nat)), some (.int n), x8, x9, x10, x11, x12]) (m' := m) (by
        rw [evC, evE, evEs, evE, e1, rs_ok, oneL (l := l) rfl, rs_ok, addL hz, rs_ok, evEs, rs_ok, rs_ok, min_ints (l := [max (n - x) (-1)] ++ l.toList) (i := (leastI l (max (n - x) (-1))).getD 0) (min_leastI l _), rs_ok, evG, rs_ok,
          show D.int ((leastI l (max (n - x) (-1))).getD 0) = tm (some ((leastI l (max (n - x) (-1))).getD 0)) from rfl, ← leastI_some]
        rfl), evCs_nx (sub_none (j := 5) (i := 6) rfl rfl hm hk), evCs]
    · have e : oneAt keeps needs (l, ls) k = (l, ls) := by
        unfold oneAt
        rw [hkp, et]
        dsimp only
        rw [if_neg (by rw [hn]; intro z; injection z; omega)]
      rw [e, set_same hm, show (n == kp) = false by rw [beq_eq_false_iff_ne]; exact q]
      dsimp only
      rw [evCs]
end
end Pm

set_option maxRecDepth 100000
set_option maxHeartbeats 1000000
/-! The plain row, reckoned by the law: the second loop's turns -/
namespace Pm
open PySem L2
theorem enu_tm (ls : Ls) : (List.range (ls.map tm).length).zipWith (fun (i : Nat) x => D.tup [.int (i : Nat), x]) (ls.map tm) = ((List.range ls.length).zip ls).map fun p => .tup [.int (p.1 : Nat), tm p.2] := by
  rw [zw_map, List.length_map, List.zip_map_right, List.map_map]
  rfl
theorem cmD_neI {G : Gm} {m : Mu} {i j : Int} : cmD G .NotEq (.int i) (.int j) m = .ok (.bl (!(i == j))) m := cmD_ne (x := .int i) (y := .int j) rfl rfl rfl rfl
def phiB (keeps : List Int) (b : Option Nat) (p : Nat × Option Int) : Option Int := if some p.1 = b then none else match keeps[p.1]?, p.2 with | some v, some x => some (v - x) | _, _ => none
section
variable {G : Gm} {m : Mu}
theorem zip_mem {ls : Ls} {p : Nat × Option Int} (h : p ∈ (List.range ls.length).zip ls) : p.1 < ls.length := by
  obtain ⟨a, b⟩ := p
  exact List.mem_range.mp (List.of_mem_zip h).1
/-- the others, listed by the law -/
theorem l2a_ok {keeps : List Int} {l : Option Int} {cl rw nd : D} {x7 x8 x9 x10 x11 x12 : Option D} {p k : Nat} {ls : Ls} (hm : m[p]? = some (.lst (ls.map tm))) (hl : keeps.length = ls.length) (hl3 : ls.length ≤ 3) :
    evE G bL2a [some cl, some rw, some (iD keeps), some nd, some (tm l), some (.own p), some (.int (k : Nat)), x7, x8, x9, x10, x11, x12] m = .ok (.lst ((tmsB keeps ls (some k)).map .int)) m := by
  have := lc_src (G := G) (m := m) (ρ := [some cl, some rw, some (iD keeps), some nd, some (tm l), some (.own p), some (.int (k : Nat)), x7, x8, x9, x10, x11, x12]) (w := [(p, ls.map tm)]) (g := .tup [(.nm 10), (.nm 11)]) (it := .enu (.var 5)) (c := some (.and (.cmp .IsNot (.var 11) (.con .non)) (.cmp .NotEq (.var 10) (.var 6)))) (elt := .bin .Sub (.idx (.var 2) (.var 10)) (.var 11)) (ws := [10, 11])
    ((List.range ls.length).zip ls) (fun p => .tup [.int (p.1 : Nat), tm p.2]) (fun p => (phiB keeps (some k) p).map D.int) (by rw [← enu_tm]; exact evI_enuW (evE_var rfl) (lookW_own hm)) (okW_one hm) (by rw [List.length_zip, List.length_range]; have := three; omega) fun q hq => by
      have hq := zip_mem hq
      obtain ⟨i, o⟩ := q
      dsimp only at hq ⊢
      have hv : keeps[i]? = some keeps[i] := List.getElem?_eq_getElem (by omega)
      unfold lcT phiB
      rw [show evG G (.tup [(.nm 10), (.nm 11)]) (.tup [.int (i : Nat), tm o]) (wipeD [some cl, some rw, some (iD keeps), some nd, some (tm l), some (.own p), some (.int (k : Nat)), x7, x8, x9, x10, x11, x12] [10, 11]) m = .ok [some cl, some rw, some (iD keeps), some nd, some (tm l), some (.own p), some (.int (k : Nat)), x7, x8, x9, some (.int (i : Nat)), some (tm o), x12] m by
        simp only [evG, evGs, wipeD, List.length_cons, List.length_nil, if_true, rs_ok, List.set_cons_succ, List.set_cons_zero], rs_ok, evT, evE, evE, evE_var (d := tm o) rfl, rs_ok, evE, rs_ok, cmD_isNot, rs_ok, tm_isNon]
      cases o with
      | none =>
        simp only [Option.isNone_none, Bool.not_true, rs_ok, Bool.false_eq_true, if_false]
        split <;> simp
      | some x =>
        simp only [Option.isNone_some, Bool.not_false]
        rw [evE, evE_var (d := .int (i : Nat)) rfl, rs_ok, evE_var (d := .int (k : Nat)) rfl, rs_ok, cmD_neI, rs_ok, rs_ok]
        by_cases c : i = k
        · subst c
          rw [beq_self_eq_true]
          simp
        · have hb : (((i : Nat) : Int) == ((k : Nat) : Int)) = false := by rw [beq_eq_false_iff_ne]; omega
          have hn : ¬ some i = some k := fun z => c (by injection z)
          rw [hb, hv]
          simp only [Bool.not_false, if_true, hn, if_false]
          rw [evE, idxI (x := keeps[i]) rfl rfl hv, rs_ok, evE_var (d := .int x) rfl, rs_ok, opD_sub, rs_ok]
          rfl
  unfold bL2a
  rw [this, ← tms_enum (some k) keeps ls hl, List.map_filterMap]
  rfl
theorem l2b_ok {keeps : List Int} {l : Option Int} {cl rw nd : D} {x6 x7 x8 x9 x10 x11 x12 : Option D} {p : Nat} {ls : Ls} (hm : m[p]? = some (.lst (ls.map tm))) (hl : keeps.length = ls.length) (hl3 : ls.length ≤ 3) :
    evE G bL2b [some cl, some rw, some (iD keeps), some nd, some (tm l), some (.own p), x6, x7, x8, x9, x10, x11, x12] m = .ok (.lst ((tmsB keeps ls none).map .int)) m := by
  have := lc_src (G := G) (m := m) (ρ := [some cl, some rw, some (iD keeps), some nd, some (tm l), some (.own p), x6, x7, x8, x9, x10, x11, x12]) (w := [(p, ls.map tm)]) (g := .tup [(.nm 10), (.nm 11)]) (it := .enu (.var 5)) (c := some (.cmp .IsNot (.var 11) (.con .non))) (elt := .bin .Sub (.idx (.var 2) (.var 10)) (.var 11)) (ws := [10, 11])
    ((List.range ls.length).zip ls) (fun p => .tup [.int (p.1 : Nat), tm p.2]) (fun p => (phiB keeps none p).map D.int) (by rw [← enu_tm]; exact evI_enuW (evE_var rfl) (lookW_own hm)) (okW_one hm) (by rw [List.length_zip, List.length_range]; have := three; omega) fun q hq => by
      have hq := zip_mem hq
      obtain ⟨i, o⟩ := q
      dsimp only at hq ⊢
      have hv : keeps[i]? = some keeps[i] := List.getElem?_eq_getElem (by omega)
      unfold lcT phiB
      rw [show evG G (.tup [(.nm 10), (.nm 11)]) (.tup [.int (i : Nat), tm o]) (wipeD [some cl, some rw, some (iD keeps), some nd, some (tm l), some (.own p), x6, x7, x8, x9, x10, x11, x12] [10, 11]) m = .ok [some cl, some rw, some (iD keeps), some nd, some (tm l), some (.own p), x6, x7, x8, x9, some (.int (i : Nat)), some (tm o), x12] m by
        simp only [evG, evGs, wipeD, List.length_cons, List.length_nil, if_true, rs_ok, List.set_cons_succ, List.set_cons_zero], rs_ok, evT, evE, evE_var (d := tm o) rfl, rs_ok, evE, rs_ok, cmD_isNot, rs_ok, tm_isNon, rs_ok]
      cases o with
      | none => simp
      | some x =>
        rw [if_neg (show ¬ some i = none by simp), hv]
        simp only [Option.isNone_some, Bool.not_false, if_true]
        rw [evE, idxI (x := keeps[i]) rfl rfl hv, rs_ok, evE_var (d := .int x) rfl, rs_ok, opD_sub, rs_ok]
        rfl
  unfold bL2b
  rw [this, ← tms_enum none keeps ls hl, List.map_filterMap]
  rfl
end
end Pm

set_option maxRecDepth 100000
set_option maxHeartbeats 1000000
/-! The plain row, reckoned by the law: the loops -/
namespace Pm
open PySem L2
section
variable {G : Gm} {m : Mu}
theorem min61 {keeps : List Int} {l : Option Int} {ls : Ls} {k : Nat} (h : ∀ x, l = some x → x ≤ 61) : minL ((tmsB keeps ls (some k) ++ l.toList) ++ [61]) = minL (others keeps l ls k) := by
  refine minL_dom (fun x hx => ?_) (fun y hy => ?_)
  · unfold others
    rcases List.mem_append.mp hx with q | q
    · rcases List.mem_append.mp q with q | q
      · exact ⟨x, List.mem_append_left _ q, Int.le_refl _⟩
      · cases l with
        | none => simp at q
        | some a => simp at q; subst q; exact ⟨x, List.mem_append_right _ (by simp), Int.le_refl _⟩
    · simp at q
      subst q
      cases l with
      | none => exact ⟨61, List.mem_append_right _ (by simp), Int.le_refl _⟩
      | some a => exact ⟨a, List.mem_append_right _ (by simp), h a rfl⟩
  · unfold others at hy
    rcases List.mem_append.mp hy with q | q
    · exact ⟨y, List.mem_append_left _ (List.mem_append_left _ q), Int.le_refl _⟩
    · rw [List.mem_singleton] at q
      subst q
      cases l with
      | none => exact ⟨61, List.mem_append_right _ (by simp), Int.le_refl _⟩
      | some a => exact ⟨a, List.mem_append_left _ (List.mem_append_right _ (by simp)), Int.le_refl _⟩
theorem l2_turn {keeps needs : List Int} {l : Option Int} {cl rw : D} {x7 x9 x10 x11 x12 : Option D} {p k : Nat} {ls : Ls} (h61 : ∀ x, l = some x → x ≤ 61) (hm : m[p]? = some (.lst (ls.map tm))) (hl : keeps.length = ls.length) (hl3 : ls.length ≤ 3) {n : Int} (hn : needs[k]? = some n) (hk : k < ls.length) :
    ∃ y9 y12, evCs G bL2 [some cl, some rw, some (iD keeps), some (iD needs), some (tm l), some (.own p), some (.int (k : Nat)), x7, some (.int n), x9, x10, x11, x12] m =
      .ok (.nx [some cl, some rw, some (iD keeps), some (iD needs), some (tm l), some (.own p), some (.int (k : Nat)), x7, some (.int n), y9, x10, x11, y12]) (m.set p (.lst ((dropAt keeps needs l ls k).map tm))) := by
  obtain ⟨o, ho⟩ : ∃ o, ls[k]? = some o := ⟨ls[k], List.getElem?_eq_getElem hk⟩
  obtain ⟨b, hb⟩ := minL_some (l := others keeps l ls k) (fun z => by unfold others at z; simp at z)
  refine ⟨some (.lst ((tmsB keeps ls (some k)).map .int)), some (.int b), ?_⟩
  have tl : (tmsB keeps ls (some k)).length ≤ 3 := by
    unfold tmsB
    refine Nat.le_trans (List.length_filterMap_le ..) ?_
    rw [List.length_range]; omega
  have h1 : (tmsB keeps ls (some k)).length + l.toList.length ≤ sizeLine := by
    have := toL_len l
    have h2 : 5 ≤ sizeLine := by decide
    omega
  have h2 : (tmsB keeps ls (some k) ++ l.toList).length + ([61] : List Int).length ≤ sizeLine := by
    have := toL_len l
    have h2 : 5 ≤ sizeLine := by decide
    rw [List.length_append]
    simp only [List.length_cons, List.length_nil]
    omega
  have ix := idx_at (G := G) (ρ := [some cl, some rw, some (iD keeps), some (iD needs), some (tm l), some (.own p), some (.int (k : Nat)), x7, some (.int n), some (.lst ((tmsB keeps ls (some k)).map .int)), x10, x11, some (.int b)]) (j := 5) (i := 6) rfl rfl hm ho
  unfold bL2
  rw [evCs_nx (ρ' := [some cl, some rw, some (iD keeps), some (iD needs), some (tm l), some (.own p), some (.int (k : Nat)), x7, some (.int n), some (.lst ((tmsB keeps ls (some k)).map .int)), x10, x11, x12]) (m' := m) (by
    rw [evC, l2a_ok hm hl hl3, rs_ok, evG, rs_ok]; rfl)]
  rw [evCs_nx (ρ' := [some cl, some rw, some (iD keeps), some (iD needs), some (tm l), some (.own p), some (.int (k : Nat)), x7, some (.int n), some (.lst ((tmsB keeps ls (some k)).map .int)), x10, x11, some (.int b)]) (m' := m) (by
    rw [evC, evE, evEs, evE, evE, evE_var (d := .lst ((tmsB keeps ls (some k)).map .int)) rfl, rs_ok, oneL (l := l) rfl, rs_ok, addL h1, rs_ok, evE, evEs, evE, rs_ok, evEs, rs_ok, rs_ok]
    simp only [List.length_cons, List.length_nil, w_one, if_true, rs_ok]
    rw [show ([D.int 61] : List D) = ([61] : List Int).map .int from rfl, addL h2, rs_ok, evEs, rs_ok, rs_ok, min_ints ((min61 h61).trans hb), rs_ok, evG, rs_ok]
    rfl)]
  rw [evCs_one, evC, evE, evE, ix, rs_ok, evE, rs_ok, cmD_isNot, rs_ok]
  cases o with
  | none =>
    have e : dropAt keeps needs l ls k = ls := by
      unfold dropAt tmAt
      rw [hn, ho]
    rw [e, set_same hm]
    simp only [tm_isNon, Option.isNone_none, Bool.not_true, rs_ok]
    rw [evCs]
  | some x =>
    have et : tmAt needs ls k = some (n - x) := by unfold tmAt; rw [hn, ho]
    simp only [tm_isNon, Option.isNone_some, Bool.not_false]
    rw [evE, evE, evE_var (d := .int n) rfl, rs_ok, ix, rs_ok, show tm (some x) = .int x from rfl, opD_sub, rs_ok, evE_var (d := .int b) rfl, rs_ok, cmD_ge, rs_ok]
    by_cases q : b ≤ n - x
    · have e : dropAt keeps needs l ls k = ls.set k none := by
        unfold dropAt
        rw [et, hb]
        dsimp only
        rw [if_pos q]
      rw [e, decide_eq_true q]
      dsimp only
      rw [evCs_nx (sub_none (j := 5) (i := 6) rfl rfl hm hk), evCs]
    · have e : dropAt keeps needs l ls k = ls := by
        unfold dropAt
        rw [et, hb]
        dsimp only
        rw [if_neg q]
      rw [e, set_same hm, decide_eq_false q]
      dsimp only
      rw [evCs]
/-- the first loop -/
theorem l1_loop {keeps needs : List Int} {cl rw : D} {p : Nat} {l : Option Int} {ls : Ls} (hl1 : needs.length = ls.length) (hl2 : keeps.length = ls.length) (hm : m[p]? = some (.lst (ls.map tm))) :
    ∃ x6 x7, forL [] (fun (d : D) (ρ : Env) (m : Mu) => (evG G (.tup [(.nm 6), (.nm 7)]) d ρ m).bind fun ρ m => evCs G bL1 ρ m) ((List.range (keeps.map D.int).length).zipWith (fun (i : Nat) x => D.tup [.int (i : Nat), x]) (keeps.map .int)) [some cl, some rw, some (iD keeps), some (iD needs), some (tm l), some (.own p), none, none, none, none, none, none, none] m =
      .ok (.nx [some cl, some rw, some (iD keeps), some (iD needs), some (tm (ones keeps needs (List.range ls.length) (l, ls)).1), some (.own p), x6, x7, none, none, none, none, none]) (m.set p (.lst ((ones keeps needs (List.range ls.length) (l, ls)).2.map tm))) := by
  obtain ⟨ρ', m', e, hP⟩ := forL_inv (w := []) (f := fun (d : D) (ρ : Env) (m : Mu) => (evG G (.tup [(.nm 6), (.nm 7)]) d ρ m).bind fun ρ m => evCs G bL1 ρ m)
    (fun n ρ mm => ∃ x6 x7, ρ = [some cl, some rw, some (iD keeps), some (iD needs), some (tm (ones keeps needs (List.range n) (l, ls)).1), some (.own p), x6, x7, none, none, none, none, none] ∧ mm = m.set p (.lst ((ones keeps needs (List.range n) (l, ls)).2.map tm)))
    ((List.range (keeps.map D.int).length).zipWith (fun (i : Nat) x => D.tup [.int (i : Nat), x]) (keeps.map .int)) 0 (ρ := [some cl, some rw, some (iD keeps), some (iD needs), some (tm l), some (.own p), none, none, none, none, none, none, none]) (m := m) (fun _ _ _ _ => rfl) (fun j d ρ mm hj ⟨x6, x7, e1, e2⟩ => by
      obtain ⟨kp, h2, rfl⟩ := en_at hj
      rw [Nat.zero_add] at e1 e2 ⊢
      subst e1 e2
      have hk : j < ls.length := by rw [← hl2]; exact (List.getElem?_eq_some_iff.mp h2).1
      have hn : needs[j]? = some needs[j] := List.getElem?_eq_getElem (by omega)
      have ht := l1_turn (G := G) (keeps := keeps) (needs := needs) (l := (ones keeps needs (List.range j) (l, ls)).1) (cl := cl) (rw := rw) (x8 := none) (x9 := none) (x10 := none) (x11 := none) (x12 := none) (p := p) (k := j) (ls := (ones keeps needs (List.range j) (l, ls)).2) (m := m.set p (.lst ((ones keeps needs (List.range j) (l, ls)).2.map tm)))
        (set_get hm) hn h2 (by rw [ones_len]; exact hk)
      refine ⟨_, _, .inl ?_, some (.int (j : Nat)), some (.int kp), rfl, rfl⟩
      simp only [evG, evGs, List.length_cons, List.length_nil, if_true, rs_ok, List.set_cons_succ, List.set_cons_zero]
      rw [ht, set_set, ones_succ]) ⟨none, none, rfl, by
        show m = m.set p (.lst (ls.map tm))
        rw [set_same hm]⟩
  obtain ⟨x6, x7, rfl, rfl⟩ := hP
  rw [Nat.zero_add, List.length_zipWith, List.length_range, List.length_map, Nat.min_self, hl2] at e
  exact ⟨x6, x7, by rw [List.length_map, hl2]; exact e⟩
/-- the second loop -/
theorem l2_loop {keeps needs : List Int} {cl rw : D} {x6 x7 : Option D} {p : Nat} {l : Option Int} {ls : Ls} (h61 : ∀ x, l = some x → x ≤ 61) (hl1 : needs.length = ls.length) (hl2 : keeps.length = ls.length) (hl3 : ls.length ≤ 3) (hm : m[p]? = some (.lst (ls.map tm))) :
    ∃ x6' x8 x9 x12, forL [] (fun (d : D) (ρ : Env) (m : Mu) => (evG G (.tup [(.nm 6), (.nm 8)]) d ρ m).bind fun ρ m => evCs G bL2 ρ m) ((List.range (needs.map D.int).length).zipWith (fun (i : Nat) x => D.tup [.int (i : Nat), x]) (needs.map .int)) [some cl, some rw, some (iD keeps), some (iD needs), some (tm l), some (.own p), x6, x7, none, none, none, none, none] m =
      .ok (.nx [some cl, some rw, some (iD keeps), some (iD needs), some (tm l), some (.own p), x6', x7, x8, x9, none, none, x12]) (m.set p (.lst ((drops keeps needs l (List.range ls.length) ls).map tm))) := by
  obtain ⟨ρ', m', e, hP⟩ := forL_inv (w := []) (f := fun (d : D) (ρ : Env) (m : Mu) => (evG G (.tup [(.nm 6), (.nm 8)]) d ρ m).bind fun ρ m => evCs G bL2 ρ m)
    (fun n ρ mm => ∃ x6 x8 x9 x12, ρ = [some cl, some rw, some (iD keeps), some (iD needs), some (tm l), some (.own p), x6, x7, x8, x9, none, none, x12] ∧ mm = m.set p (.lst ((drops keeps needs l (List.range n) ls).map tm)))
    ((List.range (needs.map D.int).length).zipWith (fun (i : Nat) x => D.tup [.int (i : Nat), x]) (needs.map .int)) 0 (ρ := [some cl, some rw, some (iD keeps), some (iD needs), some (tm l), some (.own p), x6, x7, none, none, none, none, none]) (m := m) (fun _ _ _ _ => rfl) (fun j d ρ mm hj ⟨y6, y8, y9, y12, e1, e2⟩ => by
      obtain ⟨nd, h2, rfl⟩ := en_at hj
      rw [Nat.zero_add] at e2 ⊢
      subst e1 e2
      have hk : j < ls.length := by rw [← hl1]; exact (List.getElem?_eq_some_iff.mp h2).1
      obtain ⟨z9, z12, ht⟩ := l2_turn (G := G) (keeps := keeps) (needs := needs) (l := l) (cl := cl) (rw := rw) (x7 := x7) (x9 := y9) (x10 := none) (x11 := none) (x12 := y12) (p := p) (k := j) (ls := drops keeps needs l (List.range j) ls) (m := m.set p (.lst ((drops keeps needs l (List.range j) ls).map tm)))
        h61 (set_get hm) (by rw [drops_len]; exact hl2) (by rw [drops_len]; exact hl3) h2 (by rw [drops_len]; exact hk)
      refine ⟨_, _, .inl ?_, some (.int (j : Nat)), some (.int nd), z9, z12, rfl, rfl⟩
      simp only [evG, evGs, List.length_cons, List.length_nil, if_true, rs_ok, List.set_cons_succ, List.set_cons_zero]
      rw [ht, set_set, drops_succ]) ⟨x6, none, none, none, rfl, by
        show m = m.set p (.lst (ls.map tm))
        rw [set_same hm]⟩
  obtain ⟨y6, y8, y9, y12, rfl, rfl⟩ := hP
  rw [Nat.zero_add, List.length_zipWith, List.length_range, List.length_map, Nat.min_self, hl1] at e
  exact ⟨y6, y8, y9, y12, by rw [List.length_map, hl1]; exact e⟩
end
end Pm

set_option maxRecDepth 100000
set_option maxHeartbeats 1000000
/-! The plain row, reckoned by the law -/
namespace Pm
open PySem L2
def bLplainRow : List C := [(.asg (.tup [(.nm 2), (.nm 3)]) (.slc (.var 0) none (some (.con (.int 2))))),
    (.asg (.tup [(.nm 4), (.nm 5)]) (.tup [(.idx (.var 1) (.con (.int 0))), (.blt .listO [(.idx (.var 1) (.con (.int 1)))])])),
    (.for (.tup [(.nm 6), (.nm 7)]) (.enu (.var 2)) bL1),
    (.ife (.cmp .Lt (.fn "_law_bound" [(.tup [(.var 4), (.blt .tuple [(.var 5)])]), (.var 2)]) (.con (.int 1))) [(.ret (.con .non))] []),
    (.for (.tup [(.nm 6), (.nm 8)]) (.enu (.var 3)) bL2),
    (.asg (.nm 9) bL2b),
    (.ife (.and (.cmp .NotEq (.var 9) (.lst [])) (.and (.cmp .IsNot (.var 4) (.con .non)) (.cmp .GtE (.var 4) (.blt .min [(.var 9)])))) [(.asg (.nm 4) (.con .non))] []),
    (.ret (.tup [(.var 4), (.blt .tuple [(.var 5)])]))]
theorem ri0 (r : Option Int × List (Option Int)) (m : Mu) : liftO m (idxD m (rowD r) (.int 0)) = .ok (tm r.1) m := idx_tup at0
theorem ri1 (r : Option Int × List (Option Int)) (m : Mu) : liftO m (idxD m (rowD r) (.int 1)) = .ok (.tup (r.2.map tm)) m := idx_tup (ds := [tm r.1, .tup (r.2.map tm)]) (atN 1 rfl)
/-- what is left never grows over 61 -/
theorem leastI_61 {l : Option Int} {t : Int} (h : ∀ x, l = some x → x ≤ 61) (ht : t ≤ 61) : ∀ x, leastI l t = some x → x ≤ 61 := fun x e => by
  rcases mem_leastI e with rfl | e
  · exact ht
  · exact h x e
theorem one_61 {keeps needs : List Int} {s : Option Int × Ls} {k : Nat} (h : ∀ x, s.1 = some x → x ≤ 61) (hk : ∀ j t, tmAt keeps s.2 j = some t → t ≤ 61) : ∀ x, (oneAt keeps needs s k).1 = some x → x ≤ 61 := by
  unfold oneAt
  split
  · rename_i kp t e1 e2
    split
    · have := hk _ _ e2
      exact leastI_61 h (by omega)
    · exact h
  · exact h
theorem ones_61 {keeps needs : List Int} : ∀ {ks : List Nat} {s : Option Int × Ls}, (∀ x, s.1 = some x → x ≤ 61) → (∀ j t, tmAt keeps s.2 j = some t → t ≤ 61) → ∀ x, (ones keeps needs ks s).1 = some x → x ≤ 61
  | [], s, h, _ => h
  | k :: ks, s, h, hk => ones_61 (ks := ks) (one_61 h hk) fun j t e => hk j t (one_sub _ _ _ e)
section
variable {G Gb : Gm} {m : Mu}
theorem ints_ne (l : List Int) : cmD G .NotEq (.lst (l.map .int)) (.lst []) m = .ok (.bl (!l.isEmpty)) m := by
  have hpy : ∀ l : List Int, D.pys (l.map .int) = some (l.map .int) := fun l => by
    induction l with
    | nil => rfl
    | cons a l ih => rw [List.map_cons, D.pys, ih]; rfl
  have e := eq_nil (G := G) (m := m) (l.map some)
  rw [List.map_map, show (tm ∘ some) = D.int from rfl] at e
  have e2 : cmpD .Eq (.lst (l.map .int)) (.lst []) m = some (l.map some).isEmpty := by
    have : ∃ r, cmpD .Eq (.lst (l.map D.int)) (.lst []) m = some r := by
      cases h : cmpD .Eq (.lst (l.map D.int)) (.lst []) m with
      | some r => exact ⟨r, rfl⟩
      | none =>
        have h0 : eqD m (.lst (l.map D.int)) (.lst []) = none := h
        unfold eqD at h0
        cases hp : (D.lst (l.map D.int)).py with
        | none => rw [hp] at h0; simp [lookT, D.py, D.pys] at h0
        | some x =>
          rw [hp] at h0
          have hx : (D.lst (l.map D.int)).py = some (.list (l.map .int)) := by unfold D.py; rw [hpy]; rfl
          rw [hp] at hx
          cases hx
          have hs : SeqAt.shaped (.list (l.map PyData.int)) = true := by
            have := lst_shaped (l.map some)
            rw [List.map_map] at this
            exact this
          rw [show (D.lst []).py = some (.list []) from rfl] at h0
          dsimp only at h0
          rw [hs] at h0
          simp at h0
          exact absurd h0 (by decide)
    obtain ⟨r, hr⟩ := this
    unfold cmD at e
    rw [hr] at e
    cases e
    exact hr
  unfold cmD
  rw [show cmpD .NotEq (.lst (l.map .int)) (.lst []) m = (cmpD .Eq (.lst (l.map .int)) (.lst []) m).map (!·) from rfl, e2]
  cases l <;> rfl
theorem lrow_ok (hb : G.fn "_law_bound" = some (runF Gb 2 7 bBound)) (c : Cl) (r : Option Int × Ls) (hl1 : c.needs.length = r.2.length) (hl2 : c.keeps.length = r.2.length) (hl3 : r.2.length ≤ 3) (hne : allT c.keeps r.1 r.2 ≠ []) (h61 : ∀ x, r.1 = some x → x ≤ 61) (hk61 : ∀ j t, tmAt c.keeps r.2 j = some t → t ≤ 61) :
    ∃ e, runF G 2 13 bLplainRow [claimD c, rowD r] m = .ok (rD (plainRow c.keeps c.needs r)) (m ++ e) := by
  obtain ⟨l, ls⟩ := r
  dsimp only at hl1 hl2 hl3 hne h61 hk61
  have hrange : List.range c.keeps.length = List.range ls.length := by rw [hl2]
  unfold plainRow
  rw [hrange]
  obtain ⟨y6, y7, e3⟩ := l1_loop (G := G) (keeps := c.keeps) (needs := c.needs) (cl := claimD c) (rw := rowD (l, ls)) (p := m.length) (m := m ++ [.lst (ls.map tm)]) (l := l) (ls := ls) hl1 hl2 get_mid
  have hlen := ones_len (keeps := c.keeps) (needs := c.needs) (ks := List.range ls.length) (s := (l, ls))
  have hne2 := ones_ne (needs := c.needs) (ks := List.range ls.length) (s := (l, ls)) hne
  have h612 := ones_61 (keeps := c.keeps) (needs := c.needs) (ks := List.range ls.length) (s := (l, ls)) h61 hk61
  generalize ones c.keeps c.needs (List.range ls.length) (l, ls) = s at e3 hlen hne2 h612 ⊢
  obtain ⟨l1, ls1⟩ := s
  dsimp only at e3 hlen hne2 h612 ⊢
  rw [set_mid] at e3
  obtain ⟨i, hi⟩ := minL_some hne2
  have ebound := fun mm => bound_ok (G := Gb) (m := mm) (l1, ls1) c.keeps (by omega) hi
  have s0 : evC G (.asg (.tup [(.nm 2), (.nm 3)]) (.slc (.var 0) none (some (.con (.int 2))))) [some (claimD c), some (rowD (l, ls)), none, none, none, none, none, none, none, none, none, none, none] m = .ok (.nx [some (claimD c), some (rowD (l, ls)), some (iD c.keeps), some (iD c.needs), none, none, none, none, none, none, none, none, none]) m := by
    rw [evC, evE, evE_var (d := claimD c) rfl, rs_ok, evO, rs_ok, evO, evE, rs_ok]
    rfl
  have s1 : evC G (.asg (.tup [(.nm 4), (.nm 5)]) (.tup [(.idx (.var 1) (.con (.int 0))), (.blt .listO [(.idx (.var 1) (.con (.int 1)))])])) [some (claimD c), some (rowD (l, ls)), some (iD c.keeps), some (iD c.needs), none, none, none, none, none, none, none, none, none] m = .ok (.nx [some (claimD c), some (rowD (l, ls)), some (iD c.keeps), some (iD c.needs), some (tm l), some (.own m.length), none, none, none, none, none, none, none]) (m ++ [.lst (ls.map tm)]) := by
    rw [evC, evE, evEs, evE, evE_var (d := rowD (l, ls)) rfl, rs_ok, evE, rs_ok, ri0, rs_ok, evEs, evE, evEs, evE, evE_var (d := rowD (l, ls)) rfl, rs_ok, evE, rs_ok, ri1, rs_ok, evEs, rs_ok, rs_ok,
      show bltD G .listO [.tup ((l, ls).2.map tm)] m = .ok (.own m.length) (m ++ [.lst (ls.map tm)]) from rfl, rs_ok, evEs, rs_ok, rs_ok, rs_ok]
    simp only [List.length_cons, List.length_nil, w_two, if_true, rs_ok, evG, evGs, List.set_cons_succ, List.set_cons_zero]
  have s2 : evC G (.for (.tup [(.nm 6), (.nm 7)]) (.enu (.var 2)) bL1) [some (claimD c), some (rowD (l, ls)), some (iD c.keeps), some (iD c.needs), some (tm l), some (.own m.length), none, none, none, none, none, none, none] (m ++ [.lst (ls.map tm)]) = .ok (.nx [some (claimD c), some (rowD (l, ls)), some (iD c.keeps), some (iD c.needs), some (tm l1), some (.own m.length), y6, y7, none, none, none, none, none]) (m ++ [.lst (ls1.map tm)]) := by
    rw [evC_for, evI_enuW (x := iD c.keeps) (xs := c.keeps.map .int) (w := []) (evE_var rfl) rfl, rs_ok]
    exact e3
  have etup : ∀ (ρ : Env) (q : Option Int) (ks : Ls) (e : List O), ρ[4]? = some (some (tm q)) → ρ[5]? = some (some (.own m.length)) → evE G (.tup [(.var 4), (.blt .tuple [(.var 5)])]) ρ (m ++ (.lst (ks.map tm) :: e)) = .ok (rowD (q, ks)) (m ++ (.lst (ks.map tm) :: e)) := fun ρ q ks e h4 h5 => by
    have ht : bltD G .tuple [.own m.length] (m ++ (.lst (ks.map tm) :: e)) = .ok (.tup (ks.map tm)) (m ++ (.lst (ks.map tm) :: e)) := by simp only [bltD, look, get_mid]
    rw [evE, evEs, evE_var h4, rs_ok, evEs, evE, evEs, evE_var h5, rs_ok, evEs, rs_ok, rs_ok, ht, rs_ok, evEs, rs_ok, rs_ok, rs_ok]
    simp only [List.length_cons, List.length_nil, w_two, if_true]
    rfl
  have c3 : evE G (.cmp .Lt (.fn "_law_bound" [(.tup [(.var 4), (.blt .tuple [(.var 5)])]), (.var 2)]) (.con (.int 1))) [some (claimD c), some (rowD (l, ls)), some (iD c.keeps), some (iD c.needs), some (tm l1), some (.own m.length), y6, y7, none, none, none, none, none] (m ++ [.lst (ls1.map tm)]) = .ok (.bl (decide (bnd c.keeps l1 ls1 < 1))) (m ++ [.lst (ls1.map tm)]) := by
    rw [evE, evE, hb]
    dsimp only
    rw [evEs, etup _ l1 ls1 [] rfl rfl, rs_ok, evEs, evE_var (d := iD c.keeps) rfl, rs_ok, evEs, rs_ok, rs_ok, rs_ok, show iD c.keeps = .tup (c.keeps.map .int) from rfl, ebound, rs_ok, evE, rs_ok, cmD_lt]
  by_cases hb1 : bnd c.keeps l1 ls1 < 1
  · rw [if_pos hb1]
    refine ⟨[.lst (ls1.map tm)], ?_⟩
    unfold runF bLplainRow
    refine (if_pos (by rfl)).trans ?_
    show (evCs G (_ :: _) [some (claimD c), some (rowD (l, ls)), none, none, none, none, none, none, none, none, none, none, none] m).bind _ = _
    rw [evCs_nx s0, evCs_nx s1, evCs_nx s2, evCs_rt (d := .non) (by
      rw [evC, c3, rs_ok, decide_eq_true hb1]
      dsimp only
      rw [evCs_one, evC, evE, rs_ok]), rs_ok]
    rfl
  · rw [if_neg hb1]
    have s3 : evC G (.ife (.cmp .Lt (.fn "_law_bound" [(.tup [(.var 4), (.blt .tuple [(.var 5)])]), (.var 2)]) (.con (.int 1))) [(.ret (.con .non))] []) [some (claimD c), some (rowD (l, ls)), some (iD c.keeps), some (iD c.needs), some (tm l1), some (.own m.length), y6, y7, none, none, none, none, none] (m ++ [.lst (ls1.map tm)]) = .ok (.nx [some (claimD c), some (rowD (l, ls)), some (iD c.keeps), some (iD c.needs), some (tm l1), some (.own m.length), y6, y7, none, none, none, none, none]) (m ++ [.lst (ls1.map tm)]) := by
      rw [evC, c3, rs_ok, decide_eq_false hb1]
      dsimp only
      rw [evCs]
    obtain ⟨z6, z8, z9, z12, e4⟩ := l2_loop (G := G) (keeps := c.keeps) (needs := c.needs) (cl := claimD c) (rw := rowD (l, ls)) (x6 := y6) (x7 := y7) (p := m.length) (l := l1) (ls := ls1) (m := m ++ [.lst (ls1.map tm)]) h612 (by omega) (by omega) (by omega) get_mid
    rw [hlen, set_mid] at e4
    have hl4 := drops_len (keeps := c.keeps) (needs := c.needs) (l := l1) (ks := List.range ls.length) (ls := ls1)
    generalize drops c.keeps c.needs l1 (List.range ls.length) ls1 = ls2 at e4 hl4 ⊢
    have s4 : evC G (.for (.tup [(.nm 6), (.nm 8)]) (.enu (.var 3)) bL2) [some (claimD c), some (rowD (l, ls)), some (iD c.keeps), some (iD c.needs), some (tm l1), some (.own m.length), y6, y7, none, none, none, none, none] (m ++ [.lst (ls1.map tm)]) = .ok (.nx [some (claimD c), some (rowD (l, ls)), some (iD c.keeps), some (iD c.needs), some (tm l1), some (.own m.length), z6, y7, z8, z9, none, none, z12]) (m ++ [.lst (ls2.map tm)]) := by
      rw [evC_for, evI_enuW (x := iD c.needs) (xs := c.needs.map .int) (w := []) (evE_var rfl) rfl, rs_ok]
      exact e4
    have s5 : evC G (.asg (.nm 9) bL2b) [some (claimD c), some (rowD (l, ls)), some (iD c.keeps), some (iD c.needs), some (tm l1), some (.own m.length), z6, y7, z8, z9, none, none, z12] (m ++ [.lst (ls2.map tm)]) = .ok (.nx [some (claimD c), some (rowD (l, ls)), some (iD c.keeps), some (iD c.needs), some (tm l1), some (.own m.length), z6, y7, z8, some (.lst ((tmsB c.keeps ls2 none).map .int)), none, none, z12]) (m ++ [.lst (ls2.map tm)]) := by
      rw [evC, l2b_ok get_mid (by omega) (by omega), rs_ok, evG, rs_ok]
      rfl
    have s6 : evC G (.ife (.and (.cmp .NotEq (.var 9) (.lst [])) (.and (.cmp .IsNot (.var 4) (.con .non)) (.cmp .GtE (.var 4) (.blt .min [(.var 9)])))) [(.asg (.nm 4) (.con .non))] []) [some (claimD c), some (rowD (l, ls)), some (iD c.keeps), some (iD c.needs), some (tm l1), some (.own m.length), z6, y7, z8, some (.lst ((tmsB c.keeps ls2 none).map .int)), none, none, z12] (m ++ [.lst (ls2.map tm)]) = .ok (.nx [some (claimD c), some (rowD (l, ls)), some (iD c.keeps), some (iD c.needs), some (tm (lastL c.keeps l1 ls2)), some (.own m.length), z6, y7, z8, some (.lst ((tmsB c.keeps ls2 none).map .int)), none, none, z12]) (m ++ [.lst (ls2.map tm)]) := by
      have el : ∀ ρ mm, evE G (.lst []) ρ mm = .ok (.lst []) mm := fun ρ mm => by
        rw [evE, evEs, rs_ok]
        rfl
      rw [evC, evE, evE, evE_var (d := .lst ((tmsB c.keeps ls2 none).map .int)) rfl, rs_ok, el, rs_ok, ints_ne, rs_ok]
      unfold lastL
      cases hx : tmsB c.keeps ls2 none with
      | nil =>
        have e0 : minL ([] : List Int) = none := rfl
        rw [e0]
        simp only [List.isEmpty_nil, Bool.not_true, rs_ok]
        rw [evCs]
      | cons a as =>
        obtain ⟨q, hq⟩ := minL_some (l := a :: as) (fun z => by cases z)
        rw [hq]
        simp only [List.isEmpty_cons, Bool.not_false]
        rw [evE, evE, evE_var (d := tm l1) rfl, rs_ok, evE, rs_ok, cmD_isNot, rs_ok, tm_isNon]
        cases l1 with
        | none =>
          simp only [Option.isNone_none, Bool.not_true, rs_ok]
          rw [evCs]
        | some x =>
          simp only [Option.isNone_some, Bool.not_false]
          rw [evE, evE_var (d := .int x) rfl, rs_ok, evE, evEs, evE_var (d := .lst ((a :: as).map .int)) rfl, rs_ok, evEs, rs_ok, rs_ok, min_ints hq, rs_ok, cmD_ge, rs_ok]
          by_cases w : q ≤ x
          · rw [decide_eq_true w, if_pos w]
            dsimp only
            rw [evCs_one, evC, evE, rs_ok, evG, rs_ok]
            rfl
          · rw [decide_eq_false w, if_neg w]
            dsimp only
            rw [evCs]
    refine ⟨[.lst (ls2.map tm)], ?_⟩
    unfold runF bLplainRow
    refine (if_pos (by rfl)).trans ?_
    show (evCs G (_ :: _) [some (claimD c), some (rowD (l, ls)), none, none, none, none, none, none, none, none, none, none, none] m).bind _ = _
    rw [evCs_nx s0, evCs_nx s1, evCs_nx s2, evCs_nx s3, evCs_nx s4, evCs_nx s5, evCs_nx s6, evCs_rt (d := rowD (lastL c.keeps l1 ls2, ls2)) (by
      rw [evC, etup _ (lastL c.keeps l1 ls2) ls2 [] rfl rfl, rs_ok]), rs_ok]
    rfl
end
end Pm

set_option maxRecDepth 100000
set_option maxHeartbeats 1000000
/-! Life types: never, plain -/
namespace Pm
open PySem L2
def nvC (c : Cl) : Bool := c.sours || (c.needs.zip c.keeps).any fun p => decide (p.2 < p.1)
theorem bls_of : ∀ l : List Bool, blsOf (l.map D.bl) = some l
  | [] => rfl
  | a :: l => by rw [List.map_cons]; unfold blsOf; rw [bls_of l]; rfl
def iiD (p : Int × Int) : D := .tup [.int p.1, .int p.2]
theorem zip_ii (xs ys : List Int) : List.zipWith (fun x y => D.tup [x, y]) (xs.map D.int) (ys.map D.int) = (xs.zip ys).map iiD := by
  rw [zw_map, List.zip_map, List.map_map]
  rfl
theorem rep_tup (x : D) (n : Nat) : (List.replicate n [x]).flatten = List.replicate n x := by
  induction n with
  | zero => rfl
  | succ n ih => rw [List.replicate_succ, List.flatten_cons, ih, List.replicate_succ]; rfl
section
variable {G : Gm} {m : Mu}
theorem opD_rep (x : D) {n : Nat} (h : n ≤ 1000) : opD G .Mult (.tup [x]) (.int (n : Nat)) m = .ok (.tup (List.replicate n x)) m := by
  have hc : ([x] : List D) ≠ [] ∧ (0 : Int) ≤ (n : Nat) ∧ ((n : Nat) : Int) ≤ 1000 ∧ ([x] : List D).length ≤ 1000 := ⟨by simp, by omega, by omega, by simp⟩
  unfold opD binD
  dsimp only
  rw [if_pos hc, Int.toNat_natCast, rep_tup]
theorem isNever_ok (h : FlOk G) (c : Cl) (hk : c.needs.length ≤ 3) : runF G 1 3 bTisNever [lifeI c] m = .ok (.bl (nvC c)) m := by
  unfold runF bTisNever
  refine (if_pos (by rfl)).trans ?_
  show (evCs G [_] [some (lifeI c), none, none] m).bind _ = _
  rw [evCs_rt (d := .bl (nvC c)) (m' := m) (by
    rw [evC, evE, evE, evE_var (d := lifeI c) rfl, rs_ok, att_sours h, rs_ok]
    unfold nvC
    cases hs : c.sours with
    | true => rfl
    | false =>
      dsimp only
      have := lc_srcM (G := G) (m := m) (ρ := [some (lifeI c), none, none]) (w := []) (g := .tup [(.nm 1), (.nm 2)]) (it := .zip (.att (.var 0) "_needs") (.att (.var 0) "_keeps")) (elt := .cmp .Gt (.var 1) (.var 2)) (ws := [1, 2]) (c.needs.zip c.keeps) iiD (fun p => D.bl (decide (p.2 < p.1)))
        (by rw [← zip_ii]; exact evI_zip (by rw [evE, evE_var (d := lifeI c) rfl, rs_ok, att_needs h]; rfl) (by rw [evE, evE_var (d := lifeI c) rfl, rs_ok, att_keeps h]; rfl)) rfl (by rw [List.length_zip]; have := three; omega) fun p _ => by
          obtain ⟨a, b⟩ := p
          simp only [evCs, evC.eq_1, evC.eq_2, evC.eq_3, evC.eq_4, evC.eq_7, evC.eq_8, evC.eq_9, evC.eq_10, evC.eq_11, evC.eq_12, evE.eq_1, evE.eq_2, evE.eq_3, evE.eq_4, evE.eq_5, evE.eq_6, evE.eq_7, evE.eq_8, evE.eq_9, evE.eq_10, evE.eq_11, evE.eq_12, evE.eq_13, evE.eq_14, evE.eq_15, evE.eq_16, evE.eq_17, evE.eq_18, evE.eq_19, evE.eq_20, evE.eq_21, evE.eq_22, evE.eq_24, evE.eq_25, evE.eq_26, evE.eq_27, evE.eq_28, evEs, evG, evGs, rs_ok, List.map_cons, List.map_nil, List.length_cons, List.length_nil, List.cons_append, List.nil_append, List.getElem?_cons_zero, List.getElem?_cons_succ, Nat.zero_add, Nat.reduceAdd, Nat.reduceSub, List.replicate_succ, List.replicate_zero, List.set_cons_succ, List.set_cons_zero, if_true, wipeD, iiD, cmD_gt]
      rw [evE, evEs, this, rs_ok, evEs, rs_ok, rs_ok]
      have e : (c.needs.zip c.keeps).map (fun p => D.bl (decide (p.2 < p.1))) = ((c.needs.zip c.keeps).map fun p => decide (p.2 < p.1)).map D.bl := by rw [List.map_map]; rfl
      rw [e]
      simp only [bltD, look, Option.bind_some, bls_of, rs_ok, List.any_map, Bool.false_or]
      rfl), rs_ok]
def bTplain : List C := [(.ife (.tru (.att (.var 0) "is_never")) [(.ret (.ext "LifeType.never" [(.att (.var 0) "_keeps"), (.blt .len [(.att (.var 0) "_rows")])]))] []),
    (.asg (.nm 1) (.lc false (.nm 2) (.val (.att (.var 0) "_rows")) none (.met (.var 0) "_plain_row" [(.var 2)]) [2])),
    (.ret (.ext "LifeType/4" [(.att (.var 0) "_keeps"), (.att (.var 0) "_needs"), (.blt .min [(.att (.var 0) "_took"), (.ext "MOST_TOOK" [])]), (.var 1)]))]
def neverC (keeps : List Int) (n : Nat) : Cl := ⟨keeps, List.replicate keeps.length 61, 60, List.replicate n none, true⟩
def rowsP (c : Cl) : List (Option (Option Int × Ls)) := c.rows.map fun o => o.bind (plainRow c.keeps c.needs)
def plainC (c : Cl) : Cl := if nvC c then neverC c.keeps c.rows.length else ⟨c.keeps, c.needs, min c.took 60, rowsP c, false⟩
/-- LifeType of five, of four -/
def mkL5 (Gt : Gm) : Fn := fun ds m => if ds.length = 5 then mkFn "LifeType" true (runF Gt 6 6 bTinit) ds m else .no
def mkL4 (Gt : Gm) : Fn := fun ds m => if ds.length = 4 then mkFn "LifeType" true (runF Gt 6 6 bTinit) (ds ++ [.bl false]) m else .no
theorem never_ok {Gt : Gm} (ht : FlOk Gt) (h5 : G.xt "LifeType/5" = some (mkL5 Gt)) (hm : G.xt "MOST_TOOK" = some fun _ m => .ok (.int 60) m) (keeps : List Int) (hk : keeps.length ≤ 3) {n : Nat} (hn : n ≤ 1000) : runF G 2 2 bTnever [iD keeps, .int (n : Nat)] m = .ok (lifeI (neverC keeps n)) (m ++ [.dead]) := by
  have hlen : bltD G .len [iD keeps] m = .ok (.int ((keeps.length : Nat) : Int)) m := by
    rw [show bltD G .len [iD keeps] m = .ok (.int ((keeps.map D.int).length : Nat)) m from rfl, List.length_map]
  have e1 : D.tup (List.replicate keeps.length (.int 61)) = iD (List.replicate keeps.length 61) := by unfold iD; rw [List.map_replicate]
  have e2 : (D.tup (List.replicate n .non)) = .tup ((neverC keeps n).rows.map rI) := by
    show _ = D.tup ((List.replicate n none).map rI)
    rw [List.map_replicate]
    rfl
  unfold runF bTnever
  refine (if_pos (by rfl)).trans ?_
  show (evCs G [_] [some (iD keeps), some (.int (n : Nat))] m).bind _ = _
  rw [evCs_rt (d := lifeI (neverC keeps n)) (m' := m ++ [.dead]) (by
    rw [evC, evE, h5]
    dsimp only
    rw [evEs, evE_var (d := iD keeps) rfl, rs_ok, evEs, evE, evE, evEs, evE, rs_ok, evEs, rs_ok, rs_ok]
    simp only [List.length_cons, List.length_nil, w_one, if_true, rs_ok]
    rw [evE, evEs, evE_var (d := iD keeps) rfl, rs_ok, evEs, rs_ok, rs_ok, hlen, rs_ok, opD_rep _ (by omega), rs_ok, evEs, evE, hm]
    dsimp only
    rw [evEs, rs_ok, rs_ok, evEs, evE, evE, evEs, evE, rs_ok, evEs, rs_ok, rs_ok]
    simp only [List.length_cons, List.length_nil, w_one, if_true, rs_ok]
    rw [evE_var (d := .int (n : Nat)) rfl, rs_ok, opD_rep _ hn, rs_ok, evEs, evE, rs_ok, evEs, rs_ok, rs_ok, rs_ok, rs_ok, rs_ok, rs_ok, e1, e2]
    have := mklife_ok (m := m) ht (c := neverC keeps n) (X := .tup ((neverC keeps n).rows.map rI)) (fun mm _ => rfl)
    have e5 : mkL5 Gt [iD keeps, iD (List.replicate keeps.length 61), .int 60, .tup ((neverC keeps n).rows.map rI), .bl true] m = .ok (lifeI (neverC keeps n)) (m ++ [.dead]) := (if_pos (by rfl)).trans this
    rw [e5, rs_ok]), rs_ok]
/-- what plain rests on -/
structure PlTab (G Gt Gn Gi Gr Gl Gri Gc Ge Go : Gm) : Prop where
  fl : FlOk G
  gt : FlOk Gt
  gi : FlOk Gi
  row : RowTab Gr Gl Gri Gc Ge Go
  f1 : G.fl "LifeType" "is_never" = false
  p1 : G.pr "LifeType" "is_never" = some (runF Gi 1 3 bTisNever)
  nv : G.xt "LifeType.never" = some (runF Gn 2 2 bTnever)
  n5 : Gn.xt "LifeType/5" = some (mkL5 Gt)
  nm : Gn.xt "MOST_TOOK" = some fun _ m => .ok (.int 60) m
  x4 : G.xt "LifeType/4" = some (mkL4 Gt)
  xm : G.xt "MOST_TOOK" = some fun _ m => .ok (.int 60) m
  pr : G.me "LifeType" "_plain_row" = some (runF Gr 2 9 bTplainRow)
/-- rows that can be told plain -/
structure ClOk (c : Cl) : Prop where
  lk : c.keeps.length ≤ 3
  ln : c.needs.length = c.keeps.length
  row : ∀ r, some r ∈ c.rows → r.2.length = c.keeps.length ∧ allT c.keeps r.1 r.2 ≠ []
  lr : c.rows.length ≤ 1000
theorem truB {b : Bool} {m : Mu} : liftB m (truD m (.bl b)) = .ok (.bl b) m := rfl
theorem attI {G Gt Gn Gi Gr Gl Gri Gc Ge Go : Gm} (T : PlTab G Gt Gn Gi Gr Gl Gri Gc Ge Go) (c : Cl) (hk : c.needs.length ≤ 3) : attD G m (lifeI c) "is_never" = .ok (.bl (nvC c)) m := by
  unfold attD
  rw [ins_life]
  simp only [T.f1, T.p1, Bool.false_eq_true, if_false, isNever_ok T.gi c hk, Rs.noX]
theorem plainrows_ok {G Gt Gn Gi Gr Gl Gri Gc Ge Go : Gm} (T : PlTab G Gt Gn Gi Gr Gl Gri Gc Ge Go) (c : Cl) (ok : ClOk c) : ∃ e, evE G (.lc false (.nm 2) (.val (.att (.var 0) "_rows")) none (.met (.var 0) "_plain_row" [(.var 2)]) [2]) [some (lifeI c), none, none] m = .ok (.lst ((rowsP c).map rI)) (m ++ e) := by
  have hme : ∀ mm, metF G mm (lifeI c) "_plain_row" = some (runF Gr 2 9 bTplainRow) := fun mm => by
    unfold metF
    rw [ins_life]
    exact T.pr
  have step : ∀ (o : Option (Option Int × Ls)) mm, o ∈ c.rows → ∃ e, runF Gr 2 9 bTplainRow [lifeI c, rI o] mm = .ok (rI (o.bind (plainRow c.keeps c.needs))) (mm ++ e) := fun o mm ho => by
    cases o with
    | none => exact ⟨[], by rw [List.append_nil]; exact trow_none⟩
    | some r =>
      obtain ⟨h1, h2⟩ := ok.row r ho
      exact trow_ok T.row c r (by rw [ok.ln, h1]) h1.symm (by rw [h1]; exact ok.lk) h2
  obtain ⟨xs, m', e, hP⟩ := lcL_inv (w := []) (f := lcT G (.nm 2) none (.met (.var 0) "_plain_row" [(.var 2)]) (wipeD [some (lifeI c), none, none] [2])) (fun n acc mm => acc = ((rowsP c).take n).map rI ∧ ∃ e, mm = m ++ e) (c.rows.map rI) 0 (acc := []) (m := m) (fun _ _ _ _ => rfl)
    (by rw [List.length_map]; have := ok.lr; have h2 : 1000 ≤ sizeLine := by decide
        simp only [List.length_nil]; omega) (fun j d acc mm hj ⟨e1, e, e2⟩ => by
      rw [List.getElem?_map] at hj
      cases ho : c.rows[j]? with
      | none => rw [ho] at hj; cases hj
      | some o =>
        rw [ho] at hj
        cases hj
        rw [Nat.zero_add] at e1 ⊢
        obtain ⟨e3, he⟩ := step o mm (List.mem_of_getElem? ho)
        refine ⟨some (rI (o.bind (plainRow c.keeps c.needs))), mm ++ e3, ?_, ?_, e ++ e3, by rw [e2, List.append_assoc]⟩
        · unfold lcT
          rw [show evG G (.nm 2) (rI o) (wipeD [some (lifeI c), none, none] [2]) mm = .ok [some (lifeI c), none, some (rI o)] mm from rfl, rs_ok, evT, rs_ok]
          simp only [if_true]
          rw [evE, evE_var (d := lifeI c) rfl, rs_ok, hme]
          dsimp only
          rw [evEs, evE_var (d := rI o) rfl, rs_ok, evEs, rs_ok, rs_ok, he, rs_ok]
        · have hj2 : (rowsP c)[j]? = some (o.bind (plainRow c.keeps c.needs)) := by unfold rowsP; rw [List.getElem?_map, ho]; rfl
          rw [e1, List.take_succ, hj2, List.map_append]
          rfl) ⟨rfl, [], by rw [List.append_nil]⟩
  obtain ⟨rfl, e2, rfl⟩ := hP
  refine ⟨e2, ?_⟩
  rw [evE_lc, evI_tup (ds := c.rows.map rI) (by rw [evE, evE_var (d := lifeI c) rfl, rs_ok, att_rows T.fl]), rs_ok]
  rw [Nat.zero_add, List.length_map] at e
  rw [e]
  show Rs.ok (D.lst (((rowsP c).take c.rows.length).map rI)) (m ++ e2) = _
  rw [List.take_of_length_le (by unfold rowsP; rw [List.length_map]; exact Nat.le_refl _)]
theorem plain_life {G Gt Gn Gi Gr Gl Gri Gc Ge Go : Gm} (T : PlTab G Gt Gn Gi Gr Gl Gri Gc Ge Go) (c : Cl) (ok : ClOk c) : ∃ e, runF G 1 3 bTplain [lifeI c] m = .ok (lifeI (plainC c)) (m ++ e) := by
  have hn : c.needs.length ≤ 3 := by rw [ok.ln]; exact ok.lk
  have ct : evE G (.tru (.att (.var 0) "is_never")) [some (lifeI c), none, none] m = .ok (.bl (nvC c)) m := by
    rw [evE, evE, evE_var (d := lifeI c) rfl, rs_ok, attI T c hn, rs_ok, truB]
  cases hv : nvC c with
  | true =>
    have hp : plainC c = neverC c.keeps c.rows.length := by unfold plainC; rw [hv]; rfl
    refine ⟨[.dead], ?_⟩
    unfold runF bTplain
    refine (if_pos (by rfl)).trans ?_
    show (evCs G (_ :: _) [some (lifeI c), none, none] m).bind _ = _
    rw [evCs_rt (d := lifeI (plainC c)) (m' := m ++ [.dead]) (by
      have hlen : bltD G .len [.tup (c.rows.map rI)] m = .ok (.int ((c.rows.length : Nat) : Int)) m := by
        rw [show bltD G .len [.tup (c.rows.map rI)] m = .ok (.int ((c.rows.map rI).length : Nat)) m from rfl, List.length_map]
      rw [evC, ct, rs_ok, hv]
      dsimp only
      rw [evCs_one, evC, evE, T.nv]
      dsimp only
      rw [evEs, evE, evE_var (d := lifeI c) rfl, rs_ok, att_keeps T.fl, rs_ok, evEs, evE, evEs, evE, evE_var (d := lifeI c) rfl, rs_ok, att_rows T.fl, rs_ok, evEs, rs_ok, rs_ok, hlen, rs_ok, evEs, rs_ok, rs_ok, rs_ok, never_ok T.gt T.n5 T.nm c.keeps ok.lk ok.lr, rs_ok, hp]), rs_ok]
  | false =>
    have hp : plainC c = ⟨c.keeps, c.needs, min c.took 60, rowsP c, false⟩ := by unfold plainC; rw [hv]; rfl
    obtain ⟨e, he⟩ := plainrows_ok (m := m) T c ok
    refine ⟨e ++ [.dead], ?_⟩
    unfold runF bTplain
    refine (if_pos (by rfl)).trans ?_
    show (evCs G (_ :: _) [some (lifeI c), none, none] m).bind _ = _
    rw [evCs_nx (ρ' := [some (lifeI c), none, none]) (m' := m) (by rw [evC, ct, rs_ok, hv]; dsimp only; rw [evCs]),
      evCs_nx (ρ' := [some (lifeI c), some (.lst ((rowsP c).map rI)), none]) (m' := m ++ e) (by rw [evC, he, rs_ok, evG, rs_ok]; rfl),
      evCs_rt (d := lifeI (plainC c)) (m' := m ++ (e ++ [.dead])) (by
        rw [evC, evE, T.x4]
        dsimp only
        have hmin : ∀ mm, bltD G .min [.int c.took, .int 60] mm = .ok (.int (min c.took 60)) mm := fun mm => by
          rw [blt_min]
          congr 2
          split <;> omega
        rw [evEs, evE, evE_var (d := lifeI c) rfl, rs_ok, att_keeps T.fl, rs_ok, evEs, evE, evE_var (d := lifeI c) rfl, rs_ok, att_needs T.fl, rs_ok, evEs, evE, evEs, evE, evE_var (d := lifeI c) rfl, rs_ok, att_took T.fl, rs_ok, evEs, evE, T.xm]
        dsimp only
        rw [evEs, rs_ok, rs_ok, evEs, rs_ok, rs_ok, rs_ok, hmin, rs_ok, evEs, evE_var (d := .lst ((rowsP c).map rI)) rfl, rs_ok, evEs, rs_ok, rs_ok, rs_ok, rs_ok, rs_ok]
        have := mklife_ok (m := m ++ e) T.gt (c := ⟨c.keeps, c.needs, min c.took 60, rowsP c, false⟩) (X := .lst ((rowsP c).map rI)) (fun mm _ => rfl)
        have e5 : mkL4 Gt [iD c.keeps, iD c.needs, .int (min c.took 60), .lst ((rowsP c).map rI)] (m ++ e) = .ok (lifeI (plainC c)) ((m ++ e) ++ [.dead]) := by
          rw [hp]
          exact (if_pos (by rfl)).trans this
        rw [e5, rs_ok, List.append_assoc]), rs_ok]
end
end Pm

set_option maxRecDepth 100000
set_option maxHeartbeats 1000000
/-! Life types told and made by the law -/
namespace Pm
open PySem L2
def bTold : List C := [(.asg (.nm 1) (.lc false (.nm 2) (.val (.att (.var 0) "rows")) none (.ife (.cmp .Is (.var 2) (.con .non)) (.con .non) (.tup [(.att (.var 2) "left"), (.att (.var 2) "lost")])) [2])),
    (.ret (.tup [(.att (.var 0) "keeps"), (.att (.var 0) "needs"), (.att (.var 0) "took"), (.blt .tuple [(.var 1)]), (.att (.var 0) "sours")]))]
def bLife : List C := [(.asg (.tup [(.nm 1), (.nm 2), (.nm 3), (.nm 4), (.nm 5)]) (.var 0)),
    (.asg (.nm 4) (.lc false (.nm 6) (.val (.var 4)) none (.ife (.cmp .Is (.var 6) (.con .non)) (.con .non) (.mk "LifeRow" [(.idx (.var 6) (.con (.int 0))), (.idx (.var 6) (.con (.int 1)))])) [6])),
    (.ret (.ext "LifeType/5" [(.var 1), (.var 2), (.var 3), (.blt .tuple [(.var 4)]), (.var 5)]))]
def bAttr (f : Str) : List C := [(.ret (.att (.var 0) f))]
/-- what told and life rest on -/
structure ToTab (G Gi Gt : Gm) : Prop where
  gi : FlOk Gi
  gt : FlOk Gt
  l0 : G.fl "LifeRow" "left" = false
  l1 : G.fl "LifeRow" "lost" = false
  l2 : G.pr "LifeRow" "left" = some (runF Gi 1 1 bRowleft)
  l3 : G.pr "LifeRow" "lost" = some (runF Gi 1 1 bRowlost)
  k0 : G.fl "LifeType" "keeps" = false
  k1 : G.pr "LifeType" "keeps" = some (runF Gi 1 1 (bAttr "_keeps"))
  n0 : G.fl "LifeType" "needs" = false
  n1 : G.pr "LifeType" "needs" = some (runF Gi 1 1 (bAttr "_needs"))
  t0 : G.fl "LifeType" "took" = false
  t1 : G.pr "LifeType" "took" = some (runF Gi 1 1 (bAttr "_took"))
  r0 : G.fl "LifeType" "rows" = false
  r1 : G.pr "LifeType" "rows" = some (runF Gi 1 1 (bAttr "_rows"))
  s0 : G.fl "LifeType" "sours" = false
  s1 : G.pr "LifeType" "sours" = some (runF Gi 1 1 (bAttr "_sours"))
  cs : G.cs "LifeRow" = some (mkFn "LifeRow" true (runF Gi 3 3 bRowinit))
  x5 : G.xt "LifeType/5" = some (mkL5 Gt)
section
variable {G Gi Gt : Gm} {m : Mu}
theorem attr_run {Gi : Gm} {c : Cl} {f : Str} {d : D} (h : attD Gi m (lifeI c) f = .ok d m) : runF Gi 1 1 (bAttr f) [lifeI c] m = .ok d m := by
  unfold runF bAttr
  refine (if_pos (by rfl)).trans ?_
  show (evCs Gi [_] [some (lifeI c)] m).bind _ = _
  rw [evCs_rt (d := d) (m' := m) (by rw [evC, evE, evE_var (d := lifeI c) rfl, rs_ok, h, rs_ok]), rs_ok]
theorem attP {Gi : Gm} {c : Cl} {f g : Str} {d : D} (h0 : G.fl "LifeType" f = false) (h1 : G.pr "LifeType" f = some (runF Gi 1 1 (bAttr g))) (h : attD Gi m (lifeI c) g = .ok d m) : attD G m (lifeI c) f = .ok d m := by
  unfold attD
  rw [ins_life]
  simp only [h0, h1, Bool.false_eq_true, if_false, attr_run h, Rs.noX]
theorem rowleft (T : ToTab G Gi Gt) (r : Option Int × List (Option Int)) : attD G m (rowI r) "left" = .ok (tm r.1) m := by
  unfold attD
  rw [ins_row]
  simp only [T.l0, T.l2, Bool.false_eq_true, if_false, left_ok T.gi.r1, Rs.noX]
theorem rowlost (T : ToTab G Gi Gt) (r : Option Int × List (Option Int)) : attD G m (rowI r) "lost" = .ok (.tup (r.2.map tm)) m := by
  unfold attD
  rw [ins_row]
  simp only [T.l1, T.l3, Bool.false_eq_true, if_false, lost_ok T.gi.r2, Rs.noX]
theorem told_ok (T : ToTab G Gi Gt) (c : Cl) (hr : c.rows.length ≤ 1000) : runF G 1 3 bTold [lifeI c] m = .ok (claimD c) m := by
  have z5 : (0 + 1 + 1 + 1 + 1 + 1 ≤ sizeLine) = True := by decide
  have hz : c.rows.length ≤ sizeLine := by
    have h2 : 1000 ≤ sizeLine := by decide
    omega
  have lc : evE G (.lc false (.nm 2) (.val (.att (.var 0) "rows")) none (.ife (.cmp .Is (.var 2) (.con .non)) (.con .non) (.tup [(.att (.var 2) "left"), (.att (.var 2) "lost")])) [2]) [some (lifeI c), none, none] m = .ok (.lst (c.rows.map rD)) m :=
    lc_srcM (G := G) (m := m) (ρ := [some (lifeI c), none, none]) (w := []) (g := .nm 2) (it := .val (.att (.var 0) "rows")) (elt := .ife (.cmp .Is (.var 2) (.con .non)) (.con .non) (.tup [(.att (.var 2) "left"), (.att (.var 2) "lost")])) (ws := [2]) c.rows rI rD (evI_tup (by rw [evE, evE_var (d := lifeI c) rfl, rs_ok, attP T.r0 T.r1 (att_rows T.gi c)])) rfl hz fun o _ => by
      rw [show evG G (.nm 2) (rI o) (wipeD [some (lifeI c), none, none] [2]) m = .ok [some (lifeI c), none, some (rI o)] m from rfl, rs_ok, evE, evE, evE_var (d := rI o) rfl, rs_ok, evE, rs_ok, cmD_is, rs_ok]
      cases o with
      | none => rfl
      | some r =>
        simp only [rI, rowI, D.isNon]
        rw [evE, evEs, evE, evE_var (d := rowI r) rfl, rs_ok, rowleft T, rs_ok, evEs, evE, evE_var (d := rowI r) rfl, rs_ok, rowlost T, rs_ok, evEs, rs_ok, rs_ok, rs_ok]
        simp only [List.length_cons, List.length_nil, w_two, if_true]
        rfl
  unfold runF bTold
  refine (if_pos (by rfl)).trans ?_
  show (evCs G (_ :: _) [some (lifeI c), none, none] m).bind _ = _
  rw [evCs_nx (ρ' := [some (lifeI c), some (.lst (c.rows.map rD)), none]) (m' := m) (by rw [evC, lc, rs_ok, evG, rs_ok]; rfl), evCs_rt (d := claimD c) (m' := m) (by
    rw [evC, evE, evEs, evE, evE_var (d := lifeI c) rfl, rs_ok, attP T.k0 T.k1 (att_keeps T.gi c), rs_ok, evEs, evE, evE_var (d := lifeI c) rfl, rs_ok, attP T.n0 T.n1 (att_needs T.gi c), rs_ok, evEs, evE, evE_var (d := lifeI c) rfl, rs_ok, attP T.t0 T.t1 (att_took T.gi c), rs_ok,
      evEs, evE, evEs, evE_var (d := .lst (c.rows.map rD)) rfl, rs_ok, evEs, rs_ok, rs_ok, show bltD G .tuple [.lst (c.rows.map rD)] m = .ok (.tup (c.rows.map rD)) m from rfl, rs_ok, evEs, evE, evE_var (d := lifeI c) rfl, rs_ok, attP T.s0 T.s1 (att_sours T.gi c), rs_ok, evEs, rs_ok, rs_ok, rs_ok, rs_ok, rs_ok, rs_ok]
    simp only [List.length_cons, List.length_nil, z5, if_true]
    rfl), rs_ok]
/-- making rows extends the store -/
theorem life_ok (T : ToTab G Gi Gt) (c : Cl) (hr : c.rows.length ≤ 1000) : ∃ e, runF G 1 7 bLife [claimD c] m = .ok (lifeI c) (m ++ e) := by
  have hz : ([] : List D).length + (c.rows.map rD).length ≤ sizeLine := by
    have h2 : 1000 ≤ sizeLine := by decide
    rw [List.length_map]
    simp only [List.length_nil]
    omega
  obtain ⟨xs, m', e, hP⟩ := lcL_inv (w := []) (f := lcT G (.nm 6) none (.ife (.cmp .Is (.var 6) (.con .non)) (.con .non) (.mk "LifeRow" [(.idx (.var 6) (.con (.int 0))), (.idx (.var 6) (.con (.int 1)))])) (wipeD [some (claimD c), some (iD c.keeps), some (iD c.needs), some (.int c.took), some (.tup (c.rows.map rD)), some (.bl c.sours), none] [6]))
    (fun n acc mm => acc = (c.rows.take n).map rI ∧ ∃ e, mm = m ++ e) (c.rows.map rD) 0 (acc := []) (m := m) (fun _ _ _ _ => rfl) hz (fun j d acc mm hj ⟨e1, e, e2⟩ => by
      rw [List.getElem?_map] at hj
      cases ho : c.rows[j]? with
      | none => rw [ho] at hj; cases hj
      | some o =>
        rw [ho] at hj
        cases hj
        rw [Nat.zero_add] at e1 ⊢
        have hacc : (c.rows.take j).map rI ++ [rI o] = (c.rows.take (j + 1)).map rI := by rw [List.take_succ, ho, List.map_append]; rfl
        have h0 : evG G (.nm 6) (rD o) (wipeD [some (claimD c), some (iD c.keeps), some (iD c.needs), some (.int c.took), some (.tup (c.rows.map rD)), some (.bl c.sours), none] [6]) mm = .ok [some (claimD c), some (iD c.keeps), some (iD c.needs), some (.int c.took), some (.tup (c.rows.map rD)), some (.bl c.sours), some (rD o)] mm := rfl
        cases o with
        | none =>
          refine ⟨some .non, mm, ?_, by rw [e1]; exact hacc, e, e2⟩
          unfold lcT
          rw [h0, rs_ok, evT, rs_ok]
          simp only [if_true]
          rw [evE, evE, evE_var (d := .non) rfl, rs_ok, evE, rs_ok, cmD_is, rs_ok]
          rfl
        | some r =>
          refine ⟨some (rowI r), mm ++ [.dead], ?_, by rw [e1]; exact hacc, e ++ [.dead], by rw [e2, List.append_assoc]⟩
          unfold lcT
          rw [h0, rs_ok, evT, rs_ok]
          simp only [if_true]
          rw [evE, evE, evE_var (d := rowD r) rfl, rs_ok, evE, rs_ok, cmD_is, rs_ok]
          simp only [rowD, D.isNon]
          rw [evE, T.cs]
          dsimp only
          rw [evEs, evE, evE_var (d := rowD r) rfl, rs_ok, evE, rs_ok, ri0, rs_ok, evEs, evE, evE_var (d := rowD r) rfl, rs_ok, evE, rs_ok, ri1, rs_ok, evEs, rs_ok, rs_ok, rs_ok, mkrow_ok T.gi.r1 T.gi.r2 (ls := r.2) (l := r.1) (fun _ => rfl), rs_ok]) ⟨rfl, [], by rw [List.append_nil]⟩
  obtain ⟨rfl, e2, rfl⟩ := hP
  rw [Nat.zero_add, List.length_map] at e
  have lc : evE G (.lc false (.nm 6) (.val (.var 4)) none (.ife (.cmp .Is (.var 6) (.con .non)) (.con .non) (.mk "LifeRow" [(.idx (.var 6) (.con (.int 0))), (.idx (.var 6) (.con (.int 1)))])) [6]) [some (claimD c), some (iD c.keeps), some (iD c.needs), some (.int c.took), some (.tup (c.rows.map rD)), some (.bl c.sours), none] m = .ok (.lst (c.rows.map rI)) (m ++ e2) := by
    rw [evE_lc, evI_tup (ds := c.rows.map rD) (evE_var rfl), rs_ok]
    dsimp only
    rw [e]
    show Rs.ok (D.lst ((c.rows.take c.rows.length).map rI)) (m ++ e2) = _
    rw [List.take_length]
  refine ⟨e2 ++ [.dead], ?_⟩
  unfold runF bLife
  refine (if_pos (by rfl)).trans ?_
  show (evCs G (_ :: _) [some (claimD c), none, none, none, none, none, none] m).bind _ = _
  rw [evCs_nx (ρ' := [some (claimD c), some (iD c.keeps), some (iD c.needs), some (.int c.took), some (.tup (c.rows.map rD)), some (.bl c.sours), none]) (m' := m) (by
      rw [evC, evE_var (d := claimD c) rfl, rs_ok]
      unfold claimD
      simp only [evG, evGs, List.length_cons, List.length_nil, if_true, rs_ok, List.set_cons_succ, List.set_cons_zero]),
    evCs_nx (ρ' := [some (claimD c), some (iD c.keeps), some (iD c.needs), some (.int c.took), some (.lst (c.rows.map rI)), some (.bl c.sours), none]) (m' := m ++ e2) (by rw [evC, lc, rs_ok, evG, rs_ok]; rfl),
    evCs_rt (d := lifeI c) (m' := m ++ (e2 ++ [.dead])) (by
      rw [evC, evE, T.x5]
      dsimp only
      rw [evEs, evE_var (d := iD c.keeps) rfl, rs_ok, evEs, evE_var (d := iD c.needs) rfl, rs_ok, evEs, evE_var (d := .int c.took) rfl, rs_ok, evEs, evE, evEs, evE_var (d := .lst (c.rows.map rI)) rfl, rs_ok, evEs, rs_ok, rs_ok, show bltD G .tuple [.lst (c.rows.map rI)] (m ++ e2) = .ok (.tup (c.rows.map rI)) (m ++ e2) from rfl, rs_ok,
        evEs, evE_var (d := .bl c.sours) rfl, rs_ok, evEs, rs_ok, rs_ok, rs_ok, rs_ok, rs_ok, rs_ok]
      have := mklife_ok (m := m ++ e2) T.gt (c := c) (X := .tup (c.rows.map rI)) (fun mm _ => rfl)
      have e5 : mkL5 Gt [iD c.keeps, iD c.needs, .int c.took, .tup (c.rows.map rI), .bl c.sours] (m ++ e2) = .ok (lifeI c) ((m ++ e2) ++ [.dead]) := (if_pos (by rfl)).trans this
      rw [e5, rs_ok, List.append_assoc]), rs_ok]
end
end Pm

set_option maxRecDepth 100000
set_option maxHeartbeats 1000000
/-! Plain again -/
namespace Pm
open PySem L2
/-- rows whose terms stay below 61 -/
structure ClOk2 (c : Cl) : Prop where
  ok : ClOk c
  t61 : ∀ r, some r ∈ c.rows → ∀ k t, tmAt c.needs r.2 k = some t → t < 61
theorem not_never {c : Cl} (h : nvC c = false) (hl : c.needs.length = c.keeps.length) : InBox c.needs c.keeps c.keeps := by
  unfold nvC at h
  rw [Bool.or_eq_false_iff, List.any_eq_false] at h
  refine ⟨hl, rfl, fun k n v h1 h2 => ?_, fun k v m h1 h2 => by rw [h1] at h2; cases h2; exact Int.le_refl _⟩
  have hz : (c.needs.zip c.keeps)[k]? = some (n, v) := by rw [List.getElem?_zip_eq_some]; exact ⟨h1, h2⟩
  have := h.2 (n, v) (List.mem_of_getElem? hz)
  simp only [decide_eq_true_eq] at this
  omega
theorem plainC_idem {c : Cl} (h : ClOk2 c) : plainC (plainC c) = plainC c := by
  cases hv : nvC c with
  | true =>
    have e : plainC c = neverC c.keeps c.rows.length := by unfold plainC; rw [hv]; rfl
    rw [e]
    have hn : nvC (neverC c.keeps c.rows.length) = true := rfl
    unfold plainC
    rw [hn]
    simp only [if_true]
    show neverC c.keeps (List.replicate c.rows.length (none : Option (Option Int × Ls))).length = _
    rw [List.length_replicate]
  | false =>
    have e : plainC c = ⟨c.keeps, c.needs, min c.took 60, rowsP c, false⟩ := by unfold plainC; rw [hv]; rfl
    have B := not_never hv h.ok.ln
    rw [e]
    have hn : nvC ⟨c.keeps, c.needs, min c.took 60, rowsP c, false⟩ = false := by
      unfold nvC at hv ⊢
      rw [Bool.or_eq_false_iff] at hv
      exact hv.2
    unfold plainC
    rw [hn]
    simp only [Bool.false_eq_true, if_false]
    have hr : rowsP ⟨c.keeps, c.needs, min c.took 60, rowsP c, false⟩ = rowsP c := by
      show (rowsP c).map (fun o => o.bind (plainRow c.keeps c.needs)) = rowsP c
      unfold rowsP
      rw [List.map_map]
      apply List.map_congr_left
      intro o ho
      cases o with
      | none => rfl
      | some r =>
        show ((plainRow c.keeps c.needs r).bind (plainRow c.keeps c.needs)) = plainRow c.keeps c.needs r
        cases hp : plainRow c.keeps c.needs r with
        | none => rfl
        | some p => exact plain_idem (plain_ok hp B (h.t61 r ho))
    rw [hr, show min (min c.took 60) 60 = min c.took 60 by omega]
end Pm

set_option maxRecDepth 100000
set_option maxHeartbeats 1000000
/-! A life type equals itself -/
namespace Pm
open PySem L2
def bTeq : List C := [(.ret (.and (.blt .isi [(.var 1), (.con (.cls "LifeType"))]) (.and (.cmp .Eq (.att (.var 0) "_keeps") (.att (.var 1) "_keeps")) (.and (.cmp .Eq (.att (.var 0) "_needs") (.att (.var 1) "_needs")) (.and (.cmp .Eq (.att (.var 0) "_took") (.att (.var 1) "_took")) (.and (.cmp .Eq (.att (.var 0) "_rows") (.att (.var 1) "_rows")) (.cmp .Eq (.att (.var 0) "_sours") (.att (.var 1) "_sours"))))))))]
section
variable {G : Gm} {m : Mu}
theorem iD_tm (l : List Int) : iD l = .tup ((l.map some).map tm) := by
  unfold iD
  rw [List.map_map]
  rfl
theorem eq_iD (l : List Int) : cmD G .Eq (iD l) (iD l) m = .ok (.bl true) m := by
  rw [iD_tm, cmD_eq (tup_py _) (tup_py _) (tup_shaped _) (tup_shaped _)]
  have : PyData.eqv (.tuple ((l.map some).map tmP)) (.tuple ((l.map some).map tmP)) = true := by
    rw [show PyData.eqv (.tuple ((l.map some).map tmP)) (.tuple ((l.map some).map tmP)) = PyData.eqvAll ((l.map some).map tmP) ((l.map some).map tmP) by simp [PyData.eqv], tms_eqv]
    simp
  rw [this]
theorem eq_blS (b : Bool) : cmD G .Eq (.bl b) (.bl b) m = .ok (.bl true) m := by
  rw [cmD_eq (x := .bool b) (y := .bool b) rfl rfl rfl rfl]
  cases b <;> rfl
theorem teq_ok (h : FlOk G) (c : Cl) (hi : bltD G .isi [lifeI c, .cls "LifeType"] m = .ok (.bl true) m) (hr : cmD G .Eq (.tup (c.rows.map rI)) (.tup (c.rows.map rI)) m = .ok (.bl true) m) : runF G 2 2 bTeq [lifeI c, lifeI c] m = .ok (.bl true) m := by
  have a1 : ∀ f d, attD G m (lifeI c) f = .ok d m → cmD G .Eq d d m = .ok (.bl true) m → evE G (.cmp .Eq (.att (.var 0) f) (.att (.var 1) f)) [some (lifeI c), some (lifeI c)] m = .ok (.bl true) m := fun f d h1 h2 => by
    rw [evE, evE, evE_var (d := lifeI c) rfl, rs_ok, h1, rs_ok, evE, evE_var (d := lifeI c) rfl, rs_ok, h1, rs_ok, h2]
  unfold runF bTeq
  refine (if_pos (by rfl)).trans ?_
  show (evCs G [_] [some (lifeI c), some (lifeI c)] m).bind _ = _
  rw [evCs_rt (d := .bl true) (m' := m) (by
    rw [evC, evE, evE, evEs, evE_var (d := lifeI c) rfl, rs_ok, evEs, evE, rs_ok, evEs, rs_ok, rs_ok, rs_ok, hi, rs_ok]
    dsimp only
    rw [evE, a1 _ _ (att_keeps h c) (eq_iD _), rs_ok]
    dsimp only
    rw [evE, a1 _ _ (att_needs h c) (eq_iD _), rs_ok]
    dsimp only
    rw [evE, a1 _ _ (att_took h c) (by rw [cmD_eqI, beq_self_eq_true]), rs_ok]
    dsimp only
    rw [evE, a1 _ _ (att_rows h c) hr, rs_ok]
    dsimp only
    rw [a1 _ _ (att_sours h c) (eq_blS _), rs_ok]), rs_ok]
end
end Pm

set_option maxRecDepth 100000
set_option maxHeartbeats 1000000
/-! Rows within tuples equal themselves -/
namespace Pm
open PySem L2
def decT : D → Option (Option Int)
  | .non => some none
  | .int i => some (some i)
  | _ => none
def decTs : List D → Option Ls
  | [] => some []
  | d :: ds => match decT d, decTs ds with
    | some o, some l => some (o :: l)
    | _, _ => none
/-- a row as it stands in the store -/
def decR : D → Option (Option Int × Ls)
  | .ins c [(f, a), (g, .tup ds)] => if c = "LifeRow" ∧ f = "_left" ∧ g = "_lost" then (match decT a, decTs ds with
    | some o, some l => some (o, l)
    | _, _ => none) else none
  | _ => none
theorem decT_at {d : D} {o : Option Int} (h : decT d = some o) : d = tm o := by
  cases d <;> first | (cases h; done) | (cases h; rfl)
theorem decTs_at : ∀ {ds : List D} {l : Ls}, decTs ds = some l → ds = l.map tm
  | [], l, h => by cases h; rfl
  | d :: ds, l, h => by
    unfold decTs at h
    split at h
    · rename_i o l' h1 h2
      cases h
      rw [decT_at h1, decTs_at h2]
      rfl
    · cases h
theorem decR_at {d : D} {r : Option Int × Ls} (h : decR d = some r) : d = rowI r := by
  unfold decR at h
  split at h
  · split at h
    · rename_i e
      obtain ⟨rfl, rfl, rfl⟩ := e
      split at h
      · rename_i o l h1 h2
        cases h
        rw [decT_at h1, decTs_at h2]
        rfl
      · cases h
    · cases h
  · cases h
theorem decT_tm (o : Option Int) : decT (tm o) = some o := by cases o <;> rfl
theorem decTs_tm : ∀ l : Ls, decTs (l.map tm) = some l
  | [] => rfl
  | o :: l => by rw [List.map_cons, decTs, decT_tm, decTs_tm l]
theorem decR_row (r : Option Int × Ls) : decR (rowI r) = some r := by
  show (if ("LifeRow" : Str) = "LifeRow" ∧ ("_left" : Str) = "_left" ∧ ("_lost" : Str) = "_lost" then (match decT (tm r.1), decTs (r.2.map tm) with
    | some o, some l => some (o, l)
    | _, _ => none) else none) = _
  rw [if_pos ⟨rfl, rfl, rfl⟩, decT_tm, decTs_tm]
def rowEq (a b : D) : Option Bool := match decR a with
  | some r => match b with
    | .non => some false
    | b => (decR b).map fun s => decide (r = s)
  | none => none
def rowsEq (o : CmpOp) (a b : D) : Option Bool := match o, a, b with
  | .Eq, .tup xs, .tup ys => itsE "LifeRow" rowEq xs ys
  | _, _, _ => none
section
variable {G : Gm} {m : Mu}
theorem eqD_tm (a b : Option Int) : eqD m (tm a) (tm b) = some (decide (a = b)) := by
  rw [eqD_py (tm_py a) (tm_py b) (by cases a <;> rfl) (by cases b <;> rfl), tmP_eqv]
theorem eqD_tms (a b : Ls) : eqD m (.tup (a.map tm)) (.tup (b.map tm)) = some (decide (a = b)) := by
  rw [eqD_py (tup_py a) (tup_py b) (tup_shaped a) (tup_shaped b)]
  rw [show PyData.eqv (.tuple (a.map tmP)) (.tuple (b.map tmP)) = PyData.eqvAll (a.map tmP) (b.map tmP) by simp [PyData.eqv], tms_eqv]
theorem rowEq_at (r s : Option Int × List (Option Int)) : rowEq (rowI r) (rowI s) = some (decide (r = s)) := by
  unfold rowEq
  rw [decR_row]
  show (decR (rowI s)).map _ = _
  rw [decR_row]
  rfl
theorem rowEq_inv {a b : D} {t : Bool} (h : rowEq a b = some t) : ∃ r, a = rowI r ∧ ((b = .non ∧ t = false) ∨ ∃ s, b = rowI s ∧ t = decide (r = s)) := by
  unfold rowEq at h
  split at h
  · rename_i r hr
    refine ⟨r, decR_at hr, ?_⟩
    split at h
    · cases h; exact .inl ⟨rfl, rfl⟩
    · rw [Option.map_eq_some_iff] at h
      obtain ⟨s, hs, e⟩ := h
      exact .inr ⟨s, decR_at hs, e.symm⟩
  · cases h
theorem itsE_self : ∀ rows : List (Option (Option Int × Ls)), itsE "LifeRow" rowEq (rows.map rI) (rows.map rI) = some true
  | [] => rfl
  | o :: rows => by
    rw [List.map_cons, itsE]
    have : itE "LifeRow" rowEq (rI o) (rI o) = some true := by
      cases o with
      | none => rfl
      | some r =>
        have := rowEq_at r r
        rw [decide_eq_true rfl] at this
        show (if ("LifeRow" : Str) = "LifeRow" ∧ ("LifeRow" : Str) = "LifeRow" then rowEq (rowI r) (rowI r) else none) = _
        rw [if_pos ⟨rfl, rfl⟩, this]
    rw [this]
    exact itsE_self rows
theorem rows_py : ∀ rows : List (Option (Option Int × Ls)), D.pys (rows.map rI) = none ∨ rows = List.replicate rows.length none
  | [] => .inr rfl
  | some r :: rows => .inl rfl
  | none :: rows => by
    rcases rows_py rows with h | h
    · left
      rw [List.map_cons, D.pys, h]
      rfl
    · right
      rw [List.length_cons, List.replicate_succ, ← h]
theorem rows_eq (hcx : G.cx = rowsEq) (rows : List (Option (Option Int × Ls))) : cmD G .Eq (.tup (rows.map rI)) (.tup (rows.map rI)) m = .ok (.bl true) m := by
  rcases rows_py rows with h | h
  · have hp : (D.tup (rows.map rI)).py = none := by unfold D.py; rw [h]; rfl
    have e : cmpD .Eq (.tup (rows.map rI)) (.tup (rows.map rI)) m = none := by
      show eqD m _ _ = none
      unfold eqD
      rw [hp]
      rfl
    unfold cmD
    rw [e, hcx]
    dsimp only
    rw [show rowsEq .Eq (.tup (rows.map rI)) (.tup (rows.map rI)) = itsE "LifeRow" rowEq (rows.map rI) (rows.map rI) from rfl, itsE_self]
  · have e : rows.map rI = (List.replicate rows.length (none : Option Int)).map tm := by
      rw [h, List.length_replicate, List.map_replicate, List.map_replicate]
      rfl
    rw [e]
    unfold cmD
    rw [show cmpD .Eq (.tup ((List.replicate rows.length (none : Option Int)).map tm)) (.tup ((List.replicate rows.length (none : Option Int)).map tm)) m = eqD m (.tup ((List.replicate rows.length (none : Option Int)).map tm)) (.tup ((List.replicate rows.length (none : Option Int)).map tm)) from rfl, eqD_tms, decide_eq_true rfl]
end
end Pm

set_option maxRecDepth 100000
set_option maxHeartbeats 400000
/-! Rows within tuples: their == -/
namespace Pm
open PySem L2
theorem fn_in {K : PySem.W.Frag} {f : Addr} {oc : Value} {od : Option Addr} {fd : FuncData} {sl : Array (Option Value)} (h : K.lookup f = some ⟨oc, od, .func fd, sl⟩) : PySem.W.fnIn K f = true := by
  unfold PySem.W.fnIn
  rw [h]
theorem tm_dt (o : Option Int) : (tm o).dt = true := by cases o <;> simp [tm, D.dt]
theorem tms_dt : ∀ l : Ls, D.dts (l.map tm) = true
  | [] => by simp [D.dts]
  | o :: l => by
    rw [List.map_cons, show D.dts (tm o :: l.map tm) = ((tm o).dt && D.dts (l.map tm)) by simp [D.dts], tm_dt, tms_dt l]
    rfl
theorem row_dt (r : Option Int × Ls) : ∀ x ∈ rowS r, x.2.dt = true := fun x hx => by
  unfold rowS at hx
  simp only [List.mem_cons, List.not_mem_nil, or_false] at hx
  rcases hx with rfl | rfl
  · exact tm_dt _
  · simp [D.dt, tms_dt]
section
variable {K : PySem.W.Frag} {A : Addr} {cs : Cs}
theorem isi_row (m : Mu) (r : Option Int × Ls) (h : (Gm.base K cs).T.cls "LifeRow" = some A) (hm : Value.ref A ∈ asOf cs) : bltD (Gm.base K cs) .isi [rowI r, .cls "LifeRow"] m = .ok (.bl true) m := by
  refine isi_b ?_
  have h1 : (rowI r).typ (Gm.base K cs).T m = some (.ref A) := by
    show ((Gm.base K cs).T.cls "LifeRow").map Value.ref = _
    rw [h]; rfl
  unfold isiD
  rw [h1]
  show (match ((Gm.base K cs).T.cls "LifeRow").map Value.ref with | some u => isiC cs (.ref A) u | none => none) = _
  rw [h]
  show isiC cs (.ref A) (.ref A) = _
  unfold isiC
  rw [if_pos hm, if_pos rfl]
theorem isi_non (m : Mu) (h : (Gm.base K cs).T.cls "LifeRow" = some A) (hm : Value.ref A ∈ asOf cs) : bltD (Gm.base K cs) .isi [.non, .cls "LifeRow"] m = .ok (.bl false) m := by
  refine isi_b ?_
  unfold isiD
  show (match ((Gm.base K cs).T.cls "LifeRow").map Value.ref with | some u => isiC cs (.type "NoneType") u | none => none) = _
  rw [h]
  show isiC cs (.type "NoneType") (.ref A) = _
  unfold isiC
  rw [if_pos hm, if_neg (by simp), if_neg (fun z => by obtain ⟨c, C, fs, _, e⟩ := asOf_mem z; cases e), if_pos (by simp [tys0])]
theorem roweq_run (m : Mu) (r t : Option Int × Ls) (h : (Gm.base K cs).T.cls "LifeRow" = some A) (hm : Value.ref A ∈ asOf cs) (f1 : (Gm.base K cs).fl "LifeRow" "_left" = true) (f2 : (Gm.base K cs).fl "LifeRow" "_lost" = true) : runF (Gm.base K cs) 2 2 bRoweq [rowI r, rowI t] m = .ok (.bl (decide (r = t))) m := by
  unfold runF bRoweq
  refine (if_pos (by rfl)).trans ?_
  show (evCs _ [_] [some (rowI r), some (rowI t)] m).bind _ = _
  have e1 : cmD (Gm.base K cs) .Eq (tm r.1) (tm t.1) m = .ok (.bl (decide (r.1 = t.1))) m := by
    unfold cmD
    rw [show cmpD .Eq (tm r.1) (tm t.1) m = eqD m (tm r.1) (tm t.1) from rfl, eqD_tm]
  have e2 : cmD (Gm.base K cs) .Eq (.tup (r.2.map tm)) (.tup (t.2.map tm)) m = .ok (.bl (decide (r.2 = t.2))) m := by
    unfold cmD
    rw [show cmpD .Eq (.tup (r.2.map tm)) (.tup (t.2.map tm)) m = eqD m (.tup (r.2.map tm)) (.tup (t.2.map tm)) from rfl, eqD_tms]
  rw [evCs_rt (d := .bl (decide (r = t))) (m' := m) (by
    rw [evC, evE, evE, evEs, evE_var (d := rowI t) rfl, rs_ok, evEs, evE, rs_ok, evEs, rs_ok, rs_ok, rs_ok, isi_row m t h hm, rs_ok]
    dsimp only
    rw [evE, evE, evE, evE_var (d := rowI r) rfl, rs_ok, att_left0 f1, rs_ok, evE, evE_var (d := rowI t) rfl, rs_ok, att_left0 f1, rs_ok, e1, rs_ok]
    by_cases q : r.1 = t.1
    · rw [decide_eq_true q]
      dsimp only
      rw [evE, evE, evE_var (d := rowI r) rfl, rs_ok, att_lost0 f2, rs_ok, evE, evE_var (d := rowI t) rfl, rs_ok, att_lost0 f2, rs_ok, e2, rs_ok]
      congr 3
      by_cases q2 : r.2 = t.2
      · rw [decide_eq_true q2, decide_eq_true (Prod.ext q q2)]
      · rw [decide_eq_false q2, decide_eq_false (fun z => q2 (by rw [z]))]
    · rw [decide_eq_false q]
      dsimp only
      rw [rs_ok, decide_eq_false (fun z => q (by rw [z]))]), rs_ok]
theorem roweq_non (m : Mu) (r : Option Int × Ls) (h : (Gm.base K cs).T.cls "LifeRow" = some A) (hm : Value.ref A ∈ asOf cs) : runF (Gm.base K cs) 2 2 bRoweq [rowI r, .non] m = .ok (.bl false) m := by
  unfold runF bRoweq
  refine (if_pos (by rfl)).trans ?_
  show (evCs _ [_] [some (rowI r), some .non] m).bind _ = _
  rw [evCs_rt (d := .bl false) (m' := m) (by
    rw [evC, evE, evE, evEs, evE_var (d := .non) rfl, rs_ok, evEs, evE, rs_ok, evEs, rs_ok, rs_ok, rs_ok, isi_non m h hm, rs_ok]
    dsimp only
    rw [rs_ok]), rs_ok]
/-- the own == of rows, within tuples -/
theorem own_row {s : Stc} {lv : Nat} {f : Addr} (hA : (Tc K cs).cls "LifeRow" = some A) (hs : PySem.W.findIn s.K (.ref A) "__eq__" = some (some (.ref f))) (hf : PySem.W.isFn s.K (.ref f) = true) (hn : PySem.W.subIn s.K (.ref A) (.type "NoneType") = some false)
    (n1 : PySem.W.notFirst s.K A (.ref A) = true) (n2 : PySem.W.notFirst s.K A (.type "NoneType") = true) (F : Callee (Tc K cs) s lv 2 f (runF (Gm.base K cs) 2 2 bRoweq)) (hm : Value.ref A ∈ asOf cs) (f1 : fldOf cs "LifeRow" "_left" = true) (f2 : fldOf cs "LifeRow" "_lost" = true) : OwnEq (Tc K cs) s lv "LifeRow" rowEq where
  ex := ⟨A, f, _, hA, hs, hf, hn, n1, n2, F, fun a b r m e => by
    obtain ⟨x, rfl, q⟩ := rowEq_inv e
    rcases q with ⟨rfl, rfl⟩ | ⟨y, rfl, rfl⟩
    · exact roweq_non m x hA hm
    · exact roweq_run m x y hA hm f1 f2⟩
  same := fun a r e => by
    obtain ⟨x, rfl, q⟩ := rowEq_inv e
    rcases q with ⟨h, rfl⟩ | ⟨y, h, rfl⟩
    · cases h
    · have : rowEq (rowI x) (rowI x) = some (decide (x = x)) := rowEq_at x x
      rw [e] at this
      simp only [decide_true, Option.some.injEq] at this
      exact this
  dt := fun c fs gs r e => by
    obtain ⟨x, h1, q⟩ := rowEq_inv e
    cases h1
    refine ⟨row_dt x, ?_⟩
    rcases q with ⟨h, rfl⟩ | ⟨y, h, rfl⟩
    · cases h
    · cases h; exact row_dt y
theorem cx_rows {G : Gm} {s : Stc} {lv : Nat} (o : OwnEq G.T s lv "LifeRow" rowEq) (hK : G.T.K = s.K) {lv2 : Nat} (hl : lv + 1 ≤ lv2) : ∀ o a b r, rowsEq o a b = some r → ∀ X : Cx, stc X = s → Room lv2 X.A → X.A.guards = some [] → ∀ (H Z : Hp) (α : List Addr) (m : Mu) (v u : V) (Q : VK), Rep G.T H Z α m → Dn G.T Z α v a → Dn G.T Z α u b →
    (∀ H' Z' α', Fut H Z α H' Z' α' → Rep G.T H' Z' α' m → Q (.bl r) H') → oA X (compareOp o) v u H Q := fun op a b r e X hX hr gd H Z α m v u Q R dv du q => by
  subst hX
  unfold rowsEq at e
  split at e
  · exact rows_cx o hK (hr.mono hl) gd e R dv du q
  · cases e
end
end Pm

set_option maxRecDepth 100000
set_option maxHeartbeats 1000000
/-! never and plain, reckoned by the law -/
namespace Pm
open PySem L2
def bLnever : List C := [(.asg (.nm 1) (.lc false (.tup [(.nm 2), (.nm 3)]) (.zip (.idx (.var 0) (.con (.int 1))) (.idx (.var 0) (.con (.int 0)))) (some (.cmp .Gt (.var 2) (.var 3))) (.con (.int 1)) [2, 3])),
    (.ret (.or (.idx (.var 0) (.con (.int 4))) (.cmp .NotEq (.var 1) (.lst []))))]
def bLplain : List C := [(.ife (.tru (.fn "_law_never" [(.var 0)])) [(.ret (.tup [(.idx (.var 0) (.con (.int 0))), (.bin .Mult (.tup [(.con (.int 61))]) (.blt .len [(.idx (.var 0) (.con (.int 0)))])), (.con (.int 60)), (.bin .Mult (.tup [(.con .non)]) (.blt .len [(.idx (.var 0) (.con (.int 3)))])), (.con (.bl true))]))] []),
    (.asg (.nm 1) (.lc false (.nm 2) (.val (.idx (.var 0) (.con (.int 3)))) none (.ife (.cmp .Is (.var 2) (.con .non)) (.con .non) (.fn "_law_plain_row" [(.var 0), (.var 2)])) [2])),
    (.ret (.tup [(.idx (.var 0) (.con (.int 0))), (.idx (.var 0) (.con (.int 1))), (.blt .min [(.con (.int 60)), (.idx (.var 0) (.con (.int 2)))]), (.blt .tuple [(.var 1)]), (.con (.bl false))]))]
section
variable {G Gn Gr Gb : Gm} {m : Mu}
theorem cl0 {c : Cl} {ρ : Env} {i : Nat} (h : ρ[i]? = some (some (claimD c))) : evE G (.idx (.var i) (.con (.int 0))) ρ m = .ok (iD c.keeps) m := by
  rw [evE, evE_var h, rs_ok, evE, rs_ok]; exact idx_tup at0
theorem cl1 {c : Cl} {ρ : Env} {i : Nat} (h : ρ[i]? = some (some (claimD c))) : evE G (.idx (.var i) (.con (.int 1))) ρ m = .ok (iD c.needs) m := by
  rw [evE, evE_var h, rs_ok, evE, rs_ok]; exact idx_tup (ds := [iD c.keeps, iD c.needs, .int c.took, .tup (c.rows.map rD), .bl c.sours]) (atN 1 rfl)
theorem cl2 {c : Cl} {ρ : Env} {i : Nat} (h : ρ[i]? = some (some (claimD c))) : evE G (.idx (.var i) (.con (.int 2))) ρ m = .ok (.int c.took) m := by
  rw [evE, evE_var h, rs_ok, evE, rs_ok]; exact idx_tup (ds := [iD c.keeps, iD c.needs, .int c.took, .tup (c.rows.map rD), .bl c.sours]) (atN 2 rfl)
theorem cl3 {c : Cl} {ρ : Env} {i : Nat} (h : ρ[i]? = some (some (claimD c))) : evE G (.idx (.var i) (.con (.int 3))) ρ m = .ok (.tup (c.rows.map rD)) m := by
  rw [evE, evE_var h, rs_ok, evE, rs_ok]; exact idx_tup (ds := [iD c.keeps, iD c.needs, .int c.took, .tup (c.rows.map rD), .bl c.sours]) (atN 3 rfl)
theorem cl4 {c : Cl} {ρ : Env} {i : Nat} (h : ρ[i]? = some (some (claimD c))) : evE G (.idx (.var i) (.con (.int 4))) ρ m = .ok (.bl c.sours) m := by
  rw [evE, evE_var h, rs_ok, evE, rs_ok]; exact idx_tup (ds := [iD c.keeps, iD c.needs, .int c.took, .tup (c.rows.map rD), .bl c.sours]) (atN 4 rfl)
theorem lnever_ok (c : Cl) (hk : c.needs.length ≤ 3) : runF G 1 4 bLnever [claimD c] m = .ok (.bl (nvC c)) m := by
  have hz : (c.needs.zip c.keeps).length ≤ sizeLine := by rw [List.length_zip]; have := three; omega
  have := lc_src (G := G) (m := m) (ρ := [some (claimD c), none, none, none]) (w := []) (g := .tup [(.nm 2), (.nm 3)]) (it := .zip (.idx (.var 0) (.con (.int 1))) (.idx (.var 0) (.con (.int 0)))) (c := some (.cmp .Gt (.var 2) (.var 3))) (elt := .con (.int 1)) (ws := [2, 3]) (c.needs.zip c.keeps) iiD (fun p => (if p.2 < p.1 then some 1 else none : Option Int).map D.int)
    (by rw [← zip_ii]; exact evI_zip (cl1 rfl) (cl0 rfl)) rfl hz fun p _ => by
      obtain ⟨a, b⟩ := p
      unfold lcT
      rw [show evG G (.tup [(.nm 2), (.nm 3)]) (iiD (a, b)) (wipeD [some (claimD c), none, none, none] [2, 3]) m = .ok [some (claimD c), none, some (.int a), some (.int b)] m by
        simp only [iiD, evG, evGs, wipeD, List.length_cons, List.length_nil, if_true, rs_ok, List.set_cons_succ, List.set_cons_zero], rs_ok, evT, evE, evE_var (d := .int a) rfl, rs_ok, evE_var (d := .int b) rfl, rs_ok, cmD_gt, rs_ok]
      dsimp only
      rw [rs_ok]
      by_cases q : b < a
      · rw [decide_eq_true q, if_pos rfl, if_pos q, evE, rs_ok]; rfl
      · rw [decide_eq_false q, if_neg Bool.false_ne_true, if_neg q]; rfl
  unfold runF bLnever
  refine (if_pos (by rfl)).trans ?_
  show (evCs G (_ :: _) [some (claimD c), none, none, none] m).bind _ = _
  rw [← List.map_filterMap] at this
  rw [evCs_nx (ρ' := [some (claimD c), some (.lst (((c.needs.zip c.keeps).filterMap fun p => (if p.2 < p.1 then some 1 else none : Option Int)).map .int)), none, none]) (m' := m) (by rw [evC, this, rs_ok, evG, rs_ok]; rfl), evCs_rt (d := .bl (nvC c)) (m' := m) (by
    rw [evC, evE, cl4 rfl, rs_ok]
    unfold nvC
    cases hs : c.sours with
    | true => rfl
    | false =>
      dsimp only
      rw [evE, evE_var (d := .lst (((c.needs.zip c.keeps).filterMap fun p => (if p.2 < p.1 then some 1 else none : Option Int)).map .int)) rfl, rs_ok, evE, evEs, rs_ok]
      simp only [List.length_nil, Nat.zero_le, if_true, rs_ok]
      rw [ints_ne, rs_ok]
      congr 3
      rw [Bool.false_or]
      generalize c.needs.zip c.keeps = l
      induction l with
      | nil => rfl
      | cons p l ih =>
        rw [List.filterMap_cons, List.any_cons]
        by_cases q : p.2 < p.1
        · rw [if_pos q, decide_eq_true q]; rfl
        · rw [if_neg q, decide_eq_false q]
          exact ih), rs_ok]
/-- what is asked of a claim's rows -/
structure ClOk3 (c : Cl) : Prop where
  ok : ClOk c
  l61 : ∀ r, some r ∈ c.rows → ∀ x, r.1 = some x → x ≤ 61
  k61 : ∀ r, some r ∈ c.rows → ∀ j t, tmAt c.keeps r.2 j = some t → t ≤ 61
theorem lrows_ok (hb : Gr.fn "_law_bound" = some (runF Gb 2 7 bBound)) (hp : G.fn "_law_plain_row" = some (runF Gr 2 13 bLplainRow)) (c : Cl) (h : ClOk3 c) :
    ∃ e, evE G (.lc false (.nm 2) (.val (.idx (.var 0) (.con (.int 3)))) none (.ife (.cmp .Is (.var 2) (.con .non)) (.con .non) (.fn "_law_plain_row" [(.var 0), (.var 2)])) [2]) [some (claimD c), none, none] m = .ok (.lst ((rowsP c).map rD)) (m ++ e) := by
  have hz : ([] : List D).length + (c.rows.map rD).length ≤ sizeLine := by
    have h2 : 1000 ≤ sizeLine := by decide
    have := h.ok.lr
    rw [List.length_map]
    simp only [List.length_nil]
    omega
  obtain ⟨xs, m', e, hP⟩ := lcL_inv (w := []) (f := lcT G (.nm 2) none (.ife (.cmp .Is (.var 2) (.con .non)) (.con .non) (.fn "_law_plain_row" [(.var 0), (.var 2)])) (wipeD [some (claimD c), none, none] [2])) (fun n acc mm => acc = ((rowsP c).take n).map rD ∧ ∃ e, mm = m ++ e) (c.rows.map rD) 0 (acc := []) (m := m) (fun _ _ _ _ => rfl) hz (fun j d acc mm hj ⟨e1, e, e2⟩ => by
      rw [List.getElem?_map] at hj
      cases ho : c.rows[j]? with
      | none => rw [ho] at hj; cases hj
      | some o =>
        rw [ho] at hj
        cases hj
        rw [Nat.zero_add] at e1 ⊢
        have hj2 : (rowsP c)[j]? = some (o.bind (plainRow c.keeps c.needs)) := by unfold rowsP; rw [List.getElem?_map, ho]; rfl
        have hacc : ((rowsP c).take j).map rD ++ [rD (o.bind (plainRow c.keeps c.needs))] = ((rowsP c).take (j + 1)).map rD := by rw [List.take_succ, hj2, List.map_append]; rfl
        have h0 : evG G (.nm 2) (rD o) (wipeD [some (claimD c), none, none] [2]) mm = .ok [some (claimD c), none, some (rD o)] mm := rfl
        cases o with
        | none =>
          refine ⟨some .non, mm, ?_, by rw [e1]; exact hacc, e, e2⟩
          unfold lcT
          rw [h0, rs_ok, evT, rs_ok]
          simp only [if_true]
          rw [evE, evE, evE_var (d := .non) rfl, rs_ok, evE, rs_ok, cmD_is, rs_ok]
          rfl
        | some r =>
          have hm := List.mem_of_getElem? ho
          obtain ⟨h1, h2⟩ := h.ok.row r hm
          obtain ⟨e3, he⟩ := lrow_ok (G := Gr) (m := mm) hb c r (by rw [h.ok.ln, h1]) h1.symm (by rw [h1]; exact h.ok.lk) h2 (h.l61 r hm) (h.k61 r hm)
          refine ⟨some (rD (plainRow c.keeps c.needs r)), mm ++ e3, ?_, by rw [e1]; exact hacc, e ++ e3, by rw [e2, List.append_assoc]⟩
          unfold lcT
          rw [h0, rs_ok, evT, rs_ok]
          simp only [if_true]
          rw [evE, evE, evE_var (d := rowD r) rfl, rs_ok, evE, rs_ok, cmD_is, rs_ok]
          simp only [rowD, D.isNon]
          rw [evE, hp]
          dsimp only
          rw [evEs, evE_var (d := claimD c) rfl, rs_ok, evEs, evE_var (d := rowD r) rfl, rs_ok, evEs, rs_ok, rs_ok, rs_ok, he, rs_ok]) ⟨rfl, [], by rw [List.append_nil]⟩
  obtain ⟨rfl, e2, rfl⟩ := hP
  rw [Nat.zero_add, List.length_map] at e
  refine ⟨e2, ?_⟩
  rw [evE_lc, evI_tup (ds := c.rows.map rD) (cl3 rfl), rs_ok]
  dsimp only
  rw [e]
  show Rs.ok (D.lst (((rowsP c).take c.rows.length).map rD)) (m ++ e2) = _
  rw [List.take_of_length_le (by unfold rowsP; rw [List.length_map]; exact Nat.le_refl _)]
theorem lplain_ok (hn : G.fn "_law_never" = some (runF Gn 1 4 bLnever)) (hb : Gr.fn "_law_bound" = some (runF Gb 2 7 bBound)) (hp : G.fn "_law_plain_row" = some (runF Gr 2 13 bLplainRow)) (c : Cl) (h : ClOk3 c) : ∃ e, runF G 1 3 bLplain [claimD c] m = .ok (claimD (plainC c)) (m ++ e) := by
  have z5 : (0 + 1 + 1 + 1 + 1 + 1 ≤ sizeLine) = True := by decide
  have hk : c.needs.length ≤ 3 := by rw [h.ok.ln]; exact h.ok.lk
  have ct : evE G (.tru (.fn "_law_never" [(.var 0)])) [some (claimD c), none, none] m = .ok (.bl (nvC c)) m := by
    rw [evE, evE, hn]
    dsimp only
    rw [evEs, evE_var (d := claimD c) rfl, rs_ok, evEs, rs_ok, rs_ok, lnever_ok c hk, rs_ok, truB]
  cases hv : nvC c with
  | true =>
    have hpl : plainC c = neverC c.keeps c.rows.length := by unfold plainC; rw [hv]; rfl
    refine ⟨[], ?_⟩
    rw [List.append_nil]
    unfold runF bLplain
    refine (if_pos (by rfl)).trans ?_
    show (evCs G (_ :: _) [some (claimD c), none, none] m).bind _ = _
    have l1 : bltD G .len [iD c.keeps] m = .ok (.int ((c.keeps.length : Nat) : Int)) m := by
      rw [show bltD G .len [iD c.keeps] m = .ok (.int ((c.keeps.map D.int).length : Nat)) m from rfl, List.length_map]
    have l2 : bltD G .len [.tup (c.rows.map rD)] m = .ok (.int ((c.rows.length : Nat) : Int)) m := by
      rw [show bltD G .len [.tup (c.rows.map rD)] m = .ok (.int ((c.rows.map rD).length : Nat)) m from rfl, List.length_map]
    rw [evCs_rt (d := claimD (plainC c)) (m' := m) (by
      rw [evC, ct, rs_ok, hv]
      dsimp only
      rw [evCs_one, evC, evE, evEs, cl0 rfl, rs_ok, evEs, evE, evE, evEs, evE, rs_ok, evEs, rs_ok, rs_ok]
      simp only [List.length_cons, List.length_nil, w_one, if_true, rs_ok]
      rw [evE, evEs, cl0 rfl, rs_ok, evEs, rs_ok, rs_ok, l1, rs_ok, opD_rep _ (by have := h.ok.lk; omega), rs_ok, evEs, evE, rs_ok, evEs, evE, evE, evEs, evE, rs_ok, evEs, rs_ok, rs_ok]
      simp only [List.length_cons, List.length_nil, w_one, if_true, rs_ok]
      rw [evE, evEs, cl3 rfl, rs_ok, evEs, rs_ok, rs_ok, l2, rs_ok, opD_rep _ h.ok.lr, rs_ok, evEs, evE, rs_ok, evEs, rs_ok, rs_ok, rs_ok, rs_ok, rs_ok, rs_ok]
      simp only [List.length_cons, List.length_nil, z5, if_true]
      rw [hpl]
      unfold neverC claimD iD
      dsimp only
      rw [List.map_replicate, List.map_replicate]
      rfl), rs_ok]
  | false =>
    have hpl : plainC c = ⟨c.keeps, c.needs, min c.took 60, rowsP c, false⟩ := by unfold plainC; rw [hv]; rfl
    obtain ⟨e, he⟩ := lrows_ok (m := m) hb hp c h
    refine ⟨e, ?_⟩
    unfold runF bLplain
    refine (if_pos (by rfl)).trans ?_
    show (evCs G (_ :: _) [some (claimD c), none, none] m).bind _ = _
    rw [evCs_nx (ρ' := [some (claimD c), none, none]) (m' := m) (by rw [evC, ct, rs_ok, hv]; dsimp only; rw [evCs]),
      evCs_nx (ρ' := [some (claimD c), some (.lst ((rowsP c).map rD)), none]) (m' := m ++ e) (by rw [evC, he, rs_ok, evG, rs_ok]; rfl),
      evCs_rt (d := claimD (plainC c)) (m' := m ++ e) (by
        have hmin : ∀ mm, bltD G .min [.int 60, .int c.took] mm = .ok (.int (min c.took 60)) mm := fun mm => by
          rw [blt_min]
          congr 2
          split <;> omega
        rw [evC, evE, evEs, cl0 rfl, rs_ok, evEs, cl1 rfl, rs_ok, evEs, evE, evEs, evE, rs_ok, evEs, cl2 rfl, rs_ok, evEs, rs_ok, rs_ok, rs_ok, hmin, rs_ok, evEs, evE, evEs, evE_var (d := .lst ((rowsP c).map rD)) rfl, rs_ok, evEs, rs_ok, rs_ok,
          show bltD G .tuple [.lst ((rowsP c).map rD)] (m ++ e) = .ok (.tup ((rowsP c).map rD)) (m ++ e) from rfl, rs_ok, evEs, evE, rs_ok, evEs, rs_ok, rs_ok, rs_ok, rs_ok, rs_ok, rs_ok]
        simp only [List.length_cons, List.length_nil, z5, if_true]
        rw [hpl]
        rfl), rs_ok]
end
end Pm

set_option maxRecDepth 100000
set_option maxHeartbeats 1000000
/-! What lives show, reckoned by the law -/
namespace Pm
open PySem L2
def bSeen : List C := [(.ret (.lc false (.nm 2) (.val (.var 1)) none (.ife (.cmp .Is (.var 0) (.con .non)) (.con (.int 0)) (.blt .max [(.con (.int 0)), (.fn "_law_bound" [(.var 0), (.var 2)])])) [2]))]
def seenV (o : Option (Option Int × Ls)) (vs : List Int) : Int := match o with
  | none => 0
  | some r => max 0 (bnd vs r.1 r.2)
section
variable {G Gb : Gm} {m : Mu}
theorem seen_ok (hb : G.fn "_law_bound" = some (runF Gb 2 7 bBound)) (o : Option (Option Int × Ls)) (bs : List (List Int)) (hz : bs.length ≤ sizeLine) (h : ∀ vs ∈ bs, ∀ r, o = some r → vs.length ≤ 3 ∧ allT vs r.1 r.2 ≠ []) : runF G 2 3 bSeen [rD o, .lst (bs.map iD)] m = .ok (.lst ((bs.map (seenV o)).map .int)) m := by
  have := lc_srcM (G := G) (m := m) (ρ := [some (rD o), some (.lst (bs.map iD)), none]) (w := []) (g := .nm 2) (it := .val (.var 1)) (elt := .ife (.cmp .Is (.var 0) (.con .non)) (.con (.int 0)) (.blt .max [(.con (.int 0)), (.fn "_law_bound" [(.var 0), (.var 2)])])) (ws := [2]) bs iD (fun vs => D.int (seenV o vs))
    (evI_lst (evE_var rfl)) rfl hz fun vs hv => by
      rw [show evG G (.nm 2) (iD vs) (wipeD [some (rD o), some (.lst (bs.map iD)), none] [2]) m = .ok [some (rD o), some (.lst (bs.map iD)), some (iD vs)] m from rfl, rs_ok, evE, evE, evE_var (d := rD o) rfl, rs_ok, evE, rs_ok, cmD_is, rs_ok]
      cases o with
      | none =>
        simp only [rD, D.isNon]
        rw [evE]
        rfl
      | some r =>
        obtain ⟨h1, h2⟩ := h vs hv r rfl
        obtain ⟨i, hi⟩ := minL_some h2
        have hbd : runF Gb 2 7 bBound [rD (some r), iD vs] m = .ok (.int (bnd vs r.1 r.2)) m := bound_ok r vs h1 hi
        rw [show (rD (some r)).isNon = false from rfl]
        dsimp only
        rw [evE, evEs, evE, rs_ok, evEs, evE, hb]
        dsimp only
        rw [evEs, evE_var (d := rD (some r)) rfl, rs_ok, evEs, evE_var (d := iD vs) rfl, rs_ok, evEs, rs_ok, rs_ok, rs_ok, hbd, rs_ok, evEs, rs_ok, rs_ok, rs_ok, blt_max]
        congr 2
        show (if 0 < bnd vs r.1 r.2 then bnd vs r.1 r.2 else 0) = max 0 (bnd vs r.1 r.2)
        split <;> omega
  rw [show bs.map (fun vs => D.int (seenV o vs)) = (bs.map (seenV o)).map .int by rw [List.map_map]; rfl] at this
  unfold runF bSeen
  refine (if_pos (by rfl)).trans ?_
  show (evCs G [_] [some (rD o), some (.lst (bs.map iD)), none] m).bind _ = _
  rw [evCs_rt (by rw [evC, this, rs_ok]), rs_ok]
end
end Pm

set_option maxRecDepth 100000
set_option maxHeartbeats 1000000
/-! All lives between needs and keeps, reckoned by the law -/
namespace Pm
open PySem L2
def bBoxOf : List C := [(.asg (.nm 1) (.lsto [(.tup [])])),
    (.for (.tup [(.nm 2), (.nm 3)]) (.zip (.idx (.var 0) (.con (.int 1))) (.idx (.var 0) (.con (.int 0)))) [(.asg (.nm 4) (.lsto [])), (.for (.nm 5) (.val (.var 1)) [(.expr (.bm (.var 4) .extend [(.lc false (.nm 6) (.rng [(.var 2), (.bin .Add (.var 3) (.con (.int 1)))]) none (.bin .Add (.var 5) (.tup [(.var 6)])) [6])]))]), (.asg (.nm 1) (.var 4))]),
    (.frz [1] (.ret (.var 1)))]
theorem upto_len (n k : Int) : (upto n k).length = (k - n).toNat := by unfold upto; rw [List.length_map, List.length_range]
theorem boxStep_len {p : Int × Int} (h : (p.2 + 1 - p.1).toNat ≤ 16) : ∀ acc : List (List Int), (boxStep acc p).length ≤ acc.length * 16
  | [] => by unfold boxStep; simp
  | a :: acc => by
    have ih := boxStep_len h acc
    unfold boxStep at ih ⊢
    rw [List.flatMap_cons, List.length_append, List.length_map, upto_len, List.length_cons]
    omega
section
variable {G : Gm} {m : Mu}
theorem same_self : ∀ d : D, D.same d d = true := by
  intro d
  refine D.rec (motive_1 := fun d => D.same d d = true) (motive_2 := fun ds => D.sames ds ds = true) (motive_3 := fun fs => D.samef fs fs = true) (motive_4 := fun p => D.same p.2 p.2 = true) ?_ ?_ ?_ ?_ ?_ ?_ ?_ ?_ ?_ ?_ ?_ ?_ ?_ ?_ ?_ ?_ d
  all_goals (intros; simp_all [D.same, D.sames, D.samef])
theorem sames_self (ds : List D) : D.sames ds ds = true := by
  have := same_self (.lst ds)
  rwa [D.same] at this
theorem okW_at {q : Nat} {ds : List D} (h : m[q]? = some (.lst ds)) : okW [(q, ds)] m = true := by
  unfold okW
  rw [List.all_cons, h]
  simp only [sames_self, List.all_nil, Bool.and_true]
theorem rngD_two {a b : Int} (ha : -1000 ≤ a ∧ a ≤ 1000) (hb : -1000 ≤ b ∧ b ≤ 1000) : rngD [.int a, .int b] = some ((upto a b).map .int) := by
  have h2 : -(2 ^ 62) ≤ a ∧ a < 2 ^ 62 ∧ -(2 ^ 62) ≤ b ∧ b < 2 ^ 62 := by omega
  unfold rngD
  split
  · rename_i k e
    cases e
  · rename_i x y e
    cases e
    rw [if_pos h2]
    unfold upto
    rw [List.map_map]
    rfl
  · rename_i h3 h4
    exact absurd rfl (h4 _ _)
/-- one more life for each -/
theorem box_lc {x0 x1 x4 : Option D} {n k : Int} {vs : List Int} (hn : -1000 ≤ n ∧ n ≤ 900) (hk : -1000 ≤ k ∧ k ≤ 900) (hv : vs.length ≤ 10) (hl : (k + 1 - n).toNat ≤ 16) :
    evE G (.lc false (.nm 6) (.rng [(.var 2), (.bin .Add (.var 3) (.con (.int 1)))]) none (.bin .Add (.var 5) (.tup [(.var 6)])) [6]) [x0, x1, some (.int n), some (.int k), x4, some (iD vs), none] m = .ok (.lst (((upto n (k + 1)).map fun v => vs ++ [v]).map iD)) m := by
  have big : 100 ≤ sizeLine := by decide
  have := lc_srcM (G := G) (m := m) (ρ := [x0, x1, some (.int n), some (.int k), x4, some (iD vs), none]) (w := []) (g := .nm 6) (it := .rng [(.var 2), (.bin .Add (.var 3) (.con (.int 1)))]) (elt := .bin .Add (.var 5) (.tup [(.var 6)])) (ws := [6]) (upto n (k + 1)) D.int (fun v => iD (vs ++ [v]))
    (by
      unfold evI
      rw [evEs, evE_var (d := .int n) rfl, rs_ok, evEs, evE, evE_var (d := .int k) rfl, rs_ok, evE, rs_ok, opD_add, rs_ok, evEs, rs_ok, rs_ok, rs_ok, rngD_two (by omega) (by omega)]) rfl (by rw [upto_len]; omega) fun v _ => by
    rw [show evG G (.nm 6) (.int v) (wipeD [x0, x1, some (.int n), some (.int k), x4, some (iD vs), none] [6]) m = .ok [x0, x1, some (.int n), some (.int k), x4, some (iD vs), some (.int v)] m from rfl, rs_ok, evE, evE_var (d := iD vs) rfl, rs_ok, evE, evEs, evE_var (d := .int v) rfl, rs_ok, evEs, rs_ok, rs_ok]
    simp only [List.length_cons, List.length_nil, w_one, if_true, rs_ok]
    unfold iD opD binD binT
    have hz : (vs.map D.int).length + [D.int v].length ≤ sizeLine := by rw [List.length_map]; simp only [List.length_cons, List.length_nil]; omega
    dsimp only
    rw [if_pos hz, List.map_append]
    rfl
  rw [this, List.map_map]
  rfl
def boxF (G : Gm) (d : D) (ρ : Env) (m : Mu) : Rs Fl := (evG G (.nm 5) d ρ m).bind fun ρ m => evCs G [(.expr (.bm (.var 4) .extend [(.lc false (.nm 6) (.rng [(.var 2), (.bin .Add (.var 3) (.con (.int 1)))]) none (.bin .Add (.var 5) (.tup [(.var 6)])) [6])]))] ρ m
theorem box_in {x0 : Option D} {q : Nat} {n k : Int} {W : List (List Int)} (hn : -1000 ≤ n ∧ n ≤ 900) (hk : -1000 ≤ k ∧ k ≤ 900) (hl : (k + 1 - n).toNat ≤ 16) : ∀ (bs : List (List Int)) (L : List (List Int)) (x5 : Option D), m[q]? = some (.lst (W.map iD)) → L.length + bs.length * 16 ≤ 100000 → (∀ vs ∈ bs, vs.length ≤ 10) →
    ∃ x5', forL [(q, W.map iD)] (boxF G) (bs.map iD) [x0, some (.own q), some (.int n), some (.int k), some (.own m.length), x5, none] (m ++ [.lst (L.map iD)]) = .ok (.nx [x0, some (.own q), some (.int n), some (.int k), some (.own m.length), x5', none]) (m ++ [.lst ((L ++ boxStep bs (n, k)).map iD)])
  | [], L, x5, _, _, _ => ⟨x5, by unfold forL boxStep; simp⟩
  | b :: bs, L, x5, hq, hz, hv => by
    have big : 1000000 ≤ sizeLine := by decide
    have hql : q < m.length := (List.getElem?_eq_some_iff.mp hq).1
    rw [List.length_cons] at hz
    have hlen : ((upto n (k + 1)).map fun v => b ++ [v]).length ≤ 16 := by rw [List.length_map, upto_len]; exact hl
    obtain ⟨x5', ih⟩ := box_in (x0 := x0) hn hk hl bs (L ++ (upto n (k + 1)).map fun v => b ++ [v]) (some (iD b)) hq (by rw [List.length_append]; omega) (fun vs h => hv vs (List.mem_cons_of_mem _ h))
    refine ⟨x5', ?_⟩
    have hx : mtD .extend (.own m.length) [.lst (((upto n (k + 1)).map fun v => b ++ [v]).map iD)] (m ++ [.lst (L.map iD)]) = .ok .non (m ++ [.lst ((L ++ (upto n (k + 1)).map fun v => b ++ [v]).map iD)]) := by
      have hs : (L.map iD).length + (((upto n (k + 1)).map fun v => b ++ [v]).map iD).length ≤ sizeLine := by
        rw [List.length_map, List.length_map]
        omega
      unfold mtD
      simp only [get_last, lookT, hs, if_true, set_last]
      rw [List.map_append]
    have hf : boxF G (iD b) [x0, some (.own q), some (.int n), some (.int k), some (.own m.length), x5, none] (m ++ [.lst (L.map iD)]) = .ok (.nx [x0, some (.own q), some (.int n), some (.int k), some (.own m.length), some (iD b), none]) (m ++ [.lst ((L ++ (upto n (k + 1)).map fun v => b ++ [v]).map iD)]) := by
      unfold boxF
      rw [show evG G (.nm 5) (iD b) [x0, some (.own q), some (.int n), some (.int k), some (.own m.length), x5, none] (m ++ [.lst (L.map iD)]) = .ok [x0, some (.own q), some (.int n), some (.int k), some (.own m.length), some (iD b), none] (m ++ [.lst (L.map iD)]) from rfl, rs_ok, evCs_one, evC, evE, evE_var (d := .own m.length) rfl, rs_ok]
      have hlk : lookT (m ++ [.lst (L.map iD)]) (.own m.length) = some (L.map iD) := by unfold lookT; simp only [get_last]
      rw [hlk]
      dsimp only
      rw [evEs, box_lc hn hk (hv b List.mem_cons_self) hl, rs_ok, evEs, rs_ok, rs_ok, hx, rs_ok]
    rw [List.map_cons]
    unfold forL
    rw [hf, rs_ok]
    dsimp only
    have hok : okW [(q, W.map iD)] (m ++ [.lst ((L ++ (upto n (k + 1)).map fun v => b ++ [v]).map iD)]) = true := okW_at (by rw [List.getElem?_append_left hql]; exact hq)
    rw [if_pos hok, ih]
    rw [show L ++ (upto n (k + 1)).map (fun v => b ++ [v]) ++ boxStep bs (n, k) = L ++ boxStep (b :: bs) (n, k) by unfold boxStep; rw [List.flatMap_cons, List.append_assoc]]
def boxO (G : Gm) (d : D) (ρ : Env) (m : Mu) : Rs Fl := (evG G (.tup [(.nm 2), (.nm 3)]) d ρ m).bind fun ρ m => evCs G [(.asg (.nm 4) (.lsto [])), (.for (.nm 5) (.val (.var 1)) [(.expr (.bm (.var 4) .extend [(.lc false (.nm 6) (.rng [(.var 2), (.bin .Add (.var 3) (.con (.int 1)))]) none (.bin .Add (.var 5) (.tup [(.var 6)])) [6])]))]), (.asg (.nm 1) (.var 4))] ρ m
theorem boxStep_vs {acc : List (List Int)} {p : Int × Int} {c : Nat} (h : ∀ vs ∈ acc, vs.length ≤ c) : ∀ vs ∈ boxStep acc p, vs.length ≤ c + 1 := fun vs hv => by
  unfold boxStep at hv
  rw [List.mem_flatMap] at hv
  obtain ⟨a, ha, hb⟩ := hv
  rw [List.mem_map] at hb
  obtain ⟨v, _, rfl⟩ := hb
  have := h a ha
  rw [List.length_append]
  simp only [List.length_cons, List.length_nil]
  omega
theorem box_out {x0 : Option D} : ∀ (ps : List (Int × Int)) (acc : List (List Int)) (q c : Nat) (x2 x3 x4 x5 : Option D) (m : Mu), (∀ p ∈ ps, (-1000 ≤ p.1 ∧ p.1 ≤ 900) ∧ (-1000 ≤ p.2 ∧ p.2 ≤ 900) ∧ (p.2 + 1 - p.1).toNat ≤ 16) → m[q]? = some (.lst (acc.map iD)) → acc.length * 16 ^ ps.length ≤ 100000 → (∀ vs ∈ acc, vs.length ≤ c) → c + ps.length ≤ 10 →
    ∃ q' y2 y3 y4 y5 e, forL [] (boxO G) (ps.map iiD) [x0, some (.own q), x2, x3, x4, x5, none] m = .ok (.nx [x0, some (.own q'), y2, y3, y4, y5, none]) (m ++ e) ∧ (m ++ e)[q']? = some (.lst ((ps.foldl boxStep acc).map iD)) ∧ (q' = q ∨ m.length ≤ q')
  | [], acc, q, c, x2, x3, x4, x5, m, _, hq, _, _, _ => ⟨q, x2, x3, x4, x5, [], by unfold forL; rw [List.append_nil]; rfl, by rw [List.append_nil]; exact hq, .inl rfl⟩
  | p :: ps, acc, q, c, x2, x3, x4, x5, m, hp, hq, hz, hc, hcl => by
    obtain ⟨n, k⟩ := p
    obtain ⟨h1, h2, h3⟩ := hp _ List.mem_cons_self
    rw [List.length_cons, Nat.pow_succ] at hz
    rw [List.length_cons] at hcl
    have p1 : 1 ≤ 16 ^ ps.length := Nat.pow_pos (by decide)
    have hz1 : acc.length * 16 ≤ 100000 := Nat.le_trans (Nat.mul_le_mul_left _ (Nat.le_mul_of_pos_left _ p1)) hz
    have hlen := boxStep_len (p := (n, k)) h3 acc
    have hz2 : (boxStep acc (n, k)).length * 16 ^ ps.length ≤ 100000 := by
      refine Nat.le_trans (Nat.mul_le_mul_right _ hlen) ?_
      rw [Nat.mul_assoc, Nat.mul_comm 16]
      exact hz
    obtain ⟨x5', e1⟩ := box_in (G := G) (m := m) (x0 := x0) (q := q) (W := acc) h1 h2 h3 acc [] x5 hq (by simp only [List.length_nil]; omega) (fun vs h => by have := hc vs h; omega)
    obtain ⟨q', y2, y3, y4, y5, e, i1, i2, i3⟩ := box_out (x0 := x0) ps (boxStep acc (n, k)) m.length (c + 1) (some (.int n)) (some (.int k)) (some (.own m.length)) x5' (m ++ [.lst ((boxStep acc (n, k)).map iD)]) (fun p h => hp p (List.mem_cons_of_mem _ h)) (get_last _) hz2 (boxStep_vs hc) (by omega)
    refine ⟨q', y2, y3, y4, y5, [.lst ((boxStep acc (n, k)).map iD)] ++ e, ?_, by rw [← List.append_assoc]; exact i2, .inr (by
      rcases i3 with r | r
      · omega
      · rw [List.length_append] at r; simp only [List.length_cons, List.length_nil] at r; omega)⟩
    have z0 : (0 ≤ sizeLine) = True := by decide
    have hf : boxO G (iiD (n, k)) [x0, some (.own q), x2, x3, x4, x5, none] m = .ok (.nx [x0, some (.own m.length), some (.int n), some (.int k), some (.own m.length), x5', none]) (m ++ [.lst ((boxStep acc (n, k)).map iD)]) := by
      unfold boxO
      rw [show evG G (.tup [(.nm 2), (.nm 3)]) (iiD (n, k)) [x0, some (.own q), x2, x3, x4, x5, none] m = .ok [x0, some (.own q), some (.int n), some (.int k), x4, x5, none] m by simp only [iiD, evG, evGs, List.length_cons, List.length_nil, if_true, rs_ok, List.set_cons_succ, List.set_cons_zero], rs_ok]
      rw [evCs_nx (ρ' := [x0, some (.own q), some (.int n), some (.int k), some (.own m.length), x5, none]) (m' := m ++ [.lst []]) (by
        rw [evC, evE, evEs, rs_ok]
        simp only [List.length_nil, z0, if_true, rs_ok]
        rfl)]
      have hq2 : (m ++ [O.lst []])[q]? = some (.lst (acc.map iD)) := by rw [List.getElem?_append_left (List.getElem?_eq_some_iff.mp hq).1]; exact hq
      rw [evCs_nx (ρ' := [x0, some (.own q), some (.int n), some (.int k), some (.own m.length), x5', none]) (m' := m ++ [.lst ((boxStep acc (n, k)).map iD)]) (by
        rw [evC_for, evI_own (evE_var rfl) hq2, rs_ok]
        exact e1), evCs_nx (ρ' := [x0, some (.own m.length), some (.int n), some (.int k), some (.own m.length), x5', none]) (m' := m ++ [.lst ((boxStep acc (n, k)).map iD)]) (by
        rw [evC, evE_var (d := .own m.length) rfl, rs_ok]
        rfl), evCs]
    rw [List.map_cons]
    unfold forL
    rw [hf, rs_ok]
    dsimp only
    rw [if_pos (show okW [] _ = true from rfl), i1, List.append_assoc]
theorem boxof_ok (c : Cl) (h : ∀ p ∈ c.needs.zip c.keeps, (-1000 ≤ p.1 ∧ p.1 ≤ 900) ∧ (-1000 ≤ p.2 ∧ p.2 ≤ 900) ∧ (p.2 + 1 - p.1).toNat ≤ 16) (hk : (c.needs.zip c.keeps).length ≤ 3) : ∃ e, runF G 1 7 bBoxOf [claimD c] m = .ok (.lst ((boxL (c.needs.zip c.keeps)).map iD)) (m ++ e) := by
  have hp : 1 * 16 ^ (c.needs.zip c.keeps).length ≤ 100000 := by
    have : 16 ^ (c.needs.zip c.keeps).length ≤ 16 ^ 3 := Nat.pow_le_pow_right (by decide) hk
    omega
  obtain ⟨q', y2, y3, y4, y5, e, h1, h2, h3⟩ := box_out (G := G) (x0 := some (claimD c)) (c.needs.zip c.keeps) [[]] m.length 0 none none none none (m ++ [O.lst [D.tup []]]) h (get_last _) hp (fun vs hv => by rw [List.mem_singleton] at hv; subst hv; exact Nat.le_refl _) (by omega)
  have z0 : (0 ≤ sizeLine) = True := by decide
  have hq : m.length ≤ q' := by
    rcases h3 with r | r
    · omega
    · rw [List.length_append] at r; simp only [List.length_cons, List.length_nil] at r; omega
  refine ⟨([O.lst [D.tup []]] ++ e).set (q' - m.length) .dead, ?_⟩
  unfold runF bBoxOf
  refine (if_pos (by rfl)).trans ?_
  show (evCs G (_ :: _) [some (claimD c), none, none, none, none, none, none] m).bind _ = _
  rw [evCs_nx (ρ' := [some (claimD c), some (.own m.length), none, none, none, none, none]) (m' := m ++ [O.lst [D.tup []]]) (by
      rw [evC, evE, evEs, evE, evEs, rs_ok]
      simp only [List.length_nil, z0, if_true, rs_ok]
      rw [evEs, rs_ok, rs_ok]
      simp only [List.length_cons, List.length_nil, w_one, if_true, rs_ok]
      rfl),
    evCs_nx (ρ' := [some (claimD c), some (.own q'), y2, y3, y4, y5, none]) (m' := m ++ [O.lst [D.tup []]] ++ e) (by
      rw [evC_for, evI_zip (cl1 rfl) (cl0 rfl), rs_ok]
      dsimp only
      rw [zip_ii]
      exact h1),
    evCs_rt (d := .lst ((boxL (c.needs.zip c.keeps)).map iD)) (m' := (m ++ [O.lst [D.tup []]] ++ e).set q' .dead) (by
      rw [evC, frzD]
      dsimp only [List.getElem?_cons_succ, List.getElem?_cons_zero]
      rw [h2]
      dsimp only
      rw [frzD, rs_ok, evC, evE_var (d := .lst ((boxL (c.needs.zip c.keeps)).map iD)) rfl, rs_ok]), rs_ok]
  rw [List.append_assoc, List.set_append, if_neg (by omega)]
end
end Pm

set_option maxRecDepth 100000
set_option maxHeartbeats 1000000
/-! A row without one of its terms, by the law -/
namespace Pm
open PySem L2
def bWithout : List C := [(.asg (.tup [(.nm 1), (.nm 2)]) (.var 0)),
    (.asg (.nm 3) (.ext "repO" [(.lst [(.tup [(.con .non), (.var 2)])]), (.blt .int [(.cmp .IsNot (.var 1) (.con .non))])])),
    (.for (.tup [(.nm 4), (.nm 5)]) (.enu (.var 2)) [(.ife (.cmp .IsNot (.var 5) (.con .non)) [(.expr (.bm (.var 3) .append [(.tup [(.var 1), (.bin .Add (.bin .Add (.slc (.var 2) none (some (.var 4))) (.tup [(.con .non)])) (.slc (.var 2) (some (.bin .Add (.var 4) (.con (.int 1)))) none))])]))] [])]),
    (.ret (.lc false (.nm 5) (.val (.var 3)) (some (.or (.cmp .IsNot (.idx (.var 5) (.con (.int 0))) (.con .non)) (.cmp .NotEq (.lc false (.nm 6) (.val (.idx (.var 5) (.con (.int 1)))) (some (.cmp .IsNot (.var 6) (.con .non))) (.var 6) [6]) (.lst [])))) (.var 5) [5]))]
abbrev Rw := Option Int × Ls
/-- the rows without one term, in order -/
def wo0 (r : Rw) : List Rw := if r.1 = none then [] else [(none, r.2)]
def wo1 (r : Rw) (ks : List Nat) : List Rw := ks.filterMap fun k => match r.2[k]? with
  | some (some _) => some (r.1, r.2.set k none)
  | _ => none
def tells (r : Rw) : Bool := r.1.isSome || !(r.2.filter Option.isSome).isEmpty
def wol (r : Rw) : List Rw := (wo0 r ++ wo1 r (List.range r.2.length)).filter tells
section
variable {G : Gm} {m : Mu}
theorem cut_lo (xs : List D) (k : Nat) (h : k ≤ xs.length) : cutD xs none (some (k : Int)) = xs.take k := by
  unfold cutD
  rw [HT.sIx_nat, HT.sIx_none, List.drop_zero, Nat.sub_zero, Nat.min_eq_left h]
theorem cut_hi (xs : List D) (k : Nat) (h : k ≤ xs.length) : cutD xs (some (k : Int)) none = xs.drop k := by
  unfold cutD
  rw [HT.sIx_nat, HT.sIx_none, Nat.min_eq_left h, List.take_of_length_le]
  rw [List.length_drop]
  exact Nat.le_refl _
theorem set_cut (ls : Ls) (k : Nat) (h : k < ls.length) : (ls.map tm).take k ++ [D.non] ++ (ls.map tm).drop (k + 1) = (ls.set k none).map tm := by
  rw [List.set_eq_take_append_cons_drop, if_pos h, List.map_append, List.map_cons, List.map_take, List.map_drop, List.append_assoc]
  rfl
/-- the row without its term at k -/
theorem wo_row {x0 x3 x6 : Option D} {l : Option Int} {ls : Ls} {k : Nat} {o : Option Int} (hk : k < ls.length) (hl : ls.length ≤ 3) : evE G (.tup [(.var 1), (.bin .Add (.bin .Add (.slc (.var 2) none (some (.var 4))) (.tup [(.con .non)])) (.slc (.var 2) (some (.bin .Add (.var 4) (.con (.int 1)))) none))]) [x0, some (tm l), some (.tup (ls.map tm)), x3, some (.int (k : Nat)), some (tm o), x6] m = .ok (rowD (l, ls.set k none)) m := by
  have big : 100 ≤ sizeLine := by decide
  have c1 : slcD m (.tup (ls.map tm)) none (some (k : Int)) = some (.tup ((ls.map tm).take k)) := by unfold slcD; dsimp only; rw [cut_lo _ _ (by rw [List.length_map]; omega)]
  have c2 : slcD m (.tup (ls.map tm)) (some ((k : Int) + 1)) none = some (.tup ((ls.map tm).drop (k + 1))) := by
    unfold slcD; dsimp only
    rw [show ((k : Int) + 1) = ((k + 1 : Nat) : Int) by omega, cut_hi _ _ (by rw [List.length_map]; omega)]
  have a1 : opD G .Add (.tup ((ls.map tm).take k)) (.tup [.non]) m = .ok (.tup ((ls.map tm).take k ++ [.non])) m := by
    unfold opD binD binT
    dsimp only
    rw [if_pos (by rw [List.length_take, List.length_map]; simp only [List.length_cons, List.length_nil]; omega)]
  have a2 : opD G .Add (.tup ((ls.map tm).take k ++ [.non])) (.tup ((ls.map tm).drop (k + 1))) m = .ok (.tup ((ls.set k none).map tm)) m := by
    unfold opD binD binT
    dsimp only
    rw [if_pos (by rw [List.length_append, List.length_take, List.length_drop, List.length_map]; simp only [List.length_cons, List.length_nil]; omega), set_cut ls k hk]
  have s1 : evE G (.slc (.var 2) none (some (.var 4))) [x0, some (tm l), some (.tup (ls.map tm)), x3, some (.int (k : Nat)), some (tm o), x6] m = .ok (.tup ((ls.map tm).take k)) m := by
    rw [evE, evE_var (d := .tup (ls.map tm)) rfl, rs_ok, evO, rs_ok, evO, evE_var (d := .int (k : Nat)) rfl, rs_ok]
    dsimp only
    rw [rs_ok, c1, liftO]
  have s2 : evE G (.slc (.var 2) (some (.bin .Add (.var 4) (.con (.int 1)))) none) [x0, some (tm l), some (.tup (ls.map tm)), x3, some (.int (k : Nat)), some (tm o), x6] m = .ok (.tup ((ls.map tm).drop (k + 1))) m := by
    rw [evE, evE_var (d := .tup (ls.map tm)) rfl, rs_ok, evO, evE, evE_var (d := .int (k : Nat)) rfl, rs_ok, evE, rs_ok, opD_add, rs_ok]
    dsimp only
    rw [rs_ok, evO, rs_ok, c2, liftO]
  have t1 : evE G (.tup [(.con .non)]) [x0, some (tm l), some (.tup (ls.map tm)), x3, some (.int (k : Nat)), some (tm o), x6] m = .ok (.tup [.non]) m := by
    rw [evE, evEs, evE, rs_ok, evEs, rs_ok, rs_ok]
    simp only [List.length_cons, List.length_nil, w_one, if_true]
  rw [evE, evEs, evE_var (d := tm l) rfl, rs_ok, evEs, evE, evE, s1, rs_ok, t1, rs_ok, a1, rs_ok, s2, rs_ok, a2, rs_ok, evEs, rs_ok, rs_ok, rs_ok]
  simp only [List.length_cons, List.length_nil, w_two, if_true]
  rfl
def woF (G : Gm) (d : D) (ρ : Env) (m : Mu) : Rs Fl := (evG G (.tup [(.nm 4), (.nm 5)]) d ρ m).bind fun ρ m => evCs G [(.ife (.cmp .IsNot (.var 5) (.con .non)) [(.expr (.bm (.var 3) .append [(.tup [(.var 1), (.bin .Add (.bin .Add (.slc (.var 2) none (some (.var 4))) (.tup [(.con .non)])) (.slc (.var 2) (some (.bin .Add (.var 4) (.con (.int 1)))) none))])]))] [])] ρ m
theorem wo1_cons (r : Rw) (k : Nat) (ks : List Nat) : wo1 r (k :: ks) = wo1 r [k] ++ wo1 r ks := by
  show wo1 r ([k] ++ ks) = _
  unfold wo1
  exact List.filterMap_append
theorem wo1_len (r : Rw) (ks : List Nat) : (wo1 r ks).length ≤ ks.length := List.length_filterMap_le _ _
theorem wo_loop {x0 x6 : Option D} {l : Option Int} {ls : Ls} (hl : ls.length ≤ 3) : ∀ (ks : List Nat) (L : List Rw) (x4 x5 : Option D), (∀ k ∈ ks, k < ls.length) → L.length + ks.length ≤ 100 →
    ∃ y4 y5, forL [] (woF G) (ks.map fun (k : Nat) => D.tup [.int (k : Nat), tm (ls.getD k none)]) [x0, some (tm l), some (.tup (ls.map tm)), some (.own m.length), x4, x5, x6] (m ++ [.lst (L.map rowD)]) = .ok (.nx [x0, some (tm l), some (.tup (ls.map tm)), some (.own m.length), y4, y5, x6]) (m ++ [.lst ((L ++ wo1 (l, ls) ks).map rowD)])
  | [], L, x4, x5, _, _ => ⟨x4, x5, by unfold forL wo1; simp⟩
  | k :: ks, L, x4, x5, hk, hz => by
    have big : 1000 ≤ sizeLine := by decide
    have hk0 : k < ls.length := hk k List.mem_cons_self
    rw [List.length_cons] at hz
    have w1 : (wo1 (l, ls) [k]).length ≤ 1 := wo1_len _ _
    obtain ⟨y4, y5, ih⟩ := wo_loop (x0 := x0) (x6 := x6) (l := l) hl ks (L ++ wo1 (l, ls) [k]) (some (.int (k : Nat))) (some (tm (ls.getD k none))) (fun j h => hk j (List.mem_cons_of_mem _ h)) (by rw [List.length_append]; omega)
    refine ⟨y4, y5, ?_⟩
    have hf : woF G (.tup [.int (k : Nat), tm (ls.getD k none)]) [x0, some (tm l), some (.tup (ls.map tm)), some (.own m.length), x4, x5, x6] (m ++ [.lst (L.map rowD)]) = .ok (.nx [x0, some (tm l), some (.tup (ls.map tm)), some (.own m.length), some (.int (k : Nat)), some (tm (ls.getD k none)), x6]) (m ++ [.lst ((L ++ wo1 (l, ls) [k]).map rowD)]) := by
      unfold woF
      rw [show evG G (.tup [(.nm 4), (.nm 5)]) (.tup [.int (k : Nat), tm (ls.getD k none)]) [x0, some (tm l), some (.tup (ls.map tm)), some (.own m.length), x4, x5, x6] (m ++ [.lst (L.map rowD)]) = .ok [x0, some (tm l), some (.tup (ls.map tm)), some (.own m.length), some (.int (k : Nat)), some (tm (ls.getD k none)), x6] (m ++ [.lst (L.map rowD)]) by simp only [evG, evGs, List.length_cons, List.length_nil, if_true, rs_ok, List.set_cons_succ, List.set_cons_zero], rs_ok, evCs_one, evC, evE, evE_var (d := tm (ls.getD k none)) rfl, rs_ok, evE, rs_ok, cmD_isNot, rs_ok]
      have hg : ls[k]? = some ls[k] := List.getElem?_eq_getElem hk0
      have hgd : ls.getD k none = ls[k] := by rw [List.getD_eq_getElem?_getD, hg]; rfl
      rw [hgd]
      cases ho : ls[k] with
      | none =>
        have : wo1 (l, ls) [k] = [] := by unfold wo1; rw [List.filterMap_cons]; dsimp only; rw [hg, ho]; rfl
        rw [this, List.append_nil]
        simp only [tm_isNon, Option.isNone_none, Bool.not_true]
        rw [evCs]
      | some v =>
        have hw : wo1 (l, ls) [k] = [(l, ls.set k none)] := by unfold wo1; rw [List.filterMap_cons]; dsimp only; rw [hg, ho]; rfl
        have hlk : lookT (m ++ [.lst (L.map rowD)]) (.own m.length) = some (L.map rowD) := by unfold lookT; simp only [get_last]
        have hx : mtD .append (.own m.length) [rowD (l, ls.set k none)] (m ++ [.lst (L.map rowD)]) = .ok .non (m ++ [.lst ((L ++ [(l, ls.set k none)]).map rowD)]) := by
          have hs : (L.map rowD).length < sizeLine := by rw [List.length_map]; omega
          unfold mtD
          simp only [get_last, hs, if_true, set_last]
          rw [List.map_append]
          rfl
        rw [hw]
        simp only [tm_isNon, Option.isNone_some, Bool.not_false]
        have hr := wo_row (G := G) (m := m ++ [.lst (L.map rowD)]) (x0 := x0) (x3 := some (.own m.length)) (x6 := x6) (l := l) (o := some v) hk0 hl
        rw [evCs_one, evC, evE, evE_var (d := .own m.length) rfl, rs_ok, hlk]
        dsimp only
        rw [evEs, hr, rs_ok, evEs, rs_ok, rs_ok, hx, rs_ok]
    rw [List.map_cons]
    unfold forL
    rw [hf, rs_ok]
    dsimp only
    rw [if_pos (show okW [] _ = true from rfl), ih, List.append_assoc, ← wo1_cons]
theorem enu_rows (ls : Ls) : (List.range (ls.map tm).length).zipWith (fun (i : Nat) x => D.tup [.int (i : Nat), x]) (ls.map tm) = (List.range ls.length).map fun (k : Nat) => D.tup [.int (k : Nat), tm (ls.getD k none)] := by
  apply List.ext_getElem?
  intro i
  rw [List.getElem?_zipWith, List.getElem?_map, List.getElem?_map, List.length_map]
  by_cases hi : i < ls.length
  · rw [List.getElem?_range hi, List.getElem?_eq_getElem hi]
    simp [List.getD_eq_getElem?_getD, List.getElem?_eq_getElem hi]
  · rw [List.getElem?_eq_none (by rw [List.length_range]; omega)]
    rfl
theorem tup_nil (ls : Ls) : (ls.map tm).filterMap (fun d => if d.isNon then none else some d) = (ls.filter Option.isSome).map tm := filt ls
theorem without_ok (hx : G.xt "repO" = some repO) (r : Rw) (hl : r.2.length ≤ 3) : ∃ e, runF G 1 7 bWithout [rowD r] m = .ok (.lst ((wol r).map rowD)) (m ++ e) := by
  obtain ⟨l, ls⟩ := r
  have hl : ls.length ≤ 3 := hl
  have big : 1000 ≤ sizeLine := by decide
  have r0 : ∀ b : Bool, bltD G .int [.bl b] m = .ok (.int (if b then 1 else 0)) m := fun b => rfl
  have rp : repO [.lst [.tup [.non, .tup (ls.map tm)]], .int (if (!(tm l).isNon) then 1 else 0)] m = .ok (.own m.length) (m ++ [.lst ((wo0 (l, ls)).map rowD)]) := by
    cases l with
    | none =>
      show repO [.lst [.tup [.non, .tup (ls.map tm)]], .int 0] m = _
      unfold repO
      dsimp only [lookT]
      rw [if_pos (by simp)]
      rfl
    | some v =>
      show repO [.lst [.tup [.non, .tup (ls.map tm)]], .int 1] m = _
      unfold repO
      dsimp only [lookT]
      rw [if_pos (by simp; omega)]
      rfl
  have w0 : (wo0 (l, ls)).length ≤ 1 := by unfold wo0; split <;> simp
  obtain ⟨y4, y5, h1⟩ := wo_loop (G := G) (m := m) (x0 := some (rowD (l, ls))) (x6 := none) (l := l) hl (List.range ls.length) (wo0 (l, ls)) none none (fun k hk => List.mem_range.mp hk) (by rw [List.length_range]; omega)
  have hlst : (m ++ [O.lst ((wo0 (l, ls) ++ wo1 (l, ls) (List.range ls.length)).map rowD)])[m.length]? = some (.lst ((wo0 (l, ls) ++ wo1 (l, ls) (List.range ls.length)).map rowD)) := get_last _
  refine ⟨[.lst ((wo0 (l, ls) ++ wo1 (l, ls) (List.range ls.length)).map rowD)], ?_⟩
  unfold runF bWithout
  refine (if_pos (by rfl)).trans ?_
  show (evCs G (_ :: _) [some (rowD (l, ls)), none, none, none, none, none, none] m).bind _ = _
  rw [evCs_nx (ρ' := [some (rowD (l, ls)), some (tm l), some (.tup (ls.map tm)), none, none, none, none]) (m' := m) (by
      rw [evC, evE_var (d := rowD (l, ls)) rfl, rs_ok]
      unfold rowD
      simp only [evG, evGs, List.length_cons, List.length_nil, if_true, rs_ok, List.set_cons_succ, List.set_cons_zero]),
    evCs_nx (ρ' := [some (rowD (l, ls)), some (tm l), some (.tup (ls.map tm)), some (.own m.length), none, none, none]) (m' := m ++ [.lst ((wo0 (l, ls)).map rowD)]) (by
      rw [evC, evE, hx]
      dsimp only
      rw [evEs, evE, evEs, evE, evEs, evE, rs_ok, evEs, evE_var (d := .tup (ls.map tm)) rfl, rs_ok, evEs, rs_ok, rs_ok, rs_ok]
      simp only [List.length_cons, List.length_nil, w_two, if_true, rs_ok]
      rw [evEs, rs_ok, rs_ok]
      simp only [List.length_cons, List.length_nil, w_one, if_true, rs_ok]
      rw [evEs, evE, evEs, evE, evE_var (d := tm l) rfl, rs_ok, evE, rs_ok, cmD_isNot, rs_ok, evEs, rs_ok, rs_ok, r0, rs_ok, evEs, rs_ok, rs_ok, rs_ok, rp, rs_ok]
      rfl),
    evCs_nx (ρ' := [some (rowD (l, ls)), some (tm l), some (.tup (ls.map tm)), some (.own m.length), y4, y5, none]) (m' := m ++ [.lst ((wo0 (l, ls) ++ wo1 (l, ls) (List.range ls.length)).map rowD)]) (by
      rw [evC_for, evI_enuW (xs := ls.map tm) (w := []) (x := .tup (ls.map tm)) (evE_var rfl) rfl, rs_ok]
      dsimp only
      rw [enu_rows]
      exact h1)]
  have lc := lc_src (G := G) (m := m ++ [O.lst ((wo0 (l, ls) ++ wo1 (l, ls) (List.range ls.length)).map rowD)]) (ρ := [some (rowD (l, ls)), some (tm l), some (.tup (ls.map tm)), some (.own m.length), y4, y5, none]) (w := [(m.length, (wo0 (l, ls) ++ wo1 (l, ls) (List.range ls.length)).map rowD)]) (g := .nm 5) (it := .val (.var 3)) (c := some (.or (.cmp .IsNot (.idx (.var 5) (.con (.int 0))) (.con .non)) (.cmp .NotEq (.lc false (.nm 6) (.val (.idx (.var 5) (.con (.int 1)))) (some (.cmp .IsNot (.var 6) (.con .non))) (.var 6) [6]) (.lst [])))) (elt := .var 5) (ws := [5]) (wo0 (l, ls) ++ wo1 (l, ls) (List.range ls.length)) rowD (fun r => if tells r then some (rowD r) else none)
    (evI_own (evE_var rfl) hlst) (okW_at hlst) (by
      have := wo1_len (l, ls) (List.range ls.length)
      rw [List.length_range] at this
      rw [List.length_append]; omega) fun a ha => by
    have hal : a.2.length ≤ 3 := by
      rcases List.mem_append.mp ha with q | q
      · unfold wo0 at q
        split at q
        · exact absurd q List.not_mem_nil
        · rw [List.mem_singleton] at q; subst q; exact hl
      · unfold wo1 at q
        rw [List.mem_filterMap] at q
        obtain ⟨k, _, hk⟩ := q
        split at hk
        · cases hk; rw [List.length_set]; exact hl
        · cases hk
    obtain ⟨al, als⟩ := a
    have hal : als.length ≤ 3 := hal
    have z0 : (0 ≤ sizeLine) = True := by decide
    unfold lcT
    rw [show evG G (.nm 5) (rowD (al, als)) (wipeD [some (rowD (l, ls)), some (tm l), some (.tup (ls.map tm)), some (.own m.length), y4, y5, none] [5]) (m ++ [O.lst ((wo0 (l, ls) ++ wo1 (l, ls) (List.range ls.length)).map rowD)]) = .ok [some (rowD (l, ls)), some (tm l), some (.tup (ls.map tm)), some (.own m.length), y4, some (rowD (al, als)), none] (m ++ [O.lst ((wo0 (l, ls) ++ wo1 (l, ls) (List.range ls.length)).map rowD)]) from rfl, rs_ok, evT, evE, evE, evE, evE_var (d := rowD (al, als)) rfl, rs_ok, evE, rs_ok, ri0, rs_ok, evE, rs_ok, cmD_isNot, rs_ok]
    cases al with
    | some v =>
      simp only [tm_isNon, Option.isNone_some, Bool.not_false]
      rw [rs_ok]
      simp only [rs_ok, if_true, evE_var (ρ := [some (rowD (l, ls)), some (tm l), some (.tup (ls.map tm)), some (.own m.length), y4, some (rowD (some v, als)), none]) (i := 5) (d := rowD (some v, als)) rfl]
      rfl
    | none =>
      simp only [tm_isNon, Option.isNone_none, Bool.not_true]
      have hin : evE G (.lc false (.nm 6) (.val (.idx (.var 5) (.con (.int 1)))) (some (.cmp .IsNot (.var 6) (.con .non))) (.var 6) [6]) [some (rowD (l, ls)), some (tm l), some (.tup (ls.map tm)), some (.own m.length), y4, some (rowD (none, als)), none] (m ++ [O.lst ((wo0 (l, ls) ++ wo1 (l, ls) (List.range ls.length)).map rowD)]) = .ok (.lst ((als.filter Option.isSome).map tm)) (m ++ [O.lst ((wo0 (l, ls) ++ wo1 (l, ls) (List.range ls.length)).map rowD)]) := by
        rw [← tup_nil]
        exact lc_pure _ (evI_tup (ds := als.map tm) (by rw [evE, evE_var (d := rowD (none, als)) rfl, rs_ok, evE, rs_ok, ri1])) rfl (by rw [List.length_map]; omega) fun d hd => by
          unfold lcT
          rw [show evG G (.nm 6) d (wipeD [some (rowD (l, ls)), some (tm l), some (.tup (ls.map tm)), some (.own m.length), y4, some (rowD (none, als)), none] [6]) (m ++ [O.lst ((wo0 (l, ls) ++ wo1 (l, ls) (List.range ls.length)).map rowD)]) = .ok [some (rowD (l, ls)), some (tm l), some (.tup (ls.map tm)), some (.own m.length), y4, some (rowD (none, als)), some d] (m ++ [O.lst ((wo0 (l, ls) ++ wo1 (l, ls) (List.range ls.length)).map rowD)]) from rfl, rs_ok, evT, evE, evE_var (d := d) rfl, rs_ok, evE, rs_ok, cmD_isNot, rs_ok]
          cases d.isNon with
          | true => rfl
          | false =>
            simp only [Bool.not_false, rs_ok, if_true, Bool.false_eq_true, if_false]
            rw [evE_var (d := d) rfl, rs_ok]
      have hne : cmD G .NotEq (.lst ((als.filter Option.isSome).map tm)) (.lst []) (m ++ [O.lst ((wo0 (l, ls) ++ wo1 (l, ls) (List.range ls.length)).map rowD)]) = .ok (.bl (!(als.filter Option.isSome).isEmpty)) (m ++ [O.lst ((wo0 (l, ls) ++ wo1 (l, ls) (List.range ls.length)).map rowD)]) := by
        rw [cmD_ne (b := .lst []) (y := .list (([] : Ls).map tmP)) (lst_py _) rfl (lst_shaped _) (lst_shaped [])]
        rw [show PyData.eqv (.list ((als.filter Option.isSome).map tmP)) (.list (([] : Ls).map tmP)) = PyData.eqvAll ((als.filter Option.isSome).map tmP) (([] : Ls).map tmP) by simp [PyData.eqv], tms_eqv]
        cases als.filter Option.isSome <;> rfl
      rw [evE, hin, rs_ok, evE, evEs, rs_ok]
      simp only [List.length_nil, z0, if_true, rs_ok]
      rw [hne, rs_ok]
      show (Rs.ok (!(als.filter Option.isSome).isEmpty) _).bind _ = _
      rw [rs_ok]
      have ht : tells (none, als) = !(als.filter Option.isSome).isEmpty := rfl
      rw [ht]
      cases (als.filter Option.isSome).isEmpty with
      | true => rfl
      | false =>
        simp only [Bool.not_false, if_true]
        rw [evE_var (d := rowD (none, als)) rfl, rs_ok]
  rw [evCs_rt (by rw [evC, lc, rs_ok]), rs_ok]
  show Rs.ok (D.lst (List.filterMap (fun r => if tells r = true then some (rowD r) else none) (wo0 (l, ls) ++ wo1 (l, ls) (List.range ls.length)))) _ = _
  congr 2
  show _ = List.map rowD (List.filter tells (wo0 (l, ls) ++ wo1 (l, ls) (List.range ls.length)))
  generalize wo0 (l, ls) ++ wo1 (l, ls) (List.range ls.length) = L
  induction L with
  | nil => rfl
  | cons a L ih =>
    rw [List.filterMap_cons, List.filter_cons, ih]
    cases tells a <;> rfl
end
end Pm

set_option maxRecDepth 100000
set_option maxHeartbeats 400000
/-! k28: what a plain row shows, and what it shows without a term -/
namespace Pm
open PySem L2
variable {keeps needs : List Int} {r p : Rw}
theorem lk_range {ls : Ls} {k : Nat} {x : Int} (h : ls[k]? = some (some x)) : k ∈ List.range ls.length := List.mem_range.mpr (List.getElem?_eq_some_iff.mp h).1
theorem some_of_filter {ls : Ls} (h : (ls.filter Option.isSome).isEmpty = false) : ∃ (k : Nat) (x : Int), ls[k]? = some (some x) := by
  rw [List.isEmpty_eq_false_iff_exists_mem] at h
  obtain ⟨o, ho⟩ := h
  rw [List.mem_filter] at ho
  obtain ⟨h1, h2⟩ := ho
  cases o with
  | none => cases h2
  | some x =>
    obtain ⟨k, hk⟩ := List.mem_iff_getElem?.mp h1
    exact ⟨k, x, hk⟩
/-- a row that tells anything has a term -/
theorem tells_ne {vs : List Int} {l : Option Int} {ls : Ls} (hl : ls.length = vs.length) (h : tells (l, ls) = true) : allT vs l ls ≠ [] := by
  unfold tells at h
  rw [Bool.or_eq_true] at h
  rcases h with h | h
  · cases l with
    | none => cases h
    | some x => exact fun z => by have : x ∈ allT vs (some x) ls := mem_allT.mpr (.inr rfl); rw [z] at this; exact absurd this List.not_mem_nil
  · rw [Bool.not_eq_true'] at h
    obtain ⟨k, x, hk⟩ := some_of_filter h
    have hk1 : k < vs.length := by rw [← hl]; exact (List.getElem?_eq_some_iff.mp hk).1
    have : vs[k] - x ∈ allT vs l ls := mem_allT.mpr (.inl ⟨k, by unfold tmAt; rw [List.getElem?_eq_getElem hk1, hk]⟩)
    exact fun z => by rw [z] at this; exact absurd this List.not_mem_nil
theorem ne_tells {vs : List Int} {l : Option Int} {ls : Ls} (h : allT vs l ls ≠ []) : tells (l, ls) = true := by
  obtain ⟨t, ht⟩ := List.exists_mem_of_ne_nil _ h
  rw [mem_allT] at ht
  unfold tells
  rcases ht with ⟨k, hk⟩ | hl
  · unfold tmAt at hk
    split at hk
    · rename_i v x h1 h2
      have hm : some x ∈ ls.filter Option.isSome := List.mem_filter.mpr ⟨List.mem_of_getElem? h2, rfl⟩
      have : (ls.filter Option.isSome).isEmpty = false := List.isEmpty_eq_false_iff_exists_mem.mpr ⟨_, hm⟩
      rw [this]
      simp
    · cases hk
  · rw [hl]; rfl
/-- each row without a term, by the law's list, has lives that tell it from the row -/
theorem wol_shows (P : PlainOk keeps needs p) (B : InBox needs keeps keeps) (hl : p.2.length = keeps.length) {q : Rw} (hq : q ∈ wol p) : q.2.length = keeps.length ∧ tells q = true ∧ ∃ vs, InBox needs keeps vs ∧ seenV (some q) vs ≠ seenV (some p) vs := by
  unfold wol at hq
  rw [List.mem_filter] at hq
  obtain ⟨hq, ht⟩ := hq
  rcases List.mem_append.mp hq with h | h
  · unfold wo0 at h
    split at h
    · exact absurd h List.not_mem_nil
    · rename_i hne
      rw [List.mem_singleton] at h
      subst h
      obtain ⟨x, hx⟩ := Option.ne_none_iff_exists'.mp hne
      exact ⟨hl, ht, keeps, B, without_left P hx (tells_ne hl ht)⟩
  · unfold wo1 at h
    rw [List.mem_filterMap] at h
    obtain ⟨k, hk, e⟩ := h
    split at e
    · rename_i x hx
      cases e
      have hk1 : k < needs.length := by rw [B.ln, ← hl]; exact (List.getElem?_eq_some_iff.mp hx).1
      have hn : needs[k]? = some needs[k] := List.getElem?_eq_getElem hk1
      exact ⟨by rw [List.length_set]; exact hl, ht, keeps.set k needs[k], box_at B hn, without_lost P B hn hx (tells_ne (by rw [List.length_set]; exact hl) ht)⟩
    · cases e
/-- a plain row shows what the row shows -/
theorem seen_same (h : plainRow keeps needs r = some p) (h61 : ∀ k t, tmAt needs r.2 k = some t → t < 61) {vs : List Int} (B : InBox needs keeps vs) : seenV (some p) vs = seenV (some r) vs := by
  unfold seenV
  dsimp only
  rw [plain_bnd h B h61]
theorem seen_none (h : plainRow keeps needs r = none) {vs : List Int} (B : InBox needs keeps vs) : seenV (some r) vs = 0 := by
  unfold seenV
  have := plain_none h B
  show max 0 (bnd vs r.1 r.2) = 0
  omega
theorem seen_keeps (h : plainRow keeps needs r = some p) (B : InBox needs keeps keeps) : 1 ≤ seenV (some r) keeps := by
  have := plain_some h B
  show 1 ≤ max 0 (bnd keeps r.1 r.2)
  omega
theorem plain_rlen (h : plainRow keeps needs r = some p) : p.2.length = r.2.length := by
  unfold plainRow at h
  dsimp only at h
  split at h
  · cases h
  · cases h
    exact drops_len.trans ones_len
theorem plainC_okN {c : Cl} (h : ClOk c) (hv : nvC c = true) : ClOk (plainC c) := by
  have e : plainC c = neverC c.keeps c.rows.length := by unfold plainC; rw [hv]; rfl
  rw [e]
  exact ⟨h.lk, by show (List.replicate c.keeps.length (61 : Int)).length = _; rw [List.length_replicate]; rfl, fun r hr => (nomatch List.eq_of_mem_replicate (show some r ∈ List.replicate c.rows.length none from hr)), by show (List.replicate c.rows.length (none : Option Rw)).length ≤ 1000; rw [List.length_replicate]; exact h.lr⟩
/-- a plain claim is in order -/
theorem plainC_ok {c : Cl} (h : ClOk2 c) : ClOk (plainC c) := by
  cases hv : nvC c with
  | true => exact plainC_okN h.ok hv
  | false =>
    have e : plainC c = ⟨c.keeps, c.needs, min c.took 60, rowsP c, false⟩ := by unfold plainC; rw [hv]; rfl
    have B := not_never hv h.ok.ln
    rw [e]
    refine ⟨h.ok.lk, h.ok.ln, fun p hp => ?_, by show (rowsP c).length ≤ 1000; unfold rowsP; rw [List.length_map]; exact h.ok.lr⟩
    have hp : some p ∈ rowsP c := hp
    unfold rowsP at hp
    rw [List.mem_map] at hp
    obtain ⟨o, ho, hp⟩ := hp
    cases o with
    | none => cases hp
    | some r =>
      have hp : plainRow c.keeps c.needs r = some p := hp
      have P := plain_ok hp B (h.t61 r ho)
      refine ⟨(plain_rlen hp).trans (h.ok.row r ho).1, fun z => ?_⟩
      have h1 := P.one
      rw [bnd_def, z] at h1
      exact absurd h1 (by decide)
end Pm

set_option maxRecDepth 100000
set_option maxHeartbeats 1000000
/-! A plain row shows the same, and nothing too many, by the law -/
namespace Pm
open PySem L2
def bShows : List C := [(.asg (.nm 3) (.fn "_law_box_of" [(.var 0)])),
    (.asg (.nm 4) (.fn "_law_seen" [(.var 1), (.var 3)])),
    (.ife (.or (.cmp .Is (.var 2) (.con .non)) (.cmp .Eq (.blt .max [(.bin .Add (.var 4) (.lst [(.con (.int 0))]))]) (.con (.int 0)))) [(.ret (.and (.cmp .Is (.var 2) (.con .non)) (.cmp .Eq (.blt .max [(.bin .Add (.var 4) (.lst [(.con (.int 0))]))]) (.con (.int 0)))))] []),
    (.ife (.or (.cmp .NotEq (.fn "_law_seen" [(.var 2), (.var 3)]) (.var 4)) (.cmp .NotEq (.lc false (.nm 5) (.val (.fn "_law_without" [(.var 2)])) (some (.cmp .Eq (.fn "_law_seen" [(.var 5), (.var 3)]) (.var 4))) (.con (.int 1)) [5]) (.lst []))) [(.ret (.con (.bl false)))] []),
    (.ret (.cmp .Eq (.lc false (.tup [(.nm 6), (.nm 7), (.nm 8)]) (.ext "zip3" [(.idx (.var 0) (.con (.int 1))), (.idx (.var 0) (.con (.int 0))), (.idx (.var 2) (.con (.int 1)))]) (some (.and (.cmp .IsNot (.var 8) (.con .non)) (.cmp .Eq (.var 6) (.var 7)))) (.con (.int 1)) [6, 7, 8]) (.lst [])))]
theorem maxL_ge : ∀ {l : List Int} {m : Int}, maxL l = some m → m ∈ l ∧ ∀ x ∈ l, x ≤ m
  | [], _, h => by cases h
  | i :: r, m, h => by
    unfold maxL at h
    cases e : maxL r with
    | none =>
      rw [e] at h
      cases h
      have hr : r = [] := by
        cases r with
        | nil => rfl
        | cons a b =>
          unfold maxL at e
          cases e2 : maxL b <;> rw [e2] at e <;> cases e
      subst hr
      exact ⟨List.mem_cons_self, fun x hx => by simp at hx; omega⟩
    | some j =>
      rw [e] at h
      cases h
      obtain ⟨h1, h2⟩ := maxL_ge e
      by_cases c : i < j
      · rw [if_pos c]
        exact ⟨List.mem_cons_of_mem _ h1, fun x hx => by
          rcases List.mem_cons.mp hx with rfl | hx
          · omega
          · exact h2 x hx⟩
      · rw [if_neg c]
        exact ⟨List.mem_cons_self, fun x hx => by
          rcases List.mem_cons.mp hx with rfl | hx
          · omega
          · have := h2 x hx; omega⟩
theorem maxL_app (l : List Int) : ∃ m, maxL (l ++ [0]) = some m ∧ ((∀ x ∈ l, x = 0) → m = 0) ∧ (∀ x ∈ l, 1 ≤ x → 1 ≤ m) := by
  have : ∃ m, maxL (l ++ [0]) = some m := by
    cases l with
    | nil => exact ⟨0, rfl⟩
    | cons a b =>
      rw [List.cons_append]
      unfold maxL
      cases maxL (b ++ [0]) <;> exact ⟨_, rfl⟩
  obtain ⟨m, e⟩ := this
  obtain ⟨h1, h2⟩ := maxL_ge e
  refine ⟨m, e, fun h => ?_, fun x hx h => by have := h2 x (List.mem_append_left _ hx); omega⟩
  rcases List.mem_append.mp h1 with q | q
  · exact h m q
  · exact List.mem_singleton.mp q
section
variable {G Gx Gs Gb Gw : Gm} {m : Mu}
theorem il_tm (l : List Int) : D.lst (l.map .int) = .lst ((l.map some).map tm) := by
  rw [List.map_map]
  rfl
theorem il_dec (a b : List Int) : decide (a.map some = b.map some) = decide (a = b) := by
  by_cases h : a = b
  · rw [h, decide_eq_true rfl, decide_eq_true rfl]
  · rw [decide_eq_false h, decide_eq_false]
    intro z
    exact h (List.map_inj_right (fun _ _ e => Option.some.inj e) |>.mp z)
theorem il_eq (a b : List Int) : cmD G .Eq (.lst (a.map .int)) (.lst (b.map .int)) m = .ok (.bl (decide (a = b))) m := by
  rw [il_tm, il_tm, cmD_eq (lst_py _) (lst_py _) (lst_shaped _) (lst_shaped _)]
  rw [show PyData.eqv (.list ((a.map some).map tmP)) (.list ((b.map some).map tmP)) = PyData.eqvAll ((a.map some).map tmP) ((b.map some).map tmP) by simp [PyData.eqv], tms_eqv, il_dec]
theorem il_ne (a b : List Int) : cmD G .NotEq (.lst (a.map .int)) (.lst (b.map .int)) m = .ok (.bl (!decide (a = b))) m := by
  rw [il_tm, il_tm, cmD_ne (lst_py _) (lst_py _) (lst_shaped _) (lst_shaped _)]
  rw [show PyData.eqv (.list ((a.map some).map tmP)) (.list ((b.map some).map tmP)) = PyData.eqvAll ((a.map some).map tmP) ((b.map some).map tmP) by simp [PyData.eqv], tms_eqv, il_dec]
theorem max_zero {ρ : Env} {i : Nat} {l : List Int} (h : ρ[i]? = some (some (.lst (l.map .int)))) (hz : l.length ≤ 100000) : ∃ b : Bool, evE G (.cmp .Eq (.blt .max [(.bin .Add (.var i) (.lst [(.con (.int 0))]))]) (.con (.int 0))) ρ m = .ok (.bl b) m ∧ ((∀ x ∈ l, x = 0) → b = true) ∧ (∀ x ∈ l, 1 ≤ x → b = false) := by
  obtain ⟨v, e, h1, h2⟩ := maxL_app l
  have big : 1000000 ≤ sizeLine := by decide
  have ad : opD G .Add (.lst (l.map .int)) (.lst [.int 0]) m = .ok (.lst ((l ++ [0]).map .int)) m := by
    have z : (l.map D.int).length + [D.int 0].length ≤ sizeLine := by rw [List.length_map]; simp only [List.length_cons, List.length_nil]; omega
    simp only [opD, binD, binL, lookT, z, if_true, List.map_append, List.map_cons, List.map_nil]
  refine ⟨v == 0, ?_, fun q => by rw [h1 q]; rfl, fun x hx q => by have := h2 x hx q; rw [beq_eq_false_iff_ne]; omega⟩
  rw [evE, evE, evEs, evE, evE_var h, rs_ok, evE, evEs, evE, rs_ok, evEs, rs_ok, rs_ok]
  simp only [List.length_cons, List.length_nil, w_one, if_true, rs_ok]
  rw [ad, rs_ok, evEs, rs_ok, rs_ok]
  simp only [bltD, look, Option.bind_some, ints_of, e, rs_ok]
  rw [evE, rs_ok, cmD_eqI]
theorem call1 {ρ : Env} {f : Str} {g : Fn} {i : Nat} {d r : D} {m' : Mu} (hf : G.fn f = some g) (h : ρ[i]? = some (some d)) (hg : g [d] m = .ok r m') : evE G (.fn f [(.var i)]) ρ m = .ok r m' := by
  rw [evE, hf]
  dsimp only
  rw [evEs, evE_var h, rs_ok, evEs, rs_ok, rs_ok, hg]
theorem call2 {ρ : Env} {f : Str} {g : Fn} {i j : Nat} {d d2 r : D} {m' : Mu} (hf : G.fn f = some g) (h : ρ[i]? = some (some d)) (h2 : ρ[j]? = some (some d2)) (hg : g [d, d2] m = .ok r m') : evE G (.fn f [(.var i), (.var j)]) ρ m = .ok r m' := by
  rw [evE, hf]
  dsimp only
  rw [evEs, evE_var h, rs_ok, evEs, evE_var h2, rs_ok, evEs, rs_ok, rs_ok, rs_ok, hg]
theorem call3 {ρ : Env} {f : Str} {g : Fn} {i j k : Nat} {d d2 d3 r : D} {m' : Mu} (hf : G.fn f = some g) (h : ρ[i]? = some (some d)) (h2 : ρ[j]? = some (some d2)) (h3 : ρ[k]? = some (some d3)) (hg : g [d, d2, d3] m = .ok r m') : evE G (.fn f [(.var i), (.var j), (.var k)]) ρ m = .ok r m' := by
  rw [evE, hf]
  dsimp only
  rw [evEs, evE_var h, rs_ok, evEs, evE_var h2, rs_ok, evEs, evE_var h3, rs_ok, evEs, rs_ok, rs_ok, rs_ok, rs_ok, hg]
theorem evI_lstM {e : E} {ρ : Env} {ds : List D} {m' : Mu} (h : evE G e ρ m = .ok (.lst ds) m') : evI G (.val e) ρ m = .ok (ds, []) m' := by
  unfold evI
  rw [h, rs_ok]
  rfl
def z3D (p : Int × Int × Option Int) : D := .tup [.int p.1, .int p.2.1, tm p.2.2]
theorem zip3_map : ∀ (xs ys : List Int) (zs : Ls), zip3L (xs.map .int) (ys.map .int) (zs.map tm) = (xs.zip (ys.zip zs)).map z3D
  | [], _, _ => rfl
  | _ :: _, [], _ => rfl
  | _ :: _, _ :: _, [] => rfl
  | x :: xs, y :: ys, z :: zs => by
    have ih := zip3_map xs ys zs
    show _ :: _ = _
    rw [ih]
    rfl
end
/-- what is asked of a small claim -/
structure SmOk (c : Cl) : Prop where
  ok : ClOk c
  bx : ∀ p ∈ c.needs.zip c.keeps, (-1000 ≤ p.1 ∧ p.1 ≤ 900) ∧ (-1000 ≤ p.2 ∧ p.2 ≤ 900) ∧ (p.2 + 1 - p.1).toNat ≤ 16
  t61 : ∀ r, some r ∈ c.rows → ∀ k t, tmAt c.needs r.2 k = some t → t < 61
theorem boxL_len : ∀ (ps : List (Int × Int)) (acc : List (List Int)), (∀ p ∈ ps, (p.2 + 1 - p.1).toNat ≤ 16) → (ps.foldl boxStep acc).length ≤ acc.length * 16 ^ ps.length
  | [], acc, _ => by simp
  | p :: ps, acc, h => by
    rw [List.foldl_cons, List.length_cons, Nat.pow_succ]
    refine Nat.le_trans (boxL_len ps (boxStep acc p) fun q hq => h q (List.mem_cons_of_mem _ hq)) ?_
    rw [Nat.mul_comm (16 ^ ps.length) 16, ← Nat.mul_assoc]
    exact Nat.mul_le_mul_right _ (boxStep_len (h p List.mem_cons_self) acc)
section
variable {G Gx Gs Gb Gw : Gm} {m : Mu}
structure ShTab (G Gx Gs Gb Gw : Gm) : Prop where
  bx : G.fn "_law_box_of" = some (runF Gx 1 7 bBoxOf)
  se : G.fn "_law_seen" = some (runF Gs 2 3 bSeen)
  bd : Gs.fn "_law_bound" = some (runF Gb 2 7 bBound)
  wo : G.fn "_law_without" = some (runF Gw 1 7 bWithout)
  rp : Gw.xt "repO" = some repO
  z3 : G.xi "zip3" = some zip3D
theorem shows_ok (T : ShTab G Gx Gs Gb Gw) (c : Cl) (h : SmOk c) (hv : nvC c = false) (o : Option Rw) (ho : o ∈ c.rows) : ∃ e, runF G 3 9 bShows [claimD c, rD o, rD (o.bind (plainRow c.keeps c.needs))] m = .ok (.bl true) (m ++ e) := by
  have B := not_never hv h.ok.ln
  have lz : (c.needs.zip c.keeps).length ≤ 3 := by rw [List.length_zip]; have := h.ok.lk; omega
  have bl : (boxL (c.needs.zip c.keeps)).length ≤ 100000 := by
    have h1 := boxL_len (c.needs.zip c.keeps) [[]] fun p hp => (h.bx p hp).2.2
    have h2 : 16 ^ (c.needs.zip c.keeps).length ≤ 16 ^ 3 := Nat.pow_le_pow_right (by decide) lz
    unfold boxL
    rw [List.length_singleton, Nat.one_mul] at h1
    omega
  have big : 1000000 ≤ sizeLine := by decide
  obtain ⟨e1, hbo⟩ := boxof_ok (G := Gx) (m := m) c h.bx lz
  have hin : ∀ vs, vs ∈ boxL (c.needs.zip c.keeps) ↔ InBox c.needs c.keeps vs := fun vs => mem_boxL h.ok.ln
  have vl : ∀ vs ∈ boxL (c.needs.zip c.keeps), vs.length ≤ 3 := fun vs hvs => by
    have := ((hin vs).mp hvs).lk
    have := h.ok.lk
    omega
  have rowne : ∀ r, some r ∈ c.rows → ∀ vs ∈ boxL (c.needs.zip c.keeps), allT vs r.1 r.2 ≠ [] := fun r hr vs hvs => by
    obtain ⟨h1, h2⟩ := h.ok.row r hr
    exact tells_ne (l := r.1) (ls := r.2) (by rw [h1, ((hin vs).mp hvs).lk]) (ne_tells h2)
  have hseen : ∀ mm, runF Gs 2 3 bSeen [rD o, .lst ((boxL (c.needs.zip c.keeps)).map iD)] mm = .ok (.lst (((boxL (c.needs.zip c.keeps)).map (seenV o)).map .int)) mm := fun mm => seen_ok T.bd o _ (by omega) fun vs hvs r hr => ⟨vl vs hvs, rowne r (by rw [← hr]; exact ho) vs hvs⟩
  have s0 : ∀ x5 x6 x7 x8 : Option D, evC G (.asg (.nm 3) (.fn "_law_box_of" [(.var 0)])) [some (claimD c), some (rD o), some (rD (o.bind (plainRow c.keeps c.needs))), none, none, x5, x6, x7, x8] m = .ok (.nx [some (claimD c), some (rD o), some (rD (o.bind (plainRow c.keeps c.needs))), some (.lst ((boxL (c.needs.zip c.keeps)).map iD)), none, x5, x6, x7, x8]) (m ++ e1) := fun _ _ _ _ => by
    rw [evC, call1 T.bx rfl hbo, rs_ok, evG, rs_ok]
    rfl
  have s1 : ∀ x5 x6 x7 x8 : Option D, evC G (.asg (.nm 4) (.fn "_law_seen" [(.var 1), (.var 3)])) [some (claimD c), some (rD o), some (rD (o.bind (plainRow c.keeps c.needs))), some (.lst ((boxL (c.needs.zip c.keeps)).map iD)), none, x5, x6, x7, x8] (m ++ e1) = .ok (.nx [some (claimD c), some (rD o), some (rD (o.bind (plainRow c.keeps c.needs))), some (.lst ((boxL (c.needs.zip c.keeps)).map iD)), some (.lst (((boxL (c.needs.zip c.keeps)).map (seenV o)).map .int)), x5, x6, x7, x8]) (m ++ e1) := fun _ _ _ _ => by
    rw [evC, call2 T.se rfl rfl (hseen _), rs_ok, evG, rs_ok]
    rfl
  have dl : ((boxL (c.needs.zip c.keeps)).map (seenV o)).length ≤ 100000 := by rw [List.length_map]; exact bl
  cases hf : o.bind (plainRow c.keeps c.needs) with
  | none =>
    have zero : ∀ x ∈ (boxL (c.needs.zip c.keeps)).map (seenV o), x = 0 := fun x hx => by
      rw [List.mem_map] at hx
      obtain ⟨vs, hvs, rfl⟩ := hx
      cases o with
      | none => rfl
      | some r => exact seen_none hf ((hin vs).mp hvs)
    obtain ⟨b, hb, hb1, _⟩ := max_zero (G := G) (m := m ++ e1) (ρ := [some (claimD c), some (rD o), some .non, some (.lst ((boxL (c.needs.zip c.keeps)).map iD)), some (.lst (((boxL (c.needs.zip c.keeps)).map (seenV o)).map .int)), none, none, none, none]) (i := 4) rfl dl
    rw [hb1 zero] at hb
    refine ⟨e1, ?_⟩
    rw [hf] at s0 s1
    unfold runF bShows
    refine (if_pos (by rfl)).trans ?_
    show (evCs G (_ :: _) [some (claimD c), some (rD o), some (rD none), none, none, none, none, none, none] m).bind _ = _
    rw [evCs_nx (s0 none none none none), evCs_nx (s1 none none none none), evCs_rt (d := .bl true) (m' := m ++ e1) (by
      rw [evC, evE, evE, evE_var (d := .non) rfl, rs_ok, evE, rs_ok, cmD_is, rs_ok]
      show (Rs.ok (D.bl true) _).bind _ = _
      rw [rs_ok]
      dsimp only
      rw [evCs_one, evC, evE, evE, evE_var (d := .non) rfl, rs_ok, evE, rs_ok, cmD_is, rs_ok]
      show (evE G (.cmp .Eq _ _) _ _).bind _ = _
      rw [show (rD none) = D.non from rfl]
      rw [hb, rs_ok]), rs_ok]
  | some p =>
    obtain ⟨r, rfl, hp⟩ : ∃ r, o = some r ∧ plainRow c.keeps c.needs r = some p := by
      cases o with
      | none => cases hf
      | some r => exact ⟨r, rfl, hf⟩
    have t61 := h.t61 r ho
    have P := plain_ok hp B t61
    obtain ⟨rl, rne⟩ := h.ok.row r ho
    have pl : p.2.length = c.keeps.length := by rw [← rl]; exact plain_rlen hp
    have kin : c.keeps ∈ boxL (c.needs.zip c.keeps) := (hin _).mpr B
    have same : (boxL (c.needs.zip c.keeps)).map (seenV (some p)) = (boxL (c.needs.zip c.keeps)).map (seenV (some r)) := List.map_congr_left fun vs hvs => seen_same hp t61 ((hin vs).mp hvs)
    have pne : tells p = true := by
      have h1 := P.one
      have : allT c.keeps p.1 p.2 ≠ [] := fun z => by rw [bnd_def, z] at h1; exact absurd h1 (by decide)
      exact ne_tells this
    have hseenp : ∀ (q : Rw) mm, q.2.length = c.keeps.length → tells q = true → runF Gs 2 3 bSeen [rowD q, .lst ((boxL (c.needs.zip c.keeps)).map iD)] mm = .ok (.lst (((boxL (c.needs.zip c.keeps)).map (seenV (some q))).map .int)) mm := fun q mm h1 h2 => seen_ok T.bd (some q) _ (by omega) fun vs hvs r hr => by
      cases hr
      exact ⟨vl vs hvs, tells_ne (l := q.1) (ls := q.2) (by rw [h1, ((hin vs).mp hvs).lk]) h2⟩
    obtain ⟨b, hb, _, hb2⟩ := max_zero (G := G) (m := m ++ e1) (ρ := [some (claimD c), some (rowD r), some (rowD p), some (.lst ((boxL (c.needs.zip c.keeps)).map iD)), some (.lst (((boxL (c.needs.zip c.keeps)).map (seenV (some r))).map .int)), none, none, none, none]) (i := 4) rfl dl
    rw [hb2 _ (List.mem_map_of_mem kin) (seen_keeps hp B)] at hb
    obtain ⟨e2, hwo⟩ := without_ok (G := Gw) (m := m ++ e1) T.rp p (by rw [pl]; exact h.ok.lk)
    refine ⟨e1 ++ e2, ?_⟩
    rw [hf] at s0 s1
    have z0 : (0 ≤ sizeLine) = True := by decide
    have wl : (wol p).length ≤ 100 := by
      unfold wol
      refine Nat.le_trans (List.length_filter_le _ _) ?_
      have h1 := wo1_len p (List.range p.2.length)
      have h2 : (wo0 p).length ≤ 1 := by unfold wo0; split <;> simp
      rw [List.length_range] at h1
      have := h.ok.lk
      rw [List.length_append]
      omega
    have lc2 : evE G (.lc false (.nm 5) (.val (.fn "_law_without" [(.var 2)])) (some (.cmp .Eq (.fn "_law_seen" [(.var 5), (.var 3)]) (.var 4))) (.con (.int 1)) [5]) [some (claimD c), some (rowD r), some (rowD p), some (.lst ((boxL (c.needs.zip c.keeps)).map iD)), some (.lst (((boxL (c.needs.zip c.keeps)).map (seenV (some r))).map .int)), none, none, none, none] (m ++ e1) = .ok (.lst []) (m ++ e1 ++ e2) := by
      have hl := lcL_src (w := []) (m := m ++ e1 ++ e2) (f := lcT G (.nm 5) (some (.cmp .Eq (.fn "_law_seen" [(.var 5), (.var 3)]) (.var 4))) (.con (.int 1)) (wipeD [some (claimD c), some (rowD r), some (rowD p), some (.lst ((boxL (c.needs.zip c.keeps)).map iD)), some (.lst (((boxL (c.needs.zip c.keeps)).map (seenV (some r))).map .int)), none, none, none, none] [5])) (ψ := rowD) (φ := fun _ => none) rfl (wol p) (acc := []) (by simp only [List.length_nil]; omega) fun q hq => by
        obtain ⟨q1, q2, vs, q3, q4⟩ := wol_shows P B pl hq
        have hd : decide ((boxL (c.needs.zip c.keeps)).map (seenV (some q)) = (boxL (c.needs.zip c.keeps)).map (seenV (some r))) = false := by
          rw [decide_eq_false_iff_not]
          intro z
          rw [← same] at z
          rw [List.map_inj_left] at z
          exact q4 (z vs ((hin vs).mpr q3))
        unfold lcT
        rw [show ∀ mm : Mu, evG G (.nm 5) (rowD q) (wipeD [some (claimD c), some (rowD r), some (rowD p), some (.lst ((boxL (c.needs.zip c.keeps)).map iD)), some (.lst (((boxL (c.needs.zip c.keeps)).map (seenV (some r))).map .int)), none, none, none, none] [5]) mm = .ok [some (claimD c), some (rowD r), some (rowD p), some (.lst ((boxL (c.needs.zip c.keeps)).map iD)), some (.lst (((boxL (c.needs.zip c.keeps)).map (seenV (some r))).map .int)), some (rowD q), none, none, none] mm from fun _ => rfl, rs_ok, evT, evE, call2 T.se rfl rfl (hseenp q _ q1 q2), rs_ok, evE_var (d := .lst (((boxL (c.needs.zip c.keeps)).map (seenV (some r))).map .int)) rfl, rs_ok, il_eq, rs_ok, hd]
        rfl
      rw [evE_lc, evI_lstM (ds := (wol p).map rowD) (call1 T.wo rfl hwo), rs_ok]
      dsimp only
      rw [hl]
      rw [show (wol p).filterMap (fun _ => (none : Option D)) = [] by simp]
      rfl
    have nz : evC G (.ife (.or (.cmp .NotEq (.fn "_law_seen" [(.var 2), (.var 3)]) (.var 4)) (.cmp .NotEq (.lc false (.nm 5) (.val (.fn "_law_without" [(.var 2)])) (some (.cmp .Eq (.fn "_law_seen" [(.var 5), (.var 3)]) (.var 4))) (.con (.int 1)) [5]) (.lst []))) [(.ret (.con (.bl false)))] []) [some (claimD c), some (rowD r), some (rowD p), some (.lst ((boxL (c.needs.zip c.keeps)).map iD)), some (.lst (((boxL (c.needs.zip c.keeps)).map (seenV (some r))).map .int)), none, none, none, none] (m ++ e1) = .ok (.nx [some (claimD c), some (rowD r), some (rowD p), some (.lst ((boxL (c.needs.zip c.keeps)).map iD)), some (.lst (((boxL (c.needs.zip c.keeps)).map (seenV (some r))).map .int)), none, none, none, none]) (m ++ e1 ++ e2) := by
      rw [evC, evE, evE, call2 T.se rfl rfl (hseenp p _ pl pne), rs_ok, evE_var (d := .lst (((boxL (c.needs.zip c.keeps)).map (seenV (some r))).map .int)) rfl, rs_ok, il_ne, same, decide_eq_true rfl, rs_ok]
      simp only [Bool.not_true]
      rw [evE, lc2, rs_ok, evE, evEs, rs_ok]
      simp only [List.length_nil, z0, if_true, rs_ok]
      rw [show cmD G .NotEq (.lst []) (.lst []) (m ++ e1 ++ e2) = .ok (.bl false) (m ++ e1 ++ e2) from il_ne [] [], rs_ok]
      dsimp only
      rw [evCs]
    have last : evE G (.cmp .Eq (.lc false (.tup [(.nm 6), (.nm 7), (.nm 8)]) (.ext "zip3" [(.idx (.var 0) (.con (.int 1))), (.idx (.var 0) (.con (.int 0))), (.idx (.var 2) (.con (.int 1)))]) (some (.and (.cmp .IsNot (.var 8) (.con .non)) (.cmp .Eq (.var 6) (.var 7)))) (.con (.int 1)) [6, 7, 8]) (.lst [])) [some (claimD c), some (rowD r), some (rowD p), some (.lst ((boxL (c.needs.zip c.keeps)).map iD)), some (.lst (((boxL (c.needs.zip c.keeps)).map (seenV (some r))).map .int)), none, none, none, none] (m ++ e1 ++ e2) = .ok (.bl true) (m ++ e1 ++ e2) := by
      have lz3 := lc_src (G := G) (m := m ++ e1 ++ e2) (ρ := [some (claimD c), some (rowD r), some (rowD p), some (.lst ((boxL (c.needs.zip c.keeps)).map iD)), some (.lst (((boxL (c.needs.zip c.keeps)).map (seenV (some r))).map .int)), none, none, none, none]) (w := []) (g := .tup [(.nm 6), (.nm 7), (.nm 8)]) (it := .ext "zip3" [(.idx (.var 0) (.con (.int 1))), (.idx (.var 0) (.con (.int 0))), (.idx (.var 2) (.con (.int 1)))]) (c := some (.and (.cmp .IsNot (.var 8) (.con .non)) (.cmp .Eq (.var 6) (.var 7)))) (elt := .con (.int 1)) (ws := [6, 7, 8]) (c.needs.zip (c.keeps.zip p.2)) z3D (fun _ => none)
        (by
          unfold evI
          rw [T.z3]
          dsimp only
          rw [evEs, cl1 rfl, rs_ok, evEs, cl0 rfl, rs_ok, evEs, evE, evE_var (d := rowD p) rfl, rs_ok, evE, rs_ok, ri1, rs_ok, evEs, rs_ok, rs_ok, rs_ok, rs_ok]
          rw [show zip3D [iD c.needs, iD c.keeps, .tup (p.2.map tm)] (m ++ e1 ++ e2) = some (zip3L (c.needs.map .int) (c.keeps.map .int) (p.2.map tm), []) from rfl, zip3_map]) rfl (by rw [List.length_zip]; have := h.ok.ln; have := h.ok.lk; omega) fun t ht => by
          obtain ⟨a, b, z⟩ := t
          unfold lcT
          rw [show ∀ mm : Mu, evG G (.tup [(.nm 6), (.nm 7), (.nm 8)]) (z3D (a, b, z)) (wipeD [some (claimD c), some (rowD r), some (rowD p), some (.lst ((boxL (c.needs.zip c.keeps)).map iD)), some (.lst (((boxL (c.needs.zip c.keeps)).map (seenV (some r))).map .int)), none, none, none, none] [6, 7, 8]) mm = .ok [some (claimD c), some (rowD r), some (rowD p), some (.lst ((boxL (c.needs.zip c.keeps)).map iD)), some (.lst (((boxL (c.needs.zip c.keeps)).map (seenV (some r))).map .int)), none, some (.int a), some (.int b), some (tm z)] mm from fun mm => by
            simp only [z3D, evG, evGs, wipeD, List.length_cons, List.length_nil, if_true, rs_ok, List.set_cons_succ, List.set_cons_zero], rs_ok, evT, evE, evE, evE_var (d := tm z) rfl, rs_ok, evE, rs_ok, cmD_isNot, rs_ok, tm_isNon]
          cases z with
          | none => rfl
          | some x =>
            have hab : (a == b) = false := by
              rw [beq_eq_false_iff_ne]
              intro hab
              obtain ⟨k, hk⟩ := List.mem_iff_getElem?.mp ht
              rw [List.getElem?_zip_eq_some] at hk
              obtain ⟨k1, k2⟩ := hk
              rw [List.getElem?_zip_eq_some] at k2
              obtain ⟨k2, k3⟩ := k2
              refine P.ne k (b - x) (by unfold tmAt; rw [k2, k3]) ?_
              show c.needs[k]? = c.keeps[k]?
              rw [k1, k2, hab]
            simp only [Option.isNone_some, Bool.not_false]
            rw [evE, evE_var (d := .int a) rfl, rs_ok, evE_var (d := .int b) rfl, rs_ok, cmD_eqI, hab]
            rfl
      rw [show (c.needs.zip (c.keeps.zip p.2)).filterMap (fun _ => (none : Option D)) = [] by simp] at lz3
      rw [evE, lz3, rs_ok, evE, evEs, rs_ok]
      simp only [List.length_nil, z0, if_true, rs_ok]
      exact il_eq [] []
    unfold runF bShows
    refine (if_pos (by rfl)).trans ?_
    show (evCs G (_ :: _) [some (claimD c), some (rD (some r)), some (rD (some p)), none, none, none, none, none, none] m).bind _ = _
    have s0' := s0 none none none none
    have s1' := s1 none none none none
    rw [evCs_nx s0', evCs_nx s1', evCs_nx (ρ' := [some (claimD c), some (rowD r), some (rowD p), some (.lst ((boxL (c.needs.zip c.keeps)).map iD)), some (.lst (((boxL (c.needs.zip c.keeps)).map (seenV (some r))).map .int)), none, none, none, none]) (m' := m ++ e1) (by
      rw [evC, evE, evE, show evE G (.var 2) [some (claimD c), some (rD (some r)), some (rD (some p)), some (.lst ((boxL (c.needs.zip c.keeps)).map iD)), some (.lst (((boxL (c.needs.zip c.keeps)).map (seenV (some r))).map .int)), none, none, none, none] (m ++ e1) = .ok (rowD p) (m ++ e1) from evE_var rfl, rs_ok, evE, rs_ok, cmD_is, rs_ok]
      show (evE G (.cmp .Eq _ _) _ _).bind _ = _
      have hb' := hb
      rw [show (rowD r) = rD (some r) from rfl, show rowD p = rD (some p) from rfl] at hb'
      rw [hb', rs_ok]
      dsimp only
      rw [evCs]
      rfl), evCs_nx nz, evCs_rt (d := .bl true) (m' := m ++ e1 ++ e2) (by rw [evC, last, rs_ok]), rs_ok, List.append_assoc]
end
end Pm

set_option maxRecDepth 100000
set_option maxHeartbeats 1000000
/-! Draws within expressions; claims that are drawn -/
namespace Pm
open PySem L2
/-- where draws come from -/
structure DrTab (G G0 G1 : Gm) : Prop where
  t : G.fn "_law_take" = some (runF G0 2 4 bTake)
  p : G.fn "_law_pick" = some (runF G1 2 2 bPick)
  t1 : G1.fn "_law_take" = some (runF G0 2 4 bTake)
section
variable {G G0 G1 : Gm} {m : Mu} {ρ : Env} {k : Nat}
theorem ev_take (T : DrTab G G0 G1) {i : Nat} {e : E} {n : Int} (hi : ρ[i]? = some (some (.own k))) (he : evE G e ρ m = .ok (.int n) m) (h : Bx m k) (hn : 1 ≤ n) (hn2 : n < 1073741824) : ∃ (r : Int) (m' : Mu), evE G (.fn "_law_take" [(.var i), e]) ρ m = .ok (.int r) m' ∧ 0 ≤ r ∧ r < n ∧ Bx m' k ∧ Kp m m' k := by
  obtain ⟨r, m', e1, h1, h2, h3, h4⟩ := take_bx (G0 := G0) h hn hn2
  refine ⟨r, m', ?_, h1, h2, h3, h4⟩
  rw [evE, T.t]
  dsimp only
  rw [evEs, evE_var hi, rs_ok, evEs, he, rs_ok, evEs, rs_ok, rs_ok, rs_ok, e1]
theorem ev_takeC (T : DrTab G G0 G1) {i : Nat} (n : Int) (hi : ρ[i]? = some (some (.own k))) (h : Bx m k) (hn : 1 ≤ n) (hn2 : n < 1073741824) : ∃ (r : Int) (m' : Mu), evE G (.fn "_law_take" [(.var i), (.con (.int n))]) ρ m = .ok (.int r) m' ∧ 0 ≤ r ∧ r < n ∧ Bx m' k ∧ Kp m m' k := ev_take T hi (by rw [evE]) h hn hn2
theorem ev_pick (T : DrTab G G0 G1) {i : Nat} {e : E} {ds : List D} (hi : ρ[i]? = some (some (.own k))) (he : evE G e ρ m = .ok (.lst ds) m) (h : Bx m k) (h1 : 1 ≤ ds.length) (h2 : ds.length < 1073741824) : ∃ d m', evE G (.fn "_law_pick" [(.var i), e]) ρ m = .ok d m' ∧ d ∈ ds ∧ Bx m' k ∧ Kp m m' k := by
  obtain ⟨d, m', e1, q1, q2, q3⟩ := pick_ok T.t1 h h1 h2
  refine ⟨d, m', ?_, q1, q2, q3⟩
  rw [evE, T.p]
  dsimp only
  rw [evEs, evE_var hi, rs_ok, evEs, he, rs_ok, evEs, rs_ok, rs_ok, rs_ok, e1]
/-- one of two, by a truth -/
theorem two_at {x y : D} (b : Bool) : liftO m (idxD m (.lst [x, y]) (.int (if b then 1 else 0))) = .ok (if b then y else x) m := by
  cases b with
  | true => exact idx_lst (ds := [x, y]) (atN 1 rfl)
  | false => exact idx_lst (ds := [x, y]) at0
theorem int_b {b : Bool} : bltD G .int [.bl b] m = .ok (.int (if b then 1 else 0)) m := rfl
/-- a comprehension of draws -/
theorem lcL_draw {α : Type} {f : D → Mu → Rs (Option D)} (ψ : α → D) (Q : α → Prop) : ∀ (ds : List D) {acc : List D} {m : Mu}, acc.length + ds.length ≤ sizeLine → Bx m k → (∀ d ∈ ds, ∀ mm, Bx mm k → Kp m mm k → ∃ a m', f d mm = .ok (some (ψ a)) m' ∧ Q a ∧ Bx m' k ∧ Kp mm m' k) →
    ∃ (as : List α) (m' : Mu), lcL [] f ds acc m = .ok (acc ++ as.map ψ) m' ∧ as.length = ds.length ∧ (∀ a ∈ as, Q a) ∧ Bx m' k ∧ Kp m m' k
  | [], acc, m, _, hb, _ => ⟨[], m, by unfold lcL; simp, rfl, fun a ha => absurd ha List.not_mem_nil, hb, .rfl'⟩
  | d :: ds, acc, m, hz, hb, hf => by
    rw [List.length_cons] at hz
    obtain ⟨a, m1, e1, q1, b1, k1⟩ := hf d List.mem_cons_self m hb .rfl'
    obtain ⟨as, m2, e2, l2, q2, b2, k2⟩ := lcL_draw ψ Q ds (acc := acc ++ [ψ a]) (m := m1) (by rw [List.length_append]; simp only [List.length_cons, List.length_nil]; omega) b1 fun d hd mm h1 h2 => hf d (List.mem_cons_of_mem _ hd) mm h1 (k1.trans h2)
    refine ⟨a :: as, m2, ?_, by rw [List.length_cons, List.length_cons, l2], fun x hx => by
      rcases List.mem_cons.mp hx with rfl | hx
      · exact q1
      · exact q2 x hx, b2, k1.trans k2⟩
    unfold lcL
    rw [e1, rs_ok, if_pos (show okW [] _ = true from rfl)]
    dsimp only
    rw [if_pos (by omega), e2, List.append_assoc]
    rfl
theorem lc_draw {α : Type} {g : Gt} {it : It} {elt : E} {ws : List Nat} {ds : List D} {m0 : Mu} (ψ : α → D) (Q : α → Prop) (hi : evI G it ρ m0 = .ok (ds, []) m) (hz : ds.length ≤ sizeLine) (hb : Bx m k) (hf : ∀ d ∈ ds, ∀ mm, Bx mm k → Kp m mm k → ∃ a m', (evG G g d (wipeD ρ ws) mm).bind (fun ρ2 m => evE G elt ρ2 m) = .ok (ψ a) m' ∧ Q a ∧ Bx m' k ∧ Kp mm m' k) :
    ∃ (as : List α) (m' : Mu), evE G (.lc false g it none elt ws) ρ m0 = .ok (.lst (as.map ψ)) m' ∧ as.length = ds.length ∧ (∀ a ∈ as, Q a) ∧ Bx m' k ∧ Kp m m' k := by
  obtain ⟨as, m', e, h⟩ := lcL_draw (f := lcT G g none elt (wipeD ρ ws)) ψ Q ds (acc := []) (m := m) (by simpa using hz) hb (fun d hd mm h1 h2 => by
    obtain ⟨a, m', e, h⟩ := hf d hd mm h1 h2
    refine ⟨a, m', ?_, h⟩
    unfold lcT
    cases hg : evG G g d (wipeD ρ ws) mm with
    | ok ρ2 m2 =>
      rw [hg, rs_ok] at e
      rw [rs_ok, evT, rs_ok]
      simp only [if_true]
      rw [e, rs_ok]
    | ex x m2 => rw [hg] at e; cases e
    | no => rw [hg] at e; cases e)
  refine ⟨as, m', ?_, h⟩
  rw [evE_lc, hi, rs_ok]
  dsimp only
  rw [e]
  rfl
/-- a loop of draws that are kept in a list of the store -/
theorem forL_draw {α : Type} {f : D → Env → Mu → Rs Fl} (ψ : α → D) (Q : α → Prop) (I : Env → Prop) {p : Nat} (hp : p ≠ k) : ∀ (ds : List D) (as : List α) {ρ : Env} {m m0 : Mu}, m0.length ≤ p → (∀ d ∈ ds, ∀ ρ mm bs, I ρ → Bx mm k → Kp m0 mm k → mm[p]? = some (.lst (bs.map ψ)) → bs.length ≤ as.length + ds.length → ∃ a ρ' m1, f d ρ mm = .ok (.nx ρ') (m1.set p (.lst ((bs ++ [a]).map ψ))) ∧ I ρ' ∧ Q a ∧ Bx m1 k ∧ Kp mm m1 k) →
    I ρ → Bx m k → Kp m0 m k → m[p]? = some (.lst (as.map ψ)) → (∀ a ∈ as, Q a) → ∃ (bs : List α) (ρ' : Env) (m' : Mu), forL [] f ds ρ m = .ok (.nx ρ') m' ∧ I ρ' ∧ m'[p]? = some (.lst (bs.map ψ)) ∧ bs.length = as.length + ds.length ∧ (∀ a ∈ bs, Q a) ∧ Bx m' k ∧ Kp m0 m' k ∧ (∀ i, i < m.length → i ≠ k → i ≠ p → m'[i]? = m[i]?) ∧ m.length ≤ m'.length
  | [], as, ρ, m, m0, _, _, hI, hb, hk, he, hq => ⟨as, ρ, m, by unfold forL; rfl, hI, he, by simp, hq, hb, hk, fun _ _ _ _ => rfl, Nat.le_refl _⟩
  | d :: ds, as, ρ, m, m0, hp0, hf, hI, hb, hk, he, hq => by
    obtain ⟨a, ρ1, m1, e1, i1, q1, b1, k1⟩ := hf d List.mem_cons_self ρ m as hI hb hk he (by omega)
    have e2 := k1.at hp he
    obtain ⟨bs, ρ2, m2, e3, i2, e4, l2, q2, b2, k2, s2, n2⟩ := forL_draw ψ Q I hp ds (as ++ [a]) (ρ := ρ1) (m := m1.set p (.lst ((as ++ [a]).map ψ))) (m0 := m0) hp0 (fun d hd ρ mm bs h1 h2 h3 h4 h5 => hf d (List.mem_cons_of_mem _ hd) ρ mm bs h1 h2 h3 h4 (by rw [List.length_append] at h5; rw [List.length_cons]; simp only [List.length_cons, List.length_nil] at h5; omega)) i1 (b1.put hp) ((hk.trans k1).put hp0) (set_get e2) (fun x hx => by
      rcases List.mem_append.mp hx with h | h
      · exact hq x h
      · rw [List.mem_singleton] at h; subst h; exact q1)
    refine ⟨bs, ρ2, m2, ?_, i2, e4, by rw [l2, List.length_append, List.length_cons]; simp only [List.length_cons, List.length_nil]; omega, q2, b2, k2, fun i hi h1 h2 => ?_, ?_⟩
    · unfold forL
      rw [e1, rs_ok]
      dsimp only
      rw [if_pos (show okW [] _ = true from rfl)]
      exact e3
    · rw [s2 i (by rw [List.length_set]; exact Nat.lt_of_lt_of_le hi k1.len) h1 h2, List.getElem?_set_ne (Ne.symm h2), k1.same i hi h1]
    · rw [List.length_set] at n2; exact Nat.le_trans k1.len n2
theorem ev_append {i p : Nat} {e : E} {α : Type} {ψ : α → D} {bs : List α} {a : α} {m1 : Mu} (hi : ρ[i]? = some (some (.own p))) (h0 : m[p]? = some (.lst (bs.map ψ))) (he : evE G e ρ m = .ok (ψ a) m1) (h1 : m1[p]? = some (.lst (bs.map ψ))) (hl : bs.length < 1000) : evC G (.expr (.bm (.var i) .append [e])) ρ m = .ok (.nx ρ) (m1.set p (.lst ((bs ++ [a]).map ψ))) := by
  have big : 1000 ≤ sizeLine := by decide
  have hlk : lookT m (.own p) = some (bs.map ψ) := by unfold lookT; simp only [h0]
  rw [evC, evE, evE_var hi, rs_ok, hlk]
  dsimp only
  rw [evEs, he, rs_ok, evEs, rs_ok, rs_ok]
  have : mtD .append (.own p) [ψ a] m1 = .ok .non (m1.set p (.lst ((bs ++ [a]).map ψ))) := by
    unfold mtD
    simp only [h1]
    rw [if_pos (by rw [List.length_map]; omega), List.map_append]
    rfl
  rw [this, rs_ok]
theorem evI_rngM {e : E} {m0 : Mu} {n : Nat} (h : evE G e ρ m0 = .ok (.int (n : Nat)) m) (hn : n < 1000) : evI G (.rng [e]) ρ m0 = .ok ((List.range n).map fun (i : Nat) => D.int (0 + (i : Int)), []) m := by
  unfold evI
  rw [evEs, h, rs_ok, evEs, rs_ok, rs_ok, rngD_nat hn]
end
/-- a drawn claim -/
structure DrOk (K N : Int) (c : Cl) : Prop where
  lk : c.keeps.length ≤ 3
  kb : ∀ x ∈ c.keeps, 0 ≤ x ∧ x ≤ K
  ln : c.needs.length = c.keeps.length
  nb : ∀ x ∈ c.needs, -1 ≤ x ∧ x ≤ N
  row : ∀ r, some r ∈ c.rows → r.2.length = c.keeps.length ∧ InL r.1 ∧ (∀ o ∈ r.2, InT o) ∧ tells r = true
  lr : c.rows.length ≤ 2
theorem tmAt_le {vs : List Int} {ls : Ls} {K : Int} (hv : ∀ x ∈ vs, x ≤ K) (hl : ∀ o ∈ ls, InT o) {j : Nat} {t : Int} (h : tmAt vs ls j = some t) : t ≤ K := by
  unfold tmAt at h
  split at h
  · rename_i v x h1 h2
    cases h
    have := hv v (List.mem_of_getElem? h1)
    have := (hl _ (List.mem_of_getElem? h2) x rfl).1
    omega
  · cases h
theorem DrOk.ok {K N : Int} {c : Cl} (h : DrOk K N c) : ClOk c := ⟨h.lk, h.ln, fun r hr => by
  obtain ⟨h1, _, _, h4⟩ := h.row r hr
  exact ⟨h1, tells_ne (l := r.1) (ls := r.2) h1 h4⟩, by have := h.lr; omega⟩
theorem DrOk.ok3 {K N : Int} {c : Cl} (h : DrOk K N c) (hK : K ≤ 61) : ClOk3 c := ⟨h.ok, fun r hr x hx => by
  have := (h.row r hr).2.1 x hx
  omega, fun r hr j t ht => by
  have := tmAt_le (K := K) (fun x hx => (h.kb x hx).2) (h.row r hr).2.2.1 ht
  omega⟩
theorem DrOk.ok2 {K N : Int} {c : Cl} (h : DrOk K N c) (hN : N < 61) : ClOk2 c := ⟨h.ok, fun r hr j t ht => by
  have := tmAt_le (K := N) (fun x hx => (h.nb x hx).2) (h.row r hr).2.2.1 ht
  omega⟩
theorem plainC_okB {c : Cl} (h : DrOk 60 61 c) : ClOk (plainC c) := by
  cases hv : nvC c with
  | true => exact plainC_okN h.ok hv
  | false =>
    have B := not_never hv h.ln
    refine plainC_ok ⟨h.ok, fun r hr j t ht => ?_⟩
    have := tmAt_le (K := 60) (fun x hx => by
      obtain ⟨i, hi⟩ := List.mem_iff_getElem?.mp hx
      have hj : i < c.keeps.length := by rw [← h.ln]; exact (List.getElem?_eq_some_iff.mp hi).1
      have h1 := B.lo i x c.keeps[i] hi (List.getElem?_eq_getElem hj)
      have h2 := (h.kb _ (List.getElem_mem hj)).2
      omega) (h.row r hr).2.2.1 ht
    omega
theorem DrOk.sm {c : Cl} (h : DrOk 4 5 c) : SmOk c := ⟨h.ok, fun p hp => by
  obtain ⟨a, b⟩ := p
  have h1 := h.nb a (List.of_mem_zip hp).1
  have h2 := h.kb b (List.of_mem_zip hp).2
  show (-1000 ≤ a ∧ a ≤ 900) ∧ (-1000 ≤ b ∧ b ≤ 900) ∧ (b + 1 - a).toNat ≤ 16
  omega, (h.ok2 (by decide)).t61⟩
end Pm

set_option maxRecDepth 100000
set_option maxHeartbeats 1000000
/-! Small claims, drawn by the law -/
namespace Pm
open PySem L2
def bSmall : List C := [(.asg (.nm 1) (.blt .tuple [(.lc false (.nm 2) (.rng [(.fn "_law_take" [(.var 0), (.con (.int 4))])]) none (.fn "_law_take" [(.var 0), (.con (.int 5))]) [2])])),
    (.asg (.nm 3) (.lsto [])),
    (.for (.nm 4) (.val (.var 1)) [(.asg (.nm 5) (.bin .Sub (.fn "_law_take" [(.var 0), (.bin .Add (.var 4) (.con (.int 2)))]) (.con (.int 1)))), (.expr (.bm (.var 3) .append [(.fn "_law_pick" [(.var 0), (.lst [(.var 5), (.var 5), (.neg (.con (.int 1))), (.var 4), (.var 5), (.bin .Add (.var 4) (.con (.int 1)))])])]))]),
    (.asg (.nm 6) (.lsto [])),
    (.for (.nm 2) (.rng [(.fn "_law_take" [(.var 0), (.con (.int 3))])]) [(.asg (.nm 7) (.idx (.lst [(.con .non), (.bin .Sub (.fn "_law_take" [(.var 0), (.con (.int 6))]) (.con (.int 1)))]) (.blt .int [(.cmp .Gt (.fn "_law_take" [(.var 0), (.con (.int 3))]) (.con (.int 0)))]))), (.asg (.nm 8) (.blt .tuple [(.lc false (.nm 4) (.val (.var 1)) none (.idx (.lst [(.con .non), (.fn "_law_take" [(.var 0), (.con (.int 4))])]) (.blt .int [(.cmp .Gt (.fn "_law_take" [(.var 0), (.con (.int 4))]) (.con (.int 0)))])) [4])])), (.ife (.and (.cmp .Is (.var 7) (.con .non)) (.cmp .Eq (.lc false (.nm 9) (.val (.var 8)) (some (.cmp .IsNot (.var 9) (.con .non))) (.var 9) [9]) (.lst []))) [(.asg (.nm 7) (.bin .Add (.con (.int 1)) (.fn "_law_take" [(.var 0), (.con (.int 4))])))] []), (.expr (.bm (.var 6) .append [(.idx (.lst [(.tup [(.var 7), (.var 8)]), (.con .non)]) (.blt .int [(.cmp .Eq (.fn "_law_take" [(.var 0), (.con (.int 8))]) (.con (.int 0)))]))]))]),
    (.ret (.tup [(.var 1), (.blt .tuple [(.var 3)]), (.fn "_law_pick" [(.var 0), (.lst [(.con (.int 0)), (.con (.int 5)), (.con (.int 59)), (.con (.int 60)), (.con (.int 61))])]), (.blt .tuple [(.var 6)]), (.cmp .Eq (.fn "_law_take" [(.var 0), (.con (.int 9))]) (.con (.int 0)))]))]
section
variable {G G0 G1 : Gm} {m : Mu} {ρ : Env} {k : Nat}
theorem iD_def (l : List Int) : iD l = .tup (l.map D.int) := rfl
/-- keeps that are drawn -/
theorem keeps_ok (T : DrTab G G0 G1) {i v : Nat} {a : E} {N : Int} (hN : 1 ≤ N ∧ N ≤ 1000) (hv : v ≠ i) (h : Bx m k) (hi : ρ[i]? = some (some (.own k))) : ∃ (ks : List Int) (m' : Mu), evE G (.blt .tuple [(.lc false (.nm v) (.rng [(.fn "_law_take" [(.var i), (.con (.int 4))])]) none (.fn "_law_take" [(.var i), (.con (.int N))]) [v])]) ρ m = .ok (iD ks) m' ∧ ks.length ≤ 3 ∧ (∀ x ∈ ks, 0 ≤ x ∧ x ≤ N - 1) ∧ Bx m' k ∧ Kp m m' k := by
  obtain ⟨r, m1, e1, p1, p2, b1, k1⟩ := ev_takeC T 4 hi h (by decide) (by decide)
  obtain ⟨n, rfl⟩ : ∃ n : Nat, r = (n : Int) := ⟨r.toNat, by omega⟩
  obtain ⟨as, m2, e2, l2, q2, b2, k2⟩ := lc_draw (G := G) (ρ := ρ) (k := k) (g := .nm v) (elt := .fn "_law_take" [(.var i), (.con (.int N))]) (ws := [v]) D.int (fun x => 0 ≤ x ∧ x ≤ N - 1) (evI_rngM e1 (by omega)) (by rw [List.length_map, List.length_range]; have := three; omega) b1 fun d hd mm hb hk => by
    obtain ⟨x, m3, e3, p3, p4, b3, k3⟩ := ev_takeC (ρ := (wipeD ρ [v]).set v (some d)) (i := i) T N (by rw [List.getElem?_set_ne hv]; unfold wipeD; rw [List.getElem?_set_ne hv]; exact hi) hb hN.1 (by omega)
    exact ⟨x, m3, by rw [evG, rs_ok]; exact e3, ⟨p3, by omega⟩, b3, k3⟩
  refine ⟨as, m2, ?_, by rw [l2, List.length_map, List.length_range]; omega, q2, b2, k1.trans k2⟩
  rw [evE, evEs, e2, rs_ok, evEs, rs_ok, rs_ok]
  rfl
/-- a truth of a draw -/
theorem ev_gt (T : DrTab G G0 G1) {i : Nat} {n : Int} (hi : ρ[i]? = some (some (.own k))) (h : Bx m k) (hn : 1 ≤ n) (hn2 : n < 1073741824) : ∃ (b : Bool) (m' : Mu), evE G (.blt .int [(.cmp .Gt (.fn "_law_take" [(.var i), (.con (.int n))]) (.con (.int 0)))]) ρ m = .ok (.int (if b then 1 else 0)) m' ∧ Bx m' k ∧ Kp m m' k := by
  obtain ⟨r, m1, e1, p1, p2, b1, k1⟩ := ev_takeC T n hi h hn hn2
  refine ⟨decide (0 < r), m1, ?_, b1, k1⟩
  rw [evE, evEs, evE, e1, rs_ok, evE, rs_ok, cmD_gt, rs_ok, evEs, rs_ok, rs_ok, int_b]
theorem ev_z (T : DrTab G G0 G1) {i : Nat} {n : Int} (hi : ρ[i]? = some (some (.own k))) (h : Bx m k) (hn : 1 ≤ n) (hn2 : n < 1073741824) : ∃ (b : Bool) (m' : Mu), evE G (.cmp .Eq (.fn "_law_take" [(.var i), (.con (.int n))]) (.con (.int 0))) ρ m = .ok (.bl b) m' ∧ Bx m' k ∧ Kp m m' k := by
  obtain ⟨r, m1, e1, p1, p2, b1, k1⟩ := ev_takeC T n hi h hn hn2
  refine ⟨r == 0, m1, ?_, b1, k1⟩
  rw [evE, e1, rs_ok, evE, rs_ok, cmD_eqI]
theorem ev_zI (T : DrTab G G0 G1) {i : Nat} {n : Int} (hi : ρ[i]? = some (some (.own k))) (h : Bx m k) (hn : 1 ≤ n) (hn2 : n < 1073741824) : ∃ (b : Bool) (m' : Mu), evE G (.blt .int [(.cmp .Eq (.fn "_law_take" [(.var i), (.con (.int n))]) (.con (.int 0)))]) ρ m = .ok (.int (if b then 1 else 0)) m' ∧ Bx m' k ∧ Kp m m' k := by
  obtain ⟨b, m1, e1, b1, k1⟩ := ev_z T hi h hn hn2
  refine ⟨b, m1, ?_, b1, k1⟩
  rw [evE, evEs, e1, rs_ok, evEs, rs_ok, rs_ok, int_b]
def SmL (o : Option Int) : Prop := ∀ i, o = some i → -1 ≤ i ∧ i ≤ 60
/-- the needs -/
theorem needs_loop (T : DrTab G G0 G1) {p : Nat} (hp : p ≠ k) {x1 x2 x6 x7 x8 x9 : Option D} (ks : List Int) (hk3 : ks.length ≤ 3) (hks : ∀ x ∈ ks, 0 ≤ x ∧ x ≤ 4) {x4 x5 : Option D} {m0 : Mu} (h0 : m0.length ≤ p) (hb : Bx m k) (hk : Kp m0 m k) (hl : m[p]? = some (.lst [])) :
    ∃ (ns : List Int) (y4 y5 : Option D) (m' : Mu), forL [] (fun d ρ m => (evG G (.nm 4) d ρ m).bind fun ρ m => evCs G [(.asg (.nm 5) (.bin .Sub (.fn "_law_take" [(.var 0), (.bin .Add (.var 4) (.con (.int 2)))]) (.con (.int 1)))), (.expr (.bm (.var 3) .append [(.fn "_law_pick" [(.var 0), (.lst [(.var 5), (.var 5), (.neg (.con (.int 1))), (.var 4), (.var 5), (.bin .Add (.var 4) (.con (.int 1)))])])]))] ρ m) (ks.map D.int) [some (.own k), x1, x2, some (.own p), x4, x5, x6, x7, x8, x9] m = .ok (.nx [some (.own k), x1, x2, some (.own p), y4, y5, x6, x7, x8, x9]) m' ∧ m'[p]? = some (.lst (ns.map .int)) ∧ ns.length = ks.length ∧ (∀ x ∈ ns, -1 ≤ x ∧ x ≤ 5) ∧ Bx m' k ∧ Kp m0 m' k ∧ m.length ≤ m'.length := by
  obtain ⟨bs, ρ', m', e, ⟨y4, y5, rfl⟩, h1, h2, h3, h4, h5, h6, h7⟩ := forL_draw (k := k) (f := fun d ρ m => (evG G (.nm 4) d ρ m).bind fun ρ m => evCs G [(.asg (.nm 5) (.bin .Sub (.fn "_law_take" [(.var 0), (.bin .Add (.var 4) (.con (.int 2)))]) (.con (.int 1)))), (.expr (.bm (.var 3) .append [(.fn "_law_pick" [(.var 0), (.lst [(.var 5), (.var 5), (.neg (.con (.int 1))), (.var 4), (.var 5), (.bin .Add (.var 4) (.con (.int 1)))])])]))] ρ m) D.int (fun x => -1 ≤ x ∧ x ≤ 5) (fun ρ => ∃ y4 y5, ρ = [some (.own k), x1, x2, some (.own p), y4, y5, x6, x7, x8, x9]) hp (ks.map D.int) [] (ρ := [some (.own k), x1, x2, some (.own p), x4, x5, x6, x7, x8, x9]) (m := m) (m0 := m0) h0 (fun d hd ρ mm bs ⟨y4, y5, hρ⟩ hb hk hl hbs => by
    subst hρ
    rw [List.mem_map] at hd
    obtain ⟨x, hx, rfl⟩ := hd
    obtain ⟨hx1, hx2⟩ := hks x hx
    have z6 : (0 + 1 + 1 + 1 + 1 + 1 + 1 ≤ sizeLine) = True := by decide
    obtain ⟨r, m1, e1, p1, p2, b1, k1⟩ := ev_take (ρ := [some (.own k), x1, x2, some (.own p), some (.int x), y5, x6, x7, x8, x9]) (i := 0) (e := .bin .Add (.var 4) (.con (.int 2))) (n := x + 2) T rfl (by rw [evE, evE_var (d := .int x) rfl, rs_ok, evE, rs_ok, opD_add]) hb (by omega) (by omega)
    obtain ⟨d, m2, e2, q2, b2, k2⟩ := ev_pick (ρ := [some (.own k), x1, x2, some (.own p), some (.int x), some (.int (r - 1)), x6, x7, x8, x9]) (i := 0) (e := .lst [(.var 5), (.var 5), (.neg (.con (.int 1))), (.var 4), (.var 5), (.bin .Add (.var 4) (.con (.int 1)))]) (ds := [.int (r - 1), .int (r - 1), .int (-1), .int x, .int (r - 1), .int (x + 1)]) T rfl (by
      rw [evE, evEs, evE_var (d := .int (r - 1)) rfl, rs_ok, evEs, evE_var (d := .int (r - 1)) rfl, rs_ok, evEs, evE, evE, rs_ok]
      dsimp only
      rw [rs_ok, evEs, evE_var (d := .int x) rfl, rs_ok, evEs, evE_var (d := .int (r - 1)) rfl, rs_ok, evEs, evE, evE_var (d := .int x) rfl, rs_ok, evE, rs_ok, opD_add, rs_ok, evEs, rs_ok, rs_ok, rs_ok, rs_ok, rs_ok, rs_ok, rs_ok]
      simp only [List.length_cons, List.length_nil, z6, if_true]) b1 (by simp) (by simp)
    obtain ⟨v, rfl, hv⟩ : ∃ v, d = .int v ∧ -1 ≤ v ∧ v ≤ 5 := by
      simp only [List.mem_cons, List.not_mem_nil, or_false] at q2
      rcases q2 with rfl | rfl | rfl | rfl | rfl | rfl <;> exact ⟨_, rfl, by omega, by omega⟩
    refine ⟨v, [some (.own k), x1, x2, some (.own p), some (.int x), some (.int (r - 1)), x6, x7, x8, x9], m2, ?_, ⟨_, _, rfl⟩, hv, b2, k1.trans k2⟩
    rw [evG, rs_ok, evCs_nx (ρ' := [some (.own k), x1, x2, some (.own p), some (.int x), some (.int (r - 1)), x6, x7, x8, x9]) (m' := m1) (by
      rw [evC, evE]
      simp only [List.set_cons_succ, List.set_cons_zero]
      rw [e1, rs_ok, evE, rs_ok, opD_sub, rs_ok, evG, rs_ok]
      rfl), evCs_one]
    have a1 := k1.at hp hl
    exact ev_append (ψ := D.int) (a := v) rfl a1 e2 (k2.at hp a1) (by simp only [List.length_nil] at hbs; rw [List.length_map] at hbs; omega)) ⟨_, _, rfl⟩ hb hk hl (fun a ha => absurd ha List.not_mem_nil)
  refine ⟨bs, y4, y5, m', e, h1, by rw [h2, List.length_map]; simp, h3, h4, h5, h7⟩
/-- losses that are drawn -/
theorem losts_ok (T : DrTab G G0 G1) {x2 x3 x5 x6 x7 x8 x9 : Option D} (ks : List Int) (hk3 : ks.length ≤ 3) {x4 : Option D} (h : Bx m k) : ∃ (ls : Ls) (m' : Mu), evE G (.blt .tuple [(.lc false (.nm 4) (.val (.var 1)) none (.idx (.lst [(.con .non), (.fn "_law_take" [(.var 0), (.con (.int 4))])]) (.blt .int [(.cmp .Gt (.fn "_law_take" [(.var 0), (.con (.int 4))]) (.con (.int 0)))])) [4])]) [some (.own k), some (iD ks), x2, x3, x4, x5, x6, x7, x8, x9] m = .ok (.tup (ls.map tm)) m' ∧ ls.length = ks.length ∧ (∀ o ∈ ls, InT o) ∧ Bx m' k ∧ Kp m m' k := by
  obtain ⟨as, m2, e2, l2, q2, b2, k2⟩ := lc_draw (G := G) (ρ := [some (.own k), some (iD ks), x2, x3, x4, x5, x6, x7, x8, x9]) (k := k) (m := m) (m0 := m) (g := .nm 4) (it := .val (.var 1)) (elt := .idx (.lst [(.con .non), (.fn "_law_take" [(.var 0), (.con (.int 4))])]) (.blt .int [(.cmp .Gt (.fn "_law_take" [(.var 0), (.con (.int 4))]) (.con (.int 0)))])) (ws := [4]) (ds := ks.map .int) tm InT (evI_tup (evE_var rfl)) (by rw [List.length_map]; have := three; omega) h fun d hd mm hb hk => by
    obtain ⟨r, m1, e1, p1, p2, b1, k1⟩ := ev_takeC (ρ := [some (.own k), some (iD ks), x2, x3, some d, x5, x6, x7, x8, x9]) (i := 0) T 4 rfl hb (by decide) (by decide)
    obtain ⟨b, m3, e3, b3, k3⟩ := ev_gt (ρ := [some (.own k), some (iD ks), x2, x3, some d, x5, x6, x7, x8, x9]) (i := 0) T (n := 4) rfl b1 (by decide) (by decide)
    refine ⟨if b then some r else none, m3, ?_, ?_, b3, k1.trans k3⟩
    · rw [show evG G (.nm 4) d (wipeD [some (.own k), some (iD ks), x2, x3, x4, x5, x6, x7, x8, x9] [4]) mm = .ok [some (.own k), some (iD ks), x2, x3, some d, x5, x6, x7, x8, x9] mm from rfl, rs_ok, evE, evE, evEs, evE, rs_ok, evEs, e1, rs_ok, evEs, rs_ok, rs_ok, rs_ok]
      simp only [List.length_cons, List.length_nil, w_two, if_true]
      rw [rs_ok, e3, rs_ok, two_at]
      cases b <;> rfl
    · intro i hi
      cases b with
      | true => simp only [if_true, Option.some.injEq] at hi; omega
      | false => cases hi
  refine ⟨as, m2, ?_, by rw [l2, List.length_map], q2, b2, k2⟩
  rw [evE, evEs, e2, rs_ok, evEs, rs_ok, rs_ok]
  rfl
def rowsOk (n : Nat) (o : Option Rw) : Prop := ∀ r, o = some r → r.2.length = n ∧ InL r.1 ∧ (∀ x ∈ r.2, InT x) ∧ tells r = true
/-- the rows -/
theorem rows_loop (T : DrTab G G0 G1) {p : Nat} (hp : p ≠ k) {x3 : Option D} (ks : List Int) (hk3 : ks.length ≤ 3) (ds : List D) (hds : ds.length ≤ 2) {x2 x4 x5 x7 x8 : Option D} {m0 : Mu} (h0 : m0.length ≤ p) (hb : Bx m k) (hk : Kp m0 m k) (hl : m[p]? = some (.lst [])) :
    ∃ (rs : List (Option Rw)) (y2 y4 y7 y8 : Option D) (m' : Mu), forL [] (fun d ρ m => (evG G (.nm 2) d ρ m).bind fun ρ m => evCs G [(.asg (.nm 7) (.idx (.lst [(.con .non), (.bin .Sub (.fn "_law_take" [(.var 0), (.con (.int 6))]) (.con (.int 1)))]) (.blt .int [(.cmp .Gt (.fn "_law_take" [(.var 0), (.con (.int 3))]) (.con (.int 0)))]))), (.asg (.nm 8) (.blt .tuple [(.lc false (.nm 4) (.val (.var 1)) none (.idx (.lst [(.con .non), (.fn "_law_take" [(.var 0), (.con (.int 4))])]) (.blt .int [(.cmp .Gt (.fn "_law_take" [(.var 0), (.con (.int 4))]) (.con (.int 0)))])) [4])])), (.ife (.and (.cmp .Is (.var 7) (.con .non)) (.cmp .Eq (.lc false (.nm 9) (.val (.var 8)) (some (.cmp .IsNot (.var 9) (.con .non))) (.var 9) [9]) (.lst []))) [(.asg (.nm 7) (.bin .Add (.con (.int 1)) (.fn "_law_take" [(.var 0), (.con (.int 4))])))] []), (.expr (.bm (.var 6) .append [(.idx (.lst [(.tup [(.var 7), (.var 8)]), (.con .non)]) (.blt .int [(.cmp .Eq (.fn "_law_take" [(.var 0), (.con (.int 8))]) (.con (.int 0)))]))]))] ρ m) ds [some (.own k), some (iD ks), x2, x3, x4, x5, some (.own p), x7, x8, none] m = .ok (.nx [some (.own k), some (iD ks), y2, x3, y4, x5, some (.own p), y7, y8, none]) m' ∧ m'[p]? = some (.lst (rs.map rD)) ∧ rs.length = ds.length ∧ (∀ o ∈ rs, rowsOk ks.length o) ∧ Bx m' k ∧ Kp m0 m' k ∧ m.length ≤ m'.length ∧ (∀ i, i < m.length → i ≠ k → i ≠ p → m'[i]? = m[i]?) := by
  obtain ⟨bs, ρ', m', e, ⟨y2, y4, y7, y8, rfl⟩, h1, h2, h3, h4, h5, h6, h7⟩ := forL_draw (k := k) (f := fun d ρ m => (evG G (.nm 2) d ρ m).bind fun ρ m => evCs G [(.asg (.nm 7) (.idx (.lst [(.con .non), (.bin .Sub (.fn "_law_take" [(.var 0), (.con (.int 6))]) (.con (.int 1)))]) (.blt .int [(.cmp .Gt (.fn "_law_take" [(.var 0), (.con (.int 3))]) (.con (.int 0)))]))), (.asg (.nm 8) (.blt .tuple [(.lc false (.nm 4) (.val (.var 1)) none (.idx (.lst [(.con .non), (.fn "_law_take" [(.var 0), (.con (.int 4))])]) (.blt .int [(.cmp .Gt (.fn "_law_take" [(.var 0), (.con (.int 4))]) (.con (.int 0)))])) [4])])), (.ife (.and (.cmp .Is (.var 7) (.con .non)) (.cmp .Eq (.lc false (.nm 9) (.val (.var 8)) (some (.cmp .IsNot (.var 9) (.con .non))) (.var 9) [9]) (.lst []))) [(.asg (.nm 7) (.bin .Add (.con (.int 1)) (.fn "_law_take" [(.var 0), (.con (.int 4))])))] []), (.expr (.bm (.var 6) .append [(.idx (.lst [(.tup [(.var 7), (.var 8)]), (.con .non)]) (.blt .int [(.cmp .Eq (.fn "_law_take" [(.var 0), (.con (.int 8))]) (.con (.int 0)))]))]))] ρ m) rD (rowsOk ks.length) (fun ρ => ∃ y2 y4 y7 y8, ρ = [some (.own k), some (iD ks), y2, x3, y4, x5, some (.own p), y7, y8, none]) hp ds [] (ρ := [some (.own k), some (iD ks), x2, x3, x4, x5, some (.own p), x7, x8, none]) (m := m) (m0 := m0) h0 (fun d hd ρ mm bs ⟨y2, y4, y7, y8, hρ⟩ hb hk hl hbs => by
    subst hρ
    obtain ⟨r, m1, e1, p1, p2, b1, k1⟩ := ev_takeC (ρ := [some (.own k), some (iD ks), some d, x3, y4, x5, some (.own p), y7, y8, none]) (i := 0) T 6 rfl hb (by decide) (by decide)
    obtain ⟨b, m2, e2, b2, k2⟩ := ev_gt (ρ := [some (.own k), some (iD ks), some d, x3, y4, x5, some (.own p), y7, y8, none]) (i := 0) T (n := 3) rfl b1 (by decide) (by decide)
    obtain ⟨l, hl1, hl2⟩ : ∃ l : Option Int, (if b then D.int (r - 1) else D.non) = tm l ∧ SmL l := by
      cases b with
      | true => exact ⟨some (r - 1), rfl, fun i hi => by cases hi; omega⟩
      | false => exact ⟨none, rfl, fun i hi => by cases hi⟩
    obtain ⟨ls, m3, e3, l3, q3, b3, k3⟩ := losts_ok (x2 := some d) (x3 := x3) (x4 := y4) (x5 := x5) (x6 := some (.own p)) (x7 := some (tm l)) (x8 := y8) (x9 := none) T ks hk3 b2
    have s1 : evC G (.asg (.nm 7) (.idx (.lst [(.con .non), (.bin .Sub (.fn "_law_take" [(.var 0), (.con (.int 6))]) (.con (.int 1)))]) (.blt .int [(.cmp .Gt (.fn "_law_take" [(.var 0), (.con (.int 3))]) (.con (.int 0)))]))) [some (.own k), some (iD ks), some d, x3, y4, x5, some (.own p), y7, y8, none] mm = .ok (.nx [some (.own k), some (iD ks), some d, x3, y4, x5, some (.own p), some (tm l), y8, none]) m2 := by
      rw [evC, evE, evE, evEs, evE, rs_ok, evEs, evE, e1, rs_ok, evE, rs_ok, opD_sub, rs_ok, evEs, rs_ok, rs_ok, rs_ok]
      simp only [List.length_cons, List.length_nil, w_two, if_true]
      rw [rs_ok, e2, rs_ok, two_at, rs_ok, hl1, evG, rs_ok]
      rfl
    have s2 : evC G (.asg (.nm 8) (.blt .tuple [(.lc false (.nm 4) (.val (.var 1)) none (.idx (.lst [(.con .non), (.fn "_law_take" [(.var 0), (.con (.int 4))])]) (.blt .int [(.cmp .Gt (.fn "_law_take" [(.var 0), (.con (.int 4))]) (.con (.int 0)))])) [4])])) [some (.own k), some (iD ks), some d, x3, y4, x5, some (.own p), some (tm l), y8, none] m2 = .ok (.nx [some (.own k), some (iD ks), some d, x3, y4, x5, some (.own p), some (tm l), some (.tup (ls.map tm)), none]) m3 := by
      rw [evC, e3, rs_ok, evG, rs_ok]
      rfl
    have big : 1000 ≤ sizeLine := by decide
    have nn := noneIn (G := G) (m := m3) (ρ := [some (.own k), some (iD ks), some d, x3, y4, x5, some (.own p), some (tm l), some (.tup (ls.map tm)), none]) (i := 9) (j := 8) (ls := ls) (.inr rfl) rfl (by simp) (by omega)
    obtain ⟨l', m4, s3, hl4, t4, b4, k4⟩ : ∃ l' m4, evC G (.ife (.and (.cmp .Is (.var 7) (.con .non)) (.cmp .Eq (.lc false (.nm 9) (.val (.var 8)) (some (.cmp .IsNot (.var 9) (.con .non))) (.var 9) [9]) (.lst []))) [(.asg (.nm 7) (.bin .Add (.con (.int 1)) (.fn "_law_take" [(.var 0), (.con (.int 4))])))] []) [some (.own k), some (iD ks), some d, x3, y4, x5, some (.own p), some (tm l), some (.tup (ls.map tm)), none] m3 = .ok (.nx [some (.own k), some (iD ks), some d, x3, y4, x5, some (.own p), some (tm l'), some (.tup (ls.map tm)), none]) m4 ∧ SmL l' ∧ tells (l', ls) = true ∧ Bx m4 k ∧ Kp m3 m4 k := by
      cases l with
      | some v =>
        refine ⟨some v, m3, ?_, hl2, rfl, b3, .rfl'⟩
        rw [evC, evE, evE, evE_var (d := tm (some v)) rfl, rs_ok, evE, rs_ok, cmD_is, rs_ok]
        show (Rs.ok (D.bl false) m3).bind _ = _
        rw [rs_ok]
        dsimp only
        rw [evCs]
      | none =>
        cases hz : (ls.filter Option.isSome).isEmpty with
        | false =>
          refine ⟨none, m3, ?_, hl2, by unfold tells; rw [hz]; rfl, b3, .rfl'⟩
          rw [hz] at nn
          rw [evC, evE, evE, evE_var (d := tm none) rfl, rs_ok, evE, rs_ok, cmD_is, rs_ok]
          show (evE G (.cmp .Eq _ _) _ _).bind _ = _
          rw [nn, rs_ok]
          dsimp only
          rw [evCs]
        | true =>
          rw [hz] at nn
          obtain ⟨r2, m5, e5, p5, p6, b5, k5⟩ := ev_takeC (ρ := [some (.own k), some (iD ks), some d, x3, y4, x5, some (.own p), some (tm none), some (.tup (ls.map tm)), none]) (i := 0) T 4 rfl b3 (by decide) (by decide)
          refine ⟨some (1 + r2), m5, ?_, fun i hi => by cases hi; omega, rfl, b5, k5⟩
          rw [evC, evE, evE, evE_var (d := tm none) rfl, rs_ok, evE, rs_ok, cmD_is, rs_ok]
          show (evE G (.cmp .Eq _ _) _ _).bind _ = _
          rw [nn, rs_ok]
          dsimp only
          rw [evCs_one, evC, evE, evE, rs_ok, e5, rs_ok, opD_add, rs_ok, evG, rs_ok]
          rfl
    obtain ⟨b', m5, e5, b5, k5⟩ := ev_zI (ρ := [some (.own k), some (iD ks), some d, x3, y4, x5, some (.own p), some (tm l'), some (.tup (ls.map tm)), none]) (i := 0) T (n := 8) rfl b4 (by decide) (by decide)
    have a4 := ((k1.trans k2).trans (k3.trans k4)).at hp hl
    have a5 := k5.at hp a4
    refine ⟨if b' then none else some (l', ls), [some (.own k), some (iD ks), some d, x3, y4, x5, some (.own p), some (tm l'), some (.tup (ls.map tm)), none], m5, ?_, ⟨_, _, _, _, rfl⟩, ?_, b5, ((k1.trans k2).trans (k3.trans k4)).trans k5⟩
    · rw [show evG G (.nm 2) d [some (.own k), some (iD ks), y2, x3, y4, x5, some (.own p), y7, y8, none] mm = .ok [some (.own k), some (iD ks), some d, x3, y4, x5, some (.own p), y7, y8, none] mm from rfl, rs_ok, evCs_nx s1, evCs_nx s2, evCs_nx s3, evCs_one]
      refine ev_append (ψ := rD) (a := if b' then none else some (l', ls)) rfl a4 ?_ a5 (by simp only [List.length_nil] at hbs; omega)
      rw [evE, evE, evEs, evE, evEs, evE_var (d := tm l') rfl, rs_ok, evEs, evE_var (d := .tup (ls.map tm)) rfl, rs_ok, evEs, rs_ok, rs_ok, rs_ok]
      simp only [List.length_cons, List.length_nil, w_two, if_true]
      rw [rs_ok, evEs, evE, rs_ok, evEs, rs_ok, rs_ok, rs_ok]
      simp only [List.length_cons, List.length_nil, w_two, if_true]
      rw [rs_ok, e5, rs_ok, two_at]
      cases b' <;> rfl
    · intro r hr
      cases b' with
      | true => cases hr
      | false => cases hr; exact ⟨l3, hl4, q3, t4⟩) ⟨_, _, _, _, rfl⟩ hb hk hl (fun a ha => absurd ha List.not_mem_nil)
  exact ⟨bs, y2, y4, y7, y8, m', e, h1, by rw [h2]; simp, h3, h4, h5, h7, h6⟩
end
end Pm

set_option maxRecDepth 100000
set_option maxHeartbeats 1000000
/-! A small claim, a great claim, drawn by the law -/
namespace Pm
open PySem L2
def bClaim : List C := [(.asg (.nm 3) (.lc false (.nm 4) (.val (.var 1)) none (.idx (.lst [(.bin .Sub (.fn "_law_take" [(.var 0), (.bin .Add (.var 4) (.con (.int 2)))]) (.con (.int 1))), (.neg (.con (.int 1))), (.var 4), (.bin .Sub (.fn "_law_take" [(.var 0), (.con (.int 63))]) (.con (.int 1)))]) (.fn "_law_take" [(.var 0), (.con (.int 4))])) [4])),
    (.asg (.nm 5) (.idx (.lst [(.fn "_law_take" [(.var 0), (.con (.int 62))]), (.fn "_law_pick" [(.var 0), (.lst [(.con (.int 0)), (.con (.int 1)), (.con (.int 58)), (.con (.int 59)), (.con (.int 60)), (.con (.int 61))])])]) (.fn "_law_take" [(.var 0), (.con (.int 2))]))),
    (.asg (.nm 6) (.lc false (.nm 7) (.rng [(.var 2)]) none (.idx (.lst [(.fn "_law_row" [(.var 0), (.blt .len [(.var 1)])]), (.con .non)]) (.blt .int [(.cmp .Eq (.fn "_law_take" [(.var 0), (.con (.int 6))]) (.con (.int 0)))])) [7])),
    (.ret (.tup [(.var 1), (.blt .tuple [(.var 3)]), (.var 5), (.blt .tuple [(.var 6)]), (.cmp .Eq (.fn "_law_take" [(.var 0), (.con (.int 8))]) (.con (.int 0)))]))]
section
variable {G G0 G1 Gr : Gm} {m : Mu} {k : Nat}
theorem blt_tupO {p : Nat} {ds : List D} (h : m[p]? = some (.lst ds)) : bltD G .tuple [.own p] m = .ok (.tup ds) m := by
  unfold bltD
  simp only [look, h]
theorem small_ok (T : DrTab G G0 G1) (h : Bx m k) : ∃ (c : Cl) (m' : Mu), runF G 1 10 bSmall [.own k] m = .ok (claimD c) m' ∧ DrOk 4 5 c ∧ Bx m' k ∧ Kp m m' k := by
  have z0 : (0 ≤ sizeLine) = True := by decide
  have z5 : (0 + 1 + 1 + 1 + 1 + 1 ≤ sizeLine) = True := by decide
  obtain ⟨ks, m1, e1, l1, q1, b1, k1⟩ := keeps_ok (ρ := [some (.own k), none, none, none, none, none, none, none, none, none]) (i := 0) (v := 2) (a := .var 0) (N := 5) T (by decide) (by decide) h rfl
  have hk1 := h.lt
  have n1 : k ≠ m1.length := by have := b1.lt; omega
  obtain ⟨ns, y4, y5, m2, e2, p2, l2, q2, b2, k2, n2⟩ := needs_loop (G := G) (m := m1 ++ [.lst []]) (p := m1.length) (x1 := some (iD ks)) (x2 := none) (x6 := none) (x7 := none) (x8 := none) (x9 := none) T (Ne.symm n1) ks l1 (fun x hx => by have := q1 x hx; omega) (x4 := none) (x5 := none) (m0 := m) k1.len b1.push (k1.trans .push) (get_last _)
  rw [List.length_append] at n2
  simp only [List.length_cons, List.length_nil] at n2
  have hk2 := b2.lt
  have n3 : k ≠ m2.length := by omega
  obtain ⟨r, m3, e3, p3, p3', b3, k3⟩ := ev_takeC (ρ := [some (.own k), some (iD ks), none, some (.own m1.length), y4, y5, some (.own m2.length), none, none, none]) (i := 0) (m := m2 ++ [.lst []]) T 3 rfl b2.push (by decide) (by decide)
  obtain ⟨n, rfl⟩ : ∃ n : Nat, r = (n : Int) := ⟨r.toNat, by omega⟩
  have hl3 : m3[m2.length]? = some (.lst []) := k3.at (Ne.symm n3) (get_last _)
  have ho3 : m3[m1.length]? = some (.lst (ns.map .int)) := k3.at (Ne.symm n1) (by rw [List.getElem?_append_left (by omega)]; exact p2)
  have hm3 : m2.length < m3.length := by have := k3.len; rw [List.length_append] at this; simp only [List.length_cons, List.length_nil] at this; omega
  obtain ⟨rs, z2, z4, z7, z8, m4, e4, p4, l4, q4, b4, k4, n4, s4⟩ := rows_loop (G := G) (m := m3) (p := m2.length) (x3 := some (.own m1.length)) T (Ne.symm n3) ks l1 ((List.range n).map fun (i : Nat) => D.int (0 + (i : Int))) (by rw [List.length_map, List.length_range]; omega) (x2 := none) (x4 := y4) (x5 := y5) (x7 := none) (x8 := none) (m0 := m2) (Nat.le_refl _) b3 (Kp.push.trans k3) hl3
  have ho4 : m4[m1.length]? = some (.lst (ns.map .int)) := by rw [s4 _ (by omega) (Ne.symm n1) (by omega)]; exact ho3
  obtain ⟨d, m5, e5, q5, b5, k5⟩ := ev_pick (ρ := [some (.own k), some (iD ks), z2, some (.own m1.length), z4, y5, some (.own m2.length), z7, z8, none]) (i := 0) (e := .lst [(.con (.int 0)), (.con (.int 5)), (.con (.int 59)), (.con (.int 60)), (.con (.int 61))]) (ds := [.int 0, .int 5, .int 59, .int 60, .int 61]) T rfl (by
    simp only [evE, evEs, rs_ok, List.length_cons, List.length_nil, z5, if_true]) b4 (by simp) (by simp)
  obtain ⟨tk, rfl⟩ : ∃ v, d = .int v := by
    simp only [List.mem_cons, List.not_mem_nil, or_false] at q5
    rcases q5 with rfl | rfl | rfl | rfl | rfl <;> exact ⟨_, rfl⟩
  have p5 := k5.at (Ne.symm n3) p4
  obtain ⟨b, m6, e6, b6, k6⟩ := ev_z (ρ := [some (.own k), some (iD ks), z2, some (.own m1.length), z4, y5, some (.own m2.length), z7, z8, none]) (i := 0) T (n := 9) rfl b5 (by decide) (by decide)
  refine ⟨⟨ks, ns, tk, rs, b⟩, m6, ?_, ⟨l1, fun x hx => by have := q1 x hx; exact ⟨this.1, by have := this.2; omega⟩, l2, q2, fun r hr => ⟨(q4 _ hr r rfl).1, (q4 _ hr r rfl).2.1, (q4 _ hr r rfl).2.2.1, (q4 _ hr r rfl).2.2.2⟩, by
    show rs.length ≤ 2
    rw [l4, List.length_map, List.length_range]; omega⟩, b6, ((k2.trans k4).trans k5).trans k6⟩
  unfold runF bSmall
  refine (if_pos (by rfl)).trans ?_
  show (evCs G (_ :: _) [some (.own k), none, none, none, none, none, none, none, none, none] m).bind _ = _
  rw [evCs_nx (ρ' := [some (.own k), some (iD ks), none, none, none, none, none, none, none, none]) (m' := m1) (by rw [evC, e1, rs_ok, evG, rs_ok]; rfl),
    evCs_nx (ρ' := [some (.own k), some (iD ks), none, some (.own m1.length), none, none, none, none, none, none]) (m' := m1 ++ [.lst []]) (by
      rw [evC, evE, evEs, rs_ok]
      simp only [List.length_nil, z0, if_true, rs_ok]
      rfl),
    evCs_nx (ρ' := [some (.own k), some (iD ks), none, some (.own m1.length), y4, y5, none, none, none, none]) (m' := m2) (by
      rw [evC_for, evI_tup (ds := ks.map .int) (evE_var rfl), rs_ok]
      exact e2),
    evCs_nx (ρ' := [some (.own k), some (iD ks), none, some (.own m1.length), y4, y5, some (.own m2.length), none, none, none]) (m' := m2 ++ [.lst []]) (by
      rw [evC, evE, evEs, rs_ok]
      simp only [List.length_nil, z0, if_true, rs_ok]
      rfl),
    evCs_nx (ρ' := [some (.own k), some (iD ks), z2, some (.own m1.length), z4, y5, some (.own m2.length), z7, z8, none]) (m' := m4) (by
      rw [evC_for, evI_rngM e3 (by omega), rs_ok]
      exact e4),
    evCs_rt (d := claimD ⟨ks, ns, tk, rs, b⟩) (m' := m6) (by
      rw [evC, evE, evEs, evE_var (d := iD ks) rfl, rs_ok, evEs, evE, evEs, evE_var (d := .own m1.length) rfl, rs_ok, evEs, rs_ok, rs_ok, blt_tupO ho4, rs_ok, evEs, e5, rs_ok, evEs, evE, evEs, evE_var (d := .own m2.length) rfl, rs_ok, evEs, rs_ok, rs_ok, blt_tupO p5, rs_ok, evEs, e6, rs_ok, evEs, rs_ok, rs_ok, rs_ok, rs_ok, rs_ok, rs_ok]
      simp only [List.length_cons, List.length_nil, z5, if_true]
      rfl), rs_ok]
theorem claim_ok (T : DrTab G G0 G1) (hr : G.fn "_law_row" = some (runF Gr 2 6 bRow)) (Tr : DrTab Gr G0 G1) (ks : List Int) (l1 : ks.length ≤ 3) (q1 : ∀ x ∈ ks, 0 ≤ x ∧ x ≤ 60) {n : Nat} (hn : n ≤ 2) (h : Bx m k) : ∃ (c : Cl) (m' : Mu), runF G 3 8 bClaim [.own k, iD ks, .int (n : Nat)] m = .ok (claimD c) m' ∧ DrOk 60 61 c ∧ Bx m' k ∧ Kp m m' k := by
  have z4 : (0 + 1 + 1 + 1 + 1 ≤ sizeLine) = True := by decide
  have z5 : (0 + 1 + 1 + 1 + 1 + 1 ≤ sizeLine) = True := by decide
  have z6 : (0 + 1 + 1 + 1 + 1 + 1 + 1 ≤ sizeLine) = True := by decide
  have t3 := three
  obtain ⟨ns, m1, e1, ln, qn, b1, k1⟩ := lc_draw (G := G) (ρ := [some (.own k), some (iD ks), some (.int (n : Nat)), none, none, none, none, none]) (k := k) (m := m) (m0 := m) (g := .nm 4) (it := .val (.var 1)) (elt := .idx (.lst [(.bin .Sub (.fn "_law_take" [(.var 0), (.bin .Add (.var 4) (.con (.int 2)))]) (.con (.int 1))), (.neg (.con (.int 1))), (.var 4), (.bin .Sub (.fn "_law_take" [(.var 0), (.con (.int 63))]) (.con (.int 1)))]) (.fn "_law_take" [(.var 0), (.con (.int 4))])) (ws := [4]) (ds := ks.map .int) D.int (fun x => -1 ≤ x ∧ x ≤ 61) (evI_tup (evE_var rfl)) (by rw [List.length_map]; omega) h fun d hd mm hb hk => by
    rw [List.mem_map] at hd
    obtain ⟨x, hx, rfl⟩ := hd
    obtain ⟨hx1, hx2⟩ := q1 x hx
    obtain ⟨r, m2, e2, p2, p2', b2, k2⟩ := ev_take (ρ := [some (.own k), some (iD ks), some (.int (n : Nat)), none, some (.int x), none, none, none]) (i := 0) (e := .bin .Add (.var 4) (.con (.int 2))) (n := x + 2) T rfl (by rw [evE, evE_var (d := .int x) rfl, rs_ok, evE, rs_ok, opD_add]) hb (by omega) (by omega)
    obtain ⟨r3, m3, e3, p3, p3', b3, k3⟩ := ev_takeC (ρ := [some (.own k), some (iD ks), some (.int (n : Nat)), none, some (.int x), none, none, none]) (i := 0) T 63 rfl b2 (by decide) (by decide)
    obtain ⟨i, m4, e4, p4, p4', b4, k4⟩ := ev_takeC (ρ := [some (.own k), some (iD ks), some (.int (n : Nat)), none, some (.int x), none, none, none]) (i := 0) T 4 rfl b3 (by decide) (by decide)
    obtain ⟨d, hd, hin⟩ := atR (l := [D.int (r - 1), .int (-1), .int x, .int (r3 - 1)]) p4 p4'
    obtain ⟨v, rfl, hv⟩ : ∃ v, d = .int v ∧ -1 ≤ v ∧ v ≤ 61 := by
      simp only [List.mem_cons, List.not_mem_nil, or_false] at hin
      rcases hin with rfl | rfl | rfl | rfl <;> exact ⟨_, rfl, by omega, by omega⟩
    refine ⟨v, m4, ?_, hv, b4, (k2.trans k3).trans k4⟩
    rw [show evG G (.nm 4) (.int x) (wipeD [some (.own k), some (iD ks), some (.int (n : Nat)), none, none, none, none, none] [4]) mm = .ok [some (.own k), some (iD ks), some (.int (n : Nat)), none, some (.int x), none, none, none] mm from rfl, rs_ok, evE, evE, evEs, evE, e2, rs_ok, evE, rs_ok, opD_sub, rs_ok, evEs, evE, evE, rs_ok]
    dsimp only
    rw [rs_ok, evEs, evE_var (d := .int x) rfl, rs_ok, evEs, evE, e3, rs_ok, evE, rs_ok, opD_sub, rs_ok, evEs, rs_ok, rs_ok, rs_ok, rs_ok, rs_ok]
    simp only [List.length_cons, List.length_nil, z4, if_true]
    rw [rs_ok, e4, rs_ok, idx_lst hd]
  obtain ⟨r2, m2, e2, p2, p2', b2, k2⟩ := ev_takeC (ρ := [some (.own k), some (iD ks), some (.int (n : Nat)), some (.lst (ns.map .int)), none, none, none, none]) (i := 0) T 62 rfl b1 (by decide) (by decide)
  obtain ⟨d3, m3, e3, q3, b3, k3⟩ := ev_pick (ρ := [some (.own k), some (iD ks), some (.int (n : Nat)), some (.lst (ns.map .int)), none, none, none, none]) (i := 0) (e := .lst [(.con (.int 0)), (.con (.int 1)), (.con (.int 58)), (.con (.int 59)), (.con (.int 60)), (.con (.int 61))]) (ds := [.int 0, .int 1, .int 58, .int 59, .int 60, .int 61]) T rfl (by
    simp only [evE, evEs, rs_ok, List.length_cons, List.length_nil, z6, if_true]) b2 (by simp) (by simp)
  obtain ⟨v3, rfl⟩ : ∃ v, d3 = .int v := by
    simp only [List.mem_cons, List.not_mem_nil, or_false] at q3
    rcases q3 with rfl | rfl | rfl | rfl | rfl | rfl <;> exact ⟨_, rfl⟩
  obtain ⟨i4, m4, e4, p4, p4', b4, k4⟩ := ev_takeC (ρ := [some (.own k), some (iD ks), some (.int (n : Nat)), some (.lst (ns.map .int)), none, none, none, none]) (i := 0) T 2 rfl b3 (by decide) (by decide)
  obtain ⟨d4, hd4, hin4⟩ := atR (l := [D.int r2, .int v3]) p4 p4'
  obtain ⟨tk, rfl⟩ : ∃ v, d4 = .int v := by
    simp only [List.mem_cons, List.not_mem_nil, or_false] at hin4
    rcases hin4 with rfl | rfl <;> exact ⟨_, rfl⟩
  obtain ⟨rs, m5, e5, l5, q5, b5, k5⟩ := lc_draw (G := G) (ρ := [some (.own k), some (iD ks), some (.int (n : Nat)), some (.lst (ns.map .int)), none, some (.int tk), none, none]) (k := k) (m := m4) (m0 := m4) (g := .nm 7) (it := .rng [(.var 2)]) (elt := .idx (.lst [(.fn "_law_row" [(.var 0), (.blt .len [(.var 1)])]), (.con .non)]) (.blt .int [(.cmp .Eq (.fn "_law_take" [(.var 0), (.con (.int 6))]) (.con (.int 0)))])) (ws := [7]) rD (rowsOk ks.length) (evI_rngM (n := n) (evE_var rfl) (by omega)) (by rw [List.length_map, List.length_range]; omega) b4 fun d hd mm hb hk => by
    obtain ⟨r6, m6, e6, ok6, b6, k6⟩ := row_ok Tr.t Tr.p Tr.t1 (G := Gr) (n := ks.length) hb l1
    obtain ⟨b, m7, e7, b7, k7⟩ := ev_zI (ρ := [some (.own k), some (iD ks), some (.int (n : Nat)), some (.lst (ns.map .int)), none, some (.int tk), none, some d]) (i := 0) T (n := 6) rfl b6 (by decide) (by decide)
    have ln : bltD G .len [iD ks] mm = .ok (.int (ks.length : Nat)) mm := by
      rw [show bltD G .len [iD ks] mm = .ok (.int ((ks.map D.int).length : Nat)) mm from rfl, List.length_map]
    refine ⟨if b then none else some r6, m7, ?_, ?_, b7, k6.trans k7⟩
    · rw [show evG G (.nm 7) d (wipeD [some (.own k), some (iD ks), some (.int (n : Nat)), some (.lst (ns.map .int)), none, some (.int tk), none, none] [7]) mm = .ok [some (.own k), some (iD ks), some (.int (n : Nat)), some (.lst (ns.map .int)), none, some (.int tk), none, some d] mm from rfl, rs_ok, evE, evE, evEs, evE, hr]
      dsimp only
      rw [evEs, evE_var (d := .own k) rfl, rs_ok, evEs, evE, evEs, evE_var (d := iD ks) rfl, rs_ok, evEs, rs_ok, rs_ok, ln, rs_ok, evEs, rs_ok, rs_ok, rs_ok, e6, rs_ok, evEs, evE, rs_ok, evEs, rs_ok, rs_ok, rs_ok]
      simp only [List.length_cons, List.length_nil, w_two, if_true]
      rw [rs_ok, e7, rs_ok, two_at]
      cases b <;> rfl
    · intro r hr
      cases b with
      | true => cases hr
      | false =>
        cases hr
        refine ⟨ok6.len, ok6.left, ok6.lost, ?_⟩
        unfold tells
        rcases ok6.some with q | ⟨o, ho, q⟩
        · cases h6 : r6.1 with
          | none => exact absurd h6 q
          | some v => rfl
        · have : (r6.2.filter Option.isSome).isEmpty = false := List.isEmpty_eq_false_iff_exists_mem.mpr ⟨o, List.mem_filter.mpr ⟨ho, by cases o with
            | none => exact absurd rfl q
            | some v => rfl⟩⟩
          rw [this]
          simp
  obtain ⟨b, m6, e6, b6, k6⟩ := ev_z (ρ := [some (.own k), some (iD ks), some (.int (n : Nat)), some (.lst (ns.map .int)), none, some (.int tk), some (.lst (rs.map rD)), none]) (i := 0) T (n := 8) rfl b5 (by decide) (by decide)
  refine ⟨⟨ks, ns, tk, rs, b⟩, m6, ?_, ⟨l1, q1, by rw [List.length_map] at ln; exact ln, qn, fun r hr => q5 _ hr r rfl, by
    show rs.length ≤ 2
    rw [l5, List.length_map, List.length_range]; omega⟩, b6, (((k1.trans k2).trans (k3.trans k4)).trans k5).trans k6⟩
  unfold runF bClaim
  refine (if_pos (by rfl)).trans ?_
  show (evCs G (_ :: _) [some (.own k), some (iD ks), some (.int (n : Nat)), none, none, none, none, none] m).bind _ = _
  rw [evCs_nx (ρ' := [some (.own k), some (iD ks), some (.int (n : Nat)), some (.lst (ns.map .int)), none, none, none, none]) (m' := m1) (by rw [evC, e1, rs_ok, evG, rs_ok]; rfl),
    evCs_nx (ρ' := [some (.own k), some (iD ks), some (.int (n : Nat)), some (.lst (ns.map .int)), none, some (.int tk), none, none]) (m' := m4) (by
      rw [evC, evE, evE, evEs, e2, rs_ok, evEs, e3, rs_ok, evEs, rs_ok, rs_ok, rs_ok]
      simp only [List.length_cons, List.length_nil, w_two, if_true]
      rw [rs_ok, e4, rs_ok, idx_lst hd4, rs_ok, evG, rs_ok]
      rfl),
    evCs_nx (ρ' := [some (.own k), some (iD ks), some (.int (n : Nat)), some (.lst (ns.map .int)), none, some (.int tk), some (.lst (rs.map rD)), none]) (m' := m5) (by rw [evC, e5, rs_ok, evG, rs_ok]; rfl),
    evCs_rt (d := claimD ⟨ks, ns, tk, rs, b⟩) (m' := m6) (by
      rw [evC, evE, evEs, evE_var (d := iD ks) rfl, rs_ok, evEs, evE, evEs, evE_var (d := .lst (ns.map .int)) rfl, rs_ok, evEs, rs_ok, rs_ok, show bltD G .tuple [.lst (ns.map .int)] m5 = .ok (iD ns) m5 from rfl, rs_ok, evEs, evE_var (d := .int tk) rfl, rs_ok, evEs, evE, evEs, evE_var (d := .lst (rs.map rD)) rfl, rs_ok, evEs, rs_ok, rs_ok, show bltD G .tuple [.lst (rs.map rD)] m5 = .ok (.tup (rs.map rD)) m5 from rfl, rs_ok, evEs, e6, rs_ok, evEs, rs_ok, rs_ok, rs_ok, rs_ok, rs_ok, rs_ok]
      simp only [List.length_cons, List.length_nil, z5, if_true]
      rfl), rs_ok]
end
end Pm

set_option maxRecDepth 100000
set_option maxHeartbeats 1000000
/-! One turn of the law -/
namespace Pm
open PySem L2
def cTurn : List C := [(.asg (.nm 4) (.fn "_law_small" [(.var 2)])), (.asg (.nm 5) (.fn "_law_life" [(.var 4)])), (.asg (.nm 6) (.fn "_law_told" [(.met (.var 5) "plain" [])])), (.ife (.or (.not (.tru (.fn "_law_alike" [(.fn "_law_told" [(.var 5)]), (.var 4)]))) (.cmp .NotEq (.met (.met (.var 5) "plain" []) "plain" []) (.met (.var 5) "plain" []))) [(.ret (.con (.bl false)))] []), (.ife (.not (.tru (.fn "_law_alike" [(.var 6), (.fn "_law_plain" [(.var 4)])]))) [(.ret (.con (.bl false)))] []), (.ife (.not (.tru (.fn "_law_never" [(.var 4)]))) [(.for (.tup [(.nm 7), (.nm 8)]) (.zip (.idx (.var 4) (.con (.int 3))) (.idx (.var 6) (.con (.int 3)))) [(.ife (.not (.tru (.fn "_law_shows_alike" [(.var 4), (.var 7), (.var 8)]))) [(.ret (.con (.bl false)))] [])])] []), (.asg (.nm 9) (.blt .tuple [(.lc false (.nm 10) (.rng [(.fn "_law_take" [(.var 2), (.con (.int 4))])]) none (.fn "_law_take" [(.var 2), (.con (.int 61))]) [10])])), (.asg (.nm 11) (.fn "_law_claim" [(.var 2), (.var 9), (.bin .Add (.con (.int 1)) (.fn "_law_take" [(.var 2), (.con (.int 2))]))])), (.ife (.not (.tru (.fn "_law_alike" [(.fn "_law_told" [(.met (.fn "_law_life" [(.var 11)]) "plain" [])]), (.fn "_law_plain" [(.var 11)])]))) [(.ret (.con (.bl false)))] [])]
theorem pls_all {α : Type} (f : α → D) : ∀ l : List α, (∀ x ∈ l, (f x).pl = true) → D.pls (l.map f) = true
  | [], _ => by simp [D.pls]
  | a :: l, h => by
    rw [List.map_cons, show D.pls (f a :: l.map f) = ((f a).pl && D.pls (l.map f)) by simp [D.pls], h a List.mem_cons_self, pls_all f l fun x hx => h x (List.mem_cons_of_mem _ hx)]
    rfl
theorem szs_all {α : Type} (f : α → D) (B : Nat) : ∀ l : List α, (∀ x ∈ l, (f x).sz ≤ B) → D.szs (l.map f) ≤ l.length * B
  | [], _ => by simp [D.szs]
  | a :: l, h => by
    have h1 := h a List.mem_cons_self
    have h2 := szs_all f B l fun x hx => h x (List.mem_cons_of_mem _ hx)
    rw [List.map_cons, show D.szs (f a :: l.map f) = (f a).sz + D.szs (l.map f) by simp [D.szs], List.length_cons, Nat.succ_mul]
    omega
theorem iD_pl (l : List Int) : (iD l).pl = true := by
  rw [show (iD l).pl = D.pls (l.map .int) by simp [iD, D.pl]]
  exact pls_all _ _ fun _ _ => by simp [D.pl]
theorem iD_sz (l : List Int) : (iD l).sz ≤ l.length + 1 := by
  rw [show (iD l).sz = D.szs (l.map .int) + 1 by simp [iD, D.sz]]
  have := szs_all D.int 1 l fun _ _ => by simp [D.sz]
  omega
theorem tms_pl (l : Ls) : D.pls (l.map tm) = true := pls_all _ _ fun o _ => by cases o <;> simp [tm, D.pl]
theorem tms_sz (l : Ls) : D.szs (l.map tm) ≤ l.length := by
  have := szs_all tm 1 l fun o _ => by cases o <;> simp [tm, D.sz]
  omega
theorem rD_pl (o : Option Rw) : (rD o).pl = true := by
  cases o with
  | none => simp [rD, D.pl]
  | some r =>
    have h : (tm r.1).pl = true := by cases r.1 <;> simp [tm, D.pl]
    simp [rD, rowD, D.pl, D.pls, tms_pl, h]
theorem rD_sz (o : Option Rw) (n : Nat) (h : ∀ r, o = some r → r.2.length ≤ n) : (rD o).sz ≤ n + 3 := by
  cases o with
  | none => simp [rD, D.sz]
  | some r =>
    have h1 : (tm r.1).sz = 1 := by cases r.1 <;> simp [tm, D.sz]
    have h2 := tms_sz r.2
    have := h r rfl
    simp [rD, rowD, D.sz, D.szs, h1]
    omega
theorem claim_pl (c : Cl) : (claimD c).pl = true := by
  have h1 := iD_pl c.keeps
  have h2 := iD_pl c.needs
  have h3 : D.pls (c.rows.map rD) = true := pls_all _ _ fun o _ => rD_pl o
  simp [claimD, D.pl, D.pls, h1, h2, h3]
theorem claim_sz {c : Cl} (h : ClOk c) : (claimD c).sz ≤ 1000000 := by
  have h1 := iD_sz c.keeps
  have h2 := iD_sz c.needs
  have h3 := szs_all rD 6 c.rows fun o ho => rD_sz o 3 fun r hr => by
    subst hr
    rw [(h.row r ho).1]
    exact h.lk
  have := h.lk
  have := h.ln
  have := h.lr
  simp [claimD, D.sz, D.szs]
  omega
theorem Bx.app {m : Mu} {k : Nat} (h : Bx m k) (e : List O) : Bx (m ++ e) k := by
  obtain ⟨a, b, c, h⟩ := h
  exact ⟨a, b, c, by rw [List.getElem?_append_left (List.getElem?_eq_some_iff.mp h).1]; exact h⟩
/-- what the law rests on -/
structure LawTab (G G0 G1 : Gm) : Prop where
  dr : DrTab G G0 G1
  sm : ∃ Gs, G.fn "_law_small" = some (runF Gs 1 10 bSmall) ∧ DrTab Gs G0 G1
  cl : ∃ Gc Gr, G.fn "_law_claim" = some (runF Gc 3 8 bClaim) ∧ DrTab Gc G0 G1 ∧ Gc.fn "_law_row" = some (runF Gr 2 6 bRow) ∧ DrTab Gr G0 G1
  li : ∃ Gl Gi Gt, G.fn "_law_life" = some (runF Gl 1 7 bLife) ∧ ToTab Gl Gi Gt
  to : ∃ Gl Gi Gt, G.fn "_law_told" = some (runF Gl 1 3 bTold) ∧ ToTab Gl Gi Gt
  al : ∃ Ga, G.fn "_law_alike" = some (runF Ga 2 5 bAlike)
  pl : ∃ Gp Gn Gr Gb, G.fn "_law_plain" = some (runF Gp 1 3 bLplain) ∧ Gp.fn "_law_never" = some (runF Gn 1 4 bLnever) ∧ Gr.fn "_law_bound" = some (runF Gb 2 7 bBound) ∧ Gp.fn "_law_plain_row" = some (runF Gr 2 13 bLplainRow)
  nv : ∃ Gn, G.fn "_law_never" = some (runF Gn 1 4 bLnever)
  sh : ∃ Gh Gx Gs Gb Gw, G.fn "_law_shows_alike" = some (runF Gh 3 9 bShows) ∧ ShTab Gh Gx Gs Gb Gw
  me : ∃ Gm Gt Gn Gi Gr Gl Gri Gc Ge Go, G.me "LifeType" "plain" = some (runF Gm 1 3 bTplain) ∧ PlTab Gm Gt Gn Gi Gr Gl Gri Gc Ge Go
  ne : ∀ c m, cmD G .NotEq (lifeI c) (lifeI c) m = .ok (.bl false) m
section
variable {G G0 G1 : Gm} {m : Mu} {k : Nat} {ρ : Env}
theorem met_plain (T : LawTab G G0 G1) {e : E} {c : Cl} {m1 : Mu} (he : evE G e ρ m = .ok (lifeI c) m1) (h : ClOk c) : ∃ x, evE G (.met e "plain" []) ρ m = .ok (lifeI (plainC c)) (m1 ++ x) := by
  obtain ⟨Gm, Gt, Gn, Gi, Gr, Gl, Gri, Gc, Ge, Go, h1, h2⟩ := T.me
  obtain ⟨x, hx⟩ := plain_life (m := m1) h2 c h
  refine ⟨x, ?_⟩
  have hm : metF G m1 (lifeI c) "plain" = some (runF Gm 1 3 bTplain) := by
    unfold metF
    rw [ins_life]
    show (match (lifeS c).lookup ("plain" : Str) with | none => G.me "LifeType" "plain" | some _ => none) = _
    rw [show (lifeS c).lookup ("plain" : Str) = none from rfl, h1]
  rw [evE, he, rs_ok, hm]
  dsimp only
  rw [evEs, rs_ok, hx]
theorem told_at (T : LawTab G G0 G1) {e : E} {c : Cl} {m1 : Mu} (he : evE G e ρ m = .ok (lifeI c) m1) (h : ClOk c) : evE G (.fn "_law_told" [e]) ρ m = .ok (claimD c) m1 := by
  obtain ⟨Gl, Gi, Gt, h1, h2⟩ := T.to
  rw [evE, h1]
  dsimp only
  rw [evEs, he, rs_ok, evEs, rs_ok, rs_ok, told_ok h2 c h.lr]
theorem alike_at (T : LawTab G G0 G1) {a b : E} {c : Cl} {m1 m2 : Mu} (h : ClOk c) (ha : evE G a ρ m = .ok (claimD c) m1) (hb : evE G b ρ m1 = .ok (claimD c) m2) : evE G (.not (.tru (.fn "_law_alike" [a, b]))) ρ m = .ok (.bl false) (m2 ++ [.lst []]) := by
  obtain ⟨Ga, h1⟩ := T.al
  rw [evE, evE, evE, h1]
  dsimp only
  rw [evEs, ha, rs_ok, evEs, hb, rs_ok, evEs, rs_ok, rs_ok, rs_ok, alike_refl Ga (claim_pl c) (claim_sz h), rs_ok, truB, rs_ok]
  rfl
theorem plain_at (T : LawTab G G0 G1) {i : Nat} {c : Cl} (hi : ρ[i]? = some (some (claimD c))) (h : ClOk3 c) : ∃ x, evE G (.fn "_law_plain" [(.var i)]) ρ m = .ok (claimD (plainC c)) (m ++ x) := by
  obtain ⟨Gp, Gn, Gr, Gb, h1, h2, h3, h4⟩ := T.pl
  obtain ⟨x, hx⟩ := lplain_ok (m := m) h2 h3 h4 c h
  exact ⟨x, call1 h1 hi hx⟩
theorem plain_big {c : Cl} (h : ClOk c) : ClOk3 c → True := fun _ => trivial
/-- rows and plain rows are alike -/
theorem shows_loop (T : LawTab G G0 G1) (c : Cl) (h : SmOk c) (hv : nvC c = false) {S j q t l b x9 x10 x11 : Option D} : ∀ (os : List (Option Rw)), (∀ o ∈ os, o ∈ c.rows) → ∀ (x7 x8 : Option D) (m : Mu), ∃ y7 y8 e, forL [] (fun d ρ m => (evG G (.tup [(.nm 7), (.nm 8)]) d ρ m).bind fun ρ m => evCs G [(.ife (.not (.tru (.fn "_law_shows_alike" [(.var 4), (.var 7), (.var 8)]))) [(.ret (.con (.bl false)))] [])] ρ m) (os.map fun o => D.tup [rD o, rD (o.bind (plainRow c.keeps c.needs))]) [S, j, b, q, some (claimD c), l, t, x7, x8, x9, x10, x11] m = .ok (.nx [S, j, b, q, some (claimD c), l, t, y7, y8, x9, x10, x11]) (m ++ e)
  | [], _, x7, x8, m => ⟨x7, x8, [], by unfold forL; rw [List.append_nil]; rfl⟩
  | o :: os, ho, x7, x8, m => by
    obtain ⟨Gh, Gx, Gs, Gb, Gw, h1, h2⟩ := T.sh
    obtain ⟨e, he⟩ := shows_ok (m := m) h2 c h hv o (ho o List.mem_cons_self)
    obtain ⟨y7, y8, e2, ih⟩ := shows_loop T c h hv (S := S) (j := j) (q := q) (t := t) (l := l) (b := b) (x9 := x9) (x10 := x10) (x11 := x11) os (fun x hx => ho x (List.mem_cons_of_mem _ hx)) (some (rD o)) (some (rD (o.bind (plainRow c.keeps c.needs)))) (m ++ e)
    refine ⟨y7, y8, e ++ e2, ?_⟩
    rw [List.map_cons]
    unfold forL
    rw [show evG G (.tup [(.nm 7), (.nm 8)]) (.tup [rD o, rD (o.bind (plainRow c.keeps c.needs))]) [S, j, b, q, some (claimD c), l, t, x7, x8, x9, x10, x11] m = .ok [S, j, b, q, some (claimD c), l, t, some (rD o), some (rD (o.bind (plainRow c.keeps c.needs))), x9, x10, x11] m by simp only [evG, evGs, List.length_cons, List.length_nil, if_true, rs_ok, List.set_cons_succ, List.set_cons_zero], rs_ok, evCs_one, evC, evE, evE, call3 h1 rfl rfl rfl he, rs_ok, truB, rs_ok]
    simp only [Bool.not_true]
    rw [rs_ok]
    dsimp only
    rw [evCs, rs_ok]
    dsimp only
    rw [if_pos (show okW [] _ = true from rfl), ih, List.append_assoc]
theorem turn_ok (T : LawTab G G0 G1) {S j q x4 x5 x6 x7 x8 x9 x10 x11 : Option D} (hb : Bx m k) : ∃ y4 y5 y6 y7 y8 y9 y10 y11 m', evCs G cTurn [S, j, some (.own k), q, x4, x5, x6, x7, x8, x9, x10, x11] m = .ok (.nx [S, j, some (.own k), q, y4, y5, y6, y7, y8, y9, y10, y11]) m' ∧ Bx m' k := by
  obtain ⟨Gs, s1, s2⟩ := T.sm
  obtain ⟨c, m1, e1, d1, b1, k1⟩ := small_ok s2 hb
  have ok2 := d1.ok2 (by decide)
  have ok := d1.ok
  have okp := plainC_ok ok2
  have ok3 := d1.ok3 (by decide)
  obtain ⟨Gl, Gi, Gt, l1, l2⟩ := T.li
  obtain ⟨e2, h2⟩ := life_ok (m := m1) l2 c ok.lr
  obtain ⟨e3, h3⟩ := met_plain (ρ := [S, j, some (.own k), q, some (claimD c), some (lifeI c), x6, x7, x8, x9, x10, x11]) (m := m1 ++ e2) (e := .var 5) T (evE_var rfl) ok
  have h3' := told_at T h3 okp
  -- the first question
  have h4 := alike_at (ρ := [S, j, some (.own k), q, some (claimD c), some (lifeI c), some (claimD (plainC c)), x7, x8, x9, x10, x11]) (m := m1 ++ e2 ++ e3) (a := .fn "_law_told" [(.var 5)]) (b := .var 4) T ok (told_at T (evE_var rfl) ok) (evE_var rfl)
  obtain ⟨e5, h5⟩ := met_plain (ρ := [S, j, some (.own k), q, some (claimD c), some (lifeI c), some (claimD (plainC c)), x7, x8, x9, x10, x11]) (m := m1 ++ e2 ++ e3 ++ [.lst []]) (e := .var 5) T (evE_var rfl) ok
  obtain ⟨e6, h6⟩ := met_plain T h5 okp
  rw [plainC_idem ok2] at h6
  obtain ⟨e7, h7⟩ := met_plain (ρ := [S, j, some (.own k), q, some (claimD c), some (lifeI c), some (claimD (plainC c)), x7, x8, x9, x10, x11]) (m := m1 ++ e2 ++ e3 ++ [.lst []] ++ e5 ++ e6) (e := .var 5) T (evE_var rfl) ok
  have q4 : evC G (.ife (.or (.not (.tru (.fn "_law_alike" [(.fn "_law_told" [(.var 5)]), (.var 4)]))) (.cmp .NotEq (.met (.met (.var 5) "plain" []) "plain" []) (.met (.var 5) "plain" []))) [(.ret (.con (.bl false)))] []) [S, j, some (.own k), q, some (claimD c), some (lifeI c), some (claimD (plainC c)), x7, x8, x9, x10, x11] (m1 ++ e2 ++ e3) = .ok (.nx [S, j, some (.own k), q, some (claimD c), some (lifeI c), some (claimD (plainC c)), x7, x8, x9, x10, x11]) (m1 ++ e2 ++ e3 ++ [.lst []] ++ e5 ++ e6 ++ e7) := by
    rw [evC, evE, h4, rs_ok]
    dsimp only
    rw [evE, h6, rs_ok, h7, rs_ok, T.ne, rs_ok]
    dsimp only
    rw [evCs]
  -- the second
  obtain ⟨e8, h8⟩ := plain_at (ρ := [S, j, some (.own k), q, some (claimD c), some (lifeI c), some (claimD (plainC c)), x7, x8, x9, x10, x11]) (i := 4) (m := m1 ++ e2 ++ e3 ++ [.lst []] ++ e5 ++ e6 ++ e7) T rfl ok3
  have h9 := alike_at (ρ := [S, j, some (.own k), q, some (claimD c), some (lifeI c), some (claimD (plainC c)), x7, x8, x9, x10, x11]) (a := .var 6) (m := m1 ++ e2 ++ e3 ++ [.lst []] ++ e5 ++ e6 ++ e7) T okp (evE_var rfl) h8
  obtain ⟨M9, hM9⟩ : ∃ M9, M9 = m1 ++ e2 ++ e3 ++ [.lst []] ++ e5 ++ e6 ++ e7 ++ e8 ++ [O.lst []] := ⟨_, rfl⟩
  have b9 : Bx M9 k := by rw [hM9]; exact (((((((b1.app _).app _).app _).app _).app _).app _).app _).app _
  -- the third
  obtain ⟨Gn, n1⟩ := T.nv
  have h10 : ∀ mm, evE G (.not (.tru (.fn "_law_never" [(.var 4)]))) [S, j, some (.own k), q, some (claimD c), some (lifeI c), some (claimD (plainC c)), x7, x8, x9, x10, x11] mm = .ok (.bl (!nvC c)) mm := fun mm => by
    rw [evE, evE, call1 n1 rfl (lnever_ok c (by rw [ok.ln]; exact ok.lk)), rs_ok, truB, rs_ok]
  obtain ⟨y7, y8, e10, q10⟩ : ∃ y7 y8 e, evC G (.ife (.not (.tru (.fn "_law_never" [(.var 4)]))) [(.for (.tup [(.nm 7), (.nm 8)]) (.zip (.idx (.var 4) (.con (.int 3))) (.idx (.var 6) (.con (.int 3)))) [(.ife (.not (.tru (.fn "_law_shows_alike" [(.var 4), (.var 7), (.var 8)]))) [(.ret (.con (.bl false)))] [])])] []) [S, j, some (.own k), q, some (claimD c), some (lifeI c), some (claimD (plainC c)), x7, x8, x9, x10, x11] M9 = .ok (.nx [S, j, some (.own k), q, some (claimD c), some (lifeI c), some (claimD (plainC c)), y7, y8, x9, x10, x11]) (M9 ++ e) := by
    cases hv : nvC c with
    | true =>
      refine ⟨x7, x8, [], ?_⟩
      rw [evC, h10, rs_ok, hv]
      simp only [Bool.not_true]
      rw [evCs, List.append_nil]
    | false =>
      obtain ⟨y7, y8, e, he⟩ := shows_loop T c d1.sm hv (S := S) (j := j) (q := q) (t := some (claimD (plainC c))) (l := some (lifeI c)) (b := some (.own k)) (x9 := x9) (x10 := x10) (x11 := x11) c.rows (fun o ho => ho) x7 x8 M9
      refine ⟨y7, y8, e, ?_⟩
      rw [evC, h10, rs_ok, hv]
      simp only [Bool.not_false]
      have hp : plainC c = ⟨c.keeps, c.needs, min c.took 60, rowsP c, false⟩ := by unfold plainC; rw [hv]; rfl
      have hz : List.zipWith (fun x y => D.tup [x, y]) (c.rows.map rD) ((plainC c).rows.map rD) = c.rows.map fun o => D.tup [rD o, rD (o.bind (plainRow c.keeps c.needs))] := by
        rw [hp]
        show List.zipWith _ (c.rows.map rD) ((rowsP c).map rD) = _
        unfold rowsP
        generalize c.rows = l
        induction l with
        | nil => rfl
        | cons a l ih => rw [List.map_cons, List.map_cons, List.map_cons, List.zipWith_cons_cons, ih, List.map_cons]
      rw [evCs_one, evC_for, evI_zip (cl3 rfl) (cl3 rfl), rs_ok]
      dsimp only
      rw [hz]
      exact he
  have b10 : Bx (M9 ++ e10) k := b9.app _
  obtain ⟨ks, m11, h11, l11, r11, b11, k11⟩ := keeps_ok (ρ := [S, j, some (.own k), q, some (claimD c), some (lifeI c), some (claimD (plainC c)), y7, y8, x9, x10, x11]) (i := 2) (v := 10) (a := .var 0) (N := 61) T.dr (by decide) (by decide) b10 rfl
  obtain ⟨t, m12, h12, t1, t2, b12, k12⟩ := ev_takeC (ρ := [S, j, some (.own k), q, some (claimD c), some (lifeI c), some (claimD (plainC c)), y7, y8, some (iD ks), x10, x11]) (i := 2) T.dr 2 rfl b11 (by decide) (by decide)
  obtain ⟨n, hn⟩ : ∃ n : Nat, 1 + t = (n : Int) := ⟨(1 + t).toNat, by omega⟩
  obtain ⟨Gc, Gr, c1, c2, c3, c4⟩ := T.cl
  obtain ⟨c', m13, h13, d13, b13, k13⟩ := claim_ok c2 c3 c4 ks l11 (fun x hx => by have := r11 x hx; omega) (n := n) (by omega) b12
  have okc := d13.ok
  have okc3 := d13.ok3 (by decide)
  obtain ⟨e14, h14⟩ := life_ok (m := m13) l2 c' okc.lr
  obtain ⟨e15, h15⟩ := met_plain (ρ := [S, j, some (.own k), q, some (claimD c), some (lifeI c), some (claimD (plainC c)), y7, y8, some (iD ks), x10, some (claimD c')]) (m := m13) T (call1 (i := 11) l1 rfl h14) okc
  have okcp : ClOk (plainC c') := plainC_okB d13
  obtain ⟨e16, h16⟩ := plain_at (ρ := [S, j, some (.own k), q, some (claimD c), some (lifeI c), some (claimD (plainC c)), y7, y8, some (iD ks), x10, some (claimD c')]) (i := 11) (m := m13 ++ e14 ++ e15) T rfl okc3
  have h17 := alike_at T okcp (told_at T h15 okcp) h16
  refine ⟨some (claimD c), some (lifeI c), some (claimD (plainC c)), y7, y8, some (iD ks), x10, some (claimD c'), m13 ++ e14 ++ e15 ++ e16 ++ [.lst []], ?_, (((b13.app _).app _).app _).app _⟩
  unfold cTurn
  rw [evCs_nx (ρ' := [S, j, some (.own k), q, some (claimD c), x5, x6, x7, x8, x9, x10, x11]) (m' := m1) (by rw [evC, call1 s1 rfl e1, rs_ok, evG, rs_ok]; rfl),
    evCs_nx (ρ' := [S, j, some (.own k), q, some (claimD c), some (lifeI c), x6, x7, x8, x9, x10, x11]) (m' := m1 ++ e2) (by rw [evC, call1 l1 rfl h2, rs_ok, evG, rs_ok]; rfl),
    evCs_nx (ρ' := [S, j, some (.own k), q, some (claimD c), some (lifeI c), some (claimD (plainC c)), x7, x8, x9, x10, x11]) (m' := m1 ++ e2 ++ e3) (by rw [evC, h3', rs_ok, evG, rs_ok]; rfl),
    evCs_nx q4, evCs_nx (ρ' := [S, j, some (.own k), q, some (claimD c), some (lifeI c), some (claimD (plainC c)), x7, x8, x9, x10, x11]) (m' := M9) (by rw [evC, h9, rs_ok, ← hM9]; dsimp only; rw [evCs]),
    evCs_nx q10, evCs_nx (ρ' := [S, j, some (.own k), q, some (claimD c), some (lifeI c), some (claimD (plainC c)), y7, y8, some (iD ks), x10, x11]) (m' := m11) (by rw [evC, h11, rs_ok, evG, rs_ok]; rfl),
    evCs_nx (ρ' := [S, j, some (.own k), q, some (claimD c), some (lifeI c), some (claimD (plainC c)), y7, y8, some (iD ks), x10, some (claimD c')]) (m' := m13) (by
      rw [evC, evE, c1]
      dsimp only
      rw [evEs, evE_var (d := .own k) rfl, rs_ok, evEs, evE_var (d := iD ks) rfl, rs_ok, evEs, evE, evE, rs_ok, h12, rs_ok, opD_add, rs_ok, evEs, rs_ok, rs_ok, rs_ok, rs_ok, hn, h13, rs_ok, evG, rs_ok]
      rfl),
    evCs_nx (ρ' := [S, j, some (.own k), q, some (claimD c), some (lifeI c), some (claimD (plainC c)), y7, y8, some (iD ks), x10, some (claimD c')]) (m' := m13 ++ e14 ++ e15 ++ e16 ++ [.lst []]) (by rw [evC, h17, rs_ok]; dsimp only; rw [evCs]), evCs]
end
end Pm

set_option maxRecDepth 100000
set_option maxHeartbeats 4000000
/-! The defs of the law as programs without names -/
namespace K28
open PySem L2 Pm
abbrev prog : PySem.Program := PySem.Challenge.pw_sourwright_k28_plain_forms
abbrev top (i : Nat) : Stmt := prog.main.body.getD i (.Pass ⟨0, 0, 0, 0⟩)
abbrev inCls (s : Stmt) (i : Nat) : Stmt := match s with
  | .ClassDef _ _ _ b _ _ _ _ _ _ _ => b.getD i (.Pass ⟨0, 0, 0, 0⟩)
  | _ => .Pass ⟨0, 0, 0, 0⟩
def tp : Tp := { cls := ["LifeRow", "LifeType"], own := [(20, 16), (103, 15), (150, 11), (164, 16), (175, 16), (203, 17), (205, 22), (214, 17), (218, 16), (243, 46)], frz := [(167, [3]), (209, [1])], hk := hkL, hi := hiL }
abbrev s__wall : Stmt := (top 0)
def N__wall : List Str := ["k"]
abbrev s_LifeRow___init__ : Stmt := (inCls (top 2) 0)
def N_LifeRow___init__ : List Str := ["self", "left", "lost"]
abbrev s_LifeRow_left : Stmt := (inCls (top 2) 1)
def N_LifeRow_left : List Str := ["self"]
abbrev s_LifeRow_lost : Stmt := (inCls (top 2) 2)
def N_LifeRow_lost : List Str := ["self"]
abbrev s_LifeRow___call__ : Stmt := (inCls (top 2) 3)
def N_LifeRow___call__ : List Str := ["self", "lives", "terms", "life", "lost"]
abbrev s_LifeRow___sub__ : Stmt := (inCls (top 2) 4)
def N_LifeRow___sub__ : List Str := ["self", "other", "left", "lost"]
abbrev s_LifeRow___and__ : Stmt := (inCls (top 2) 5)
def N_LifeRow___and__ : List Str := ["self", "other", "left", "one", "two"]
abbrev s_LifeRow_is_below : Stmt := (inCls (top 2) 6)
def N_LifeRow_is_below : List Str := ["self", "other"]
abbrev s_LifeRow___eq__ : Stmt := (inCls (top 2) 7)
def N_LifeRow___eq__ : List Str := ["self", "other"]
abbrev s_LifeRow___repr__ : Stmt := (inCls (top 2) 8)
def N_LifeRow___repr__ : List Str := ["self"]
abbrev s_least_term : Stmt := (top 3)
def N_least_term : List Str := ["one", "two"]
abbrev s_greatest_term : Stmt := (top 4)
def N_greatest_term : List Str := ["one", "two"]
abbrev s_LifeType___init__ : Stmt := (inCls (top 7) 0)
def N_LifeType___init__ : List Str := ["self", "keeps", "needs", "took", "rows", "sours"]
abbrev s_LifeType_never : Stmt := (inCls (top 7) 1)
def N_LifeType_never : List Str := ["keeps", "results"]
abbrev s_LifeType_keeps : Stmt := (inCls (top 7) 2)
def N_LifeType_keeps : List Str := ["self"]
abbrev s_LifeType_needs : Stmt := (inCls (top 7) 3)
def N_LifeType_needs : List Str := ["self"]
abbrev s_LifeType_took : Stmt := (inCls (top 7) 4)
def N_LifeType_took : List Str := ["self"]
abbrev s_LifeType_rows : Stmt := (inCls (top 7) 5)
def N_LifeType_rows : List Str := ["self"]
abbrev s_LifeType_sours : Stmt := (inCls (top 7) 6)
def N_LifeType_sours : List Str := ["self"]
abbrev s_LifeType_is_never : Stmt := (inCls (top 7) 7)
def N_LifeType_is_never : List Str := ["self", "need", "keep"]
abbrev s_LifeType___call__ : Stmt := (inCls (top 7) 8)
def N_LifeType___call__ : List Str := ["self", "lives", "life", "need", "row"]
abbrev s_LifeType_plain : Stmt := (inCls (top 7) 9)
def N_LifeType_plain : List Str := ["self", "rows", "row"]
abbrev s_LifeType__plain_row : Stmt := (inCls (top 7) 10)
def N_LifeType__plain_row : List Str := ["self", "row", "left", "lost", "index", "need", "keep", "longest", "ends"]
abbrev s_LifeType__least_other : Stmt := (inCls (top 7) 11)
def N_LifeType__least_other : List Str := ["self", "left", "lost", "index", "ends", "at", "entry"]
abbrev s_LifeType_stands_for : Stmt := (inCls (top 7) 12)
def N_LifeType_stands_for : List Str := ["self", "u"]
abbrev s_LifeType_fits_needs : Stmt := (inCls (top 7) 13)
def N_LifeType_fits_needs : List Str := ["self", "other"]
abbrev s_LifeType_fits_took : Stmt := (inCls (top 7) 14)
def N_LifeType_fits_took : List Str := ["self", "other"]
abbrev s_LifeType_weaker_start : Stmt := (inCls (top 7) 15)
def N_LifeType_weaker_start : List Str := ["self", "other"]
abbrev s_LifeType___eq__ : Stmt := (inCls (top 7) 16)
def N_LifeType___eq__ : List Str := ["self", "other"]
abbrev s_LifeType___repr__ : Stmt := (inCls (top 7) 17)
def N_LifeType___repr__ : List Str := ["self"]
abbrev s_best_ends : Stmt := (top 8)
def N_best_ends : List Str := ["keeps", "lost", "keep", "entry"]
abbrev s__law_box : Stmt := (top 10)
def N__law_box : List Str := ["_law_script", "_law_k", "_law_cell", "_law_seed"]
abbrev s__law_take : Stmt := (top 11)
def N__law_take : List Str := ["_law_box_here", "_law_many", "_law_digit", "_law_one"]
abbrev s__law_pick : Stmt := (top 12)
def N__law_pick : List Str := ["_law_box_here", "_law_things"]
abbrev s__law_row : Stmt := (top 13)
def N__law_row : List Str := ["_law_box_here", "_law_many", "_law_left", "_law_lost", "_law_k", "_law_one"]
abbrev s__law_bound : Stmt := (top 14)
def N__law_bound : List Str := ["_law_row_here", "_law_lives", "_law_left", "_law_lost", "_law_found", "_law_life_here", "_law_one"]
abbrev s__law_alike : Stmt := (top 15)
def N__law_alike : List Str := ["_law_found", "_law_due", "_law_left", "_law_one", "_law_other"]
abbrev s__law_claim : Stmt := (top 16)
def N__law_claim : List Str := ["_law_box_here", "_law_keeps", "_law_many", "_law_needs", "_law_keep", "_law_took", "_law_rows", "_law_turn"]
abbrev s__law_life : Stmt := (top 17)
def N__law_life : List Str := ["_law_claim_here", "_law_keeps", "_law_needs", "_law_took", "_law_rows", "_law_is_bad", "_law_row_here"]
abbrev s__law_told : Stmt := (top 18)
def N__law_told : List Str := ["_law_life_here", "_law_rows", "_law_row_here"]
abbrev s__law_never : Stmt := (top 19)
def N__law_never : List Str := ["_law_claim_here", "_law_over", "_law_need", "_law_keep"]
abbrev s__law_box_of : Stmt := (top 20)
def N__law_box_of : List Str := ["_law_claim_here", "_law_found", "_law_need", "_law_keep", "_law_longer", "_law_lives", "_law_life_here"]
abbrev s__law_seen : Stmt := (top 21)
def N__law_seen : List Str := ["_law_row_here", "_law_every", "_law_lives"]
abbrev s__law_small : Stmt := (top 22)
def N__law_small : List Str := ["_law_box_here", "_law_keeps", "_law_turn", "_law_needs", "_law_keep", "_law_low", "_law_rows", "_law_left", "_law_lost", "_law_one"]
abbrev s__law_without : Stmt := (top 23)
def N__law_without : List Str := ["_law_row_here", "_law_left", "_law_lost", "_law_found", "_law_k", "_law_one", "_law_term"]
abbrev s__law_shows_alike : Stmt := (top 24)
def N__law_shows_alike : List Str := ["_law_claim_here", "_law_row_here", "_law_found", "_law_every", "_law_due", "_law_one", "_law_need", "_law_keep", "_law_term"]
abbrev s__law_plain_row : Stmt := (top 25)
def N__law_plain_row : List Str := ["_law_claim_here", "_law_row_here", "_law_keeps", "_law_needs", "_law_left", "_law_lost", "_law_k", "_law_keep", "_law_need", "_law_others", "_law_j", "_law_one", "_law_least"]
abbrev s__law_plain : Stmt := (top 26)
def N__law_plain : List Str := ["_law_claim_here", "_law_rows", "_law_row_here"]
abbrev s_law : Stmt := (top 27)
def N_law : List Str := ["_law_script", "_law_k", "_law_box_here", "_law_turn", "_law_claim_here", "_law_life_here", "_law_told_here", "_law_row_here", "_law_found", "_law_keeps", "_law_more", "_law_other"]
def b__wall : List C := [(.whl (.tru (.con (.bl true))) [.pas])]
theorem t__wall : trCs tp N__wall 60 (defScope s__wall) (defBody s__wall) = some b__wall := by kernel_rfl
theorem sc__wall : FnScope N__wall ["k"] (defScope s__wall) := ⟨rfl, rfl, rfl, by decide +kernel, rfl, by decide +kernel, by decide +kernel⟩
def b_LifeRow___init__ : List C := [(.asg (.fld (.var 0) "_left") (.var 1)),
    (.asg (.fld (.var 0) "_lost") (.blt .tuple [(.var 2)]))]
theorem t_LifeRow___init__ : trCs tp N_LifeRow___init__ 60 (defScope s_LifeRow___init__) (defBody s_LifeRow___init__) = some b_LifeRow___init__ := by kernel_rfl
theorem sc_LifeRow___init__ : FnScope N_LifeRow___init__ ["self", "left", "lost"] (defScope s_LifeRow___init__) := ⟨rfl, rfl, rfl, by decide +kernel, rfl, by decide +kernel, by decide +kernel⟩
def b_LifeRow_left : List C := [(.ret (.att (.var 0) "_left"))]
theorem t_LifeRow_left : trCs tp N_LifeRow_left 60 (defScope s_LifeRow_left) (defBody s_LifeRow_left) = some b_LifeRow_left := by kernel_rfl
theorem sc_LifeRow_left : FnScope N_LifeRow_left ["self"] (defScope s_LifeRow_left) := ⟨rfl, rfl, rfl, by decide +kernel, rfl, by decide +kernel, by decide +kernel⟩
def b_LifeRow_lost : List C := [(.ret (.att (.var 0) "_lost"))]
theorem t_LifeRow_lost : trCs tp N_LifeRow_lost 60 (defScope s_LifeRow_lost) (defBody s_LifeRow_lost) = some b_LifeRow_lost := by kernel_rfl
theorem sc_LifeRow_lost : FnScope N_LifeRow_lost ["self"] (defScope s_LifeRow_lost) := ⟨rfl, rfl, rfl, by decide +kernel, rfl, by decide +kernel, by decide +kernel⟩
def b_LifeRow___call__ : List C := [(.asg (.nm 2) (.lc true (.tup [(.nm 3), (.nm 4)]) (.zip (.var 1) (.att (.var 0) "_lost")) (some (.cmp .IsNot (.var 4) (.con .non))) (.bin .Sub (.var 3) (.var 4)) [3, 4])),
    (.ife (.cmp .IsNot (.att (.var 0) "_left") (.con .non)) [(.expr (.bm (.var 2) .append [(.att (.var 0) "_left")]))] []),
    (.ret (.blt .max [(.blt .min [(.var 2)]), (.neg (.con (.int 1)))]))]
theorem t_LifeRow___call__ : trCs tp N_LifeRow___call__ 60 (defScope s_LifeRow___call__) (defBody s_LifeRow___call__) = some b_LifeRow___call__ := by kernel_rfl
theorem sc_LifeRow___call__ : FnScope N_LifeRow___call__ ["self", "lives"] (defScope s_LifeRow___call__) := ⟨rfl, rfl, rfl, by decide +kernel, rfl, by decide +kernel, by decide +kernel⟩
def b_LifeRow___sub__ : List C := [(.asg (.nm 2) (.ife (.cmp .Is (.att (.var 0) "_left") (.con .non)) (.con .non) (.blt .max [(.bin .Sub (.att (.var 0) "_left") (.var 1)), (.neg (.con (.int 1)))]))),
    (.ret (.mk "LifeRow" [(.var 2), (.lc false (.nm 3) (.val (.att (.var 0) "_lost")) none (.ife (.cmp .Is (.var 3) (.con .non)) (.con .non) (.blt .min [(.bin .Add (.var 3) (.var 1)), (.con (.int 61))])) [3])]))]
theorem t_LifeRow___sub__ : trCs tp N_LifeRow___sub__ 60 (defScope s_LifeRow___sub__) (defBody s_LifeRow___sub__) = some b_LifeRow___sub__ := by kernel_rfl
theorem sc_LifeRow___sub__ : FnScope N_LifeRow___sub__ ["self", "other"] (defScope s_LifeRow___sub__) := ⟨rfl, rfl, rfl, by decide +kernel, rfl, by decide +kernel, by decide +kernel⟩
def b_LifeRow___and__ : List C := [(.asg (.nm 2) (.fn "least_term" [(.att (.var 0) "_left"), (.att (.var 1) "_left")])),
    (.ret (.mk "LifeRow" [(.var 2), (.lc false (.tup [(.nm 3), (.nm 4)]) (.zip (.att (.var 0) "_lost") (.att (.var 1) "_lost")) none (.fn "greatest_term" [(.var 3), (.var 4)]) [3, 4])]))]
theorem t_LifeRow___and__ : trCs tp N_LifeRow___and__ 60 (defScope s_LifeRow___and__) (defBody s_LifeRow___and__) = some b_LifeRow___and__ := by kernel_rfl
theorem sc_LifeRow___and__ : FnScope N_LifeRow___and__ ["self", "other"] (defScope s_LifeRow___and__) := ⟨rfl, rfl, rfl, by decide +kernel, rfl, by decide +kernel, by decide +kernel⟩
def b_LifeRow_is_below : List C := [(.expr (.fn "_wall" [(.con (.int 0))]))]
theorem t_LifeRow_is_below : trCs tp N_LifeRow_is_below 60 (defScope s_LifeRow_is_below) (defBody s_LifeRow_is_below) = some b_LifeRow_is_below := by kernel_rfl
theorem sc_LifeRow_is_below : FnScope N_LifeRow_is_below ["self", "other"] (defScope s_LifeRow_is_below) := ⟨rfl, rfl, rfl, by decide +kernel, rfl, by decide +kernel, by decide +kernel⟩
def b_LifeRow___eq__ : List C := [(.ret (.and (.blt .isi [(.var 1), (.con (.cls "LifeRow"))]) (.and (.cmp .Eq (.att (.var 0) "_left") (.att (.var 1) "_left")) (.cmp .Eq (.att (.var 0) "_lost") (.att (.var 1) "_lost")))))]
theorem t_LifeRow___eq__ : trCs tp N_LifeRow___eq__ 60 (defScope s_LifeRow___eq__) (defBody s_LifeRow___eq__) = some b_LifeRow___eq__ := by kernel_rfl
theorem sc_LifeRow___eq__ : FnScope N_LifeRow___eq__ ["self", "other"] (defScope s_LifeRow___eq__) := ⟨rfl, rfl, rfl, by decide +kernel, rfl, by decide +kernel, by decide +kernel⟩
def b_LifeRow___repr__ : List C := [(.ret (.jst [(.con (.str "LifeRow(")), (.fmt (.att (.var 0) "_left")), (.con (.str ", ")), (.fmt (.att (.var 0) "_lost")), (.con (.str ")"))]))]
theorem t_LifeRow___repr__ : trCs tp N_LifeRow___repr__ 60 (defScope s_LifeRow___repr__) (defBody s_LifeRow___repr__) = some b_LifeRow___repr__ := by kernel_rfl
theorem sc_LifeRow___repr__ : FnScope N_LifeRow___repr__ ["self"] (defScope s_LifeRow___repr__) := ⟨rfl, rfl, rfl, by decide +kernel, rfl, by decide +kernel, by decide +kernel⟩
def b_least_term : List C := [(.ife (.or (.cmp .Is (.var 0) (.con .non)) (.cmp .Is (.var 1) (.con .non))) [(.ret (.ife (.cmp .Is (.var 0) (.con .non)) (.var 1) (.var 0)))] []),
    (.ret (.blt .min [(.var 0), (.var 1)]))]
theorem t_least_term : trCs tp N_least_term 60 (defScope s_least_term) (defBody s_least_term) = some b_least_term := by kernel_rfl
theorem sc_least_term : FnScope N_least_term ["one", "two"] (defScope s_least_term) := ⟨rfl, rfl, rfl, by decide +kernel, rfl, by decide +kernel, by decide +kernel⟩
def b_greatest_term : List C := [(.ife (.or (.cmp .Is (.var 0) (.con .non)) (.cmp .Is (.var 1) (.con .non))) [(.ret (.ife (.cmp .Is (.var 0) (.con .non)) (.var 1) (.var 0)))] []),
    (.ret (.blt .max [(.var 0), (.var 1)]))]
theorem t_greatest_term : trCs tp N_greatest_term 60 (defScope s_greatest_term) (defBody s_greatest_term) = some b_greatest_term := by kernel_rfl
theorem sc_greatest_term : FnScope N_greatest_term ["one", "two"] (defScope s_greatest_term) := ⟨rfl, rfl, rfl, by decide +kernel, rfl, by decide +kernel, by decide +kernel⟩
def b_LifeType___init__ : List C := [(.asg (.fld (.var 0) "_keeps") (.blt .tuple [(.var 1)])),
    (.asg (.fld (.var 0) "_needs") (.blt .tuple [(.var 2)])),
    (.asg (.fld (.var 0) "_took") (.var 3)),
    (.asg (.fld (.var 0) "_rows") (.blt .tuple [(.var 4)])),
    (.asg (.fld (.var 0) "_sours") (.var 5))]
theorem t_LifeType___init__ : trCs tp N_LifeType___init__ 60 (defScope s_LifeType___init__) (defBody s_LifeType___init__) = some b_LifeType___init__ := by kernel_rfl
theorem sc_LifeType___init__ : FnScope N_LifeType___init__ ["self", "keeps", "needs", "took", "rows", "sours"] (defScope s_LifeType___init__) := ⟨rfl, rfl, rfl, by decide +kernel, rfl, by decide +kernel, by decide +kernel⟩
def b_LifeType_never : List C := [(.ret (.ext "LifeType/5" [(.var 0), (.bin .Mult (.tup [(.con (.int 61))]) (.blt .len [(.var 0)])), (.ext "MOST_TOOK" []), (.bin .Mult (.tup [(.con .non)]) (.var 1)), (.con (.bl true))]))]
theorem t_LifeType_never : trCs tp N_LifeType_never 60 (defScope s_LifeType_never) (defBody s_LifeType_never) = some b_LifeType_never := by kernel_rfl
theorem sc_LifeType_never : FnScope N_LifeType_never ["keeps", "results"] (defScope s_LifeType_never) := ⟨rfl, rfl, rfl, by decide +kernel, rfl, by decide +kernel, by decide +kernel⟩
def b_LifeType_keeps : List C := [(.ret (.att (.var 0) "_keeps"))]
theorem t_LifeType_keeps : trCs tp N_LifeType_keeps 60 (defScope s_LifeType_keeps) (defBody s_LifeType_keeps) = some b_LifeType_keeps := by kernel_rfl
theorem sc_LifeType_keeps : FnScope N_LifeType_keeps ["self"] (defScope s_LifeType_keeps) := ⟨rfl, rfl, rfl, by decide +kernel, rfl, by decide +kernel, by decide +kernel⟩
def b_LifeType_needs : List C := [(.ret (.att (.var 0) "_needs"))]
theorem t_LifeType_needs : trCs tp N_LifeType_needs 60 (defScope s_LifeType_needs) (defBody s_LifeType_needs) = some b_LifeType_needs := by kernel_rfl
theorem sc_LifeType_needs : FnScope N_LifeType_needs ["self"] (defScope s_LifeType_needs) := ⟨rfl, rfl, rfl, by decide +kernel, rfl, by decide +kernel, by decide +kernel⟩
def b_LifeType_took : List C := [(.ret (.att (.var 0) "_took"))]
theorem t_LifeType_took : trCs tp N_LifeType_took 60 (defScope s_LifeType_took) (defBody s_LifeType_took) = some b_LifeType_took := by kernel_rfl
theorem sc_LifeType_took : FnScope N_LifeType_took ["self"] (defScope s_LifeType_took) := ⟨rfl, rfl, rfl, by decide +kernel, rfl, by decide +kernel, by decide +kernel⟩
def b_LifeType_rows : List C := [(.ret (.att (.var 0) "_rows"))]
theorem t_LifeType_rows : trCs tp N_LifeType_rows 60 (defScope s_LifeType_rows) (defBody s_LifeType_rows) = some b_LifeType_rows := by kernel_rfl
theorem sc_LifeType_rows : FnScope N_LifeType_rows ["self"] (defScope s_LifeType_rows) := ⟨rfl, rfl, rfl, by decide +kernel, rfl, by decide +kernel, by decide +kernel⟩
def b_LifeType_sours : List C := [(.ret (.att (.var 0) "_sours"))]
theorem t_LifeType_sours : trCs tp N_LifeType_sours 60 (defScope s_LifeType_sours) (defBody s_LifeType_sours) = some b_LifeType_sours := by kernel_rfl
theorem sc_LifeType_sours : FnScope N_LifeType_sours ["self"] (defScope s_LifeType_sours) := ⟨rfl, rfl, rfl, by decide +kernel, rfl, by decide +kernel, by decide +kernel⟩
def b_LifeType_is_never : List C := [(.ret (.or (.att (.var 0) "_sours") (.blt .any [(.lc false (.tup [(.nm 1), (.nm 2)]) (.zip (.att (.var 0) "_needs") (.att (.var 0) "_keeps")) none (.cmp .Gt (.var 1) (.var 2)) [1, 2])])))]
theorem t_LifeType_is_never : trCs tp N_LifeType_is_never 60 (defScope s_LifeType_is_never) (defBody s_LifeType_is_never) = some b_LifeType_is_never := by kernel_rfl
theorem sc_LifeType_is_never : FnScope N_LifeType_is_never ["self"] (defScope s_LifeType_is_never) := ⟨rfl, rfl, rfl, by decide +kernel, rfl, by decide +kernel, by decide +kernel⟩
def b_LifeType___call__ : List C := [(.ife (.or (.tru (.att (.var 0) "is_never")) (.tru (.blt .any [(.lc false (.tup [(.nm 2), (.nm 3)]) (.zip (.var 1) (.att (.var 0) "_needs")) none (.cmp .Lt (.var 2) (.var 3)) [2, 3])]))) [(.ret (.con .non))] []),
    (.ret (.blt .tuple [(.lc false (.nm 4) (.val (.att (.var 0) "_rows")) none (.ife (.cmp .Is (.var 4) (.con .non)) (.neg (.con (.int 1))) (.cal (.var 4) [(.var 1)])) [4])]))]
theorem t_LifeType___call__ : trCs tp N_LifeType___call__ 60 (defScope s_LifeType___call__) (defBody s_LifeType___call__) = some b_LifeType___call__ := by kernel_rfl
theorem sc_LifeType___call__ : FnScope N_LifeType___call__ ["self", "lives"] (defScope s_LifeType___call__) := ⟨rfl, rfl, rfl, by decide +kernel, rfl, by decide +kernel, by decide +kernel⟩
def b_LifeType_plain : List C := [(.ife (.tru (.att (.var 0) "is_never")) [(.ret (.ext "LifeType.never" [(.att (.var 0) "_keeps"), (.blt .len [(.att (.var 0) "_rows")])]))] []),
    (.asg (.nm 1) (.lc false (.nm 2) (.val (.att (.var 0) "_rows")) none (.met (.var 0) "_plain_row" [(.var 2)]) [2])),
    (.ret (.ext "LifeType/4" [(.att (.var 0) "_keeps"), (.att (.var 0) "_needs"), (.blt .min [(.att (.var 0) "_took"), (.ext "MOST_TOOK" [])]), (.var 1)]))]
theorem t_LifeType_plain : trCs tp N_LifeType_plain 60 (defScope s_LifeType_plain) (defBody s_LifeType_plain) = some b_LifeType_plain := by kernel_rfl
theorem sc_LifeType_plain : FnScope N_LifeType_plain ["self"] (defScope s_LifeType_plain) := ⟨rfl, rfl, rfl, by decide +kernel, rfl, by decide +kernel, by decide +kernel⟩
def b_LifeType__plain_row : List C := [(.ife (.cmp .Is (.var 1) (.con .non)) [(.ret (.con .non))] []),
    (.asg (.nm 2) (.att (.var 1) "left")),
    (.asg (.nm 3) (.blt .listO [(.att (.var 1) "lost")])),
    (.for (.tup [(.nm 4), (.tup [(.nm 5), (.nm 6)])]) (.ext "enumzip" [(.att (.var 0) "_needs"), (.att (.var 0) "_keeps")]) [(.ife (.and (.cmp .IsNot (.idx (.var 3) (.var 4)) (.con .non)) (.cmp .Eq (.var 5) (.var 6))) [(.asg (.nm 2) (.fn "least_term" [(.var 2), (.blt .max [(.bin .Sub (.var 6) (.idx (.var 3) (.var 4))), (.neg (.con (.int 1)))])])), (.asg (.sub (.var 3) (.var 4)) (.con .non))] [])]),
    (.asg (.nm 7) (.mk "LifeRow" [(.var 2), (.var 3)])),
    (.ife (.cmp .Lt (.cal (.var 7) [(.att (.var 0) "_keeps")]) (.con (.int 1))) [(.ret (.con .non))] []),
    (.for (.tup [(.nm 4), (.nm 5)]) (.enu (.att (.var 0) "_needs")) [(.ife (.and (.cmp .IsNot (.idx (.var 3) (.var 4)) (.con .non)) (.cmp .GtE (.bin .Sub (.var 5) (.idx (.var 3) (.var 4))) (.met (.var 0) "_least_other" [(.var 2), (.var 3), (.var 4)]))) [(.asg (.sub (.var 3) (.var 4)) (.con .non))] [])]),
    (.asg (.nm 8) (.fn "best_ends" [(.att (.var 0) "_keeps"), (.var 3)])),
    (.ife (.and (.tru (.var 8)) (.and (.cmp .IsNot (.var 2) (.con .non)) (.cmp .GtE (.var 2) (.blt .min [(.var 8)])))) [(.asg (.nm 2) (.con .non))] []),
    (.ret (.mk "LifeRow" [(.var 2), (.var 3)]))]
theorem t_LifeType__plain_row : trCs tp N_LifeType__plain_row 60 (defScope s_LifeType__plain_row) (defBody s_LifeType__plain_row) = some b_LifeType__plain_row := by kernel_rfl
theorem sc_LifeType__plain_row : FnScope N_LifeType__plain_row ["self", "row"] (defScope s_LifeType__plain_row) := ⟨rfl, rfl, rfl, by decide +kernel, rfl, by decide +kernel, by decide +kernel⟩
def b_LifeType__least_other : List C := [(.asg (.nm 4) (.fn "best_ends" [(.att (.var 0) "_keeps"), (.lc false (.tup [(.nm 5), (.nm 6)]) (.enu (.var 2)) none (.ife (.cmp .Eq (.var 5) (.var 3)) (.con .non) (.var 6)) [5, 6])])),
    (.ret (.blt .min [(.bin .Add (.var 4) (.lst [(.ife (.cmp .Is (.var 1) (.con .non)) (.con (.int 61)) (.var 1))]))]))]
theorem t_LifeType__least_other : trCs tp N_LifeType__least_other 60 (defScope s_LifeType__least_other) (defBody s_LifeType__least_other) = some b_LifeType__least_other := by kernel_rfl
theorem sc_LifeType__least_other : FnScope N_LifeType__least_other ["self", "left", "lost", "index"] (defScope s_LifeType__least_other) := ⟨rfl, rfl, rfl, by decide +kernel, rfl, by decide +kernel, by decide +kernel⟩
def b_LifeType_stands_for : List C := [(.expr (.fn "_wall" [(.con (.int 1))]))]
theorem t_LifeType_stands_for : trCs tp N_LifeType_stands_for 60 (defScope s_LifeType_stands_for) (defBody s_LifeType_stands_for) = some b_LifeType_stands_for := by kernel_rfl
theorem sc_LifeType_stands_for : FnScope N_LifeType_stands_for ["self", "u"] (defScope s_LifeType_stands_for) := ⟨rfl, rfl, rfl, by decide +kernel, rfl, by decide +kernel, by decide +kernel⟩
def b_LifeType_fits_needs : List C := [(.expr (.fn "_wall" [(.con (.int 2))]))]
theorem t_LifeType_fits_needs : trCs tp N_LifeType_fits_needs 60 (defScope s_LifeType_fits_needs) (defBody s_LifeType_fits_needs) = some b_LifeType_fits_needs := by kernel_rfl
theorem sc_LifeType_fits_needs : FnScope N_LifeType_fits_needs ["self", "other"] (defScope s_LifeType_fits_needs) := ⟨rfl, rfl, rfl, by decide +kernel, rfl, by decide +kernel, by decide +kernel⟩
def b_LifeType_fits_took : List C := [(.expr (.fn "_wall" [(.con (.int 3))]))]
theorem t_LifeType_fits_took : trCs tp N_LifeType_fits_took 60 (defScope s_LifeType_fits_took) (defBody s_LifeType_fits_took) = some b_LifeType_fits_took := by kernel_rfl
theorem sc_LifeType_fits_took : FnScope N_LifeType_fits_took ["self", "other"] (defScope s_LifeType_fits_took) := ⟨rfl, rfl, rfl, by decide +kernel, rfl, by decide +kernel, by decide +kernel⟩
def b_LifeType_weaker_start : List C := [(.expr (.fn "_wall" [(.con (.int 4))]))]
theorem t_LifeType_weaker_start : trCs tp N_LifeType_weaker_start 60 (defScope s_LifeType_weaker_start) (defBody s_LifeType_weaker_start) = some b_LifeType_weaker_start := by kernel_rfl
theorem sc_LifeType_weaker_start : FnScope N_LifeType_weaker_start ["self", "other"] (defScope s_LifeType_weaker_start) := ⟨rfl, rfl, rfl, by decide +kernel, rfl, by decide +kernel, by decide +kernel⟩
def b_LifeType___eq__ : List C := [(.ret (.and (.blt .isi [(.var 1), (.con (.cls "LifeType"))]) (.and (.cmp .Eq (.att (.var 0) "_keeps") (.att (.var 1) "_keeps")) (.and (.cmp .Eq (.att (.var 0) "_needs") (.att (.var 1) "_needs")) (.and (.cmp .Eq (.att (.var 0) "_took") (.att (.var 1) "_took")) (.and (.cmp .Eq (.att (.var 0) "_rows") (.att (.var 1) "_rows")) (.cmp .Eq (.att (.var 0) "_sours") (.att (.var 1) "_sours"))))))))]
theorem t_LifeType___eq__ : trCs tp N_LifeType___eq__ 60 (defScope s_LifeType___eq__) (defBody s_LifeType___eq__) = some b_LifeType___eq__ := by kernel_rfl
theorem sc_LifeType___eq__ : FnScope N_LifeType___eq__ ["self", "other"] (defScope s_LifeType___eq__) := ⟨rfl, rfl, rfl, by decide +kernel, rfl, by decide +kernel, by decide +kernel⟩
def b_LifeType___repr__ : List C := [(.ret (.jst [(.con (.str "LifeType(")), (.fmt (.att (.var 0) "_keeps")), (.con (.str ", ")), (.fmt (.att (.var 0) "_needs")), (.con (.str ", ")), (.fmt (.att (.var 0) "_took")), (.con (.str ", ")), (.fmt (.att (.var 0) "_rows")), (.con (.str ", ")), (.fmt (.att (.var 0) "_sours")), (.con (.str ")"))]))]
theorem t_LifeType___repr__ : trCs tp N_LifeType___repr__ 60 (defScope s_LifeType___repr__) (defBody s_LifeType___repr__) = some b_LifeType___repr__ := by kernel_rfl
theorem sc_LifeType___repr__ : FnScope N_LifeType___repr__ ["self"] (defScope s_LifeType___repr__) := ⟨rfl, rfl, rfl, by decide +kernel, rfl, by decide +kernel, by decide +kernel⟩
def b_best_ends : List C := [(.ret (.lc false (.tup [(.nm 2), (.nm 3)]) (.zip (.var 0) (.var 1)) (some (.cmp .IsNot (.var 3) (.con .non))) (.bin .Sub (.var 2) (.var 3)) [2, 3]))]
theorem t_best_ends : trCs tp N_best_ends 60 (defScope s_best_ends) (defBody s_best_ends) = some b_best_ends := by kernel_rfl
theorem sc_best_ends : FnScope N_best_ends ["keeps", "lost"] (defScope s_best_ends) := ⟨rfl, rfl, rfl, by decide +kernel, rfl, by decide +kernel, by decide +kernel⟩
def b__law_box : List C := [(.asg (.nm 2) (.bin .Add (.bin .Mult (.con (.int 6841)) (.var 1)) (.con (.int 37)))),
    (.ife (.cmp .Lt (.var 1) (.blt .len [(.var 0)])) [(.asg (.nm 2) (.idx (.var 0) (.var 1)))] [(.ife (.cmp .Gt (.blt .len [(.var 0)]) (.con (.int 0))) [(.asg (.nm 2) (.bin .Add (.var 2) (.bin .Mult (.bin .Mod (.idx (.var 0) (.bin .Mod (.var 1) (.blt .len [(.var 0)]))) (.con (.int 2147483629))) (.con (.int 69623)))))] [])]),
    (.asg (.nm 3) (.bin .Add (.bin .Mod (.bin .Add (.bin .Mult (.bin .Mod (.var 2) (.con (.int 2147483629))) (.con (.int 48271))) (.bin .Mult (.con (.int 40692)) (.var 1))) (.con (.int 2147483629))) (.con (.int 1)))),
    (.ret (.lsto [(.idx (.lst [(.con (.int 0)), (.var 2)]) (.blt .int [(.cmp .GtE (.var 2) (.bin .Pow (.con (.int 10)) (.con (.int 18))))])), (.var 3), (.con (.int 0))]))]
theorem t__law_box : trCs tp N__law_box 60 (defScope s__law_box) (defBody s__law_box) = some b__law_box := by kernel_rfl
theorem sc__law_box : FnScope N__law_box ["_law_script", "_law_k"] (defScope s__law_box) := ⟨rfl, rfl, rfl, by decide +kernel, rfl, by decide +kernel, by decide +kernel⟩
def b__law_take : List C := [(.ife (.cmp .Gt (.idx (.var 0) (.con (.int 0))) (.con (.int 0))) [(.asg (.nm 2) (.bin .Mod (.idx (.var 0) (.con (.int 0))) (.var 1))), (.asg (.sub (.var 0) (.con (.int 0))) (.bin .FloorDiv (.idx (.var 0) (.con (.int 0))) (.var 1))), (.ret (.var 2))] []),
    (.asg (.sub (.var 0) (.con (.int 2))) (.bin .Add (.idx (.var 0) (.con (.int 2))) (.con (.int 1)))),
    (.asg (.nm 3) (.bin .Mod (.bin .Mult (.bin .Add (.idx (.var 0) (.con (.int 1))) (.bin .Mult (.con (.int 104729)) (.idx (.var 0) (.con (.int 2))))) (.con (.int 69623))) (.con (.int 2147483647)))),
    (.asg (.sub (.var 0) (.con (.int 1))) (.bin .Add (.bin .Mod (.bin .Add (.bin .Mult (.var 3) (.con (.int 48271))) (.con (.int 30103))) (.con (.int 2147483629))) (.con (.int 1)))),
    (.ret (.bin .Mod (.bin .FloorDiv (.bin .Add (.bin .Mult (.var 3) (.con (.int 2147483647))) (.idx (.var 0) (.con (.int 1)))) (.con (.int 8191))) (.var 1)))]
theorem t__law_take : trCs tp N__law_take 60 (defScope s__law_take) (defBody s__law_take) = some b__law_take := by kernel_rfl
theorem sc__law_take : FnScope N__law_take ["_law_box_here", "_law_many"] (defScope s__law_take) := ⟨rfl, rfl, rfl, by decide +kernel, rfl, by decide +kernel, by decide +kernel⟩
def b__law_pick : List C := [(.ret (.idx (.var 1) (.fn "_law_take" [(.var 0), (.blt .len [(.var 1)])])))]
theorem t__law_pick : trCs tp N__law_pick 60 (defScope s__law_pick) (defBody s__law_pick) = some b__law_pick := by kernel_rfl
theorem sc__law_pick : FnScope N__law_pick ["_law_box_here", "_law_things"] (defScope s__law_pick) := ⟨rfl, rfl, rfl, by decide +kernel, rfl, by decide +kernel, by decide +kernel⟩
def b__law_row : List C := [(.asg (.nm 2) (.idx (.lst [(.con .non), (.bin .Sub (.fn "_law_take" [(.var 0), (.con (.int 62))]) (.con (.int 1))), (.fn "_law_pick" [(.var 0), (.lst [(.neg (.con (.int 1))), (.con (.int 0)), (.con (.int 1)), (.con (.int 2)), (.con (.int 59)), (.con (.int 60))])])]) (.fn "_law_take" [(.var 0), (.con (.int 3))]))),
    (.asg (.nm 3) (.lsto [])),
    (.for (.nm 4) (.rng [(.var 1)]) [(.expr (.bm (.var 3) .append [(.idx (.lst [(.con .non), (.fn "_law_take" [(.var 0), (.con (.int 62))]), (.fn "_law_pick" [(.var 0), (.lst [(.con (.int 0)), (.con (.int 1)), (.con (.int 2)), (.con (.int 59)), (.con (.int 60)), (.con (.int 61))])])]) (.fn "_law_take" [(.var 0), (.con (.int 3))]))]))]),
    (.frz [3] (.ife (.and (.cmp .Is (.var 2) (.con .non)) (.cmp .Eq (.lc false (.nm 5) (.val (.var 3)) (some (.cmp .IsNot (.var 5) (.con .non))) (.var 5) [5]) (.lst []))) [(.asg (.nm 2) (.fn "_law_take" [(.var 0), (.con (.int 61))]))] [])),
    (.ret (.tup [(.var 2), (.blt .tuple [(.var 3)])]))]
theorem t__law_row : trCs tp N__law_row 60 (defScope s__law_row) (defBody s__law_row) = some b__law_row := by kernel_rfl
theorem sc__law_row : FnScope N__law_row ["_law_box_here", "_law_many"] (defScope s__law_row) := ⟨rfl, rfl, rfl, by decide +kernel, rfl, by decide +kernel, by decide +kernel⟩
def b__law_bound : List C := [(.asg (.tup [(.nm 2), (.nm 3)]) (.var 0)),
    (.asg (.nm 4) (.bin .Add (.lc false (.tup [(.nm 5), (.nm 6)]) (.zip (.var 1) (.var 3)) (some (.cmp .IsNot (.var 6) (.con .non))) (.bin .Sub (.var 5) (.var 6)) [5, 6]) (.bin .Mult (.lst [(.var 2)]) (.blt .int [(.cmp .IsNot (.var 2) (.con .non))])))),
    (.ret (.blt .max [(.neg (.con (.int 1))), (.blt .min [(.var 4)])]))]
theorem t__law_bound : trCs tp N__law_bound 60 (defScope s__law_bound) (defBody s__law_bound) = some b__law_bound := by kernel_rfl
theorem sc__law_bound : FnScope N__law_bound ["_law_row_here", "_law_lives"] (defScope s__law_bound) := ⟨rfl, rfl, rfl, by decide +kernel, rfl, by decide +kernel, by decide +kernel⟩
def b__law_alike : List C := [(.asg (.nm 2) (.lsto [(.tup [(.var 0), (.var 1)])])),
    (.whl (.cmp .NotEq (.var 2) (.lst [])) [(.asg (.tup [(.nm 3), (.nm 4)]) (.bm (.var 2) .pop [])), (.ife (.tru (.blt .isi [(.var 4), (.tup [(.con (.ty "tuple")), (.con (.ty "list"))])])) [(.ife (.or (.cmp .NotEq (.blt .isi [(.var 3), (.con (.ty "tuple"))]) (.blt .isi [(.var 4), (.con (.ty "tuple"))])) (.cmp .NotEq (.blt .isi [(.var 3), (.con (.ty "list"))]) (.blt .isi [(.var 4), (.con (.ty "list"))]))) [(.ret (.con (.bl false)))] []), (.ife (.cmp .NotEq (.blt .len [(.var 3)]) (.blt .len [(.var 4)])) [(.ret (.con (.bl false)))] []), (.expr (.bm (.var 2) .extend [(.lzp (.var 3) (.var 4))]))] [(.ife (.or (.tru (.blt .isi [(.var 3), (.tup [(.con (.ty "tuple")), (.con (.ty "list"))])])) (.or (.cmp .NotEq (.blt .isi [(.var 3), (.con (.ty "bool"))]) (.blt .isi [(.var 4), (.con (.ty "bool"))])) (.cmp .NotEq (.var 3) (.var 4)))) [(.ret (.con (.bl false)))] [])])]),
    (.ret (.con (.bl true)))]
theorem t__law_alike : trCs tp N__law_alike 60 (defScope s__law_alike) (defBody s__law_alike) = some b__law_alike := by kernel_rfl
theorem sc__law_alike : FnScope N__law_alike ["_law_found", "_law_due"] (defScope s__law_alike) := ⟨rfl, rfl, rfl, by decide +kernel, rfl, by decide +kernel, by decide +kernel⟩
def b__law_claim : List C := [(.asg (.nm 3) (.lc false (.nm 4) (.val (.var 1)) none (.idx (.lst [(.bin .Sub (.fn "_law_take" [(.var 0), (.bin .Add (.var 4) (.con (.int 2)))]) (.con (.int 1))), (.neg (.con (.int 1))), (.var 4), (.bin .Sub (.fn "_law_take" [(.var 0), (.con (.int 63))]) (.con (.int 1)))]) (.fn "_law_take" [(.var 0), (.con (.int 4))])) [4])),
    (.asg (.nm 5) (.idx (.lst [(.fn "_law_take" [(.var 0), (.con (.int 62))]), (.fn "_law_pick" [(.var 0), (.lst [(.con (.int 0)), (.con (.int 1)), (.con (.int 58)), (.con (.int 59)), (.con (.int 60)), (.con (.int 61))])])]) (.fn "_law_take" [(.var 0), (.con (.int 2))]))),
    (.asg (.nm 6) (.lc false (.nm 7) (.rng [(.var 2)]) none (.idx (.lst [(.fn "_law_row" [(.var 0), (.blt .len [(.var 1)])]), (.con .non)]) (.blt .int [(.cmp .Eq (.fn "_law_take" [(.var 0), (.con (.int 6))]) (.con (.int 0)))])) [7])),
    (.ret (.tup [(.var 1), (.blt .tuple [(.var 3)]), (.var 5), (.blt .tuple [(.var 6)]), (.cmp .Eq (.fn "_law_take" [(.var 0), (.con (.int 8))]) (.con (.int 0)))]))]
theorem t__law_claim : trCs tp N__law_claim 60 (defScope s__law_claim) (defBody s__law_claim) = some b__law_claim := by kernel_rfl
theorem sc__law_claim : FnScope N__law_claim ["_law_box_here", "_law_keeps", "_law_many"] (defScope s__law_claim) := ⟨rfl, rfl, rfl, by decide +kernel, rfl, by decide +kernel, by decide +kernel⟩
def b__law_life : List C := [(.asg (.tup [(.nm 1), (.nm 2), (.nm 3), (.nm 4), (.nm 5)]) (.var 0)),
    (.asg (.nm 4) (.lc false (.nm 6) (.val (.var 4)) none (.ife (.cmp .Is (.var 6) (.con .non)) (.con .non) (.mk "LifeRow" [(.idx (.var 6) (.con (.int 0))), (.idx (.var 6) (.con (.int 1)))])) [6])),
    (.ret (.ext "LifeType/5" [(.var 1), (.var 2), (.var 3), (.blt .tuple [(.var 4)]), (.var 5)]))]
theorem t__law_life : trCs tp N__law_life 60 (defScope s__law_life) (defBody s__law_life) = some b__law_life := by kernel_rfl
theorem sc__law_life : FnScope N__law_life ["_law_claim_here"] (defScope s__law_life) := ⟨rfl, rfl, rfl, by decide +kernel, rfl, by decide +kernel, by decide +kernel⟩
def b__law_told : List C := [(.asg (.nm 1) (.lc false (.nm 2) (.val (.att (.var 0) "rows")) none (.ife (.cmp .Is (.var 2) (.con .non)) (.con .non) (.tup [(.att (.var 2) "left"), (.att (.var 2) "lost")])) [2])),
    (.ret (.tup [(.att (.var 0) "keeps"), (.att (.var 0) "needs"), (.att (.var 0) "took"), (.blt .tuple [(.var 1)]), (.att (.var 0) "sours")]))]
theorem t__law_told : trCs tp N__law_told 60 (defScope s__law_told) (defBody s__law_told) = some b__law_told := by kernel_rfl
theorem sc__law_told : FnScope N__law_told ["_law_life_here"] (defScope s__law_told) := ⟨rfl, rfl, rfl, by decide +kernel, rfl, by decide +kernel, by decide +kernel⟩
def b__law_never : List C := [(.asg (.nm 1) (.lc false (.tup [(.nm 2), (.nm 3)]) (.zip (.idx (.var 0) (.con (.int 1))) (.idx (.var 0) (.con (.int 0)))) (some (.cmp .Gt (.var 2) (.var 3))) (.con (.int 1)) [2, 3])),
    (.ret (.or (.idx (.var 0) (.con (.int 4))) (.cmp .NotEq (.var 1) (.lst []))))]
theorem t__law_never : trCs tp N__law_never 60 (defScope s__law_never) (defBody s__law_never) = some b__law_never := by kernel_rfl
theorem sc__law_never : FnScope N__law_never ["_law_claim_here"] (defScope s__law_never) := ⟨rfl, rfl, rfl, by decide +kernel, rfl, by decide +kernel, by decide +kernel⟩
def b__law_box_of : List C := [(.asg (.nm 1) (.lsto [(.tup [])])),
    (.for (.tup [(.nm 2), (.nm 3)]) (.zip (.idx (.var 0) (.con (.int 1))) (.idx (.var 0) (.con (.int 0)))) [(.asg (.nm 4) (.lsto [])), (.for (.nm 5) (.val (.var 1)) [(.expr (.bm (.var 4) .extend [(.lc false (.nm 6) (.rng [(.var 2), (.bin .Add (.var 3) (.con (.int 1)))]) none (.bin .Add (.var 5) (.tup [(.var 6)])) [6])]))]), (.asg (.nm 1) (.var 4))]),
    (.frz [1] (.ret (.var 1)))]
theorem t__law_box_of : trCs tp N__law_box_of 60 (defScope s__law_box_of) (defBody s__law_box_of) = some b__law_box_of := by kernel_rfl
theorem sc__law_box_of : FnScope N__law_box_of ["_law_claim_here"] (defScope s__law_box_of) := ⟨rfl, rfl, rfl, by decide +kernel, rfl, by decide +kernel, by decide +kernel⟩
def b__law_seen : List C := [(.ret (.lc false (.nm 2) (.val (.var 1)) none (.ife (.cmp .Is (.var 0) (.con .non)) (.con (.int 0)) (.blt .max [(.con (.int 0)), (.fn "_law_bound" [(.var 0), (.var 2)])])) [2]))]
theorem t__law_seen : trCs tp N__law_seen 60 (defScope s__law_seen) (defBody s__law_seen) = some b__law_seen := by kernel_rfl
theorem sc__law_seen : FnScope N__law_seen ["_law_row_here", "_law_every"] (defScope s__law_seen) := ⟨rfl, rfl, rfl, by decide +kernel, rfl, by decide +kernel, by decide +kernel⟩
def b__law_small : List C := [(.asg (.nm 1) (.blt .tuple [(.lc false (.nm 2) (.rng [(.fn "_law_take" [(.var 0), (.con (.int 4))])]) none (.fn "_law_take" [(.var 0), (.con (.int 5))]) [2])])),
    (.asg (.nm 3) (.lsto [])),
    (.for (.nm 4) (.val (.var 1)) [(.asg (.nm 5) (.bin .Sub (.fn "_law_take" [(.var 0), (.bin .Add (.var 4) (.con (.int 2)))]) (.con (.int 1)))), (.expr (.bm (.var 3) .append [(.fn "_law_pick" [(.var 0), (.lst [(.var 5), (.var 5), (.neg (.con (.int 1))), (.var 4), (.var 5), (.bin .Add (.var 4) (.con (.int 1)))])])]))]),
    (.asg (.nm 6) (.lsto [])),
    (.for (.nm 2) (.rng [(.fn "_law_take" [(.var 0), (.con (.int 3))])]) [(.asg (.nm 7) (.idx (.lst [(.con .non), (.bin .Sub (.fn "_law_take" [(.var 0), (.con (.int 6))]) (.con (.int 1)))]) (.blt .int [(.cmp .Gt (.fn "_law_take" [(.var 0), (.con (.int 3))]) (.con (.int 0)))]))), (.asg (.nm 8) (.blt .tuple [(.lc false (.nm 4) (.val (.var 1)) none (.idx (.lst [(.con .non), (.fn "_law_take" [(.var 0), (.con (.int 4))])]) (.blt .int [(.cmp .Gt (.fn "_law_take" [(.var 0), (.con (.int 4))]) (.con (.int 0)))])) [4])])), (.ife (.and (.cmp .Is (.var 7) (.con .non)) (.cmp .Eq (.lc false (.nm 9) (.val (.var 8)) (some (.cmp .IsNot (.var 9) (.con .non))) (.var 9) [9]) (.lst []))) [(.asg (.nm 7) (.bin .Add (.con (.int 1)) (.fn "_law_take" [(.var 0), (.con (.int 4))])))] []), (.expr (.bm (.var 6) .append [(.idx (.lst [(.tup [(.var 7), (.var 8)]), (.con .non)]) (.blt .int [(.cmp .Eq (.fn "_law_take" [(.var 0), (.con (.int 8))]) (.con (.int 0)))]))]))]),
    (.ret (.tup [(.var 1), (.blt .tuple [(.var 3)]), (.fn "_law_pick" [(.var 0), (.lst [(.con (.int 0)), (.con (.int 5)), (.con (.int 59)), (.con (.int 60)), (.con (.int 61))])]), (.blt .tuple [(.var 6)]), (.cmp .Eq (.fn "_law_take" [(.var 0), (.con (.int 9))]) (.con (.int 0)))]))]
theorem t__law_small : trCs tp N__law_small 60 (defScope s__law_small) (defBody s__law_small) = some b__law_small := by kernel_rfl
theorem sc__law_small : FnScope N__law_small ["_law_box_here"] (defScope s__law_small) := ⟨rfl, rfl, rfl, by decide +kernel, rfl, by decide +kernel, by decide +kernel⟩
def b__law_without : List C := [(.asg (.tup [(.nm 1), (.nm 2)]) (.var 0)),
    (.asg (.nm 3) (.ext "repO" [(.lst [(.tup [(.con .non), (.var 2)])]), (.blt .int [(.cmp .IsNot (.var 1) (.con .non))])])),
    (.for (.tup [(.nm 4), (.nm 5)]) (.enu (.var 2)) [(.ife (.cmp .IsNot (.var 5) (.con .non)) [(.expr (.bm (.var 3) .append [(.tup [(.var 1), (.bin .Add (.bin .Add (.slc (.var 2) none (some (.var 4))) (.tup [(.con .non)])) (.slc (.var 2) (some (.bin .Add (.var 4) (.con (.int 1)))) none))])]))] [])]),
    (.ret (.lc false (.nm 5) (.val (.var 3)) (some (.or (.cmp .IsNot (.idx (.var 5) (.con (.int 0))) (.con .non)) (.cmp .NotEq (.lc false (.nm 6) (.val (.idx (.var 5) (.con (.int 1)))) (some (.cmp .IsNot (.var 6) (.con .non))) (.var 6) [6]) (.lst [])))) (.var 5) [5]))]
theorem t__law_without : trCs tp N__law_without 60 (defScope s__law_without) (defBody s__law_without) = some b__law_without := by kernel_rfl
theorem sc__law_without : FnScope N__law_without ["_law_row_here"] (defScope s__law_without) := ⟨rfl, rfl, rfl, by decide +kernel, rfl, by decide +kernel, by decide +kernel⟩
def b__law_shows_alike : List C := [(.asg (.nm 3) (.fn "_law_box_of" [(.var 0)])),
    (.asg (.nm 4) (.fn "_law_seen" [(.var 1), (.var 3)])),
    (.ife (.or (.cmp .Is (.var 2) (.con .non)) (.cmp .Eq (.blt .max [(.bin .Add (.var 4) (.lst [(.con (.int 0))]))]) (.con (.int 0)))) [(.ret (.and (.cmp .Is (.var 2) (.con .non)) (.cmp .Eq (.blt .max [(.bin .Add (.var 4) (.lst [(.con (.int 0))]))]) (.con (.int 0)))))] []),
    (.ife (.or (.cmp .NotEq (.fn "_law_seen" [(.var 2), (.var 3)]) (.var 4)) (.cmp .NotEq (.lc false (.nm 5) (.val (.fn "_law_without" [(.var 2)])) (some (.cmp .Eq (.fn "_law_seen" [(.var 5), (.var 3)]) (.var 4))) (.con (.int 1)) [5]) (.lst []))) [(.ret (.con (.bl false)))] []),
    (.ret (.cmp .Eq (.lc false (.tup [(.nm 6), (.nm 7), (.nm 8)]) (.ext "zip3" [(.idx (.var 0) (.con (.int 1))), (.idx (.var 0) (.con (.int 0))), (.idx (.var 2) (.con (.int 1)))]) (some (.and (.cmp .IsNot (.var 8) (.con .non)) (.cmp .Eq (.var 6) (.var 7)))) (.con (.int 1)) [6, 7, 8]) (.lst [])))]
theorem t__law_shows_alike : trCs tp N__law_shows_alike 60 (defScope s__law_shows_alike) (defBody s__law_shows_alike) = some b__law_shows_alike := by kernel_rfl
theorem sc__law_shows_alike : FnScope N__law_shows_alike ["_law_claim_here", "_law_row_here", "_law_found"] (defScope s__law_shows_alike) := ⟨rfl, rfl, rfl, by decide +kernel, rfl, by decide +kernel, by decide +kernel⟩
def b__law_plain_row : List C := [(.asg (.tup [(.nm 2), (.nm 3)]) (.slc (.var 0) none (some (.con (.int 2))))),
    (.asg (.tup [(.nm 4), (.nm 5)]) (.tup [(.idx (.var 1) (.con (.int 0))), (.blt .listO [(.idx (.var 1) (.con (.int 1)))])])),
    (.for (.tup [(.nm 6), (.nm 7)]) (.enu (.var 2)) [(.ife (.and (.cmp .IsNot (.idx (.var 5) (.var 6)) (.con .non)) (.cmp .Eq (.idx (.var 3) (.var 6)) (.var 7))) [(.asg (.nm 4) (.blt .min [(.bin .Add (.lst [(.blt .max [(.neg (.con (.int 1))), (.bin .Sub (.var 7) (.idx (.var 5) (.var 6)))])]) (.bin .Mult (.lst [(.var 4)]) (.blt .int [(.cmp .IsNot (.var 4) (.con .non))])))])), (.asg (.sub (.var 5) (.var 6)) (.con .non))] [])]),
    (.ife (.cmp .Lt (.fn "_law_bound" [(.tup [(.var 4), (.blt .tuple [(.var 5)])]), (.var 2)]) (.con (.int 1))) [(.ret (.con .non))] []),
    (.for (.tup [(.nm 6), (.nm 8)]) (.enu (.var 3)) [(.asg (.nm 9) (.lc false (.tup [(.nm 10), (.nm 11)]) (.enu (.var 5)) (some (.and (.cmp .IsNot (.var 11) (.con .non)) (.cmp .NotEq (.var 10) (.var 6)))) (.bin .Sub (.idx (.var 2) (.var 10)) (.var 11)) [10, 11])), (.asg (.nm 12) (.blt .min [(.bin .Add (.bin .Add (.var 9) (.bin .Mult (.lst [(.var 4)]) (.blt .int [(.cmp .IsNot (.var 4) (.con .non))]))) (.lst [(.con (.int 61))]))])), (.ife (.and (.cmp .IsNot (.idx (.var 5) (.var 6)) (.con .non)) (.cmp .GtE (.bin .Sub (.var 8) (.idx (.var 5) (.var 6))) (.var 12))) [(.asg (.sub (.var 5) (.var 6)) (.con .non))] [])]),
    (.asg (.nm 9) (.lc false (.tup [(.nm 10), (.nm 11)]) (.enu (.var 5)) (some (.cmp .IsNot (.var 11) (.con .non))) (.bin .Sub (.idx (.var 2) (.var 10)) (.var 11)) [10, 11])),
    (.ife (.and (.cmp .NotEq (.var 9) (.lst [])) (.and (.cmp .IsNot (.var 4) (.con .non)) (.cmp .GtE (.var 4) (.blt .min [(.var 9)])))) [(.asg (.nm 4) (.con .non))] []),
    (.ret (.tup [(.var 4), (.blt .tuple [(.var 5)])]))]
theorem t__law_plain_row : trCs tp N__law_plain_row 60 (defScope s__law_plain_row) (defBody s__law_plain_row) = some b__law_plain_row := by kernel_rfl
theorem sc__law_plain_row : FnScope N__law_plain_row ["_law_claim_here", "_law_row_here"] (defScope s__law_plain_row) := ⟨rfl, rfl, rfl, by decide +kernel, rfl, by decide +kernel, by decide +kernel⟩
def b__law_plain : List C := [(.ife (.tru (.fn "_law_never" [(.var 0)])) [(.ret (.tup [(.idx (.var 0) (.con (.int 0))), (.bin .Mult (.tup [(.con (.int 61))]) (.blt .len [(.idx (.var 0) (.con (.int 0)))])), (.con (.int 60)), (.bin .Mult (.tup [(.con .non)]) (.blt .len [(.idx (.var 0) (.con (.int 3)))])), (.con (.bl true))]))] []),
    (.asg (.nm 1) (.lc false (.nm 2) (.val (.idx (.var 0) (.con (.int 3)))) none (.ife (.cmp .Is (.var 2) (.con .non)) (.con .non) (.fn "_law_plain_row" [(.var 0), (.var 2)])) [2])),
    (.ret (.tup [(.idx (.var 0) (.con (.int 0))), (.idx (.var 0) (.con (.int 1))), (.blt .min [(.con (.int 60)), (.idx (.var 0) (.con (.int 2)))]), (.blt .tuple [(.var 1)]), (.con (.bl false))]))]
theorem t__law_plain : trCs tp N__law_plain 60 (defScope s__law_plain) (defBody s__law_plain) = some b__law_plain := by kernel_rfl
theorem sc__law_plain : FnScope N__law_plain ["_law_claim_here"] (defScope s__law_plain) := ⟨rfl, rfl, rfl, by decide +kernel, rfl, by decide +kernel, by decide +kernel⟩
def b_law : List C := [(.for (.nm 1) (.rng [(.blt .max [(.con (.int 2)), (.blt .min [(.con (.int 5)), (.blt .len [(.var 0)])])])]) [(.asg (.nm 2) (.fn "_law_box" [(.var 0), (.var 1)])), (.for (.nm 3) (.rng [(.con (.int 4))]) [(.asg (.nm 4) (.fn "_law_small" [(.var 2)])), (.asg (.nm 5) (.fn "_law_life" [(.var 4)])), (.asg (.nm 6) (.fn "_law_told" [(.met (.var 5) "plain" [])])), (.ife (.or (.not (.tru (.fn "_law_alike" [(.fn "_law_told" [(.var 5)]), (.var 4)]))) (.cmp .NotEq (.met (.met (.var 5) "plain" []) "plain" []) (.met (.var 5) "plain" []))) [(.ret (.con (.bl false)))] []), (.ife (.not (.tru (.fn "_law_alike" [(.var 6), (.fn "_law_plain" [(.var 4)])]))) [(.ret (.con (.bl false)))] []), (.ife (.not (.tru (.fn "_law_never" [(.var 4)]))) [(.for (.tup [(.nm 7), (.nm 8)]) (.zip (.idx (.var 4) (.con (.int 3))) (.idx (.var 6) (.con (.int 3)))) [(.ife (.not (.tru (.fn "_law_shows_alike" [(.var 4), (.var 7), (.var 8)]))) [(.ret (.con (.bl false)))] [])])] []), (.asg (.nm 9) (.blt .tuple [(.lc false (.nm 10) (.rng [(.fn "_law_take" [(.var 2), (.con (.int 4))])]) none (.fn "_law_take" [(.var 2), (.con (.int 61))]) [10])])), (.asg (.nm 11) (.fn "_law_claim" [(.var 2), (.var 9), (.bin .Add (.con (.int 1)) (.fn "_law_take" [(.var 2), (.con (.int 2))]))])), (.ife (.not (.tru (.fn "_law_alike" [(.fn "_law_told" [(.met (.fn "_law_life" [(.var 11)]) "plain" [])]), (.fn "_law_plain" [(.var 11)])]))) [(.ret (.con (.bl false)))] [])])]),
    (.ret (.con (.bl true)))]
theorem t_law : trCs tp N_law 60 (defScope s_law) (defBody s_law) = some b_law := by kernel_rfl
theorem sc_law : FnScope N_law ["_law_script"] (defScope s_law) := ⟨rfl, rfl, rfl, by decide +kernel, rfl, by decide +kernel, by decide +kernel⟩
end K28

set_option maxRecDepth 100000
/-! The tables of the law, def by def -/
namespace K28
open PySem L2 Pm
section
variable (K : PySem.W.Frag) (A B : Addr)
def cs0 : Cs := [("LifeRow", A, ["_left", "_lost"]), ("LifeType", B, ["_keeps", "_needs", "_took", "_rows", "_sours"])]
def T0 : Tb := Tc K (cs0 A B)
def G0 : Gm := Gm.base K (cs0 A B)
def gInit : Fn := runF (G0 K A B) 3 3 b_LifeRow___init__
def gLeft : Fn := runF (G0 K A B) 1 1 b_LifeRow_left
def gLost : Fn := runF (G0 K A B) 1 1 b_LifeRow_lost
def gLeast : Fn := runF (G0 K A B) 2 2 b_least_term
def gGreat : Fn := runF (G0 K A B) 2 2 b_greatest_term
def gCall : Fn := runF (G0 K A B) 2 N_LifeRow___call__.length b_LifeRow___call__
def gEq : Fn := runF (G0 K A B) 2 2 b_LifeRow___eq__
def okE (t : Value) : Bool := decide (t ∈ asOf (cs0 A B) ++ tys0)
def G1a : Gm := (((G0 K A B).addCs "LifeRow" (mkFn "LifeRow" true (gInit K A B))).addPr "LifeRow" "left" (gLeft K A B)).addPr "LifeRow" "lost" (gLost K A B)
def G1 : Gm := ((G1a K A B).add "least_term" (gLeast K A B)).add "greatest_term" (gGreat K A B)
def G2 : Gm := (((G1 K A B).addCa "LifeRow" (gCall K A B)).addEq "LifeRow" (okE A B) (gEq K A B)).setCx rowsEq
/-! LifeType -/
def gTInit : Fn := runF (G0 K A B) 6 6 b_LifeType___init__
def gKeeps : Fn := runF (G0 K A B) 1 1 b_LifeType_keeps
def gNeeds : Fn := runF (G0 K A B) 1 1 b_LifeType_needs
def gTook : Fn := runF (G0 K A B) 1 1 b_LifeType_took
def gRows : Fn := runF (G0 K A B) 1 1 b_LifeType_rows
def gSours : Fn := runF (G0 K A B) 1 1 b_LifeType_sours
def gIsNever : Fn := runF (G0 K A B) 1 N_LifeType_is_never.length b_LifeType_is_never
def gEnds : Fn := runF (G0 K A B) 2 N_best_ends.length b_best_ends
def G3a : Gm := ((((G2 K A B).addXt "LifeType/5" (fK "LifeType" 5 (gTInit K A B)) (NewK (T0 K A B) "LifeType" (gTInit K A B) 1 4 "sours")).addXt "LifeType/4" (fD "LifeType" 4 (gTInit K A B) [.bl false]) (NewD (T0 K A B) "LifeType" (gTInit K A B) 1 4 [.bl false])).addXt "MOST_TOOK" (fTop (.int 60)) (fun s => ∃ u, s.mg "MOST_TOOK" = some u ∧ RelV (.int 60) u)).addXt "repO" repO (fun _ => True)
def G3 : Gm := ((G3a K A B).addXi "enumzip" ezD).addXi "zip3" zip3D
def gNever : Fn := runF (G3 K A B) 2 N_LifeType_never.length b_LifeType_never
def G4a : Gm := (G3 K A B).addXt "LifeType.never" (gNever K A B) (StF (T0 K A B) "LifeType" "never" (gNever K A B) 5)
def G4b : Gm := ((((((G4a K A B).addPr "LifeType" "keeps" (gKeeps K A B)).addPr "LifeType" "needs" (gNeeds K A B)).addPr "LifeType" "took" (gTook K A B)).addPr "LifeType" "rows" (gRows K A B)).addPr "LifeType" "sours" (gSours K A B)).addPr "LifeType" "is_never" (gIsNever K A B)
def G4 : Gm := (G4b K A B).add "best_ends" (gEnds K A B)
def gTCall : Fn := runF (G4 K A B) 2 N_LifeType___call__.length b_LifeType___call__
def gOther : Fn := runF (G4 K A B) 4 N_LifeType__least_other.length b_LifeType__least_other
def gTEq : Fn := runF (G4 K A B) 2 2 b_LifeType___eq__
def G5 : Gm := (G4 K A B).addMe "LifeType" "_least_other" (gOther K A B)
def gPlainRow : Fn := runF (G5 K A B) 2 N_LifeType__plain_row.length b_LifeType__plain_row
def G6 : Gm := (G5 K A B).addMe "LifeType" "_plain_row" (gPlainRow K A B)
def gPlain : Fn := runF (G6 K A B) 1 N_LifeType_plain.length b_LifeType_plain
def G7 : Gm := (((G6 K A B).addMe "LifeType" "plain" (gPlain K A B)).addCa "LifeType" (gTCall K A B)).addEq "LifeType" (okE A B) (gTEq K A B)
def g_law_box : Fn := runF (G7 K A B) 2 N__law_box.length b__law_box
def H_law_box : Gm := (G7 K A B).add "_law_box" (g_law_box K A B)
def g_law_take : Fn := runF (H_law_box K A B) 2 N__law_take.length b__law_take
def H_law_take : Gm := (H_law_box K A B).add "_law_take" (g_law_take K A B)
def g_law_pick : Fn := runF (H_law_take K A B) 2 N__law_pick.length b__law_pick
def H_law_pick : Gm := (H_law_take K A B).add "_law_pick" (g_law_pick K A B)
def g_law_row : Fn := runF (H_law_pick K A B) 2 N__law_row.length b__law_row
def H_law_row : Gm := (H_law_pick K A B).add "_law_row" (g_law_row K A B)
def g_law_bound : Fn := runF (H_law_row K A B) 2 N__law_bound.length b__law_bound
def H_law_bound : Gm := (H_law_row K A B).add "_law_bound" (g_law_bound K A B)
def g_law_alike : Fn := runF (H_law_bound K A B) 2 N__law_alike.length b__law_alike
def H_law_alike : Gm := (H_law_bound K A B).add "_law_alike" (g_law_alike K A B)
def g_law_claim : Fn := runF (H_law_alike K A B) 3 N__law_claim.length b__law_claim
def H_law_claim : Gm := (H_law_alike K A B).add "_law_claim" (g_law_claim K A B)
def g_law_life : Fn := runF (H_law_claim K A B) 1 N__law_life.length b__law_life
def H_law_life : Gm := (H_law_claim K A B).add "_law_life" (g_law_life K A B)
def g_law_told : Fn := runF (H_law_life K A B) 1 N__law_told.length b__law_told
def H_law_told : Gm := (H_law_life K A B).add "_law_told" (g_law_told K A B)
def g_law_never : Fn := runF (H_law_told K A B) 1 N__law_never.length b__law_never
def H_law_never : Gm := (H_law_told K A B).add "_law_never" (g_law_never K A B)
def g_law_box_of : Fn := runF (H_law_never K A B) 1 N__law_box_of.length b__law_box_of
def H_law_box_of : Gm := (H_law_never K A B).add "_law_box_of" (g_law_box_of K A B)
def g_law_seen : Fn := runF (H_law_box_of K A B) 2 N__law_seen.length b__law_seen
def H_law_seen : Gm := (H_law_box_of K A B).add "_law_seen" (g_law_seen K A B)
def g_law_small : Fn := runF (H_law_seen K A B) 1 N__law_small.length b__law_small
def H_law_small : Gm := (H_law_seen K A B).add "_law_small" (g_law_small K A B)
def g_law_without : Fn := runF (H_law_small K A B) 1 N__law_without.length b__law_without
def H_law_without : Gm := (H_law_small K A B).add "_law_without" (g_law_without K A B)
def g_law_shows_alike : Fn := runF (H_law_without K A B) 3 N__law_shows_alike.length b__law_shows_alike
def H_law_shows_alike : Gm := (H_law_without K A B).add "_law_shows_alike" (g_law_shows_alike K A B)
def g_law_plain_row : Fn := runF (H_law_shows_alike K A B) 2 N__law_plain_row.length b__law_plain_row
def H_law_plain_row : Gm := (H_law_shows_alike K A B).add "_law_plain_row" (g_law_plain_row K A B)
def g_law_plain : Fn := runF (H_law_plain_row K A B) 1 N__law_plain.length b__law_plain
def H_law_plain : Gm := (H_law_plain_row K A B).add "_law_plain" (g_law_plain K A B)
def gLaw : Fn := runF (H_law_plain K A B) 1 N_law.length b_law
end
end K28

set_option maxRecDepth 100000
set_option maxHeartbeats 1000000
/-! The law answers True -/
namespace K28
open PySem L2 Pm
section
variable {K : PySem.W.Frag} {A B : Addr} {m : Mu}
theorem hA : (T0 K A B).cls "LifeRow" = some A := rfl
theorem hB : (T0 K A B).cls "LifeType" = some B := rfl
theorem isiB (hAB : A ≠ B) (c : Cl) : bltD (G4 K A B) .isi [lifeI c, .cls "LifeType"] m = .ok (.bl true) m := by
  have h1 : (lifeI c).typ (G4 K A B).T m = some (.ref B) := rfl
  have h3 : isiC (cs0 A B) (.ref B) (.ref B) = some true := by
    unfold isiC
    rw [if_pos (by simp [asOf, cs0]), if_pos rfl]
  have h4 : isiD (G4 K A B) m (lifeI c) (.cls "LifeType") = some true := by
    unfold isiD
    rw [h1]
    exact h3
  exact isi_b h4
theorem f1 : FlOk (G0 K A B) := ⟨rfl, rfl, rfl, rfl, rfl, rfl, rfl⟩
theorem f4' : FlOk (G4 K A B) := ⟨rfl, rfl, rfl, rfl, rfl, rfl, rfl⟩
theorem f2 : RowTab (G5 K A B) (G0 K A B) (G0 K A B) (G0 K A B) (G0 K A B) (G4 K A B) := ⟨⟨rfl, rfl, rfl, rfl, rfl, rfl, rfl⟩, ⟨rfl, rfl, rfl, rfl, rfl, rfl, rfl⟩, ⟨rfl, rfl, rfl, rfl, rfl, rfl, rfl⟩, ⟨rfl, rfl, rfl, rfl, rfl, rfl, rfl⟩, rfl, rfl, rfl, rfl, rfl, rfl, rfl, rfl, rfl, rfl, rfl⟩
theorem f3 : PlTab (G6 K A B) (G0 K A B) (G3 K A B) (G0 K A B) (G5 K A B) (G0 K A B) (G0 K A B) (G0 K A B) (G0 K A B) (G4 K A B) := ⟨⟨rfl, rfl, rfl, rfl, rfl, rfl, rfl⟩, f1, f1, f2, rfl, rfl, rfl, rfl, rfl, rfl, rfl, rfl⟩
theorem ne_life (hAB : A ≠ B) (c : Cl) (m : Mu) : cmD (H_law_plain K A B) .NotEq (lifeI c) (lifeI c) m = .ok (.bl false) m := by
  have h1 : (lifeI c).typ (T0 K A B) m = some (.ref B) := rfl
  have h2 : okE A B (.ref B) = true := by
    unfold okE
    simp [asOf, cs0]
  have h3 : runF (G4 K A B) 2 2 b_LifeType___eq__ [lifeI c, lifeI c] m = .ok (.bl true) m := teq_ok (G := G4 K A B) f4' c (isiB hAB c) (rows_eq rfl _)
  have h4 : okArg (T0 K A B) (okE A B) (gTEq K A B) [lifeI c, lifeI c] m = .ok (.bl true) m := by
    unfold okArg
    dsimp only
    rw [h1]
    dsimp only
    rw [if_pos h2]
    exact h3
  show (match (negR (okArg (T0 K A B) (okE A B) (gTEq K A B)) [lifeI c, lifeI c] m).noX with | r => r) = _
  unfold negR
  rw [h4]
  rfl
theorem tab (hAB : A ≠ B) : LawTab (H_law_plain K A B) (G7 K A B) (H_law_take K A B) where
  dr := ⟨rfl, rfl, rfl⟩
  sm := ⟨_, rfl, rfl, rfl, rfl⟩
  cl := ⟨_, _, rfl, ⟨rfl, rfl, rfl⟩, rfl, rfl, rfl, rfl⟩
  li := ⟨_, _, _, rfl, f1, f1, rfl, rfl, rfl, rfl, rfl, rfl, rfl, rfl, rfl, rfl, rfl, rfl, rfl, rfl, rfl, rfl⟩
  to := ⟨_, _, _, rfl, f1, f1, rfl, rfl, rfl, rfl, rfl, rfl, rfl, rfl, rfl, rfl, rfl, rfl, rfl, rfl, rfl, rfl⟩
  al := ⟨_, rfl⟩
  pl := ⟨_, _, _, _, rfl, rfl, rfl, rfl⟩
  nv := ⟨_, rfl⟩
  sh := ⟨_, _, _, _, _, rfl, rfl, rfl, rfl, rfl, rfl, rfl⟩
  me := ⟨_, _, _, _, _, _, _, _, _, _, rfl, f3⟩
  ne := ne_life hAB
theorem forL_go {f : D → Pm.Env → Mu → Rs Fl} (I : Pm.Env → Mu → Prop) : ∀ (ds : List D) {ρ : Pm.Env} {m : Mu}, (∀ d ∈ ds, ∀ ρ m, I ρ m → ∃ ρ' m', f d ρ m = .ok (.nx ρ') m' ∧ I ρ' m') → I ρ m → ∃ ρ' m', forL [] f ds ρ m = .ok (.nx ρ') m' ∧ I ρ' m'
  | [], ρ, m, _, h => ⟨ρ, m, by unfold forL; rfl, h⟩
  | d :: ds, ρ, m, hf, h => by
    obtain ⟨ρ1, m1, e1, h1⟩ := hf d List.mem_cons_self ρ m h
    obtain ⟨ρ2, m2, e2, h2⟩ := forL_go I ds (ρ := ρ1) (m := m1) (fun d hd => hf d (List.mem_cons_of_mem _ hd)) h1
    refine ⟨ρ2, m2, ?_, h2⟩
    unfold forL
    rw [e1, rs_ok]
    dsimp only
    rw [if_pos (show okW [] _ = true from rfl)]
    exact e2
abbrev Gl : Gm := H_law_plain K A B
theorem gB : (Gl (K := K) (A := A) (B := B)).fn "_law_box" = some (runF (G7 K A B) 2 4 bBox) := rfl
theorem box_turn (hAB : A ≠ B) (ns : List Int) (hl : ns.length ≤ 63) {j : Int} (hj : 0 ≤ j) {x2 x3 x4 x5 x6 x7 x8 x9 x10 x11 : Option D} (m : Mu) : ∃ ρ' m', evCs (Gl (K := K) (A := A) (B := B)) [(.asg (.nm 2) (.fn "_law_box" [(.var 0), (.var 1)])), (.for (.nm 3) (.rng [(.con (.int 4))]) cTurn)] [some (.frl (ns.map .int)), some (.int j), x2, x3, x4, x5, x6, x7, x8, x9, x10, x11] m = .ok (.nx ρ') m' ∧ (∃ y1 y2 y3 y4 y5 y6 y7 y8 y9 y10 y11, ρ' = [some (.frl (ns.map .int)), y1, y2, y3, y4, y5, y6, y7, y8, y9, y10, y11]) := by
  obtain ⟨x, y, e0⟩ := box_ok (G := G7 K A B) ns (by omega) hj m
  have b0 : Bx (m ++ [.lst [.int x, .int y, .int 0]]) m.length := ⟨x, y, 0, get_last _⟩
  obtain ⟨ρ', m', e1, ⟨y3, y4, y5, y6, y7, y8, y9, y10, y11, rfl⟩, b1⟩ := forL_go (f := fun d ρ m => (evG (Gl (K := K) (A := A) (B := B)) (.nm 3) d ρ m).bind fun ρ m => evCs (Gl (K := K) (A := A) (B := B)) cTurn ρ m)
    (fun ρ mm => (∃ y3 y4 y5 y6 y7 y8 y9 y10 y11, ρ = [some (.frl (ns.map .int)), some (.int j), some (.own m.length), y3, y4, y5, y6, y7, y8, y9, y10, y11]) ∧ Bx mm m.length) ((List.range 4).map fun (i : Nat) => D.int (0 + (i : Int))) (ρ := [some (.frl (ns.map .int)), some (.int j), some (.own m.length), x3, x4, x5, x6, x7, x8, x9, x10, x11]) (m := m ++ [.lst [.int x, .int y, .int 0]]) (fun d hd ρ mm ⟨⟨y3, y4, y5, y6, y7, y8, y9, y10, y11, hρ⟩, hb⟩ => by
      subst hρ
      obtain ⟨z4, z5, z6, z7, z8, z9, z10, z11, m2, e2, b2⟩ := turn_ok (tab (K := K) (A := A) (B := B) hAB) (S := some (.frl (ns.map .int))) (j := some (.int j)) (q := some d) (x4 := y4) (x5 := y5) (x6 := y6) (x7 := y7) (x8 := y8) (x9 := y9) (x10 := y10) (x11 := y11) hb
      exact ⟨_, m2, by rw [evG, rs_ok]; exact e2, ⟨_, _, _, _, _, _, _, _, _, rfl⟩, b2⟩) ⟨⟨_, _, _, _, _, _, _, _, _, rfl⟩, b0⟩
  refine ⟨[some (.frl (ns.map .int)), some (.int j), some (.own m.length), y3, y4, y5, y6, y7, y8, y9, y10, y11], m', ?_, _, _, _, _, _, _, _, _, _, _, _, rfl⟩
  rw [evCs_nx (ρ' := [some (.frl (ns.map .int)), some (.int j), some (.own m.length), x3, x4, x5, x6, x7, x8, x9, x10, x11]) (m' := m ++ [.lst [.int x, .int y, .int 0]]) (by rw [evC, call2 gB rfl rfl e0, rs_ok, evG, rs_ok]; rfl), evCs_one, evC_for, evI_rngM (n := 4) (m := m ++ [.lst [.int x, .int y, .int 0]]) (by rw [evE]; rfl) (by decide), rs_ok]
  exact e1
theorem law_true (K : PySem.W.Frag) (A B : Addr) (hAB : A ≠ B) (ns : List Int) (h : ns.length ≤ 63) : ∃ m, gLaw K A B [.frl (ns.map D.int)] [] = .ok (.bl true) m := by
  obtain ⟨n, hn, hr⟩ : ∃ n : Nat, n < 1000 ∧ ∀ x1 x2 x3 x4 x5 x6 x7 x8 x9 x10 x11, evI (Gl (K := K) (A := A) (B := B)) (.rng [(.blt .max [(.con (.int 2)), (.blt .min [(.con (.int 5)), (.blt .len [(.var 0)])])])]) [some (.frl (ns.map .int)), x1, x2, x3, x4, x5, x6, x7, x8, x9, x10, x11] [] = .ok ((List.range n).map fun (i : Nat) => D.int (0 + (i : Int)), []) [] := by
    refine ⟨max 2 (min 5 ns.length), by omega, fun x1 x2 x3 x4 x5 x6 x7 x8 x9 x10 x11 => ?_⟩
    have hl : bltD (Gl (K := K) (A := A) (B := B)) .len [.frl (ns.map .int)] [] = .ok (.int ns.length) [] := by
      rw [show bltD (Gl (K := K) (A := A) (B := B)) .len [.frl (ns.map .int)] [] = .ok (.int (ns.map D.int).length) [] from rfl, List.length_map]
    refine evI_rngM (m := []) ?_ (by omega)
    rw [evE, evEs, evE, rs_ok, evEs, evE, evEs, evE, rs_ok, evEs, evE, evEs, evE_var (d := .frl (ns.map .int)) rfl, rs_ok, evEs, rs_ok, rs_ok, hl, rs_ok, evEs, rs_ok, rs_ok, rs_ok, blt_min, rs_ok, evEs, rs_ok, rs_ok, rs_ok, blt_max]
    rw [show (if (2 : Int) < (if (ns.length : Int) < 5 then (ns.length : Int) else 5) then (if (ns.length : Int) < 5 then (ns.length : Int) else 5) else 2) = ((max 2 (min 5 ns.length) : Nat) : Int) by split <;> split <;> omega]
  obtain ⟨ρ', m', e1, ⟨y1, y2, y3, y4, y5, y6, y7, y8, y9, y10, y11, rfl⟩⟩ := forL_go (f := fun d ρ m => (evG (Gl (K := K) (A := A) (B := B)) (.nm 1) d ρ m).bind fun ρ m => evCs (Gl (K := K) (A := A) (B := B)) [(.asg (.nm 2) (.fn "_law_box" [(.var 0), (.var 1)])), (.for (.nm 3) (.rng [(.con (.int 4))]) cTurn)] ρ m)
    (fun ρ m => ∃ y1 y2 y3 y4 y5 y6 y7 y8 y9 y10 y11, ρ = [some (.frl (ns.map .int)), y1, y2, y3, y4, y5, y6, y7, y8, y9, y10, y11]) ((List.range n).map fun (i : Nat) => D.int (0 + (i : Int))) (ρ := [some (.frl (ns.map .int)), none, none, none, none, none, none, none, none, none, none, none]) (m := []) (fun d hd ρ m ⟨y1, y2, y3, y4, y5, y6, y7, y8, y9, y10, y11, hρ⟩ => by
      subst hρ
      obtain ⟨i, hi, rfl⟩ := List.mem_map.mp hd
      obtain ⟨ρ', m', e2, h2⟩ := box_turn (K := K) (A := A) (B := B) hAB ns h (j := 0 + (i : Int)) (by omega) (x2 := y2) (x3 := y3) (x4 := y4) (x5 := y5) (x6 := y6) (x7 := y7) (x8 := y8) (x9 := y9) (x10 := y10) (x11 := y11) m
      exact ⟨ρ', m', by rw [evG, rs_ok]; exact e2, h2⟩) ⟨_, _, _, _, _, _, _, _, _, _, _, rfl⟩
  refine ⟨m', ?_⟩
  unfold gLaw runF
  refine (if_pos (by rfl)).trans ?_
  show (evCs (Gl (K := K) (A := A) (B := B)) [.for (.nm 1) (.rng [(.blt .max [(.con (.int 2)), (.blt .min [(.con (.int 5)), (.blt .len [(.var 0)])])])]) [(.asg (.nm 2) (.fn "_law_box" [(.var 0), (.var 1)])), (.for (.nm 3) (.rng [(.con (.int 4))]) cTurn)], .ret (.con (.bl true))] [some (.frl (ns.map .int)), none, none, none, none, none, none, none, none, none, none, none] []).bind _ = _
  rw [evCs_nx (by rw [evC_for, hr, rs_ok]; exact e1), evCs_rt (d := .bl true) (m' := m') (by rw [evC, evE, rs_ok]), rs_ok]
end
end K28

set_option maxRecDepth 100000
set_option maxHeartbeats 4000000
namespace K28
open PySem L2 Pm
theorem all_mk {l : PySem.W.OpenLaw} {w : World} {K : PySem.W.Frag} {h : Heap} {mg : Str → Option Value} {fa A B : Addr} (X : K.In h) (G : h.Ns mainGlobals mg) (hfa : mg "law" = some (.ref fa))
    {tkM : Tok}
    {Dk : Addr}
    {fm0 : Addr} {odm0 anm0 : Option Addr} {slm0 : Array (Option Value)} {ocm0 kVm0 dcm0 pmm0 cdm0 ctm0 : Value}
    {fm1 : Addr} {odm1 anm1 : Option Addr} {slm1 : Array (Option Value)} {ocm1 kVm1 dcm1 pmm1 cdm1 ctm1 : Value}
    {fm2 : Addr} {odm2 anm2 : Option Addr} {slm2 : Array (Option Value)} {ocm2 kVm2 dcm2 pmm2 cdm2 ctm2 : Value}
    {ft0 : Addr} {odt0 ant0 : Option Addr} {slt0 : Array (Option Value)} {oct0 dct0 pmt0 cdt0 ctt0 : Value}
    {ft2 : Addr} {odt2 ant2 : Option Addr} {slt2 : Array (Option Value)} {oct2 kVt2 dct2 pmt2 cdt2 ctt2 : Value}
    {ft3 : Addr} {odt3 ant3 : Option Addr} {slt3 : Array (Option Value)} {oct3 kVt3 dct3 pmt3 cdt3 ctt3 : Value}
    {ft4 : Addr} {odt4 ant4 : Option Addr} {slt4 : Array (Option Value)} {oct4 kVt4 dct4 pmt4 cdt4 ctt4 : Value}
    {ft5 : Addr} {odt5 ant5 : Option Addr} {slt5 : Array (Option Value)} {oct5 kVt5 dct5 pmt5 cdt5 ctt5 : Value}
    {ft6 : Addr} {odt6 ant6 : Option Addr} {slt6 : Array (Option Value)} {oct6 kVt6 dct6 pmt6 cdt6 ctt6 : Value}
    {zp0 : Addr} {rp0 : List Value}
    {fp0 : Addr} {odp0 anp0 : Option Addr} {slp0 : Array (Option Value)} {ocp0 kVp0 dcp0 pmp0 cdp0 ctp0 : Value}
    {zp1 : Addr} {rp1 : List Value}
    {fp1 : Addr} {odp1 anp1 : Option Addr} {slp1 : Array (Option Value)} {ocp1 kVp1 dcp1 pmp1 cdp1 ctp1 : Value}
    {zq0 : Addr} {rq0 : List Value}
    {fq0 : Addr} {odq0 anq0 : Option Addr} {slq0 : Array (Option Value)} {ocq0 kVq0 dcq0 pmq0 cdq0 ctq0 : Value}
    {zq1 : Addr} {rq1 : List Value}
    {fq1 : Addr} {odq1 anq1 : Option Addr} {slq1 : Array (Option Value)} {ocq1 kVq1 dcq1 pmq1 cdq1 ctq1 : Value}
    {zq2 : Addr} {rq2 : List Value}
    {fq2 : Addr} {odq2 anq2 : Option Addr} {slq2 : Array (Option Value)} {ocq2 kVq2 dcq2 pmq2 cdq2 ctq2 : Value}
    {zq3 : Addr} {rq3 : List Value}
    {fq3 : Addr} {odq3 anq3 : Option Addr} {slq3 : Array (Option Value)} {ocq3 kVq3 dcq3 pmq3 cdq3 ctq3 : Value}
    {zq4 : Addr} {rq4 : List Value}
    {fq4 : Addr} {odq4 anq4 : Option Addr} {slq4 : Array (Option Value)} {ocq4 kVq4 dcq4 pmq4 cdq4 ctq4 : Value}
    {zq5 : Addr} {rq5 : List Value}
    {fq5 : Addr} {odq5 anq5 : Option Addr} {slq5 : Array (Option Value)} {ocq5 kVq5 dcq5 pmq5 cdq5 ctq5 : Value}
    {zv0 : Addr} {rv0 : List Value}
    {fv0 : Addr} {odv0 anv0 : Option Addr} {slv0 : Array (Option Value)} {ocv0 kVv0 dcv0 pmv0 cdv0 ctv0 : Value}
    {fd0 : Addr} {odd0 and0 : Option Addr} {sld0 : Array (Option Value)} {ocd0 kVd0 dcd0 pmd0 cdd0 ctd0 : Value}
    {fd1 : Addr} {odd1 and1 : Option Addr} {sld1 : Array (Option Value)} {ocd1 kVd1 dcd1 pmd1 cdd1 ctd1 : Value}
    {fd2 : Addr} {odd2 and2 : Option Addr} {sld2 : Array (Option Value)} {ocd2 kVd2 dcd2 pmd2 cdd2 ctd2 : Value}
    {fd3 : Addr} {odd3 and3 : Option Addr} {sld3 : Array (Option Value)} {ocd3 kVd3 dcd3 pmd3 cdd3 ctd3 : Value}
    {fd4 : Addr} {odd4 and4 : Option Addr} {sld4 : Array (Option Value)} {ocd4 kVd4 dcd4 pmd4 cdd4 ctd4 : Value}
    {fd5 : Addr} {odd5 and5 : Option Addr} {sld5 : Array (Option Value)} {ocd5 kVd5 dcd5 pmd5 cdd5 ctd5 : Value}
    {fd6 : Addr} {odd6 and6 : Option Addr} {sld6 : Array (Option Value)} {ocd6 kVd6 dcd6 pmd6 cdd6 ctd6 : Value}
    {fd7 : Addr} {odd7 and7 : Option Addr} {sld7 : Array (Option Value)} {ocd7 kVd7 dcd7 pmd7 cdd7 ctd7 : Value}
    {fd8 : Addr} {odd8 and8 : Option Addr} {sld8 : Array (Option Value)} {ocd8 kVd8 dcd8 pmd8 cdd8 ctd8 : Value}
    {fd9 : Addr} {odd9 and9 : Option Addr} {sld9 : Array (Option Value)} {ocd9 kVd9 dcd9 pmd9 cdd9 ctd9 : Value}
    {fd10 : Addr} {odd10 and10 : Option Addr} {sld10 : Array (Option Value)} {ocd10 kVd10 dcd10 pmd10 cdd10 ctd10 : Value}
    {fd11 : Addr} {odd11 and11 : Option Addr} {sld11 : Array (Option Value)} {ocd11 kVd11 dcd11 pmd11 cdd11 ctd11 : Value}
    {fd12 : Addr} {odd12 and12 : Option Addr} {sld12 : Array (Option Value)} {ocd12 kVd12 dcd12 pmd12 cdd12 ctd12 : Value}
    {fd13 : Addr} {odd13 and13 : Option Addr} {sld13 : Array (Option Value)} {ocd13 kVd13 dcd13 pmd13 cdd13 ctd13 : Value}
    {fd14 : Addr} {odd14 and14 : Option Addr} {sld14 : Array (Option Value)} {ocd14 kVd14 dcd14 pmd14 cdd14 ctd14 : Value}
    {fd15 : Addr} {odd15 and15 : Option Addr} {sld15 : Array (Option Value)} {ocd15 kVd15 dcd15 pmd15 cdd15 ctd15 : Value}
    {fd16 : Addr} {odd16 and16 : Option Addr} {sld16 : Array (Option Value)} {ocd16 kVd16 dcd16 pmd16 cdd16 ctd16 : Value}
    {fd17 : Addr} {odd17 and17 : Option Addr} {sld17 : Array (Option Value)} {ocd17 kVd17 dcd17 pmd17 cdd17 ctd17 : Value}
    {fd18 : Addr} {odd18 and18 : Option Addr} {sld18 : Array (Option Value)} {ocd18 kVd18 dcd18 pmd18 cdd18 ctd18 : Value}
    {fd19 : Addr} {odd19 and19 : Option Addr} {sld19 : Array (Option Value)} {ocd19 kVd19 dcd19 pmd19 cdd19 ctd19 : Value}
    {fd20 : Addr} {odd20 and20 : Option Addr} {sld20 : Array (Option Value)} {ocd20 kVd20 dcd20 pmd20 cdd20 ctd20 : Value}
    (aA : PySem.W.nsIn K mainGlobals "LifeRow" = some (some (.ref A)))
    (aB : PySem.W.nsIn K mainGlobals "LifeType" = some (some (.ref B)))
    (aMost : PySem.W.nsIn K mainGlobals "MOST_TOOK" = some (some (.int 60 tkM)))
    (im0 : PySem.W.findIn K (.ref A) "__init__" = some (some (.ref fm0)))
    (lm0 : K.lookup fm0 = some ⟨ocm0, odm0, .func (PySem.W.fnOf "__init__" "LifeRow.__init__" (defArgs s_LifeRow___init__) (defBody s_LifeRow___init__) (defScope s_LifeRow___init__) .none kVm0 dcm0 pmm0 anm0 cdm0 ctm0), slm0⟩)
    (cm0 : PySem.W.codeIn K cdm0 "LifeRow.__init__" = true)
    (km0 : PySem.W.keepIn K (.ref fm0) = true)
    (tm0 : PySem.W.typeIn K (.ref fm0) = some (.type "function"))
    (im1 : PySem.W.findIn K (.ref A) "__call__" = some (some (.ref fm1)))
    (lm1 : K.lookup fm1 = some ⟨ocm1, odm1, .func (PySem.W.fnOf "__call__" "LifeRow.__call__" (defArgs s_LifeRow___call__) (defBody s_LifeRow___call__) (defScope s_LifeRow___call__) .none kVm1 dcm1 pmm1 anm1 cdm1 ctm1), slm1⟩)
    (cm1 : PySem.W.codeIn K cdm1 "LifeRow.__call__" = true)
    (km1 : PySem.W.keepIn K (.ref fm1) = true)
    (tm1 : PySem.W.typeIn K (.ref fm1) = some (.type "function"))
    (im2 : PySem.W.findIn K (.ref A) "__eq__" = some (some (.ref fm2)))
    (lm2 : K.lookup fm2 = some ⟨ocm2, odm2, .func (PySem.W.fnOf "__eq__" "LifeRow.__eq__" (defArgs s_LifeRow___eq__) (defBody s_LifeRow___eq__) (defScope s_LifeRow___eq__) .none kVm2 dcm2 pmm2 anm2 cdm2 ctm2), slm2⟩)
    (cm2 : PySem.W.codeIn K cdm2 "LifeRow.__eq__" = true)
    (km2 : PySem.W.keepIn K (.ref fm2) = true)
    (tm2 : PySem.W.typeIn K (.ref fm2) = some (.type "function"))
    (it0 : PySem.W.findIn K (.ref B) "__init__" = some (some (.ref ft0)))
    (lt0 : K.lookup ft0 = some ⟨oct0, odt0, .func (PySem.W.fnOf "__init__" "LifeType.__init__" (defArgs s_LifeType___init__) (defBody s_LifeType___init__) (defScope s_LifeType___init__) .none (.ref Dk) dct0 pmt0 ant0 cdt0 ctt0), slt0⟩)
    (ct0 : PySem.W.codeIn K cdt0 "LifeType.__init__" = true)
    (kt0 : PySem.W.keepIn K (.ref ft0) = true)
    (tt0 : PySem.W.typeIn K (.ref ft0) = some (.type "function"))
    (it2 : PySem.W.findIn K (.ref B) "__call__" = some (some (.ref ft2)))
    (lt2 : K.lookup ft2 = some ⟨oct2, odt2, .func (PySem.W.fnOf "__call__" "LifeType.__call__" (defArgs s_LifeType___call__) (defBody s_LifeType___call__) (defScope s_LifeType___call__) .none kVt2 dct2 pmt2 ant2 cdt2 ctt2), slt2⟩)
    (ct2 : PySem.W.codeIn K cdt2 "LifeType.__call__" = true)
    (kt2 : PySem.W.keepIn K (.ref ft2) = true)
    (tt2 : PySem.W.typeIn K (.ref ft2) = some (.type "function"))
    (it3 : PySem.W.findIn K (.ref B) "plain" = some (some (.ref ft3)))
    (lt3 : K.lookup ft3 = some ⟨oct3, odt3, .func (PySem.W.fnOf "plain" "LifeType.plain" (defArgs s_LifeType_plain) (defBody s_LifeType_plain) (defScope s_LifeType_plain) .none kVt3 dct3 pmt3 ant3 cdt3 ctt3), slt3⟩)
    (ct3 : PySem.W.codeIn K cdt3 "LifeType.plain" = true)
    (kt3 : PySem.W.keepIn K (.ref ft3) = true)
    (tt3 : PySem.W.typeIn K (.ref ft3) = some (.type "function"))
    (it4 : PySem.W.findIn K (.ref B) "_plain_row" = some (some (.ref ft4)))
    (lt4 : K.lookup ft4 = some ⟨oct4, odt4, .func (PySem.W.fnOf "_plain_row" "LifeType._plain_row" (defArgs s_LifeType__plain_row) (defBody s_LifeType__plain_row) (defScope s_LifeType__plain_row) .none kVt4 dct4 pmt4 ant4 cdt4 ctt4), slt4⟩)
    (ct4 : PySem.W.codeIn K cdt4 "LifeType._plain_row" = true)
    (kt4 : PySem.W.keepIn K (.ref ft4) = true)
    (tt4 : PySem.W.typeIn K (.ref ft4) = some (.type "function"))
    (it5 : PySem.W.findIn K (.ref B) "_least_other" = some (some (.ref ft5)))
    (lt5 : K.lookup ft5 = some ⟨oct5, odt5, .func (PySem.W.fnOf "_least_other" "LifeType._least_other" (defArgs s_LifeType__least_other) (defBody s_LifeType__least_other) (defScope s_LifeType__least_other) .none kVt5 dct5 pmt5 ant5 cdt5 ctt5), slt5⟩)
    (ct5 : PySem.W.codeIn K cdt5 "LifeType._least_other" = true)
    (kt5 : PySem.W.keepIn K (.ref ft5) = true)
    (tt5 : PySem.W.typeIn K (.ref ft5) = some (.type "function"))
    (it6 : PySem.W.findIn K (.ref B) "__eq__" = some (some (.ref ft6)))
    (lt6 : K.lookup ft6 = some ⟨oct6, odt6, .func (PySem.W.fnOf "__eq__" "LifeType.__eq__" (defArgs s_LifeType___eq__) (defBody s_LifeType___eq__) (defScope s_LifeType___eq__) .none kVt6 dct6 pmt6 ant6 cdt6 ctt6), slt6⟩)
    (ct6 : PySem.W.codeIn K cdt6 "LifeType.__eq__" = true)
    (kt6 : PySem.W.keepIn K (.ref ft6) = true)
    (tt6 : PySem.W.typeIn K (.ref ft6) = some (.type "function"))
    (kw0 : PySem.W.nsIn K Dk "sours" = some (some (.bool false)))
    (ap0 : PySem.W.findIn K (.ref A) "left" = some (some (.ref zp0)))
    (gp0 : PySem.W.specialIn K (.ref zp0) "__get__" = some (some (.builtin "property.__get__")))
    (up0 : PySem.W.takesIn K (.ref zp0) = some true)
    (ip0 : PySem.W.recIn K zp0 "property" = some (.ref fp0 :: rp0))
    (lp0 : K.lookup fp0 = some ⟨ocp0, odp0, .func (PySem.W.fnOf "left" "LifeRow.left" (defArgs s_LifeRow_left) (defBody s_LifeRow_left) (defScope s_LifeRow_left) .none kVp0 dcp0 pmp0 anp0 cdp0 ctp0), slp0⟩)
    (cp0 : PySem.W.codeIn K cdp0 "LifeRow.left" = true)
    (kp0 : PySem.W.keepIn K (.ref fp0) = true)
    (ap1 : PySem.W.findIn K (.ref A) "lost" = some (some (.ref zp1)))
    (gp1 : PySem.W.specialIn K (.ref zp1) "__get__" = some (some (.builtin "property.__get__")))
    (up1 : PySem.W.takesIn K (.ref zp1) = some true)
    (ip1 : PySem.W.recIn K zp1 "property" = some (.ref fp1 :: rp1))
    (lp1 : K.lookup fp1 = some ⟨ocp1, odp1, .func (PySem.W.fnOf "lost" "LifeRow.lost" (defArgs s_LifeRow_lost) (defBody s_LifeRow_lost) (defScope s_LifeRow_lost) .none kVp1 dcp1 pmp1 anp1 cdp1 ctp1), slp1⟩)
    (cp1 : PySem.W.codeIn K cdp1 "LifeRow.lost" = true)
    (kp1 : PySem.W.keepIn K (.ref fp1) = true)
    (aq0 : PySem.W.findIn K (.ref B) "keeps" = some (some (.ref zq0)))
    (gq0 : PySem.W.specialIn K (.ref zq0) "__get__" = some (some (.builtin "property.__get__")))
    (uq0 : PySem.W.takesIn K (.ref zq0) = some true)
    (iq0 : PySem.W.recIn K zq0 "property" = some (.ref fq0 :: rq0))
    (lq0 : K.lookup fq0 = some ⟨ocq0, odq0, .func (PySem.W.fnOf "keeps" "LifeType.keeps" (defArgs s_LifeType_keeps) (defBody s_LifeType_keeps) (defScope s_LifeType_keeps) .none kVq0 dcq0 pmq0 anq0 cdq0 ctq0), slq0⟩)
    (cq0 : PySem.W.codeIn K cdq0 "LifeType.keeps" = true)
    (kq0 : PySem.W.keepIn K (.ref fq0) = true)
    (aq1 : PySem.W.findIn K (.ref B) "needs" = some (some (.ref zq1)))
    (gq1 : PySem.W.specialIn K (.ref zq1) "__get__" = some (some (.builtin "property.__get__")))
    (uq1 : PySem.W.takesIn K (.ref zq1) = some true)
    (iq1 : PySem.W.recIn K zq1 "property" = some (.ref fq1 :: rq1))
    (lq1 : K.lookup fq1 = some ⟨ocq1, odq1, .func (PySem.W.fnOf "needs" "LifeType.needs" (defArgs s_LifeType_needs) (defBody s_LifeType_needs) (defScope s_LifeType_needs) .none kVq1 dcq1 pmq1 anq1 cdq1 ctq1), slq1⟩)
    (cq1 : PySem.W.codeIn K cdq1 "LifeType.needs" = true)
    (kq1 : PySem.W.keepIn K (.ref fq1) = true)
    (aq2 : PySem.W.findIn K (.ref B) "took" = some (some (.ref zq2)))
    (gq2 : PySem.W.specialIn K (.ref zq2) "__get__" = some (some (.builtin "property.__get__")))
    (uq2 : PySem.W.takesIn K (.ref zq2) = some true)
    (iq2 : PySem.W.recIn K zq2 "property" = some (.ref fq2 :: rq2))
    (lq2 : K.lookup fq2 = some ⟨ocq2, odq2, .func (PySem.W.fnOf "took" "LifeType.took" (defArgs s_LifeType_took) (defBody s_LifeType_took) (defScope s_LifeType_took) .none kVq2 dcq2 pmq2 anq2 cdq2 ctq2), slq2⟩)
    (cq2 : PySem.W.codeIn K cdq2 "LifeType.took" = true)
    (kq2 : PySem.W.keepIn K (.ref fq2) = true)
    (aq3 : PySem.W.findIn K (.ref B) "rows" = some (some (.ref zq3)))
    (gq3 : PySem.W.specialIn K (.ref zq3) "__get__" = some (some (.builtin "property.__get__")))
    (uq3 : PySem.W.takesIn K (.ref zq3) = some true)
    (iq3 : PySem.W.recIn K zq3 "property" = some (.ref fq3 :: rq3))
    (lq3 : K.lookup fq3 = some ⟨ocq3, odq3, .func (PySem.W.fnOf "rows" "LifeType.rows" (defArgs s_LifeType_rows) (defBody s_LifeType_rows) (defScope s_LifeType_rows) .none kVq3 dcq3 pmq3 anq3 cdq3 ctq3), slq3⟩)
    (cq3 : PySem.W.codeIn K cdq3 "LifeType.rows" = true)
    (kq3 : PySem.W.keepIn K (.ref fq3) = true)
    (aq4 : PySem.W.findIn K (.ref B) "sours" = some (some (.ref zq4)))
    (gq4 : PySem.W.specialIn K (.ref zq4) "__get__" = some (some (.builtin "property.__get__")))
    (uq4 : PySem.W.takesIn K (.ref zq4) = some true)
    (iq4 : PySem.W.recIn K zq4 "property" = some (.ref fq4 :: rq4))
    (lq4 : K.lookup fq4 = some ⟨ocq4, odq4, .func (PySem.W.fnOf "sours" "LifeType.sours" (defArgs s_LifeType_sours) (defBody s_LifeType_sours) (defScope s_LifeType_sours) .none kVq4 dcq4 pmq4 anq4 cdq4 ctq4), slq4⟩)
    (cq4 : PySem.W.codeIn K cdq4 "LifeType.sours" = true)
    (kq4 : PySem.W.keepIn K (.ref fq4) = true)
    (aq5 : PySem.W.findIn K (.ref B) "is_never" = some (some (.ref zq5)))
    (gq5 : PySem.W.specialIn K (.ref zq5) "__get__" = some (some (.builtin "property.__get__")))
    (uq5 : PySem.W.takesIn K (.ref zq5) = some true)
    (iq5 : PySem.W.recIn K zq5 "property" = some (.ref fq5 :: rq5))
    (lq5 : K.lookup fq5 = some ⟨ocq5, odq5, .func (PySem.W.fnOf "is_never" "LifeType.is_never" (defArgs s_LifeType_is_never) (defBody s_LifeType_is_never) (defScope s_LifeType_is_never) .none kVq5 dcq5 pmq5 anq5 cdq5 ctq5), slq5⟩)
    (cq5 : PySem.W.codeIn K cdq5 "LifeType.is_never" = true)
    (kq5 : PySem.W.keepIn K (.ref fq5) = true)
    (av0 : PySem.W.findCls K (.ref B) (.type "type") "never" = some (.get (.builtin "staticmethod.__get__") (.ref zv0) .none (.ref B)))
    (gv0 : PySem.W.specialIn K (.ref B) "__getattribute__" = some (some (.builtin "type.__getattribute__")))
    (uv0 : PySem.W.readsIn K B (.type "type") = true)
    (yv0 : PySem.W.typeIn K (.ref B) = some (.type "type"))
    (iv0 : PySem.W.recIn K zv0 "staticmethod" = some (.ref fv0 :: rv0))
    (lv0 : K.lookup fv0 = some ⟨ocv0, odv0, .func (PySem.W.fnOf "never" "LifeType.never" (defArgs s_LifeType_never) (defBody s_LifeType_never) (defScope s_LifeType_never) .none kVv0 dcv0 pmv0 anv0 cdv0 ctv0), slv0⟩)
    (cv0 : PySem.W.codeIn K cdv0 "LifeType.never" = true)
    (kv0 : PySem.W.keepIn K (.ref fv0) = true)
    (id0 : PySem.W.nsIn K mainGlobals "least_term" = some (some (.ref fd0)))
    (ld0 : K.lookup fd0 = some ⟨ocd0, odd0, .func (PySem.W.fnOf "least_term" "least_term" (defArgs s_least_term) (defBody s_least_term) (defScope s_least_term) .none kVd0 dcd0 pmd0 and0 cdd0 ctd0), sld0⟩)
    (cd0 : PySem.W.codeIn K cdd0 "least_term" = true)
    (kd0 : PySem.W.keepIn K (.ref fd0) = true)
    (id1 : PySem.W.nsIn K mainGlobals "greatest_term" = some (some (.ref fd1)))
    (ld1 : K.lookup fd1 = some ⟨ocd1, odd1, .func (PySem.W.fnOf "greatest_term" "greatest_term" (defArgs s_greatest_term) (defBody s_greatest_term) (defScope s_greatest_term) .none kVd1 dcd1 pmd1 and1 cdd1 ctd1), sld1⟩)
    (cd1 : PySem.W.codeIn K cdd1 "greatest_term" = true)
    (kd1 : PySem.W.keepIn K (.ref fd1) = true)
    (id2 : PySem.W.nsIn K mainGlobals "best_ends" = some (some (.ref fd2)))
    (ld2 : K.lookup fd2 = some ⟨ocd2, odd2, .func (PySem.W.fnOf "best_ends" "best_ends" (defArgs s_best_ends) (defBody s_best_ends) (defScope s_best_ends) .none kVd2 dcd2 pmd2 and2 cdd2 ctd2), sld2⟩)
    (cd2 : PySem.W.codeIn K cdd2 "best_ends" = true)
    (kd2 : PySem.W.keepIn K (.ref fd2) = true)
    (id3 : PySem.W.nsIn K mainGlobals "_law_box" = some (some (.ref fd3)))
    (ld3 : K.lookup fd3 = some ⟨ocd3, odd3, .func (PySem.W.fnOf "_law_box" "_law_box" (defArgs s__law_box) (defBody s__law_box) (defScope s__law_box) .none kVd3 dcd3 pmd3 and3 cdd3 ctd3), sld3⟩)
    (cd3 : PySem.W.codeIn K cdd3 "_law_box" = true)
    (kd3 : PySem.W.keepIn K (.ref fd3) = true)
    (id4 : PySem.W.nsIn K mainGlobals "_law_take" = some (some (.ref fd4)))
    (ld4 : K.lookup fd4 = some ⟨ocd4, odd4, .func (PySem.W.fnOf "_law_take" "_law_take" (defArgs s__law_take) (defBody s__law_take) (defScope s__law_take) .none kVd4 dcd4 pmd4 and4 cdd4 ctd4), sld4⟩)
    (cd4 : PySem.W.codeIn K cdd4 "_law_take" = true)
    (kd4 : PySem.W.keepIn K (.ref fd4) = true)
    (id5 : PySem.W.nsIn K mainGlobals "_law_pick" = some (some (.ref fd5)))
    (ld5 : K.lookup fd5 = some ⟨ocd5, odd5, .func (PySem.W.fnOf "_law_pick" "_law_pick" (defArgs s__law_pick) (defBody s__law_pick) (defScope s__law_pick) .none kVd5 dcd5 pmd5 and5 cdd5 ctd5), sld5⟩)
    (cd5 : PySem.W.codeIn K cdd5 "_law_pick" = true)
    (kd5 : PySem.W.keepIn K (.ref fd5) = true)
    (id6 : PySem.W.nsIn K mainGlobals "_law_row" = some (some (.ref fd6)))
    (ld6 : K.lookup fd6 = some ⟨ocd6, odd6, .func (PySem.W.fnOf "_law_row" "_law_row" (defArgs s__law_row) (defBody s__law_row) (defScope s__law_row) .none kVd6 dcd6 pmd6 and6 cdd6 ctd6), sld6⟩)
    (cd6 : PySem.W.codeIn K cdd6 "_law_row" = true)
    (kd6 : PySem.W.keepIn K (.ref fd6) = true)
    (id7 : PySem.W.nsIn K mainGlobals "_law_bound" = some (some (.ref fd7)))
    (ld7 : K.lookup fd7 = some ⟨ocd7, odd7, .func (PySem.W.fnOf "_law_bound" "_law_bound" (defArgs s__law_bound) (defBody s__law_bound) (defScope s__law_bound) .none kVd7 dcd7 pmd7 and7 cdd7 ctd7), sld7⟩)
    (cd7 : PySem.W.codeIn K cdd7 "_law_bound" = true)
    (kd7 : PySem.W.keepIn K (.ref fd7) = true)
    (id8 : PySem.W.nsIn K mainGlobals "_law_alike" = some (some (.ref fd8)))
    (ld8 : K.lookup fd8 = some ⟨ocd8, odd8, .func (PySem.W.fnOf "_law_alike" "_law_alike" (defArgs s__law_alike) (defBody s__law_alike) (defScope s__law_alike) .none kVd8 dcd8 pmd8 and8 cdd8 ctd8), sld8⟩)
    (cd8 : PySem.W.codeIn K cdd8 "_law_alike" = true)
    (kd8 : PySem.W.keepIn K (.ref fd8) = true)
    (id9 : PySem.W.nsIn K mainGlobals "_law_claim" = some (some (.ref fd9)))
    (ld9 : K.lookup fd9 = some ⟨ocd9, odd9, .func (PySem.W.fnOf "_law_claim" "_law_claim" (defArgs s__law_claim) (defBody s__law_claim) (defScope s__law_claim) .none kVd9 dcd9 pmd9 and9 cdd9 ctd9), sld9⟩)
    (cd9 : PySem.W.codeIn K cdd9 "_law_claim" = true)
    (kd9 : PySem.W.keepIn K (.ref fd9) = true)
    (id10 : PySem.W.nsIn K mainGlobals "_law_life" = some (some (.ref fd10)))
    (ld10 : K.lookup fd10 = some ⟨ocd10, odd10, .func (PySem.W.fnOf "_law_life" "_law_life" (defArgs s__law_life) (defBody s__law_life) (defScope s__law_life) .none kVd10 dcd10 pmd10 and10 cdd10 ctd10), sld10⟩)
    (cd10 : PySem.W.codeIn K cdd10 "_law_life" = true)
    (kd10 : PySem.W.keepIn K (.ref fd10) = true)
    (id11 : PySem.W.nsIn K mainGlobals "_law_told" = some (some (.ref fd11)))
    (ld11 : K.lookup fd11 = some ⟨ocd11, odd11, .func (PySem.W.fnOf "_law_told" "_law_told" (defArgs s__law_told) (defBody s__law_told) (defScope s__law_told) .none kVd11 dcd11 pmd11 and11 cdd11 ctd11), sld11⟩)
    (cd11 : PySem.W.codeIn K cdd11 "_law_told" = true)
    (kd11 : PySem.W.keepIn K (.ref fd11) = true)
    (id12 : PySem.W.nsIn K mainGlobals "_law_never" = some (some (.ref fd12)))
    (ld12 : K.lookup fd12 = some ⟨ocd12, odd12, .func (PySem.W.fnOf "_law_never" "_law_never" (defArgs s__law_never) (defBody s__law_never) (defScope s__law_never) .none kVd12 dcd12 pmd12 and12 cdd12 ctd12), sld12⟩)
    (cd12 : PySem.W.codeIn K cdd12 "_law_never" = true)
    (kd12 : PySem.W.keepIn K (.ref fd12) = true)
    (id13 : PySem.W.nsIn K mainGlobals "_law_box_of" = some (some (.ref fd13)))
    (ld13 : K.lookup fd13 = some ⟨ocd13, odd13, .func (PySem.W.fnOf "_law_box_of" "_law_box_of" (defArgs s__law_box_of) (defBody s__law_box_of) (defScope s__law_box_of) .none kVd13 dcd13 pmd13 and13 cdd13 ctd13), sld13⟩)
    (cd13 : PySem.W.codeIn K cdd13 "_law_box_of" = true)
    (kd13 : PySem.W.keepIn K (.ref fd13) = true)
    (id14 : PySem.W.nsIn K mainGlobals "_law_seen" = some (some (.ref fd14)))
    (ld14 : K.lookup fd14 = some ⟨ocd14, odd14, .func (PySem.W.fnOf "_law_seen" "_law_seen" (defArgs s__law_seen) (defBody s__law_seen) (defScope s__law_seen) .none kVd14 dcd14 pmd14 and14 cdd14 ctd14), sld14⟩)
    (cd14 : PySem.W.codeIn K cdd14 "_law_seen" = true)
    (kd14 : PySem.W.keepIn K (.ref fd14) = true)
    (id15 : PySem.W.nsIn K mainGlobals "_law_small" = some (some (.ref fd15)))
    (ld15 : K.lookup fd15 = some ⟨ocd15, odd15, .func (PySem.W.fnOf "_law_small" "_law_small" (defArgs s__law_small) (defBody s__law_small) (defScope s__law_small) .none kVd15 dcd15 pmd15 and15 cdd15 ctd15), sld15⟩)
    (cd15 : PySem.W.codeIn K cdd15 "_law_small" = true)
    (kd15 : PySem.W.keepIn K (.ref fd15) = true)
    (id16 : PySem.W.nsIn K mainGlobals "_law_without" = some (some (.ref fd16)))
    (ld16 : K.lookup fd16 = some ⟨ocd16, odd16, .func (PySem.W.fnOf "_law_without" "_law_without" (defArgs s__law_without) (defBody s__law_without) (defScope s__law_without) .none kVd16 dcd16 pmd16 and16 cdd16 ctd16), sld16⟩)
    (cd16 : PySem.W.codeIn K cdd16 "_law_without" = true)
    (kd16 : PySem.W.keepIn K (.ref fd16) = true)
    (id17 : PySem.W.nsIn K mainGlobals "_law_shows_alike" = some (some (.ref fd17)))
    (ld17 : K.lookup fd17 = some ⟨ocd17, odd17, .func (PySem.W.fnOf "_law_shows_alike" "_law_shows_alike" (defArgs s__law_shows_alike) (defBody s__law_shows_alike) (defScope s__law_shows_alike) .none kVd17 dcd17 pmd17 and17 cdd17 ctd17), sld17⟩)
    (cd17 : PySem.W.codeIn K cdd17 "_law_shows_alike" = true)
    (kd17 : PySem.W.keepIn K (.ref fd17) = true)
    (id18 : PySem.W.nsIn K mainGlobals "_law_plain_row" = some (some (.ref fd18)))
    (ld18 : K.lookup fd18 = some ⟨ocd18, odd18, .func (PySem.W.fnOf "_law_plain_row" "_law_plain_row" (defArgs s__law_plain_row) (defBody s__law_plain_row) (defScope s__law_plain_row) .none kVd18 dcd18 pmd18 and18 cdd18 ctd18), sld18⟩)
    (cd18 : PySem.W.codeIn K cdd18 "_law_plain_row" = true)
    (kd18 : PySem.W.keepIn K (.ref fd18) = true)
    (id19 : PySem.W.nsIn K mainGlobals "_law_plain" = some (some (.ref fd19)))
    (ld19 : K.lookup fd19 = some ⟨ocd19, odd19, .func (PySem.W.fnOf "_law_plain" "_law_plain" (defArgs s__law_plain) (defBody s__law_plain) (defScope s__law_plain) .none kVd19 dcd19 pmd19 and19 cdd19 ctd19), sld19⟩)
    (cd19 : PySem.W.codeIn K cdd19 "_law_plain" = true)
    (kd19 : PySem.W.keepIn K (.ref fd19) = true)
    (id20 : PySem.W.nsIn K mainGlobals "law" = some (some (.ref fd20)))
    (ld20 : K.lookup fd20 = some ⟨ocd20, odd20, .func (PySem.W.fnOf "law" "law" (defArgs s_law) (defBody s_law) (defScope s_law) .none kVd20 dcd20 pmd20 and20 cdd20 ctd20), sld20⟩)
    (cd20 : PySem.W.codeIn K cdd20 "law" = true)
    (kd20 : PySem.W.keepIn K (.ref fd20) = true)
    (z_len : PySem.W.nsIn K mainGlobals "len" = some none)
    (z_min : PySem.W.nsIn K mainGlobals "min" = some none)
    (z_max : PySem.W.nsIn K mainGlobals "max" = some none)
    (z_int : PySem.W.nsIn K mainGlobals "int" = some none)
    (z_tuple : PySem.W.nsIn K mainGlobals "tuple" = some none)
    (z_list : PySem.W.nsIn K mainGlobals "list" = some none)
    (z_isinstance : PySem.W.nsIn K mainGlobals "isinstance" = some none)
    (z_any : PySem.W.nsIn K mainGlobals "any" = some none)
    (z_all : PySem.W.nsIn K mainGlobals "all" = some none)
    (z_range : PySem.W.nsIn K mainGlobals "range" = some none)
    (z_zip : PySem.W.nsIn K mainGlobals "zip" = some none)
    (z_enumerate : PySem.W.nsIn K mainGlobals "enumerate" = some none)
    (z_str : PySem.W.nsIn K mainGlobals "str" = some none)
    (z_bool : PySem.W.nsIn K mainGlobals "bool" = some none)
    (z_repr : PySem.W.nsIn K mainGlobals "repr" = some none)
    (hB : clsB K (cs0 A B) = true)
    (hMA : PySem.W.makesIn K A = true)
    (hMB : PySem.W.makesIn K B = true)
    (hAB : A ≠ B) :
    ∃ (fd : FuncData) (T : Tb) (g : Fn), T.K = K ∧ (∀ ns : List Int, ns.length ≤ 63 → ∃ m, g [.frl (ns.map D.int)] [] = .ok (.bl true) m) ∧ (∀ (s : Shared) (v : Value), BindsTo s fd ⟨[v], []⟩ [("_law_script", v)]) ∧ ∀ base : Heap, K.In base → base.Ns mainGlobals mg → FnG l.prog w K mg base 28 fa fd ["_law_script"] (spD T 1 g) := by
  have efa := hfa.symm.trans (PySem.W.mg_of X G id20)
  cases efa
  obtain ⟨_, hC⟩ := clsB_at hB
  have FA := hC "LifeRow" A ["_left", "_lost"] (List.mem_cons_self)
  have FB := hC "LifeType" B ["_keeps", "_needs", "_took", "_rows", "_sours"] (List.mem_cons_of_mem _ List.mem_cons_self)
  have mA := PySem.W.mg_of X G aA
  have mB := PySem.W.mg_of X G aB
  have mMost := PySem.W.mg_of X G aMost
  have hcls : ∀ x ∈ tp.cls, ∃ C, (T0 K A B).cls x = some C := fun x hx => by
    have hx : x ∈ (["LifeRow", "LifeType"] : List Str) := hx
    simp only [List.mem_cons, List.not_mem_nil, or_false] at hx
    rcases hx with rfl | rfl
    · exact ⟨A, rfl⟩
    · exact ⟨B, rfl⟩
  have Fm0 := fun_mk (st := s_LifeRow___init__) lm0 cm0 km0
  have bm0 := Fm0.binds (ps := ["self", "left", "lost"]) fun _ _ _ _ _ _ us hl => match us, hl with | [_, _, _], _ => rfl
  have Fm1 := fun_mk (st := s_LifeRow___call__) lm1 cm1 km1
  have bm1 := Fm1.binds (ps := ["self", "lives"]) fun _ _ _ _ _ _ us hl => match us, hl with | [_, _], _ => rfl
  have Fm2 := fun_mk (st := s_LifeRow___eq__) lm2 cm2 km2
  have bm2 := Fm2.binds (ps := ["self", "other"]) fun _ _ _ _ _ _ us hl => match us, hl with | [_, _], _ => rfl
  have Ft0 := fun_mk (st := s_LifeType___init__) lt0 ct0 kt0
  have Ft2 := fun_mk (st := s_LifeType___call__) lt2 ct2 kt2
  have bt2 := Ft2.binds (ps := ["self", "lives"]) fun _ _ _ _ _ _ us hl => match us, hl with | [_, _], _ => rfl
  have Ft3 := fun_mk (st := s_LifeType_plain) lt3 ct3 kt3
  have bt3 := Ft3.binds (ps := ["self"]) fun _ _ _ _ _ _ us hl => match us, hl with | [_], _ => rfl
  have Ft4 := fun_mk (st := s_LifeType__plain_row) lt4 ct4 kt4
  have bt4 := Ft4.binds (ps := ["self", "row"]) fun _ _ _ _ _ _ us hl => match us, hl with | [_, _], _ => rfl
  have Ft5 := fun_mk (st := s_LifeType__least_other) lt5 ct5 kt5
  have bt5 := Ft5.binds (ps := ["self", "left", "lost", "index"]) fun _ _ _ _ _ _ us hl => match us, hl with | [_, _, _, _], _ => rfl
  have Ft6 := fun_mk (st := s_LifeType___eq__) lt6 ct6 kt6
  have bt6 := Ft6.binds (ps := ["self", "other"]) fun _ _ _ _ _ _ us hl => match us, hl with | [_, _], _ => rfl
  have Fp0 := fun_mk (st := s_LifeRow_left) lp0 cp0 kp0
  have bp0 := Fp0.binds (ps := ["self"]) fun _ _ _ _ _ _ us hl => match us, hl with | [_], _ => rfl
  have Fp1 := fun_mk (st := s_LifeRow_lost) lp1 cp1 kp1
  have bp1 := Fp1.binds (ps := ["self"]) fun _ _ _ _ _ _ us hl => match us, hl with | [_], _ => rfl
  have Fq0 := fun_mk (st := s_LifeType_keeps) lq0 cq0 kq0
  have bq0 := Fq0.binds (ps := ["self"]) fun _ _ _ _ _ _ us hl => match us, hl with | [_], _ => rfl
  have Fq1 := fun_mk (st := s_LifeType_needs) lq1 cq1 kq1
  have bq1 := Fq1.binds (ps := ["self"]) fun _ _ _ _ _ _ us hl => match us, hl with | [_], _ => rfl
  have Fq2 := fun_mk (st := s_LifeType_took) lq2 cq2 kq2
  have bq2 := Fq2.binds (ps := ["self"]) fun _ _ _ _ _ _ us hl => match us, hl with | [_], _ => rfl
  have Fq3 := fun_mk (st := s_LifeType_rows) lq3 cq3 kq3
  have bq3 := Fq3.binds (ps := ["self"]) fun _ _ _ _ _ _ us hl => match us, hl with | [_], _ => rfl
  have Fq4 := fun_mk (st := s_LifeType_sours) lq4 cq4 kq4
  have bq4 := Fq4.binds (ps := ["self"]) fun _ _ _ _ _ _ us hl => match us, hl with | [_], _ => rfl
  have Fq5 := fun_mk (st := s_LifeType_is_never) lq5 cq5 kq5
  have bq5 := Fq5.binds (ps := ["self"]) fun _ _ _ _ _ _ us hl => match us, hl with | [_], _ => rfl
  have Fv0 := fun_mk (st := s_LifeType_never) lv0 cv0 kv0
  have bv0 := Fv0.binds (ps := ["keeps", "results"]) fun _ _ _ _ _ _ us hl => match us, hl with | [_, _], _ => rfl
  have Fd0 := fun_mk (st := s_least_term) ld0 cd0 kd0
  have bd0 := Fd0.binds (ps := ["one", "two"]) fun _ _ _ _ _ _ us hl => match us, hl with | [_, _], _ => rfl
  have Fd1 := fun_mk (st := s_greatest_term) ld1 cd1 kd1
  have bd1 := Fd1.binds (ps := ["one", "two"]) fun _ _ _ _ _ _ us hl => match us, hl with | [_, _], _ => rfl
  have Fd2 := fun_mk (st := s_best_ends) ld2 cd2 kd2
  have bd2 := Fd2.binds (ps := ["keeps", "lost"]) fun _ _ _ _ _ _ us hl => match us, hl with | [_, _], _ => rfl
  have Fd3 := fun_mk (st := s__law_box) ld3 cd3 kd3
  have bd3 := Fd3.binds (ps := ["_law_script", "_law_k"]) fun _ _ _ _ _ _ us hl => match us, hl with | [_, _], _ => rfl
  have Fd4 := fun_mk (st := s__law_take) ld4 cd4 kd4
  have bd4 := Fd4.binds (ps := ["_law_box_here", "_law_many"]) fun _ _ _ _ _ _ us hl => match us, hl with | [_, _], _ => rfl
  have Fd5 := fun_mk (st := s__law_pick) ld5 cd5 kd5
  have bd5 := Fd5.binds (ps := ["_law_box_here", "_law_things"]) fun _ _ _ _ _ _ us hl => match us, hl with | [_, _], _ => rfl
  have Fd6 := fun_mk (st := s__law_row) ld6 cd6 kd6
  have bd6 := Fd6.binds (ps := ["_law_box_here", "_law_many"]) fun _ _ _ _ _ _ us hl => match us, hl with | [_, _], _ => rfl
  have Fd7 := fun_mk (st := s__law_bound) ld7 cd7 kd7
  have bd7 := Fd7.binds (ps := ["_law_row_here", "_law_lives"]) fun _ _ _ _ _ _ us hl => match us, hl with | [_, _], _ => rfl
  have Fd8 := fun_mk (st := s__law_alike) ld8 cd8 kd8
  have bd8 := Fd8.binds (ps := ["_law_found", "_law_due"]) fun _ _ _ _ _ _ us hl => match us, hl with | [_, _], _ => rfl
  have Fd9 := fun_mk (st := s__law_claim) ld9 cd9 kd9
  have bd9 := Fd9.binds (ps := ["_law_box_here", "_law_keeps", "_law_many"]) fun _ _ _ _ _ _ us hl => match us, hl with | [_, _, _], _ => rfl
  have Fd10 := fun_mk (st := s__law_life) ld10 cd10 kd10
  have bd10 := Fd10.binds (ps := ["_law_claim_here"]) fun _ _ _ _ _ _ us hl => match us, hl with | [_], _ => rfl
  have Fd11 := fun_mk (st := s__law_told) ld11 cd11 kd11
  have bd11 := Fd11.binds (ps := ["_law_life_here"]) fun _ _ _ _ _ _ us hl => match us, hl with | [_], _ => rfl
  have Fd12 := fun_mk (st := s__law_never) ld12 cd12 kd12
  have bd12 := Fd12.binds (ps := ["_law_claim_here"]) fun _ _ _ _ _ _ us hl => match us, hl with | [_], _ => rfl
  have Fd13 := fun_mk (st := s__law_box_of) ld13 cd13 kd13
  have bd13 := Fd13.binds (ps := ["_law_claim_here"]) fun _ _ _ _ _ _ us hl => match us, hl with | [_], _ => rfl
  have Fd14 := fun_mk (st := s__law_seen) ld14 cd14 kd14
  have bd14 := Fd14.binds (ps := ["_law_row_here", "_law_every"]) fun _ _ _ _ _ _ us hl => match us, hl with | [_, _], _ => rfl
  have Fd15 := fun_mk (st := s__law_small) ld15 cd15 kd15
  have bd15 := Fd15.binds (ps := ["_law_box_here"]) fun _ _ _ _ _ _ us hl => match us, hl with | [_], _ => rfl
  have Fd16 := fun_mk (st := s__law_without) ld16 cd16 kd16
  have bd16 := Fd16.binds (ps := ["_law_row_here"]) fun _ _ _ _ _ _ us hl => match us, hl with | [_], _ => rfl
  have Fd17 := fun_mk (st := s__law_shows_alike) ld17 cd17 kd17
  have bd17 := Fd17.binds (ps := ["_law_claim_here", "_law_row_here", "_law_found"]) fun _ _ _ _ _ _ us hl => match us, hl with | [_, _, _], _ => rfl
  have Fd18 := fun_mk (st := s__law_plain_row) ld18 cd18 kd18
  have bd18 := Fd18.binds (ps := ["_law_claim_here", "_law_row_here"]) fun _ _ _ _ _ _ us hl => match us, hl with | [_, _], _ => rfl
  have Fd19 := fun_mk (st := s__law_plain) ld19 cd19 kd19
  have bd19 := Fd19.binds (ps := ["_law_claim_here"]) fun _ _ _ _ _ _ us hl => match us, hl with | [_], _ => rfl
  have Fd20 := fun_mk (st := s_law) ld20 cd20 kd20
  have bd20 := Fd20.binds (ps := ["_law_script"]) fun _ _ _ _ _ _ us hl => match us, hl with | [_], _ => rfl
  have m0 := PySem.W.mg_of X G id0
  have m1 := PySem.W.mg_of X G id1
  have m2 := PySem.W.mg_of X G id2
  have m3 := PySem.W.mg_of X G id3
  have m4 := PySem.W.mg_of X G id4
  have m5 := PySem.W.mg_of X G id5
  have m6 := PySem.W.mg_of X G id6
  have m7 := PySem.W.mg_of X G id7
  have m8 := PySem.W.mg_of X G id8
  have m9 := PySem.W.mg_of X G id9
  have m10 := PySem.W.mg_of X G id10
  have m11 := PySem.W.mg_of X G id11
  have m12 := PySem.W.mg_of X G id12
  have m13 := PySem.W.mg_of X G id13
  have m14 := PySem.W.mg_of X G id14
  have m15 := PySem.W.mg_of X G id15
  have m16 := PySem.W.mg_of X G id16
  have m17 := PySem.W.mg_of X G id17
  have m18 := PySem.W.mg_of X G id18
  have m19 := PySem.W.mg_of X G id19
  have m20 := PySem.W.mg_of X G id20
  refine ⟨PySem.W.fnOf "law" "law" (defArgs s_law) (defBody s_law) (defScope s_law) .none kVd20 dcd20 pmd20 and20 cdd20 ctd20, T0 K A B, gLaw K A B, rfl, law_true K A B hAB, fun s v => .of_eq rfl, fun base _ _ => ?_⟩
  have bl : ∀ x, x ∈ (["len", "min", "max", "int", "tuple", "list", "isinstance", "any", "all", "range", "zip", "enumerate", "str", "bool", "repr"] : List Str) → mg x = none := fun x hx => by
    simp only [List.mem_cons, List.not_mem_nil, or_false] at hx
    rcases hx with rfl | rfl | rfl | rfl | rfl | rfl | rfl | rfl | rfl | rfl | rfl | rfl | rfl | rfl | rfl
    · exact PySem.W.mg_none_of X G z_len
    · exact PySem.W.mg_none_of X G z_min
    · exact PySem.W.mg_none_of X G z_max
    · exact PySem.W.mg_none_of X G z_int
    · exact PySem.W.mg_none_of X G z_tuple
    · exact PySem.W.mg_none_of X G z_list
    · exact PySem.W.mg_none_of X G z_isinstance
    · exact PySem.W.mg_none_of X G z_any
    · exact PySem.W.mg_none_of X G z_all
    · exact PySem.W.mg_none_of X G z_range
    · exact PySem.W.mg_none_of X G z_zip
    · exact PySem.W.mg_none_of X G z_enumerate
    · exact PySem.W.mg_none_of X G z_str
    · exact PySem.W.mg_none_of X G z_bool
    · exact PySem.W.mg_none_of X G z_repr
  have g0 : Good (G0 K A B) 0 ⟨l.prog, w, K, mg, base⟩ := base_good hB bl fun c C fs hm => by
    simp only [cs0, List.mem_cons, List.not_mem_nil, or_false, Prod.mk.injEq] at hm
    rcases hm with ⟨rfl, rfl, rfl⟩ | ⟨rfl, rfl, rfl⟩
    · exact mA
    · exact mB
  have h0 : TpOk tp (G0 K A B) 0 := tpL rfl rfl hcls ⟨.inl rfl, .inl rfl, .inl rfl, .inl rfl, .inl rfl, .inl rfl, .inl rfl⟩
  have Km0 : FnG l.prog w K mg base 1 fm0 _ ["self", "left", "lost"] (spD (T0 K A B) 3 (gInit K A B)) := fnD Fm0 sc_LifeRow___init__ g0 h0 t_LifeRow___init__ (by decide)
  have Km1 : FnG l.prog w K mg base 1 fm1 _ ["self", "lives"] (spD (T0 K A B) 2 (gCall K A B)) := fnD Fm1 sc_LifeRow___call__ g0 h0 t_LifeRow___call__ (by decide)
  have Km2 : FnG l.prog w K mg base 1 fm2 _ ["self", "other"] (spD (T0 K A B) 2 (gEq K A B)) := fnD Fm2 sc_LifeRow___eq__ g0 h0 t_LifeRow___eq__ (by decide)
  have Kp0 : FnG l.prog w K mg base 1 fp0 _ ["self"] (spD (T0 K A B) 1 (gLeft K A B)) := fnD Fp0 sc_LifeRow_left g0 h0 t_LifeRow_left (by decide)
  have Kp1 : FnG l.prog w K mg base 1 fp1 _ ["self"] (spD (T0 K A B) 1 (gLost K A B)) := fnD Fp1 sc_LifeRow_lost g0 h0 t_LifeRow_lost (by decide)
  have Kd0 : FnG l.prog w K mg base 1 fd0 _ ["one", "two"] (spD (T0 K A B) 2 (gLeast K A B)) := fnD Fd0 sc_least_term g0 h0 t_least_term (by decide)
  have Kd1 : FnG l.prog w K mg base 1 fd1 _ ["one", "two"] (spD (T0 K A B) 2 (gGreat K A B)) := fnD Fd1 sc_greatest_term g0 h0 t_greatest_term (by decide)
  have Kd2 : FnG l.prog w K mg base 1 fd2 _ ["keeps", "lost"] (spD (T0 K A B) 2 (gEnds K A B)) := fnD Fd2 sc_best_ends g0 h0 t_best_ends (by decide)
  have Kt0 : FnG l.prog w K mg base 1 ft0 _ ["self", "keeps", "needs", "took", "rows", "sours"] (spD (T0 K A B) 6 (gTInit K A B)) := fnD Ft0 sc_LifeType___init__ g0 h0 t_LifeType___init__ (by decide)
  have Kq0 : FnG l.prog w K mg base 1 fq0 _ ["self"] (spD (T0 K A B) 1 (gKeeps K A B)) := fnD Fq0 sc_LifeType_keeps g0 h0 t_LifeType_keeps (by decide)
  have Kq1 : FnG l.prog w K mg base 1 fq1 _ ["self"] (spD (T0 K A B) 1 (gNeeds K A B)) := fnD Fq1 sc_LifeType_needs g0 h0 t_LifeType_needs (by decide)
  have Kq2 : FnG l.prog w K mg base 1 fq2 _ ["self"] (spD (T0 K A B) 1 (gTook K A B)) := fnD Fq2 sc_LifeType_took g0 h0 t_LifeType_took (by decide)
  have Kq3 : FnG l.prog w K mg base 1 fq3 _ ["self"] (spD (T0 K A B) 1 (gRows K A B)) := fnD Fq3 sc_LifeType_rows g0 h0 t_LifeType_rows (by decide)
  have Kq4 : FnG l.prog w K mg base 1 fq4 _ ["self"] (spD (T0 K A B) 1 (gSours K A B)) := fnD Fq4 sc_LifeType_sours g0 h0 t_LifeType_sours (by decide)
  have Kq5 : FnG l.prog w K mg base 1 fq5 _ ["self"] (spD (T0 K A B) 1 (gIsNever K A B)) := fnD Fq5 sc_LifeType_is_never g0 h0 t_LifeType_is_never (by decide)
  have MkA : Mk K A fm0 := ⟨hMA, im0, beq_iff_eq.mpr tm0, FA.kp⟩
  have MkB : Mk K B ft0 := ⟨hMB, it0, beq_iff_eq.mpr tt0, FB.kp⟩
  have g1a : Good (G1a K A B) 2 ⟨l.prog, w, K, mg, base⟩ := ((((g0.up (by decide)).addCs (lv := 2) rfl MkA Km0 bm0 (by decide) runF_no).addPr rfl ⟨ap0, gp0, up0, _, ip0⟩ Kp0 bp0 (by decide) rfl).addPr rfl ⟨ap1, gp1, up1, _, ip1⟩ Kp1 bp1 (by decide) rfl)
  have g1 : Good (G1 K A B) 2 ⟨l.prog, w, K, mg, base⟩ := (g1a.add m0 kd0 Kd0 bd0 (by decide) runF_no).add m1 kd1 Kd1 bd1 (by decide) runF_no
  have nfA : ∀ t, okE A B t = true → PySem.W.notFirst K A t = true := fun t e => FA.nf t (of_decide_eq_true e)
  have nfB : ∀ t, okE A B t = true → PySem.W.notFirst K B t = true := fun t e => FB.nf t (of_decide_eq_true e)
  have own : OwnEq (T0 K A B) ⟨l.prog, w, K, mg, base⟩ 1 "LifeRow" rowEq := own_row (hA := rfl) im2 (beq_iff_eq.mpr tm2) FA.sn (FA.nf _ (by simp [asOf, cs0])) (FA.nf _ (by simp [tys0])) ⟨_, _, 1, Km2, bm2, by decide, rfl⟩ (by simp [asOf, cs0]) rfl rfl
  have g2 : Good (G2 K A B) 4 ⟨l.prog, w, K, mg, base⟩ := (((g1.up (by decide)).addCa (lv := 4) rfl ⟨im1, beq_iff_eq.mpr tm1, fn_in lm1⟩ Km1 bm1 (by decide) runF_no).addEq rfl im2 (beq_iff_eq.mpr tm2) FA.ne FA.c8 Km2 bm2 (by decide) rfl nfA).setCx (cx_rows own rfl (by decide))
  have FDt0 : FunD K "__init__" "LifeType.__init__" (defArgs s_LifeType___init__) (defBody s_LifeType___init__) (defScope s_LifeType___init__) [] [("sours", .bl false)] ft0 _ := ⟨⟨_, _, _, _, _, _, _, _, _, _, rfl, lt0, ct0, .inl ⟨rfl, rfl⟩, .inr ⟨Dk, rfl, fun q hq => by rw [List.mem_singleton] at hq; subst hq; exact ⟨_, kw0, rfl⟩⟩⟩, kt0⟩
  obtain ⟨mvD, kbD⟩ := FDt0.kbinds0 (ps := ["self", "keeps", "needs", "took", "rows", "sours"]) 5 [] [("sours", .bl false)] (fun us mv ws => us ++ mv) (by simp) (fun q hq => hq) (fun h1 h2 _ => h1.append h2) (fun D doc pm an cdv ct us mv ws h1 h2 h3 => match us, h1, mv, h2, ws, h3 with | [_, _, _, _, _], _, [_], _, [], _ => ⟨_, _, _, _, _, _, rfl, rfl, rfl⟩)
  obtain ⟨mvK, kbK⟩ := FDt0.kbinds0 (ps := ["self", "keeps", "needs", "took", "rows", "sours"]) 5 ["sours"] [] (fun us mv ws => us ++ ws) (by simp) (fun q hq => absurd hq List.not_mem_nil) (fun h1 _ h3 => h1.append h3) (fun D doc pm an cdv ct us mv ws h1 h2 h3 => match us, h1, mv, h2, ws, h3 with | [_, _, _, _, _], _, [], _, [_], _ => rfl)
  have g3a : Good (G3a K A B) 4 ⟨l.prog, w, K, mg, base⟩ := (((g2.addXt ⟨B, ft0, _, _, _, rfl, mB, MkB, Kt0, kbK, runF_no⟩).addXt ⟨B, ft0, _, _, _, rfl, mB, MkB, Kt0, kbD, runF_no⟩).addXt ⟨_, mMost, _, rfl⟩).addXt trivial
  have g3 : Good (G3 K A B) 4 ⟨l.prog, w, K, mg, base⟩ := g3a.addXi.addXi
  have h3 : TpOk tp (G3 K A B) 4 := tpL rfl rfl hcls ⟨.inr ⟨_, 1, rfl, by decide, fun s h => h.2.2.1⟩, .inr ⟨_, 1, rfl, by decide, fun s h => h.2.2.2.1⟩, .inl rfl, .inr rfl, .inr ⟨60, rfl, fun s h => h.2.1⟩, .inr rfl, .inr rfl⟩
  have Kv0 : FnG l.prog w K mg base 5 fv0 _ ["keeps", "results"] (spD (T0 K A B) 2 (gNever K A B)) := fnD Fv0 sc_LifeType_never g3 h3 t_LifeType_never (by decide)
  have g4a : Good (G4a K A B) 6 ⟨l.prog, w, K, mg, base⟩ := (g3.up (by decide)).addXt ⟨B, fv0, _, _, mB, ⟨gv0, uv0, yv0, ⟨zv0, rv0, av0, iv0⟩, kv0⟩, Kv0, bv0, runF_no⟩
  have g4b : Good (G4b K A B) 6 ⟨l.prog, w, K, mg, base⟩ := (((((g4a.addPr rfl ⟨aq0, gq0, uq0, _, iq0⟩ Kq0 bq0 (by decide) rfl).addPr rfl ⟨aq1, gq1, uq1, _, iq1⟩ Kq1 bq1 (by decide) rfl).addPr rfl ⟨aq2, gq2, uq2, _, iq2⟩ Kq2 bq2 (by decide) rfl).addPr rfl ⟨aq3, gq3, uq3, _, iq3⟩ Kq3 bq3 (by decide) rfl).addPr rfl ⟨aq4, gq4, uq4, _, iq4⟩ Kq4 bq4 (by decide) rfl).addPr rfl ⟨aq5, gq5, uq5, _, iq5⟩ Kq5 bq5 (by decide) rfl
  have g4 : Good (G4 K A B) 6 ⟨l.prog, w, K, mg, base⟩ := g4b.add m2 kd2 Kd2 bd2 (by decide) runF_no
  have h4 : TpOk tp (G4 K A B) 6 := tpL rfl rfl hcls ⟨.inr ⟨_, 1, rfl, by decide, fun s h => h.2.2.2.1⟩, .inr ⟨_, 1, rfl, by decide, fun s h => h.2.2.2.2.1⟩, .inr ⟨_, 5, rfl, by decide, fun s h => h.1⟩, .inr rfl, .inr ⟨60, rfl, fun s h => h.2.2.1⟩, .inr rfl, .inr rfl⟩
  have Kt2 : FnG l.prog w K mg base 7 ft2 _ ["self", "lives"] (spD (T0 K A B) 2 (gTCall K A B)) := fnD Ft2 sc_LifeType___call__ g4 h4 t_LifeType___call__ (by decide)
  have Kt5 : FnG l.prog w K mg base 7 ft5 _ ["self", "left", "lost", "index"] (spD (T0 K A B) 4 (gOther K A B)) := fnD Ft5 sc_LifeType__least_other g4 h4 t_LifeType__least_other (by decide)
  have Kt6 : FnG l.prog w K mg base 7 ft6 _ ["self", "other"] (spD (T0 K A B) 2 (gTEq K A B)) := fnD Ft6 sc_LifeType___eq__ g4 h4 t_LifeType___eq__ (by decide)
  have g5 : Good (G5 K A B) 7 ⟨l.prog, w, K, mg, base⟩ := (g4.up (by decide)).addMe rfl ⟨it5, beq_iff_eq.mpr tt5, kt5⟩ Kt5 bt5 (by decide) runF_no
  have h5 : TpOk tp (G5 K A B) 7 := tpL rfl rfl hcls ⟨.inr ⟨_, 1, rfl, by decide, fun s h => h.2.2.2.1⟩, .inr ⟨_, 1, rfl, by decide, fun s h => h.2.2.2.2.1⟩, .inr ⟨_, 5, rfl, by decide, fun s h => h.1⟩, .inr rfl, .inr ⟨60, rfl, fun s h => h.2.2.1⟩, .inr rfl, .inr rfl⟩
  have Kt4 : FnG l.prog w K mg base 8 ft4 _ ["self", "row"] (spD (T0 K A B) 2 (gPlainRow K A B)) := fnD Ft4 sc_LifeType__plain_row g5 h5 t_LifeType__plain_row (by decide)
  have g6 : Good (G6 K A B) 8 ⟨l.prog, w, K, mg, base⟩ := (g5.up (by decide)).addMe rfl ⟨it4, beq_iff_eq.mpr tt4, kt4⟩ Kt4 bt4 (by decide) runF_no
  have h6 : TpOk tp (G6 K A B) 8 := tpL rfl rfl hcls ⟨.inr ⟨_, 1, rfl, by decide, fun s h => h.2.2.2.1⟩, .inr ⟨_, 1, rfl, by decide, fun s h => h.2.2.2.2.1⟩, .inr ⟨_, 5, rfl, by decide, fun s h => h.1⟩, .inr rfl, .inr ⟨60, rfl, fun s h => h.2.2.1⟩, .inr rfl, .inr rfl⟩
  have Kt3 : FnG l.prog w K mg base 9 ft3 _ ["self"] (spD (T0 K A B) 1 (gPlain K A B)) := fnD Ft3 sc_LifeType_plain g6 h6 t_LifeType_plain (by decide)
  have g7 : Good (G7 K A B) 10 ⟨l.prog, w, K, mg, base⟩ := (((g6.up (by decide)).addMe (lv := 10) rfl ⟨it3, beq_iff_eq.mpr tt3, kt3⟩ Kt3 bt3 (by decide) runF_no).addCa rfl ⟨it2, beq_iff_eq.mpr tt2, fn_in lt2⟩ Kt2 bt2 (by decide) runF_no).addEq rfl it6 (beq_iff_eq.mpr tt6) FB.ne FB.c8 Kt6 bt6 (by decide) rfl nfB
  have h__law_box : TpOk tp (G7 K A B) 10 := tpL rfl rfl hcls ⟨.inr ⟨_, 1, rfl, by decide, fun s h => h.2.2.2.1⟩, .inr ⟨_, 1, rfl, by decide, fun s h => h.2.2.2.2.1⟩, .inr ⟨_, 5, rfl, by decide, fun s h => h.1⟩, .inr rfl, .inr ⟨60, rfl, fun s h => h.2.2.1⟩, .inr rfl, .inr rfl⟩
  have g_law_box : Good (H_law_box K A B) 11 ⟨l.prog, w, K, mg, base⟩ := g7.def Fd3 sc__law_box h__law_box t__law_box (by decide) m3 bd3
  have h__law_take : TpOk tp (H_law_box K A B) 11 := tpL rfl rfl hcls ⟨.inr ⟨_, 1, rfl, by decide, fun s h => h.2.2.2.1⟩, .inr ⟨_, 1, rfl, by decide, fun s h => h.2.2.2.2.1⟩, .inr ⟨_, 5, rfl, by decide, fun s h => h.1⟩, .inr rfl, .inr ⟨60, rfl, fun s h => h.2.2.1⟩, .inr rfl, .inr rfl⟩
  have g_law_take : Good (H_law_take K A B) 12 ⟨l.prog, w, K, mg, base⟩ := g_law_box.def Fd4 sc__law_take h__law_take t__law_take (by decide) m4 bd4
  have h__law_pick : TpOk tp (H_law_take K A B) 12 := tpL rfl rfl hcls ⟨.inr ⟨_, 1, rfl, by decide, fun s h => h.2.2.2.1⟩, .inr ⟨_, 1, rfl, by decide, fun s h => h.2.2.2.2.1⟩, .inr ⟨_, 5, rfl, by decide, fun s h => h.1⟩, .inr rfl, .inr ⟨60, rfl, fun s h => h.2.2.1⟩, .inr rfl, .inr rfl⟩
  have g_law_pick : Good (H_law_pick K A B) 13 ⟨l.prog, w, K, mg, base⟩ := g_law_take.def Fd5 sc__law_pick h__law_pick t__law_pick (by decide) m5 bd5
  have h__law_row : TpOk tp (H_law_pick K A B) 13 := tpL rfl rfl hcls ⟨.inr ⟨_, 1, rfl, by decide, fun s h => h.2.2.2.1⟩, .inr ⟨_, 1, rfl, by decide, fun s h => h.2.2.2.2.1⟩, .inr ⟨_, 5, rfl, by decide, fun s h => h.1⟩, .inr rfl, .inr ⟨60, rfl, fun s h => h.2.2.1⟩, .inr rfl, .inr rfl⟩
  have g_law_row : Good (H_law_row K A B) 14 ⟨l.prog, w, K, mg, base⟩ := g_law_pick.def Fd6 sc__law_row h__law_row t__law_row (by decide) m6 bd6
  have h__law_bound : TpOk tp (H_law_row K A B) 14 := tpL rfl rfl hcls ⟨.inr ⟨_, 1, rfl, by decide, fun s h => h.2.2.2.1⟩, .inr ⟨_, 1, rfl, by decide, fun s h => h.2.2.2.2.1⟩, .inr ⟨_, 5, rfl, by decide, fun s h => h.1⟩, .inr rfl, .inr ⟨60, rfl, fun s h => h.2.2.1⟩, .inr rfl, .inr rfl⟩
  have g_law_bound : Good (H_law_bound K A B) 15 ⟨l.prog, w, K, mg, base⟩ := g_law_row.def Fd7 sc__law_bound h__law_bound t__law_bound (by decide) m7 bd7
  have h__law_alike : TpOk tp (H_law_bound K A B) 15 := tpL rfl rfl hcls ⟨.inr ⟨_, 1, rfl, by decide, fun s h => h.2.2.2.1⟩, .inr ⟨_, 1, rfl, by decide, fun s h => h.2.2.2.2.1⟩, .inr ⟨_, 5, rfl, by decide, fun s h => h.1⟩, .inr rfl, .inr ⟨60, rfl, fun s h => h.2.2.1⟩, .inr rfl, .inr rfl⟩
  have g_law_alike : Good (H_law_alike K A B) 16 ⟨l.prog, w, K, mg, base⟩ := g_law_bound.def Fd8 sc__law_alike h__law_alike t__law_alike (by decide) m8 bd8
  have h__law_claim : TpOk tp (H_law_alike K A B) 16 := tpL rfl rfl hcls ⟨.inr ⟨_, 1, rfl, by decide, fun s h => h.2.2.2.1⟩, .inr ⟨_, 1, rfl, by decide, fun s h => h.2.2.2.2.1⟩, .inr ⟨_, 5, rfl, by decide, fun s h => h.1⟩, .inr rfl, .inr ⟨60, rfl, fun s h => h.2.2.1⟩, .inr rfl, .inr rfl⟩
  have g_law_claim : Good (H_law_claim K A B) 17 ⟨l.prog, w, K, mg, base⟩ := g_law_alike.def Fd9 sc__law_claim h__law_claim t__law_claim (by decide) m9 bd9
  have h__law_life : TpOk tp (H_law_claim K A B) 17 := tpL rfl rfl hcls ⟨.inr ⟨_, 1, rfl, by decide, fun s h => h.2.2.2.1⟩, .inr ⟨_, 1, rfl, by decide, fun s h => h.2.2.2.2.1⟩, .inr ⟨_, 5, rfl, by decide, fun s h => h.1⟩, .inr rfl, .inr ⟨60, rfl, fun s h => h.2.2.1⟩, .inr rfl, .inr rfl⟩
  have g_law_life : Good (H_law_life K A B) 18 ⟨l.prog, w, K, mg, base⟩ := g_law_claim.def Fd10 sc__law_life h__law_life t__law_life (by decide) m10 bd10
  have h__law_told : TpOk tp (H_law_life K A B) 18 := tpL rfl rfl hcls ⟨.inr ⟨_, 1, rfl, by decide, fun s h => h.2.2.2.1⟩, .inr ⟨_, 1, rfl, by decide, fun s h => h.2.2.2.2.1⟩, .inr ⟨_, 5, rfl, by decide, fun s h => h.1⟩, .inr rfl, .inr ⟨60, rfl, fun s h => h.2.2.1⟩, .inr rfl, .inr rfl⟩
  have g_law_told : Good (H_law_told K A B) 19 ⟨l.prog, w, K, mg, base⟩ := g_law_life.def Fd11 sc__law_told h__law_told t__law_told (by decide) m11 bd11
  have h__law_never : TpOk tp (H_law_told K A B) 19 := tpL rfl rfl hcls ⟨.inr ⟨_, 1, rfl, by decide, fun s h => h.2.2.2.1⟩, .inr ⟨_, 1, rfl, by decide, fun s h => h.2.2.2.2.1⟩, .inr ⟨_, 5, rfl, by decide, fun s h => h.1⟩, .inr rfl, .inr ⟨60, rfl, fun s h => h.2.2.1⟩, .inr rfl, .inr rfl⟩
  have g_law_never : Good (H_law_never K A B) 20 ⟨l.prog, w, K, mg, base⟩ := g_law_told.def Fd12 sc__law_never h__law_never t__law_never (by decide) m12 bd12
  have h__law_box_of : TpOk tp (H_law_never K A B) 20 := tpL rfl rfl hcls ⟨.inr ⟨_, 1, rfl, by decide, fun s h => h.2.2.2.1⟩, .inr ⟨_, 1, rfl, by decide, fun s h => h.2.2.2.2.1⟩, .inr ⟨_, 5, rfl, by decide, fun s h => h.1⟩, .inr rfl, .inr ⟨60, rfl, fun s h => h.2.2.1⟩, .inr rfl, .inr rfl⟩
  have g_law_box_of : Good (H_law_box_of K A B) 21 ⟨l.prog, w, K, mg, base⟩ := g_law_never.def Fd13 sc__law_box_of h__law_box_of t__law_box_of (by decide) m13 bd13
  have h__law_seen : TpOk tp (H_law_box_of K A B) 21 := tpL rfl rfl hcls ⟨.inr ⟨_, 1, rfl, by decide, fun s h => h.2.2.2.1⟩, .inr ⟨_, 1, rfl, by decide, fun s h => h.2.2.2.2.1⟩, .inr ⟨_, 5, rfl, by decide, fun s h => h.1⟩, .inr rfl, .inr ⟨60, rfl, fun s h => h.2.2.1⟩, .inr rfl, .inr rfl⟩
  have g_law_seen : Good (H_law_seen K A B) 22 ⟨l.prog, w, K, mg, base⟩ := g_law_box_of.def Fd14 sc__law_seen h__law_seen t__law_seen (by decide) m14 bd14
  have h__law_small : TpOk tp (H_law_seen K A B) 22 := tpL rfl rfl hcls ⟨.inr ⟨_, 1, rfl, by decide, fun s h => h.2.2.2.1⟩, .inr ⟨_, 1, rfl, by decide, fun s h => h.2.2.2.2.1⟩, .inr ⟨_, 5, rfl, by decide, fun s h => h.1⟩, .inr rfl, .inr ⟨60, rfl, fun s h => h.2.2.1⟩, .inr rfl, .inr rfl⟩
  have g_law_small : Good (H_law_small K A B) 23 ⟨l.prog, w, K, mg, base⟩ := g_law_seen.def Fd15 sc__law_small h__law_small t__law_small (by decide) m15 bd15
  have h__law_without : TpOk tp (H_law_small K A B) 23 := tpL rfl rfl hcls ⟨.inr ⟨_, 1, rfl, by decide, fun s h => h.2.2.2.1⟩, .inr ⟨_, 1, rfl, by decide, fun s h => h.2.2.2.2.1⟩, .inr ⟨_, 5, rfl, by decide, fun s h => h.1⟩, .inr rfl, .inr ⟨60, rfl, fun s h => h.2.2.1⟩, .inr rfl, .inr rfl⟩
  have g_law_without : Good (H_law_without K A B) 24 ⟨l.prog, w, K, mg, base⟩ := g_law_small.def Fd16 sc__law_without h__law_without t__law_without (by decide) m16 bd16
  have h__law_shows_alike : TpOk tp (H_law_without K A B) 24 := tpL rfl rfl hcls ⟨.inr ⟨_, 1, rfl, by decide, fun s h => h.2.2.2.1⟩, .inr ⟨_, 1, rfl, by decide, fun s h => h.2.2.2.2.1⟩, .inr ⟨_, 5, rfl, by decide, fun s h => h.1⟩, .inr rfl, .inr ⟨60, rfl, fun s h => h.2.2.1⟩, .inr rfl, .inr rfl⟩
  have g_law_shows_alike : Good (H_law_shows_alike K A B) 25 ⟨l.prog, w, K, mg, base⟩ := g_law_without.def Fd17 sc__law_shows_alike h__law_shows_alike t__law_shows_alike (by decide) m17 bd17
  have h__law_plain_row : TpOk tp (H_law_shows_alike K A B) 25 := tpL rfl rfl hcls ⟨.inr ⟨_, 1, rfl, by decide, fun s h => h.2.2.2.1⟩, .inr ⟨_, 1, rfl, by decide, fun s h => h.2.2.2.2.1⟩, .inr ⟨_, 5, rfl, by decide, fun s h => h.1⟩, .inr rfl, .inr ⟨60, rfl, fun s h => h.2.2.1⟩, .inr rfl, .inr rfl⟩
  have g_law_plain_row : Good (H_law_plain_row K A B) 26 ⟨l.prog, w, K, mg, base⟩ := g_law_shows_alike.def Fd18 sc__law_plain_row h__law_plain_row t__law_plain_row (by decide) m18 bd18
  have h__law_plain : TpOk tp (H_law_plain_row K A B) 26 := tpL rfl rfl hcls ⟨.inr ⟨_, 1, rfl, by decide, fun s h => h.2.2.2.1⟩, .inr ⟨_, 1, rfl, by decide, fun s h => h.2.2.2.2.1⟩, .inr ⟨_, 5, rfl, by decide, fun s h => h.1⟩, .inr rfl, .inr ⟨60, rfl, fun s h => h.2.2.1⟩, .inr rfl, .inr rfl⟩
  have g_law_plain : Good (H_law_plain K A B) 27 ⟨l.prog, w, K, mg, base⟩ := g_law_plain_row.def Fd19 sc__law_plain h__law_plain t__law_plain (by decide) m19 bd19
  have h_law : TpOk tp (H_law_plain K A B) 27 := tpL rfl rfl hcls ⟨.inr ⟨_, 1, rfl, by decide, fun s h => h.2.2.2.1⟩, .inr ⟨_, 1, rfl, by decide, fun s h => h.2.2.2.2.1⟩, .inr ⟨_, 5, rfl, by decide, fun s h => h.1⟩, .inr rfl, .inr ⟨60, rfl, fun s h => h.2.2.1⟩, .inr rfl, .inr rfl⟩
  exact fnD Fd20 sc_law g_law_plain h_law t_law (by decide)
end K28

open PySem PySem.W PyProof.Rows
set_option maxRecDepth 100000 in
set_option maxHeartbeats 0 in
theorem PySem.Challenge.cw_sourwright_k28_plain_forms_holds : PySem.Challenge.rw_sourwright_k28_plain_forms.Holds := by
  w_on; o_law; k_head; (case hw => w_witness2)
  k_fill
  refine Pm.walkG (l := PySem.Challenge.rw_sourwright_k28_plain_forms) (n := 63) (k := 28) (x := "_law_script") rfl (by decide) rfl ⟨rfl, by decide, by decide⟩ (fun w h Y => PySem.W.kIn_of Y) ?F
  case F =>
    intro w mg fa h KX G hmg
    refine' K28.all_mk KX G hmg ?aA ?aB ?aMost ?im0 ?lm0 ?cm0 ?km0 ?tm0 ?im1 ?lm1 ?cm1 ?km1 ?tm1 ?im2 ?lm2 ?cm2 ?km2 ?tm2 ?it0 ?lt0 ?ct0 ?kt0 ?tt0 ?it2 ?lt2 ?ct2 ?kt2 ?tt2 ?it3 ?lt3 ?ct3 ?kt3 ?tt3 ?it4 ?lt4 ?ct4 ?kt4 ?tt4 ?it5 ?lt5 ?ct5 ?kt5 ?tt5 ?it6 ?lt6 ?ct6 ?kt6 ?tt6 ?kw0 ?ap0 ?gp0 ?up0 ?ip0 ?lp0 ?cp0 ?kp0 ?ap1 ?gp1 ?up1 ?ip1 ?lp1 ?cp1 ?kp1 ?aq0 ?gq0 ?uq0 ?iq0 ?lq0 ?cq0 ?kq0 ?aq1 ?gq1 ?uq1 ?iq1 ?lq1 ?cq1 ?kq1 ?aq2 ?gq2 ?uq2 ?iq2 ?lq2 ?cq2 ?kq2 ?aq3 ?gq3 ?uq3 ?iq3 ?lq3 ?cq3 ?kq3 ?aq4 ?gq4 ?uq4 ?iq4 ?lq4 ?cq4 ?kq4 ?aq5 ?gq5 ?uq5 ?iq5 ?lq5 ?cq5 ?kq5 ?av0 ?gv0 ?uv0 ?yv0 ?iv0 ?lv0 ?cv0 ?kv0 ?id0 ?ld0 ?cd0 ?kd0 ?id1 ?ld1 ?cd1 ?kd1 ?id2 ?ld2 ?cd2 ?kd2 ?id3 ?ld3 ?cd3 ?kd3 ?id4 ?ld4 ?cd4 ?kd4 ?id5 ?ld5 ?cd5 ?kd5 ?id6 ?ld6 ?cd6 ?kd6 ?id7 ?ld7 ?cd7 ?kd7 ?id8 ?ld8 ?cd8 ?kd8 ?id9 ?ld9 ?cd9 ?kd9 ?id10 ?ld10 ?cd10 ?kd10 ?id11 ?ld11 ?cd11 ?kd11 ?id12 ?ld12 ?cd12 ?kd12 ?id13 ?ld13 ?cd13 ?kd13 ?id14 ?ld14 ?cd14 ?kd14 ?id15 ?ld15 ?cd15 ?kd15 ?id16 ?ld16 ?cd16 ?kd16 ?id17 ?ld17 ?cd17 ?kd17 ?id18 ?ld18 ?cd18 ?kd18 ?id19 ?ld19 ?cd19 ?kd19 ?id20 ?ld20 ?cd20 ?kd20 ?z_len ?z_min ?z_max ?z_int ?z_tuple ?z_list ?z_isinstance ?z_any ?z_all ?z_range ?z_zip ?z_enumerate ?z_str ?z_bool ?z_repr ?hB ?hMA ?hMB ?hAB
    (case aA => k_is)
    (case aB => k_is)
    (case aMost => k_is)
    (case im0 => k_is)
    (case lm0 => k_is)
    (case cm0 => k_is)
    (case km0 => k_is)
    (case tm0 => k_is)
    (case im1 => k_is)
    (case lm1 => k_is)
    (case cm1 => k_is)
    (case km1 => k_is)
    (case tm1 => k_is)
    (case im2 => k_is)
    (case lm2 => k_is)
    (case cm2 => k_is)
    (case km2 => k_is)
    (case tm2 => k_is)
    (case it0 => k_is)
    (case lt0 => k_is)
    (case ct0 => k_is)
    (case kt0 => k_is)
    (case tt0 => k_is)
    (case it2 => k_is)
    (case lt2 => k_is)
    (case ct2 => k_is)
    (case kt2 => k_is)
    (case tt2 => k_is)
    (case it3 => k_is)
    (case lt3 => k_is)
    (case ct3 => k_is)
    (case kt3 => k_is)
    (case tt3 => k_is)
    (case it4 => k_is)
    (case lt4 => k_is)
    (case ct4 => k_is)
    (case kt4 => k_is)
    (case tt4 => k_is)
    (case it5 => k_is)
    (case lt5 => k_is)
    (case ct5 => k_is)
    (case kt5 => k_is)
    (case tt5 => k_is)
    (case it6 => k_is)
    (case lt6 => k_is)
    (case ct6 => k_is)
    (case kt6 => k_is)
    (case tt6 => k_is)
    (case kw0 => k_is)
    (case ap0 => k_is)
    (case gp0 => k_is)
    (case up0 => k_is)
    (case ip0 => k_is)
    (case lp0 => k_is)
    (case cp0 => k_is)
    (case kp0 => k_is)
    (case ap1 => k_is)
    (case gp1 => k_is)
    (case up1 => k_is)
    (case ip1 => k_is)
    (case lp1 => k_is)
    (case cp1 => k_is)
    (case kp1 => k_is)
    (case aq0 => k_is)
    (case gq0 => k_is)
    (case uq0 => k_is)
    (case iq0 => k_is)
    (case lq0 => k_is)
    (case cq0 => k_is)
    (case kq0 => k_is)
    (case aq1 => k_is)
    (case gq1 => k_is)
    (case uq1 => k_is)
    (case iq1 => k_is)
    (case lq1 => k_is)
    (case cq1 => k_is)
    (case kq1 => k_is)
    (case aq2 => k_is)
    (case gq2 => k_is)
    (case uq2 => k_is)
    (case iq2 => k_is)
    (case lq2 => k_is)
    (case cq2 => k_is)
    (case kq2 => k_is)
    (case aq3 => k_is)
    (case gq3 => k_is)
    (case uq3 => k_is)
    (case iq3 => k_is)
    (case lq3 => k_is)
    (case cq3 => k_is)
    (case kq3 => k_is)
    (case aq4 => k_is)
    (case gq4 => k_is)
    (case uq4 => k_is)
    (case iq4 => k_is)
    (case lq4 => k_is)
    (case cq4 => k_is)
    (case kq4 => k_is)
    (case aq5 => k_is)
    (case gq5 => k_is)
    (case uq5 => k_is)
    (case iq5 => k_is)
    (case lq5 => k_is)
    (case cq5 => k_is)
    (case kq5 => k_is)
    (case av0 => k_is)
    (case gv0 => k_is)
    (case uv0 => k_is)
    (case yv0 => k_is)
    (case iv0 => k_is)
    (case lv0 => k_is)
    (case cv0 => k_is)
    (case kv0 => k_is)
    (case id0 => k_is)
    (case ld0 => k_is)
    (case cd0 => k_is)
    (case kd0 => k_is)
    (case id1 => k_is)
    (case ld1 => k_is)
    (case cd1 => k_is)
    (case kd1 => k_is)
    (case id2 => k_is)
    (case ld2 => k_is)
    (case cd2 => k_is)
    (case kd2 => k_is)
    (case id3 => k_is)
    (case ld3 => k_is)
    (case cd3 => k_is)
    (case kd3 => k_is)
    (case id4 => k_is)
    (case ld4 => k_is)
    (case cd4 => k_is)
    (case kd4 => k_is)
    (case id5 => k_is)
    (case ld5 => k_is)
    (case cd5 => k_is)
    (case kd5 => k_is)
    (case id6 => k_is)
    (case ld6 => k_is)
    (case cd6 => k_is)
    (case kd6 => k_is)
    (case id7 => k_is)
    (case ld7 => k_is)
    (case cd7 => k_is)
    (case kd7 => k_is)
    (case id8 => k_is)
    (case ld8 => k_is)
    (case cd8 => k_is)
    (case kd8 => k_is)
    (case id9 => k_is)
    (case ld9 => k_is)
    (case cd9 => k_is)
    (case kd9 => k_is)
    (case id10 => k_is)
    (case ld10 => k_is)
    (case cd10 => k_is)
    (case kd10 => k_is)
    (case id11 => k_is)
    (case ld11 => k_is)
    (case cd11 => k_is)
    (case kd11 => k_is)
    (case id12 => k_is)
    (case ld12 => k_is)
    (case cd12 => k_is)
    (case kd12 => k_is)
    (case id13 => k_is)
    (case ld13 => k_is)
    (case cd13 => k_is)
    (case kd13 => k_is)
    (case id14 => k_is)
    (case ld14 => k_is)
    (case cd14 => k_is)
    (case kd14 => k_is)
    (case id15 => k_is)
    (case ld15 => k_is)
    (case cd15 => k_is)
    (case kd15 => k_is)
    (case id16 => k_is)
    (case ld16 => k_is)
    (case cd16 => k_is)
    (case kd16 => k_is)
    (case id17 => k_is)
    (case ld17 => k_is)
    (case cd17 => k_is)
    (case kd17 => k_is)
    (case id18 => k_is)
    (case ld18 => k_is)
    (case cd18 => k_is)
    (case kd18 => k_is)
    (case id19 => k_is)
    (case ld19 => k_is)
    (case cd19 => k_is)
    (case kd19 => k_is)
    (case id20 => k_is)
    (case ld20 => k_is)
    (case cd20 => k_is)
    (case kd20 => k_is)
    (case z_len => k_is)
    (case z_min => k_is)
    (case z_max => k_is)
    (case z_int => k_is)
    (case z_tuple => k_is)
    (case z_list => k_is)
    (case z_isinstance => k_is)
    (case z_any => k_is)
    (case z_all => k_is)
    (case z_range => k_is)
    (case z_zip => k_is)
    (case z_enumerate => k_is)
    (case z_str => k_is)
    (case z_bool => k_is)
    (case z_repr => k_is)
    (case hB => kernel_rfl)
    (case hMA => k_is)
    (case hMB => k_is)
    (case hAB => decide)
