import PyProof.Rows.All
import Wide.All
import OpenK.AllK
import Wide.FinOn
import PyProof.EqAt
import PyProof.EqKinds
import PyProof.TupleCall
import KE.GoesZip
import KE.GoesMore
import KE.GoesEnum
import KE.KDictZip
import HandS.Base
import HandS.Call
import HandS.List
import HandS.Iter
import HandS.ForMost
import HandS.Walk
import HandS.Zip
import HandS.IsInst
import HandS.Property
import HandS.TupAny
import HandS.ForExc
import PyProof.NeKinds
import PyProof.NeData
import HandS.Star
import HandS.Style
import PyProof.StrLaws
import PySem.Challenge.RW_sourwright_k26_bounds_of_lives
set_option Elab.async false
set_option linter.all false
set_option maxRecDepth 100000
set_option maxHeartbeats 2000000
/-! list(zip(a, b)): each pair is kept by the list, so that zip may not use its tuple again -/
namespace Mine
open PySem PyProof.Rows L2
section
variable {prog : Program} {w : World} {A : Around} {E : Value → Shared → Prop} {s : Shared} {z TI TO i1 i2 T : Addr} {fp1 fp2 : List Addr} {n1 n2 i : Nat} {P1 P2 : Nat → Value → Prop} {St1 St2 : Nat → Heap → Prop} {f : Bool} {oT : Obj}

/-- a further pair, while the first tuple is still out -/
theorem held_item {Q : Value → Shared → Prop} (S : ZipSep2 z TI TO i1 i2 fp1 fp2) (D1 : Draws prog w A i1 fp1 n1 P1 St1) (D2 : Draws prog w A i2 fp2 n2 P2 St2) (hz : IsZipHeld s.heap z TI TO T f) (hT : s.heap.get? T = some oT)
    (hI : IsTupOf2 s.heap TI (.ref i1) (.ref i2)) (t1 : St1 i s.heap) (t2 : St2 i s.heap) (l1 : i < n1) (l2 : i < n2)
    (k : ∀ x y h' tk, P1 i x → P2 i y → IsZipHeld h' z TI TO T true → St1 (i + 1) h' → St2 (i + 1) h' → IsTupOf2 h' s.heap.objs.size x y → (∀ c o, c ≠ z → c ≠ i1 → c ≠ i2 → s.heap.get? c = some o → h'.get? c = some o) →
      h'.objs.size = s.heap.objs.size + 1 → Q (.ref s.heap.objs.size) { s with heap := h', toks := tk }) :
    wpAny (model prog w) A (Builtin.«zip.__next__» ⟨[.ref z], []⟩) (fun r s' => ∃ v, r = .done (.ret v) ∧ Q v s') E s := by
  obtain ⟨hp, g, d, tk0, os⟩ := s
  show wpAny _ _ (field (.ref z) 2 >>= _) _ _ _
  refine wpAny_bind (wpAny_field hz rfl (x := .bool false) rfl (show wpAny _ _ (field (.ref z) 3 >>= _) _ _ _ from ?_))
  refine wpAny_bind (wpAny_field hz rfl (x := .ref TI) rfl (wpAny_bind (wpAny_seqItems hI rfl (show wpAny _ _ (Builtin.SmallTypes.ownedTupleIsFree (.ref z) >>= _) _ _ _ from ?_))))
  refine wpAny_bind (wpAny_tupleHeld_zip hz hT fun g0 z0 e0 => ?_)
  simp only [Bool.false_eq_true, if_false]
  refine wpAny_bind ?_
  rw [← Array.forIn_toList]
  simp only [List.forIn_cons, List.forIn_nil]
  replace e0 : Heap.SameBut z hp g0 := e0
  refine wpAny_bind (wpAny_bind (wpAny_holding (show wpAny _ _ (Builtin.SmallTypes.nextOf (.ref i1) >>= _) _ _ ⟨g0, g, d, tk0, os⟩ from ?_)))
  refine wpAny_bind (D1.item i _ _ _ l1 (D1.over t1 e0 S.zf1) fun x g1 tk1 hx q1 e1 => wpAny_pure (wpAny_pure ?_))
  replace e1 : Heap.SameBut i1 g0 g1 := e1
  refine wpAny_bind (wpAny_bind (wpAny_holding (show wpAny _ _ (Builtin.SmallTypes.nextOf (.ref i2) >>= _) _ _ ⟨g1, g, d, tk1, os⟩ from ?_)))
  refine wpAny_bind (D2.item i _ _ _ l2 (D2.over (D2.over t2 e0 S.zf2) e1 S.sep1_2) fun y g2 tk2 hy q2 e2 => wpAny_pure (wpAny_pure (wpAny_pure ?_)))
  replace e2 : Heap.SameBut i2 g1 g2 := e2
  refine wpAny_bind (show wpAny _ _ (newTuple [x, y]) _ _ _ from wpAny_newTuple ?_)
  have sz : g2.objs.size = hp.objs.size := by rw [e2.1, e1.1, e0.1]
  have zz : IsZipHeld g2 z TI TO T true := e2.extBut _ _ S.zi2 (e1.extBut _ _ S.zi1 z0)
  have kk : ∀ c o, c ≠ z → c ≠ i1 → c ≠ i2 → hp.get? c = some o → g2.get? c = some o := fun c o a b b' e => e2.extBut _ _ b' (e1.extBut _ _ b (e0.extBut _ _ a e))
  have hp' : IsTupOf2 (g2.push { cls := .type "tuple", data := .seq #[x, y] }) g2.objs.size x y := Heap.get?_push_size _ rfl
  have sz' : (g2.push { cls := .type "tuple", data := .seq #[x, y] }).objs.size = g2.objs.size + 1 := Heap.size_push ..
  have up : ∀ b o, g2.get? b = some o → (g2.push { cls := .type "tuple", data := .seq #[x, y] }).get? b = some o := fun b o e => Heap.get?_push_of_some _ e
  have u1 := D1.frame _ _ _ (D1.over q1 e2 S.sep2_1) fun b _ o e => up b o e
  have u2 := D2.frame _ _ _ q2 fun b _ o e => up b o e
  refine wpAny_pure ⟨_, rfl, ?_⟩
  show Q (.ref g2.objs.size) _
  rw [sz] at hp' sz' ⊢
  exact k x y _ tk2 hx hy (up _ _ zz) u1 u2 hp' (fun c o a b b' e => up _ _ (kk c o a b b' e)) sz'

theorem held_end {Q : Fin → Shared → Prop} (S : ZipSep2 z TI TO i1 i2 fp1 fp2) (D1 : Draws prog w A i1 fp1 n1 P1 St1) (hz : IsZipHeld s.heap z TI TO T f) (hT : s.heap.get? T = some oT)
    (hI : IsTupOf2 s.heap TI (.ref i1) (.ref i2)) (t1 : St1 n1 s.heap)
    (k : ∀ h' tk e, (∀ c o, c ≠ z → c ≠ i1 → s.heap.get? c = some o → h'.get? c = some o) → (∃ o, h'.get? e = some o ∧ o.cls = .type "StopIteration") → E (.ref e) { s with heap := h', toks := tk }) :
    wpAny (model prog w) A (Builtin.«zip.__next__» ⟨[.ref z], []⟩) Q E s := by
  obtain ⟨hp, g, d, tk0, os⟩ := s
  show wpAny _ _ (field (.ref z) 2 >>= _) _ _ _
  refine wpAny_bind (wpAny_field hz rfl (x := .bool false) rfl (show wpAny _ _ (field (.ref z) 3 >>= _) _ _ _ from ?_))
  refine wpAny_bind (wpAny_field hz rfl (x := .ref TI) rfl (wpAny_bind (wpAny_seqItems hI rfl (show wpAny _ _ (Builtin.SmallTypes.ownedTupleIsFree (.ref z) >>= _) _ _ _ from ?_))))
  refine wpAny_bind (wpAny_tupleHeld_zip hz hT fun g0 z0 e0 => ?_)
  simp only [Bool.false_eq_true, if_false]
  refine wpAny_bind ?_
  rw [← Array.forIn_toList]
  simp only [List.forIn_cons, List.forIn_nil]
  replace e0 : Heap.SameBut z hp g0 := e0
  refine wpAny_bind (wpAny_bind (wpAny_holding (show wpAny _ _ (Builtin.SmallTypes.nextOf (.ref i1) >>= _) _ _ ⟨g0, g, d, tk0, os⟩ from ?_)))
  exact wpAny_bind (D1.done ⟨g0, g, d, tk0, os⟩ _ _ (D1.over t1 e0 S.zf1) fun q e hq he => k q tk0 e (fun c o a b x => hq _ _ b (e0.extBut _ _ a x)) he)

theorem next_held {Q : Option Value → Shared → Prop} (S : ZipSep2 z TI TO i1 i2 fp1 fp2) (D1 : Draws prog w A.in1 i1 fp1 n1 P1 St1) (D2 : Draws prog w A.in1 i2 fp2 n2 P2 St2) (hz : IsZipHeld s.heap z TI TO T f) (hT : s.heap.get? T = some oT)
    (hI : IsTupOf2 s.heap TI (.ref i1) (.ref i2)) (t1 : St1 i s.heap) (t2 : St2 i s.heap) (l1 : i < n1) (l2 : i < n2)
    (k : ∀ x y h' tk, P1 i x → P2 i y → IsZipHeld h' z TI TO T true → St1 (i + 1) h' → St2 (i + 1) h' → IsTupOf2 h' s.heap.objs.size x y → (∀ c o, c ≠ z → c ≠ i1 → c ≠ i2 → s.heap.get? c = some o → h'.get? c = some o) →
      h'.objs.size = s.heap.objs.size + 1 → Q (some (.ref s.heap.objs.size)) { s with heap := h', toks := tk }) :
    wpAny (model prog w) A (pyNext (.ref z)) Q E s := by
  have hTy : s.TypeIs (.ref z) "zip" := ⟨_, hz, rfl⟩
  unfold pyNext
  refine wpAny_bind (wpAny_attempt (wpAny_callSpecial?_slot (name := Str.ofString "__next__") hTy F.slot_zip_next (wpAny_call_entry F.slot_zip_next hTy F.entry_zip_next ?_ (F.args_zip_next_1 _))))
  exact held_item S D1 D2 hz hT hI t1 t2 l1 l2 fun x y h' tk a b c1 c2 c3 c4 c5 c6 => wpAny_pure (k x y h' tk a b c1 c2 c3 c4 c5 c6)
theorem stop_held {Q : Option Value → Shared → Prop} (S : ZipSep2 z TI TO i1 i2 fp1 fp2) (D1 : Draws prog w A.in1 i1 fp1 n1 P1 St1) (hz : IsZipHeld s.heap z TI TO T f) (hT : s.heap.get? T = some oT)
    (hI : IsTupOf2 s.heap TI (.ref i1) (.ref i2)) (t1 : St1 n1 s.heap) (k : ∀ h' tk, (∀ c o, c ≠ z → c ≠ i1 → s.heap.get? c = some o → h'.get? c = some o) → Q none { s with heap := h', toks := tk }) :
    wpAny (model prog w) A (pyNext (.ref z)) Q E s := by
  have hTy : s.TypeIs (.ref z) "zip" := ⟨_, hz, rfl⟩
  unfold pyNext
  refine wpAny_bind (wpAny_attempt (wpAny_callSpecial?_slot (name := Str.ofString "__next__") hTy F.slot_zip_next (wpAny_call_entry F.slot_zip_next hTy F.entry_zip_next ?_ (F.args_zip_next_1 _))))
  refine held_end S D1 hz hT hI t1 fun h' tk e hk he => ?_
  obtain ⟨o, ho, hc⟩ := he
  exact wpAny_bind (wpAny_isInstance (T := "StopIteration") (b := true) ⟨o, ho, hc⟩ isSubtype_stop (wpAny_pure (k _ _ hk)))

theorem zip_nolen : typeLookup (.type "zip") "__len__" = pure none := am_miss_of_fast (by decide +kernel)
theorem zip_nohint : typeLookup (.type "zip") "__length_hint__" = pure none := am_miss_of_fast (by decide +kernel)

/-- where the list, the zip and its parts lie: all new, all apart -/
structure ZApart (n0 : Nat) (q z TI TO i1 i2 : Addr) (fp1 fp2 : List Addr) : Prop where
  sep : ZipSep2 z TI TO i1 i2 fp1 fp2
  nq : n0 ≤ q
  nz : n0 ≤ z
  nO : n0 ≤ TO
  n1 : n0 ≤ i1
  n2 : n0 ≤ i2
  qz : q ≠ z
  qI : q ≠ TI
  qO : q ≠ TO
  q1 : q ∉ fp1
  q2 : q ∉ fp2
/-- behind some turns: the pairs so far lie at the addresses `ps` -/
structure ZS (h0 : Heap) (q z TI TO i1 i2 : Addr) (P1 P2 : Nat → Value → Prop) (St1 St2 : Nat → Heap → Prop) (ps : List Addr) (h : Heap) : Prop where
  keep : ∀ b o, h0.get? b = some o → h.get? b = some o
  lst : ∃ c, h.get? q = some { cls := .type "list", data := .seq (ps.map Value.ref).toArray c }
  tI : IsTupOf2 h TI (.ref i1) (.ref i2)
  tO : ∃ a b, IsTupOf2 h TO a b
  zip : (ps = [] ∧ IsZip h z TI TO .none) ∨ ∃ T r f, ps = T :: r ∧ IsZipHeld h z TI TO T f
  s1 : St1 ps.length h
  s2 : St2 ps.length h
  prs : ∀ (j : Nat) (a : Addr), ps[j]? = some a → (h0.objs.size ≤ a ∧ a ≠ q ∧ a ≠ z ∧ a ≠ TO ∧ a ≠ i1 ∧ a ≠ i2) ∧ ∃ x y, P1 j x ∧ P2 j y ∧ IsTupOf2 h a x y
end
section
variable {prog : Program} {w : World} {A : Around} {E : Value → Shared → Prop} {z TI TO i1 i2 q : Addr} {fp1 fp2 : List Addr} {n : Nat} {P1 P2 : Nat → Value → Prop} {St1 St2 : Nat → Heap → Prop} {h0 h h' : Heap} {ps : List Addr} {g : Array GenState} {d : Drawn} {os : OsState} {tk : Nat}
/-- one turn's bookkeeping: `a` is the new pair -/
theorem ZS.turn (S : ZS h0 q z TI TO i1 i2 P1 P2 St1 St2 ps h) (Z : ZApart h0.objs.size q z TI TO i1 i2 fp1 fp2) (D1 : Draws prog w A i1 fp1 n P1 St1) (D2 : Draws prog w A i2 fp2 n P2 St2) {a : Addr} {x y : Value} (ha : h.objs.size = a) (hx : P1 ps.length x) (hy : P2 ps.length y)
    (kz : ∃ T f, (ps ++ [a]).head? = some T ∧ IsZipHeld h' z TI TO T f) (kO : ∃ a b, IsTupOf2 h' TO a b) (t1 : St1 (ps.length + 1) h') (t2 : St2 (ps.length + 1) h') (hp : IsTupOf2 h' a x y) (k : ∀ c o, c ≠ z → c ≠ TO → c ≠ i1 → c ≠ i2 → h.get? c = some o → h'.get? c = some o) :
    ZS h0 q z TI TO i1 i2 P1 P2 St1 St2 (ps ++ [a]) (h'.update q (Obj.mapSeq (·.push (.ref a)))) := by
  obtain ⟨c, hl⟩ := S.lst
  have lt0 : ∀ {b : Addr} {o : Obj} {m : Addr}, h0.get? b = some o → h0.objs.size ≤ m → b ≠ m := fun e l => Nat.ne_of_lt (Nat.lt_of_lt_of_le (Heap.lt_size e) l)
  have q1 : q ≠ i1 := fun e => Z.q1 (e ▸ Z.sep.mem1)
  have q2 : q ≠ i2 := fun e => Z.q2 (e ▸ Z.sep.mem2)
  have hl' := k q _ Z.qz Z.qO q1 q2 hl
  have up : ∀ b o, b ≠ q → h'.get? b = some o → (h'.update q (Obj.mapSeq (·.push (.ref a)))).get? b = some o := fun b o hb e => (Heap.get?_update_other _ _ (Ne.symm hb)).trans e
  have fresh : ∀ {b : Addr} {o : Obj}, h.get? b = some o → a ≠ b := fun e => by rw [← ha]; exact Nat.ne_of_gt (Heap.lt_size e)
  have hle : h0.objs.size ≤ a := by
    rw [← ha]
    exact Nat.le_of_lt (Nat.lt_of_le_of_lt Z.nq (Heap.lt_size hl))
  obtain ⟨aO, bO, hO⟩ := S.tO
  have zz : ∃ o, h.get? z = some o := by
    rcases S.zip with ⟨_, e⟩ | ⟨_, _, _, _, e⟩
    · exact ⟨_, e⟩
    · exact ⟨_, e⟩
  obtain ⟨oz, hz⟩ := zz
  obtain ⟨o1, e1⟩ := D1.live _ _ S.s1
  obtain ⟨o2, e2⟩ := D2.live _ _ S.s2
  refine ⟨fun b o e => up b o (lt0 e Z.nq) (k b o (lt0 e Z.nz) (lt0 e Z.nO) (lt0 e Z.n1) (lt0 e Z.n2) (S.keep b o e)), ?_, up _ _ (Ne.symm Z.qI) (k _ _ Z.sep.TIz Z.sep.TITO Z.sep.TIi1 Z.sep.TIi2 S.tI), ?_, .inr ?_, ?_, ?_, fun j b hb => ?_⟩
  · refine ⟨c + 1, (Heap.get?_update_self _ hl' rfl).trans ?_⟩
    simp [Obj.mapSeq]
  · obtain ⟨u, v, e⟩ := kO
    exact ⟨u, v, up _ _ (Ne.symm Z.qO) e⟩
  · obtain ⟨T, f, eT, e⟩ := kz
    cases hps : ps ++ [a] with
    | nil => rw [hps] at eT; cases eT
    | cons T' r =>
      rw [hps] at eT
      obtain rfl := Option.some.inj eT
      exact ⟨T', r, f, rfl, up _ _ (Ne.symm Z.qz) e⟩
  · rw [List.length_append]
    exact D1.frame _ _ _ t1 fun b hb o e => up b o (fun z => Z.q1 (z ▸ hb)) e
  · rw [List.length_append]
    exact D2.frame _ _ _ t2 fun b hb o e => up b o (fun z => Z.q2 (z ▸ hb)) e
  · by_cases hj : j < ps.length
    · rw [List.getElem?_append_left hj] at hb
      obtain ⟨⟨m0, m1, m2, m3, m4, m5⟩, x', y', hx', hy', e⟩ := S.prs j b hb
      exact ⟨⟨m0, m1, m2, m3, m4, m5⟩, x', y', hx', hy', up _ _ m1 (k _ _ m2 m3 m4 m5 e)⟩
    · rw [List.getElem?_append_right (by omega)] at hb
      obtain ⟨j0, eb⟩ : j - ps.length = 0 ∧ b = a := by
        cases hj0 : j - ps.length with
        | zero => rw [hj0] at hb; exact ⟨rfl, (Option.some.inj hb).symm⟩
        | succ m => rw [hj0] at hb; cases hb
      have ej : j = ps.length := by omega
      subst eb ej
      exact ⟨⟨hle, fresh hl, fresh hz, fresh hO, fresh e1, fresh e2⟩, x, y, hx, hy, up _ _ (fresh hl) hp⟩

/-- the list takes what zip hands out, to the end -/
theorem zip_drain {R : Result → Shared → Prop} (hh : A.handled = none) (hn : n < sizeLine) (Z : ZApart h0.objs.size q z TI TO i1 i2 fp1 fp2) (D1 : Draws prog w A.in1.in1 i1 fp1 n P1 St1) (D2 : Draws prog w A.in1.in1 i2 fp2 n P2 St2)
    (hend : ∀ (ps : List Addr) (h : Heap) (tk : Nat), ps.length = n → (∀ b o, h0.get? b = some o → h.get? b = some o) → (∃ c, h.get? q = some { cls := .type "list", data := .seq (ps.map Value.ref).toArray c }) →
      (∀ (j : Nat) (a : Addr), ps[j]? = some a → h0.objs.size ≤ a ∧ a ≠ q ∧ ∃ x y, P1 j x ∧ P2 j y ∧ IsTupOf2 h a x y) → R (.ok (.ret .none)) ⟨h, g, d, tk, os⟩) :
    ∀ (m : Nat) (ps : List Addr) (h : Heap) (tk : Nat), ps.length + m = n → ZS h0 q z TI TO i1 i2 P1 P2 St1 St2 ps h → codeAny (model prog w) A (.builtin "list.extend.loop" ⟨[.ref q, .ref z, .none], []⟩) R ⟨h, g, d, tk, os⟩ := by
  intro m
  have fin : ∀ (ps : List Addr) (h h' : Heap) (tk : Nat), ps.length = n → ZS h0 q z TI TO i1 i2 P1 P2 St1 St2 ps h → (∀ c o, c ≠ z → c ≠ TO → c ≠ i1 → c ≠ i2 → h.get? c = some o → h'.get? c = some o) → R (.ok (.ret .none)) ⟨h', g, d, tk, os⟩ := by
    intro ps h h' tk hl S k
    have lt0 : ∀ {b : Addr} {o : Obj} {m : Addr}, h0.get? b = some o → h0.objs.size ≤ m → b ≠ m := fun e l => Nat.ne_of_lt (Nat.lt_of_lt_of_le (Heap.lt_size e) l)
    obtain ⟨c, hc⟩ := S.lst
    refine hend ps h' tk hl (fun b o e => k b o (lt0 e Z.nz) (lt0 e Z.nO) (lt0 e Z.n1) (lt0 e Z.n2) (S.keep b o e)) ⟨c, k _ _ Z.qz Z.qO (fun e => Z.q1 (e ▸ Z.sep.mem1)) (fun e => Z.q2 (e ▸ Z.sep.mem2)) hc⟩ fun j a ha => ?_
    obtain ⟨⟨m0, m1, m2, m3, m4, m5⟩, x, y, hx, hy, e⟩ := S.prs j a ha
    exact ⟨m0, m1, x, y, hx, hy, k _ _ m2 m3 m4 m5 e⟩
  induction m with
  | zero =>
    intro ps h tk hl S
    have hl' : ps.length = n := hl
    refine codeAny_builtin F.entry_extend_loop ?_
    rw [Around.under_plainId F.plain_extend_loop _]
    show wpAny _ A.in1 (pyNext (.ref z) >>= _) _ _ _
    have s1 := S.s1
    have s2 := S.s2
    rw [hl'] at s1 s2
    rcases S.zip with ⟨_, hz⟩ | ⟨T, r, f, ep, hz⟩
    · obtain ⟨a, b, hO⟩ := S.tO
      refine wpAny_bind (wpAny_pyNext_zipD2_end Z.sep D1 D2 hz S.tI hO s1 s2 (Nat.le_refl _) (Nat.le_refl _) (.inl rfl) fun h' tk' k => wpAny_pure ?_)
      exact fin ps h h' tk' hl' S k
    · obtain ⟨_, x, y, _, _, hT⟩ := S.prs 0 T (by rw [ep]; rfl)
      refine wpAny_bind (stop_held Z.sep D1 hz hT S.tI s1 fun h' tk' k => wpAny_pure ?_)
      exact fin ps h h' tk' hl' S fun c o c1 _ c3 _ e => k c o c1 c3 e
  | succ m ih =>
    intro ps h tk hl S
    have hlt : ps.length < n := by omega
    refine codeAny_builtin F.entry_extend_loop ?_
    rw [Around.under_plainId F.plain_extend_loop _]
    show wpAny _ A.in1 (pyNext (.ref z) >>= _) _ _ _
    have next : ∀ (x y : Value) (h' : Heap) (tk' : Nat), P1 ps.length x → P2 ps.length y → (∃ T f, (ps ++ [h.objs.size]).head? = some T ∧ IsZipHeld h' z TI TO T f) → (∃ a b, IsTupOf2 h' TO a b) → St1 (ps.length + 1) h' → St2 (ps.length + 1) h' → IsTupOf2 h' h.objs.size x y →
        (∀ c o, c ≠ z → c ≠ TO → c ≠ i1 → c ≠ i2 → h.get? c = some o → h'.get? c = some o) →
        wpAny (model prog w) A.in1 (updateSeq q (·.push (.ref h.objs.size)) >>= fun _ => again (.builtin "list.extend.loop" ⟨[.ref q, .ref z, .none], []⟩))
          (fun r s' => match r with | .done f => R (.ok f) s' | .again c' => c'.quiet = true ∧ codeAny (model prog w) A c' R s') (fun e s' => R (.error e) s') ⟨h', g, d, tk', os⟩ := by
      intro x y h' tk' hx hy kz kO t1 t2 hp k
      obtain ⟨c, hc⟩ := S.lst
      have hc' := k _ _ Z.qz Z.qO (fun e => Z.q1 (e ▸ Z.sep.mem1)) (fun e => Z.q2 (e ▸ Z.sep.mem2)) hc
      refine wpAny_bind (wpAny_updateSeq (s := ⟨h', g, d, tk', os⟩) hc' rfl (wpAny_pure ⟨plainId_quiet F.plain_extend_loop _, ?_⟩) ?_ ?_)
      · exact ih (ps ++ [h.objs.size]) _ tk' (by rw [List.length_append, List.length_singleton]; omega) (S.turn Z D1 D2 rfl hx hy kz kO t1 t2 hp k)
      · show (ps.map Value.ref).toArray.size ≤ sizeLine
        rw [List.size_toArray, List.length_map]
        omega
      · show ((ps.map Value.ref).toArray.push (.ref h.objs.size)).size ≤ sizeLine + 1
        rw [Array.size_push, List.size_toArray, List.length_map]
        omega
    rcases S.zip with ⟨e0, hz⟩ | ⟨T, r, f, ep, hz⟩
    · obtain ⟨a, b, hO⟩ := S.tO
      refine wpAny_bind (wpAny_pyNext_zipD2_item Z.sep D1 D2 hz S.tI hO S.s1 S.s2 hlt hlt fun x y h' tk' hx hy k1 k2 t1 t2 hp _ k => ?_)
      exact next x y h' tk' hx hy ⟨_, false, by rw [e0]; rfl, k1⟩ ⟨_, _, k2⟩ t1 t2 hp k
    · obtain ⟨_, x0, y0, _, _, hT⟩ := S.prs 0 T (by rw [ep]; rfl)
      obtain ⟨a, b, hO⟩ := S.tO
      refine wpAny_bind (next_held Z.sep D1 D2 hz hT S.tI S.s1 S.s2 hlt hlt fun x y h' tk' hx hy k1 t1 t2 hp k _ => ?_)
      refine next x y h' tk' hx hy ⟨T, true, by rw [ep]; rfl, k1⟩ ⟨a, b, k _ _ Z.sep.TOz Z.sep.Ti1 Z.sep.Ti2 hO⟩ t1 t2 hp fun c o c1 _ c3 c4 e => k c o c1 c3 c4 e

/-- list(z), z a zip that has not begun -/
theorem call_list_zip {Q : Value → Shared → Prop} {tk : Nat} (hh : A.handled = none) (hn : n < sizeLine) (D1 : ∀ B : Around, B.handled = none → Draws prog w B i1 fp1 n P1 St1) (D2 : ∀ B : Around, B.handled = none → Draws prog w B i2 fp2 n P2 St2) (sep : ZipSep2 z TI TO i1 i2 fp1 fp2)
    (k0 : ∀ b o, h0.get? b = some o → h.get? b = some o) (nz : h0.objs.size ≤ z) (nO : h0.objs.size ≤ TO) (n1 : h0.objs.size ≤ i1) (n2 : h0.objs.size ≤ i2) (f1 : ∀ b ∈ fp1, b < h.objs.size) (f2 : ∀ b ∈ fp2, b < h.objs.size) (hz : IsZip h z TI TO .none) (tI : IsTupOf2 h TI (.ref i1) (.ref i2)) {a b : Value} (tO : IsTupOf2 h TO a b) (s1 : St1 0 h) (s2 : St2 0 h)
    (hQ : ∀ (S : Addr) (ps : List Addr) (h' : Heap) (tk : Nat), h0.objs.size ≤ S → ps.length = n → (∀ b o, h0.get? b = some o → h'.get? b = some o) → (∃ c, h'.get? S = some { cls := .type "list", data := .seq (ps.map Value.ref).toArray c }) →
      (∀ (j : Nat) (a : Addr), ps[j]? = some a → h0.objs.size ≤ a ∧ a ≠ S ∧ ∃ x y, P1 j x ∧ P2 j y ∧ IsTupOf2 h' a x y) → Q (.ref S) ⟨h', g, d, tk, os⟩) :
    wpAny (model prog w) A (call (.type "list") [.ref z]) Q E ⟨h, g, d, tk, os⟩ := by
  have lt : ∀ {c : Addr} {o : Obj}, h.get? c = some o → h.objs.size ≠ c := fun e => Nat.ne_of_gt (Heap.lt_size e)
  have le0 : h0.objs.size ≤ h.objs.size := Nat.le_of_lt (Nat.lt_of_le_of_lt nz (Heap.lt_size hz))
  have Z : ZApart h0.objs.size h.objs.size z TI TO i1 i2 fp1 fp2 := ⟨sep, le0, nz, nO, n1, n2, lt hz, lt tI, lt tO, fun m => Nat.lt_irrefl _ (f1 _ m), fun m => Nat.lt_irrefl _ (f2 _ m)⟩
  refine callType_codes (Q₁ := fun obj s₁ => obj = .ref h.objs.size ∧ s₁ = ⟨h.push { cls := .type "list", data := .seq #[] }, g, d, tk, os⟩) F.called_list (F.typeCall_list_1 _) F.entry_list_init (code_list_new _ ⟨rfl, rfl⟩) fun obj s₁ hs => ?_
  obtain ⟨rfl, rfl⟩ := hs
  have e0 : (h.push { cls := .type "list", data := .seq #[] }).get? h.objs.size = some { cls := .type "list", data := .seq #[] } := Heap.get?_push_size _ rfl
  have u0 : ∀ b o, h.get? b = some o → (h.push { cls := .type "list", data := .seq #[] }).get? b = some o := fun b o e => Heap.get?_push_of_some _ e
  have up : ∀ (h₁ : Heap) (f : Obj → Obj), (∀ b o, h.get? b = some o → h₁.get? b = some o) → ∀ b o, h.get? b = some o → (h₁.update h.objs.size f).get? b = some o := fun h₁ f q b o e => (Heap.get?_update_other _ _ (lt e)).trans (q b o e)
  refine ⟨⟨_, e0, rfl⟩, F.args_list_init_2 _ _, ?_⟩
  show wpAny _ A.in1.in1 (do let old ← Builtin.List.listItems (.ref h.objs.size); Builtin.List.listUpdate (.ref h.objs.size) (fun _ => #[]); letGo old.toList.reverse; Builtin.List.listExtendWith (.ref h.objs.size) (.ref z) .none) _ _ _
  refine wpAny_bind ?_
  unfold Builtin.List.listItems
  refine wpAny_bind (wpAny_seqItems e0 rfl (wpAny_pure ?_))
  show wpAny _ A.in1.in1 (updateSeq h.objs.size (fun _ => #[]) >>= fun _ => letGo (#[] : Array Value).toList.reverse >>= fun _ => Builtin.List.listExtendWith (.ref h.objs.size) (.ref z) .none) _ _ _
  refine wpAny_bind (wpAny_updateSeq e0 rfl (wpAny_bind (wpAny_letGo ?_)))
  have e1 := Heap.get?_update_self (Obj.mapSeq (fun _ => (#[] : Array Value))) e0 rfl
  have u1 := up _ (Obj.mapSeq (fun _ => (#[] : Array Value))) u0
  unfold Builtin.List.listExtendWith
  have ty : ∀ {h₁ : Heap} {t : Nat}, (∀ b o, h.get? b = some o → h₁.get? b = some o) → (⟨h₁, g, d, t, os⟩ : Shared).TypeIs (.ref z) "zip" := fun k => ⟨_, k _ _ hz, rfl⟩
  refine wpAny_bind (wpAny_typeOf (ty u1) ?_)
  have h1 : Builtin.List.listSameRef (.ref h.objs.size) (.ref z) = false := by simp [Builtin.List.listSameRef, lt hz]
  have h2 : (Value.type "zip" == Value.type "list") = false := by decide
  have h3 : (Value.type "zip" == Value.type "tuple") = false := by decide
  simp only [h1, h2, h3, Bool.or_false, Bool.false_eq_true, if_false]
  refine wpAny_bind (wpAny_pyIter_zip (s := ⟨_, g, d, tk, os⟩) (f0 := .none) (u1 _ _ hz) (wpAny_bind (wpAny_holding ?_)))
  unfold Builtin.List.listLengthHint
  refine wpAny_bind (wpAny_specialOf (ty u1) zip_nolen ?_)
  show wpAny _ A.in1.in1 (specialOf (Value.ref z) (Str.ofString "__length_hint__") >>= _) _ _ _
  refine wpAny_bind (wpAny_specialOf (ty u1) zip_nohint (wpAny_pure ?_))
  show wpAny _ A.in1.in1 (rule "list.extend.makes-room" >>= fun _ => Builtin.List.listTouch (.ref h.objs.size) >>= fun _ => again (.builtin "list.extend.loop" ⟨[.ref h.objs.size, .ref z, .none], []⟩)) _ _ _
  refine wpAny_bind (wpAny_rule (wpAny_bind ?_))
  show wpAny _ A.in1.in1 (updateSeq h.objs.size (·.push .none) >>= fun _ => updateSeq h.objs.size (·.pop)) _ _ _
  refine wpAny_bind (wpAny_updateSeq e1 rfl ?_)
  have e2 := Heap.get?_update_self (Obj.mapSeq (·.push Value.none)) e1 rfl
  refine wpAny_updateSeq (hz := by seq_fits) e2 rfl ?_
  have e3 := Heap.get?_update_self (Obj.mapSeq (·.pop)) e2 rfl
  have u3 := up _ (Obj.mapSeq (·.pop)) (up _ (Obj.mapSeq (·.push Value.none)) u1)
  refine wpAny_pure ⟨plainId_quiet F.plain_extend_loop _, ?_⟩
  have hA : A.in1.handled = none := hh
  have hB : A.in1.in1.in1.handled = none := hh
  refine zip_drain (A := A.in1) (h0 := h0) hA hn Z (D1 _ hB) (D2 _ hB) (fun ps h' tk' hl k hS hp => ⟨rfl, hQ _ ps h' tk' le0 hl k hS hp⟩) n [] _ tk (by simp) ?_
  refine ⟨fun b o e => u3 b o (k0 b o e), ⟨_, e3⟩, u3 _ _ tI, ⟨_, _, u3 _ _ tO⟩, .inl ⟨rfl, u3 _ _ hz⟩, (D1 _ hB).frame _ _ _ s1 fun b _ o e => u3 b o e, (D2 _ hB).frame _ _ _ s2 fun b _ o e => u3 b o e, fun j a e => by cases e⟩
end
end Mine

set_option maxRecDepth 100000
set_option maxHeartbeats 2000000
namespace Mine
open PySem PySem.Spec PyProof.Rows L2
section
variable {X : Cx} {pins : List (Addr × Obj)} {σ : L2.St} {H H' : Hp} {s : Shared} {h' : Heap}
theorem HOk.at {P : Program} {w : World} {h : Heap} (x : HOk P w H h) {a : Addr} {o : HO} (e : H a = some o) : ∃ u, h.get? a = some u := by
  have q := x a o e
  cases o with
  | lst xs => obtain ⟨_, _, _, _, e⟩ := q; exact ⟨_, e⟩
  | tup xs => obtain ⟨_, _, _, o, e, _⟩ := q; exact ⟨_, e⟩
  | dK kvs => obtain ⟨_, _, _, _, o, _, _, e, _⟩ := q; exact ⟨_, e⟩
  | dT kvs => obtain ⟨_, _, _, _, o, _, _, e, _⟩ := q; exact ⟨_, e⟩
  | set S n => obtain ⟨o, _, _, _, e, _⟩ := q; exact ⟨_, e⟩
  | ins C dx fs => obtain ⟨_, _, _, e, _⟩ := q; exact ⟨_, e⟩
  | own y => obtain ⟨_, e⟩ := q; exact ⟨_, e⟩
  | xd fs => obtain ⟨_, ⟨_, _, _, e, _⟩, _⟩ := q; exact ⟨_, e⟩
  | rng lo hi => obtain ⟨_, _, _, e⟩ := q; exact ⟨_, e⟩
  | frz ob u => obtain ⟨e, _⟩ := q; exact ⟨_, e⟩
  | tbl ps => exact ⟨_, (show h.get? a = some _ from q)⟩
  | met f y => exact ⟨_, (show h.get? a = some _ from q)⟩
  | ext φ => obtain ⟨_, ⟨_, e⟩, _⟩ := q; exact ⟨_, e⟩
/-- several new objects at once: all that stood stands, what is told besides lies where nothing stood -/
theorem Inv.grow {t' : Nat} (I : Inv X pins σ H s) (k : ∀ b u, s.heap.get? b = some u → h'.get? b = some u) (e : ∀ b, (∃ u, s.heap.get? b = some u) → H' b = H b) (new : ∀ b o, H' b = some o → H b = none → ObjOk X.prog X.w H' h' b o) :
    Inv X pins σ H' { s with heap := h', toks := t' } := by
  have st : ∀ b o, H b = some o → H' b = some o := fun b o q => (e b (HOk.at I.hok q)).trans q
  refine I.un ⟨fun b u q _ _ _ => k b u q, fun b u q _ _ _ => ⟨u.slots, k b u q⟩, fun b u q n _ => (e b ⟨u, q⟩).trans n, fun b u q _ => ⟨u, k b u q⟩, fun b xs q => st b _ q, fun b o u q => st b _ q, fun b ps q => ⟨#[], by rw [st b _ q, Array.append_empty]⟩⟩ fun b o q => ?_
  cases hb : H b with
  | none => exact new b o q hb
  | some u =>
    have z := st b u hb
    rw [q] at z
    cases z
    exact (I.hok b o hb).stay (fun c v _ r => k c v r) (fun c r => st c _ r) fun c xs r => st c _ r
end
/-- the pairs of two lists of values lie at ps, the list of them at S -/
structure Zipped (H H' : Hp) (S : Addr) (ps : List Addr) (xs ys : List V) : Prop where
  same : Same H H'
  fresh : H S = none
  at_ : H' S = some (.lst (ps.map V.ref))
  len : ps.length = xs.length
  pair : ∀ (j : Nat) (p : Addr) (x y : V), ps[j]? = some p → xs[j]? = some x → ys[j]? = some y → H' p = some (.tup [x, y])
  apart : ∀ (j : Nat) (p : Addr), ps[j]? = some p → H p = none
def SqA (K : PySem.W.Frag) (H : Hp) (a : Addr) (xs : List V) : Prop := SqL K H a xs ∨ SqT K H a xs
def tLZ (K : PySem.W.Frag) (ta : TA) : TE := fun σ H Q => ta σ H fun vs H1 => ∃ (a b : Addr) (xs ys : List V), vs = [.ref a, .ref b] ∧ SqA K H1 a xs ∧ SqA K H1 b ys ∧ xs.length = ys.length ∧ xs.length < sizeLine ∧
  ∀ (S : Addr) (ps : List Addr) (H2 : Hp), Zipped H1 H2 S ps xs ys → Q (.ref S) H2
section
variable {X : Cx} {pins : List (Addr × Obj)} {σ : L2.St} {H H' : Hp} {s : Shared}
/-- what iter and next of a list or a tuple do, for zip -/
structure Src (prog : Program) (w : World) (s : Shared) (a : Addr) (o : Obj) (Hs : Heap → Prop) (its : List Value) (St : Addr → Nat → Heap → Prop) : Prop where
  lt : a < s.heap.objs.size
  beg : Begins (.ref a) o Hs
  now : Hs s.heap
  draw : ∀ (it : Addr), a ≠ it → ∀ B : Around, B.handled = none → Draws prog w B it [it, a] its.length (fun i x => its[i]? = some x) (St it)
  st : ∀ (it : Addr) (h : Heap), h.get? it = some o → (∀ c u, s.heap.get? c = some u → h.get? c = some u) → St it 0 h
theorem src_of (I : Inv X pins σ H s) {a : Addr} {xs : List V} (h : SqA X.K H a xs) : ∃ o Hs its St, Src X.prog X.w s a o Hs its St ∧ Vals xs its := by
  rcases h with h | h
  · obtain ⟨its, rv, p, _⟩ := I.list h
    refine ⟨_, _, its, fun it i h => h.IsListIter it a i ∧ h.IsList a its.toArray, ⟨p.lt, begins_list a its.toArray, p.isList, fun it ne B hB => ?_, fun it h e k => ⟨⟨_, e, rfl, rfl⟩, p.isList.at fun o q => k a o q⟩⟩, rv⟩
    have q := Draws.list (prog := X.prog) (w := X.w) hB it a ne its.toArray
    simpa using q
  · obtain ⟨its, rv, p, _⟩ := I.tuple h
    have p' : s.heap.IsTuple a its.toArray := p
    refine ⟨_, _, its, fun it i h => h.IsTupleIter it a i ∧ h.IsTuple a its.toArray, ⟨p.lt, begins_tuple a its.toArray, p', fun it ne B hB => ?_, fun it h e k => ⟨⟨_, e, rfl, rfl⟩, p'.at fun o q => k a o q⟩⟩, rv⟩
    have q := Draws.tuple (prog := X.prog) (w := X.w) hB it a ne its.toArray
    simpa using q
theorem run_listZip {Q : VK} {E : Value → Shared → Prop} {A : Around} {a b : Addr} {xs ys : List V} (hh : A.handled = none) (I : Inv X pins σ H s) (ha : SqA X.K H a xs) (hb : SqA X.K H b ys) (hl : xs.length = ys.length) (hz : xs.length < sizeLine)
    (q : ∀ (S : Addr) (ps : List Addr) (H2 : Hp), Zipped H H2 S ps xs ys → Q (.ref S) H2) :
    wpAny (model X.prog X.w) A (call (.type "zip") [.ref a, .ref b]) (fun z s' => wpAny (model X.prog X.w) A (call (.type "list") [z]) (EP X pins σ Q) E s') E s := by
  obtain ⟨o1, H1, its1, St1, S1, r1⟩ := src_of I ha
  obtain ⟨o2, H2, its2, St2, S2, r2⟩ := src_of I hb
  have e1 := r1.length
  have e2 := r2.length
  have el : its2.length = its1.length := by omega
  refine zip_begins2 S1.beg S2.beg S1.now S2.now fun h hz' tI tO g1 g2 hsz hk => ?_
  obtain ⟨hp, g, d, tk, os⟩ := s
  replace hk : ∀ c o, hp.get? c = some o → h.get? c = some o := hk
  have la : a < hp.objs.size := S1.lt
  have lb : b < hp.objs.size := S2.lt
  replace hsz : h.objs.size = hp.objs.size + 5 := hsz
  refine call_list_zip (h0 := hp) (n := its1.length) hh (by omega) (S1.draw hp.objs.size (Nat.ne_of_lt la)) (fun B hB => el ▸ S2.draw (hp.objs.size + 1) (Nat.ne_of_lt (Nat.lt_succ_of_lt lb)) B hB)
    (zip_sep2 (N := hp.objs.size) (fp1 := [a]) (fp2 := [b]) (by simpa using la) (by simpa using lb)) hk (Nat.le_add_right _ _) (Nat.le_add_right _ _) (Nat.le_refl _) (Nat.le_add_right _ _) (fun c hc => ?_) (fun c hc => ?_) hz' tI tO (S1.st _ _ g1 hk) (S2.st _ _ g2 hk) fun S ps h' tk' nS pl k hS hp' => ?_
  · have hc' : c = hp.objs.size ∨ c = a := by simpa using hc
    rcases hc' with rfl | rfl
    · exact Nat.lt_of_lt_of_eq (Nat.lt_add_of_pos_right (by decide)) hsz.symm
    · exact Nat.lt_of_lt_of_le la (hsz ▸ Nat.le_add_right _ _)
  · have hc' : c = hp.objs.size + 1 ∨ c = b := by simpa using hc
    rcases hc' with rfl | rfl
    · exact Nat.lt_of_lt_of_eq (Nat.add_lt_add_left (by decide) _) hsz.symm
    · exact Nat.lt_of_lt_of_le lb (hsz ▸ Nat.le_add_right _ _)
  · obtain ⟨c, hS⟩ := hS
    have pr : ∀ (j : Nat) (p : Addr), ps[j]? = some p → ∃ x y u v, xs[j]? = some x ∧ ys[j]? = some y ∧ RelV x u ∧ RelV y v ∧ IsTupOf2 h' p u v ∧ hp.objs.size ≤ p ∧ p ≠ S := fun j p ep => by
      obtain ⟨m0, m1, u, v, hu, hv, et⟩ := hp' j p ep
      have hj : j < ps.length := (List.getElem?_eq_some_iff.mp ep).1
      have j1 : xs[j]? = some xs[j] := List.getElem?_eq_getElem (by omega)
      have j2 : ys[j]? = some ys[j] := List.getElem?_eq_getElem (by omega)
      obtain ⟨u', hu', ru⟩ := r1.get j1
      obtain ⟨v', hv', rv⟩ := r2.get j2
      rw [hu] at hu'
      rw [hv] at hv'
      cases hu'
      cases hv'
      exact ⟨_, _, u, v, j1, j2, ru, rv, et, m0, m1⟩
    let H2 : Hp := fun b => if b = S then some (.lst (ps.map V.ref)) else match ps.idxOf? b with
      | some j => match xs[j]?, ys[j]? with
        | some x, some y => some (.tup [x, y])
        | _, _ => H b
      | none => H b
    have free : ∀ {c : Addr}, hp.objs.size ≤ c → H c = none := fun {c} hc => I.hok.fresh hc
    have inp : ∀ {c : Addr} {j : Nat}, ps.idxOf? c = some j → ps[j]? = some c := fun {c j} e => by
      obtain ⟨h1, h2, _⟩ := List.idxOf?_eq_some_iff.mp e
      rw [List.getElem?_eq_getElem h1, h2]
    have old : ∀ c, (∃ u, hp.get? c = some u) → H2 c = H c := fun c ⟨u, e⟩ => by
      have lc := Heap.lt_size e
      show (if c = S then _ else _) = H c
      rw [if_neg (Nat.ne_of_lt (Nat.lt_of_lt_of_le lc nS))]
      cases ei : ps.idxOf? c with
      | none => rfl
      | some j =>
        obtain ⟨_, _, _, _, _, _, _, _, _, m0, _⟩ := pr j c (inp ei)
        exact absurd (Nat.lt_of_lt_of_le lc m0) (Nat.lt_irrefl _)
    have ch : ∀ {c : Addr} {j : Nat}, ps[j]? = some c → ∃ x y u v, xs[j]? = some x ∧ ys[j]? = some y ∧ RelV x u ∧ RelV y v ∧ IsTupOf2 h' c u v ∧ hp.objs.size ≤ c ∧ c ≠ S ∧ H2 c = some (.tup [x, y]) := fun {c j} e => by
      obtain ⟨x, y, u, v, hx, hy, rx, ry, et, m0, m1⟩ := pr j c e
      refine ⟨x, y, u, v, hx, hy, rx, ry, et, m0, m1, ?_⟩
      show (if c = S then _ else _) = _
      rw [if_neg m1]
      cases ei : ps.idxOf? c with
      | none => exact absurd (List.mem_of_getElem? e) (by simpa [List.idxOf?_eq_none_iff] using ei)
      | some j' =>
        obtain ⟨x', y', u', v', hx', hy', rx', ry', et', _, _⟩ := pr j' c (inp ei)
        have q' := et.symm.trans et'
        simp only [Option.some.injEq, Obj.mk.injEq, Data.seq.injEq, Array.mk.injEq, List.cons.injEq, and_true, true_and] at q'
        obtain ⟨qu, qv⟩ := q'
        subst qu qv
        have ex := rx.inj rx'
        have ey := ry.inj ry'
        subst ex ey
        simp only [hx', hy']
    have new : ∀ c o, H2 c = some o → H c = none → ObjOk X.prog X.w H2 h' c o := fun c o e n => by
      have e' : (if c = S then some (HO.lst (ps.map V.ref)) else match ps.idxOf? c with
        | some j => match xs[j]?, ys[j]? with
          | some x, some y => some (.tup [x, y])
          | _, _ => H c
        | none => H c) = some o := e
      by_cases hc : c = S
      · rw [if_pos hc] at e'
        cases e'
        subst hc
        refine ⟨by rw [List.length_map]; omega, ps.map Value.ref, _, ?_, hS⟩
        have vr : ∀ l : List Addr, Vals (l.map V.ref) (l.map Value.ref) := fun l => by
          induction l with
          | nil => exact .nil
          | cons p r ih => exact .cons rfl ih
        exact vr ps
      · rw [if_neg hc] at e'
        cases ei : ps.idxOf? c with
        | none =>
          rw [ei] at e'
          rw [n] at e'
          cases e'
        | some j =>
          obtain ⟨x, y, u, v, _, _, rx, ry, et, _, _, et2⟩ := ch (inp ei)
          rw [et2] at e
          cases e
          exact ⟨by show 2 ≤ sizeLine; decide, [u, v], .cons rx (.cons ry .nil), ⟨_, et, rfl, _, rfl⟩⟩
    have J : Inv X pins σ H2 ⟨h', g, d, tk', os⟩ := Inv.grow (s := ⟨hp, g, d, tk, os⟩) I k old new
    refine ⟨.ref S, H2, J, rfl, q S ps H2 ⟨fun c o e => ?_, free nS, ?_, by omega, fun j p x y ep hx hy => ?_, fun j p ep => ?_⟩⟩
    · exact (old c (HOk.at I.hok e)).trans e
    · show (if S = S then _ else _) = _
      rw [if_pos rfl]
    · obtain ⟨x', y', _, _, hx', hy', _, _, _, _, _, e⟩ := ch ep
      rw [hx] at hx'
      rw [hy] at hy'
      cases hx'
      cases hy'
      exact e
    · obtain ⟨_, _, _, _, _, _, _, _, _, m0, _⟩ := pr j p ep
      exact free m0

/-- list(zip(e, e2)), two lists or tuples of one length -/
theorem pe_listZip {e e2 : Expr} {ta : TA} {p p2 pos pos2 : Pos} (hc : X.calm = true) (gL : Gl X "list") (mL : X.mg "list" = none) (gZ : Gl X "zip") (mZ : X.mg "zip" = none) (ha : PA X [e, e2] ta)
    (h1 : starEach [.Call (.Name "zip" p2) [e, e2] [] pos2] X.env = (false, eval (.Call (.Name "zip" p2) [e, e2] [] pos2) X.env) :: starEach [] X.env := by rfl)
    (h2 : starEach [e, e2] X.env = (false, eval e X.env) :: starEach [e2] X.env := by rfl) (hpl : (backTo pos2 (starEach [e2] X.env)).any (·.1) = false := by rfl) :
    PE X (.Call (.Name "list" p) [.Call (.Name "zip" p2) [e, e2] [] pos2] [] pos) (tLZ X.K ta) := by
  refine ⟨fun pins s σ H Q I h => ?_⟩
  refine wpAny_Call_Name_kw (ld_blt I gL mL PyProof.Rows.boot_list ?_ (by decide) (by decide))
  refine PyProof.Rows.callWith_type1 ?_ h1 rfl
  rw [h1]
  show wpAny _ _ (spliced ((false, eval (.Call (.Name "zip" p2) [e, e2] [] pos2) X.env) :: backTo pos (starEach [] X.env))) _ _ s
  refine Calls.spliced_cons ?_
  refine wpAny_Call_Name_kw (ld_blt I gZ mZ PyProof.Rows.boot_zip ?_ (by decide) (by decide))
  refine PyProof.Rows.callWith_type1 (thn (ha.run pos2 pins s σ H _ I h) fun us s1 ⟨vs, H1, I1, r1, a, b, xs, ys, ev, ka, kb, kl, kz, q⟩ => ?_) h2 hpl
  subst ev
  cases r1 with
  | cons ra rr =>
    cases rr with
    | cons rb rr =>
      cases rr
      cases ra
      cases rb
      exact wpAny_mono (run_listZip (I1.ok.hd hc) I1 ka kb kl kz q) (fun z s' hz => Calls.spliced_nil hz) fun _ _ x => x
end
end Mine

set_option maxRecDepth 100000
set_option maxHeartbeats 4000000
/-! Data without a heap, the store of what may change, and what denotes what -/
namespace Pm
open PySem L2

inductive D where
  | non | bl (b : Bool) | int (i : Int) | str (s : Str)
  | lst (ds : List D) | tup (ds : List D) | frl (ds : List D)
  | ins (c : Str) (fs : List (Str × D))
  | own (k : Nat)
  | ty (n : String)
  | cls (c : Str)
  deriving Inhabited

/-- what may change: a list, an instance; a list while it is walked; what is no longer used -/
inductive O where
  | lst (ds : List D) | ins (c : Str) (fs : List (Str × D)) | lck (ds : List D) | dead
  deriving Inhabited
abbrev Mu := List O

/-- the names of classes -/
structure Tb where
  K : PySem.W.Frag
  cls : Str → Option Addr

section
variable (T : Tb) (Z : Hp) (α : List Addr)
mutual
inductive Dn : V → D → Prop
  | non : Dn .non .non
  | bl (b : Bool) : Dn (.bl b) (.bl b)
  | int (i : Int) : Dn (.int i) (.int i)
  | str (x : Str) : Dn (.str x) (.str x)
  | lst {a : Addr} {vs : List V} {ds : List D} : Z a = some (.lst vs) → Dns vs ds → Dn (.ref a) (.lst ds)
  | tup {a : Addr} {vs : List V} {ds : List D} : Z a = some (.tup vs) → Dns vs ds → Dn (.ref a) (.tup ds)
  | frl {a : Addr} {vs : List V} {ds : List D} : SqL T.K Z a vs → Dns vs ds → Dn (.ref a) (.frl ds)
  | ins {a C dx : Addr} {c : Str} {vs : List (Str × V)} {fs : List (Str × D)} : T.cls c = some C → Z a = some (.ins C dx vs) → Dfs vs fs → Dn (.ref a) (.ins c fs)
  | own {a : Addr} {k : Nat} : α[k]? = some a → Dn (.ref a) (.own k)
  | ty (n : String) : Dn (.ty n) (.ty n)
  | cls {c : Str} {C : Addr} : T.cls c = some C → Dn (.ref C) (.cls c)
inductive Dns : List V → List D → Prop
  | nil : Dns [] []
  | cons {v : V} {vs : List V} {d : D} {ds : List D} : Dn v d → Dns vs ds → Dns (v :: vs) (d :: ds)
inductive Dfs : List (Str × V) → List (Str × D) → Prop
  | nil : Dfs [] []
  | cons {f : Str} {v : V} {vs : List (Str × V)} {d : D} {ds : List (Str × D)} : Dn v d → Dfs vs ds → Dfs ((f, v) :: vs) ((f, d) :: ds)
end
end

/-- one frozen heap within another, one list of addresses ahead of another -/
structure Le (Z : Hp) (α : List Addr) (Z' : Hp) (α' : List Addr) : Prop where
  z : ∀ a o, Z a = some o → Z' a = some o
  al : ∃ more, α' = α ++ more
section
variable {T : Tb} {Z Z' Z'' : Hp} {α α' α'' : List Addr}
theorem Le.rfl' : Le Z α Z α := ⟨fun _ _ h => h, [], by simp⟩
theorem Le.trans (h : Le Z α Z' α') (h' : Le Z' α' Z'' α'') : Le Z α Z'' α'' :=
  ⟨fun a o e => h'.z a o (h.z a o e), by
    obtain ⟨m, rfl⟩ := h.al
    obtain ⟨m', rfl⟩ := h'.al
    exact ⟨m ++ m', by simp⟩⟩
theorem Le.get (h : Le Z α Z' α') {k : Nat} {a : Addr} (e : α[k]? = some a) : α'[k]? = some a := by
  obtain ⟨m, rfl⟩ := h.al
  rw [List.getElem?_append_left (List.getElem?_eq_some_iff.mp e).1]
  exact e
theorem sqL_mono {K : PySem.W.Frag} {H H' : Hp} (h : ∀ a o, H a = some o → H' a = some o) {a : Addr} {vs : List V} (q : SqL K H a vs) : SqL K H' a vs := by
  rcases q with (q | ⟨o, q⟩) | q
  · exact .inl (.inl (h _ _ q))
  · exact .inl (.inr ⟨o, h _ _ q⟩)
  · exact .inr q
mutual
theorem Dn.mono (h : Le Z α Z' α') : ∀ {v : V} {d : D}, Dn T Z α v d → Dn T Z' α' v d
  | _, _, .non => .non
  | _, _, .bl b => .bl b
  | _, _, .int i => .int i
  | _, _, .str x => .str x
  | _, _, .lst e r => .lst (h.z _ _ e) (Dns.mono h r)
  | _, _, .tup e r => .tup (h.z _ _ e) (Dns.mono h r)
  | _, _, .frl e r => .frl (sqL_mono h.z e) (Dns.mono h r)
  | _, _, .ins c e r => .ins c (h.z _ _ e) (Dfs.mono h r)
  | _, _, .own e => .own (h.get e)
  | _, _, .ty n => .ty n
  | _, _, .cls e => .cls e
theorem Dns.mono (h : Le Z α Z' α') : ∀ {v : List V} {d : List D}, Dns T Z α v d → Dns T Z' α' v d
  | _, _, .nil => .nil
  | _, _, .cons a r => .cons (Dn.mono h a) (Dns.mono h r)
theorem Dfs.mono (h : Le Z α Z' α') : ∀ {v : List (Str × V)} {d : List (Str × D)}, Dfs T Z α v d → Dfs T Z' α' v d
  | _, _, .nil => .nil
  | _, _, .cons a r => .cons (Dn.mono h a) (Dfs.mono h r)
end
theorem Dns.len : ∀ {vs : List V} {ds : List D}, Dns T Z α vs ds → vs.length = ds.length
  | _, _, .nil => rfl
  | _, _, .cons _ r => by rw [List.length_cons, List.length_cons, Dns.len r]
theorem Dns.get : ∀ {vs : List V} {ds : List D}, Dns T Z α vs ds → ∀ {i : Nat} {d : D}, ds[i]? = some d → ∃ v, vs[i]? = some v ∧ Dn T Z α v d
  | _, _, .nil, _, _, h => by simp at h
  | _, _, .cons a _, 0, _, h => by simp at h; subst h; exact ⟨_, rfl, a⟩
  | _, _, .cons _ r, i + 1, d, h => by
    obtain ⟨v, e, q⟩ := Dns.get r (i := i) (d := d) (by simpa using h)
    exact ⟨v, by simpa using e, q⟩
theorem Dns.get' : ∀ {vs : List V} {ds : List D}, Dns T Z α vs ds → ∀ {i : Nat} {v : V}, vs[i]? = some v → ∃ d, ds[i]? = some d ∧ Dn T Z α v d
  | _, _, .nil, _, _, h => by simp at h
  | _, _, .cons a _, 0, _, h => by simp at h; subst h; exact ⟨_, rfl, a⟩
  | _, _, .cons _ r, i + 1, v, h => by
    obtain ⟨d, e, q⟩ := Dns.get' r (i := i) (v := v) (by simpa using h)
    exact ⟨d, by simpa using e, q⟩
theorem Dns.append : ∀ {vs ws : List V} {ds es : List D}, Dns T Z α vs ds → Dns T Z α ws es → Dns T Z α (vs ++ ws) (ds ++ es)
  | _, _, _, _, .nil, h => h
  | _, _, _, _, .cons a r, h => .cons a (Dns.append r h)
theorem Dns.take : ∀ {vs : List V} {ds : List D} (n : Nat), Dns T Z α vs ds → Dns T Z α (vs.take n) (ds.take n)
  | _, _, 0, _ => by simpa using Dns.nil
  | _, _, _ + 1, .nil => .nil
  | _, _, n + 1, .cons a r => .cons a (Dns.take n r)
theorem Dns.drop : ∀ {vs : List V} {ds : List D} (n : Nat), Dns T Z α vs ds → Dns T Z α (vs.drop n) (ds.drop n)
  | _, _, 0, h => h
  | _, _, _ + 1, .nil => .nil
  | _, _, n + 1, .cons _ r => Dns.drop n r
theorem Dns.set {v : V} {d : D} (h : Dn T Z α v d) : ∀ {vs : List V} {ds : List D} (n : Nat), Dns T Z α vs ds → Dns T Z α (vs.set n v) (ds.set n d)
  | _, _, _, .nil => .nil
  | _, _, 0, .cons _ r => .cons h r
  | _, _, n + 1, .cons a r => .cons a (Dns.set h n r)
theorem Dns.dropLast : ∀ {vs : List V} {ds : List D}, Dns T Z α vs ds → Dns T Z α vs.dropLast ds.dropLast := fun {vs ds} h => by
  rw [List.dropLast_eq_take, List.dropLast_eq_take, h.len]
  exact h.take _
theorem Dns.rep {v : V} {d : D} (h : Dn T Z α v d) : ∀ n : Nat, Dns T Z α (List.replicate n v) (List.replicate n d)
  | 0 => .nil
  | n + 1 => .cons h (Dns.rep h n)
theorem Dns.reps {vs : List V} {ds : List D} (h : Dns T Z α vs ds) : ∀ n : Nat, Dns T Z α (List.replicate n vs).flatten (List.replicate n ds).flatten
  | 0 => .nil
  | n + 1 => by
    rw [List.replicate_succ, List.replicate_succ, List.flatten_cons, List.flatten_cons]
    exact h.append (Dns.reps h n)
theorem Dns.ints : ∀ {vs : List V} {ns : List Int}, Dns T Z α vs (ns.map D.int) → vs = ns.map V.int
  | _, [], .nil => rfl
  | _, n :: ns, .cons a r => by
    cases a
    rw [Dns.ints r, List.map_cons]
theorem Dns.bools : ∀ {vs : List V} {ns : List Bool}, Dns T Z α vs (ns.map D.bl) → vs = ns.map V.bl
  | _, [], .nil => rfl
  | _, n :: ns, .cons a r => by
    cases a
    rw [Dns.bools r, List.map_cons]
theorem Dns.strs : ∀ {vs : List V} {ns : List Str}, Dns T Z α vs (ns.map D.str) → vs = ns.map V.str
  | _, [], .nil => rfl
  | _, n :: ns, .cons a r => by
    cases a
    rw [Dns.strs r, List.map_cons]
theorem Dfs.lookup (f : Str) : ∀ {vs : List (Str × V)} {fs : List (Str × D)}, Dfs T Z α vs fs → (∀ d, fs.lookup f = some d → ∃ v, vs.lookup f = some v ∧ Dn T Z α v d) ∧ (fs.lookup f = none → vs.lookup f = none)
  | _, _, .nil => ⟨fun _ h => by simp at h, fun _ => rfl⟩
  | _, _, .cons (f := g) a r => by
    have ih := Dfs.lookup f r
    simp only [List.lookup_cons]
    cases f == g with
    | true => exact ⟨fun d h => ⟨_, rfl, by cases h; exact a⟩, fun h => by cases h⟩
    | false => exact ih
def putD (f : Str) (v : D) : List (Str × D) → List (Str × D)
  | [] => [(f, v)]
  | (g, x) :: r => if g = f then (g, v) :: r else (g, x) :: putD f v r
theorem Dfs.put {f : Str} {v : V} {d : D} (h : Dn T Z α v d) : ∀ {vs : List (Str × V)} {fs : List (Str × D)}, Dfs T Z α vs fs → Dfs T Z α (putF f v vs) (putD f d fs)
  | _, _, .nil => .cons h .nil
  | _, _, .cons (f := g) a r => by
    unfold putF putD
    split
    · exact .cons h r
    · exact .cons a (Dfs.put h r)
theorem Dfs.len : ∀ {vs : List (Str × V)} {fs : List (Str × D)}, Dfs T Z α vs fs → vs.length = fs.length
  | _, _, .nil => rfl
  | _, _, .cons _ r => by rw [List.length_cons, List.length_cons, Dfs.len r]
end

/-- an object of the store, at its address -/
def OAt (T : Tb) (H Z : Hp) (α : List Addr) (a : Addr) : O → Prop
  | .lst ds => ∃ vs, H a = some (.lst vs) ∧ Dns T Z α vs ds
  | .lck ds => ∃ vs, H a = some (.lst vs) ∧ Dns T Z α vs ds
  | .ins c fs => ∃ C dx vs, T.cls c = some C ∧ H a = some (.ins C dx vs) ∧ Dfs T Z α vs fs
  | .dead => ∃ o, H a = some o

def O.live : O → Bool
  | .dead => false
  | _ => true
structure Rep (T : Tb) (H Z : Hp) (α : List Addr) (m : Mu) : Prop where
  sub : ∀ a o, Z a = some o → H a = some o
  len : α.length = m.length
  nd : ∀ (i j : Nat) (a : Addr), α[i]? = some a → α[j]? = some a → i = j
  out : ∀ (i : Nat) (a : Addr) (o : O), α[i]? = some a → m[i]? = some o → o.live = true → Z a = none
  obj : ∀ (i : Nat) (a : Addr) (o : O), α[i]? = some a → m[i]? = some o → OAt T H Z α a o

/-- from one state to a later one -/
structure Fut (H Z : Hp) (α : List Addr) (H' Z' : Hp) (α' : List Addr) : Prop where
  le : Le Z α Z' α'
  fr : ∀ a o, H a = some o → a ∉ α → H' a = some o
  na : ∀ a, a ∈ α' → a ∈ α ∨ H a = none
  th : ∀ a, H a ≠ none → H' a ≠ none
  nz : ∀ a, Z' a ≠ none → Z a ≠ none ∨ H a = none ∨ a ∈ α
section
variable {T : Tb} {H Z H' Z' H'' Z'' : Hp} {α α' α'' : List Addr} {m : Mu}
theorem Fut.rfl' : Fut H Z α H Z α := ⟨.rfl', fun _ _ h _ => h, fun _ h => .inl h, fun _ h => h, fun _ h => .inl h⟩
theorem Fut.trans (h : Fut H Z α H' Z' α') (h' : Fut H' Z' α' H'' Z'' α'') : Fut H Z α H'' Z'' α'' where
  le := h.le.trans h'.le
  fr := fun a o e n => h'.fr a o (h.fr a o e n) fun z => by
    rcases h.na a z with q | q
    · exact n q
    · rw [e] at q; cases q
  na := fun a z => by
    rcases h'.na a z with q | q
    · exact h.na a q
    · refine .inr ?_
      cases e : H a with
      | none => rfl
      | some o => exact absurd q (h.th a (by rw [e]; exact fun z => by cases z))
  th := fun a z => h'.th a (h.th a z)
  nz := fun a z => by
    have back : H' a = none → H a = none := fun q => by
      cases e : H a with
      | none => rfl
      | some o => exact absurd q (h.th a (by rw [e]; exact fun z => by cases z))
    rcases h'.nz a z with q | q | q
    · exact h.nz a q
    · exact .inr (.inl (back q))
    · rcases h.na a q with r | r
      · exact .inr (.inr r)
      · exact .inr (.inl r)
theorem Rep.back (R : Rep T H Z α m) {a : Addr} (h : H a = none) : Z a = none := by
  cases e : Z a with
  | none => rfl
  | some o => have := R.sub a o e; rw [h] at this; cases this
theorem Rep.hit (R : Rep T H Z α m) {i : Nat} {a : Addr} (h : α[i]? = some a) : ∃ o, H a = some o := by
  have hi : i < α.length := (List.getElem?_eq_some_iff.mp h).1
  have hm : i < m.length := by rw [← R.len]; exact hi
  have := R.obj i a m[i] h (List.getElem?_eq_getElem hm)
  revert this
  cases m[i] with
  | lst ds => rintro ⟨vs, e, _⟩; exact ⟨_, e⟩
  | lck ds => rintro ⟨vs, e, _⟩; exact ⟨_, e⟩
  | ins c fs => rintro ⟨C, dx, vs, _, e, _⟩; exact ⟨_, e⟩
  | dead => exact fun h => h
theorem Rep.notIn (R : Rep T H Z α m) {a : Addr} (h : H a = none) : a ∉ α := fun z => by
  obtain ⟨i, hi⟩ := List.mem_iff_getElem?.mp z
  obtain ⟨o, e⟩ := R.hit hi
  rw [h] at e; cases e
theorem OAt.mono {a : Addr} {o : O} (h : OAt T H Z α a o) (le : Le Z α Z' α') (e : ∀ u, H a = some u → H' a = some u) : OAt T H' Z' α' a o := by
  cases o with
  | lst ds => obtain ⟨vs, q, r⟩ := h; exact ⟨vs, e _ q, r.mono le⟩
  | lck ds => obtain ⟨vs, q, r⟩ := h; exact ⟨vs, e _ q, r.mono le⟩
  | ins c fs => obtain ⟨C, dx, vs, z, q, r⟩ := h; exact ⟨C, dx, vs, z, e _ q, r.mono le⟩
  | dead => obtain ⟨o, q⟩ := h; exact ⟨o, e _ q⟩
/-- the heap has grown outside -/
theorem Rep.grow (R : Rep T H Z α m) (e : ∀ a o, H a = some o → H' a = some o) : Rep T H' Z α m :=
  ⟨fun a o z => e a o (R.sub a o z), R.len, R.nd, R.out, fun i a o h1 h2 => (R.obj i a o h1 h2).mono .rfl' (e a)⟩
theorem Fut.grow (e : ∀ a o, H a = some o → H' a = some o) : Fut H Z α H' Z α :=
  ⟨.rfl', fun a o q _ => e a o q, fun _ q => .inl q, fun a q z => q (by
    cases h : H a with
    | none => rfl
    | some o => rw [e a o h] at z; cases z), fun _ q => .inl q⟩
/-- a new thing that is frozen at once -/
theorem Rep.new {p : Addr} {o : HO} (R : Rep T H Z α m) (hp : H p = none) : Rep T (upd H p o) (upd Z p o) α m := by
  have hz := R.back hp
  have le : Le Z α (upd Z p o) α := ⟨fun a u e => by rw [upd_ne (ne_of_none e hz)]; exact e, [], by simp⟩
  refine ⟨fun a u e => ?_, R.len, R.nd, fun i a v e ev lv => ?_, fun i a u h1 h2 => (R.obj i a u h1 h2).mono le fun v e => by rw [upd_ne (ne_of_none e hp)]; exact e⟩
  · by_cases h : a = p
    · subst h; rw [upd_same] at e ⊢; exact e
    · rw [upd_ne h] at e ⊢; exact R.sub a u e
  · obtain ⟨u, hu⟩ := R.hit e
    rw [upd_ne (ne_of_none hu hp)]
    exact R.out i a v e ev lv
theorem Fut.new {p : Addr} {o : HO} (R : Rep T H Z α m) (hp : H p = none) : Fut H Z α (upd H p o) (upd Z p o) α := by
  have hz := R.back hp
  refine ⟨⟨fun a u e => by rw [upd_ne (ne_of_none e hz)]; exact e, [], by simp⟩, fun a u e _ => by rw [upd_ne (ne_of_none e hp)]; exact e, fun _ q => .inl q, fun a q z => q ?_, fun a q => ?_⟩
  · by_cases h : a = p
    · subst h; exact hp
    · rw [upd_ne h] at z; exact z
  · by_cases h : a = p
    · subst h; exact .inr (.inl hp)
    · rw [upd_ne h] at q; exact .inl q
/-- a new thing of the store -/
theorem Rep.push {p : Addr} {u : HO} {o : O} (R : Rep T H Z α m) (hp : H p = none) (ho : OAt T (upd H p u) Z (α ++ [p]) p o) : Rep T (upd H p u) Z (α ++ [p]) (m ++ [o]) := by
  have ni := R.notIn hp
  have le : Le Z α Z (α ++ [p]) := ⟨fun _ _ e => e, [p], rfl⟩
  have cases2 : ∀ {i : Nat} {a : Addr}, (α ++ [p])[i]? = some a → α[i]? = some a ∨ (i = α.length ∧ a = p) := fun {i a} e => by
    by_cases h : i < α.length
    · rw [List.getElem?_append_left h] at e; exact .inl e
    · rw [List.getElem?_append_right (by omega)] at e
      have : i - α.length = 0 := by
        by_cases z : i - α.length = 0
        · exact z
        · rw [List.getElem?_eq_none (by simp; omega)] at e; cases e
      rw [this] at e
      simp at e
      exact .inr ⟨by omega, e.symm⟩
  refine ⟨fun a v e => ?_, by simp [R.len], fun i j a e1 e2 => ?_, fun i a v e ev lv => ?_, fun i a v e1 e2 => ?_⟩
  · have := R.sub a v e
    rw [upd_ne (ne_of_none this hp)]; exact this
  · rcases cases2 e1 with q | ⟨q1, q2⟩
    · rcases cases2 e2 with r | ⟨r1, r2⟩
      · exact R.nd i j a q r
      · subst r2; exact absurd (List.mem_of_getElem? q) ni
    · rcases cases2 e2 with r | ⟨r1, r2⟩
      · subst q2; exact absurd (List.mem_of_getElem? r) ni
      · omega
  · rcases cases2 e with q | ⟨q1, q2⟩
    · have hi : i < m.length := by rw [← R.len]; exact (List.getElem?_eq_some_iff.mp q).1
      rw [List.getElem?_append_left hi] at ev
      exact R.out i a v q ev lv
    · subst q2; exact R.back hp
  · rcases cases2 e1 with q | ⟨q1, q2⟩
    · have hi : i < m.length := by rw [← R.len]; exact (List.getElem?_eq_some_iff.mp q).1
      rw [List.getElem?_append_left hi] at e2
      refine (R.obj i a v q e2).mono le fun w e => ?_
      rw [upd_ne (ne_of_none e hp)]; exact e
    · subst q1 q2
      rw [R.len, List.getElem?_append_right (Nat.le_refl _), Nat.sub_self] at e2
      simp at e2
      subst e2
      exact ho
theorem Fut.push {p : Addr} {u : HO} (hp : H p = none) : Fut H Z α (upd H p u) Z (α ++ [p]) := by
  refine ⟨⟨fun _ _ e => e, [p], rfl⟩, fun a v e _ => by rw [upd_ne (ne_of_none e hp)]; exact e, fun a q => ?_, fun a q z => q ?_, fun _ q => .inl q⟩
  · rcases List.mem_append.mp q with r | r
    · exact .inl r
    · simp at r; subst r; exact .inr hp
  · by_cases h : a = p
    · subst h; exact hp
    · rw [upd_ne h] at z; exact z
/-- a thing of the store is written -/
theorem Rep.put {k : Nat} {p : Addr} {u : HO} {o w : O} (R : Rep T H Z α m) (hk : α[k]? = some p) (hw : m[k]? = some w) (lw : w.live = true) (ho : OAt T (upd H p u) Z α p o) : Rep T (upd H p u) Z α (m.set k o) := by
  have zp : Z p = none := R.out k p w hk hw lw
  have hkm : k < m.length := (List.getElem?_eq_some_iff.mp hw).1
  refine ⟨fun a v e => ?_, by simp [R.len], R.nd, fun i a v e1 e2 lv => ?_, fun i a v e1 e2 => ?_⟩
  · have h : a ≠ p := fun z => by subst z; rw [zp] at e; cases e
    rw [upd_ne h]; exact R.sub a v e
  · by_cases h : i = k
    · subst h
      rw [hk] at e1; cases e1
      exact zp
    · rw [List.getElem?_set_ne (Ne.symm h)] at e2
      exact R.out i a v e1 e2 lv
  · by_cases h : i = k
    · subst h
      rw [hk] at e1; cases e1
      rw [List.getElem?_set_self hkm] at e2
      cases e2
      exact ho
    · rw [List.getElem?_set_ne (Ne.symm h)] at e2
      have hne : a ≠ p := fun z => by subst z; exact h (R.nd i k a e1 hk)
      exact (R.obj i a v e1 e2).mono .rfl' fun w e => by rw [upd_ne hne]; exact e
theorem Fut.put {k : Nat} {p : Addr} {u : HO} (R : Rep T H Z α m) (hk : α[k]? = some p) : Fut H Z α (upd H p u) Z α := by
  refine ⟨.rfl', fun a v e n => ?_, fun _ q => .inl q, fun a q z => ?_, fun _ q => .inl q⟩
  · have h : a ≠ p := fun z => by subst z; exact n (List.mem_of_getElem? hk)
    rw [upd_ne h]; exact e
  · by_cases h : a = p
    · subst h; rw [upd_same] at z; cases z
    · rw [upd_ne h] at z; exact q z
/-- a thing of the store is known to change no more: it is frozen -/
theorem Rep.freeze {k : Nat} {p : Addr} {u : HO} {w : O} (R : Rep T H Z α m) (hk : α[k]? = some p) (hw : m[k]? = some w) (lw : w.live = true) (hu : H p = some u) : Rep T H (upd Z p u) α (m.set k .dead) := by
  have zp : Z p = none := R.out k p w hk hw lw
  have hkm : k < m.length := (List.getElem?_eq_some_iff.mp hw).1
  have le : Le Z α (upd Z p u) α := ⟨fun a v e => by rw [upd_ne (ne_of_none e zp)]; exact e, [], by simp⟩
  refine ⟨fun a v e => ?_, by simp [R.len], R.nd, fun i a v e1 e2 lv => ?_, fun i a v e1 e2 => ?_⟩
  · by_cases h : a = p
    · subst h; rw [upd_same] at e; cases e; exact hu
    · rw [upd_ne h] at e; exact R.sub a v e
  · by_cases h : i = k
    · subst h
      rw [List.getElem?_set_self hkm] at e2
      cases e2
      cases lv
    · rw [List.getElem?_set_ne (Ne.symm h)] at e2
      have hne : a ≠ p := fun z => by subst z; exact h (R.nd i k a e1 hk)
      rw [upd_ne hne]
      exact R.out i a v e1 e2 lv
  · by_cases h : i = k
    · subst h
      rw [hk] at e1; cases e1
      rw [List.getElem?_set_self hkm] at e2
      cases e2
      exact ⟨u, hu⟩
    · rw [List.getElem?_set_ne (Ne.symm h)] at e2
      exact (R.obj i a v e1 e2).mono le fun w e => e
theorem Fut.freeze {k : Nat} {p : Addr} {u : HO} {w : O} (R : Rep T H Z α m) (hk : α[k]? = some p) (hw : m[k]? = some w) (lw : w.live = true) : Fut H Z α H (upd Z p u) α := by
  have zp : Z p = none := R.out k p w hk hw lw
  exact ⟨⟨fun a v e => by rw [upd_ne (ne_of_none e zp)]; exact e, [], by simp⟩, fun _ _ e _ => e, fun _ q => .inl q, fun _ q => q, fun a q => by
    by_cases h : a = p
    · subst h; exact .inr (.inr (List.mem_of_getElem? hk))
    · rw [upd_ne h] at q; exact .inl q⟩
end
end Pm

set_option maxRecDepth 100000
set_option maxHeartbeats 4000000
/-! Programs without names, and what they do to data -/
namespace Pm
open PySem L2

/-- built-in functions and classes that are called -/
inductive Bn where
  | len | min | max | int | tuple | list | listO | isi | any | all
  deriving DecidableEq, Inhabited
/-- methods of lists -/
inductive Mt where
  | append | pop | extend
  deriving DecidableEq, Inhabited

mutual
inductive E where
  | var (i : Nat)
  | con (d : D)
  | tup (es : List E) | lst (es : List E) | lsto (es : List E)
  | bin (op : Operator) (a b : E)
  | neg (a : E)
  | cmp (op : CmpOp) (a b : E)
  | chn (o1 o2 : CmpOp) (a b c : E)
  | and (a b : E) | or (a b : E) | not (a : E) | tru (a : E)
  | ife (t a b : E)
  | fn (f : Str) (es : List E) | blt (b : Bn) (es : List E) | mk (c : Str) (es : List E)
  | att (a : E) (f : Str) | met (a : E) (f : Str) (es : List E) | bm (a : E) (f : Mt) (es : List E)
  | idx (a b : E) | slc (a : E) (lo hi : Option E)
  | lc (o : Bool) (g : Gt) (it : It) (c : Option E) (elt : E) (ws : List Nat)
  | lzp (a b : E) | cal (a : E) (es : List E) | rpr (a : E) | fmt (a : E) | jst (es : List E)
inductive Gt where
  | nm (i : Nat) | tup (gs : List Gt) | sub (o i : E) | fld (o : E) (f : Str)
inductive It where
  | val (e : E) | rng (es : List E) | zip (a b : E) | enu (a : E)
end
inductive C where
  | asg (g : Gt) (e : E) | aug (i : Nat) (op : Operator) (e : E) | expr (e : E)
  | ife (t : E) (a b : List C) | whl (t : E) (b : List C) | for (g : Gt) (it : It) (b : List C)
  | ret (e : E) | retN | brk | cnt | pas
  | frz (is : List Nat) (c : C)

/-- an exception: an own class with its fields, a built-in one -/
inductive Xn where
  | own (c : Str) (fs : List (Str × D)) | bi (n : String)
inductive Rs (β : Type) where
  | ok (b : β) (m : Mu) | ex (x : Xn) (m : Mu) | no
def Rs.bind {β γ : Type} (r : Rs β) (k : β → Mu → Rs γ) : Rs γ :=
  match r with
  | .ok b m => k b m
  | .ex x m => .ex x m
  | .no => .no
abbrev Fn := List D → Mu → Rs D

/-- what the names mean -/
structure Gm where
  T : Tb
  fn : Str → Option Fn
  cs : Str → Option Fn
  me : Str → Str → Option Fn
  pr : Str → Str → Option Fn
  op : Str → Operator → Option Fn
  cm : Str → CmpOp → Option Fn
  fl : Str → Str → Bool
  isi : Value → Value → Option Bool
  ca : Str → Option Fn
  rp : Str → Option Fn

/-! ### operations on data -/
def look (m : Mu) : D → Option (List D)
  | .lst ds => some ds
  | .frl ds => some ds
  | .own k => match m[k]? with
    | some (.lst ds) => some ds
    | _ => none
  | _ => none
/-- a list that is tracked -/
def lookT (m : Mu) : D → Option (List D)
  | .lst ds => some ds
  | .own k => match m[k]? with
    | some (.lst ds) => some ds
    | _ => none
  | _ => none
/-- a list or a tuple -/
def lookS (m : Mu) : D → Option (List D)
  | .tup ds => some ds
  | d => look m d
mutual
def D.py : D → Option PyData
  | .non => some .none
  | .bl b => some (.bool b)
  | .int i => some (.int i)
  | .str s => some (.str s)
  | .lst ds => (D.pys ds).map .list
  | .frl ds => (D.pys ds).map .list
  | .tup ds => (D.pys ds).map .tuple
  | _ => none
def D.pys : List D → Option (List PyData)
  | [] => some []
  | d :: ds => match D.py d, D.pys ds with
    | some x, some xs => some (x :: xs)
    | _, _ => none
end
def D.isNon : D → Bool
  | .non => true
  | _ => false
def eqD (m : Mu) (a b : D) : Option Bool :=
  match a.py, b.py with
  | some x, some y => if SeqAt.shaped x && SeqAt.shaped y then some (PyData.eqv x y) else none
  | _, _ => match lookT m a, b with
    | some xs, .lst [] => some xs.isEmpty
    | _, _ => none
def D.flat : D → Bool
  | .non => true | .bl _ => true | .int _ => true | .str _ => true
  | _ => false
def D.eqF : D → D → Bool
  | .non, .non => true
  | .bl a, .bl b => a == b
  | .bl a, .int b => (if a then 1 else 0) == b
  | .int a, .bl b => a == (if b then 1 else 0)
  | .int a, .int b => a == b
  | .str a, .str b => a == b
  | _, _ => false
def inF (x : D) (ys : List D) : Bool := ys.any fun y => D.eqF y x
def smallI (i : Int) : Bool := decide (-(2 ^ 64) < i) && decide (i < 2 ^ 64)
def binI (op : Operator) (i j : Int) : Option Int :=
  match op with
  | .Add => some (i + j)
  | .Sub => some (i - j)
  | .Mult => if smallI i || smallI j then some (i * j) else none
  | .Mod => if 0 < j then some (i % j) else none
  | .FloorDiv => if 0 < j ∧ j < 1073741824 then some (i / j) else none
  | .Pow => if 0 ≤ j ∧ j ≤ 1000000 ∧ i.natAbs < 2 ^ 64 then some (i ^ j.toNat) else none
  | _ => none
def binT (op : Operator) (xs ys : List D) : Option D :=
  match op with
  | .Add => if xs.length + ys.length ≤ sizeLine then some (.tup (xs ++ ys)) else none
  | _ => none
def binS (op : Operator) (x y : Str) : Option D :=
  match op with
  | .Add => if x.length + y.length ≤ sizeLine then some (.str (x ++ y)) else none
  | _ => none
def binL (op : Operator) (xs : List D) (m : Mu) (b : D) : Option D :=
  match op with
  | .Add => match lookT m b with
    | some ys => if xs.length + ys.length ≤ sizeLine then some (.lst (xs ++ ys)) else none
    | none => none
  | .Mult => match b with
    | .int k => if -(2 ^ 63) ≤ k ∧ k < 2 ^ 63 ∧ xs.length * k.toNat ≤ sizeLine then some (.lst (List.replicate k.toNat xs).flatten) else none
    | _ => none
  | _ => none
def binD (op : Operator) (a b : D) (m : Mu) : Option D :=
  match a, b with
  | .int i, .int j => (binI op i j).map .int
  | .tup xs, .tup ys => binT op xs ys
  | .str x, .str y => binS op x y
  | .lst xs, y => binL op xs m y
  | .own k, y => match m[k]? with
    | some (.lst xs) => binL op xs m y
    | _ => none
  | _, _ => none
def cmpD (op : CmpOp) (a b : D) (m : Mu) : Option Bool :=
  match op with
  | .Eq => eqD m a b
  | .NotEq => (eqD m a b).map (!·)
  | .Is => match b with
    | .non => some a.isNon
    | _ => none
  | .IsNot => match b with
    | .non => some (!a.isNon)
    | _ => none
  | .Lt => match a, b with
    | .int i, .int j => some (decide (i < j))
    | _, _ => none
  | .LtE => match a, b with
    | .int i, .int j => some (decide (i ≤ j))
    | _, _ => none
  | .Gt => match a, b with
    | .int i, .int j => some (decide (j < i))
    | _, _ => none
  | .GtE => match a, b with
    | .int i, .int j => some (decide (j ≤ i))
    | _, _ => none
  | .In => match lookS m b with
    | some ys => if a.flat && ys.all D.flat then some (inF a ys) else none
    | none => none
  | .NotIn => match lookS m b with
    | some ys => if a.flat && ys.all D.flat then some (!inF a ys) else none
    | none => none
def truD (m : Mu) : D → Option Bool
  | .non => some false
  | .bl b => some b
  | .int i => some (i != 0)
  | .str y => if y.length ≤ sizeLine then some ((y.length : Int) != 0) else none
  | .tup ds => some (!ds.isEmpty)
  | d => match look m d with
    | some ds => some (!ds.isEmpty)
    | none => none
def intsOf : List D → Option (List Int)
  | [] => some []
  | .int i :: r => (intsOf r).map (i :: ·)
  | _ => none
def blsOf : List D → Option (List Bool)
  | [] => some []
  | .bl i :: r => (blsOf r).map (i :: ·)
  | _ => none
def minL : List Int → Option Int
  | [] => none
  | i :: r => match minL r with
    | none => some i
    | some j => some (if j < i then j else i)
def maxL : List Int → Option Int
  | [] => none
  | i :: r => match maxL r with
    | none => some i
    | some j => some (if i < j then j else i)
/-- a value's class -/
def D.typ (T : Tb) (m : Mu) : D → Option Value
  | .non => some (.type "NoneType")
  | .bl _ => some (.type "bool")
  | .int _ => some (.type "int")
  | .str _ => some (.type "str")
  | .lst _ => some (.type "list")
  | .tup _ => some (.type "tuple")
  | .ins c _ => (T.cls c).map .ref
  | .own k => match m[k]? with
    | some (.lst _) => some (.type "list")
    | some (.ins c _) => (T.cls c).map .ref
    | _ => none
  | _ => none
def D.asCls (T : Tb) : D → Option Value
  | .ty n => some (.type n)
  | .cls c => (T.cls c).map .ref
  | _ => none
def kitD (G : Gm) (t : Value) (c : D) : Option Bool :=
  match t, c with
  | .type a, .ty b => kitB a b
  | t, c => match c.asCls G.T with
    | some u => G.isi t u
    | none => none
def kitsD (G : Gm) (t : Value) : List D → Option Bool
  | [] => some false
  | c :: cs => match kitD G t c with
    | some true => some true
    | some false => kitsD G t cs
    | none => none
def isiD (G : Gm) (m : Mu) (x c : D) : Option Bool :=
  match x.typ G.T m with
  | none => none
  | some t => match c with
    | .tup cs => if cs.all fun c => (c.asCls G.T).isSome then kitsD G t cs else none
    | c => kitD G t c
def bltD (G : Gm) (b : Bn) (ds : List D) (m : Mu) : Rs D :=
  match b, ds with
  | .len, [.str y] => if y.length ≤ sizeLine then .ok (.int y.length) m else .no
  | .len, [x] => match lookS m x with
    | some xs => .ok (.int xs.length) m
    | none => .no
  | .min, [.int i, .int j] => .ok (.int (if j < i then j else i)) m
  | .max, [.int i, .int j] => .ok (.int (if j > i then j else i)) m
  | .min, [x] => match (look m x).bind intsOf with
    | some ns => match minL ns with
      | some i => .ok (.int i) m
      | none => .no
    | none => .no
  | .max, [x] => match (look m x).bind intsOf with
    | some ns => match maxL ns with
      | some i => .ok (.int i) m
      | none => .no
    | none => .no
  | .int, [.int i] => .ok (.int i) m
  | .int, [.bl b] => .ok (.int (if b then 1 else 0)) m
  | .tuple, [.tup ds] => .ok (.tup ds) m
  | .tuple, [x] => match look m x with
    | some xs => .ok (.tup xs) m
    | none => .no
  | .list, [x] => match lookS m x with
    | some xs => .ok (.lst xs) m
    | none => .no
  | .listO, [x] => match lookS m x with
    | some xs => .ok (.own m.length) (m ++ [.lst xs])
    | none => .no
  | .isi, [x, c] => match isiD G m x c with
    | some b => .ok (.bl b) m
    | none => .no
  | .any, [x] => match (look m x).bind blsOf with
    | some bs => .ok (.bl (bs.any id)) m
    | none => .no
  | .all, [x] => match (look m x).bind blsOf with
    | some bs => .ok (.bl (bs.all id)) m
    | none => .no
  | _, _ => .no
def mtD (f : Mt) (x : D) (ds : List D) (m : Mu) : Rs D :=
  match x with
  | .own k => match m[k]? with
    | some (.lst xs) => match f, ds with
      | .append, [y] => if xs.length < sizeLine then .ok .non (m.set k (.lst (xs ++ [y]))) else .no
      | .extend, [y] => match lookT m y with
        | some ys => if xs.length + ys.length ≤ sizeLine then .ok .non (m.set k (.lst (xs ++ ys))) else .no
        | none => .no
      | .pop, [] => match xs[xs.length - 1]? with
        | some y => .ok y (m.set k (.lst xs.dropLast))
        | none => .no
      | _, _ => .no
    | _ => .no
  | _ => .no
def idxD (m : Mu) (a b : D) : Option D :=
  match b with
  | .int i => match lookS m a with
    | some xs => atI xs i
    | none => none
  | _ => none
def cutD (xs : List D) (lo hi : Option Int) : List D := (xs.drop (HT.sIx xs.length 0 lo)).take (HT.sIx xs.length xs.length hi - HT.sIx xs.length 0 lo)
def slcD (m : Mu) (a : D) (lo hi : Option Int) : Option D :=
  match a with
  | .tup xs => some (.tup (cutD xs lo hi))
  | a => (look m a).map fun xs => .lst (cutD xs lo hi)
/-- no exception leaves it -/
def Rs.noX {β : Type} : Rs β → Rs β
  | .ex _ _ => .no
  | r => r
/-- the class of an instance and its fields -/
def insOf (m : Mu) : D → Option (Str × List (Str × D))
  | .ins c fs => some (c, fs)
  | .own k => match m[k]? with
    | some (.ins c fs) => some (c, fs)
    | _ => none
  | _ => none
def attD (G : Gm) (m : Mu) (a : D) (f : Str) : Rs D :=
  match insOf m a with
  | some (c, fs) => if G.fl c f then match fs.lookup f with
      | some d => .ok d m
      | none => .no
    else match G.pr c f with
      | some g => (g [a] m).noX
      | none => .no
  | none => .no
def metF (G : Gm) (m : Mu) (a : D) (f : Str) : Option Fn :=
  match insOf m a with
  | some (c, fs) => match fs.lookup f with
    | none => G.me c f
    | some _ => none
  | none => none
/-- data as a text -/
def shownD (d : D) : Option Str := match d.py with
  | some x => if x.showable && !x.hasDict && decide (x.depth < 100) && decide (x.shown.length ≤ sizeLine) then some x.shown else none
  | none => none
def fmtD (d : D) : Option Str := match d with
  | .str y => if y.length ≤ sizeLine then some y else none
  | d => shownD d
def strR (r : Rs D) : Rs D := r.bind fun d m => match d with
  | .str y => if y.length ≤ sizeLine then .ok (.str y) m else .no
  | _ => .no
def rprD (G : Gm) (d : D) (m : Mu) : Rs D := match shownD d with
  | some y => .ok (.str y) m
  | none => match insOf m d with
    | some (c, _) => match G.rp c with
      | some g => strR (g [d] m).noX
      | none => .no
    | none => .no
def opD (G : Gm) (op : Operator) (a b : D) (m : Mu) : Rs D :=
  match binD op a b m with
  | some d => .ok d m
  | none => match insOf m a with
    | some (c, _) => match G.op c op with
      | some g => (g [a, b] m).noX
      | none => .no
    | none => .no
def cmD (G : Gm) (op : CmpOp) (a b : D) (m : Mu) : Rs D :=
  match cmpD op a b m with
  | some d => .ok (.bl d) m
  | none => match insOf m a with
    | some (c, _) => match G.cm c op with
      | some g => (g [a, b] m).noX
      | none => .no
    | none => .no

abbrev Env := List (Option D)
def wipeD (ρ : Env) : List Nat → Env
  | [] => ρ
  | v :: vs => (wipeD ρ vs).set v none
/-- the items of a range -/
def rngD : List D → Option (List D)
  | [.int n] => if n < 2 ^ 62 ∧ -(2 ^ 62) ≤ n then some ((List.range n.toNat).map fun (i : Nat) => D.int (0 + (i : Int))) else none
  | [.int a, .int b] => if -(2 ^ 62) ≤ a ∧ a < 2 ^ 62 ∧ -(2 ^ 62) ≤ b ∧ b < 2 ^ 62 then some ((List.range (b - a).toNat).map fun (i : Nat) => D.int (a + (i : Int))) else none
  | _ => none
def zipD (m : Mu) (a b : D) : Option (List D) :=
  match a, b with
  | .tup xs, .tup ys => some (List.zipWith (fun x y => .tup [x, y]) xs ys)
  | a, b => match look m a, look m b with
    | some xs, some ys => some (List.zipWith (fun x y => .tup [x, y]) xs ys)
    | _, _ => none
def enuD (m : Mu) (a : D) : Option (List D) :=
  match look m a with
  | some xs => some ((List.range xs.length).zipWith (fun i x => .tup [.int (i : Nat), x]) xs)
  | none => none

inductive Fl where
  | nx (ρ : Env) | bk (ρ : Env) | ct (ρ : Env) | rt (d : D)
/-- a comprehension's turns -/
def lcL (f : D → Mu → Rs (Option D)) : List D → List D → Mu → Rs (List D)
  | [], acc, m => .ok acc m
  | d :: ds, acc, m => (f d m).bind fun o m => match o with
    | some x => if acc.length < sizeLine then lcL f ds (acc ++ [x]) m else .no
    | none => lcL f ds acc m
/-- a loop's turns -/
def forL (f : D → Env → Mu → Rs Fl) : List D → Env → Mu → Rs Fl
  | [], ρ, m => .ok (.nx ρ) m
  | d :: ds, ρ, m => (f d ρ m).bind fun fl m => match fl with
    | .nx ρ => forL f ds ρ m
    | .ct ρ => forL f ds ρ m
    | .bk ρ => .ok (.nx ρ) m
    | .rt d => .ok (.rt d) m
def whlL (t : Env → Mu → Rs D) (f : Env → Mu → Rs Fl) : Nat → Env → Mu → Rs Fl
  | 0, _, _ => .no
  | n + 1, ρ, m => (t ρ m).bind fun d m => match d with
    | .bl true => (f ρ m).bind fun fl m => match fl with
      | .nx ρ => whlL t f n ρ m
      | .ct ρ => whlL t f n ρ m
      | .bk ρ => .ok (.nx ρ) m
      | .rt d => .ok (.rt d) m
    | .bl false => .ok (.nx ρ) m
    | _ => .no
def liftO (m : Mu) : Option D → Rs D
  | some d => .ok d m
  | none => .no
def liftB (m : Mu) : Option Bool → Rs D
  | some b => .ok (.bl b) m
  | none => .no

mutual
def evE (G : Gm) : E → Env → Mu → Rs D
  | .var i, ρ, m => match ρ[i]? with
    | some (some d) => .ok d m
    | _ => .no
  | .con d, _, m => .ok d m
  | .tup es, ρ, m => (evEs G es ρ m).bind fun ds m => if ds.length ≤ sizeLine then .ok (.tup ds) m else .no
  | .lst es, ρ, m => (evEs G es ρ m).bind fun ds m => if ds.length ≤ sizeLine then .ok (.lst ds) m else .no
  | .lsto es, ρ, m => (evEs G es ρ m).bind fun ds m => if ds.length ≤ sizeLine then .ok (.own m.length) (m ++ [.lst ds]) else .no
  | .bin op a b, ρ, m => (evE G a ρ m).bind fun x m => (evE G b ρ m).bind fun y m => opD G op x y m
  | .neg a, ρ, m => (evE G a ρ m).bind fun x m => match x with
    | .int i => .ok (.int (-i)) m
    | _ => .no
  | .cmp op a b, ρ, m => (evE G a ρ m).bind fun x m => (evE G b ρ m).bind fun y m => cmD G op x y m
  | .chn o1 o2 a b c, ρ, m => (evE G a ρ m).bind fun x m => (evE G b ρ m).bind fun y m => match cmpD o1 x y m with
    | some true => (evE G c ρ m).bind fun z m => liftB m (cmpD o2 y z m)
    | some false => .ok (.bl false) m
    | none => .no
  | .and a b, ρ, m => (evE G a ρ m).bind fun x m => match x with
    | .bl true => evE G b ρ m
    | .bl false => .ok (.bl false) m
    | _ => .no
  | .or a b, ρ, m => (evE G a ρ m).bind fun x m => match x with
    | .bl true => .ok (.bl true) m
    | .bl false => evE G b ρ m
    | _ => .no
  | .not a, ρ, m => (evE G a ρ m).bind fun x m => match x with
    | .bl b => .ok (.bl (!b)) m
    | _ => .no
  | .tru a, ρ, m => (evE G a ρ m).bind fun x m => liftB m (truD m x)
  | .ife t a b, ρ, m => (evE G t ρ m).bind fun x m => match x with
    | .bl true => evE G a ρ m
    | .bl false => evE G b ρ m
    | _ => .no
  | .fn f es, ρ, m => match G.fn f with
    | some g => (evEs G es ρ m).bind fun ds m => g ds m
    | none => .no
  | .blt b es, ρ, m => (evEs G es ρ m).bind fun ds m => bltD G b ds m
  | .mk c es, ρ, m => match G.cs c with
    | some g => (evEs G es ρ m).bind fun ds m => g ds m
    | none => .no
  | .att a f, ρ, m => (evE G a ρ m).bind fun x m => attD G m x f
  | .met a f es, ρ, m => (evE G a ρ m).bind fun x m => match metF G m x f with
    | some g => (evEs G es ρ m).bind fun ds m => g (x :: ds) m
    | none => .no
  | .bm a f es, ρ, m => (evE G a ρ m).bind fun x m => match lookT m x with
    | some _ => (evEs G es ρ m).bind fun ds m => mtD f x ds m
    | none => .no
  | .idx a b, ρ, m => (evE G a ρ m).bind fun x m => (evE G b ρ m).bind fun y m => liftO m (idxD m x y)
  | .slc a lo hi, ρ, m => (evE G a ρ m).bind fun x m => (evO G lo ρ m).bind fun l m => (evO G hi ρ m).bind fun h m => liftO m (slcD m x l h)
  | .lc o g it c elt ws, ρ, m => (evI G it ρ m).bind fun ds m => (lcL (fun d m => (evG G g d (wipeD ρ ws) m).bind fun ρ2 m => (evT G c ρ2 m).bind fun b m =>
      if b then (evE G elt ρ2 m).bind fun x m => .ok (some x) m else .ok none m) ds [] m).noX.bind fun xs m => if o then .ok (.own m.length) (m ++ [.lst xs]) else .ok (.lst xs) m
  | .lzp a b, ρ, m => (evE G a ρ m).bind fun x m => (evE G b ρ m).bind fun y m => match lookS m x, lookS m y with
    | some xs, some ys => if xs.length = ys.length ∧ xs.length < sizeLine then .ok (.lst (List.zipWith (fun x y => .tup [x, y]) xs ys)) m else .no
    | _, _ => .no
  | .cal a es, ρ, m => (evE G a ρ m).bind fun x m => match insOf m x with
    | some _ => (evEs G es ρ m).bind fun ds m => match insOf m x with
      | some (c, _) => match G.ca c with
        | some g => g (x :: ds) m
        | none => .no
      | none => .no
    | none => .no
  | .rpr a, ρ, m => (evE G a ρ m).bind fun x m => rprD G x m
  | .fmt a, ρ, m => (evE G a ρ m).bind fun x m => match fmtD x with
    | some y => .ok (.str y) m
    | none => .no
  | .jst es, ρ, m => evJ G es Str.empty ρ m
def evJ (G : Gm) : List E → Str → Env → Mu → Rs D
  | [], acc, _, m => .ok (.str acc) m
  | e :: es, acc, ρ, m => (evE G e ρ m).bind fun d m => match d with
    | .str y => if (acc ++ y).length ≤ sizeLine then evJ G es (acc ++ y) ρ m else .no
    | _ => .no
def evEs (G : Gm) : List E → Env → Mu → Rs (List D)
  | [], _, m => .ok [] m
  | e :: es, ρ, m => (evE G e ρ m).bind fun d m => (evEs G es ρ m).bind fun ds m => .ok (d :: ds) m
def evO (G : Gm) : Option E → Env → Mu → Rs (Option Int)
  | none, _, m => .ok none m
  | some e, ρ, m => (evE G e ρ m).bind fun d m => match d with
    | .int i => .ok (some i) m
    | _ => .no
/-- a comprehension's test -/
def evT (G : Gm) : Option E → Env → Mu → Rs Bool
  | none, _, m => .ok true m
  | some e, ρ, m => (evE G e ρ m).bind fun d m => match d with
    | .bl b => .ok b m
    | _ => .no
def evI (G : Gm) : It → Env → Mu → Rs (List D)
  | .val e, ρ, m => (evE G e ρ m).bind fun d m => match d with
    | .tup ds => .ok ds m
    | .lst ds => .ok ds m
    | .frl ds => .ok ds m
    | _ => .no
  | .rng es, ρ, m => (evEs G es ρ m).bind fun ds m => match rngD ds with
    | some xs => .ok xs m
    | none => .no
  | .zip a b, ρ, m => (evE G a ρ m).bind fun x m => (evE G b ρ m).bind fun y m => match zipD [] x y with
    | some xs => .ok xs m
    | none => .no
  | .enu a, ρ, m => (evE G a ρ m).bind fun x m => match enuD [] x with
    | some xs => .ok xs m
    | none => .no
def evG (G : Gm) : Gt → D → Env → Mu → Rs Env
  | .nm i, d, ρ, m => .ok (ρ.set i (some d)) m
  | .tup gs, d, ρ, m => match d with
    | .tup ds => if ds.length = gs.length then evGs G gs ds ρ m else .no
    | _ => .no
  | .sub o i, d, ρ, m => (evE G o ρ m).bind fun x m => (evE G i ρ m).bind fun y m => match x, y with
    | .own k, .int j => match m[k]? with
      | some (.lst xs) => match ixN xs.length j with
        | some n => .ok ρ (m.set k (.lst (xs.set n d)))
        | none => .no
      | _ => .no
    | _, _ => .no
  | .fld o f, d, ρ, m => (evE G o ρ m).bind fun x m => match x with
    | .own k => match m[k]? with
      | some (.ins c fs) => if fs.length < 1000 then (if G.fl c f then .ok ρ (m.set k (.ins c (putD f d fs))) else .no) else .no
      | _ => .no
    | _ => .no
def evGs (G : Gm) : List Gt → List D → Env → Mu → Rs Env
  | [], [], ρ, m => .ok ρ m
  | g :: gs, d :: ds, ρ, m => (evG G g d ρ m).bind fun ρ m => evGs G gs ds ρ m
  | _, _, _, _ => .no
end
/-- names whose lists change no more -/
def frzD : List Nat → Env → Mu → Rs Env
  | [], ρ, m => .ok ρ m
  | i :: is, ρ, m => match ρ[i]? with
    | some (some (.own k)) => match m[k]? with
      | some (.lst ds) => frzD is (ρ.set i (some (.lst ds))) (m.set k .dead)
      | _ => .no
    | _ => .no
def fuelW : Nat := 1000000000000
mutual
def evC (G : Gm) : C → Env → Mu → Rs Fl
  | .asg g e, ρ, m => (evE G e ρ m).bind fun d m => (evG G g d ρ m).bind fun ρ m => .ok (.nx ρ) m
  | .aug i op e, ρ, m => match ρ[i]? with
    | some (some (.int x)) => (evE G e ρ m).bind fun d m => match d with
      | .int y => match op with
        | .Add => .ok (.nx (ρ.set i (some (.int (x + y))))) m
        | .Sub => .ok (.nx (ρ.set i (some (.int (x - y))))) m
        | _ => .no
      | _ => .no
    | _ => .no
  | .expr e, ρ, m => (evE G e ρ m).bind fun _ m => .ok (.nx ρ) m
  | .ife t a b, ρ, m => (evE G t ρ m).bind fun d m => match d with
    | .bl true => evCs G a ρ m
    | .bl false => evCs G b ρ m
    | _ => .no
  | .whl t b, ρ, m => whlL (fun ρ m => evE G t ρ m) (fun ρ m => evCs G b ρ m) fuelW ρ m
  | .for g it b, ρ, m => (evI G it ρ m).bind fun ds m => forL (fun d ρ m => (evG G g d ρ m).bind fun ρ m => evCs G b ρ m) ds ρ m
  | .ret e, ρ, m => (evE G e ρ m).bind fun d m => .ok (.rt d) m
  | .retN, _, m => .ok (.rt .non) m
  | .brk, ρ, m => .ok (.bk ρ) m
  | .cnt, ρ, m => .ok (.ct ρ) m
  | .pas, ρ, m => .ok (.nx ρ) m
  | .frz is c, ρ, m => (frzD is ρ m).bind fun ρ m => evC G c ρ m
def evCs (G : Gm) : List C → Env → Mu → Rs Fl
  | [], ρ, m => .ok (.nx ρ) m
  | c :: cs, ρ, m => (evC G c ρ m).bind fun fl m => match fl with
    | .nx ρ => evCs G cs ρ m
    | fl => .ok fl m
end
/-- a class: a new instance, its __init__; frz: it changes no more -/
def mkFn (c : Str) (frz : Bool) (gi : Fn) : Fn := fun ds m =>
  (gi (.own m.length :: ds) (m ++ [.ins c []])).bind fun r m1 => match r, m1[m.length]? with
    | .non, some (.ins c2 fs) => if c2 = c then (if frz then .ok (.ins c fs) (m1.set m.length .dead) else .ok (.own m.length) m1) else .no
    | _, _ => .no
/-- a def: its body at its arguments -/
def runF (G : Gm) (np nN : Nat) (body : List C) : Fn := fun ds m => if ds.length = np then
    (evCs G body (ds.map some ++ List.replicate (nN - ds.length) none) m).bind fun fl m => match fl with
      | .rt d => .ok d m
      | .nx _ => .ok .non m
      | _ => .no
  else .no
end Pm

set_option maxRecDepth 100000
set_option maxHeartbeats 4000000
/-! What is wanted behind a piece of a program; the strongest readings; operations -/
namespace Pm
open PySem L2

def PostX (T : Tb) (W : XK) (H Z : Hp) (α : List Addr) (x : Xn) (m : Mu) : Prop :=
  ∀ H' Z' α', Fut H Z α H' Z' α' → Rep T H' Z' α' m → match x with
    | .own c fs => ∀ C d vs, T.cls c = some C → H' d = some (.xd vs) → Dfs T Z' α' vs fs → W (.ref C) (some d) H'
    | .bi n => W (.type n) none H'
def Post {β : Type} (T : Tb) (W : XK) (H Z : Hp) (α : List Addr) (r : Rs β) (K : β → Mu → Hp → Hp → List Addr → Prop) : Prop :=
  match r with
  | .ok b m => ∀ H' Z' α', Fut H Z α H' Z' α' → Rep T H' Z' α' m → K b m H' Z' α'
  | .ex x m => PostX T W H Z α x m
  | .no => False
section
variable {β γ : Type} {T : Tb} {W : XK} {H Z H' Z' : Hp} {α α' : List Addr} {r : Rs β} {k : β → Mu → Rs γ} {K K' : β → Mu → Hp → Hp → List Addr → Prop} {J : γ → Mu → Hp → Hp → List Addr → Prop}
theorem Post.later (h : Post T W H Z α r K) (f : Fut H Z α H' Z' α') : Post T W H' Z' α' r K := by
  cases r with
  | ok b m => exact fun H2 Z2 α2 f2 R => h H2 Z2 α2 (f.trans f2) R
  | ex x m => exact fun H2 Z2 α2 f2 R => h H2 Z2 α2 (f.trans f2) R
  | no => exact h
theorem Post.mono (h : Post T W H Z α r K) (f : ∀ b m H' Z' α', Fut H Z α H' Z' α' → Rep T H' Z' α' m → K b m H' Z' α' → K' b m H' Z' α') : Post T W H Z α r K' := by
  cases r with
  | ok b m => exact fun H2 Z2 α2 f2 R => f _ _ _ _ _ f2 R (h H2 Z2 α2 f2 R)
  | ex x m => exact h
  | no => exact h
theorem Post.bind (h : Post T W H Z α (r.bind k) J) : Post T W H Z α r (fun b m H' Z' α' => Post T W H' Z' α' (k b m) J) := by
  cases r with
  | ok b m => exact fun H2 Z2 α2 f2 R => Post.later h f2
  | ex x m => exact h
  | no => exact h
theorem Post.now {b : β} {m : Mu} (h : Post T W H Z α (.ok b m) K) (R : Rep T H Z α m) : K b m H Z α := h _ _ _ .rfl' R
end

/-- the slots -/
structure EnvR (T : Tb) (Z : Hp) (α : List Addr) (σ : St) (ρ : Env) : Prop where
  len : σ.length = ρ.length
  at_ : ∀ (i : Nat) (d : D), ρ[i]? = some (some d) → ∃ v, σ[i]? = some (some v) ∧ Dn T Z α v d
section
variable {T : Tb} {Z Z' : Hp} {α α' : List Addr} {σ : St} {ρ : Env}
theorem EnvR.mono (h : EnvR T Z α σ ρ) (le : Le Z α Z' α') : EnvR T Z' α' σ ρ := ⟨h.len, fun i d e => let ⟨v, a, b⟩ := h.at_ i d e; ⟨v, a, b.mono le⟩⟩
theorem EnvR.set (h : EnvR T Z α σ ρ) {i : Nat} {v : V} {d : D} (dv : Dn T Z α v d) : EnvR T Z α (σ.set i (some v)) (ρ.set i (some d)) := by
  refine ⟨by simp [h.len], fun j e q => ?_⟩
  by_cases hj : i = j
  · subst hj
    have hi : i < ρ.length := by
      by_cases hi : i < ρ.length
      · exact hi
      · rw [List.getElem?_eq_none (by simp; omega)] at q; cases q
    rw [List.getElem?_set_self hi] at q
    cases q
    exact ⟨v, by rw [List.getElem?_set_self (by rw [h.len]; exact hi)], dv⟩
  · rw [List.getElem?_set_ne hj] at q
    rw [List.getElem?_set_ne hj]
    exact h.at_ j e q
theorem EnvR.wiped (h : EnvR T Z α σ ρ) (vs : List Nat) : EnvR T Z α (L2.wipe σ vs) (wipeD ρ vs) := by
  induction vs with
  | nil => exact h
  | cons v vs ih =>
    refine ⟨by simp [L2.wipe, wipeD, ih.len], fun j e q => ?_⟩
    unfold wipeD at q
    unfold L2.wipe
    by_cases hj : v = j
    · subst hj
      by_cases hi : v < (wipeD ρ vs).length
      · rw [List.getElem?_set_self hi] at q; cases q
      · rw [List.getElem?_eq_none (by simp; omega)] at q; cases q
    · rw [List.getElem?_set_ne hj] at q
      rw [List.getElem?_set_ne hj]
      exact ih.at_ j e q
end

/-! ### the strongest readings -/
def tA (X : Cx) (e : Expr) : TE := fun σ H Q => ∃ t, PE X e t ∧ t σ H Q
theorem pe_all {X : Cx} {e : Expr} : PE X e (tA X e) := ⟨fun pins s σ H Q I ⟨_, h, q⟩ => h.run pins s σ H Q I q⟩
def tAT (X : Cx) (e : Expr) : TT := fun σ H Q => ∃ t, PT X e t ∧ t σ H Q
theorem pt_all {X : Cx} {e : Expr} : PT X e (tAT X e) := ⟨fun pins s σ H Q I ⟨_, h, q⟩ => h.run pins s σ H Q I q⟩
def tAA (X : Cx) (es : List Expr) : TA := fun σ H Q => ∃ t, PA X es t ∧ t σ H Q
theorem pa_all {X : Cx} {es : List Expr} : PA X es (tAA X es) := ⟨fun pos pins s σ H Q I ⟨_, h, q⟩ => h.run pos pins s σ H Q I q⟩
def tAO (X : Cx) (e : Option Expr) : TO := fun σ H Q => ∃ t, PO X e t ∧ t σ H Q
theorem po_all {X : Cx} {e : Option Expr} : PO X e (tAO X e) := ⟨fun pins s σ H Q I ⟨_, h, q⟩ => h.run pins s σ H Q I q⟩
def tAI (X : Cx) (tg e : Expr) : TI := fun σ H R => ∃ t, PI X tg e t ∧ t σ H R
theorem pi_all {X : Cx} {tg e : Expr} : PI X tg e (tAI X tg e) := ⟨fun pins s σ H Q I ⟨_, h, q⟩ => h.run pins s σ H Q I q⟩
def tAG (X : Cx) (e : Expr) : TG := fun v σ H Q => ∃ t, PG X e t ∧ t v σ H Q
theorem pg_all {X : Cx} {e : Expr} : PG X e (tAG X e) := ⟨fun pins s σ H v u Q I r ⟨_, h, q⟩ => h.run pins s σ H v u Q I r q⟩
def tAGs (X : Cx) (es : List Expr) : TGs := fun v σ H Q => ∃ t, PGs X es t ∧ t v σ H Q
theorem pgs_all {X : Cx} {es : List Expr} : PGs X es (tAGs X es) := ⟨fun pins s σ H v u Q I r ⟨_, h, q⟩ => h.run pins s σ H v u Q I r q⟩
def tAS (X : Cx) (e : Stmt) : TS := fun D σ H => ∃ t, PS X e t ∧ t D σ H
theorem ps_all {X : Cx} {e : Stmt} : PS X e (tAS X e) := ⟨fun pins s σ H D I ⟨_, h, q⟩ => h.run pins s σ H D I q⟩
def tASs (X : Cx) (e : List Stmt) : TS := fun D σ H => ∃ t, PSs X e t ∧ t D σ H
theorem pss_all {X : Cx} {e : List Stmt} : PSs X e (tASs X e) := ⟨fun pins s σ H D I ⟨_, h, q⟩ => h.run pins s σ H D I q⟩
def oA (X : Cx) (f : Value → Value → Sem Value) : R2 := fun x y H Q => ∃ r, OpR X f r ∧ r x y H Q
theorem op_all {X : Cx} {f : Value → Value → Sem Value} : OpR X f (oA X f) := fun pins s σ H x y v u Q I r1 r2 ⟨_, h, q⟩ => h pins s σ H x y v u Q I r1 r2 q
def cA (X : Cx) (f : Value) : List V → Hp → VK → Prop := fun xs H Q => ∃ r, CallR X f r ∧ r xs H Q
theorem call_all {X : Cx} {f : Value} : CallR X f (cA X f) := fun pins s σ H xs us Q I r1 ⟨_, h, q⟩ => h pins s σ H xs us Q I r1 q
def mA (X : Cx) (id : String) : V → List V → Hp → VK → Prop := fun x xs H Q => ∃ r, MtR X id r ∧ r x xs H Q
theorem mt_all {X : Cx} {id : String} : MtR X id (mA X id) := fun pins s σ H x xs v us Q I r1 r2 ⟨_, h, q⟩ => h pins s σ H x xs v us Q I r1 r2 q
def iA (X : Cx) : R2 := fun x y H Q => ∃ r, IxR X r ∧ r x y H Q
theorem ix_all {X : Cx} : IxR X (iA X) := fun va sl pins s σ H x y v u Q I r1 r2 ⟨_, h, q⟩ e => h va sl pins s σ H x y v u Q I r1 r2 q e

/-! ### what a state knows of data -/
section
variable {T : Tb} {H Z : Hp} {α : List Addr} {m : Mu} {v : V} {d : D} {ds : List D}
/-- what is wanted of a value -/
abbrev KQ (T : Tb) (Q : VK) : D → Mu → Hp → Hp → List Addr → Prop := fun d _ H' Z' α' => ∀ v, Dn T Z' α' v d → Q v H'
theorem look_lst (R : Rep T H Z α m) {k : Nat} (e : m[k]? = some (.lst ds)) : ∃ a vs, α[k]? = some a ∧ H a = some (.lst vs) ∧ Dns T Z α vs ds := by
  have hk : k < α.length := by rw [R.len]; exact (List.getElem?_eq_some_iff.mp e).1
  obtain ⟨vs, e1, e2⟩ := R.obj k α[k] _ (List.getElem?_eq_getElem hk) e
  exact ⟨_, vs, List.getElem?_eq_getElem hk, e1, e2⟩
theorem lookT_at (R : Rep T H Z α m) (dv : Dn T Z α v d) (e : lookT m d = some ds) : ∃ a vs, v = .ref a ∧ H a = some (.lst vs) ∧ Dns T Z α vs ds := by
  cases dv with
  | lst e1 e2 => cases e; exact ⟨_, _, rfl, R.sub _ _ e1, e2⟩
  | own e1 =>
    rename_i k
    simp only [lookT] at e
    split at e
    · rename_i q
      cases e
      obtain ⟨a, vs, f1, f2, f3⟩ := look_lst R q
      rw [e1] at f1; cases f1
      exact ⟨_, vs, rfl, f2, f3⟩
    · cases e
  | _ => cases e
theorem look_at (R : Rep T H Z α m) (dv : Dn T Z α v d) (e : look m d = some ds) : ∃ a vs, v = .ref a ∧ SqL T.K H a vs ∧ Dns T Z α vs ds := by
  cases dv with
  | frl e1 e2 => cases e; exact ⟨_, _, rfl, sqL_mono R.sub e1, e2⟩
  | lst e1 e2 =>
    obtain ⟨a, vs, f1, f2, f3⟩ := lookT_at R (.lst e1 e2) (ds := ds) e
    exact ⟨a, vs, f1, SqL.of f2, f3⟩
  | own e1 =>
    obtain ⟨a, vs, f1, f2, f3⟩ := lookT_at R (.own e1) (ds := ds) e
    exact ⟨a, vs, f1, SqL.of f2, f3⟩
  | _ => cases e
theorem lookS_at (R : Rep T H Z α m) (dv : Dn T Z α v d) (e : lookS m d = some ds) : ∃ a vs, v = .ref a ∧ (SqL T.K H a vs ∨ SqT T.K H a vs) ∧ Dns T Z α vs ds := by
  cases dv with
  | tup e1 e2 => cases e; exact ⟨_, _, rfl, .inr (SqT.of (R.sub _ _ e1)), e2⟩
  | frl e1 e2 =>
    obtain ⟨a, vs, f1, f2, f3⟩ := look_at R (.frl e1 e2) (ds := ds) e
    exact ⟨a, vs, f1, .inl f2, f3⟩
  | lst e1 e2 =>
    obtain ⟨a, vs, f1, f2, f3⟩ := look_at R (.lst e1 e2) (ds := ds) e
    exact ⟨a, vs, f1, .inl f2, f3⟩
  | own e1 =>
    obtain ⟨a, vs, f1, f2, f3⟩ := look_at R (.own e1) (ds := ds) e
    exact ⟨a, vs, f1, .inl f2, f3⟩
  | _ => cases e
mutual
theorem D.py_at (R : Rep T H Z α m) : ∀ {d : D} {v : V} {p : PyData}, Dn T Z α v d → d.py = some p → Dp T.K H v p
  | .non, _, _, .non, e => by simp [D.py] at e; subst e; exact .non
  | .bl b, _, _, .bl _, e => by simp [D.py] at e; subst e; exact .bl b
  | .int b, _, _, .int _, e => by simp [D.py] at e; subst e; exact .int b
  | .str b, _, _, .str _, e => by simp [D.py] at e; subst e; exact .str b
  | .lst ds, _, p, .lst e1 e2, e => by
    simp only [D.py, Option.map_eq_some_iff] at e
    obtain ⟨ps, e, rfl⟩ := e
    exact .lst (SqL.of (R.sub _ _ e1)) (D.pys_at R e2 e)
  | .frl ds, _, p, .frl e1 e2, e => by
    simp only [D.py, Option.map_eq_some_iff] at e
    obtain ⟨ps, e, rfl⟩ := e
    exact .lst (sqL_mono R.sub e1) (D.pys_at R e2 e)
  | .tup ds, _, p, .tup e1 e2, e => by
    simp only [D.py, Option.map_eq_some_iff] at e
    obtain ⟨ps, e, rfl⟩ := e
    exact .tup (SqT.of (R.sub _ _ e1)) (D.pys_at R e2 e)
  | .ins _ _, _, _, _, e => by simp [D.py] at e
  | .own _, _, _, _, e => by simp [D.py] at e
  | .ty _, _, _, _, e => by simp [D.py] at e
  | .cls _, _, _, _, e => by simp [D.py] at e
theorem D.pys_at (R : Rep T H Z α m) : ∀ {ds : List D} {vs : List V} {ps : List PyData}, Dns T Z α vs ds → D.pys ds = some ps → DpAll T.K H vs ps
  | [], _, _, .nil, e => by simp [D.pys] at e; subst e; exact .nil
  | d :: ds, _, _, .cons e1 e2, e => by
    simp only [D.pys] at e
    split at e
    · rename_i q1 q2
      cases e
      exact .cons (D.py_at R e1 q1) (D.pys_at R e2 q2)
    · cases e
end
theorem Dn.flat (dv : Dn T Z α v d) (f : d.flat = true) : flatV v = true := by
  cases dv with
  | non => rfl
  | bl _ => rfl
  | int _ => rfl
  | str _ => rfl
  | _ => cases f
theorem Dns.flat : ∀ {vs : List V} {ds : List D}, Dns T Z α vs ds → ds.all D.flat = true → vs.all flatV = true
  | _, _, .nil, _ => rfl
  | _, _, .cons a r, f => by
    rw [List.all_cons, Bool.and_eq_true] at f
    rw [List.all_cons, a.flat f.1, Dns.flat r f.2]
    rfl
theorem Dn.eqF {u : V} {e : D} (dv : Dn T Z α v d) (du : Dn T Z α u e) (f : d.flat = true) (f' : e.flat = true) : eqV v u = D.eqF d e := by
  cases dv <;> first
    | (cases du <;> first | rfl | cases f')
    | cases f
theorem Dns.inF {x : V} {c : D} (dx : Dn T Z α x c) (fc : c.flat = true) : ∀ {vs : List V} {ds : List D}, Dns T Z α vs ds → ds.all D.flat = true → inV x vs = Pm.inF c ds
  | _, _, .nil, _ => rfl
  | _, _, .cons a r, f => by
    rw [List.all_cons, Bool.and_eq_true] at f
    have ih := Dns.inF dx fc r f.2
    unfold inV Pm.inF at ih ⊢
    rw [List.any_cons, List.any_cons, ih, a.eqF dx f.1 fc]
theorem Dn.isNon (dv : Dn T Z α v d) : decide (v = .non) = d.isNon := by cases dv <;> rfl
/-- a new thing is frozen -/
theorem Post.frozen {W : XK} {o : HO} {p : Addr} {Q : VK} (h : Post T W H Z α (.ok d m) (KQ T Q)) (R : Rep T H Z α m) (hp : H p = none) (hd : Dn T (upd Z p o) α (.ref p) d) : Q (.ref p) (upd H p o) :=
  h _ _ _ (Fut.new R hp) (R.new hp) _ hd
theorem le_new {p : Addr} {o : HO} (R : Rep T H Z α m) (hp : H p = none) : Le Z α (upd Z p o) α := (Fut.new (o := o) R hp).le
theorem Post.tup {W : XK} {p : Addr} {Q : VK} {vs : List V} (h : Post T W H Z α (.ok (.tup ds) m) (KQ T Q)) (R : Rep T H Z α m) (hv : Dns T Z α vs ds) (hp : H p = none) : Q (.ref p) (upd H p (.tup vs)) :=
  h.frozen R hp (.tup upd_same (hv.mono (le_new R hp)))
theorem Post.lst {W : XK} {p : Addr} {Q : VK} {vs : List V} (h : Post T W H Z α (.ok (.lst ds) m) (KQ T Q)) (R : Rep T H Z α m) (hv : Dns T Z α vs ds) (hp : H p = none) : Q (.ref p) (upd H p (.lst vs)) :=
  h.frozen R hp (.lst upd_same (hv.mono (le_new R hp)))
/-- a new list of the store -/
theorem Post.lsto {W : XK} {p : Addr} {Q : VK} {vs : List V} (h : Post T W H Z α (.ok (.own m.length) (m ++ [.lst ds])) (KQ T Q)) (R : Rep T H Z α m) (hv : Dns T Z α vs ds) (hp : H p = none) : Q (.ref p) (upd H p (.lst vs)) := by
  have le : Le Z α Z (α ++ [p]) := ⟨fun _ _ e => e, [p], rfl⟩
  refine h _ _ _ (Fut.push hp) (R.push hp ⟨vs, upd_same, hv.mono le⟩) _ (.own ?_)
  rw [← R.len, List.getElem?_append_right (Nat.le_refl _), Nat.sub_self]
  rfl
end
end Pm

set_option maxRecDepth 100000
set_option maxHeartbeats 4000000
/-! Operators, comparisons, truth, built-ins: on data and on values -/
namespace Pm
open PySem L2
theorem Post.noX {β : Type} {T : Tb} {W : XK} {H Z : Hp} {α : List Addr} {r : Rs β} {K : β → Mu → Hp → Hp → List Addr → Prop} (h : Post T W H Z α r.noX K) : Post T E0 H Z α r K := by
  cases r with
  | ok b m => exact h
  | ex x m => exact h.elim
  | no => exact h
/-! ### xs != [] -/
def rNeNil (K : PySem.W.Frag) : R2 := fun x y H Q => ∃ (l p : Addr) (xs : List V), x = .ref l ∧ y = .ref p ∧ SqL K H l xs ∧ H p = some (.lst []) ∧ Q (.bl (!xs.isEmpty)) H
theorem op_neNil {X : Cx} (hu : X.A.units + 64 < cLine) : OpR X (compareOp .NotEq) (rNeNil X.K) := by
  intro pins s σ H x y v u Q I rx ry h
  obtain ⟨l, p, xs, rfl, rfl, hl, hp, q⟩ := h
  cases rx
  cases ry
  obtain ⟨its, rv, pl, _⟩ := I.list hl
  obtain ⟨its2, rv2, pp, _⟩ := I.list (SqL.of hp)
  cases rv2
  have el := rv.length
  cases xs with
  | nil =>
    cases rv
    have d : ∀ {a : Addr}, PlainL s.heap a #[] → ∃ as, Reads s.heap (.ref a) (.list []) as := fun {a} z => by
      obtain ⟨o, n, ho, hc, _, hd⟩ := z
      exact ⟨_, Reads.list ho hc hd ReadsAll.nil⟩
    obtain ⟨as, r1⟩ := d pl
    obtain ⟨bs, r2⟩ := d pp
    exact SeqAt.compareNe_shaped r1 r2 (by decide) (by decide) hu ⟨.bl _, H, I, rfl, q⟩
  | cons x r =>
    refine SeqAt.RcNeAt.lists_lengths pl.isList pp.isList ?_ (Nat.lt_of_le_of_lt (Nat.le_add_right _ 64) hu) _ _ _ _ ⟨.bl _, H, I, rfl, q⟩
    cases rv
    simp

def rEqNil (K : PySem.W.Frag) : R2 := fun x y H Q => ∃ (l p : Addr) (xs : List V), x = .ref l ∧ y = .ref p ∧ SqL K H l xs ∧ H p = some (.lst []) ∧ Q (.bl xs.isEmpty) H
theorem op_eqNil {X : Cx} (hu : X.A.units + 64 < cLine) : OpR X (compareOp .Eq) (rEqNil X.K) := by
  intro pins s σ H x y v u Q I rx ry h
  obtain ⟨l, p, xs, rfl, rfl, hl, hp, q⟩ := h
  cases rx
  cases ry
  obtain ⟨its, rv, pl, _⟩ := I.list hl
  obtain ⟨its2, rv2, pp, _⟩ := I.list (SqL.of hp)
  cases rv2
  have el := rv.length
  cases xs with
  | nil =>
    cases rv
    have d : ∀ {a : Addr}, PlainL s.heap a #[] → ∃ as, Reads s.heap (.ref a) (.list []) as := fun {a} z => by
      obtain ⟨o, n, ho, hc, _, hd⟩ := z
      exact ⟨_, Reads.list ho hc hd ReadsAll.nil⟩
    obtain ⟨as, r1⟩ := d pl
    obtain ⟨bs, r2⟩ := d pp
    exact SeqAt.compareEq_shaped r1 r2 (by decide) (by decide) hu ⟨.bl _, H, I, rfl, q⟩
  | cons x r =>
    refine SeqAt.RcAt.lists_lengths pl.isList pp.isList ?_ (Nat.lt_of_le_of_lt (Nat.le_add_right _ 64) hu) _ _ _ _ ⟨.bl _, H, I, rfl, q⟩
    cases rv
    simp

section
variable {X : Cx} {T : Tb} {W : XK} {H Z : Hp} {α : List Addr} {m : Mu} {v u : V} {a b d : D} {Q : VK}

theorem Dns.emp {vs : List V} {ds : List D} (h : Dns T Z α vs ds) : vs.isEmpty = ds.isEmpty := by cases h <;> rfl
theorem smallI_iff {i : Int} (h : smallI i = true) : -(2 ^ 64) < i ∧ i < 2 ^ 64 := by
  unfold smallI at h
  rw [Bool.and_eq_true, decide_eq_true_eq, decide_eq_true_eq] at h
  exact h
theorem binI_ok {op : Operator} {i j k : Int} (e : binI op i j = some k) (q : Q (.int k) H) : oA X (binaryOp op) (.int i) (.int j) H Q := by
  cases op <;> simp only [binI] at e
  case Add => cases e; exact ⟨_, op_add, i, j, rfl, rfl, q⟩
  case Sub => cases e; exact ⟨_, op_sub, i, j, rfl, rfl, q⟩
  case Mult =>
    split at e
    · rename_i h
      cases e
      rw [Bool.or_eq_true] at h
      exact ⟨_, op_mul, i, j, rfl, rfl, h.elim (fun h => .inl (smallI_iff h)) fun h => .inr (smallI_iff h), q⟩
    · cases e
  case Mod =>
    split at e
    · rename_i h; cases e; exact ⟨_, op_mod, i, j, rfl, rfl, h, q⟩
    · cases e
  case FloorDiv =>
    split at e
    · rename_i h; cases e; exact ⟨_, op_fdiv, i, j, rfl, rfl, h, q⟩
    · cases e
  case Pow =>
    split at e
    · rename_i h; cases e; exact ⟨_, op_pow, i, j, rfl, rfl, h, q⟩
    · cases e
  all_goals cases e
theorem binL_ok {op : Operator} {p : Addr} {vs : List V} {xs : List D} (R : Rep T H Z α m) (hp : H p = some (.lst vs)) (hv : Dns T Z α vs xs) (du : Dn T Z α u b) (e : binL op xs m b = some d) (q : Post T W H Z α (.ok d m) (KQ T Q)) :
    oA X (binaryOp op) (.ref p) u H Q := by
  cases op <;> simp only [binL] at e
  case Add =>
    split at e
    · rename_i ys hy
      split at e
      · rename_i hs
        cases e
        obtain ⟨a2, ws, rfl, h2, d2⟩ := lookT_at R du hy
        exact ⟨_, op_cat, p, a2, vs, ws, rfl, rfl, hp, h2, by rw [hv.len, d2.len]; exact hs, fun r hr => q.lst R (hv.append d2) hr⟩
      · cases e
    · cases e
  case Mult =>
    split at e
    · rename_i k
      split at e
      · rename_i hs
        cases e
        cases du
        exact ⟨_, op_rep, p, k, vs, rfl, rfl, hp, hs.1, hs.2.1, by rw [hv.len]; exact hs.2.2, fun r hr => q.lst R (hv.reps _) hr⟩
      · cases e
    · cases e
  all_goals cases e
theorem binD_ok {op : Operator} (R : Rep T H Z α m) (dv : Dn T Z α v a) (du : Dn T Z α u b) (hK : T.K = X.K) (e : binD op a b m = some d) (q : Post T W H Z α (.ok d m) (KQ T Q)) : oA X (binaryOp op) v u H Q := by
  cases dv with
  | int i =>
    cases du with
    | int j =>
      simp only [binD, Option.map_eq_some_iff] at e
      obtain ⟨k, e, rfl⟩ := e
      exact binI_ok e (q.now R _ (.int k))
    | _ => cases e
  | str x =>
    cases du with
    | str y =>
      cases op <;> simp only [binD, binS] at e
      case Add =>
        split at e
        · rename_i h
          cases e
          exact ⟨_, op_add_str, x, y, rfl, rfl, h, q.now R _ (.str _)⟩
        · cases e
      all_goals cases e
    | _ => cases e
  | tup e1 e2 =>
    rename_i p vs xs
    cases du with
    | tup f1 f2 =>
      rename_i p2 ws ys
      cases op <;> simp only [binD, binT] at e
      case Add =>
        split at e
        · rename_i h
          cases e
          refine ⟨_, op_catA, p, p2, vs, ws, rfl, rfl, hK ▸ SqT.of (R.sub _ _ e1), hK ▸ SqT.of (R.sub _ _ f1), by rw [e2.len, f2.len]; exact h, fun z => ?_, fun _ z => ?_, fun _ _ r hr => ?_⟩
          · subst z
            cases e2
            exact q.now R _ (.tup f1 f2)
          · subst z
            cases f2
            rw [List.append_nil] at q
            exact q.now R _ (.tup e1 e2)
          · exact q.tup R (e2.append f2) hr
        · cases e
      all_goals cases e
    | _ => cases e
  | lst e1 e2 => exact binL_ok R (R.sub _ _ e1) e2 du e q
  | own e1 =>
    rename_i p k
    simp only [binD] at e
    split at e
    · rename_i xs hx
      obtain ⟨a, vs, f1, f2, f3⟩ := look_lst R hx
      rw [e1] at f1; cases f1
      exact binL_ok R f2 f3 du e q
    · cases e
  | _ => cases e

theorem cmpD_ok {op : CmpOp} {c : Bool} {k : Nat} (hr : Room k X.A) (R : Rep T H Z α m) (dv : Dn T Z α v a) (du : Dn T Z α u b) (hK : T.K = X.K) (e : cmpD op a b m = some c) (q : Q (.bl c) H) : oA X (compareOp op) v u H Q := by
  have flat : ∀ {ys : List D}, lookS m b = some ys → (a.flat && ys.all D.flat) = true → ∃ p ws, u = .ref p ∧ (SqL X.K H p ws ∨ SqT X.K H p ws) ∧ flatV v = true ∧ ws.all flatV = true ∧ inV v ws = inF a ys := fun {ys} hy hf => by
    rw [Bool.and_eq_true] at hf
    obtain ⟨p, ws, rfl, hs, hw⟩ := lookS_at R du hy
    exact ⟨p, ws, rfl, hK ▸ hs, dv.flat hf.1, hw.flat hf.2, hw.inF dv hf.1 hf.2⟩
  have eqs : ∀ {r : Bool}, eqD m a b = some r → (∃ x y, Dp X.K H v x ∧ Dp X.K H u y ∧ SeqAt.shaped x = true ∧ SeqAt.shaped y = true ∧ r = PyData.eqv x y) ∨
      ∃ p1 p2 ws, v = .ref p1 ∧ u = .ref p2 ∧ H p1 = some (.lst ws) ∧ H p2 = some (.lst []) ∧ r = ws.isEmpty := fun {r} hq => by
    unfold eqD at hq
    split at hq
    · rename_i h1 h2
      split at hq
      · rename_i hs
        rw [Bool.and_eq_true] at hs
        cases hq
        exact .inl ⟨_, _, hK ▸ D.py_at R dv h1, hK ▸ D.py_at R du h2, hs.1, hs.2, rfl⟩
      · cases hq
    · split at hq
      · rename_i h1 _
        cases hq
        obtain ⟨p1, ws, rfl, h2, h3⟩ := lookT_at R dv h1
        obtain ⟨p2, ws2, rfl, h4, h5⟩ := lookT_at (ds := []) R du rfl
        cases h5
        exact .inr ⟨p1, p2, ws, rfl, rfl, h2, h4, h3.emp.symm⟩
      · cases hq
  cases op <;> simp only [cmpD] at e
  case Eq =>
    rcases eqs e with ⟨x, y, h1, h2, h3, h4, rfl⟩ | ⟨p1, p2, ws, rfl, rfl, h1, h2, rfl⟩
    · exact ⟨_, op_eqD hr.units, x, y, h1, h2, h3, h4, q⟩
    · exact ⟨_, op_eqNil hr.units, p1, p2, ws, rfl, rfl, SqL.of h1, h2, q⟩
  case NotEq =>
    rw [Option.map_eq_some_iff] at e
    obtain ⟨r, e, rfl⟩ := e
    rcases eqs e with ⟨x, y, h1, h2, h3, h4, rfl⟩ | ⟨p1, p2, ws, rfl, rfl, h1, h2, rfl⟩
    · exact ⟨_, op_neD hr.units, x, y, h1, h2, h3, h4, q⟩
    · exact ⟨_, op_neNil hr.units, p1, p2, ws, rfl, rfl, SqL.of h1, h2, q⟩
  case Is =>
    split at e
    · cases e
      cases du
      exact ⟨_, op_isN, rfl, by rw [dv.isNon]; exact q⟩
    · cases e
  case IsNot =>
    split at e
    · cases e
      cases du
      exact ⟨_, op_notN, rfl, by rw [dv.isNon]; exact q⟩
    · cases e
  case Lt =>
    split at e
    · cases e
      cases dv; cases du
      exact ⟨_, op_lt, _, _, rfl, rfl, q⟩
    · cases e
  case LtE =>
    split at e
    · cases e
      cases dv; cases du
      exact ⟨_, op_le, _, _, rfl, rfl, q⟩
    · cases e
  case Gt =>
    split at e
    · cases e
      cases dv; cases du
      exact ⟨_, op_gt, _, _, rfl, rfl, q⟩
    · cases e
  case GtE =>
    split at e
    · cases e
      cases dv; cases du
      exact ⟨_, op_ge, _, _, rfl, rfl, q⟩
    · cases e
  case In =>
    split at e
    · rename_i ys hy
      split at e
      · rename_i hf
        cases e
        obtain ⟨p, ws, rfl, h1, h2, h3, h4⟩ := flat hy hf
        exact ⟨_, op_in_seq, p, ws, rfl, h1, h2, h3, by rw [h4]; exact q⟩
      · cases e
    · cases e
  case NotIn =>
    split at e
    · rename_i ys hy
      split at e
      · rename_i hf
        cases e
        obtain ⟨p, ws, rfl, h1, h2, h3, h4⟩ := flat hy hf
        exact ⟨_, op_notIn_seq, p, ws, rfl, h1, h2, h3, by rw [h4]; exact q⟩
      · cases e
    · cases e
theorem truD_ok {c : Bool} (R : Rep T H Z α m) (dv : Dn T Z α v a) (hK : T.K = X.K) (e : truD m a = some c) : TruV X.K v H c := by
  have l : ∀ {ds}, look m a = some ds → TruV X.K v H (!ds.isEmpty) := fun {ds} h => by
    obtain ⟨p, vs, rfl, h1, h2⟩ := look_at R dv h
    exact .inl ⟨vs, hK ▸ h1, by rw [h2.emp]⟩
  cases dv with
  | non => cases e; rfl
  | bl b => cases e; rfl
  | int i => cases e; rfl
  | str x =>
    simp only [truD] at e
    split at e
    · rename_i h; cases e; exact ⟨h, rfl⟩
    · cases e
  | tup e1 e2 => cases e; exact .inr (.inl ⟨_, SqT.of (R.sub _ _ e1), by rw [e2.emp]⟩)
  | lst e1 e2 =>
    simp only [truD] at e
    split at e
    · rename_i h; cases e; exact l h
    · cases e
  | frl e1 e2 =>
    simp only [truD] at e
    split at e
    · rename_i h; cases e; exact l h
    · cases e
  | own e1 =>
    simp only [truD] at e
    split at e
    · rename_i h; cases e; exact l h
    · cases e
  | ins e1 e2 e3 =>
    simp only [truD] at e
    split at e
    · rename_i h; cases h
    · cases e
  | ty n =>
    simp only [truD] at e
    split at e
    · rename_i h; cases h
    · cases e
  | cls e1 =>
    simp only [truD] at e
    split at e
    · rename_i h; cases h
    · cases e
end
end Pm

set_option maxRecDepth 100000
set_option maxHeartbeats 4000000
/-! Built-in functions, methods of lists, subscripts, slices -/
namespace Pm
open PySem L2
/-- what the written part says of the classes -/
structure GoodK (G : Gm) (K : PySem.W.Frag) : Prop where
  eK : G.T.K = K
  isi : ∀ t u b, G.isi t u = some b → PySem.W.kitOne K t u = some b
  cls : ∀ c C, G.T.cls c = some C → Cls K C ∧ PySem.W.findIn K (.ref C) "__class__" = some (some (.builtin "object.__class__")) ∧
      PySem.W.specialIn K (.builtin "object.__class__") "__get__" = some (some (.builtin "getset_descriptor.__get__")) ∧ PySem.W.takesIn K (.builtin "object.__class__") = some true ∧
      PySem.W.mroIn K C (.type "object") = some true
  fl : ∀ c C f, G.T.cls c = some C → G.fl c f = true → NoAttr K C f
section
variable {X : Cx} {G : Gm} {W : XK} {H Z : Hp} {α : List Addr} {m : Mu} {v u : V} {a b d : D} {Q : VK}

theorem intsOf_eq : ∀ {ds : List D} {ns : List Int}, intsOf ds = some ns → ds = ns.map D.int
  | [], _, e => by cases e; rfl
  | .int i :: r, ns, e => by
    simp only [intsOf, Option.map_eq_some_iff] at e
    obtain ⟨ms, e, rfl⟩ := e
    rw [intsOf_eq e, List.map_cons]
  | .non :: _, _, e => by cases e
  | .bl _ :: _, _, e => by cases e
  | .str _ :: _, _, e => by cases e
  | .lst _ :: _, _, e => by cases e
  | .tup _ :: _, _, e => by cases e
  | .frl _ :: _, _, e => by cases e
  | .ins _ _ :: _, _, e => by cases e
  | .own _ :: _, _, e => by cases e
  | .ty _ :: _, _, e => by cases e
  | .cls _ :: _, _, e => by cases e
theorem blsOf_eq : ∀ {ds : List D} {ns : List Bool}, blsOf ds = some ns → ds = ns.map D.bl
  | [], _, e => by cases e; rfl
  | .bl i :: r, ns, e => by
    simp only [blsOf, Option.map_eq_some_iff] at e
    obtain ⟨ms, e, rfl⟩ := e
    rw [blsOf_eq e, List.map_cons]
  | .non :: _, _, e => by cases e
  | .int _ :: _, _, e => by cases e
  | .str _ :: _, _, e => by cases e
  | .lst _ :: _, _, e => by cases e
  | .tup _ :: _, _, e => by cases e
  | .frl _ :: _, _, e => by cases e
  | .ins _ _ :: _, _, e => by cases e
  | .own _ :: _, _, e => by cases e
  | .ty _ :: _, _, e => by cases e
  | .cls _ :: _, _, e => by cases e
theorem minL_spec : ∀ {ns : List Int} {i : Int}, minL ns = some i → i ∈ ns ∧ ∀ y ∈ ns, i ≤ y
  | [], _, e => by cases e
  | n :: r, i, e => by
    simp only [minL] at e
    cases h : minL r with
    | none =>
      rw [h] at e
      cases e
      refine ⟨List.mem_cons_self .., fun y hy => ?_⟩
      cases r with
      | nil => simp at hy; omega
      | cons k r => simp only [minL] at h; cases q : minL r <;> rw [q] at h <;> cases h
    | some j =>
      rw [h] at e
      cases e
      obtain ⟨h1, h2⟩ := minL_spec h
      split
      · exact ⟨List.mem_cons_of_mem _ h1, fun y hy => by
          rcases List.mem_cons.mp hy with rfl | hy
          · omega
          · exact h2 y hy⟩
      · exact ⟨List.mem_cons_self .., fun y hy => by
          rcases List.mem_cons.mp hy with rfl | hy
          · omega
          · have := h2 y hy; omega⟩
theorem maxL_spec : ∀ {ns : List Int} {i : Int}, maxL ns = some i → i ∈ ns ∧ ∀ y ∈ ns, y ≤ i
  | [], _, e => by cases e
  | n :: r, i, e => by
    simp only [maxL] at e
    cases h : maxL r with
    | none =>
      rw [h] at e
      cases e
      refine ⟨List.mem_cons_self .., fun y hy => ?_⟩
      cases r with
      | nil => simp at hy; omega
      | cons k r => simp only [maxL] at h; cases q : maxL r <;> rw [q] at h <;> cases h
    | some j =>
      rw [h] at e
      cases e
      obtain ⟨h1, h2⟩ := maxL_spec h
      split
      · exact ⟨List.mem_cons_of_mem _ h1, fun y hy => by
          rcases List.mem_cons.mp hy with rfl | hy
          · omega
          · exact h2 y hy⟩
      · exact ⟨List.mem_cons_self .., fun y hy => by
          rcases List.mem_cons.mp hy with rfl | hy
          · omega
          · have := h2 y hy; omega⟩
theorem typ_ok (g : GoodK G X.K) (R : Rep G.T H Z α m) (dv : Dn G.T Z α v a) {t : Value} (e : a.typ G.T m = some t) : TyX X.K H v t := by
  have insT : ∀ {p C dx : Addr} {c : Str} {vs : List (Str × V)}, G.T.cls c = some C → H p = some (.ins C dx vs) → TyX X.K H (.ref p) (.ref C) := fun {p C dx c vs} h1 h2 => by
    obtain ⟨h3, h4, h5, h6, h7⟩ := g.cls c C h1
    exact .base (.ins h2 h3 h4 h5 h6 h7)
  cases dv with
  | non => cases e; exact .base .non
  | bl b => cases e; exact .base (.bl b)
  | int i => cases e; exact .base (.int i)
  | str x => cases e; exact .base (.str x)
  | lst e1 e2 => cases e; exact .base (.lst (R.sub _ _ e1))
  | tup e1 e2 => cases e; exact .base (.tup (R.sub _ _ e1))
  | ins e1 e2 e3 =>
    simp only [D.typ, e1, Option.map_some, Option.some.injEq] at e
    subst e
    exact insT e1 (R.sub _ _ e2)
  | own e1 =>
    rename_i p k
    simp only [D.typ] at e
    split at e
    · rename_i q
      cases e
      obtain ⟨p', vs, f1, f2, f3⟩ := look_lst R q
      rw [e1] at f1; cases f1
      exact .base (.lst f2)
    · rename_i c fs q
      rw [Option.map_eq_some_iff] at e
      obtain ⟨C, e, rfl⟩ := e
      obtain ⟨C', dx, vs, h1, h2, h3⟩ := R.obj k p _ e1 q
      rw [e] at h1; cases h1
      exact insT e h2
    · cases e
  | _ => cases e
theorem kitD_ok (g : GoodK G X.K) (R : Rep G.T H Z α m) (dv : Dn G.T Z α v a) {t : Value} {r : Bool} (e : kitD G t a = some r) : ∃ w, ClsV v w ∧ PySem.W.kitOne X.K t w = some r := by
  unfold kitD at e
  split at e
  · cases dv
    exact ⟨_, .ty _, kit_ty e⟩
  · split at e
    · rename_i w hw
      refine ⟨w, ?_, g.isi _ _ _ e⟩
      cases dv with
      | ty n => cases hw; exact .ty n
      | cls e1 =>
        simp only [D.asCls, e1, Option.map_some, Option.some.injEq] at hw
        subst hw
        exact .own _
      | _ => cases hw
    · cases e
theorem clsVs : ∀ {vs : List V} {ds : List D}, Dns G.T Z α vs ds → (∀ d ∈ ds, ∃ w, d.asCls G.T = some w) → ∃ ws, Paired ClsV vs ws
  | _, _, .nil, _ => ⟨[], .nil⟩
  | _, _, .cons dv r, hc => by
    obtain ⟨ws, hw⟩ := clsVs r fun d hd => hc d (List.mem_cons_of_mem _ hd)
    obtain ⟨w, hw'⟩ := hc _ (List.mem_cons_self ..)
    cases dv with
    | ty n => exact ⟨_, .cons (.ty n) hw⟩
    | cls e1 => exact ⟨_, .cons (.own _) hw⟩
    | _ => cases hw'
theorem kitsD_ok (g : GoodK G X.K) (R : Rep G.T H Z α m) {t : Value} : ∀ {vs : List V} {ds : List D} {r : Bool}, Dns G.T Z α vs ds → kitsD G t ds = some r → (∀ d ∈ ds, ∃ w, d.asCls G.T = some w) → ∃ ws, Paired ClsV vs ws ∧ PySem.W.kitAny X.K t ws = some r
  | _, _, r, .nil, e, _ => by cases e; exact ⟨[], .nil, kitAny_nil⟩
  | _, _, r, .cons (v := v) (d := d) (ds := ds) dv rest, e, hc => by
    simp only [kitsD] at e
    split at e
    · rename_i h
      cases e
      obtain ⟨w, c, k⟩ := kitD_ok g R dv h
      obtain ⟨ws, hw⟩ := clsVs rest fun d hd => hc d (List.mem_cons_of_mem _ hd)
      exact ⟨w :: ws, .cons c hw, kitAny_cons k (fun z => by cases z) fun _ => rfl⟩
    · rename_i h
      obtain ⟨w, c, k⟩ := kitD_ok g R dv h
      obtain ⟨ws, hw, hk⟩ := kitsD_ok g R rest e fun d hd => hc d (List.mem_cons_of_mem _ hd)
      exact ⟨w :: ws, .cons c hw, kitAny_cons k (fun _ => hk) fun z => by cases z⟩
    · cases e
theorem isiD_ok (g : GoodK G X.K) (R : Rep G.T H Z α m) (dv : Dn G.T Z α v a) (du : Dn G.T Z α u b) {r : Bool} (e : isiD G m a b = some r) (q : Q (.bl r) H) : cA X (.builtin "isinstance") [v, u] H Q := by
  unfold isiD at e
  split at e
  · cases e
  · rename_i t ht
    have ty := typ_ok g R dv ht
    split at e
    · split at e
      · rename_i hc
        rw [List.all_eq_true] at hc
        cases du with
        | tup e1 e2 =>
          obtain ⟨ws, h1, h2⟩ := kitsD_ok g R e2 e fun d hd => Option.isSome_iff_exists.mp (hc d hd)
          exact ⟨_, call_isiT, v, _, _, t, ws, r, rfl, R.sub _ _ e1, h1, ty, h2, q⟩
      · cases e
    · obtain ⟨w, h1, h2⟩ := kitD_ok g R du e
      exact ⟨_, call_isi, v, u, t, w, r, rfl, h1, ty, h2, q⟩
theorem dns1 {vs : List V} (h : Dns G.T Z α vs [a]) : ∃ v, vs = [v] ∧ Dn G.T Z α v a := by
  cases h with
  | cons h r => cases r; exact ⟨_, rfl, h⟩
theorem dns2 {vs : List V} (h : Dns G.T Z α vs [a, b]) : ∃ v u, vs = [v, u] ∧ Dn G.T Z α v a ∧ Dn G.T Z α u b := by
  cases h with
  | cons h r => cases r with
    | cons h2 r => cases r; exact ⟨_, _, rfl, h, h2⟩
def Bn.id : Bn → Value
  | .len => .builtin "len" | .min => .builtin "min" | .max => .builtin "max" | .int => .type "int" | .tuple => .type "tuple"
  | .list => .type "list" | .listO => .type "list" | .isi => .builtin "isinstance" | .any => .builtin "any" | .all => .builtin "all"
theorem bltD_ok {b : Bn} {ds : List D} {vs : List V} (g : GoodK G X.K) (hc : X.calm = true) (R : Rep G.T H Z α m) (dv : Dns G.T Z α vs ds) (q : Post G.T W H Z α (bltD G b ds m) (KQ G.T Q)) : cA X b.id vs H Q := by
  have hK := g.eK
  unfold bltD at q
  split at q
  · -- len of a text
    obtain ⟨v, rfl, d1⟩ := dns1 dv
    cases d1
    split at q
    · rename_i h
      exact ⟨_, call_len, _, _, rfl, ⟨h, rfl⟩, q.now R _ (.int _)⟩
    · exact q.elim
  · obtain ⟨v, rfl, d1⟩ := dns1 dv
    split at q
    · rename_i xs h
      obtain ⟨p, ws, rfl, h1, h2⟩ := lookS_at R d1 h
      refine ⟨_, call_len_seq, p, ws, rfl, hK ▸ h1, ?_⟩
      rw [h2.len]
      exact q.now R _ (.int _)
    · exact q.elim
  · obtain ⟨v, u, rfl, d1, d2⟩ := dns2 dv
    cases d1; cases d2
    exact ⟨_, call_min2 hc, _, _, rfl, q.now R _ (.int _)⟩
  · obtain ⟨v, u, rfl, d1, d2⟩ := dns2 dv
    cases d1; cases d2
    exact ⟨_, call_max2 hc, _, _, rfl, q.now R _ (.int _)⟩
  · obtain ⟨v, rfl, d1⟩ := dns1 dv
    split at q
    · rename_i ns h
      rw [Option.bind_eq_some_iff] at h
      obtain ⟨xs, h, hn⟩ := h
      split at q
      · rename_i i hi
        obtain ⟨p, ws, rfl, h1, h2⟩ := look_at R d1 h
        rw [intsOf_eq hn] at h2
        rw [h2.ints] at h1
        obtain ⟨m1, m2⟩ := minL_spec hi
        refine ⟨_, cr_min hc, p, ns, rfl, hK ▸ h1, List.length_pos_of_mem m1, fun k hk hk2 => ?_⟩
        have e : k = i := Int.le_antisymm (hk2 i m1) (m2 k hk)
        rw [e]
        exact q.now R _ (.int _)
      · exact q.elim
    · exact q.elim
  · obtain ⟨v, rfl, d1⟩ := dns1 dv
    split at q
    · rename_i ns h
      rw [Option.bind_eq_some_iff] at h
      obtain ⟨xs, h, hn⟩ := h
      split at q
      · rename_i i hi
        obtain ⟨p, ws, rfl, h1, h2⟩ := look_at R d1 h
        rw [intsOf_eq hn] at h2
        rw [h2.ints] at h1
        obtain ⟨m1, m2⟩ := maxL_spec hi
        refine ⟨_, cr_max hc, p, ns, rfl, hK ▸ h1, List.length_pos_of_mem m1, fun k hk hk2 => ?_⟩
        have e : k = i := Int.le_antisymm (m2 k hk) (hk2 i m1)
        rw [e]
        exact q.now R _ (.int _)
      · exact q.elim
    · exact q.elim
  · obtain ⟨v, rfl, d1⟩ := dns1 dv
    cases d1
    exact ⟨_, call_int1, .inl ⟨_, rfl, q.now R _ (.int _)⟩⟩
  · obtain ⟨v, rfl, d1⟩ := dns1 dv
    cases d1
    exact ⟨_, call_int1, .inr ⟨_, rfl, q.now R _ (.int _)⟩⟩
  · obtain ⟨v, rfl, d1⟩ := dns1 dv
    cases d1 with
    | tup e1 e2 => exact ⟨_, call_tuple_of, _, _, rfl, .inr ⟨SqT.of (R.sub _ _ e1), q.now R _ (.tup e1 e2)⟩⟩
  · obtain ⟨v, rfl, d1⟩ := dns1 dv
    split at q
    · rename_i xs h
      obtain ⟨p, ws, rfl, h1, h2⟩ := look_at R d1 h
      exact ⟨_, call_tuple_of, p, ws, rfl, .inl ⟨hK ▸ h1, fun l hl => q.tup R h2 hl⟩⟩
    · exact q.elim
  · obtain ⟨v, rfl, d1⟩ := dns1 dv
    split at q
    · rename_i xs h
      obtain ⟨p, ws, rfl, h1, h2⟩ := lookS_at R d1 h
      exact ⟨_, call_list_of, p, ws, rfl, hK ▸ h1, fun l hl => q.lst R h2 hl⟩
    · exact q.elim
  · obtain ⟨v, rfl, d1⟩ := dns1 dv
    split at q
    · rename_i xs h
      obtain ⟨p, ws, rfl, h1, h2⟩ := lookS_at R d1 h
      exact ⟨_, call_list_of, p, ws, rfl, hK ▸ h1, fun l hl => q.lsto R h2 hl⟩
    · exact q.elim
  · obtain ⟨v, u, rfl, d1, d2⟩ := dns2 dv
    split at q
    · rename_i r h
      exact isiD_ok g R d1 d2 h (q.now R _ (.bl _))
    · exact q.elim
  · obtain ⟨v, rfl, d1⟩ := dns1 dv
    split at q
    · rename_i bs h
      rw [Option.bind_eq_some_iff] at h
      obtain ⟨xs, h, hn⟩ := h
      obtain ⟨p, ws, rfl, h1, h2⟩ := look_at R d1 h
      rw [blsOf_eq hn] at h2
      rw [h2.bools] at h1
      exact ⟨_, cr_any hc, p, bs, rfl, hK ▸ h1, q.now R _ (.bl _)⟩
    · exact q.elim
  · obtain ⟨v, rfl, d1⟩ := dns1 dv
    split at q
    · rename_i bs h
      rw [Option.bind_eq_some_iff] at h
      obtain ⟨xs, h, hn⟩ := h
      obtain ⟨p, ws, rfl, h1, h2⟩ := look_at R d1 h
      rw [blsOf_eq hn] at h2
      rw [h2.bools] at h1
      exact ⟨_, cr_all hc, p, bs, rfl, hK ▸ h1, q.now R _ (.bl _)⟩
    · exact q.elim
  · exact q.elim
def Mt.id : Mt → String
  | .append => "list.append" | .pop => "list.pop" | .extend => "list.extend"
/-- a list of the store is written -/
theorem Post.put {k : Nat} {p : Addr} {ws : List V} {xs : List D} {w : O} (q : Post G.T W H Z α (.ok d (m.set k (.lst xs))) (KQ G.T Q)) (R : Rep G.T H Z α m) (hk : α[k]? = some p) (hm : m[k]? = some w) (lw : w.live = true) (hx : Dns G.T Z α ws xs) (dv : Dn G.T Z α v d) : Q v (upd H p (.lst ws)) :=
  q _ _ _ (Fut.put R hk) (R.put hk hm lw ⟨ws, upd_same, hx⟩) v dv
theorem Dns.last {vs : List V} {ds : List D} (h : Dns G.T Z α vs ds) {d : D} (e : ds[ds.length - 1]? = some d) : ∃ v, vs[vs.length - 1]? = some v ∧ Dn G.T Z α v d := by
  rw [h.len]
  exact h.get e
theorem mtD_ok {f : Mt} {ds : List D} {vs : List V} (R : Rep G.T H Z α m) (dv : Dn G.T Z α v a) (du : Dns G.T Z α vs ds) (q : Post G.T W H Z α (mtD f a ds m) (KQ G.T Q)) : tyV X.K "list" v H ∧ mA X f.id v vs H Q := by
  unfold mtD at q
  split at q
  · rename_i k
    split at q
    · rename_i xs hx
      cases dv with
      | own e1 =>
        rename_i p
        obtain ⟨p', ws, f1, f2, f3⟩ := look_lst R hx
        rw [e1] at f1; cases f1
        refine ⟨.inl ⟨rfl, _, SqL.of f2⟩, ?_⟩
        split at q
        · obtain ⟨y, rfl, d1⟩ := dns1 du
          split at q
          · rename_i h
            refine ⟨_, mt_append, p, ws, y, rfl, rfl, f2, by rw [f3.len]; exact h, ?_⟩
            exact q.put R e1 hx rfl (f3.append (.cons d1 .nil)) .non
          · exact q.elim
        · obtain ⟨y, rfl, d1⟩ := dns1 du
          split at q
          · rename_i ys hy
            split at q
            · rename_i h
              obtain ⟨p2, zs, rfl, g1, g2⟩ := lookT_at R d1 hy
              refine ⟨_, mt_extend, p, p2, ws, zs, rfl, rfl, f2, g1, by rw [f3.len, g2.len]; exact h, ?_⟩
              exact q.put R e1 hx rfl (f3.append g2) .non
            · exact q.elim
          · exact q.elim
        · cases du
          split at q
          · rename_i y hy
            obtain ⟨z, h1, h2⟩ := f3.last hy
            refine ⟨_, mt_pop, p, ws, z, rfl, rfl, f2, h1, ?_⟩
            exact q.put R e1 hx rfl f3.dropLast h2
          · exact q.elim
        · exact q.elim
    · exact q.elim
  · exact q.elim
theorem Dns.atI {vs : List V} {ds : List D} (h : Dns G.T Z α vs ds) {i : Int} {d : D} (e : L2.atI ds i = some d) : ∃ v, L2.atI vs i = some v ∧ Dn G.T Z α v d := by
  unfold L2.atI at e ⊢
  rw [h.len]
  rw [Option.bind_eq_some_iff] at e
  obtain ⟨j, h1, h2⟩ := e
  obtain ⟨v, h3, h4⟩ := h.get h2
  exact ⟨v, by rw [h1]; exact h3, h4⟩
theorem idxD_ok (hK : G.T.K = X.K) (R : Rep G.T H Z α m) (dv : Dn G.T Z α v a) (du : Dn G.T Z α u b) (e : idxD m a b = some d) (q : Post G.T W H Z α (.ok d m) (KQ G.T Q)) : iA X v u H Q := by
  unfold idxD at e
  split at e
  · rename_i i
    split at e
    · rename_i xs hx
      cases du
      obtain ⟨p, ws, rfl, h1, h2⟩ := lookS_at R dv hx
      obtain ⟨w, h3, h4⟩ := h2.atI e
      rcases h1 with h1 | h1
      · exact ⟨_, ix_list, p, ws, i, w, rfl, rfl, hK ▸ h1, h3, q.now R _ h4⟩
      · exact ⟨_, ix_tup, p, ws, i, w, rfl, rfl, hK ▸ h1, h3, q.now R _ h4⟩
    · cases e
  · cases e
def sA (X : Cx) : V → Option Int → Option Int → Hp → VK → Prop := fun x lo hi H Q => ∃ r, SlR X r ∧ r x lo hi H Q
theorem sl_all {X : Cx} : SlR X (sA X) := fun pins s σ H x v vl vu lo hi sl Q I r i p1 p2 ⟨_, h, q⟩ => h pins s σ H x v vl vu lo hi sl Q I r i p1 p2 q
theorem Dns.cut {vs : List V} {ds : List D} (h : Dns G.T Z α vs ds) (lo hi : Option Int) : Dns G.T Z α (cutV vs lo hi) (cutD ds lo hi) := by
  unfold cutV cutD
  rw [h.len]
  exact (h.drop _).take _
theorem slcD_ok (hK : G.T.K = X.K) (R : Rep G.T H Z α m) (dv : Dn G.T Z α v a) {lo hi : Option Int} (e : slcD m a lo hi = some d) (q : Post G.T W H Z α (.ok d m) (KQ G.T Q)) : sA X v lo hi H Q := by
  unfold slcD at e
  split at e
  · cases e
    cases dv with
    | tup e1 e2 =>
      rename_i p ws
      refine ⟨_, sl_tupA, p, ws, rfl, SqT.of (R.sub _ _ e1), fun z => ?_, fun _ r hr => q.tup R (e2.cut lo hi) hr⟩
      have ec : ∀ xs : List D, xs.length = ws.length → cutD xs lo hi = xs := fun xs hx => by
        unfold cutD
        rw [hx, z.1, z.2, List.drop_zero, Nat.sub_zero, ← hx, List.take_length]
      rw [ec _ e2.len.symm] at q
      exact q.now R _ (.tup e1 e2)
  · rw [Option.map_eq_some_iff] at e
    obtain ⟨xs, hx, rfl⟩ := e
    obtain ⟨p, ws, rfl, h1, h2⟩ := look_at R dv hx
    exact ⟨_, sl_list, p, ws, rfl, hK ▸ h1, fun r hr => q.lst R (h2.cut lo hi) hr⟩
end
end Pm

set_option maxRecDepth 100000
set_option maxHeartbeats 4000000
namespace Pm
open PySem L2
def plainO : Expr → Bool
  | .Call _ _ _ _ => false
  | _ => true
theorem attrBase_plain {o : Expr} {f : Str} {env : PySem.Env} (h : plainO o = true) : attributeBase o f env (eval o env) = eval o env := by
  cases o <;> first | rfl | cases h
theorem plainIx {b : Expr} (h : ∀ a c d e, b ≠ .Slice a c d e) : PlainIx b := by
  intro o i
  cases b <;> first | rfl | exact absurd rfl (h _ _ _ _)
def noStar : Expr → Bool
  | .Starred _ _ => false
  | _ => true
theorem star_cons {e : Expr} {es : List Expr} {env : PySem.Env} (h : noStar e = true) : starEach (e :: es) env = (false, eval e env) :: starEach es env := by
  cases e <;> first | rfl | cases h
theorem star_all : ∀ {es : List Expr} {env : PySem.Env} {pos : Pos}, es.all noStar = true → (backTo pos (starEach es env)).any (·.1) = false
  | [], _, _, _ => rfl
  | e :: es, env, pos, h => by
    rw [List.all_cons, Bool.and_eq_true] at h
    rw [star_cons h.1]
    exact star_all h.2
theorem noSet {iter : Expr} {env : PySem.Env} (h : ∀ a b c, iter ≠ .Set a b c) : ∀ x, foldedSetIterable iter env x = pure x := by
  intro x
  cases iter <;> first | rfl | exact absurd rfl (h _ _ _)
def isBO : Expr → Bool
  | .BoolOp .. => true
  | .UnaryOp .Not _ _ => true
  | .Compare .. => true
  | .IfExp .. => true
  | .NamedExpr .. => true
  | _ => false
theorem tru_he {a : Expr} {env : PySem.Env} (h : isBO a = false) : ∀ whole, isTrue a env whole = (do let v ← whole; standAt a.pos; holding [v] (truthy v)) := by
  intro w
  cases a <;> first | rfl | cases h | (rename_i op _ _; cases op <;> first | rfl | cases h)
theorem noMark {b : Expr} {op : CmpOp} (h : ∀ a c d, b ≠ .Set a c d) : behindInMarks op b = false := by
  cases b <;> first | rfl | exact absurd rfl (h _ _ _)
theorem sw_none {e : Expr} {tg : Option Expr} {l : Nat} {env : PySem.Env} (h : ∀ a b c d, e ≠ .ListComp a b c d) (h2 : ∀ a b c d, e ≠ .SetComp a b c d) (h3 : ∀ a b c d f, e ≠ .DictComp a b c d f) : swapsWith e tg l env = pure false := by
  cases e <;> first | rfl | exact absurd rfl (h _ _ _ _) | exact absurd rfl (h2 _ _ _ _) | exact absurd rfl (h3 _ _ _ _ _)
theorem star_few : ∀ {es : List Expr} {env : PySem.Env} {pos : Pos}, es.all noStar = true → (backTo pos (starEach es env)).all (fun x => !x.1) = true
  | [], _, _, _ => rfl
  | e :: es, env, pos, h => by
    rw [List.all_cons, Bool.and_eq_true] at h
    rw [star_cons h.1]
    exact star_few h.2
theorem meth_few {es : List Expr} {env : PySem.Env} {pos : Pos} (hs : es.all noStar = true) (hl : es.length < 30) : methodCallForm (es.length + ([] : List Keyword).length) (backTo pos (starEach es env)) (backToKw pos (keywordEach [] env)) = true := by
  unfold methodCallForm
  rw [star_few hs]
  show (true && true && decide (es.length + 0 + 0 < 30)) = true
  simpa using hl
theorem meth_ht {o : Expr} {m : Str} {apos pos : Pos} {es : List Expr} {env : PySem.Env} (h : plainO o = true) (hs : es.all noStar = true) (hl : es.length < 30) (hp : (apos.endLine == pos.line) = true) : ∃ pl : Sem Bool, eval (.Call (.Attribute o m apos) es [] pos) env = (do
      let ov ← eval o env
      standAt apos.atName
      let (f, first) ← holding [ov] (getMethod ov m pl)
      callWith pos f first (backTo pos (starEach es env)) (backToKw pos (keywordEach [] env))) := by
  have e1 : eval (.Call (.Attribute o m apos) es [] pos) env = (do
      let ov ← attributeBase o m env (eval o env)
      standAt apos.atName
      methodCall o m apos pos env ov (es.length + ([] : List Keyword).length) (backTo pos (starEach es env)) (backToKw pos (keywordEach [] env))) := rfl
  rw [attrBase_plain h] at e1
  unfold methodCall at e1
  rw [meth_few hs hl] at e1
  unfold calleeOf methodCallPos at e1
  rw [hp] at e1
  exact ⟨_, e1⟩
end Pm

set_option maxRecDepth 100000
set_option maxHeartbeats 200000
/-! Defs that are called where no text of an object is being written: their promise, their calls, the law's end -/
namespace Pm
open PySem L2

/-- a def's promise, where no repr runs -/
structure FnG (P : Program) (w : World) (K : PySem.W.Frag) (mg : Str → Option Value) (base : Heap) (k : Nat) (f : Addr) (fd : FuncData) (ps : List Str) (sp : Sp) : Prop where
  lenG : ∀ vs H Q E, sp vs H Q E → vs.length = ps.length
  runG : ∀ (A : Around) (outer : List PySem.Env) (s : Shared) (H : Hp) (args : Args) (us : List Value) (vs : List V) (Q : VK) (E : XK), A.guards = some [] → Room k A → Env0 P w K mg base A outer s H → BindsTo s fd args (ps.zip us) → Vals vs us → sp vs H Q E →
    codeAny (model P w) A (.call (.ref f) args) (CR (L2.CX P w) outer P w H s Q E) s
theorem FnG.ofOk {P : Program} {w : World} {K : PySem.W.Frag} {mg : Str → Option Value} {base : Heap} {k : Nat} {f : Addr} {fd : FuncData} {ps : List Str} {sp : Sp} (F : FnOk P w K mg base (L2.CX P w) k f fd ps sp) : FnG P w K mg base k f fd ps sp :=
  ⟨F.len, fun A outer s H args us vs Q E _ => F.run A outer s H args us vs Q E⟩
/-- the codes between are no guards -/
theorem gd_make {A : Around} {C : Addr} {us : List Value} {kw : List (Str × Value)} (h : A.guards = some []) : (A.under (.builtin "type.__call__" ⟨.ref C :: us, kw⟩)).guards = some [] := by
  show pushGuards (Code.guards (.builtin "type.__call__" ⟨.ref C :: us, kw⟩)) A.guards = some []
  rw [h]
  rfl
theorem gd_deeper {A : Around} {env : PySem.Env} (h : A.guards = some []) : (A.deeper env).guards = some [] := h
section
variable {X : Cx} {k : Nat} {f C g : Addr} {fd : FuncData} {ps : List Str} {sp : Sp} {E : XK} {x m : Str} {p pos apos : Pos} {e o : Expr} {es : List Expr} {ta : TE} {t : TA}
theorem len_all {vs : List V} {us : List Value} {H : Hp} {Q : VK} (F : FnG X.prog X.w X.K X.mg X.base k f fd ps sp) (r : Vals vs us) (h : sp vs H Q E) : (us ++ []).length = ps.length := by
  rw [List.append_nil, ← r.length]; exact F.lenG _ _ _ _ h
theorem run_g {pins : List (Addr × Obj)} {σ : L2.St} {H : Hp} {s : Shared} {Q : VK} {us : List Value} {vs : List V} (F : FnG X.prog X.w X.K X.mg X.base k f fd ps sp) (gd : X.A.guards = some []) (hr : Room k X.A) (hb : Binds X.K fd ps []) (hx : Passes (L2.CX X.prog X.w) X E)
    (I : Inv X pins σ H s) (r : Vals vs us) (h : sp vs H Q E) : wpAny (model X.prog X.w) X.A (call (.ref f) us) (EP X pins σ Q) X.xe s := by
  have b := hb s us I.kIn (len_all F r h)
  rw [List.append_nil] at b
  refine wpAny_call (codeAny_mono (F.runG X.A X.stack s H ⟨us, []⟩ us vs Q E gd hr I.env0 b r h) fun fin s2 q => ?_)
  match fin, q with
  | .error er, q => exact hx pins σ H s er s2 I q
  | .ok (.ret u), q => exact I.after q
theorem pe_g (F : FnG X.prog X.w X.K X.mg X.base k f fd ps sp) (gd : X.A.guards = some []) (hr : Room k X.A) (hg : Gl X x) (hm : X.mg x = some (.ref f)) (hk : PySem.W.keepIn X.K (.ref f) = true) (hb : Binds X.K fd ps []) (hx : Passes (L2.CX X.prog X.w) X E) (ha : PA X (e :: es) t)
    (hdb : (x == ("__debug__" : Str)) = false) (he : starEach (e :: es) X.env = (false, eval e X.env) :: starEach es X.env) (hpl : (backTo pos (starEach es X.env)).any (·.1) = false) : PE X (.Call (.Name x p) (e :: es) [] pos) (fun σ H Q => t σ H fun vs H1 => sp vs H1 Q E) :=
  ⟨fun pins s σ H Q I h => wpAny_Call_Name_kw (ld_glob I hg hm (PySem.W.callWith_K (h₀ := X.base) I.ok.mod.kin hk (thn (ha.run pos pins s σ H _ I h) fun us s1 ⟨vs, H1, I1, r, q⟩ => ⟨I1.kIn, run_g F gd hr hb hx I1 r q⟩) he hpl) hdb)⟩
theorem pe_g0 (F : FnG X.prog X.w X.K X.mg X.base k f fd ps sp) (gd : X.A.guards = some []) (hr : Room k X.A) (hg : Gl X x) (hm : X.mg x = some (.ref f)) (hk : PySem.W.keepIn X.K (.ref f) = true) (hb : Binds X.K fd ps []) (hx : Passes (L2.CX X.prog X.w) X E)
    (hdb : (x == ("__debug__" : Str)) = false) : PE X (.Call (.Name x p) [] [] pos) (fun σ H Q => sp [] H Q E) :=
  ⟨fun pins s σ H Q I h => wpAny_Call_Name_kw (ld_glob I hg hm (PySem.W.callWith_K0 I.kIn hk (run_g (us := []) F gd hr hb hx I .nil h)) hdb)⟩
/-- a new instance -/
theorem run_new {pins : List (Addr × Obj)} {σ : L2.St} {H : Hp} {s : Shared} {Q : VK} {us : List Value} {vs : List V} (M : Mk X.K C f) (F : FnG X.prog X.w X.K X.mg X.base k f fd ps sp) (gd : X.A.guards = some []) (hr : Room (k + 1) X.A) (hb : Binds X.K fd ps []) (hx : Passes (L2.CX X.prog X.w) X E)
    (I : Inv X pins σ H s) (r : Vals vs us) (h : ∀ x dx, H x = none → H dx = none → dx ≠ x → sp (.ref x :: vs) (upd (upd H dx (.own x)) x (.ins C dx [])) (fun v H2 => v = .non ∧ Q (.ref x) H2) E) :
    wpAny (model X.prog X.w) X.A (call (.ref C) us) (EP X pins σ Q) X.xe s := by
  let n := s.heap.objs.size
  have I2 := Inv.made (C := C) I
  have q := h (n + 1) n (I.hok.fresh (Nat.le_succ _)) (I.hok.fresh (Nat.le_refl _)) (Nat.ne_of_lt (Nat.lt_succ_self _))
  have r2 : Vals (V.ref (n + 1) :: vs) (Value.ref (n + 1) :: us) := .cons rfl r
  have b := hb _ (Value.ref (n + 1) :: us) I2.kIn (len_all F r2 q)
  rw [List.append_nil] at b
  refine wpAny_call (make_map (f := f) I.kIn M.makes M.init (beq_iff_eq.mp M.fn) (codeAny_mono (F.runG _ X.stack _ _ ⟨Value.ref (n + 1) :: us, []⟩ _ _ _ E (gd_make gd) (hr.make C us []) (I2.env0.make C us []) b r2 q) fun fin s2 q2 => ?_))
  match fin, q2 with
  | .error er, q2 => exact hx pins σ _ _ er s2 I2 q2
  | .ok (.ret u), q2 =>
    obtain ⟨v, H2, I3, rv, rfl, q3⟩ := I2.after q2
    exact ⟨rv, ⟨V.ref (n + 1), H2, I3, rfl, q3⟩⟩
theorem pe_new (M : Mk X.K C f) (F : FnG X.prog X.w X.K X.mg X.base k f fd ps sp) (gd : X.A.guards = some []) (hr : Room (k + 1) X.A) (hg : Gl X x) (hm : X.mg x = some (.ref C)) (hb : Binds X.K fd ps []) (hx : Passes (L2.CX X.prog X.w) X E) (ha : PA X (e :: es) t)
    (hdb : (x == ("__debug__" : Str)) = false) (he : starEach (e :: es) X.env = (false, eval e X.env) :: starEach es X.env) (hpl : (backTo pos (starEach es X.env)).any (·.1) = false) :
    PE X (.Call (.Name x p) (e :: es) [] pos) (fun σ H Q => t σ H fun vs H1 => ∀ x dx, H1 x = none → H1 dx = none → dx ≠ x → sp (.ref x :: vs) (upd (upd H1 dx (.own x)) x (.ins C dx [])) (fun v H2 => v = .non ∧ Q (.ref x) H2) E) :=
  ⟨fun pins s σ H Q I h => wpAny_Call_Name_kw (ld_glob I hg hm (PySem.W.callWith_K (h₀ := X.base) I.ok.mod.kin M.kp (thn (ha.run pos pins s σ H _ I h) fun us s1 ⟨vs, H1, I1, r, q⟩ => ⟨I1.kIn, run_new M F gd hr hb hx I1 r q⟩) he hpl) hdb)⟩
theorem pe_new0 (M : Mk X.K C f) (F : FnG X.prog X.w X.K X.mg X.base k f fd ps sp) (gd : X.A.guards = some []) (hr : Room (k + 1) X.A) (hg : Gl X x) (hm : X.mg x = some (.ref C)) (hb : Binds X.K fd ps []) (hx : Passes (L2.CX X.prog X.w) X E)
    (hdb : (x == ("__debug__" : Str)) = false) : PE X (.Call (.Name x p) [] [] pos) (fun σ H Q => ∀ x dx, H x = none → H dx = none → dx ≠ x → sp [.ref x] (upd (upd H dx (.own x)) x (.ins C dx [])) (fun v H2 => v = .non ∧ Q (.ref x) H2) E) :=
  ⟨fun pins s σ H Q I h => wpAny_Call_Name_kw (ld_glob I hg hm (PySem.W.callWith_K0 I.kIn M.kp (run_new (us := []) M F gd hr hb hx I .nil h)) hdb)⟩
/-- a property -/
theorem get_g {pins : List (Addr × Obj)} {σ : L2.St} {H : Hp} {s : Shared} {Q : VK} {b : Bool} {E' : Value → Shared → Prop} {a dx pr : Addr} {fs : List (Str × V)} {nm : Str} (I : Inv X pins σ H s) (ea : H a = some (.ins C dx fs)) (c : Cls X.K C) (hp : PropOf X.K C nm pr g)
    (F : FnG X.prog X.w X.K X.mg X.base k g fd ps sp) (gd : X.A.guards = some []) (hr : Room (k + 1) X.A) (hb : Binds X.K fd ps []) (hx : Passes (L2.CX X.prog X.w) X.nox E) (h : sp [.ref a] H Q E) : wpAny (model X.prog X.w) X.A (getAttr (.ref a) nm b) (EP X pins σ Q) E' s := by
  obtain ⟨mA, O, _⟩ := ins_get I.hok ea
  obtain ⟨od, J, _⟩ := O.look
  obtain ⟨rest, hrec⟩ := hp.rec_
  let s1 : Shared := { s with toks := s.toks + 1 }
  have I1 : Inv X pins σ H s1 := I.tok (s.toks + 1)
  have r1 : Vals [V.ref a] [Value.ref a] := .cons rfl .nil
  have b1 := hb s1 [.ref a] I1.kIn (len_all F r1 h)
  rw [List.append_nil] at b1
  have hc : (PySem.W.clsIn X.K C).isSome = true := by obtain ⟨cd, e, _⟩ := PySem.W.any_some c.hd; rw [e]; rfl
  refine PySem.W.get_bind I.kIn J (PySem.W.plainGet_of (c.get nm)).1 (PySem.W.findObj_data hc hp.at_ hp.get hp.tak) (PySem.W.plainGet_of (c.get nm)).2 (wpAny_call (PySem.W.prop_get (s := s1) I.kIn hrec (codeAny_mono (F.runG X.A.in1 X.stack s1 H ⟨[.ref a], []⟩ [.ref a] [.ref a] Q E gd hr.in1 I1.env0.in1 b1 r1 h) fun fin s2 q => ?_)))
  match fin, q with
  | .error er, q => exact (hx pins σ H s1 er s2 (I1.wish _) q).elim
  | .ok (.ret u), q =>
    obtain ⟨v, H2, I3, rv, q3⟩ := I1.after q
    show wpAny _ _ (handedOut u) _ _ _
    rw [PySem.W.handedOut_of (handed_of rv)]
    exact wpAny_pure ⟨v, H2, I3, rv, q3⟩
end
section
variable {P : Program} {w : World} {K : PySem.W.Frag} {mg : Str → Option Value} {base : Heap} {k : Nat} {f : Addr} {ps N : List Str} {sp : Sp}
/-- a def keeps its promise -/
theorem okG {x qual : Str} {st : Stmt} {fd : FuncData} (F : Fun K x qual st f fd) (S : FnScope N ps (defScope st)) (len : ∀ vs H Q E, sp vs H Q E → vs.length = ps.length)
    (hbody : ∀ (cdv : Value) (A : Around) (outer : List PySem.Env) (s : Shared) (H : Hp) (vs : List V) (Q : VK) (E : XK), (A.deeper (PyProof.Rows.envOfC qual (defScope st) s.heap.objs.size f cdv)).guards = some [] → Room k (A.deeper (PyProof.Rows.envOfC qual (defScope st) s.heap.objs.size f cdv)) → sp vs H Q E →
      ∃ t, PSs (cxOf (L2.CX P w) P w K mg base N qual (defScope st) f cdv A outer s H E) (defBody st) t ∧ t { nx := fun _ H' => Q .non H', rt := Q } (L2.start N vs) H) : FnG P w K mg base (k + 1) f fd ps sp := by
  obtain ⟨oc, od, kV, doc, pm, an, cdv, ct, osl, rfl, lk, hcd⟩ := F.ex
  refine ⟨len, fun A outer s H args us vs Q E gd hr e0 hb r q => ?_⟩
  have KX : K.In s.heap := e0.mod.kin.keeps fun b o e => (e0.bs b o e).1
  have nl : s.heap.NoLimit := e0.mod.nolimit.keeps fun b o e => (e0.bs b o e).1
  refine codeAny_call_function hr.depth (KX _ _ lk) rfl S.co S.gen rfl (PySem.W.codeRec_of KX hcd) (hb _ _ _ _ ?_)
  refine wpAny_newFunctionEnv_cells S.kind (fun y hy => ?_) fun env he s1 z => ?_
  · obtain ⟨n, v⟩ := y
    exact (S.par n (List.of_mem_zip hy).1).elim .inl fun c => .inr ⟨c, PySem.W.cellsFrom_some _ _ _ (.inl c)⟩
  · subst he
    obtain ⟨t, ht, q2⟩ := hbody cdv A outer s H vs Q E gd (hr.deeper _) q
    have I := inv_start (E := E) (CX := L2.CX P w) (cd := cdv) (qual := qual) S hr.hd e0 (len _ _ _ _ q) r z
    refine ⟨nl.keeps z.toInCall.keep, codeAny_func (wpAny_mono (ht.run [] s1 _ H _ I q2) (fun fl s2 h2 => ?_) fun _ _ h2 => h2)⟩
    cases fl with
    | ret u => obtain ⟨v, σ2, H2, J, rv, q3⟩ := h2; exact ⟨v, H2, J.os, J.bare, J.base, J.hok, rv, q3⟩
    | next => obtain ⟨σ2, H2, J, q3⟩ := h2; exact ⟨V.non, H2, J.os, J.bare, J.base, J.hok, rfl, q3⟩
    | brk => obtain ⟨_, _, _, q3⟩ := h2; exact q3.elim
    | cont => obtain ⟨_, _, _, q3⟩ := h2; exact q3.elim
end
end Pm

set_option maxRecDepth 100000
set_option maxHeartbeats 4000000
/-! From the text to programs without names; where a piece stands -/
namespace Pm
open PySem L2

/-- what is told beside the text: the own classes; the places of lists that change; names whose lists are frozen ahead of a statement -/
structure Tp where
  cls : List Str
  own : List (Nat × Nat)
  frz : List (Nat × List Nat)
def ixOf (N : List Str) (x : Str) : Option Nat := N.findIdx? (fun y => decide (y = x))
theorem ixOf_get {N : List Str} {x : Str} {i : Nat} (h : ixOf N x = some i) : N[i]? = some x := by
  unfold ixOf at h
  rw [List.findIdx?_eq_some_iff_getElem] at h
  obtain ⟨hi, h1, _⟩ := h
  rw [List.getElem?_eq_getElem hi, of_decide_eq_true h1]
def tyNames : List (Str × String) := [("tuple", "tuple"), ("list", "list"), ("int", "int"), ("str", "str"), ("bool", "bool")]
def bnOf (x : Str) (own : Bool) : Option Bn :=
  if x = "len" then some .len else if x = "min" then some .min else if x = "max" then some .max else if x = "int" then some .int else if x = "tuple" then some .tuple
  else if x = "list" then some (if own then .listO else .list) else if x = "isinstance" then some .isi else if x = "any" then some .any else if x = "all" then some .all else none
def mtOf (x : Str) : Option Mt := if x = "append" then some .append else if x = "pop" then some .pop else if x = "extend" then some .extend else none
def isVis : Option NameKind → Bool
  | some .local => true | some .cell => true | some .free => true
  | _ => false
def isLoc : Option NameKind → Bool
  | some .local => true | some .cell => true
  | _ => false
def isGl : Option NameKind → Bool
  | some .globalImplicit => true
  | _ => false
def okName (x : Str) : Bool := !(x == ("__debug__" : Str)) && !(x == ("__classdict__" : Str)) && decide (x ≠ "__name__")
/-- a comprehension's own names in the list of names -/
def ownOf (N : List Str) (scope : Scope) : List (Str × Nat) := scope.names.filterMap fun y => if isLoc (some y.2) then (ixOf N y.1).map fun i => (y.1, i) else none
/-- a row of and, or -/
def andE : List E → Option E
  | [] => none
  | [e] => some e
  | e :: es => (andE es).map (.and e)
def orE : List E → Option E
  | [] => none
  | [e] => some e
  | e :: es => (orE es).map (.or e)
mutual
def slotsG : Gt → List Nat
  | .nm i => [i]
  | .tup gs => slotsGs gs
  | _ => []
def slotsGs : List Gt → List Nat
  | [] => []
  | g :: gs => slotsG g ++ slotsGs gs
end
/-- zip(a, b) as the one argument -/
def lzpA (es : List Expr) : Option (Str × Expr × Expr) := match es with
  | [.Call (.Name g _) [a, b] [] _] => if g = "zip" then some (g, a, b) else none
  | _ => none
section
variable (tp : Tp) (N : List Str)
mutual
def trE (n : Nat) (sc : Scope) (e : Expr) : Option E :=
  match n with
  | 0 => none
  | n + 1 => match e with
    | .Name x _ => if okName x then
        if isVis (sc.names.lookup x) then (ixOf N x).map .var
        else if isGl (sc.names.lookup x) then
          match tyNames.lookup x with
          | some t => some (.con (.ty t))
          | none => if tp.cls.contains x then some (.con (.cls x)) else none
        else none
      else none
    | .Constant (.int i) _ _ => some (.con (.int i))
    | .Constant (.bool b) _ _ => some (.con (.bl b))
    | .Constant .none _ _ => some (.con .non)
    | .Constant (.str s) _ _ => some (.con (.str s))
    | .Tuple es _ _ => (trEs n sc es).map .tup
    | .List es pos => (trEs n sc es).map (if tp.own.contains (pos.line, pos.col) then .lsto else .lst)
    | .BinOp a op b _ => match trE n sc a, trE n sc b with
      | some x, some y => some (.bin op x y)
      | _, _ => none
    | .UnaryOp .USub a _ => (trE n sc a).map .neg
    | .UnaryOp .Not a _ => (trE n sc a).map .not
    | .Compare a [op] [b] _ => match b with
      | .Set .. => none
      | _ => match trE n sc a, trE n sc b with
        | some x, some y => some (.cmp op x y)
        | _, _ => none
    | .Compare a [o1, o2] [b, c] _ => match c with
      | .Set .. => none
      | _ => match trE n sc a, trE n sc b, trE n sc c with
        | some x, some y, some z => some (.chn o1 o2 x y z)
        | _, _, _ => none
    | .BoolOp .And es _ => (trEs n sc es).bind andE
    | .BoolOp .Or es _ => (trEs n sc es).bind orE
    | .IfExp t a b _ => match trT n sc t, trE n sc a, trE n sc b with
      | some x, some y, some z => some (.ife x y z)
      | _, _, _ => none
    | .Call (.Name f _) es [] pos => if okName f && isGl (sc.names.lookup f) && es.all noStar then
        match lzpA es with
        | some (g, a, b) => if f = "list" ∧ isGl (sc.names.lookup g) = true ∧ noStar a = true ∧ noStar b = true then (match trE n sc a, trE n sc b with
          | some x, some y => some (.lzp x y)
          | _, _ => none) else none
        | none => match trEs n sc es with
        | none => none
        | some xs => if tp.cls.contains f then some (.mk f xs)
          else if f = "repr" then (match es, xs with
            | [_], [x] => some (.rpr x)
            | _, _ => none)
          else match bnOf f (tp.own.contains (pos.line, pos.col)), es with
            | some b, _ :: _ => some (.blt b xs)
            | some _, [] => none
            | none, _ => some (.fn f xs)
      else if okName f && isVis (sc.names.lookup f) && es.all noStar then
        match es, ixOf N f, trEs n sc es with
        | _ :: _, some i, some xs => some (.cal (.var i) xs)
        | _, _, _ => none
      else none
    | .FormattedValue e (-1) none _ => (trE n sc e).map .fmt
    | .JoinedStr es _ => match es with
      | _ :: _ :: _ => if es.all noStar then (trEs n sc es).map .jst else none
      | _ => none
    | .Call (.Attribute o m apos) es [] pos => if plainO o && es.all noStar && decide (es.length < 29) && (apos.endLine == pos.line) then
        match trE n sc o, trEs n sc es with
        | some x, some xs => match mtOf m with
          | some f => some (.bm x f xs)
          | none => some (.met x m xs)
        | _, _ => none
      else none
    | .Attribute o f _ => if plainO o then (trE n sc o).map (.att · f) else none
    | .Subscript a (.Slice lo hi none _) _ => match trE n sc a, trO n sc lo, trO n sc hi with
      | some x, some l, some h => some (.slc x l h)
      | _, _, _ => none
    | .Subscript a b _ => match b with
      | .Slice .. => none
      | _ => match trE n sc a, trE n sc b with
        | some x, some y => some (.idx x y)
        | _, _ => none
    | .ListComp elt [⟨tg, iter, ifs, 0⟩] scope pos => if blkC N sc scope (ownOf N scope) then
        match trI n sc tg iter, trG n scope tg, trIfs n scope ifs, trE n scope elt with
        | some it, some g, some c, some x => if (slotsG g).all (((ownOf N scope).map (·.2)).contains ·) then some (.lc (tp.own.contains (pos.line, pos.col)) g it c x ((ownOf N scope).map (·.2))) else none
        | _, _, _, _ => none
      else none
    | _ => none
def trEs (n : Nat) (sc : Scope) (es : List Expr) : Option (List E) :=
  match n with
  | 0 => none
  | n + 1 => match es with
    | [] => some []
    | e :: r => if noStar e then match trE n sc e, trEs n sc r with
      | some x, some xs => some (x :: xs)
      | _, _ => none
      else none
def trO (n : Nat) (sc : Scope) (e : Option Expr) : Option (Option E) :=
  match n with
  | 0 => none
  | n + 1 => match e with
    | none => some none
    | some e => (trE n sc e).map some
/-- a test -/
def trT (n : Nat) (sc : Scope) (e : Expr) : Option E :=
  match n with
  | 0 => none
  | n + 1 => match e with
    | .BoolOp .And es _ => (trTs n sc es).bind andE
    | .BoolOp .Or es _ => (trTs n sc es).bind orE
    | .UnaryOp .Not a _ => (trT n sc a).map .not
    | .Compare a [op] [b] _ => match b with
      | .Set .. => none
      | _ => match trE n sc a, trE n sc b with
        | some x, some y => some (.cmp op x y)
        | _, _ => none
    | .Compare a [o1, o2] [b, c] _ => match c with
      | .Set .. => none
      | _ => match trE n sc a, trE n sc b, trE n sc c with
        | some x, some y, some z => some (.chn o1 o2 x y z)
        | _, _, _ => none
    | e => if isBO e then none else (trE n sc e).map .tru
def trTs (n : Nat) (sc : Scope) (es : List Expr) : Option (List E) :=
  match n with
  | 0 => none
  | n + 1 => match es with
    | [] => some []
    | e :: r => match trT n sc e, trTs n sc r with
      | some x, some xs => some (x :: xs)
      | _, _ => none
def trIfs (n : Nat) (sc : Scope) (es : List Expr) : Option (Option E) :=
  match n with
  | 0 => none
  | n + 1 => match es with
    | [] => some none
    | [e] => (trT n sc e).map some
    | _ => none
def trI (n : Nat) (sc : Scope) (tg it : Expr) : Option It :=
  match n with
  | 0 => none
  | n + 1 => match it with
    | .Set .. => none
    | .Call (.Name f _) es [] _ => if okName f && isGl (sc.names.lookup f) && es.all noStar then
        if f = "range" then (match es with
          | [_] => (trEs n sc es).map .rng
          | [_, _] => (trEs n sc es).map .rng
          | _ => none)
        else if f = "zip" then (match tg, es with
          | .Tuple .., [a, b] => match trE n sc a, trE n sc b with
            | some x, some y => some (.zip x y)
            | _, _ => none
          | _, _ => none)
        else if f = "enumerate" then (match tg, es with
          | .Tuple .., [a] => (trE n sc a).map .enu
          | _, _ => none)
        else (trE n sc it).map .val
      else none
    | it => (trE n sc it).map .val
def trG (n : Nat) (sc : Scope) (e : Expr) : Option Gt :=
  match n with
  | 0 => none
  | n + 1 => match e with
    | .Name x _ => if isLoc (sc.names.lookup x) then (ixOf N x).map .nm else none
    | .Tuple es _ _ => (trGs n sc es).map .tup
    | .Subscript o i _ => match i with
      | .Slice .. => none
      | _ => match trE n sc o, trE n sc i with
        | some x, some y => some (.sub x y)
        | _, _ => none
    | .Attribute o f _ => if plainO o then (trE n sc o).map (.fld · f) else none
    | _ => none
def trGs (n : Nat) (sc : Scope) (es : List Expr) : Option (List Gt) :=
  match n with
  | 0 => none
  | n + 1 => match es with
    | [] => some []
    | e :: r => if noStar e then match trG n sc e, trGs n sc r with
      | some x, some xs => some (x :: xs)
      | _, _ => none
      else none
end
end

/-- the promise of a def by what it does to data -/
def spD (T : Tb) (n : Nat) (g : Fn) : Sp := fun vs H Q E => vs.length = n ∧ ∃ (Z : Hp) (α : List Addr) (m : Mu) (ds : List D), Rep T H Z α m ∧ Dns T Z α vs ds ∧ Post T E H Z α (g ds m) (KQ T Q)
/-- an own operator -/
def rOwn (T : Tb) (c : Str) (g : Fn) : R2 := fun x y H Q => ∃ (Z : Hp) (α : List Addr) (m : Mu) (a b : D) (fs : List (Str × D)), Rep T H Z α m ∧ Dn T Z α x a ∧ Dn T Z α y b ∧ insOf m a = some (c, fs) ∧ Post T E0 H Z α (g [a, b] m) (KQ T Q)
structure Stc where
  P : Program
  w : World
  K : PySem.W.Frag
  mg : Str → Option Value
  base : Heap
abbrev stc (X : Cx) : Stc := ⟨X.prog, X.w, X.K, X.mg, X.base⟩
/-- the names mean what the table says -/
structure Good (G : Gm) (lv : Nat) (s : Stc) : Prop where
  gk : GoodK G s.K
  fn : ∀ x g, G.fn x = some g → ∃ f fd ps k, s.mg x = some (.ref f) ∧ PySem.W.keepIn s.K (.ref f) = true ∧ FnG s.P s.w s.K s.mg s.base k f fd ps (spD G.T ps.length g) ∧ Binds s.K fd ps [] ∧ k ≤ lv ∧ ∀ ds m, ds.length ≠ ps.length → g ds m = .no
  me : ∀ c C f g, G.me c f = some g → G.T.cls c = some C → ∃ a fd ps k, Meth s.K C f a ∧ FnG s.P s.w s.K s.mg s.base k a fd ps (spD G.T ps.length g) ∧ Binds s.K fd ps [] ∧ k ≤ lv ∧ ∀ ds m, ds.length ≠ ps.length → g ds m = .no
  pr : ∀ c C f g, G.pr c f = some g → G.T.cls c = some C → ∃ p a fd ps k, PropOf s.K C f p a ∧ FnG s.P s.w s.K s.mg s.base k a fd ps (spD G.T ps.length g) ∧ Binds s.K fd ps [] ∧ k + 1 ≤ lv ∧ ps.length = 1
  cs : ∀ c g, G.cs c = some g → ∃ C f fd ps k gi frz, G.T.cls c = some C ∧ s.mg c = some (.ref C) ∧ Mk s.K C f ∧ FnG s.P s.w s.K s.mg s.base k f fd ps (spD G.T ps.length gi) ∧ Binds s.K fd ps [] ∧ k + 1 ≤ lv ∧
    (∀ ds m, ds.length ≠ ps.length → gi ds m = .no) ∧ g = mkFn c frz gi
  op : ∀ c o g, G.op c o = some g → ∀ X : Cx, stc X = s → Room lv X.A → X.A.guards = some [] → OpR X (binaryOp o) (rOwn G.T c g)
  cm : ∀ c o g, G.cm c o = some g → ∀ X : Cx, stc X = s → Room lv X.A → X.A.guards = some [] → OpR X (compareOp o) (rOwn G.T c g)
  ca : ∀ c C g, G.ca c = some g → G.T.cls c = some C → ∃ a fd ps k, StX.CallO s.K C a ∧ FnG s.P s.w s.K s.mg s.base k a fd ps (spD G.T ps.length g) ∧ Binds s.K fd ps [] ∧ k ≤ lv ∧ ∀ ds m, ds.length ≠ ps.length → g ds m = .no
  rp : ∀ c C g, G.rp c = some g → G.T.cls c = some C → ∃ a fd ps k, PySem.W.findIn s.K (.ref C) "__repr__" = some (some (.ref a)) ∧ PySem.W.isFn s.K (.ref a) = true ∧ FnG s.P s.w s.K s.mg s.base k a fd ps (spD G.T ps.length g) ∧ Binds s.K fd ps [] ∧ k + 1 ≤ lv ∧ ps.length = 1
  bl : ∀ x, x ∈ (["len", "min", "max", "int", "tuple", "list", "isinstance", "any", "all", "range", "zip", "enumerate", "str", "bool", "repr"] : List Str) → s.mg x = none
  cl : ∀ c C, G.T.cls c = some C → s.mg c = some (.ref C)

structure CxOk (G : Gm) (N : List Str) (lv : Nat) (W : XK) (sc : Scope) (X : Cx) : Prop where
  good : Good G lv (stc X)
  eN : X.N = N
  nd : N.Nodup
  calm : X.calm = true
  room : Room lv X.A
  gd : X.A.guards = some []
  vis : ∀ x, isVis (sc.names.lookup x) = true → Vis X.env.scope x
  glob : ∀ x, isGl (sc.names.lookup x) = true → Gl X x
  loc : ∀ x, isLoc (sc.names.lookup x) = true → Loc X.env.scope x ∧ (X.fn x = true ∨ X.env.scope.names.lookup x = some .local)
  kind : X.env.scope.kind = .function
  fre : ∀ x, sc.names.lookup x = some .cell ∨ sc.names.lookup x = some .free → X.env.scope.names.lookup x = some .cell ∨ X.env.scope.names.lookup x = some .free
  tk : Takes X (fun c d _ H => W c d H)
theorem lookup_rel (scope sc : Scope) (x : Str) : (relS scope sc).names.lookup x = (scope.names.lookup x).map fun k => if (k == .free && sc.kind == .function && sc.names.lookup x == some .cell) then .cell else k := by
  unfold relS
  dsimp only
  induction scope.names with
  | nil => rfl
  | cons p r ih =>
    obtain ⟨n, k⟩ := p
    rw [List.map_cons, List.lookup_cons]
    dsimp only
    by_cases hc : (k == NameKind.free && sc.kind == .function && sc.names.lookup n == some .cell) = true
    · rw [if_pos hc, List.lookup_cons]
      cases h : x == n with
      | true =>
        rw [beq_iff_eq] at h
        subst h
        show some _ = Option.map _ (some k)
        rw [Option.map_some, if_pos hc]
      | false => exact ih
    · rw [if_neg hc, List.lookup_cons]
      cases h : x == n with
      | true =>
        rw [beq_iff_eq] at h
        subst h
        show some _ = Option.map _ (some k)
        rw [Option.map_some, if_neg hc]
      | false => exact ih
theorem rel_vis {scope sc : Scope} {x : Str} (h : isVis (scope.names.lookup x) = true) : Vis (relS scope sc) x := by
  unfold Vis
  rw [lookup_rel]
  cases e : scope.names.lookup x with
  | none => rw [e] at h; cases h
  | some k =>
    rw [e] at h
    rw [Option.map_some]
    split
    · exact .inr (.inl rfl)
    · cases k <;> first | exact .inl rfl | exact .inr (.inl rfl) | exact .inr (.inr rfl) | cases h
theorem rel_keep {scope sc : Scope} {x : Str} {k : NameKind} (h : scope.names.lookup x = some k) (hk : k ≠ .free) : (relS scope sc).names.lookup x = some k := by
  rw [lookup_rel, h, Option.map_some]
  have : (k == NameKind.free) = false := by cases k <;> first | rfl | exact absurd rfl hk
  rw [this]
  rfl
theorem blk_ok {G : Gm} {N : List Str} {lv : Nat} {W : XK} {sc scope : Scope} {X : Cx} {own : List (Str × Nat)} (h : CxOk G N lv W sc X) (b : BlkOk N sc scope own) (s : Shared) (H : Hp) (C : Addr) (cl : List (Str × Addr)) (fp : List Addr) :
    CxOk G N lv E0 scope (X.blk s H scope (compEnvC scope cl C X.env) fp) where
  good := h.good
  eN := h.eN
  nd := h.nd
  calm := h.calm
  room := h.room
  gd := h.gd
  vis := fun x e => rel_vis (sc := X.env.scope) e
  glob := fun x e => by
    cases q : scope.names.lookup x with
    | none => rw [q] at e; cases e
    | some k =>
      rw [q] at e
      cases k <;> first | cases e | skip
      exact rel_keep (sc := X.env.scope) q (fun z => by cases z)
  loc := fun x e => by
    cases q : scope.names.lookup x with
    | none => rw [q] at e; cases e
    | some k =>
      rw [q] at e
      cases k with
      | «local» =>
        have := rel_keep (sc := X.env.scope) q (fun z => by cases z)
        exact ⟨.inl this, .inr this⟩
      | cell =>
        have := rel_keep (sc := X.env.scope) q (fun z => by cases z)
        refine ⟨.inr this, .inl ?_⟩
        show (scope.names.lookup x == some .cell) = true
        rw [q]
        rfl
      | _ => cases e
  kind := b.kind
  fre := fun x e => by
    show (relS scope X.env.scope).names.lookup x = _ ∨ (relS scope X.env.scope).names.lookup x = _
    rw [lookup_rel]
    rcases e with e | e
    · rw [e, Option.map_some]
      exact .inl rfl
    · rw [e, Option.map_some]
      split
      · exact .inl rfl
      · exact .inr rfl
  tk := takes0
theorem CxOk.blkOk {G : Gm} {N : List Str} {lv : Nat} {W : XK} {sc scope : Scope} {X : Cx} {own : List (Str × Nat)} (h : CxOk G N lv W sc X) (b : BlkOk N sc scope own) : BlkOk X.N X.env.scope scope own := by
  rw [h.eN]
  exact ⟨b.kind, b.uniq, b.ix, fun y hy e => h.fre y.1 (b.free y hy e), b.own⟩
end Pm

set_option maxRecDepth 100000
set_option maxHeartbeats 4000000
/-! Expressions: what the program without names does, the text does -/
namespace Pm
open PySem L2
section
variable (G : Gm) (W : XK) (X : Cx)
def SE (e : Expr) (ir : E) : Prop := ∀ (σ : St) (H Z : Hp) (α : List Addr) (ρ : Env) (m : Mu) (Q : VK), Rep G.T H Z α m → EnvR G.T Z α σ ρ → Post G.T W H Z α (evE G ir ρ m) (KQ G.T Q) → tA X e σ H Q
def ST (e : Expr) (ir : E) : Prop := ∀ (σ : St) (H Z : Hp) (α : List Addr) (ρ : Env) (m : Mu) (Q : Bool → Hp → Prop), Rep G.T H Z α m → EnvR G.T Z α σ ρ → Post G.T W H Z α (evE G ir ρ m) (fun d _ H' _ _ => ∃ b, d = .bl b ∧ Q b H') → tAT X e σ H Q
def SW (e : Expr) (ir : E) : Prop := ∀ (σ : St) (H Z : Hp) (α : List Addr) (ρ : Env) (m : Mu) (Q : Bool → Hp → Prop), Rep G.T H Z α m → EnvR G.T Z α σ ρ → Post G.T W H Z α (evE G ir ρ m) (fun d _ H' _ _ => ∃ b, d = .bl b ∧ Q b H') → ∃ t, PW X e t ∧ t σ H Q
def SEs (es : List Expr) (irs : List E) : Prop := ∀ (σ : St) (H Z : Hp) (α : List Addr) (ρ : Env) (m : Mu) (Q : List V → Hp → Prop), Rep G.T H Z α m → EnvR G.T Z α σ ρ → Post G.T W H Z α (evEs G irs ρ m) (fun ds _ H' Z' α' => ∀ vs, Dns G.T Z' α' vs ds → Q vs H') → tAA X es σ H Q
def SO (e : Option Expr) (ir : Option E) : Prop := ∀ (σ : St) (H Z : Hp) (α : List Addr) (ρ : Env) (m : Mu) (Q : Option Int → Hp → Prop), Rep G.T H Z α m → EnvR G.T Z α σ ρ → Post G.T W H Z α (evO G ir ρ m) (fun o _ H' _ _ => Q o H') → tAO X e σ H Q
def tAPts (X : Cx) (ifs : List Expr) : TT := fun σ H Q => ∃ t, PTs X ifs t ∧ t σ H Q
def SIfs (es : List Expr) (c : Option E) : Prop := ∀ (σ : St) (H Z : Hp) (α : List Addr) (ρ : Env) (m : Mu) (Q : Bool → Hp → Prop), Rep G.T H Z α m → EnvR G.T Z α σ ρ → Post G.T W H Z α (evT G c ρ m) (fun b _ H' _ _ => Q b H') → tAPts X es σ H Q
/-- an iterator that gives these items, each once -/
def WalkD (T : Tb) (J : L2.It) (ds : List D) (Z : Hp) (α : List Addr) : Prop := ∃ (Gd : Hp → Prop) (Y : Nat → Hp → V → Hp → Prop), Walk J ds.length Gd Y ∧ (∀ H, (∀ a o, Z a = some o → H a = some o) → Gd H) ∧
  ∀ (i : Nat) (H : Hp) (x : V) (H' : Hp), i < ds.length → Gd H → Y i H x H' → ∀ (Z2 : Hp) (α2 : List Addr) (m : Mu), Le Z α Z2 α2 → Rep T H Z2 α2 m →
    ∃ Z3 d, ds[i]? = some d ∧ Fut H Z2 α2 H' Z3 α2 ∧ Rep T H' Z3 α2 m ∧ Dn T Z3 α2 x d
def SI (tg it : Expr) (ir : It) : Prop := ∀ (σ : St) (H Z : Hp) (α : List Addr) (ρ : Env) (m : Mu) (R : L2.It → Hp → Prop), Rep G.T H Z α m → EnvR G.T Z α σ ρ → Post G.T W H Z α (evI G ir ρ m) (fun ds _ H' Z' α' => ∀ J, WalkD G.T J ds Z' α' → R J H') → tAI X tg it σ H R
def SG (e : Expr) (g : Gt) : Prop := ∀ (σ : St) (H Z : Hp) (α : List Addr) (ρ : Env) (m : Mu) (v : V) (d : D) (Q : St → Hp → Prop), Rep G.T H Z α m → EnvR G.T Z α σ ρ → Dn G.T Z α v d →
  Post G.T W H Z α (evG G g d ρ m) (fun ρ' _ H' Z' α' => ∀ σ', EnvR G.T Z' α' σ' ρ' → σ'.length = σ.length → (∀ j, j ∉ slotsG g → σ'[j]? = σ[j]?) → Q σ' H') → tAG X e v σ H Q
def SGs (es : List Expr) (gs : List Gt) : Prop := ∀ (σ : St) (H Z : Hp) (α : List Addr) (ρ : Env) (m : Mu) (vs : List V) (ds : List D) (Q : St → Hp → Prop), Rep G.T H Z α m → EnvR G.T Z α σ ρ → Dns G.T Z α vs ds →
  Post G.T W H Z α (evGs G gs ds ρ m) (fun ρ' _ H' Z' α' => ∀ σ', EnvR G.T Z' α' σ' ρ' → σ'.length = σ.length → (∀ j, j ∉ slotsGs gs → σ'[j]? = σ[j]?) → Q σ' H') → tAGs X es vs σ H Q
end
inductive All2 {α β : Type} (R : α → β → Prop) : List α → List β → Prop
  | nil : All2 R [] []
  | cons {a : α} {b : β} {as : List α} {bs : List β} : R a b → All2 R as bs → All2 R (a :: as) (b :: bs)
section
variable {G : Gm} {W : XK} {X : Cx} {N : List Str} {lv : Nat} {sc : Scope}

theorem se_var {x : Str} {p : Pos} {i : Nat} (h : CxOk G N lv W sc X) (ok : okName x = true) (hv : isVis (sc.names.lookup x) = true) (hi : ixOf N x = some i) : SE G W X (.Name x p) (.var i) := by
  intro σ H Z α ρ m Q R En q
  unfold okName at ok
  simp only [Bool.and_eq_true, Bool.not_eq_true'] at ok
  unfold evE at q
  split at q
  · rename_i d e
    obtain ⟨v, e1, e2⟩ := En.at_ i d e
    exact ⟨_, pe_var (i := i) (by rw [h.eN]; exact ixOf_get hi) (h.vis x hv) ok.1.1 ok.1.2, v, e1, q.now R v e2⟩
  · exact q.elim
theorem se_con {e : Expr} {v : V} {d : D} (he : PE X e (tC v)) (hd : ∀ Z α, Dn G.T Z α v d) : SE G W X e (.con d) := fun σ H Z α ρ m Q R En q => by
  unfold evE at q
  exact ⟨_, he, q.now R v (hd _ _)⟩
theorem ses_of : ∀ {es : List Expr} {irs : List E}, es.all noStar = true → All2 (SE G W X) es irs → SEs G W X es irs
  | [], [], _, .nil => fun σ H Z α ρ m Q R En q => by
    unfold evEs at q
    exact ⟨_, pa_nil, q.now R [] .nil⟩
  | e :: es, ir :: irs, hs, .cons h1 h2 => fun σ H Z α ρ m Q R En q => by
    rw [List.all_cons, Bool.and_eq_true] at hs
    unfold evEs at q
    refine ⟨_, pa_cons pe_all pa_all (star_cons hs.1), ?_⟩
    refine h1 σ H Z α ρ m _ R En (q.bind.mono fun d m1 H1 Z1 α1 F1 R1 p1 v dv => ?_)
    refine ses_of hs.2 h2 σ H1 Z1 α1 ρ m1 _ R1 (En.mono F1.le) (p1.bind.mono fun ds m2 H2 Z2 α2 F2 R2 p2 vs dvs => ?_)
    exact p2.now R2 _ (.cons (dv.mono F2.le) dvs)
theorem se_tup {es : List Expr} {irs : List E} {k p} (h : SEs G W X es irs) : SE G W X (.Tuple es k p) (.tup irs) := fun σ H Z α ρ m Q R En q => by
  unfold evE at q
  refine ⟨_, pe_tup pa_all, ?_⟩
  refine h σ H Z α ρ m _ R En (q.bind.mono fun ds m1 H1 Z1 α1 F1 R1 p1 vs dvs => ?_)
  split at p1
  · rename_i hl
    exact ⟨by rw [dvs.len]; exact hl, fun r hr => p1.tup R1 dvs hr⟩
  · exact p1.elim
theorem se_lst {es : List Expr} {irs : List E} {p} (h : SEs G W X es irs) : SE G W X (.List es p) (.lst irs) := fun σ H Z α ρ m Q R En q => by
  unfold evE at q
  refine ⟨_, pe_lst pa_all, ?_⟩
  refine h σ H Z α ρ m _ R En (q.bind.mono fun ds m1 H1 Z1 α1 F1 R1 p1 vs dvs => ?_)
  split at p1
  · rename_i hl
    exact ⟨by rw [dvs.len]; exact hl, fun r hr => p1.lst R1 dvs hr⟩
  · exact p1.elim
theorem se_lsto {es : List Expr} {irs : List E} {p} (h : SEs G W X es irs) : SE G W X (.List es p) (.lsto irs) := fun σ H Z α ρ m Q R En q => by
  unfold evE at q
  refine ⟨_, pe_lst pa_all, ?_⟩
  refine h σ H Z α ρ m _ R En (q.bind.mono fun ds m1 H1 Z1 α1 F1 R1 p1 vs dvs => ?_)
  split at p1
  · rename_i hl
    exact ⟨by rw [dvs.len]; exact hl, fun r hr => p1.lsto R1 dvs hr⟩
  · exact p1.elim
theorem insOf_cls {T : Tb} {H Z : Hp} {α : List Addr} {m : Mu} {v : V} {a : D} {c : Str} {fs : List (Str × D)} (R : Rep T H Z α m) (dv : Dn T Z α v a) (e : insOf m a = some (c, fs)) : ∃ p C dx vs, v = .ref p ∧ T.cls c = some C ∧ H p = some (.ins C dx vs) ∧ Dfs T Z α vs fs := by
  cases dv with
  | ins e1 e2 e3 => cases e; exact ⟨_, _, _, _, rfl, e1, R.sub _ _ e2, e3⟩
  | own e1 =>
    rename_i p k
    simp only [insOf] at e
    split at e
    · rename_i q
      cases e
      obtain ⟨C, dx, vs, h1, h2, h3⟩ := R.obj k p _ e1 q
      exact ⟨_, _, _, _, rfl, h1, h2, h3⟩
    · cases e
  | _ => cases e
theorem opD_ok {op : Operator} {H Z : Hp} {α : List Addr} {m : Mu} {v u : V} {a b : D} {Q : VK} (h : CxOk G N lv W sc X) (R : Rep G.T H Z α m) (dv : Dn G.T Z α v a) (du : Dn G.T Z α u b) (q : Post G.T W H Z α (opD G op a b m) (KQ G.T Q)) : oA X (binaryOp op) v u H Q := by
  unfold opD at q
  split at q
  · rename_i d e
    exact binD_ok R dv du h.good.gk.eK e q
  · split at q
    · rename_i c fs e
      split at q
      · rename_i g hg
        exact ⟨_, h.good.op c op g hg X rfl h.room h.gd, Z, α, m, a, b, fs, R, dv, du, e, q.noX⟩
      · exact q.elim
    · exact q.elim
theorem cmD_ok {op : CmpOp} {H Z : Hp} {α : List Addr} {m : Mu} {v u : V} {a b : D} {Q : VK} (h : CxOk G N lv W sc X) (R : Rep G.T H Z α m) (dv : Dn G.T Z α v a) (du : Dn G.T Z α u b) (q : Post G.T W H Z α (cmD G op a b m) (KQ G.T Q)) : oA X (compareOp op) v u H Q := by
  unfold cmD at q
  split at q
  · rename_i d e
    exact cmpD_ok h.room R dv du h.good.gk.eK e (q.now R _ (.bl _))
  · split at q
    · rename_i c fs e
      split at q
      · rename_i g hg
        exact ⟨_, h.good.cm c op g hg X rfl h.room h.gd, Z, α, m, a, b, fs, R, dv, du, e, q.noX⟩
      · exact q.elim
    · exact q.elim
theorem se_bin {a b : Expr} {x y : E} {op : Operator} {p} (h : CxOk G N lv W sc X) (ha : SE G W X a x) (hb : SE G W X b y) : SE G W X (.BinOp a op b p) (.bin op x y) := fun σ H Z α ρ m Q R En q => by
  unfold evE at q
  refine ⟨_, pe_op op_all pe_all pe_all, ?_⟩
  refine ha σ H Z α ρ m _ R En (q.bind.mono fun d m1 H1 Z1 α1 F1 R1 p1 v dv => ?_)
  refine hb σ H1 Z1 α1 ρ m1 _ R1 (En.mono F1.le) (p1.bind.mono fun d2 m2 H2 Z2 α2 F2 R2 p2 u du => ?_)
  exact opD_ok h R2 (dv.mono F2.le) du p2
theorem se_neg {a : Expr} {x : E} {p} (ha : SE G W X a x) : SE G W X (.UnaryOp .USub a p) (.neg x) := fun σ H Z α ρ m Q R En q => by
  unfold evE at q
  refine ⟨_, pe_un un_neg pe_all, ?_⟩
  refine ha σ H Z α ρ m _ R En (q.bind.mono fun d m1 H1 Z1 α1 F1 R1 p1 v dv => ?_)
  split at p1
  · cases dv
    exact ⟨_, rfl, p1.now R1 _ (.int _)⟩
  · exact p1.elim
theorem se_not {a : Expr} {x : E} {p} (ha : SE G W X a x) : SE G W X (.UnaryOp .Not a p) (.not x) := fun σ H Z α ρ m Q R En q => by
  unfold evE at q
  refine ⟨_, pe_not pe_all, ?_⟩
  refine ha σ H Z α ρ m _ R En (q.bind.mono fun d m1 H1 Z1 α1 F1 R1 p1 v dv => ?_)
  split at p1
  · cases dv
    exact ⟨_, rfl, p1.now R1 _ (.bl _)⟩
  · exact p1.elim
theorem se_cmp {a b : Expr} {x y : E} {op : CmpOp} {p} (h : CxOk G N lv W sc X) (hm : behindInMarks op b = false) (ha : SE G W X a x) (hb : SE G W X b y) : SE G W X (.Compare a [op] [b] p) (.cmp op x y) := fun σ H Z α ρ m Q R En q => by
  unfold evE at q
  refine ⟨_, pe_cmpR op_all pe_all pe_all hm, ?_⟩
  refine ha σ H Z α ρ m _ R En (q.bind.mono fun d m1 H1 Z1 α1 F1 R1 p1 v dv => ?_)
  refine hb σ H1 Z1 α1 ρ m1 _ R1 (En.mono F1.le) (p1.bind.mono fun d2 m2 H2 Z2 α2 F2 R2 p2 u du => ?_)
  exact cmD_ok h R2 (dv.mono F2.le) du p2
theorem st_cmp {a b : Expr} {x y : E} {op : CmpOp} {p} (h : CxOk G N lv W sc X) (hm : behindInMarks op b = false) (ha : SE G W X a x) (hb : SE G W X b y) : ST G W X (.Compare a [op] [b] p) (.cmp op x y) := fun σ H Z α ρ m Q R En q => by
  unfold evE at q
  refine ⟨_, pt_cmpR op_all pe_all pe_all hm, ?_⟩
  refine ha σ H Z α ρ m _ R En (q.bind.mono fun d m1 H1 Z1 α1 F1 R1 p1 v dv => ?_)
  refine hb σ H1 Z1 α1 ρ m1 _ R1 (En.mono F1.le) (p1.bind.mono fun d2 m2 H2 Z2 α2 F2 R2 p2 u du => ?_)
  refine cmD_ok h R2 (dv.mono F2.le) du (p2.mono fun d3 m3 H3 Z3 α3 F3 R3 ⟨c, e, q3⟩ w dw => ?_)
  subst e
  cases dw
  exact ⟨c, rfl, q3⟩
theorem se_chn {a b c : Expr} {x y z : E} {o1 o2 : CmpOp} {p} (h : CxOk G N lv W sc X) (hm : lastMarks [o1, o2] [b, c] = false) (ha : SE G W X a x) (hb : SE G W X b y) (hc : SE G W X c z) : SE G W X (.Compare a [o1, o2] [b, c] p) (.chn o1 o2 x y z) := fun σ H Z α ρ m Q R En q => by
  unfold evE at q
  refine ⟨_, pe_chain op_all op_all pe_all pe_all pe_all hm, ?_⟩
  refine ha σ H Z α ρ m _ R En (q.bind.mono fun d m1 H1 Z1 α1 F1 R1 p1 v dv => ?_)
  refine hb σ H1 Z1 α1 ρ m1 _ R1 (En.mono F1.le) (p1.bind.mono fun d2 m2 H2 Z2 α2 F2 R2 p2 u du => ?_)
  split at p2
  · rename_i e
    refine cmpD_ok h.room R2 (dv.mono F2.le) du h.good.gk.eK e ⟨true, rfl, ?_⟩
    rw [if_pos rfl]
    refine hc σ H2 Z2 α2 ρ m2 _ R2 (En.mono (F1.le.trans F2.le)) (p2.bind.mono fun d3 m3 H3 Z3 α3 F3 R3 p3 w dw => ?_)
    unfold liftB at p3
    split at p3
    · rename_i e2
      exact cmpD_ok h.room R3 (du.mono F3.le) dw h.good.gk.eK e2 (p3.now R3 _ (.bl _))
    · exact p3.elim
  · rename_i e
    refine cmpD_ok h.room R2 (dv.mono F2.le) du h.good.gk.eK e ⟨false, rfl, ?_⟩
    rw [if_neg Bool.false_ne_true]
    exact p2.now R2 _ (.bl _)
  · exact p2.elim
theorem st_chn {a b c : Expr} {x y z : E} {o1 o2 : CmpOp} {p} (h : CxOk G N lv W sc X) (hm : lastMarks [o1, o2] [b, c] = false) (ha : SE G W X a x) (hb : SE G W X b y) (hc : SE G W X c z) : ST G W X (.Compare a [o1, o2] [b, c] p) (.chn o1 o2 x y z) := fun σ H Z α ρ m Q R En q => by
  unfold evE at q
  refine ⟨_, pt_chain op_all op_all pe_all pe_all pe_all hm, ?_⟩
  refine ha σ H Z α ρ m _ R En (q.bind.mono fun d m1 H1 Z1 α1 F1 R1 p1 v dv => ?_)
  refine hb σ H1 Z1 α1 ρ m1 _ R1 (En.mono F1.le) (p1.bind.mono fun d2 m2 H2 Z2 α2 F2 R2 p2 u du => ?_)
  split at p2
  · rename_i e
    refine cmpD_ok h.room R2 (dv.mono F2.le) du h.good.gk.eK e ⟨true, rfl, ?_⟩
    rw [if_pos rfl]
    refine hc σ H2 Z2 α2 ρ m2 _ R2 (En.mono (F1.le.trans F2.le)) (p2.bind.mono fun d3 m3 H3 Z3 α3 F3 R3 p3 w dw => ?_)
    unfold liftB at p3
    split at p3
    · rename_i e2
      obtain ⟨k, ek, q3⟩ := p3.now R3
      cases ek
      exact cmpD_ok h.room R3 (du.mono F3.le) dw h.good.gk.eK e2 ⟨_, rfl, q3⟩
    · exact p3.elim
  · rename_i e
    obtain ⟨k, ek, q3⟩ := p2.now R2
    cases ek
    refine cmpD_ok h.room R2 (dv.mono F2.le) du h.good.gk.eK e ⟨false, rfl, ?_⟩
    rw [if_neg Bool.false_ne_true]
    exact ⟨_, rfl, q3⟩
  · exact p2.elim
/-! and, or -/
theorem se_and {p : Pos} : ∀ {es : List Expr} {irs : List E} {ir : E}, All2 (SE G W X) es irs → andE irs = some ir → SE G W X (.BoolOp .And es p) ir
  | _, _, _, .nil, e => by cases e
  | _, _, _, .cons h .nil, e => by
    cases e
    exact fun σ H Z α ρ m Q R En q => ⟨_, pe_one pe_all, h σ H Z α ρ m Q R En q⟩
  | _ :: _ :: _, x :: y :: ys, _, .cons h (.cons h2 r), e => fun σ H Z α ρ m Q R En q => by
    simp only [andE, Option.map_eq_some_iff] at e
    obtain ⟨ir2, e, rfl⟩ := e
    have ih := se_and (p := p) (All2.cons h2 r) (ir := ir2) e
    unfold evE at q
    refine ⟨_, pe_and pe_all (pe_all (X := X)), ?_⟩
    refine h σ H Z α ρ m _ R En (q.bind.mono fun d m1 H1 Z1 α1 F1 R1 p1 v dv => ?_)
    split at p1
    · cases dv
      exact ⟨true, rfl, by rw [if_pos rfl]; exact ih σ H1 Z1 α1 ρ m1 _ R1 (En.mono F1.le) p1⟩
    · cases dv
      exact ⟨false, rfl, by rw [if_neg Bool.false_ne_true]; exact p1.now R1 _ (.bl _)⟩
    · exact p1.elim
theorem se_or {p : Pos} : ∀ {es : List Expr} {irs : List E} {ir : E}, All2 (SE G W X) es irs → orE irs = some ir → SE G W X (.BoolOp .Or es p) ir
  | _, _, _, .nil, e => by cases e
  | _, _, _, .cons h .nil, e => by
    cases e
    exact fun σ H Z α ρ m Q R En q => ⟨_, pe_one pe_all, h σ H Z α ρ m Q R En q⟩
  | _ :: _ :: _, x :: y :: ys, _, .cons h (.cons h2 r), e => fun σ H Z α ρ m Q R En q => by
    simp only [orE, Option.map_eq_some_iff] at e
    obtain ⟨ir2, e, rfl⟩ := e
    have ih := se_or (p := p) (All2.cons h2 r) (ir := ir2) e
    unfold evE at q
    refine ⟨_, pe_or pe_all (pe_all (X := X)), ?_⟩
    refine h σ H Z α ρ m _ R En (q.bind.mono fun d m1 H1 Z1 α1 F1 R1 p1 v dv => ?_)
    split at p1
    · cases dv
      exact ⟨true, rfl, by rw [if_pos rfl]; exact p1.now R1 _ (.bl _)⟩
    · cases dv
      exact ⟨false, rfl, by rw [if_neg Bool.false_ne_true]; exact ih σ H1 Z1 α1 ρ m1 _ R1 (En.mono F1.le) p1⟩
    · exact p1.elim
theorem sw_and {p : Pos} : ∀ {es : List Expr} {irs : List E} {ir : E}, All2 (ST G W X) es irs → andE irs = some ir → SW G W X (.BoolOp .And es p) ir
  | _, _, _, .nil, e => by cases e
  | _, _, _, .cons h .nil, e => by
    cases e
    exact fun σ H Z α ρ m Q R En q => ⟨_, pw_and1 pt_all, h σ H Z α ρ m Q R En q⟩
  | _ :: _ :: _, x :: y :: ys, _, .cons h (.cons h2 r), e => fun σ H Z α ρ m Q R En q => by
    simp only [andE, Option.map_eq_some_iff] at e
    obtain ⟨ir2, e, rfl⟩ := e
    have ih := sw_and (p := p) (All2.cons h2 r) (ir := ir2) e
    unfold evE at q
    refine ⟨_, pw_and pt_all (tB' := fun σ H Q => ∃ t, PW X _ t ∧ t σ H Q) ⟨fun w pins s σ H Q I ⟨_, h, q⟩ => h.run w pins s σ H Q I q⟩, ?_⟩
    refine h σ H Z α ρ m _ R En (q.bind.mono fun d m1 H1 Z1 α1 F1 R1 p1 => ?_)
    split at p1
    · exact ⟨true, rfl, by rw [if_pos rfl]; exact ih σ H1 Z1 α1 ρ m1 _ R1 (En.mono F1.le) p1⟩
    · obtain ⟨k, ek, q3⟩ := p1.now R1
      cases ek
      exact ⟨false, rfl, by rw [if_neg Bool.false_ne_true]; exact q3⟩
    · exact p1.elim
theorem sw_or {p : Pos} : ∀ {es : List Expr} {irs : List E} {ir : E}, All2 (ST G W X) es irs → orE irs = some ir → SW G W X (.BoolOp .Or es p) ir
  | _, _, _, .nil, e => by cases e
  | _, _, _, .cons h .nil, e => by
    cases e
    exact fun σ H Z α ρ m Q R En q => ⟨_, pw_or1 pt_all, h σ H Z α ρ m Q R En q⟩
  | _ :: _ :: _, x :: y :: ys, _, .cons h (.cons h2 r), e => fun σ H Z α ρ m Q R En q => by
    simp only [orE, Option.map_eq_some_iff] at e
    obtain ⟨ir2, e, rfl⟩ := e
    have ih := sw_or (p := p) (All2.cons h2 r) (ir := ir2) e
    unfold evE at q
    refine ⟨_, pw_or pt_all (tB' := fun σ H Q => ∃ t, PW X _ t ∧ t σ H Q) ⟨fun w pins s σ H Q I ⟨_, h, q⟩ => h.run w pins s σ H Q I q⟩, ?_⟩
    refine h σ H Z α ρ m _ R En (q.bind.mono fun d m1 H1 Z1 α1 F1 R1 p1 => ?_)
    split at p1
    · obtain ⟨k, ek, q3⟩ := p1.now R1
      cases ek
      exact ⟨true, rfl, by rw [if_pos rfl]; exact q3⟩
    · exact ⟨false, rfl, by rw [if_neg Bool.false_ne_true]; exact ih σ H1 Z1 α1 ρ m1 _ R1 (En.mono F1.le) p1⟩
    · exact p1.elim
theorem SW.st {e : Expr} {ir : E} (h : SW G W X e ir) : ST G W X e ir := fun σ H Z α ρ m Q R En q => let ⟨t, h1, h2⟩ := h σ H Z α ρ m Q R En q; ⟨t, h1.pt, h2⟩
theorem st_not {a : Expr} {x : E} {p} (ha : ST G W X a x) : ST G W X (.UnaryOp .Not a p) (.not x) := fun σ H Z α ρ m Q R En q => by
  unfold evE at q
  refine ⟨_, pt_not pt_all, ?_⟩
  refine ha σ H Z α ρ m _ R En (q.bind.mono fun d m1 H1 Z1 α1 F1 R1 p1 => ?_)
  split at p1
  · obtain ⟨k, ek, q3⟩ := p1.now R1
    cases ek
    exact ⟨_, rfl, q3⟩
  · exact p1.elim
theorem st_tru {a : Expr} {x : E} (h : CxOk G N lv W sc X) (hb : isBO a = false) (ha : SE G W X a x) : ST G W X a (.tru x) := fun σ H Z α ρ m Q R En q => by
  unfold evE at q
  refine ⟨_, pt_truth pe_all (tru_he hb), ?_⟩
  refine ha σ H Z α ρ m _ R En (q.bind.mono fun d m1 H1 Z1 α1 F1 R1 p1 v dv => ?_)
  unfold liftB at p1
  split at p1
  · rename_i e
    obtain ⟨k, ek, q3⟩ := p1.now R1
    cases ek
    exact ⟨_, truD_ok R1 dv h.good.gk.eK e, q3⟩
  · exact p1.elim
theorem se_ife {t a b : Expr} {x y z : E} {p} (ht : ST G W X t x) (ha : SE G W X a y) (hb : SE G W X b z) : SE G W X (.IfExp t a b p) (.ife x y z) := fun σ H Z α ρ m Q R En q => by
  unfold evE at q
  refine ⟨_, pe_ifExp pt_all pe_all pe_all, ?_⟩
  refine ht σ H Z α ρ m _ R En (q.bind.mono fun d m1 H1 Z1 α1 F1 R1 p1 => ?_)
  split at p1
  · exact ⟨true, rfl, by rw [if_pos rfl]; exact ha σ H1 Z1 α1 ρ m1 _ R1 (En.mono F1.le) p1⟩
  · exact ⟨false, rfl, by rw [if_neg Bool.false_ne_true]; exact hb σ H1 Z1 α1 ρ m1 _ R1 (En.mono F1.le) p1⟩
  · exact p1.elim
theorem se_idx {a b : Expr} {x y : E} {p} (h : CxOk G N lv W sc X) (hs : PlainIx b) (ha : SE G W X a x) (hb : SE G W X b y) : SE G W X (.Subscript a b p) (.idx x y) := fun σ H Z α ρ m Q R En q => by
  unfold evE at q
  refine ⟨_, pe_ix ix_all pe_all pe_all hs, ?_⟩
  refine ha σ H Z α ρ m _ R En (q.bind.mono fun d m1 H1 Z1 α1 F1 R1 p1 v dv => ?_)
  refine hb σ H1 Z1 α1 ρ m1 _ R1 (En.mono F1.le) (p1.bind.mono fun d2 m2 H2 Z2 α2 F2 R2 p2 u du => ?_)
  unfold liftO at p2
  split at p2
  · rename_i e
    exact idxD_ok h.good.gk.eK R2 (dv.mono F2.le) du e p2
  · exact p2.elim
theorem so_none : SO G W X none none := fun σ H Z α ρ m Q R En q => by
  unfold evO at q
  exact ⟨_, po_none, q.now R⟩
theorem so_some {a : Expr} {x : E} (ha : SE G W X a x) : SO G W X (some a) (some x) := fun σ H Z α ρ m Q R En q => by
  unfold evO at q
  refine ⟨_, po_some pe_all, ?_⟩
  refine ha σ H Z α ρ m _ R En (q.bind.mono fun d m1 H1 Z1 α1 F1 R1 p1 v dv => ?_)
  split at p1
  · cases dv
    exact ⟨_, rfl, p1.now R1⟩
  · exact p1.elim
theorem se_slc {a : Expr} {x : E} {lo hi : Option Expr} {l u : Option E} {p p2} (h : CxOk G N lv W sc X) (ha : SE G W X a x) (hl : SO G W X lo l) (hu : SO G W X hi u) : SE G W X (.Subscript a (.Slice lo hi none p2) p) (.slc x l u) := fun σ H Z α ρ m Q R En q => by
  unfold evE at q
  refine ⟨_, pe_slice sl_all pe_all po_all po_all, ?_⟩
  refine ha σ H Z α ρ m _ R En (q.bind.mono fun d m1 H1 Z1 α1 F1 R1 p1 v dv => ?_)
  refine hl σ H1 Z1 α1 ρ m1 _ R1 (En.mono F1.le) (p1.bind.mono fun o1 m2 H2 Z2 α2 F2 R2 p2 => ?_)
  refine hu σ H2 Z2 α2 ρ m2 _ R2 (En.mono (F1.le.trans F2.le)) (p2.bind.mono fun o2 m3 H3 Z3 α3 F3 R3 p3 => ?_)
  unfold liftO at p3
  split at p3
  · rename_i e
    exact slcD_ok h.good.gk.eK R3 (dv.mono (F2.le.trans F3.le)) e p3
  · exact p3.elim
end
end Pm

set_option maxRecDepth 100000
set_option maxHeartbeats 4000000
/-! Calls, fields, methods -/
namespace Pm
open PySem L2
section
variable {G : Gm} {W : XK} {X : Cx} {N : List Str} {lv : Nat} {sc : Scope}
theorem CxOk.passes (h : CxOk G N lv W sc X) : Passes (L2.CX X.prog X.w) X W := passes_call h.tk fun _ _ _ _ z => z
theorem glob_ok (h : CxOk G N lv W sc X) {f : Str} (ok : okName f = true) : (f == ("__debug__" : Str)) = false ∧ (f == ("__classdict__" : Str)) = false ∧ f ≠ "__name__" := by
  unfold okName at ok
  simp only [Bool.and_eq_true, Bool.not_eq_true', decide_eq_true_eq] at ok
  exact ⟨ok.1.1, ok.1.2, ok.2⟩
theorem spD_of {T : Tb} {H Z : Hp} {α : List Addr} {m : Mu} {vs : List V} {ds : List D} {Q : VK} {n : Nat} {g : Fn} (R : Rep T H Z α m) (dv : Dns T Z α vs ds) (hn : ∀ ds m, ds.length ≠ n → g ds m = .no) (q : Post T W H Z α (g ds m) (KQ T Q)) : spD T n g vs H Q W := by
  refine ⟨?_, Z, α, m, ds, R, dv, q⟩
  rw [dv.len]
  by_cases e : ds.length = n
  · exact e
  · rw [hn ds m e] at q; exact q.elim
/-- f(..), an own def -/
theorem se_fn {f : Str} {p pos : Pos} {es : List Expr} {irs : List E} (h : CxOk G N lv W sc X) (ok : okName f = true) (hg : isGl (sc.names.lookup f) = true) (hs : es.all noStar = true) (ha : All2 (SE G W X) es irs) :
    SE G W X (.Call (.Name f p) es [] pos) (.fn f irs) := fun σ H Z α ρ m Q R En q => by
  unfold evE at q
  split at q
  · rename_i g hf
    obtain ⟨a, fd, ps, k, h1, h2, h3, h4, h5, h6⟩ := h.good.fn f g hf
    cases ha with
    | nil =>
      refine ⟨_, pe_g0 h3 h.gd (h.room.mono h5) (h.glob f hg) h1 h2 h4 h.passes (glob_ok h ok).1, ?_⟩
      unfold evEs at q
      exact spD_of R .nil h6 q
    | cons a1 ar =>
      have hs' := hs
      rw [List.all_cons, Bool.and_eq_true] at hs'
      refine ⟨_, pe_g h3 h.gd (h.room.mono h5) (h.glob f hg) h1 h2 h4 h.passes pa_all (glob_ok h ok).1 (star_cons hs'.1) (star_all hs'.2), ?_⟩
      refine ses_of hs (.cons a1 ar) σ H Z α ρ m _ R En (q.bind.mono fun ds m1 H1 Z1 α1 F1 R1 p1 vs dvs => ?_)
      exact spD_of R1 dvs h6 p1
  · exact q.elim
/-- C(..), an own class -/
theorem Post.made {T : Tb} {H Z : Hp} {α : List Addr} {m : Mu} {vs : List V} {ds : List D} {Q : VK} {c : Str} {C : Addr} {n : Nat} {gi : Fn} {frz : Bool} (R : Rep T H Z α m) (dv : Dns T Z α vs ds) (hc : T.cls c = some C) (hn : ∀ ds m, ds.length ≠ n → gi ds m = .no)
    (q : Post T W H Z α (mkFn c frz gi ds m) (KQ T Q)) (x dx : Addr) (hx : H x = none) (hd : H dx = none) (ne : dx ≠ x) :
    spD T n gi (.ref x :: vs) (upd (upd H dx (.own x)) x (.ins C dx [])) (fun v H2 => v = .non ∧ Q (.ref x) H2) W := by
  have grow : ∀ a o, H a = some o → (upd H dx (.own x)) a = some o := fun a o e => by rw [upd_ne (ne_of_none e hd)]; exact e
  have hx1 : (upd H dx (.own x)) x = none := by rw [upd_ne (Ne.symm ne)]; exact hx
  have R1 := R.grow grow
  have le : Le Z α Z (α ++ [x]) := ⟨fun _ _ e => e, [x], rfl⟩
  have R2 : Rep T (upd (upd H dx (.own x)) x (.ins C dx [])) Z (α ++ [x]) (m ++ [.ins c []]) := R1.push hx1 ⟨C, dx, [], hc, upd_same, .nil⟩
  have F2 : Fut H Z α (upd (upd H dx (.own x)) x (.ins C dx [])) Z (α ++ [x]) := (Fut.grow grow).trans (Fut.push hx1)
  have ek : (α ++ [x])[m.length]? = some x := by
    rw [← R.len, List.getElem?_append_right (Nat.le_refl _), Nat.sub_self]
    rfl
  unfold mkFn at q
  refine spD_of R2 (.cons (.own ek) (dv.mono le)) hn ((Post.later q.bind F2).mono fun r m1 H1 Z1 α1 F1 Q1 p1 v dr => ?_)
  split at p1
  · rename_i c2 fs e
    cases dr
    split at p1
    · rename_i hcc
      subst hcc
      have ek1 := F1.le.get ek
      obtain ⟨C', dx', ws, h1, h2, h3⟩ := Q1.obj _ _ _ ek1 e
      rw [hc] at h1; cases h1
      split at p1
      · refine ⟨rfl, p1 _ _ _ (Fut.freeze Q1 ek1 e rfl) (Q1.freeze ek1 e rfl h2) _ (.ins hc upd_same (h3.mono ?_))⟩
        exact (Fut.freeze (u := .ins C dx' ws) Q1 ek1 e rfl).le
      · exact ⟨rfl, p1.now Q1 _ (.own ek1)⟩
    · exact p1.elim
  · exact p1.elim
theorem se_mk {f : Str} {p pos : Pos} {es : List Expr} {irs : List E} (h : CxOk G N lv W sc X) (ok : okName f = true) (hg : isGl (sc.names.lookup f) = true) (hs : es.all noStar = true) (ha : All2 (SE G W X) es irs) :
    SE G W X (.Call (.Name f p) es [] pos) (.mk f irs) := fun σ H Z α ρ m Q R En q => by
  unfold evE at q
  split at q
  · rename_i g hf
    obtain ⟨C, a, fd, ps, k, gi, frz, h1, h2, h3, h4, h5, h6, h7, rfl⟩ := h.good.cs f g hf
    cases ha with
    | nil =>
      refine ⟨_, pe_new0 h3 h4 h.gd (h.room.mono h6) (h.glob f hg) h2 h5 h.passes (glob_ok h ok).1, ?_⟩
      unfold evEs at q
      exact fun x dx hx hd ne => Post.made R .nil h1 h7 q x dx hx hd ne
    | cons a1 ar =>
      have hs' := hs
      rw [List.all_cons, Bool.and_eq_true] at hs'
      refine ⟨_, pe_new h3 h4 h.gd (h.room.mono h6) (h.glob f hg) h2 h5 h.passes pa_all (glob_ok h ok).1 (star_cons hs'.1) (star_all hs'.2), ?_⟩
      refine ses_of hs (.cons a1 ar) σ H Z α ρ m _ R En (q.bind.mono fun ds m1 H1 Z1 α1 F1 R1 p1 vs dvs x dx hx hd ne => ?_)
      exact Post.made R1 dvs h1 h7 p1 x dx hx hd ne
  · exact q.elim
/-! built-ins -/
def bnName : Bn → Str
  | .len => "len" | .min => "min" | .max => "max" | .int => "int" | .tuple => "tuple" | .list => "list" | .listO => "list" | .isi => "isinstance" | .any => "any" | .all => "all"
theorem bnOf_name {f : Str} {o : Bool} {b : Bn} (h : bnOf f o = some b) : f = bnName b := by
  unfold bnOf at h
  repeat' (split at h)
  all_goals first | (cases h; assumption) | skip
  all_goals (cases h)
theorem bn_boot (b : Bn) : bootBuiltins (bnName b) = some b.id := by cases b <;> decide +kernel
theorem bn_bl (h : CxOk G N lv W sc X) (b : Bn) : X.mg (bnName b) = none := h.good.bl _ (by cases b <;> decide +kernel)
theorem se_blt {f : Str} {p pos : Pos} {e : Expr} {es : List Expr} {irs : List E} {b : Bn} {o : Bool} (h : CxOk G N lv W sc X) (ok : okName f = true) (hg : isGl (sc.names.lookup f) = true) (hs : (e :: es).all noStar = true) (ha : All2 (SE G W X) (e :: es) irs) (hb : bnOf f o = some b) :
    SE G W X (.Call (.Name f p) (e :: es) [] pos) (.blt b irs) := fun σ H Z α ρ m Q R En q => by
  obtain rfl := bnOf_name hb
  have hs' := hs
  rw [List.all_cons, Bool.and_eq_true] at hs'
  unfold evE at q
  have key : tAA X (e :: es) σ H fun vs H1 => cA X b.id vs H1 Q := ses_of hs ha σ H Z α ρ m _ R En (q.bind.mono fun ds m1 H1 Z1 α1 F1 R1 p1 vs dvs => bltD_ok h.good.gk h.calm R1 dvs p1)
  have bo := bn_boot b
  have gk := glob_ok h ok
  have hm := bn_bl h b
  cases hi : b.id with
  | builtin id => rw [hi] at bo key; exact ⟨_, pe_callB call_all (h.glob _ hg) hm bo pa_all gk.2.2 gk.1 (star_cons hs'.1) (star_all hs'.2), key⟩
  | type id => rw [hi] at bo key; exact ⟨_, pe_callTy call_all (h.glob _ hg) hm bo pa_all gk.2.2 gk.1 (star_cons hs'.1) (star_all hs'.2), key⟩
  | _ => cases b <;> cases hi
end
end Pm

set_option maxRecDepth 100000
set_option maxHeartbeats 4000000
/-! Methods, fields, what is walked, targets -/
namespace Pm
open PySem L2
section
variable {G : Gm} {W : XK} {X : Cx} {N : List Str} {lv : Nat} {sc : Scope}
def argsR (X : Cx) (es : List Expr) : TA := match es with
  | [] => tNil
  | e :: r => tAA X (e :: r)
/-- o.m(..) of an own class: the class is told where the object has come -/
theorem pe_metA (gd : X.A.guards = some []) {o : Expr} {m : Str} {es : List Expr} {apos pos : Pos} (ho : plainO o = true) (hs : es.all noStar = true) (hl : es.length < 30) (hp : (apos.endLine == pos.line) = true) :
    PE X (.Call (.Attribute o m apos) es [] pos) (fun σ H Q => tA X o σ H fun x H1 => ∃ (C a dx f : Addr) (vs : List (Str × V)) (fd : FuncData) (ps : List Str) (k : Nat) (sp : Sp) (E : XK), x = .ref a ∧ H1 a = some (.ins C dx vs) ∧ Cls X.K C ∧ Meth X.K C m f ∧
      FnG X.prog X.w X.K X.mg X.base k f fd ps sp ∧ Room k X.A ∧ Binds X.K fd ps [] ∧ Passes (L2.CX X.prog X.w) X E ∧ vs.lookup m = none ∧ argsR X es σ H1 fun us H2 => sp (x :: us) H2 Q E) := by
  refine ⟨fun pins s σ H Q I h => ?_⟩
  obtain ⟨pl, ht⟩ := meth_ht (m := m) (apos := apos) (pos := pos) (env := X.env) ho hs hl hp
  refine PySem.W.methodCall_KW (pl := pl) (thn (pe_all.run pins s σ H _ I h) fun u s1 ⟨x, H1, I1, rx, C, a, dx, f, vs, fd, ps, k, sp, E, ex, ea, c, hm, F, hr, hb, hx, l, q⟩ => ?_) ht
  subst ex
  obtain rfl : u = Value.ref a := rx
  refine getmeth_ok I1 ea c hm l ?_
  cases es with
  | nil => exact PySem.W.callWith_K0 (first := [.ref a]) I1.kIn hm.kp (run_g (us := [.ref a]) (vs := [.ref a]) F gd hr hb hx I1 (.cons rfl .nil) q)
  | cons e es =>
    rw [List.all_cons, Bool.and_eq_true] at hs
    refine PySem.W.callWith_K (first := [.ref a]) (h₀ := X.base) I1.ok.mod.kin hm.kp (thn (pa_all.run pos pins s1 σ H1 _ I1 q) fun us s2 ⟨ws, H2, I2, r, q2⟩ => ⟨I2.kIn, ?_⟩) (star_cons hs.1) (star_all hs.2)
    refine run_g (us := .ref a :: us) (vs := .ref a :: ws) F gd hr hb hx I2 (.cons rfl r) ?_
    exact q2
theorem args_ok {es : List Expr} {irs : List E} (hs : es.all noStar = true) (ha : All2 (SE G W X) es irs) {σ : St} {H Z : Hp} {α : List Addr} {ρ : Env} {m : Mu} {Q : List V → Hp → Prop} (R : Rep G.T H Z α m) (En : EnvR G.T Z α σ ρ)
    (q : Post G.T W H Z α (evEs G irs ρ m) (fun ds _ H' Z' α' => ∀ vs, Dns G.T Z' α' vs ds → Q vs H')) : argsR X es σ H Q := by
  cases ha with
  | nil =>
    unfold evEs at q
    exact q.now R [] .nil
  | cons a1 ar => exact ses_of hs (.cons a1 ar) σ H Z α ρ m _ R En q
theorem se_met {o : Expr} {f : Str} {apos pos : Pos} {es : List Expr} {irs : List E} {x : E} (h : CxOk G N lv W sc X) (hpo : plainO o = true) (hs : es.all noStar = true) (hl : es.length < 30) (hp : (apos.endLine == pos.line) = true) (ho : SE G W X o x) (ha : All2 (SE G W X) es irs) :
    SE G W X (.Call (.Attribute o f apos) es [] pos) (.met x f irs) := fun σ H Z α ρ m Q R En q => by
  unfold evE at q
  refine ⟨_, pe_metA h.gd hpo hs hl hp, ?_⟩
  refine ho σ H Z α ρ m _ R En (q.bind.mono fun d m1 H1 Z1 α1 F1 R1 p1 v dv => ?_)
  split at p1
  · rename_i g eg
    unfold metF at eg
    split at eg
    · rename_i c fs e
      split at eg
      · rename_i e1
        obtain ⟨a, C, dx, vs, rfl, h1, h2, h3⟩ := insOf_cls R1 dv e
        obtain ⟨fa, fd, ps, k, hm, F, hb, hk, hn⟩ := h.good.me c C f g eg h1
        refine ⟨C, a, dx, fa, vs, fd, ps, k, _, W, rfl, h2, (h.good.gk.cls c C h1).1, hm, F, h.room.mono hk, hb, h.passes, (h3.lookup f).2 e1, ?_⟩
        refine args_ok hs ha R1 (En.mono F1.le) (p1.bind.mono fun ds m2 H2 Z2 α2 F2 R2 p2 us dus => ?_)
        exact spD_of R2 (.cons (dv.mono F2.le) dus) hn p2
      · cases eg
    · cases eg
  · exact p1.elim
/-! methods of lists -/
def mtName : Mt → Str
  | .append => "append" | .pop => "pop" | .extend => "extend"
theorem mtOf_name {x : Str} {f : Mt} (e : mtOf x = some f) : x = mtName f := by
  unfold mtOf at e
  repeat' (split at e)
  all_goals first | (cases e; assumption) | skip
  all_goals (cases e)
theorem mt_slot (f : Mt) : Nonempty (Slot "list" (mtName f) f.id) ∧ typeOf (.builtin f.id) = pure (.type "method_descriptor") := by
  cases f
  · exact ⟨⟨PySem.F.slot_list_append⟩, PySem.F.type_list_append⟩
  · exact ⟨⟨PySem.F.slot_list_pop⟩, PySem.F.type_list_pop⟩
  · exact ⟨⟨PySem.F.slot_list_extend⟩, PySem.F.type_list_extend⟩
theorem se_bm {o : Expr} {nm : Str} {f : Mt} {apos pos : Pos} {es : List Expr} {irs : List E} {x : E} (hf : mtOf nm = some f) (hpo : plainO o = true) (hs : es.all noStar = true) (hl : es.length < 29) (hp : (apos.endLine == pos.line) = true) (ho : SE G W X o x) (ha : All2 (SE G W X) es irs) :
    SE G W X (.Call (.Attribute o nm apos) es [] pos) (.bm x f irs) := fun σ H Z α ρ m Q R En q => by
  obtain ⟨⟨h2⟩, h3⟩ := mt_slot f
  obtain rfl := mtOf_name hf
  unfold evE at q
  cases ha with
  | nil =>
    refine ⟨_, pe_bm0 PySem.F.plainAttrs_list h2 h3 mt_all pe_all (attrBase_plain hpo) hp, ?_⟩
    refine ho σ H Z α ρ m _ R En (q.bind.mono fun d m1 H1 Z1 α1 F1 R1 p1 v dv => ?_)
    split at p1
    · unfold evEs at p1
      exact mtD_ok R1 dv .nil p1
    · exact p1.elim
  | cons a1 ar =>
    have hs' := hs
    rw [List.all_cons, Bool.and_eq_true] at hs'
    refine ⟨_, pe_bm PySem.F.plainAttrs_list h2 h3 mt_all pe_all pa_all (attrBase_plain hpo) ?_ hp (star_cons hs'.1) (star_all hs'.2), ?_⟩
    · rw [star_few hs]
      show (true && true && decide (_ + 0 + 0 < 30)) = true
      simp only [Bool.true_and, decide_eq_true_eq, Nat.add_zero]
      simp only [List.length_cons] at hl ⊢
      omega
    refine ho σ H Z α ρ m _ R En (q.bind.mono fun d m1 H1 Z1 α1 F1 R1 p1 v dv => ?_)
    split at p1
    · rename_i xs hx
      obtain ⟨a, ws, rfl, h4, h5⟩ := lookT_at R1 dv hx
      refine ⟨.inl ⟨rfl, ws, SqL.of h4⟩, ?_⟩
      exact ses_of hs (.cons a1 ar) σ H1 Z1 α1 ρ m1 _ R1 (En.mono F1.le) (p1.bind.mono fun ds m2 H2 Z2 α2 F2 R2 p2 us dus => (mtD_ok (X := X) R2 (dv.mono F2.le) dus p2).2)
    · exact p1.elim
/-! fields -/
theorem se_att {o : Expr} {f : Str} {pos : Pos} {x : E} (h : CxOk G N lv W sc X) (hpo : plainO o = true) (ho : SE G W X o x) : SE G W X (.Attribute o f pos) (.att x f) := fun σ H Z α ρ m Q R En q => by
  have hb : attributeBase o f X.env (eval o X.env) = eval o X.env := attrBase_plain hpo
  have gd := h.gd
  have pe : PE X (.Attribute o f pos) (fun σ H Q => tA X o σ H fun x H1 => ∃ (C a dx : Addr) (vs : List (Str × V)), x = .ref a ∧ H1 a = some (.ins C dx vs) ∧ Cls X.K C ∧ ((∃ v, NoAttr X.K C f ∧ vs.lookup f = some v ∧ Q v H1) ∨
      ∃ (p g : Addr) (fd : FuncData) (ps : List Str) (k : Nat) (sp : Sp) (E : XK), PropOf X.K C f p g ∧ FnG X.prog X.w X.K X.mg X.base k g fd ps sp ∧ Room (k + 1) X.A ∧ Binds X.K fd ps [] ∧ Passes (L2.CX X.prog X.w) X.nox E ∧ sp [x] H1 Q E)) := by
    refine ⟨fun pins s σ H Q I h => ?_⟩
    refine attr_of hb (thn (pe_all.run pins s σ H _ I h) fun u s1 ⟨x, H1, I1, rx, C, a, dx, vs, ex, ea, c, q⟩ => ?_)
    subst ex
    obtain rfl : u = Value.ref a := rx
    rcases q with ⟨v, n, l, q⟩ | ⟨p, g, fd, ps, k, sp, E, hp, F, hr, hb, hx, q⟩
    · exact getattr_ok I1 ea c n l fun u s2 I2 r => ⟨v, H1, I2, r, q⟩
    · exact get_g I1 ea c hp F gd hr hb hx q
  unfold evE at q
  refine ⟨_, pe, ?_⟩
  refine ho σ H Z α ρ m _ R En (q.bind.mono fun d m1 H1 Z1 α1 F1 R1 p1 v dv => ?_)
  unfold attD at p1
  split at p1
  · rename_i c fs e
    obtain ⟨a, C, dx, vs, rfl, h1, h2, h3⟩ := insOf_cls R1 dv e
    refine ⟨C, a, dx, vs, rfl, h2, (h.good.gk.cls c C h1).1, ?_⟩
    split at p1
    · rename_i hfl
      split at p1
      · rename_i d1 hd
        obtain ⟨w, hw, dw⟩ := (h3.lookup f).1 d1 hd
        exact .inl ⟨w, h.good.gk.fl c C f h1 hfl, hw, p1.now R1 w dw⟩
      · exact p1.elim
    · split at p1
      · rename_i g hg
        obtain ⟨p, ga, fd, ps, k, hp, F, hb2, hk, hl⟩ := h.good.pr c C f g hg h1
        refine .inr ⟨p, ga, fd, ps, k, _, E0, hp, F, h.room.mono hk, hb2, passL, ?_⟩
        exact ⟨by simp [hl], Z1, α1, m1, [d], R1, .cons dv .nil, p1.noX⟩
      · exact p1.elim
  · exact p1.elim
end
end Pm

set_option maxRecDepth 100000
set_option maxHeartbeats 4000000
/-! What is walked, targets -/
namespace Pm
open PySem L2
section
variable {G : Gm} {W : XK} {X : Cx} {N : List Str} {lv : Nat} {sc : Scope} {T : Tb} {Z : Hp} {α : List Addr} {a b : Addr} {vs ws : List V} {ds es : List D}
theorem wd_seq {J : L2.It} {Gd : Hp → Prop} (w : Walk J vs.length Gd (YAt vs)) (hg : ∀ H, (∀ a o, Z a = some o → H a = some o) → Gd H) (hv : Dns T Z α vs ds) : WalkD T J ds Z α := by
  refine ⟨Gd, YAt vs, hv.len ▸ w, hg, fun i H x H' hi _ y Z2 α2 m le R => ?_⟩
  obtain ⟨rfl, hx⟩ := y
  obtain ⟨d, e1, e2⟩ := hv.get' hx
  exact ⟨Z2, d, e1, .rfl', R, e2.mono le⟩
theorem wd_list (h : SqL T.K Z a vs) (hv : Dns T Z α vs ds) : WalkD T (Itl T.K a) ds Z α := wd_seq walk_list (fun H e => sqL_mono e h) hv
theorem wd_tup (h : Z a = some (.tup vs)) (hv : Dns T Z α vs ds) : WalkD T (Itt T.K a) ds Z α := wd_seq walk_tup (fun H e => SqT.of (e _ _ h)) hv
theorem wd_range {T : Tb} {Z : Hp} {α : List Addr} {lo : Int} {n : Nat} : WalkD T (Itr lo n) ((List.range n).map fun (i : Nat) => D.int (lo + (i : Int))) Z α := by
  refine ⟨fun _ => True, YFn fun i => .int (lo + (i : Int)), ?_, fun _ _ => trivial, fun i H x H' hi _ y Z2 α2 m le R => ?_⟩
  · have : ((List.range n).map fun (i : Nat) => D.int (lo + (i : Int))).length = n := by simp
    rw [this]
    exact walk_range
  · obtain ⟨rfl, rfl⟩ := y
    simp only [List.length_map, List.length_range] at hi
    exact ⟨Z2, .int (lo + (i : Int)), by simp [hi], .rfl', R, .int _⟩
theorem wd_pair {J : L2.It} {Gd : Hp → Prop} {n : Nat} {f g : Nat → Option V} {ps : List D} (w : Walk J n Gd (YPair f g)) (hn : ps.length = n) (hg : ∀ H, (∀ a o, Z a = some o → H a = some o) → Gd H)
    (hp : ∀ (i : Nat) (x y : V), i < n → f i = some x → g i = some y → ∃ d e, ps[i]? = some (.tup [d, e]) ∧ Dn T Z α x d ∧ Dn T Z α y e) : WalkD T J ps Z α := by
  refine ⟨Gd, _, hn ▸ w, hg, fun i H x H' hi _ y Z2 α2 m le R => ?_⟩
  obtain ⟨t, x1, y1, rfl, ht, rfl, e1, e2⟩ := y
  obtain ⟨d, e, h1, h2, h3⟩ := hp i x1 y1 (hn ▸ hi) e1 e2
  refine ⟨_, _, h1, Fut.new R ht, R.new ht, .tup upd_same ?_⟩
  have le2 := le.trans (le_new (o := .tup [x1, y1]) R ht)
  exact .cons (h2.mono le2) (.cons (h3.mono le2) .nil)
theorem zip_at (hv : Dns T Z α vs ds) (hw : Dns T Z α ws es) : ∀ (i : Nat) (x y : V), i < min vs.length ws.length → vs[i]? = some x → ws[i]? = some y → ∃ d e, (List.zipWith (fun x y => D.tup [x, y]) ds es)[i]? = some (.tup [d, e]) ∧ Dn T Z α x d ∧ Dn T Z α y e := fun i x y _ h1 h2 => by
  obtain ⟨d, e1, e2⟩ := hv.get' h1
  obtain ⟨e, f1, f2⟩ := hw.get' h2
  exact ⟨d, e, by rw [List.getElem?_zipWith, e1, f1], e2, f2⟩
theorem wd_zip (h1 : SqL T.K Z a vs) (h2 : SqL T.K Z b ws) (hv : Dns T Z α vs ds) (hw : Dns T Z α ws es) : WalkD T (Itz T.K a b) (List.zipWith (fun x y => D.tup [x, y]) ds es) Z α :=
  wd_pair (walk_zip (xs := vs) (ys := ws) rfl) (by rw [List.length_zipWith, hv.len, hw.len]) (fun H e => ⟨sqL_mono e h1, sqL_mono e h2⟩) (zip_at hv hw)
theorem walk_zipT {K : PySem.W.Frag} : Walk (RZ.ItzT K a b) (min vs.length ws.length) (fun H => SqT K H a vs ∧ SqT K H b ws) (YPair (fun i => vs[i]?) (fun i => ws[i]?)) where
  goes := fun i H hi ⟨q1, q2⟩ => ⟨vs, ws, vs[i]'(by omega), ws[i]'(by omega), q1, q2, by simp, by simp⟩
  stops := fun H ⟨q1, q2⟩ => ⟨vs, ws, q1, q2, by omega⟩
  yields := fun i H x H' hi ⟨q1, q2⟩ ⟨t, x1, y1, e1, e2, e3, e4, e5⟩ => ⟨t, x1, y1, e1, e2, e3, e4 vs q1, e5 ws q2⟩
theorem wd_zipT (h1 : Z a = some (.tup vs)) (h2 : Z b = some (.tup ws)) (hv : Dns T Z α vs ds) (hw : Dns T Z α ws es) : WalkD T (RZ.ItzT T.K a b) (List.zipWith (fun x y => D.tup [x, y]) ds es) Z α :=
  wd_pair walk_zipT (by rw [List.length_zipWith, hv.len, hw.len]) (fun H e => ⟨SqT.of (e _ _ h1), SqT.of (e _ _ h2)⟩) (zip_at hv hw)
theorem wd_enum (h1 : SqL T.K Z a vs) (hv : Dns T Z α vs ds) : WalkD T (Ite T.K a) ((List.range ds.length).zipWith (fun i x => .tup [.int (i : Nat), x]) ds) Z α := by
  refine wd_pair (walk_enum (xs := vs)) (by rw [List.length_zipWith, List.length_range, hv.len]; omega) (fun H e => sqL_mono e h1) fun i x y hi e1 e2 => ?_
  obtain ⟨d, f1, f2⟩ := hv.get' e2
  cases e1
  have hi' : i < ds.length := by rw [← hv.len]; exact hi
  exact ⟨.int (i : Nat), d, by rw [List.getElem?_zipWith, List.getElem?_range hi', f1], .int _, f2⟩
/-- a frozen list -/
theorem look_frz {v : V} {d : D} (dv : Dn T Z α v d) (e : look [] d = some ds) : ∃ a vs, v = .ref a ∧ SqL T.K Z a vs ∧ Dns T Z α vs ds := by
  cases dv with
  | lst e1 e2 => cases e; exact ⟨_, _, rfl, SqL.of e1, e2⟩
  | frl e1 e2 => cases e; exact ⟨_, _, rfl, e1, e2⟩
  | own e1 => simp [look] at e
  | _ => cases e
theorem si_val {tg : Expr} {e : Expr} {x : E} (h : CxOk G N lv W sc X) (he : SE G W X e x) : SI G W X tg e (.val x) := fun σ H Z α ρ m R Rp En q => by
  have hK : G.T.K = X.K := h.good.gk.eK
  unfold evI at q
  have lst : (∀ ds m1, evE G x ρ m ≠ .ok (.tup ds) m1) → tAI X tg e σ H R := fun hn => by
    refine ⟨_, pi_list pe_all, ?_⟩
    have q2 := he σ H Z α ρ m (fun x H1 => ∃ a, x = .ref a ∧ (∃ xs, SqL X.K H1 a xs) ∧ R (Itl X.K a) H1) Rp En
    cases er : evE G x ρ m with
    | ok d m1 =>
      rw [er] at q q2
      refine q2 fun H1 Z1 α1 F1 R1 v dv => ?_
      have p1 := q.bind H1 Z1 α1 F1 R1
      dsimp only at p1
      split at p1
      · exact absurd er (hn _ _)
      · obtain ⟨a, vs, rfl, h1, h2⟩ := look_frz dv (ds := _) rfl
        exact ⟨a, rfl, ⟨vs, hK ▸ sqL_mono R1.sub h1⟩, hK ▸ p1.now R1 _ (wd_list h1 h2)⟩
      · obtain ⟨a, vs, rfl, h1, h2⟩ := look_frz dv (ds := _) rfl
        exact ⟨a, rfl, ⟨vs, hK ▸ sqL_mono R1.sub h1⟩, hK ▸ p1.now R1 _ (wd_list h1 h2)⟩
      · exact p1.elim
    | ex y m1 => rw [er] at q q2; exact q2 q
    | no => rw [er] at q; exact q.elim
  cases er : evE G x ρ m with
  | ok d m1 =>
    by_cases ht : ∃ ds, d = .tup ds
    · obtain ⟨ds, rfl⟩ := ht
      refine ⟨_, pi_tup pe_all, ?_⟩
      have q2 := he σ H Z α ρ m (fun x H1 => ∃ a, x = .ref a ∧ (∃ xs, SqT X.K H1 a xs) ∧ R (Itt X.K a) H1) Rp En
      rw [er] at q q2
      refine q2 fun H1 Z1 α1 F1 R1 v dv => ?_
      have p1 := q.bind H1 Z1 α1 F1 R1
      cases dv with
      | tup e1 e2 => exact ⟨_, rfl, ⟨_, SqT.of (R1.sub _ _ e1)⟩, hK ▸ Post.now p1 R1 _ (wd_tup e1 e2)⟩
    · exact lst fun ds m2 z => ht ⟨ds, by rw [er] at z; cases z; rfl⟩
  | ex y m1 => exact lst fun ds m2 z => by rw [er] at z; cases z
  | no => exact lst fun ds m2 z => by rw [er] at z; cases z
theorem bl_in (h : CxOk G N lv W sc X) {x : Str} (hx : x ∈ (["len", "min", "max", "int", "tuple", "list", "isinstance", "any", "all", "range", "zip", "enumerate", "str", "bool", "repr"] : List Str)) : X.mg x = none := h.good.bl x hx
theorem evEs_len : ∀ {irs : List E} {ρ : Env} {m m' : Mu} {ds : List D}, evEs G irs ρ m = .ok ds m' → ds.length = irs.length
  | [], _, _, _, _, e => by unfold evEs at e; cases e; rfl
  | i :: irs, ρ, m, m', ds, e => by
    unfold evEs at e
    cases h : evE G i ρ m with
    | ok d m1 =>
      rw [h] at e
      simp only [Rs.bind] at e
      cases h2 : evEs G irs ρ m1 with
      | ok ds2 m2 =>
        rw [h2] at e
        cases e
        rw [List.length_cons, List.length_cons, evEs_len h2]
      | ex x m2 => rw [h2] at e; cases e
      | no => rw [h2] at e; cases e
    | ex x m1 => rw [h] at e; cases e
    | no => rw [h] at e; cases e
theorem Post.lens {H Z : Hp} {α : List Addr} {irs : List E} {ρ : Env} {m : Mu} {K : List D → Mu → Hp → Hp → List Addr → Prop} (q : Post G.T W H Z α (evEs G irs ρ m) K) : Post G.T W H Z α (evEs G irs ρ m) (fun ds m' H' Z' α' => ds.length = irs.length ∧ K ds m' H' Z' α') := by
  cases e : evEs G irs ρ m with
  | ok ds m1 =>
    rw [e] at q
    exact fun H' Z' α' f R => ⟨evEs_len e, q H' Z' α' f R⟩
  | ex x m1 => rw [e] at q; exact q
  | no => rw [e] at q; exact q
theorem All2.len {β γ : Type} {R : β → γ → Prop} : ∀ {as : List β} {bs : List γ}, All2 R as bs → as.length = bs.length
  | _, _, .nil => rfl
  | _, _, .cons _ r => by rw [List.length_cons, List.length_cons, All2.len r]
theorem si_rng {tg : Expr} {p pos : Pos} {es : List Expr} {irs : List E} (h : CxOk G N lv W sc X) (hg : isGl (sc.names.lookup ("range" : Str)) = true) (hs : es.all noStar = true) (hl : es.length = 1 ∨ es.length = 2) (ha : All2 (SE G W X) es irs) :
    SI G W X tg (.Call (.Name "range" p) es [] pos) (.rng irs) := fun σ H Z α ρ m R Rp En q => by
  have hm : X.mg "range" = none := bl_in h (by decide +kernel)
  have hl2 := ha.len
  unfold evI at q
  match es, hl with
  | [e], _ =>
    have hs' := hs
    rw [List.all_cons, Bool.and_eq_true] at hs
    refine ⟨_, pi_range1 (h.glob _ hg) hm pa_all (star_cons hs.1), ?_⟩
    refine ses_of hs' ha σ H Z α ρ m _ Rp En (q.bind.lens.mono fun ds m1 H1 Z1 α1 F1 R1 ⟨hn, p1⟩ vs dvs => ?_)
    rw [← hl2] at hn
    match ds, hn with
    | [d], _ =>
      obtain ⟨v, rfl, dv⟩ := dns1 dvs
      split at p1
      · rename_i xs e1
        unfold rngD at e1
        split at e1
        · rename_i n e2
          cases e2
          cases dv
          split at e1
          · rename_i hb
            cases e1
            exact ⟨n, rfl, hb.2, hb.1, p1.now R1 _ wd_range⟩
          · cases e1
        · rename_i e2; cases e2
        · cases e1
      · exact p1.elim
  | [e, e2], _ =>
    have hs' := hs
    rw [List.all_cons, Bool.and_eq_true, List.all_cons, Bool.and_eq_true] at hs
    refine ⟨_, pi_range2 (h.glob _ hg) hm pa_all (by rw [star_cons hs.1, star_cons hs.2.1]; rfl) (by rw [star_cons hs.2.1]; rfl), ?_⟩
    refine ses_of hs' ha σ H Z α ρ m _ Rp En (q.bind.lens.mono fun ds m1 H1 Z1 α1 F1 R1 ⟨hn, p1⟩ vs dvs => ?_)
    rw [← hl2] at hn
    match ds, hn with
    | [d, d2], _ =>
      obtain ⟨v, v2, rfl, dv, dv2⟩ := dns2 dvs
      split at p1
      · rename_i xs e1
        unfold rngD at e1
        split at e1
        · rename_i n e2; cases e2
        · rename_i n k e2
          cases e2
          cases dv
          cases dv2
          split at e1
          · rename_i hb
            cases e1
            exact ⟨n, k, rfl, hb, p1.now R1 _ wd_range⟩
          · cases e1
        · cases e1
      · exact p1.elim
theorem si_zip {elts : List Expr} {k : Nat} {tp p pos : Pos} {a b : Expr} {x y : E} (h : CxOk G N lv W sc X) (hg : isGl (sc.names.lookup ("zip" : Str)) = true) (hs : [a, b].all noStar = true) (ha : SE G W X a x) (hb : SE G W X b y) :
    SI G W X (.Tuple elts k tp) (.Call (.Name "zip" p) [a, b] [] pos) (.zip x y) := fun σ H Z α ρ m R Rp En q => by
  have hK : G.T.K = X.K := h.good.gk.eK
  have hm : X.mg "zip" = none := bl_in h (by decide +kernel)
  have hs' := hs
  rw [List.all_cons, Bool.and_eq_true] at hs'
  unfold evI at q
  refine ⟨_, RZ.pi_zipA (h.glob _ hg) hm pa_all (star_cons hs'.1) (star_all hs'.2), ?_⟩
  refine ⟨_, pa_cons pe_all (pa_cons pe_all pa_nil (star_cons (by rw [List.all_cons, Bool.and_eq_true] at hs'; exact hs'.2.1))) (star_cons hs'.1), ?_⟩
  refine ha σ H Z α ρ m _ Rp En (q.bind.mono fun d m1 H1 Z1 α1 F1 R1 p1 v dv => ?_)
  refine hb σ H1 Z1 α1 ρ m1 _ R1 (En.mono F1.le) (p1.bind.mono fun d2 m2 H2 Z2 α2 F2 R2 p2 u du => ?_)
  have dv2 := dv.mono F2.le
  split at p2
  · rename_i ps e1
    unfold zipD at e1
    split at e1
    · cases e1
      cases dv2 with
      | tup e1 e2 => cases du with
        | tup f1 f2 => exact ⟨_, _, _, _, rfl, .inr ⟨SqT.of (R2.sub _ _ e1), SqT.of (R2.sub _ _ f1), hK ▸ p2.now R2 _ (wd_zipT e1 f1 e2 f2)⟩⟩
    · split at e1
      · rename_i xs ys l1 l2
        cases e1
        obtain ⟨p1, vs, rfl, h1, h2⟩ := look_frz dv2 l1
        obtain ⟨p2', ws, rfl, h3, h4⟩ := look_frz du l2
        exact ⟨_, _, _, _, rfl, .inl ⟨hK ▸ sqL_mono R2.sub h1, hK ▸ sqL_mono R2.sub h3, hK ▸ p2.now R2 _ (wd_zip h1 h3 h2 h4)⟩⟩
      · cases e1
  · exact p2.elim
theorem si_enu {elts : List Expr} {k : Nat} {tp p pos : Pos} {a : Expr} {x : E} (h : CxOk G N lv W sc X) (hg : isGl (sc.names.lookup ("enumerate" : Str)) = true) (hs : noStar a = true) (ha : SE G W X a x) :
    SI G W X (.Tuple elts k tp) (.Call (.Name "enumerate" p) [a] [] pos) (.enu x) := fun σ H Z α ρ m R Rp En q => by
  have hK : G.T.K = X.K := h.good.gk.eK
  have hm : X.mg "enumerate" = none := bl_in h (by decide +kernel)
  unfold evI at q
  refine ⟨_, pi_enum (h.glob _ hg) hm pa_all (star_cons hs), ?_⟩
  refine ⟨_, pa_cons pe_all pa_nil (star_cons hs), ?_⟩
  refine ha σ H Z α ρ m _ Rp En (q.bind.mono fun d m1 H1 Z1 α1 F1 R1 p1 v dv => ?_)
  split at p1
  · rename_i ps e1
    unfold enuD at e1
    split at e1
    · rename_i xs l1
      cases e1
      obtain ⟨p2, vs, rfl, h1, h2⟩ := look_frz dv l1
      exact ⟨_, _, rfl, hK ▸ sqL_mono R1.sub h1, hK ▸ p1.now R1 _ (wd_enum h1 h2)⟩
    · cases e1
  · exact p1.elim
end
end Pm

set_option maxRecDepth 100000
set_option maxHeartbeats 4000000
/-! Targets, comprehensions -/
namespace Pm
open PySem L2
section
variable {G : Gm} {W : XK} {X : Cx} {N : List Str} {lv : Nat} {sc : Scope}
theorem sg_name {x : Str} {p : Pos} {i : Nat} (h : CxOk G N lv W sc X) (hl : isLoc (sc.names.lookup x) = true) (hi : ixOf N x = some i) : SG G W X (.Name x p) (.nm i) := fun σ H Z α ρ m v d Q R En dv q => by
  unfold evG at q
  obtain ⟨l1, l2⟩ := h.loc x hl
  refine ⟨_, pg_name (i := i) (by rw [h.eN]; exact h.nd) (by rw [h.eN]; exact ixOf_get hi) l1 l2, ?_⟩
  refine q.now R _ (En.set dv) (by simp) fun j hj => ?_
  have : i ≠ j := fun z => hj (by simp [slotsG, z])
  rw [List.getElem?_set_ne this]
theorem sgs_nil : SGs G W X [] [] := fun σ H Z α ρ m vs ds Q R En dv q => by
  unfold evGs at q
  cases ds with
  | nil =>
    cases dv
    exact ⟨_, pgs_nil, rfl, q.now R σ En rfl fun _ _ => rfl⟩
  | cons d ds => exact q.elim
theorem tgt_cons {e : Expr} {es : List Expr} {env : PySem.Env} (h : noStar e = true) : (assignEach (e :: es) env).map (·.2) = assign e env :: (assignEach es env).map (·.2) := by
  cases e <;> first | rfl | cases h
theorem sgs_cons {e : Expr} {es : List Expr} {g : Gt} {gs : List Gt} (hs : noStar e = true) (h1 : SG G W X e g) (h2 : SGs G W X es gs) : SGs G W X (e :: es) (g :: gs) := fun σ H Z α ρ m vs ds Q R En dv q => by
  unfold evGs at q
  cases ds with
  | nil => exact q.elim
  | cons d ds =>
    cases dv with
    | cons d1 dr =>
      refine ⟨_, pgs_cons pg_all pgs_all (tgt_cons hs), _, _, rfl, ?_⟩
      refine h1 σ H Z α ρ m _ d _ R En d1 (q.bind.mono fun ρ1 m1 H1 Z1 α1 F1 R1 p1 σ1 En1 l1 k1 => ?_)
      refine h2 σ1 H1 Z1 α1 ρ1 m1 _ ds _ R1 En1 (dr.mono F1.le) (p1.mono fun ρ2 m2 H2 Z2 α2 F2 R2 p2 σ2 En2 l2 k2 => ?_)
      refine p2 σ2 En2 (l2.trans l1) fun j hj => ?_
      simp only [slotsGs, List.mem_append, not_or] at hj
      rw [k2 j hj.2, k1 j hj.1]
theorem tgt_len : ∀ {es : List Expr} {env : PySem.Env}, es.all noStar = true → (assignEach es env).length = es.length ∧ (assignEach es env).findIdx? (·.1) = none
  | [], _, _ => ⟨rfl, rfl⟩
  | e :: es, env, h => by
    rw [List.all_cons, Bool.and_eq_true] at h
    obtain ⟨h1, h2⟩ := tgt_len (env := env) h.2
    have e1 : assignEach (e :: es) env = (false, assign e env) :: assignEach es env := by cases e <;> first | rfl | cases h.1
    rw [e1]
    refine ⟨by simp [h1], ?_⟩
    rw [List.findIdx?_cons, h2]
    rfl
theorem sg_tup {es : List Expr} {gs : List Gt} {k : Nat} {p : Pos} (h : CxOk G N lv W sc X) (hs : es.all noStar = true) (hl : es.length = gs.length) (hg : SGs G W X es gs) : SG G W X (.Tuple es k p) (.tup gs) := fun σ H Z α ρ m v d Q R En dv q => by
  unfold evG at q
  split at q
  · rename_i ds
    split at q
    · rename_i hn
      cases dv with
      | tup e1 e2 =>
        rename_i a vs
        obtain ⟨t1, t2⟩ := tgt_len (env := X.env) hs
        refine ⟨_, pg_tup h.calm pgs_all t1 t2, a, vs, rfl, SqT.of (R.sub _ _ e1), by rw [e2.len, hn, hl], ?_⟩
        exact hg σ H Z α ρ m vs ds Q R En e2 (q.mono fun ρ1 m1 H1 Z1 α1 F1 R1 p1 σ1 En1 l1 k1 => p1 σ1 En1 l1 fun j hj => k1 j (by simpa [slotsG] using hj))
    · exact q.elim
  · exact q.elim
def pA (X : Cx) : TSet := fun o i v H Q => ∃ r, PSet X r ∧ r o i v H Q
theorem pset_all {X : Cx} : PSet X (pA X) := fun pins s σ H o i v ov iv u Q I r1 r2 r3 ⟨_, h, q⟩ => h pins s σ H o i v ov iv u Q I r1 r2 r3 q
theorem sub_ha {o i : Expr} {pos : Pos} {env : PySem.Env} (h : ∀ a c d e, i ≠ .Slice a c d e) : ∀ v, assign (.Subscript o i pos) env v = (do
      let ov ← holding [v] (eval o env)
      let iv ← holding [v, ov] (eval i env)
      standAt pos
      holding [v, ov, iv] (setItem ov iv v)
      release [v, ov, iv] []) := by
  intro v
  cases i <;> first | rfl | exact absurd rfl (h _ _ _ _)
theorem sg_sub {o i : Expr} {x y : E} {p : Pos} (hi : ∀ a c d e, i ≠ .Slice a c d e) (ho : SE G W X o x) (hy : SE G W X i y) : SG G W X (.Subscript o i p) (.sub x y) := fun σ H Z α ρ m v d Q R En dv q => by
  unfold evG at q
  refine ⟨_, pg_sub pe_all pe_all pset_all (sub_ha hi), ?_⟩
  refine ho σ H Z α ρ m _ R En (q.bind.mono fun d1 m1 H1 Z1 α1 F1 R1 p1 v1 dv1 => ?_)
  refine hy σ H1 Z1 α1 ρ m1 _ R1 (En.mono F1.le) (p1.bind.mono fun d2 m2 H2 Z2 α2 F2 R2 p2 v2 dv2 => ?_)
  split at p2
  · rename_i k j
    cases dv2
    split at p2
    · rename_i xs hx
      split at p2
      · rename_i n hn
        have dk := dv1.mono F2.le
        cases dk with
        | own e1 =>
          rename_i a
          obtain ⟨a', ws, f1, f2, f3⟩ := look_lst R2 hx
          rw [e1] at f1; cases f1
          refine ⟨_, set_list, a, ws, j, n, rfl, rfl, f2, by rw [f3.len]; exact hn, ?_⟩
          refine p2 _ _ _ (Fut.put R2 e1) (R2.put e1 hx rfl ⟨_, upd_same, Dns.set (dv.mono (F1.le.trans F2.le)) n f3⟩) σ (En.mono (F1.le.trans F2.le)) rfl fun _ _ => rfl
      · exact p2.elim
    · exact p2.elim
  · exact p2.elim
theorem sg_fld {o : Expr} {f : Str} {x : E} {p : Pos} (h : CxOk G N lv W sc X) (ho : SE G W X o x) : SG G W X (.Attribute o f p) (.fld x f) := fun σ H Z α ρ m v d Q R En dv q => by
  have pg : PG X (.Attribute o f p) (fun v σ H Q => tA X o σ H fun x H1 => ∃ a C dx fs, x = .ref a ∧ H1 a = some (.ins C dx fs) ∧ Cls X.K C ∧ NoAttr X.K C f ∧ fs.length < 1000 ∧ Q σ (upd H1 a (.ins C dx (putF f v fs)))) := by
    refine ⟨fun pins s σ H v u Q I r h => ?_⟩
    show wpAny _ _ (do
      let ov ← holding [u] (eval o X.env)
      standAt p.atName
      holding [u, ov] (setAttr ov f u)
      release [u, ov] []) _ _ _
    refine wpAny_bind (wpAny_holding (thn (pe_all.run pins s σ H _ I h) fun ov s1 ⟨x, H1, I1, r1, a, C, dx, fs, ex, ea, c, n, hl, q1⟩ => ?_))
    subst ex
    obtain rfl : ov = Value.ref a := r1
    refine wpAny_bind (wpAny_standAt (wpAny_bind (wpAny_holding (setattr_ok I1 ea c n hl r fun s2 I2 => ?_))))
    exact wpAny_release ⟨σ, _, I2, q1⟩
  unfold evG at q
  refine ⟨_, pg, ?_⟩
  refine ho σ H Z α ρ m _ R En (q.bind.mono fun d1 m1 H1 Z1 α1 F1 R1 p1 v1 dv1 => ?_)
  split at p1
  · rename_i k
    split at p1
    · rename_i c fs hk
      split at p1
      · rename_i hlt
        split at p1
        · rename_i hfl
          cases dv1 with
          | own e1 =>
            rename_i a
            obtain ⟨C, dx, ws, h1, h2, h3⟩ := R1.obj _ _ _ e1 hk
            refine ⟨a, C, dx, ws, rfl, h2, (h.good.gk.cls c C h1).1, h.good.gk.fl c C f h1 hfl, by rw [h3.len]; exact hlt, ?_⟩
            refine p1 _ _ _ (Fut.put R1 e1) (R1.put e1 hk rfl ⟨C, dx, _, h1, upd_same, Dfs.put (dv.mono F1.le) h3⟩) σ (En.mono F1.le) rfl fun _ _ => rfl
        · exact p1.elim
      · exact p1.elim
    · exact p1.elim
  · exact p1.elim
end
end Pm

set_option maxRecDepth 100000
set_option maxHeartbeats 4000000
/-! Comprehensions -/
namespace Pm
open PySem L2
section
variable {G : Gm} {W : XK} {X : Cx} {N : List Str} {lv : Nat} {sc : Scope}
theorem sifs_nil : SIfs G W X [] none := fun σ H Z α ρ m Q R En q => by
  unfold evT at q
  exact ⟨_, pts_nil, q.now R⟩
theorem sifs_one {e : Expr} {x : E} (h : ST G W X e x) : SIfs G W X [e] (some x) := fun σ H Z α ρ m Q R En q => by
  unfold evT at q
  refine ⟨_, pts_one pt_all, ?_⟩
  refine h σ H Z α ρ m Q R En (q.bind.mono fun d m1 H1 Z1 α1 F1 R1 p1 => ?_)
  split at p1
  · exact ⟨_, rfl, p1.now R1⟩
  · exact p1.elim
theorem wipe_get {σ : St} : ∀ {vs : List Nat} {j : Nat}, j ∉ vs → (L2.wipe σ vs)[j]? = σ[j]?
  | [], _, _ => rfl
  | v :: vs, j, h => by
    have h1 : v ≠ j := fun z => h (by rw [z]; exact List.mem_cons_self ..)
    have h2 : j ∉ vs := fun z => h (List.mem_cons_of_mem _ z)
    show ((L2.wipe σ vs).set v none)[j]? = _
    rw [List.getElem?_set_ne h1]
    exact wipe_get h2
theorem wipe_in {σ : St} : ∀ {vs : List Nat} {j : Nat}, j ∈ vs → j < σ.length → (L2.wipe σ vs)[j]? = some none
  | v :: vs, j, h, hj => by
    show ((L2.wipe σ vs).set v none)[j]? = _
    by_cases e : v = j
    · subst e
      rw [List.getElem?_set_self (by rw [L2.wipe_length]; exact hj)]
    · rw [List.getElem?_set_ne e]
      rcases List.mem_cons.mp h with z | z
      · exact absurd z.symm e
      · exact wipe_in z hj
theorem wipe_eq {σ τ : St} {vs : List Nat} (hl : τ.length = σ.length) (h : ∀ j, j ∉ vs → τ[j]? = σ[j]?) : L2.wipe τ vs = L2.wipe σ vs := by
  refine List.ext_getElem? fun j => ?_
  by_cases hj : j ∈ vs
  · by_cases hn : j < σ.length
    · rw [wipe_in hj hn, wipe_in hj (by rw [hl]; exact hn)]
    · rw [List.getElem?_eq_none (by rw [L2.wipe_length]; omega), List.getElem?_eq_none (by rw [L2.wipe_length]; omega)]
  · rw [wipe_get hj, wipe_get hj, h j hj]
theorem wipe_wipe {σ : St} {vs : List Nat} : L2.wipe (L2.wipe σ vs) vs = L2.wipe σ vs := wipe_eq (L2.wipe_length _ _) fun j hj => wipe_get hj
/-- what stands apart is frozen -/
theorem Rep.adopt {T : Tb} {H Z : Hp} {α : List Addr} {m : Mu} {p : Addr} {o : HO} (R : Rep T H Z α m) (hp : H p = some o) (hz : Z p = none) (hα : p ∉ α) : Rep T H (upd Z p o) α m := by
  have le : Le Z α (upd Z p o) α := ⟨fun a u e => by rw [upd_ne (ne_of_none e hz)]; exact e, [], by simp⟩
  refine ⟨fun a u e => ?_, R.len, R.nd, fun i a v e1 e2 lv => ?_, fun i a v e1 e2 => (R.obj i a v e1 e2).mono le fun _ e => e⟩
  · by_cases ha : a = p
    · subst ha; rw [upd_same] at e; cases e; exact hp
    · rw [upd_ne ha] at e; exact R.sub a u e
  · have ha : a ≠ p := fun z => by subst z; exact hα (List.mem_of_getElem? e1)
    rw [upd_ne ha]; exact R.out i a v e1 e2 lv
/-- a thing apart is written -/
theorem Rep.apart {T : Tb} {H Z : Hp} {α : List Addr} {m : Mu} {p : Addr} {o : HO} (R : Rep T H Z α m) (hz : Z p = none) (hα : p ∉ α) : Rep T (upd H p o) Z α m := by
  refine ⟨fun a u e => ?_, R.len, R.nd, R.out, fun i a v e1 e2 => (R.obj i a v e1 e2).mono .rfl' fun u e => ?_⟩
  · have ha : a ≠ p := fun z => by subst z; rw [hz] at e; cases e
    rw [upd_ne ha]; exact R.sub a u e
  · have ha : a ≠ p := fun z => by subst z; exact hα (List.mem_of_getElem? e1)
    rw [upd_ne ha]; exact e
/-- as Fut, but for one thing apart -/
structure FutX (p : Addr) (H Z : Hp) (α : List Addr) (H' Z' : Hp) (α' : List Addr) : Prop where
  le : Le Z α Z' α'
  fr : ∀ a o, H a = some o → a ∉ α → a ≠ p → H' a = some o
  na : ∀ a, a ∈ α' → a ∈ α ∨ H a = none
  th : ∀ a, H a ≠ none → H' a ≠ none
  nz : ∀ a, Z' a ≠ none → Z a ≠ none ∨ H a = none ∨ a ∈ α
theorem FutX.of {p : Addr} {H Z H' Z' : Hp} {α α' : List Addr} (f : Fut H Z α H' Z' α') : FutX p H Z α H' Z' α' := ⟨f.le, fun a o e n _ => f.fr a o e n, f.na, f.th, f.nz⟩
theorem FutX.trans {p : Addr} {H Z H' Z' H'' Z'' : Hp} {α α' α'' : List Addr} (h : FutX p H Z α H' Z' α') (h' : FutX p H' Z' α' H'' Z'' α'') : FutX p H Z α H'' Z'' α'' := by
  have back : ∀ a, H' a = none → H a = none := fun a q => by
    cases e : H a with
    | none => rfl
    | some o => exact absurd q (h.th a (by rw [e]; exact fun z => by cases z))
  refine ⟨h.le.trans h'.le, fun a o e n np => h'.fr a o (h.fr a o e n np) (fun z => ?_) np, fun a z => ?_, fun a z => h'.th a (h.th a z), fun a z => ?_⟩
  · rcases h.na a z with q | q
    · exact n q
    · rw [e] at q; cases q
  · rcases h'.na a z with q | q
    · exact h.na a q
    · exact .inr (back a q)
  · rcases h'.nz a z with q | q | q
    · exact h.nz a q
    · exact .inr (.inl (back a q))
    · rcases h.na a q with r | r
      · exact .inr (.inr r)
      · exact .inr (.inl r)
theorem FutX.upd {p : Addr} {o : HO} {H Z : Hp} {α : List Addr} : FutX p H Z α (upd H p o) Z α :=
  ⟨.rfl', fun a u e _ n => by rw [upd_ne n]; exact e, fun _ q => .inl q, fun a q z => by
    by_cases h : a = p
    · subst h; rw [upd_same] at z; cases z
    · rw [upd_ne h] at z; exact q z, fun _ q => .inl q⟩
/-- in the end the thing apart, which was not there, is frozen -/
theorem FutX.fin {p : Addr} {o : HO} {H Z H' Z' : Hp} {α α' : List Addr} (f : FutX p H Z α H' Z' α') (hp : H p = none) (hz : Z' p = none) : Fut H Z α H' (L2.upd Z' p o) α' :=
  ⟨f.le.trans ⟨fun a u e => by rw [upd_ne (ne_of_none e hz)]; exact e, [], by simp⟩, fun a u e n => f.fr a u e n (ne_of_none e hp), f.na, f.th, fun a q => by
    by_cases h : a = p
    · subst h; exact .inr (.inl hp)
    · rw [upd_ne h] at q; exact f.nz a q⟩
theorem FutX.finO {p : Addr} {H Z H' Z' : Hp} {α α' : List Addr} (f : FutX p H Z α H' Z' α') (hp : H p = none) : Fut H Z α H' Z' (α' ++ [p]) :=
  ⟨f.le.trans ⟨fun _ _ e => e, [p], rfl⟩, fun a u e n => f.fr a u e n (ne_of_none e hp), fun a q => by
    rcases List.mem_append.mp q with r | r
    · exact f.na a r
    · simp at r; subst r; exact .inr hp, f.th, f.nz⟩
/-- what stands apart comes into the store -/
theorem Rep.adoptO {T : Tb} {H Z : Hp} {α : List Addr} {m : Mu} {p : Addr} {o : O} (R : Rep T H Z α m) (hz : Z p = none) (ni : p ∉ α) (ho : OAt T H Z (α ++ [p]) p o) : Rep T H Z (α ++ [p]) (m ++ [o]) := by
  have le : Le Z α Z (α ++ [p]) := ⟨fun _ _ e => e, [p], rfl⟩
  have cases2 : ∀ {i : Nat} {a : Addr}, (α ++ [p])[i]? = some a → α[i]? = some a ∨ (i = α.length ∧ a = p) := fun {i a} e => by
    by_cases h : i < α.length
    · rw [List.getElem?_append_left h] at e; exact .inl e
    · rw [List.getElem?_append_right (by omega)] at e
      have : i - α.length = 0 := by
        by_cases z : i - α.length = 0
        · exact z
        · rw [List.getElem?_eq_none (by simp; omega)] at e; cases e
      rw [this] at e
      simp at e
      exact .inr ⟨by omega, e.symm⟩
  refine ⟨R.sub, by simp [R.len], fun i j a e1 e2 => ?_, fun i a v e ev lv => ?_, fun i a v e1 e2 => ?_⟩
  · rcases cases2 e1 with q | ⟨q1, q2⟩
    · rcases cases2 e2 with r | ⟨r1, r2⟩
      · exact R.nd i j a q r
      · subst r2; exact absurd (List.mem_of_getElem? q) ni
    · rcases cases2 e2 with r | ⟨r1, r2⟩
      · subst q2; exact absurd (List.mem_of_getElem? r) ni
      · omega
  · rcases cases2 e with q | ⟨q1, q2⟩
    · have hi : i < m.length := by rw [← R.len]; exact (List.getElem?_eq_some_iff.mp q).1
      rw [List.getElem?_append_left hi] at ev
      exact R.out i a v q ev lv
    · subst q2; exact hz
  · rcases cases2 e1 with q | ⟨q1, q2⟩
    · have hi : i < m.length := by rw [← R.len]; exact (List.getElem?_eq_some_iff.mp q).1
      rw [List.getElem?_append_left hi] at e2
      exact (R.obj i a v q e2).mono le fun w e => e
    · subst q1 q2
      rw [R.len, List.getElem?_append_right (Nat.le_refl _), Nat.sub_self] at e2
      simp at e2
      subst e2
      exact ho
theorem bind_ok {β γ : Type} {r : Rs β} {k : β → Mu → Rs γ} {c : γ} {m : Mu} (h : r.bind k = .ok c m) : ∃ b m1, r = .ok b m1 ∧ k b m1 = .ok c m := by
  cases r with
  | ok b m1 => exact ⟨b, m1, rfl, h⟩
  | ex x m1 => cases h
  | no => cases h
abbrev blkX (X : Cx) (scope : Scope) (s : Shared) (H : Hp) (C : Addr) (cl : List (Str × Addr)) (fp : List Addr) : Cx := X.blk s H scope (compEnvC scope cl C X.env) fp
def tbG (X : Cx) (scope : Scope) (tg : Expr) : TG := fun v σ H Q => ∀ s H0 C cl fp, tAG (blkX X scope s H0 C cl fp) tg v σ H Q
def tbT (X : Cx) (scope : Scope) (ifs : List Expr) : TT := fun σ H Q => ∀ s H0 C cl fp, tAPts (blkX X scope s H0 C cl fp) ifs σ H Q
def tbE (X : Cx) (scope : Scope) (elt : Expr) : TE := fun σ H Q => ∀ s H0 C cl fp, tA (blkX X scope s H0 C cl fp) elt σ H Q
/-- a comprehension's reading, in its parts -/
def tAL (X : Cx) (elt : Expr) (gs : List Comprehension) (scope : Scope) : TE := fun σ H Q => ∃ (tg iter : Expr) (ifs : List Expr) (own : List (Str × Nat)) (wi : TI) (g : TG) (tt : TT) (te : TE), gs = [⟨tg, iter, ifs, 0⟩] ∧ PI X tg iter wi ∧ BlkOk X.N X.env.scope scope own ∧
  (∀ s H C cl fp, PG (blkX X scope s H C cl fp) tg g) ∧ (∀ s H C cl fp, PTs (blkX X scope s H C cl fp) ifs tt) ∧ (∀ s H C cl fp, PE (blkX X scope s H C cl fp) elt te) ∧ (∀ x, foldedSetIterable iter X.env x = pure x) ∧ tLc wi g tt te (own.map (·.2)) σ H Q
def SL (G : Gm) (W : XK) (X : Cx) (elt : Expr) (gs : List Comprehension) (scope : Scope) (ir : E) : Prop := ∀ (σ : St) (H Z : Hp) (α : List Addr) (ρ : Env) (m : Mu) (Q : VK), Rep G.T H Z α m → EnvR G.T Z α σ ρ → Post G.T W H Z α (evE G ir ρ m) (KQ G.T Q) → tAL X elt gs scope σ H Q
theorem SL.se {elt : Expr} {gs : List Comprehension} {scope : Scope} {ir : E} {pos : Pos} (h : CxOk G N lv W sc X) (s : SL G W X elt gs scope ir) : SE G W X (.ListComp elt gs scope pos) ir := fun σ H Z α ρ m Q R En q => by
  obtain ⟨tg, iter, ifs, own, wi, g, tt, te, rfl, h1, h2, h3, h4, h5, h6, h7⟩ := s σ H Z α ρ m Q R En q
  exact ⟨_, pe_lc h.calm (by rw [h.eN]; exact h.nd) h1 h2 h3 h4 h5 h6, h7⟩
theorem sl_lc {ob : Bool} {elt tg iter : Expr} {ifs : List Expr} {scope : Scope} {g : Gt} {it : It} {c : Option E} {x : E} {own : List (Str × Nat)} (h : CxOk G N lv W sc X) (b : BlkOk N sc scope own) (hset : ∀ x, foldedSetIterable iter X.env x = pure x)
    (hsl : ∀ j ∈ slotsG g, j ∈ own.map (·.2)) (hi : SI G W X tg iter it) (hg : ∀ s H C cl fp, SG G E0 (blkX X scope s H C cl fp) tg g) (hc : ∀ s H C cl fp, SIfs G E0 (blkX X scope s H C cl fp) ifs c) (he : ∀ s H C cl fp, SE G E0 (blkX X scope s H C cl fp) elt x) :
    SL G W X elt [⟨tg, iter, ifs, 0⟩] scope (.lc ob g it c x (own.map (·.2))) := fun σ H Z α ρ m Q R En q => by
  unfold evE at q
  refine ⟨tg, iter, ifs, own, tAI X tg iter, tbG X scope tg, tbT X scope ifs, tbE X scope elt, rfl, pi_all, h.blkOk b, (fun s H0 C cl fp => ⟨fun pins s1 σ1 H1 v u Q1 I r q => pg_all.run pins s1 σ1 H1 v u Q1 I r (q s H0 C cl fp)⟩),
    (fun s H0 C cl fp => ⟨fun pins s1 σ1 H1 Q1 I q => let ⟨t, ht, hq⟩ := q s H0 C cl fp; ht.run pins s1 σ1 H1 Q1 I hq⟩), (fun s H0 C cl fp => ⟨fun pins s1 σ1 H1 Q1 I q => pe_all.run pins s1 σ1 H1 Q1 I (q s H0 C cl fp)⟩), hset, ?_⟩
  refine hi σ H Z α ρ m _ R En (q.bind.mono fun ds m1 H1 Z1 α1 F1 R1 p1 J wd L hL => ?_)
  obtain ⟨Gd, Y, wk, hGd, yl⟩ := wd
  have zL : Z1 L = none := R1.back hL
  have aL : L ∉ α1 := R1.notIn hL
  have En1 := (En.mono F1.le).wiped (own.map (·.2))
  generalize hf : (fun (d : D) (m : Mu) => (evG G g d (wipeD ρ (own.map (·.2))) m).bind fun ρ2 m => (evT G c ρ2 m).bind fun b m => if b = true then (evE G x ρ2 m).bind fun x m => Rs.ok (some x) m else Rs.ok none m) = f at p1
  -- it comes to an end
  obtain ⟨xs, mm, eL⟩ : ∃ xs mm, lcL f ds [] m1 = .ok xs mm := by
    cases e : lcL f ds [] m1 with
    | ok xs mm => exact ⟨xs, mm, rfl⟩
    | ex y m2 => rw [e] at p1; exact p1.elim
    | no => rw [e] at p1; exact p1.elim
  rw [eL] at p1
  let Pv : Nat → Hp → Prop := fun i H2 => ∃ (Z2 : Hp) (α2 : List Addr) (m2 : Mu) (acc : List D) (av : List V), Rep G.T H2 Z2 α2 m2 ∧ FutX L H1 Z1 α1 H2 Z2 α2 ∧ H2 L = some (.lst av) ∧ Dns G.T Z2 α2 av acc ∧ Z2 L = none ∧ L ∉ α2 ∧ lcL f (ds.drop i) acc m2 = .ok xs mm
  refine lc_it (g := tbG X scope tg) (tt := tbT X scope ifs) (te := tbE X scope elt) (vs := own.map (·.2)) (σ := σ) (H1 := H1) (D := L) (Qd := fun H2 => Q (.ref L) H2) wk Pv ?_ ?_ ?_ ?_
  · exact ⟨Z1, α1, m1, [], [], R1.apart zL aL, .upd, upd_same, .nil, zL, aL, by rw [List.drop_zero]; exact eL⟩
  · rintro i H2 _ ⟨Z2, α2, m2, acc, av, R2, f2, _⟩
    exact hGd H2 fun a o e => R2.sub a o (f2.le.z a o e)
  · rintro i v H2 H3 hn ⟨Z2, α2, m2, acc, av, R2, f2, eD, dacc, zL2, aL2, p4⟩ y
    obtain ⟨Z3, d, ed, F3, R3, dd⟩ := yl i H2 v H3 hn (hGd H2 fun a o e => R2.sub a o (f2.le.z a o e)) y Z2 α2 m2 f2.le R2
    have step : ∀ {Ha Za Hb Zb : Hp} {αa αb : List Addr}, Fut Ha Za αa Hb Zb αb → Ha L = some (.lst av) → Za L = none → L ∉ αa → Hb L = some (.lst av) ∧ Zb L = none ∧ L ∉ αb := fun {Ha Za Hb Zb αa αb} F e1 e2 e3 => by
      refine ⟨F.fr L _ e1 e3, ?_, fun z => ?_⟩
      · cases e : Zb L with
        | none => rfl
        | some o =>
          rcases F.nz L (by rw [e]; exact fun z => by cases z) with q | q | q
          · exact absurd e2 q
          · rw [e1] at q; cases q
          · exact absurd q e3
      · rcases F.na L z with q | q
        · exact e3 q
        · rw [e1] at q; cases q
    obtain ⟨e3, z3, a3⟩ := step F3 eD zL2 aL2
    have hdrop : ds.drop i = d :: ds.drop (i + 1) := by
      obtain ⟨hi, e⟩ := List.getElem?_eq_some_iff.mp ed
      rw [List.drop_eq_getElem_cons hi, e]
    rw [hdrop] at p4
    unfold lcL at p4
    obtain ⟨o, m4, ef, p5⟩ := bind_ok p4
    rw [← hf] at ef
    dsimp only at ef
    obtain ⟨ρ2, m5, eg, ef⟩ := bind_ok ef
    obtain ⟨b, m6, et, ef⟩ := bind_ok ef
    have f3 : FutX L H1 Z1 α1 H3 Z3 α2 := f2.trans (.of F3)
    intro s H0 C cl fp
    refine hg s H0 C cl fp _ H3 Z3 α2 (wipeD ρ (own.map (·.2))) m2 v d _ R3 (En1.mono (f3.le)) dd ?_
    rw [eg]
    intro H4 Z4 α4 F4 R4 σ4 En4 l4 k4
    obtain ⟨e4, z4, a4⟩ := step F4 e3 z3 a3
    refine ⟨(wipe_eq l4 fun j hj => k4 j fun z => hj (hsl j z)).trans wipe_wipe, ?_⟩
    intro s H0 C cl fp
    refine hc s H0 C cl fp σ4 H4 Z4 α4 ρ2 m5 _ R4 En4 ?_
    rw [et]
    intro H5 Z5 α5 F5 R5
    obtain ⟨e5, z5, a5⟩ := step F5 e4 z4 a4
    have le3 := (F3.le.trans F4.le).trans F5.le
    have f5 : FutX L H1 Z1 α1 H5 Z5 α5 := (f3.trans (.of F4)).trans (.of F5)
    cases b with
    | true =>
      rw [if_pos rfl]
      rw [if_pos rfl] at ef
      obtain ⟨y, m7, ey, ef⟩ := bind_ok ef
      cases ef
      intro s H0 C cl fp
      refine he s H0 C cl fp σ4 H5 Z5 α5 ρ2 m6 _ R5 (En4.mono F5.le) ?_
      rw [ey]
      intro H6 Z6 α6 F6 R6 w dw
      obtain ⟨e6, z6, a6⟩ := step F6 e5 z5 a5
      dsimp only at p5
      split at p5
      · rename_i hlen
        have dacc6 := dacc.mono (le3.trans F6.le)
        refine ⟨av, e6, by rw [dacc6.len]; exact hlen, Z6, α6, m4, acc ++ [y], av ++ [w], R6.apart z6 a6, (f5.trans (.of F6)).trans .upd, upd_same, dacc6.append (.cons dw .nil), z6, a6, p5⟩
      · cases p5
    | false =>
      rw [if_neg Bool.false_ne_true]
      rw [if_neg Bool.false_ne_true] at ef
      cases ef
      exact ⟨Z5, α5, m4, acc, av, R5, f5, e5, dacc.mono le3, z5, a5, p5⟩
  · rintro H2 ⟨Z2, α2, m2, acc, av, R2, f2, eD, dacc, zL2, aL2, p4⟩
    rw [List.drop_length] at p4
    unfold lcL at p4
    cases p4
    cases ob with
    | false =>
      have F := f2.fin (o := .lst av) hL zL2
      exact p1 _ _ _ F (R2.adopt eD zL2 aL2) _ (.lst upd_same (dacc.mono ⟨fun a u e => by rw [upd_ne (ne_of_none e zL2)]; exact e, [], by simp⟩))
    | true =>
      have le : Le Z2 α2 Z2 (α2 ++ [L]) := ⟨fun _ _ e => e, [L], rfl⟩
      refine p1 _ _ _ (f2.finO hL) (R2.adoptO zL2 aL2 ⟨av, eD, dacc.mono le⟩) _ (.own ?_)
      rw [← R2.len, List.getElem?_append_right (Nat.le_refl _), Nat.sub_self]
      rfl
end
end Pm

set_option maxRecDepth 100000
set_option maxHeartbeats 400000
/-! Texts of data, own instances that are called -/
namespace PySem.W
open PySem PySem.Calls
open PyProof.Rows (Fr)
section
variable {prog : Program} {w : World} {A : Around} {E : Value → Shared → Prop} {s : Shared} {K : Frag} {x C L f : Addr} {h₀ : Heap} {m : Str → Option Value} {ox : Obj} {od : Option Obj}
/-- repr(x) of an own class that has its own -/
theorem pm_repr {Q : Value → Shared → Prop} (hu : A.units + 1 < cLine) (X : K.In s.heap) (I : InstAt s.heap x ox C od) (hs : findIn K (.ref C) "__repr__" = some (some (.ref f))) (hf : isFn K (.ref f) = true)
    (h : wpAny (model prog w) A.in1 (call (.ref f) [.ref x]) (fun v s' => ∃ y t, v = .str y t ∧ Q v s') E s) : wpAny (model prog w) A (call (.builtin "repr") [.ref x]) Q E s := by
  refine Calls.call_function_entry PySem.F.kind_repr PySem.F.plain_repr PySem.F.entry_repr (PySem.F.args_repr1 _) ?_
  unfold Builtin.«repr»
  refine wpAny_bind (m := oneArg "repr" _) (wpAny_pure ?_)
  refine wpAny_bind (m := cRoomFor _ _) (wpAny_cRoomFor (by show A.units + 1 < cLine; exact hu) ?_)
  refine wpAny_bind (m := specialOf (.ref x) (Str.ofString "__repr__")) (wpAny_bind (I.type.here ((looks_findIn X hs).here ?_)))
  refine wpAny_bind (m := callSpecialIfBound? (.ref x) (Str.ofString "__repr__") _) (ifBound_K X I hs hf (wpAny_mono h (fun r s₁ h₁ => ?_) fun _ _ e => e))
  obtain ⟨y, t, rfl, hq⟩ := h₁
  refine wpAny_bind (wpAny_isInstance (T := "str") (b := true) rfl isSubtype_str_str ?_)
  exact wpAny_pure ⟨_, rfl, hq⟩
end
end PySem.W
namespace Pm
open PySem L2
section
variable {G : Gm} {W : XK} {X : Cx} {N : List Str} {lv : Nat} {sc : Scope}
theorem shownD_is {d : D} {y : Str} (h : shownD d = some y) : ∃ x, d.py = some x ∧ x.showable = true ∧ x.hasDict = false ∧ x.depth < 100 ∧ x.shown.length ≤ sizeLine ∧ y = x.shown := by
  unfold shownD at h
  split at h
  · rename_i x e
    split at h
    · rename_i c
      cases h
      simp only [Bool.and_eq_true, Bool.not_eq_true', decide_eq_true_eq] at c
      exact ⟨x, e, c.1.1.1, c.1.1.2, c.1.2, c.2, rfl⟩
    · cases h
  · cases h
/-- the text of data: by repr and in an f-string -/
theorem shown_run {pins : List (Addr × Obj)} {σ : L2.St} {H : Hp} {s : Shared} {v : V} {u : Value} {x : PyData} {Q : VK} (gd : X.A.guards = some []) (hr : Room lv X.A) (I : L2.Inv X pins σ H s) (r : RelV v u) (dp : Dp X.K H v x) (hs : x.showable = true) (hd : x.hasDict = false) (hz : x.depth < 100)
    (hl : x.shown.length ≤ sizeLine) (q : Q (.str x.shown) H) : wpAny (model X.prog X.w) X.A (call (.builtin "repr") [u]) (EP X pins σ Q) X.xe s := by
  have hu := hr.un
  have hit : ∀ i : Int, x = .int i → i.natAbs.log2 < 1920 := fun i e => by subst e; simpa [PyData.showable] using hs
  obtain ⟨as, rd⟩ := Dp.reads I x v u dp r
  cases dp with
  | non => cases r; exact PySem.P.repr_of_none ⟨.str "None", H, I.tok _, ⟨_, rfl⟩, q⟩
  | bl b => cases r; exact PySem.P.repr_of_bool ⟨.str (if b then "True" else "False"), H, I.tok _, ⟨_, rfl⟩, q⟩
  | int i => obtain ⟨t, rfl⟩ := r; exact PySem.P.repr_of_int (hit i rfl) ⟨.str (toString i), H, I.tok _, ⟨_, rfl⟩, q⟩
  | str y => obtain ⟨t, rfl⟩ := r; exact PySem.P.repr_of_str ⟨.str (reprText y), H, I.tok _, ⟨_, rfl⟩, q⟩ hl
  | lst _ _ => cases r; exact repr_of_reads' rd hs (PyData.noDict_hsm hd) gd (by omega) (fun _ _ e => e) (fun h' u tk k => ⟨.str _, H, I.kept k, ⟨u, rfl⟩, q⟩) hl
  | tup _ _ => cases r; exact repr_of_reads' rd hs (PyData.noDict_hsm hd) gd (by omega) (fun _ _ e => e) (fun h' u tk k => ⟨.str _, H, I.kept k, ⟨u, rfl⟩, q⟩) hl
theorem shown_fmt {pins : List (Addr × Obj)} {σ : L2.St} {H : Hp} {s : Shared} {v : V} {u : Value} {x : PyData} {Q : VK} (gd : X.A.guards = some []) (hr : Room lv X.A) (I : L2.Inv X pins σ H s) (r : RelV v u) (dp : Dp X.K H v x) (hs : x.showable = true) (hd : x.hasDict = false) (hz : x.depth < 100)
    (hl : x.shown.length ≤ sizeLine) (ht : ∀ y, x ≠ .str y) (q : Q (.str x.shown) H) : wpAny (model X.prog X.w) X.A (formatField u Str.empty) (EP X pins σ Q) X.xe s := by
  have hu := hr.un
  have hit : ∀ i : Int, x = .int i → i.natAbs.log2 < 1920 := fun i e => by subst e; simpa [PyData.showable] using hs
  obtain ⟨as, rd⟩ := Dp.reads I x v u dp r
  cases dp with
  | non => cases r; exact wpAny_formatField_none ⟨.str "None", H, I.tok _, ⟨_, rfl⟩, q⟩
  | bl b => cases r; exact wpAny_formatField_bool ⟨.str (if b then "True" else "False"), H, I.tok _, ⟨_, rfl⟩, q⟩
  | int i => obtain ⟨t, rfl⟩ := r; exact wpAny_formatField_int (hit i rfl) ⟨.str (toString i), H, I.tok _, ⟨_, rfl⟩, q⟩
  | str y => exact absurd rfl (ht y)
  | lst _ _ => cases r; exact formatField_of_reads rd hs (PyData.noDict_hsm hd) gd (by omega) (fun _ _ e => e) (fun h' u tk k => ⟨.str _, H, I.kept k, ⟨u, rfl⟩, q⟩) hl
  | tup _ _ => cases r; exact formatField_of_reads rd hs (PyData.noDict_hsm hd) gd (by omega) (fun _ _ e => e) (fun h' u tk k => ⟨.str _, H, I.kept k, ⟨u, rfl⟩, q⟩) hl
/-- {e} -/
theorem se_fmt {e : Expr} {pos : Pos} {x : E} (h : CxOk G N lv W sc X) (he : SE G W X e x) : SE G W X (.FormattedValue e (-1) none pos) (.fmt x) := fun σ H Z α ρ m Q R En q => by
  have pe : PE X (.FormattedValue e (-1) none pos) (fun σ H Q => tA X e σ H fun v H1 => ∀ (pins : List (Addr × Obj)) (s : Shared) (u : Value), L2.Inv X pins σ H1 s → RelV v u → wpAny (model X.prog X.w) X.A (formatField u Str.empty) (EP X pins σ Q) X.xe s) :=
    ⟨fun pins s σ H Q I q => wpAny_FormattedValue_plain (thn (pe_all.run pins s σ H _ I q) fun u s1 ⟨v, H1, I1, r1, q1⟩ => q1 pins s1 u I1 r1)⟩
  have hK : G.T.K = X.K := h.good.gk.eK
  unfold evE at q
  refine ⟨_, pe, he σ H Z α ρ m _ R En (q.bind.mono fun d m1 H1 Z1 α1 F1 R1 p1 v dv pins s u I r => ?_)⟩
  split at p1
  · rename_i y hy
    have fin := p1.now R1 _ (.str y)
    unfold fmtD at hy
    split at hy
    · split at hy
      · rename_i z hz
        cases hy
        cases dv
        obtain ⟨t, rfl⟩ := r
        exact wpAny_formatField_str ⟨.str y, H1, I, ⟨t, rfl⟩, fin⟩ ⟨.str y, H1, I.tok _, ⟨_, rfl⟩, fin⟩ hz
      · cases hy
    · rename_i hns
      obtain ⟨x, e1, e2, e3, e4, e5, rfl⟩ := shownD_is hy
      refine shown_fmt h.gd h.room I r (hK ▸ D.py_at R1 dv e1) e2 e3 e4 e5 (fun y z => ?_) fin
      subst z
      cases d <;> simp only [D.py, Option.map_eq_some_iff, reduceCtorEq, and_false, exists_false, Option.some.injEq] at e1
      rename_i s0
      exact hns s0 rfl
  · exact p1.elim
/-- repr(e) -/
theorem rpr_ok (h : CxOk G N lv W sc X) {H Z : Hp} {α : List Addr} {m : Mu} {v : V} {d : D} {Q : VK} (R : Rep G.T H Z α m) (dv : Dn G.T Z α v d) (q : Post G.T W H Z α (rprD G d m) (KQ G.T Q)) : cA X (.builtin "repr") [v] H Q := by
  have hK : G.T.K = X.K := h.good.gk.eK
  refine ⟨fun xs H Q => ∀ (pins : List (Addr × Obj)) (σ : L2.St) (s : Shared) (us : List Value), L2.Inv X pins σ H s → Vals xs us → wpAny (model X.prog X.w) X.A (call (.builtin "repr") us) (EP X pins σ Q) X.xe s, fun pins s σ H xs us Q I r q => q pins σ s us I r, fun pins σ s us I r => ?_⟩
  obtain ⟨u, rfl, rv⟩ := vals1 r
  unfold rprD at q
  split at q
  · rename_i y hy
    obtain ⟨x, e1, e2, e3, e4, e5, rfl⟩ := shownD_is hy
    exact shown_run h.gd h.room I rv (hK ▸ D.py_at R dv e1) e2 e3 e4 e5 (q.now R _ (.str _))
  · split at q
    · rename_i c fs e
      obtain ⟨a, C, dx, vs, rfl, h1, h2, h3⟩ := insOf_cls R dv e
      split at q
      · rename_i g hg
        obtain ⟨f, fd, ps, k, hs, hf, F, hb, hk, hl⟩ := h.good.rp c C g hg h1
        cases rv
        obtain ⟨mA, O, _⟩ := ins_get I.hok h2
        obtain ⟨od, J, _⟩ := O.look
        have hr := h.room.mono hk
        unfold strR at q
        have q2 := q.bind.noX
        have sp : spD G.T ps.length g [V.ref a] H (fun v H' => ∃ y, v = .str y ∧ Q (.str y) H') E0 := ⟨hl.symm, Z, α, m, [d], R, .cons dv .nil, q2.mono fun d1 m1 H1 Z1 α1 F1 R1 p1 w dw => by
          split at p1
          · split at p1
            · cases dw; exact ⟨_, rfl, p1.now R1 _ (.str _)⟩
            · exact p1.elim
          · exact p1.elim⟩
        have b2 := hb s [Value.ref a] I.kIn (by rw [List.append_nil, hl]; rfl)
        rw [List.append_nil] at b2
        refine PySem.W.pm_repr (by have := hr.units; omega) I.kIn J hs hf (wpAny_call (codeAny_mono (F.runG X.A.in1 X.stack s H ⟨[.ref a], []⟩ [.ref a] [.ref a] _ E0 h.gd hr.in1 I.env0.in1 b2 (.cons rfl .nil) sp) fun fin s2 z => ?_))
        match fin, z with
        | .error er, z => exact passL pins σ H s er s2 I z
        | .ok (.ret w), z =>
          obtain ⟨w', H2, I2, r2, y, rfl, q3⟩ := I.after z
          obtain ⟨t, rfl⟩ := r2
          exact ⟨y, t, rfl, .str y, H2, I2, ⟨t, rfl⟩, q3⟩
      · exact q.elim
    · exact q.elim
theorem se_rpr {f : Str} {p pos : Pos} {e : Expr} {x : E} (h : CxOk G N lv W sc X) (ok : okName f = true) (hf : f = "repr") (hg : isGl (sc.names.lookup f) = true) (hs : [e].all noStar = true) (he : SE G W X e x) : SE G W X (.Call (.Name f p) [e] [] pos) (.rpr x) := fun σ H Z α ρ m Q R En q => by
  have hs' := hs
  rw [List.all_cons, Bool.and_eq_true] at hs'
  have gk := glob_ok h ok
  have hm : X.mg f = none := h.good.bl _ (by rw [hf]; decide +kernel)
  have bo : bootBuiltins f = some (.builtin "repr") := by rw [hf]; decide +kernel
  refine ⟨_, pe_callB call_all (h.glob _ hg) hm bo (pa_cons pe_all pa_nil (star_cons hs'.1)) gk.2.2 gk.1 (star_cons hs'.1) (star_all hs'.2), ?_⟩
  unfold evE at q
  exact he σ H Z α ρ m _ R En (q.bind.mono fun d m1 H1 Z1 α1 F1 R1 p1 v dv => rpr_ok h R1 dv p1)
/-- f'..' -/
theorem jst_run {pins : List (Addr × Obj)} {σ : L2.St} {ρ : Env} : ∀ {es : List Expr} {xs : List E}, All2 (SE G W X) es xs → ∀ {acc : Str} {s : Shared} {H Z : Hp} {α : List Addr} {m : Mu} {Q : VK} {R : Str → Shared → Prop}, acc.length ≤ sizeLine → L2.Inv X pins σ H s → Rep G.T H Z α m → EnvR G.T Z α σ ρ → Post G.T W H Z α (evJ G xs acc ρ m) (KQ G.T Q) →
    (∀ out s1 H1, out.length ≤ sizeLine → L2.Inv X pins σ H1 s1 → Q (.str out) H1 → R out s1) → Joins (model X.prog X.w) X.A X.xe (evalEach es X.env) acc R s := by
  intro es xs a
  induction a with
  | nil =>
    intro acc s H Z α m Q R hz I R0 En q k
    rw [show evalEach [] X.env = [] by simp [evalEach]]
    unfold evJ at q
    exact k acc s H hz I (q.now R0 _ (.str _))
  | cons a1 ar ih =>
    rename_i e x es xs
    intro acc s H Z α m Q R hz I R0 En q k
    rw [show evalEach (e :: es) X.env = eval e X.env :: evalEach es X.env by simp [evalEach]]
    unfold evJ at q
    have key := a1 σ H Z α ρ m (fun v H1 => ∃ y, v = V.str y ∧ (acc ++ y).length ≤ sizeLine ∧ ∃ Z1 α1 m1, Rep G.T H1 Z1 α1 m1 ∧ EnvR G.T Z1 α1 σ ρ ∧ Post G.T W H1 Z1 α1 (evJ G xs (acc ++ y) ρ m1) (KQ G.T Q)) R0 En (q.bind.mono fun d m1 H1 Z1 α1 F1 R1 p1 v dv => by
      split at p1
      · split at p1
        · rename_i y hy
          cases dv
          exact ⟨y, rfl, hy, Z1, α1, m1, R1, En.mono F1.le, p1⟩
        · exact p1.elim
      · exact p1.elim)
    refine thn (pe_all.run pins s σ H _ I key) fun v s1 ⟨w, H1, I1, r1, y, e1, hy, Z1, α1, m1, R1, En1, q1⟩ => ?_
    subst e1
    obtain ⟨tk, rfl⟩ := r1
    exact ⟨y, tk, rfl, hy, ih hy I1 R1 En1 q1 k⟩
theorem se_jst {e1 e2 : Expr} {es : List Expr} {pos : Pos} {xs : List E} (ha : All2 (SE G W X) (e1 :: e2 :: es) xs) : SE G W X (.JoinedStr (e1 :: e2 :: es) pos) (.jst xs) := fun σ H Z α ρ m Q R En q => by
  unfold evE at q
  refine ⟨fun σ' H' Q' => σ' = σ ∧ H' = H ∧ Q' = Q, ⟨fun pins s σ' H' Q' I ⟨h1, h2, h3⟩ => ?_⟩, rfl, rfl, rfl⟩
  subst h1 h2 h3
  exact wpAny_JoinedStr (jst_run ha (Nat.zero_le _) I R En q fun out s1 H1 hz I1 q1 => ⟨hz, .str out, H1, I1.tok _, ⟨_, rfl⟩, q1⟩)
/-- x(..), an instance -/
theorem se_cal {f : Str} {p pos : Pos} {e : Expr} {es : List Expr} {irs : List E} {i : Nat} (h : CxOk G N lv W sc X) (ok : okName f = true) (hv : isVis (sc.names.lookup f) = true) (hi : ixOf N f = some i) (hs : (e :: es).all noStar = true) (ha : All2 (SE G W X) (e :: es) irs) :
    SE G W X (.Call (.Name f p) (e :: es) [] pos) (.cal (.var i) irs) := fun σ H Z α ρ m Q R En q => by
  have hs' := hs
  rw [List.all_cons, Bool.and_eq_true] at hs'
  have pe : PE X (.Call (.Name f p) (e :: es) [] pos) (fun σ H Q => tA X (.Name f p) σ H fun y H1 => ∃ a, y = V.ref a ∧ tAA X (e :: es) σ H1 fun vs H2 => ∃ C g fd ps k sp, StX.CallO X.K C g ∧ FnG X.prog X.w X.K X.mg X.base k g fd ps sp ∧ Room k X.A ∧ Binds X.K fd ps [] ∧ StX.InsC X H2 a C ∧ sp (V.ref a :: vs) H2 Q W) := by
    refine ⟨fun pins s σ H Q I q => PyProof.Rows.Call_ (thn (pe_all.run pins s σ H _ I q) fun u s1 ⟨y, H1, I1, ry, a, ey, q1⟩ => ?_) (by rfl)⟩
    subst ey
    obtain rfl : u = Value.ref a := ry
    refine StX.callO_with (thn (pa_all.run pos pins s1 σ H1 _ I1 q1) fun us s2 ⟨vs, H2, I2, r2, C, g, fd, ps, k, sp, c, F, hr, hb, hin, q2⟩ => ?_) (star_cons hs'.1) (star_all hs'.2)
    obtain ⟨ox, od, J, hd⟩ := StX.insC_at I2 hin
    have r3 : Vals (V.ref a :: vs) (Value.ref a :: us) := .cons rfl r2
    have b2 := hb s2 (Value.ref a :: us) I2.kIn (len_all F r3 q2)
    rw [List.append_nil] at b2
    refine ⟨⟨C, ox, od, J, hd⟩, wpAny_call (PySem.W.kco_code I2.kIn J hd c.at_ c.fn c.fi (codeAny_mono (F.runG X.A X.stack s2 H2 ⟨.ref a :: us, []⟩ _ _ Q W h.gd hr I2.env0 b2 r3 q2) fun fin s3 z => ?_))⟩
    match fin, z with
    | .error er, z => exact h.passes pins σ H2 s2 er s3 I2 z
    | .ok (.ret w), z => exact I2.after z
  unfold evE at q
  refine ⟨_, pe, se_var h ok hv hi σ H Z α ρ m _ R En (q.bind.mono fun d m1 H1 Z1 α1 F1 R1 p1 v dv => ?_)⟩
  split at p1
  · rename_i cf e1
    obtain ⟨a, C, dx, vs, rfl, h1, h2, h3⟩ := insOf_cls (c := cf.1) (fs := cf.2) R1 dv e1
    refine ⟨a, rfl, ses_of hs ha σ H1 Z1 α1 ρ m1 _ R1 (En.mono F1.le) (p1.bind.mono fun ds m2 H2 Z2 α2 F2 R2 p2 us dus => ?_)⟩
    split at p2
    · rename_i c fs e2
      obtain ⟨a2, C2, dx2, vs2, ea, g1, g2, g3⟩ := insOf_cls R2 (dv.mono F2.le) e2
      cases ea
      split at p2
      · rename_i g hg
        obtain ⟨fa, fd, ps, k, c1, F, hb, hk, hn⟩ := h.good.ca c C2 g hg g1
        exact ⟨C2, fa, fd, ps, k, _, c1, F, h.room.mono hk, hb, .inr ⟨_, _, g2⟩, spD_of R2 (.cons (dv.mono F2.le) dus) hn p2⟩
      · exact p2.elim
    · exact p2.elim
  · exact p1.elim
end
end Pm

set_option maxRecDepth 100000
set_option maxHeartbeats 400000
/-! list(zip(a, b)) -/
namespace Pm
open PySem L2
section
variable {T : Tb} {H Z H2 Z2 : Hp} {α : List Addr} {m : Mu}
theorem Rep.wide (R : Rep T H Z α m) (h1 : ∀ a o, H a = some o → H2 a = some o) (h2 : ∀ a o, Z a = some o → Z2 a = some o) (h3 : ∀ a o, Z2 a = some o → H2 a = some o) (h4 : ∀ a, Z2 a ≠ none → Z a ≠ none ∨ H a = none) : Rep T H2 Z2 α m ∧ Fut H Z α H2 Z2 α := by
  have le : Le Z α Z2 α := ⟨h2, [], by simp⟩
  refine ⟨⟨h3, R.len, R.nd, fun i a v e ev lv => ?_, fun i a u e1 e2 => (R.obj i a u e1 e2).mono le (h1 a)⟩, ⟨le, fun a o e _ => h1 a o e, fun _ q => .inl q, fun a q z => ?_, fun a q => (h4 a q).elim .inl fun z => .inr (.inl z)⟩⟩
  · obtain ⟨u, hu⟩ := R.hit e
    have hz := R.out i a v e ev lv
    cases q : Z2 a with
    | none => rfl
    | some w =>
      rcases h4 a (by rw [q]; exact fun z => by cases z) with z | z
      · exact absurd hz z
      · rw [hu] at z; cases z
  · cases e : H a with
    | none => exact q e
    | some o => rw [h1 a o e] at z; cases z
end
section
variable {G : Gm} {W : XK} {X : Cx} {N : List Str} {lv : Nat} {sc : Scope}
theorem lookS_sq {T : Tb} {H Z : Hp} {α : List Addr} {m : Mu} {v : V} {d : D} {ds : List D} (R : Rep T H Z α m) (dv : Dn T Z α v d) (e : lookS m d = some ds) : ∃ a vs, v = .ref a ∧ Mine.SqA T.K H a vs ∧ Dns T Z α vs ds := lookS_at R dv e
theorem lzpA_is {es : List Expr} {g : Str} {a b : Expr} (h : lzpA es = some (g, a, b)) : g = "zip" ∧ ∃ p p2, es = [.Call (.Name g p) [a, b] [] p2] := by
  unfold lzpA at h
  split at h
  · split at h
    · rename_i e; cases h; exact ⟨e, _, _, rfl⟩
    · cases h
  · cases h
theorem zip_dns {T : Tb} {Z Z2 : Hp} {α : List Addr} (le : Le Z α Z2 α) : ∀ {vs us : List V} {xs ys : List D} {ps : List Addr}, Dns T Z α vs xs → Dns T Z α us ys → ps.length = vs.length → vs.length = us.length →
    (∀ (j : Nat) (p : Addr) (x y : V), ps[j]? = some p → vs[j]? = some x → us[j]? = some y → Z2 p = some (.tup [x, y])) → Dns T Z2 α (ps.map V.ref) (List.zipWith (fun x y => D.tup [x, y]) xs ys)
  | [], [], _, _, [], .nil, .nil, _, _, _ => .nil
  | v :: vs, u :: us, _, _, p :: ps, .cons d1 r1, .cons d2 r2, h1, h2, h => by
    refine .cons (.tup (h 0 p v u rfl rfl rfl) (.cons (d1.mono le) (.cons (d2.mono le) .nil))) (zip_dns le r1 r2 (by simpa using h1) (by simpa using h2) fun j p x y a b c => h (j + 1) p x y a b c)
  | [], [], _, _, p :: ps, _, _, h1, _, _ => by simp at h1
  | v :: vs, _, _, _, [], _, _, h1, _, _ => by simp at h1
theorem se_lzp {f g : Str} {a b : Expr} {p p2 pos pos2 : Pos} {x y : E} (h : CxOk G N lv W sc X) (ok : okName f = true) (hf : f = "list") (hg : isGl (sc.names.lookup f) = true) (hz : g = "zip") (hg2 : isGl (sc.names.lookup g) = true) (h1 : noStar a = true) (h2 : noStar b = true) (ha : SE G W X a x) (hb : SE G W X b y) :
    SE G W X (.Call (.Name f p) [.Call (.Name g p2) [a, b] [] pos2] [] pos) (.lzp x y) := fun σ H Z α ρ m Q R En q => by
  subst hf hz
  have hK : G.T.K = X.K := h.good.gk.eK
  have m1 : X.mg "list" = none := h.good.bl _ (by decide +kernel)
  have m2 : X.mg "zip" = none := h.good.bl _ (by decide +kernel)
  refine ⟨_, Mine.pe_listZip h.calm (h.glob _ hg) m1 (h.glob _ hg2) m2 (pa_cons pe_all (pa_cons pe_all pa_nil (star_cons h2)) (star_cons h1)) (star_cons rfl) (star_cons h1) (star_all (by rw [List.all_cons, h2]; rfl)), ?_⟩
  unfold evE at q
  refine ha σ H Z α ρ m _ R En (q.bind.mono fun d1 m1 H1 Z1 α1 F1 R1 p1 v1 dv1 => ?_)
  refine hb σ H1 Z1 α1 ρ m1 _ R1 (En.mono F1.le) (p1.bind.mono fun d2 m2 H2 Z2 α2 F2 R2 p2 v2 dv2 => ?_)
  split at p2
  · rename_i xs ys hx hy
    split at p2
    · rename_i hl
      obtain ⟨a1, vs, rfl, s1, n1⟩ := lookS_sq R2 (dv1.mono F2.le) hx
      obtain ⟨a2, us, rfl, s2, n2⟩ := lookS_sq R2 dv2 hy
      rw [hK] at s1 s2
      refine ⟨a1, a2, vs, us, rfl, s1, s2, by rw [n1.len, n2.len]; exact hl.1, by rw [n1.len]; exact hl.2, fun S ps H3 z => ?_⟩
      let Z3 : Hp := fun b => if b = S ∨ b ∈ ps then H3 b else Z2 b
      have inn : ∀ b, b = S ∨ b ∈ ps → H2 b = none := fun b hb => by
        rcases hb with rfl | hb
        · exact z.fresh
        · obtain ⟨j, hj⟩ := List.mem_iff_getElem?.mp hb
          exact z.apart j b hj
      obtain ⟨R3, F3⟩ := R2.wide (H2 := H3) (Z2 := Z3) (fun a o e => z.same a o e) (fun a o e => by
          show (if a = S ∨ a ∈ ps then H3 a else Z2 a) = some o
          rw [if_neg fun hb => by have := R2.sub a o e; rw [inn a hb] at this; cases this]
          exact e) (fun a o e => by
          have e : (if a = S ∨ a ∈ ps then H3 a else Z2 a) = some o := e
          split at e
          · exact e
          · exact z.same a o (R2.sub a o e)) (fun a e => by
          by_cases hb : a = S ∨ a ∈ ps
          · exact .inr (inn a hb)
          · have e : (if a = S ∨ a ∈ ps then H3 a else Z2 a) ≠ none := e
            rw [if_neg hb] at e
            exact .inl e)
      refine p2 H3 Z3 α2 F3 R3 (V.ref S) (.lst (show Z3 S = some _ from (if_pos (.inl rfl)).trans z.at_) (zip_dns F3.le n1 n2 z.len (by rw [n1.len, n2.len]; exact hl.1) fun j p x y e1 e2 e3 => (if_pos (.inr (List.mem_iff_getElem?.mpr ⟨j, e1⟩))).trans (z.pair j p x y e1 e2 e3)))
    · exact p2.elim
  · exact p2.elim
end
end Pm

set_option maxRecDepth 100000
set_option maxHeartbeats 4000000
/-! What was translated, holds -/
namespace Pm
open PySem L2
section
variable {G : Gm} {N : List Str} {lv : Nat} {tp : Tp}
structure TrOk (G : Gm) (N : List Str) (lv : Nat) (tp : Tp) (n : Nat) : Prop where
  e : ∀ sc W X, CxOk G N lv W sc X → ∀ e ir, trE tp N n sc e = some ir → SE G W X e ir
  es : ∀ sc W X, CxOk G N lv W sc X → ∀ es irs, trEs tp N n sc es = some irs → es.all noStar = true ∧ All2 (SE G W X) es irs
  o : ∀ sc W X, CxOk G N lv W sc X → ∀ e ir, trO tp N n sc e = some ir → SO G W X e ir
  t : ∀ sc W X, CxOk G N lv W sc X → ∀ e ir, trT tp N n sc e = some ir → ST G W X e ir
  ts : ∀ sc W X, CxOk G N lv W sc X → ∀ es irs, trTs tp N n sc es = some irs → All2 (ST G W X) es irs
  ifs : ∀ sc W X, CxOk G N lv W sc X → ∀ es c, trIfs tp N n sc es = some c → SIfs G W X es c
  i : ∀ sc W X, CxOk G N lv W sc X → ∀ tg it ir, trI tp N n sc tg it = some ir → SI G W X tg it ir ∧ ∀ a b c, it ≠ .Set a b c
  g : ∀ sc W X, CxOk G N lv W sc X → ∀ e g, trG tp N n sc e = some g → SG G W X e g
  gs : ∀ sc W X, CxOk G N lv W sc X → ∀ es gs, trGs tp N n sc es = some gs → es.all noStar = true ∧ es.length = gs.length ∧ SGs G W X es gs
theorem trOk_zero : TrOk G N lv tp 0 where
  e := fun _ _ _ _ _ _ h => by unfold trE at h; cases h
  es := fun _ _ _ _ _ _ h => by unfold trEs at h; cases h
  o := fun _ _ _ _ _ _ h => by unfold trO at h; cases h
  t := fun _ _ _ _ _ _ h => by unfold trT at h; cases h
  ts := fun _ _ _ _ _ _ h => by unfold trTs at h; cases h
  ifs := fun _ _ _ _ _ _ h => by unfold trIfs at h; cases h
  i := fun _ _ _ _ _ _ _ h => by unfold trI at h; cases h
  g := fun _ _ _ _ _ _ h => by unfold trG at h; cases h
  gs := fun _ _ _ _ _ _ h => by unfold trGs at h; cases h
theorem ty_boot : ∀ {x : Str} {t : String}, tyNames.lookup x = some t → x ∈ (["len", "min", "max", "int", "tuple", "list", "isinstance", "any", "all", "range", "zip", "enumerate", "str", "bool", "repr"] : List Str) ∧ bootBuiltins x = some (.type t) ∧ okName x = true := by
  intro x t h
  unfold tyNames at h
  simp only [List.lookup_cons, List.lookup_nil] at h
  repeat' (split at h)
  all_goals first
    | (rename_i e; rw [beq_iff_eq] at e; subst e; cases h; exact ⟨by decide +kernel, by decide +kernel, by decide +kernel⟩)
    | cases h
theorem trE_ok (hcls : ∀ x ∈ tp.cls, ∃ C, G.T.cls x = some C) {n : Nat} (I : TrOk G N lv tp n) (sc : Scope) (W : XK) (X : Cx) (h : CxOk G N lv W sc X) (e : Expr) (ir : E) (q : trE tp N (n + 1) sc e = some ir) : SE G W X e ir := by
  unfold trE at q
  split at q
  · -- a name
    split at q
    · rename_i ok
      split at q
      · rename_i hv
        rw [Option.map_eq_some_iff] at q
        obtain ⟨i, hi, rfl⟩ := q
        exact se_var h ok hv hi
      · split at q
        · rename_i hg
          have gk := glob_ok h ok
          split at q
          · rename_i t ht
            cases q
            obtain ⟨b1, b2, b3⟩ := ty_boot ht
            exact se_con (v := .ty t) (pe_bltn (h.glob _ hg) (bl_in h b1) b2 rfl gk.2.2 gk.1) fun Z α => .ty t
          · split at q
            · rename_i hc
              cases q
              obtain ⟨C, hC⟩ := hcls _ (List.contains_iff_mem.mp hc)
              exact se_con (v := .ref C) (pe_glob (h.glob _ hg) (h.good.cl _ C hC) rfl gk.1) fun Z α => .cls hC
            · cases q
        · cases q
    · cases q
  · cases q; exact se_con pe_int fun _ _ => .int _
  · cases q; exact se_con pe_bl fun _ _ => .bl _
  · cases q; exact se_con pe_non fun _ _ => .non
  · cases q; exact se_con pe_str fun _ _ => .str _
  · rw [Option.map_eq_some_iff] at q
    obtain ⟨irs, hq, rfl⟩ := q
    obtain ⟨h1, h2⟩ := I.es sc W X h _ _ hq
    exact se_tup (ses_of h1 h2)
  · rw [Option.map_eq_some_iff] at q
    obtain ⟨irs, hq, rfl⟩ := q
    obtain ⟨h1, h2⟩ := I.es sc W X h _ _ hq
    split
    · exact se_lsto (ses_of h1 h2)
    · exact se_lst (ses_of h1 h2)
  · split at q
    · rename_i h1 h2
      cases q
      exact se_bin h (I.e sc W X h _ _ h1) (I.e sc W X h _ _ h2)
    · cases q
  · rw [Option.map_eq_some_iff] at q
    obtain ⟨x, hq, rfl⟩ := q
    exact se_neg (I.e sc W X h _ _ hq)
  · rw [Option.map_eq_some_iff] at q
    obtain ⟨x, hq, rfl⟩ := q
    exact se_not (I.e sc W X h _ _ hq)
  · split at q
    · cases q
    · rename_i hb
      split at q
      · rename_i h1 h2
        cases q
        exact se_cmp h (noMark fun a c d z => hb a c d z) (I.e sc W X h _ _ h1) (I.e sc W X h _ _ h2)
      · cases q
  · split at q
    · cases q
    · rename_i hb
      split at q
      · rename_i h1 h2 h3
        cases q
        exact se_chn h (noMark fun a c d z => hb a c d z) (I.e sc W X h _ _ h1) (I.e sc W X h _ _ h2) (I.e sc W X h _ _ h3)
      · cases q
  · rw [Option.bind_eq_some_iff] at q
    obtain ⟨irs, hq, ha⟩ := q
    exact se_and (I.es sc W X h _ _ hq).2 ha
  · rw [Option.bind_eq_some_iff] at q
    obtain ⟨irs, hq, ha⟩ := q
    exact se_or (I.es sc W X h _ _ hq).2 ha
  · split at q
    · rename_i h1 h2 h3
      cases q
      exact se_ife (I.t sc W X h _ _ h1) (I.e sc W X h _ _ h2) (I.e sc W X h _ _ h3)
    · cases q
  · -- a call
    split at q
    · rename_i hc
      rw [Bool.and_eq_true, Bool.and_eq_true] at hc
      obtain ⟨⟨ok, hg⟩, hs⟩ := hc
      split at q
      · rename_i g1 a1 b1 hl
        obtain ⟨hz, p1, p2, rfl⟩ := lzpA_is hl
        split at q
        · rename_i hc
          obtain ⟨hf, hg2, n1, n2⟩ := hc
          split at q
          · rename_i h1 h2
            cases q
            exact se_lzp h ok hf hg hz hg2 n1 n2 (I.e sc W X h _ _ h1) (I.e sc W X h _ _ h2)
          · cases q
        · cases q
      · split at q
        · cases q
        · rename_i xs hx
          have ha := (I.es sc W X h _ _ hx).2
          split at q
          · cases q
            exact se_mk h ok hg hs ha
          · split at q
            · rename_i hf
              split at q
              · cases q
                cases ha with
                | cons a1 ar => cases ar; exact se_rpr h ok hf hg hs a1
              · cases q
            · split at q
              · rename_i b e1 es hb _
                cases q
                exact se_blt h ok hg hs ha hb
              · cases q
              · cases q
                exact se_fn h ok hg hs ha
    · split at q
      · rename_i hc
        rw [Bool.and_eq_true, Bool.and_eq_true] at hc
        obtain ⟨⟨ok, hv⟩, hs⟩ := hc
        split at q
        · rename_i hi _ hx
          cases q
          exact se_cal h ok hv hi hs (I.es sc W X h _ _ hx).2
        · cases q
      · cases q
  · rw [Option.map_eq_some_iff] at q
    obtain ⟨x, hq, rfl⟩ := q
    exact se_fmt h (I.e sc W X h _ _ hq)
  · split at q
    · split at q
      · rw [Option.map_eq_some_iff] at q
        obtain ⟨xs, hq, rfl⟩ := q
        exact se_jst (I.es sc W X h _ _ hq).2
      · cases q
    · cases q
  · split at q
    · rename_i hc
      rw [Bool.and_eq_true, Bool.and_eq_true, Bool.and_eq_true, decide_eq_true_eq] at hc
      obtain ⟨⟨⟨hpo, hs⟩, hl⟩, hp⟩ := hc
      split at q
      · rename_i x xs hx hxs
        have ho := I.e sc W X h _ _ hx
        have ha := (I.es sc W X h _ _ hxs).2
        split at q
        · rename_i f hf
          cases q
          exact se_bm hf hpo hs hl hp ho ha
        · cases q
          exact se_met h hpo hs (by omega) hp ho ha
      · cases q
    · cases q
  · split at q
    · rename_i hpo
      rw [Option.map_eq_some_iff] at q
      obtain ⟨x, hq, rfl⟩ := q
      exact se_att h hpo (I.e sc W X h _ _ hq)
    · cases q
  · split at q
    · rename_i h1 h2 h3
      cases q
      exact se_slc h (I.e sc W X h _ _ h1) (I.o sc W X h _ _ h2) (I.o sc W X h _ _ h3)
    · cases q
  · split at q
    · cases q
    · rename_i hb
      split at q
      · rename_i h1 h2
        cases q
        exact se_idx h (plainIx fun a c d e z => hb a c d e z) (I.e sc W X h _ _ h1) (I.e sc W X h _ _ h2)
      · cases q
  · split at q
    · rename_i hb
      split at q
      · rename_i it g c x h1 h2 h3 h4
        split at q
        · rename_i hsl
          cases q
          have b := blkOk_by hb
          obtain ⟨i1, i2⟩ := I.i sc W X h _ _ _ h1
          exact (sl_lc h b (noSet i2) (fun j hj => by
            have := List.all_eq_true.mp hsl j hj
            exact List.contains_iff_mem.mp this) i1 (fun s H C cl fp => I.g _ _ _ (blk_ok h b s H C cl fp) _ _ h2) (fun s H C cl fp => I.ifs _ _ _ (blk_ok h b s H C cl fp) _ _ h3) (fun s H C cl fp => I.e _ _ _ (blk_ok h b s H C cl fp) _ _ h4)).se h
        · cases q
      · cases q
    · cases q
  · cases q
theorem trL_ok {n : Nat} (I : TrOk G N lv tp n) (sc : Scope) (W : XK) (X : Cx) (h : CxOk G N lv W sc X) (elt : Expr) (gs : List Comprehension) (scope : Scope) (p : Pos) (ir : E) (q : trE tp N (n + 1) sc (.ListComp elt gs scope p) = some ir) : SL G W X elt gs scope ir := by
  unfold trE at q
  split at q <;> first
    | (rename_i z; cases z; done)
    | skip
  · rename_i z
    cases z
    split at q
    · rename_i hb
      split at q
      · rename_i it g c x h1 h2 h3 h4
        split at q
        · rename_i hsl
          cases q
          have b := blkOk_by hb
          obtain ⟨i1, i2⟩ := I.i sc W X h _ _ _ h1
          exact (sl_lc h b (noSet i2) (fun j hj => by
            have := List.all_eq_true.mp hsl j hj
            exact List.contains_iff_mem.mp this) i1 (fun s H C cl fp => I.g _ _ _ (blk_ok h b s H C cl fp) _ _ h2) (fun s H C cl fp => I.ifs _ _ _ (blk_ok h b s H C cl fp) _ _ h3) (fun s H C cl fp => I.e _ _ _ (blk_ok h b s H C cl fp) _ _ h4))
        · cases q
      · cases q
    · cases q
  · cases q
theorem trT_ok {n : Nat} (I : TrOk G N lv tp n) (sc : Scope) (W : XK) (X : Cx) (h : CxOk G N lv W sc X) (e : Expr) (ir : E) (q : trT tp N (n + 1) sc e = some ir) : ST G W X e ir := by
  unfold trT at q
  split at q
  · rw [Option.bind_eq_some_iff] at q
    obtain ⟨irs, hq, ha⟩ := q
    exact (sw_and (I.ts sc W X h _ _ hq) ha).st
  · rw [Option.bind_eq_some_iff] at q
    obtain ⟨irs, hq, ha⟩ := q
    exact (sw_or (I.ts sc W X h _ _ hq) ha).st
  · rw [Option.map_eq_some_iff] at q
    obtain ⟨x, hq, rfl⟩ := q
    exact st_not (I.t sc W X h _ _ hq)
  · split at q
    · cases q
    · rename_i hb
      split at q
      · rename_i h1 h2
        cases q
        exact st_cmp h (noMark fun a c d z => hb a c d z) (I.e sc W X h _ _ h1) (I.e sc W X h _ _ h2)
      · cases q
  · split at q
    · cases q
    · rename_i hb
      split at q
      · rename_i h1 h2 h3
        cases q
        exact st_chn h (noMark fun a c d z => hb a c d z) (I.e sc W X h _ _ h1) (I.e sc W X h _ _ h2) (I.e sc W X h _ _ h3)
      · cases q
  · split at q
    · cases q
    · rename_i hb
      rw [Option.map_eq_some_iff] at q
      obtain ⟨x, hq, rfl⟩ := q
      exact st_tru h (by simpa using hb) (I.e sc W X h _ _ hq)
theorem trI_ok {n : Nat} (I : TrOk G N lv tp n) (sc : Scope) (W : XK) (X : Cx) (h : CxOk G N lv W sc X) (tg it : Expr) (ir : It) (q : trI tp N (n + 1) sc tg it = some ir) : SI G W X tg it ir ∧ ∀ a b c, it ≠ .Set a b c := by
  unfold trI at q
  split at q
  · cases q
  · refine ⟨?_, fun a b c z => by cases z⟩
    split at q
    · rename_i hc
      rw [Bool.and_eq_true, Bool.and_eq_true] at hc
      obtain ⟨⟨ok, hg⟩, hs⟩ := hc
      split at q
      · rename_i hf
        subst hf
        split at q
        · rw [Option.map_eq_some_iff] at q
          obtain ⟨irs, hq, rfl⟩ := q
          obtain ⟨h1, h2⟩ := I.es sc W X h _ _ hq
          exact si_rng h hg h1 (.inl rfl) h2
        · rw [Option.map_eq_some_iff] at q
          obtain ⟨irs, hq, rfl⟩ := q
          obtain ⟨h1, h2⟩ := I.es sc W X h _ _ hq
          exact si_rng h hg h1 (.inr rfl) h2
        · cases q
      · split at q
        · rename_i hf
          subst hf
          split at q
          · split at q
            · rename_i h1 h2
              cases q
              exact si_zip h hg hs (I.e sc W X h _ _ h1) (I.e sc W X h _ _ h2)
            · cases q
          · cases q
        · split at q
          · rename_i hf
            subst hf
            split at q
            · rw [Option.map_eq_some_iff] at q
              obtain ⟨x, hq, rfl⟩ := q
              rw [List.all_cons, Bool.and_eq_true] at hs
              exact si_enu h hg hs.1 (I.e sc W X h _ _ hq)
            · cases q
          · rw [Option.map_eq_some_iff] at q
            obtain ⟨x, hq, rfl⟩ := q
            exact si_val h (I.e sc W X h _ _ hq)
    · cases q
  · rename_i hset _
    rw [Option.map_eq_some_iff] at q
    obtain ⟨x, hq, rfl⟩ := q
    exact ⟨si_val h (I.e sc W X h _ _ hq), fun a b c z => hset a b c z⟩
theorem trOk_succ (hcls : ∀ x ∈ tp.cls, ∃ C, G.T.cls x = some C) {n : Nat} (I : TrOk G N lv tp n) : TrOk G N lv tp (n + 1) where
  e := trE_ok hcls I
  es := fun sc W X h es irs q => by
    unfold trEs at q
    split at q
    · cases q
      exact ⟨rfl, .nil⟩
    · split at q
      · rename_i hs
        split at q
        · rename_i h1 h2
          cases q
          obtain ⟨h3, h4⟩ := I.es sc W X h _ _ h2
          exact ⟨by rw [List.all_cons, hs, h3]; rfl, .cons (I.e sc W X h _ _ h1) h4⟩
        · cases q
      · cases q
  o := fun sc W X h e ir q => by
    unfold trO at q
    split at q
    · cases q; exact so_none
    · rw [Option.map_eq_some_iff] at q
      obtain ⟨x, hq, rfl⟩ := q
      exact so_some (I.e sc W X h _ _ hq)
  t := trT_ok I
  ts := fun sc W X h es irs q => by
    unfold trTs at q
    split at q
    · cases q; exact .nil
    · split at q
      · rename_i h1 h2
        cases q
        exact .cons (I.t sc W X h _ _ h1) (I.ts sc W X h _ _ h2)
      · cases q
  ifs := fun sc W X h es c q => by
    unfold trIfs at q
    split at q
    · cases q; exact sifs_nil
    · rw [Option.map_eq_some_iff] at q
      obtain ⟨x, hq, rfl⟩ := q
      exact sifs_one (I.t sc W X h _ _ hq)
    · cases q
  i := trI_ok I
  g := fun sc W X h e g q => by
    unfold trG at q
    split at q
    · split at q
      · rename_i hl
        rw [Option.map_eq_some_iff] at q
        obtain ⟨i, hi, rfl⟩ := q
        exact sg_name h hl hi
      · cases q
    · rw [Option.map_eq_some_iff] at q
      obtain ⟨gs, hq, rfl⟩ := q
      obtain ⟨h1, h2, h3⟩ := I.gs sc W X h _ _ hq
      exact sg_tup h h1 h2 h3
    · split at q
      · cases q
      · rename_i hb
        split at q
        · rename_i h1 h2
          cases q
          exact sg_sub (fun a c d e z => hb a c d e z) (I.e sc W X h _ _ h1) (I.e sc W X h _ _ h2)
        · cases q
    · split at q
      · rw [Option.map_eq_some_iff] at q
        obtain ⟨x, hq, rfl⟩ := q
        exact sg_fld h (I.e sc W X h _ _ hq)
      · cases q
    · cases q
  gs := fun sc W X h es gs q => by
    unfold trGs at q
    split at q
    · cases q
      exact ⟨rfl, rfl, sgs_nil⟩
    · split at q
      · rename_i hs
        split at q
        · rename_i h1 h2
          cases q
          obtain ⟨h3, h4, h5⟩ := I.gs sc W X h _ _ h2
          exact ⟨by rw [List.all_cons, hs, h3]; rfl, by rw [List.length_cons, List.length_cons, h4], sgs_cons hs (I.g sc W X h _ _ h1) h5⟩
        · cases q
      · cases q
theorem tr_ok (hcls : ∀ x ∈ tp.cls, ∃ C, G.T.cls x = some C) : ∀ n, TrOk G N lv tp n
  | 0 => trOk_zero
  | n + 1 => trOk_succ hcls (tr_ok hcls n)
end
end Pm

set_option maxRecDepth 100000
set_option maxHeartbeats 4000000
/-! Statements -/
namespace Pm
open PySem L2
/-- what `swappedStores` gives, where it does not refuse -/
def swP (kindOf : Str → Option NameKind) (ts vs : List Expr) : Option (Option (List Str)) :=
  if !(ts.length == 2 || ts.length == 3) || vs.length != ts.length then some none
  else if vs.any fun | .Starred .. => true | _ => false then some none
  else
    let line := (ts.head?.map (·.pos.line)).getD 0
    let names := ts.filterMap fun
      | .Name id pos => if kindOf id == some .local && pos.line == line then some id else none
      | _ => none
    if names.length != ts.length || names.eraseDups.length != names.length then some none
    else if vs.all (foldedForSure 8) then some none
    else if vs.all (constantsAlone 8) then none
    else some (some names)
theorem swP_ok {ts vs : List Expr} {k k2 : Nat} {p p2 : Pos} {env : PySem.Env} {r : Option (List Str)} (hb : env.blockKind = .function) (h : swP env.kindOf ts vs = some r) : swappedStores [.Tuple ts k p] (.Tuple vs k2 p2) env = pure r := by
  unfold swP at h
  unfold swappedStores
  have e : (env.blockKind != .function) = false := by rw [hb]; rfl
  dsimp only at h ⊢
  rw [e, Bool.or_false]
  by_cases c1 : (!(ts.length == 2 || ts.length == 3) || vs.length != ts.length) = true
  · rw [if_pos c1] at h ⊢
    cases h; rfl
  · rw [if_neg c1] at h ⊢
    split at h
    · rename_i c2
      cases h
      exact (if_pos c2).trans rfl
    · rename_i c2
      refine (if_neg c2).trans ?_
      split at h
      · rename_i c3
        cases h
        exact (if_pos c3).trans rfl
      · rename_i c3
        refine (if_neg c3).trans ?_
        split at h
        · rename_i c4
          cases h
          exact (if_pos c4).trans rfl
        · rename_i c4
          refine (if_neg c4).trans ?_
          split at h
          · cases h
          · rename_i c5
            cases h
            exact (if_neg c5).trans rfl
def isComp : Expr → Bool
  | .ListComp .. => true | .SetComp .. => true | .DictComp .. => true
  | _ => false
theorem sw_plain {e : Expr} {tg : Option Expr} {l : Nat} {env : PySem.Env} (h : isComp e = false) : swapsWith e tg l env = pure false := by
  cases e <;> first | rfl | cases h
/-- whether a comprehension's list is stored within its frame -/
def swB (sc : Scope) (tg : Expr) (scope : Scope) (p : Pos) : Bool :=
  match tg with
  | .Name t pt => sc.names.lookup t == some .local && pt.line == p.line && !(scope.names.any fun y => y.1 == t && (y.2 == .local || y.2 == .cell))
  | _ => false
theorem sw_comp {elt : Expr} {gs : List Comprehension} {scope : Scope} {p : Pos} {tg : Expr} {l : Nat} {env : PySem.Env} (hk : env.scope.kind = .function) : swapsWith (.ListComp elt gs scope p) (some tg) l env = pure (swB env.scope tg scope p) := by
  have hb : env.blockKind = .function := by
    unfold PySem.Env.blockKind
    rw [hk]
    rfl
  cases tg <;> first | rfl | skip
  rename_i t pt
  show pure (env.blockKind == .function && env.kindOf t == some .local && pt.line == p.line && !(scope.names.any fun (n, k) => n == t && (k == .local || k == .cell))) = _
  rw [hb]
  rfl
def isTupL : Expr → Bool
  | .Tuple .. => true | .List .. => true
  | _ => false
theorem st_none {tg e : Expr} {env : PySem.Env} (h : isTupL tg = false) : swappedStores [tg] e env = pure none := by
  cases tg <;> first | rfl | cases h
theorem st_none2 {tg e : Expr} {env : PySem.Env} (h : ∀ a b c, e ≠ .Tuple a b c) : swappedStores [tg] e env = pure none := by
  cases tg <;> cases e <;> first | rfl | exact absurd rfl (h _ _ _)
section
variable (tp : Tp) (N : List Str)
/-- a statement without what is frozen ahead of it -/
def trA (n : Nat) (sc : Scope) (tg value : Expr) : Option C :=
  match trG tp N n sc tg, trE tp N n sc value with
  | some g, some x => some (.asg g x)
  | _, _ => none
def asgOk (sc : Scope) (tg value : Expr) : Bool :=
  noStar tg && match value with
    | .ListComp _ _ scope p => !swB sc tg scope p
    | .SetComp .. => false
    | .DictComp .. => false
    | .Tuple vs _ _ => match tg with
      | .Tuple ts _ _ => match swP (fun x => sc.names.lookup x) ts vs with
        | some none => true
        | _ => false
      | .List .. => false
      | _ => true
    | _ => true
def stmtLine : Stmt → Nat
  | .Assign _ _ p => p.line | .For _ _ _ _ p => p.line | .While _ _ _ p => p.line | .If _ _ _ p => p.line | .Return _ p => p.line | .Expr _ p => p.line | .AugAssign _ _ _ p => p.line
  | _ => 0
mutual
def trC (n : Nat) (sc : Scope) (s : Stmt) : Option C :=
  match n with
  | 0 => none
  | n + 1 => match tp.frz.lookup (stmtLine s) with
    | some is => (trC0 n sc s).map (.frz is)
    | none => trC0 n sc s
def trC0 (n : Nat) (sc : Scope) (s : Stmt) : Option C :=
  match n with
  | 0 => none
  | n + 1 => match s with
    | .Assign [tg] value _ => if asgOk sc tg value then trA tp N n sc tg value
      else match tg, value with
        | .Name t _, .ListComp _ _ scope p => if swB sc tg scope p then trA tp N n sc tg value else none
        | .Tuple [.Name x px, .Name y py] _ _, .Tuple [a, b] _ _ =>
          if swP (fun x => sc.names.lookup x) [.Name x px, .Name y py] [a, b] = some (some [x, y]) ∧ sc.names.lookup x = some .local ∧ sc.names.lookup y = some .local ∧ x ≠ y then
            match ixOf N x, ixOf N y, trEs tp N n sc [a, b] with
            | some i, some j, some [xa, xb] => some (.asg (.tup [.nm i, .nm j]) (.tup [xa, xb]))
            | _, _, _ => none
          else none
        | .Tuple [.Name x px, .Name y py, .Name z pz] _ _, .Tuple [a, b, c] _ _ =>
          if swP (fun x => sc.names.lookup x) [.Name x px, .Name y py, .Name z pz] [a, b, c] = some (some [x, y, z]) ∧ sc.names.lookup x = some .local ∧ sc.names.lookup y = some .local ∧ sc.names.lookup z = some .local ∧ x ≠ y ∧ x ≠ z ∧ y ≠ z then
            match ixOf N x, ixOf N y, ixOf N z, trEs tp N n sc [a, b, c] with
            | some i, some j, some l, some [xa, xb, xc] => some (.asg (.tup [.nm i, .nm j, .nm l]) (.tup [xa, xb, xc]))
            | _, _, _, _ => none
          else none
        | _, _ => none
    | .AugAssign (.Name x _) op e _ => if isLoc (sc.names.lookup x) && (op == .Add || op == .Sub) then
        match ixOf N x, trE tp N n sc e with
        | some i, some y => some (.aug i op y)
        | _, _ => none
      else none
    | .Expr e _ => if isComp e then none else (trE tp N n sc e).map .expr
    | .If t a b _ => match trT tp N n sc t, trCs n sc a, trCs n sc b with
      | some x, some y, some z => some (.ife x y z)
      | _, _, _ => none
    | .While t b [] _ => match trT tp N n sc t, trCs n sc b with
      | some x, some y => some (.whl x y)
      | _, _ => none
    | .For tg it b [] _ => match trI tp N n sc tg it, trG tp N n sc tg, trCs n sc b with
      | some i, some g, some y => some (.for g i y)
      | _, _, _ => none
    | .Return none _ => some .retN
    | .Return (some e) _ => (trE tp N n sc e).map .ret
    | .Break _ => some .brk
    | .Continue _ => some .cnt
    | .Pass _ => some .pas
    | _ => none
def trCs (n : Nat) (sc : Scope) (ss : List Stmt) : Option (List C) :=
  match n with
  | 0 => none
  | n + 1 => match ss with
    | [] => some []
    | s :: r => match trC n sc s, trCs n sc r with
      | some x, some xs => some (x :: xs)
      | _, _ => none
end
end
section
variable {G : Gm} {W : XK} {X : Cx} {N : List Str} {lv : Nat} {sc : Scope} {tp : Tp}
/-- a def's body stands here -/
structure SxOk (G : Gm) (N : List Str) (lv : Nat) (W : XK) (sc : Scope) (X : Cx) : Prop where
  cx : CxOk G N lv W sc X
  sce : X.env.scope = sc
  own : PassesOwn (model X.prog X.w) X.A X.env X.xe
/-- what is wanted behind a statement -/
abbrev KF (T : Tb) (D : Ends) : Fl → Mu → Hp → Hp → List Addr → Prop := fun fl _ H' Z' α' => match fl with
  | .nx ρ => ∀ σ, EnvR T Z' α' σ ρ → D.nx σ H'
  | .bk ρ => ∀ σ, EnvR T Z' α' σ ρ → D.bk σ H'
  | .ct ρ => ∀ σ, EnvR T Z' α' σ ρ → D.ct σ H'
  | .rt d => ∀ v, Dn T Z' α' v d → D.rt v H'
def SC (G : Gm) (W : XK) (X : Cx) (s : Stmt) (c : C) : Prop := ∀ (D : Ends) (σ : St) (H Z : Hp) (α : List Addr) (ρ : Env) (m : Mu), Rep G.T H Z α m → EnvR G.T Z α σ ρ → Post G.T W H Z α (evC G c ρ m) (KF G.T D) → tAS X s D σ H
def SCs (G : Gm) (W : XK) (X : Cx) (s : List Stmt) (c : List C) : Prop := ∀ (D : Ends) (σ : St) (H Z : Hp) (α : List Addr) (ρ : Env) (m : Mu), Rep G.T H Z α m → EnvR G.T Z α σ ρ → Post G.T W H Z α (evCs G c ρ m) (KF G.T D) → tASs X s D σ H
theorem SxOk.blk (h : SxOk G N lv W sc X) : X.env.blockKind = .function := by
  unfold PySem.Env.blockKind
  rw [h.cx.kind]
  rfl
theorem SxOk.kindOf (h : SxOk G N lv W sc X) : X.env.kindOf = fun x => sc.names.lookup x := by
  rw [← h.sce]
  rfl
theorem asg_post {g : Gt} {x : E} {D : Ends} {H Z : Hp} {α : List Addr} {ρ : Env} {m : Mu} (q : Post G.T W H Z α (evC G (.asg g x) ρ m) (KF G.T D)) : Post G.T W H Z α (evE G x ρ m) (fun d m1 H1 Z1 α1 => Post G.T W H1 Z1 α1 (evG G g d ρ m1) (fun ρ2 m2 H2 Z2 α2 => ∀ σ, EnvR G.T Z2 α2 σ ρ2 → D.nx σ H2)) := by
  unfold evC at q
  exact q.bind.mono fun d m1 H1 Z1 α1 F1 R1 p1 => p1.bind.mono fun ρ2 m2 H2 Z2 α2 F2 R2 p2 => p2.now R2
theorem sc_asg {tg value : Expr} {p : Pos} {g : Gt} {x : E} (h : SxOk G N lv W sc X) (hs : swapsWithSole [tg] value p.line X.env = pure false) (hw : swappedStores [tg] value X.env = pure none) (ht : noStar tg = true) (hg : SG G W X tg g) (he : SE G W X value x) : SC G W X (.Assign [tg] value p) (.asg g x) := fun D σ H Z α ρ m R En q => by
  refine ⟨_, ps_asg pe_all pg_all hs hw (by rw [tgt_cons ht]; rfl), ?_⟩
  refine he σ H Z α ρ m _ R En ((asg_post q).mono fun d m1 H1 Z1 α1 F1 R1 p1 v dv => ?_)
  exact hg σ H1 Z1 α1 ρ m1 v d _ R1 (En.mono F1.le) dv (p1.mono fun ρ2 m2 H2 Z2 α2 F2 R2 p2 σ2 En2 _ _ => p2 σ2 En2)
theorem sc_lc {t : Str} {pt p sp : Pos} {elt : Expr} {gs : List Comprehension} {scope : Scope} {i : Nat} {x : E} (h : SxOk G N lv W sc X) (hl : sc.names.lookup t = some .local) (hi : ixOf N t = some i) (hb : swB sc (.Name t pt) scope p = true) (he : SL G W X elt gs scope x) :
    SC G W X (.Assign [.Name t pt] (.ListComp elt gs scope p) sp) (.asg (.nm i) x) := fun D σ H Z α ρ m R En q => by
  have key := he σ H Z α ρ m (fun v H1 => D.nx (σ.set i (some v)) H1) R En ((asg_post q).mono fun d m1 H1 Z1 α1 F1 R1 p1 v dv => by
    unfold evG at p1
    exact p1.now R1 _ ((En.mono F1.le).set dv))
  obtain ⟨tg, iter, ifs, own, wi, g, tt, te, rfl, h1, h2, h3, h4, h5, h6, h7⟩ := key
  have hsw : swapsWith (.ListComp elt [⟨tg, iter, ifs, 0⟩] scope p) (some (.Name t pt)) sp.line X.env = pure true := by
    rw [sw_comp h.cx.kind, h.sce, hb]
  exact ⟨_, ps_setLc h.cx.calm (by rw [h.cx.eN]; exact h.cx.nd) (by rw [h.cx.eN]; exact ixOf_get hi) (by rw [h.sce]; exact hl) hsw h1 h2 h3 h4 h5 h6, h7⟩
theorem sc_par {x y : Str} {px py pt pt2 p : Pos} {k k2 : Nat} {a b : Expr} {i j : Nat} {xa xb : E} (h : SxOk G N lv W sc X) (hsw : swP (fun x => sc.names.lookup x) [.Name x px, .Name y py] [a, b] = some (some [x, y])) (hx : sc.names.lookup x = some .local) (hy : sc.names.lookup y = some .local) (hne : x ≠ y)
    (hi : ixOf N x = some i) (hj : ixOf N y = some j) (hs : [a, b].all noStar = true) (ha : All2 (SE G W X) [a, b] [xa, xb]) : SC G W X (.Assign [.Tuple [.Name x px, .Name y py] k pt] (.Tuple [a, b] k2 pt2) p) (.asg (.tup [.nm i, .nm j]) (.tup [xa, xb])) := fun D σ H Z α ρ m R En q => by
  have hij : i ≠ j := fun z => by
    subst z
    have e1 := ixOf_get hi
    rw [ixOf_get hj] at e1
    cases e1
    exact hne rfl
  refine ⟨_, ps_par (i := i) (j := j) h.cx.calm (by rw [h.cx.eN]; exact h.cx.nd) (by rw [h.cx.eN]; exact ixOf_get hi) (by rw [h.cx.eN]; exact ixOf_get hj) hij (by rw [h.sce]; exact hx) (by rw [h.sce]; exact hy) pa_all (swP_ok h.blk (by rw [h.kindOf]; exact hsw)), ?_⟩
  have q1 := asg_post q
  unfold evE at q1
  refine ses_of hs ha σ H Z α ρ m _ R En (q1.bind.lens.mono fun ds m1 H1 Z1 α1 F1 R1 ⟨hl, p1⟩ vs dvs => ?_)
  match ds, hl with
  | [d1, d2], _ =>
    obtain ⟨v, u, rfl, dv, du⟩ := dns2 dvs
    refine ⟨v, u, rfl, ?_⟩
    rw [if_pos (show [d1, d2].length ≤ sizeLine by show 2 ≤ sizeLine; decide)] at p1
    have p2 := p1.now R1
    have e : evG G (.tup [.nm i, .nm j]) (.tup [d1, d2]) ρ m1 = .ok ((ρ.set i (some d1)).set j (some d2)) m1 := by
      simp [evG, evGs, Rs.bind]
    rw [e] at p2
    exact p2.now R1 _ (((En.mono F1.le).set dv).set du)
theorem dns3 {T : Tb} {Z : Hp} {α : List Addr} {vs : List V} {a b c : D} (h : Dns T Z α vs [a, b, c]) : ∃ v u w, vs = [v, u, w] ∧ Dn T Z α v a ∧ Dn T Z α u b ∧ Dn T Z α w c := by
  cases h with
  | cons h1 r =>
    cases r with
    | cons h2 r =>
      cases r with
      | cons h3 r =>
        cases r
        exact ⟨_, _, _, rfl, h1, h2, h3⟩
theorem ix_ne {x y : Str} {i j : Nat} (hi : ixOf N x = some i) (hj : ixOf N y = some j) (hne : x ≠ y) : i ≠ j := fun z => by
  subst z
  have e1 := ixOf_get hi
  rw [ixOf_get hj] at e1
  cases e1
  exact hne rfl
theorem sc_par3 {x y z : Str} {px py pz pt p : Pos} {k k2 : Nat} {pt2 : Pos} {a b c : Expr} {i j l : Nat} {xa xb xc : E} (h : SxOk G N lv W sc X) (hsw : swP (fun x => sc.names.lookup x) [.Name x px, .Name y py, .Name z pz] [a, b, c] = some (some [x, y, z])) (hx : sc.names.lookup x = some .local) (hy : sc.names.lookup y = some .local) (hz : sc.names.lookup z = some .local) (hxy : x ≠ y) (hxz : x ≠ z) (hyz : y ≠ z)
    (hi : ixOf N x = some i) (hj : ixOf N y = some j) (hl : ixOf N z = some l) (hs : [a, b, c].all noStar = true) (ha : All2 (SE G W X) [a, b, c] [xa, xb, xc]) : SC G W X (.Assign [.Tuple [.Name x px, .Name y py, .Name z pz] k pt] (.Tuple [a, b, c] k2 pt2) p) (.asg (.tup [.nm i, .nm j, .nm l]) (.tup [xa, xb, xc])) := fun D σ H Z α ρ m R En q => by
  refine ⟨_, ps_par3 (i := i) (j := j) (l := l) h.cx.calm (by rw [h.cx.eN]; exact h.cx.nd) (by rw [h.cx.eN]; exact ixOf_get hi) (by rw [h.cx.eN]; exact ixOf_get hj) (by rw [h.cx.eN]; exact ixOf_get hl) (ix_ne hi hj hxy) (ix_ne hi hl hxz) (ix_ne hj hl hyz) (by rw [h.sce]; exact hx) (by rw [h.sce]; exact hy) (by rw [h.sce]; exact hz) pa_all (swP_ok h.blk (by rw [h.kindOf]; exact hsw)), ?_⟩
  have q1 := asg_post q
  unfold evE at q1
  refine ses_of hs ha σ H Z α ρ m _ R En (q1.bind.lens.mono fun ds m1 H1 Z1 α1 F1 R1 ⟨hl, p1⟩ vs dvs => ?_)
  match ds, hl with
  | [d1, d2, d3], _ =>
    obtain ⟨v, u, w, rfl, dv, du, dw⟩ := dns3 dvs
    refine ⟨v, u, w, rfl, ?_⟩
    rw [if_pos (show [d1, d2, d3].length ≤ sizeLine by show 3 ≤ sizeLine; decide)] at p1
    have p2 := p1.now R1
    have e : evG G (.tup [.nm i, .nm j, .nm l]) (.tup [d1, d2, d3]) ρ m1 = .ok (((ρ.set i (some d1)).set j (some d2)).set l (some d3)) m1 := by
      simp [evG, evGs, Rs.bind]
    rw [e] at p2
    exact p2.now R1 _ ((((En.mono F1.le).set dv).set du).set dw)
theorem sc_aug {x : Str} {px p : Pos} {op : Operator} {e : Expr} {i : Nat} {y : E} (h : SxOk G N lv W sc X) (hl : isLoc (sc.names.lookup x) = true) (hop : op = .Add ∨ op = .Sub) (hi : ixOf N x = some i) (he : SE G W X e y) : SC G W X (.AugAssign (.Name x px) op e p) (.aug i op y) := fun D σ H Z α ρ m R En q => by
  obtain ⟨l1, l2⟩ := h.cx.loc x hl
  unfold evC at q
  split at q
  · rename_i k ek
    obtain ⟨v, ev, dv⟩ := En.at_ i _ ek
    cases dv
    rcases hop with rfl | rfl
    · refine ⟨_, ps_aug (i := i) (by rw [h.cx.eN]; exact h.cx.nd) (by rw [h.cx.eN]; exact ixOf_get hi) l1 pe_all ip_add l2, _, ev, ?_⟩
      refine he σ H Z α ρ m _ R En (q.bind.mono fun d m1 H1 Z1 α1 F1 R1 p1 u du => ?_)
      split at p1
      · cases du
        exact ⟨_, _, rfl, rfl, p1.now R1 _ ((En.mono F1.le).set (.int _))⟩
      · exact p1.elim
    · refine ⟨_, ps_aug (i := i) (by rw [h.cx.eN]; exact h.cx.nd) (by rw [h.cx.eN]; exact ixOf_get hi) l1 pe_all ip_sub l2, _, ev, ?_⟩
      refine he σ H Z α ρ m _ R En (q.bind.mono fun d m1 H1 Z1 α1 F1 R1 p1 u du => ?_)
      split at p1
      · cases du
        exact ⟨_, _, rfl, rfl, p1.now R1 _ ((En.mono F1.le).set (.int _))⟩
      · exact p1.elim
  · exact q.elim
theorem sc_expr {e : Expr} {x : E} {p : Pos} (hc : isComp e = false) (he : SE G W X e x) : SC G W X (.Expr e p) (.expr x) := fun D σ H Z α ρ m R En q => by
  unfold evC at q
  refine ⟨_, ps_expr pe_all (sw_plain hc), ?_⟩
  exact he σ H Z α ρ m _ R En (q.bind.mono fun d m1 H1 Z1 α1 F1 R1 p1 v dv => p1.now R1 _ (En.mono F1.le))
theorem sc_if {t : Expr} {a b : List Stmt} {x : E} {ca cb : List C} {p : Pos} (ht : ST G W X t x) (ha : SCs G W X a ca) (hb : SCs G W X b cb) : SC G W X (.If t a b p) (.ife x ca cb) := fun D σ H Z α ρ m R En q => by
  unfold evC at q
  refine ⟨_, ps_if pt_all pss_all pss_all, ?_⟩
  refine ht σ H Z α ρ m _ R En (q.bind.mono fun d m1 H1 Z1 α1 F1 R1 p1 => ?_)
  split at p1
  · exact ⟨true, rfl, by rw [if_pos rfl]; exact ha D σ H1 Z1 α1 ρ m1 R1 (En.mono F1.le) p1⟩
  · exact ⟨false, rfl, by rw [if_neg Bool.false_ne_true]; exact hb D σ H1 Z1 α1 ρ m1 R1 (En.mono F1.le) p1⟩
  · exact p1.elim
theorem sc_whl {t : Expr} {b : List Stmt} {x : E} {cb : List C} {p : Pos} (h : SxOk G N lv W sc X) (ht : ST G W X t x) (hb : SCs G W X b cb) : SC G W X (.While t b [] p) (.whl x cb) := fun D σ H Z α ρ m R En q => by
  unfold evC at q
  refine ⟨_, ps_while h.own pt_all pss_all, ?_⟩
  refine ⟨fun n σ H => ∃ Z α ρ m, Rep G.T H Z α m ∧ EnvR G.T Z α σ ρ ∧ Post G.T W H Z α (whlL (fun ρ m => evE G x ρ m) (fun ρ m => evCs G cb ρ m) n ρ m) (KF G.T D), ⟨fuelW, Z, α, ρ, m, R, En, q⟩, ?_⟩
  rintro n σ H ⟨Z, α, ρ, m, R, En, q⟩
  cases n with
  | zero => unfold whlL at q; exact q.elim
  | succ n =>
    unfold whlL at q
    refine ht σ H Z α ρ m _ R En (q.bind.mono fun d m1 H1 Z1 α1 F1 R1 p1 => ?_)
    split at p1
    · refine ⟨true, rfl, ?_⟩
      rw [if_pos rfl]
      refine ⟨fun σ' H' => ∃ Z α ρ m, Rep G.T H' Z α m ∧ EnvR G.T Z α σ' ρ ∧ Post G.T W H' Z α (whlL (fun ρ m => evE G x ρ m) (fun ρ m => evCs G cb ρ m) n ρ m) (KF G.T D), fun σ' H' hw => ⟨n, Nat.lt_succ_self _, hw⟩, ?_⟩
      refine hb _ σ H1 Z1 α1 ρ m1 R1 (En.mono F1.le) (p1.bind.mono fun fl m2 H2 Z2 α2 F2 R2 p2 => ?_)
      cases fl with
      | nx ρ2 => exact fun σ2 En2 => ⟨Z2, α2, ρ2, m2, R2, En2, p2⟩
      | ct ρ2 => exact fun σ2 En2 => ⟨Z2, α2, ρ2, m2, R2, En2, p2⟩
      | bk ρ2 => exact fun σ2 En2 => p2.now R2 σ2 En2
      | rt d => exact fun v dv => p2.now R2 v dv
    · refine ⟨false, rfl, ?_⟩
      rw [if_neg Bool.false_ne_true]
      exact p1.now R1 σ (En.mono F1.le)
    · exact p1.elim
theorem sc_for {tg it : Expr} {b : List Stmt} {g : Gt} {i : It} {cb : List C} {p : Pos} (h : SxOk G N lv W sc X) (hset : ∀ x, foldedSetIterable it X.env x = pure x) (hi : SI G W X tg it i) (hg : SG G W X tg g) (hb : SCs G W X b cb) : SC G W X (.For tg it b [] p) (.for g i cb) := fun D σ H Z α ρ m R En q => by
  unfold evC at q
  refine ⟨_, ps_for h.own h.cx.calm pi_all pg_all pss_all hset, ?_⟩
  refine hi σ H Z α ρ m _ R En (q.bind.mono fun ds m1 H1 Z1 α1 F1 R1 p1 J wd => ?_)
  obtain ⟨Gd, Y, wk, hGd, yl⟩ := wd
  generalize hf : (fun (d : Pm.D) (ρ : Env) (m : Mu) => (evG G g d ρ m).bind fun ρ m => evCs G cb ρ m) = f at p1
  let Pv : Nat → St → Hp → Prop := fun i σ H2 => ∃ Z2 α2 ρ2 m2, Rep G.T H2 Z2 α2 m2 ∧ EnvR G.T Z2 α2 σ ρ2 ∧ Le Z1 α1 Z2 α2 ∧ Post G.T W H2 Z2 α2 (forL f (ds.drop i) ρ2 m2) (KF G.T D)
  refine for_it wk Pv ⟨Z1, α1, ρ, m1, R1, En.mono F1.le, .rfl', by rw [List.drop_zero]; exact p1⟩ ?_ ?_ ?_
  · rintro i σ2 H2 _ ⟨Z2, α2, ρ2, m2, R2, _, le, _⟩
    exact hGd H2 fun a o e => R2.sub a o (le.z a o e)
  · rintro i v σ2 H2 H3 hn ⟨Z2, α2, ρ2, m2, R2, En2, le2, p2⟩ y
    obtain ⟨Z3, d, ed, F3, R3, dd⟩ := yl i H2 v H3 hn (hGd H2 fun a o e => R2.sub a o (le2.z a o e)) y Z2 α2 m2 le2 R2
    have hdrop : ds.drop i = d :: ds.drop (i + 1) := by
      obtain ⟨hi, e⟩ := List.getElem?_eq_some_iff.mp ed
      rw [List.drop_eq_getElem_cons hi, e]
    rw [hdrop] at p2
    unfold forL at p2
    have p3 := (p2.later F3).bind
    rw [← hf] at p3
    refine hg σ2 H3 Z3 α2 ρ2 m2 v d _ R3 (En2.mono F3.le) dd (p3.bind.mono fun ρ4 m4 H4 Z4 α4 F4 R4 p4 σ4 En4 _ _ => ?_)
    refine hb _ σ4 H4 Z4 α4 ρ4 m4 R4 En4 (p4.mono fun fl m5 H5 Z5 α5 F5 R5 p5 => ?_)
    have le5 := ((le2.trans F3.le).trans F4.le).trans F5.le
    rw [hf] at p5
    cases fl with
    | nx ρ6 => exact fun σ6 En6 => ⟨Z5, α5, ρ6, m5, R5, En6, le5, p5⟩
    | ct ρ6 => exact fun σ6 En6 => ⟨Z5, α5, ρ6, m5, R5, En6, le5, p5⟩
    | bk ρ6 => exact fun σ6 En6 => p5.now R5 σ6 En6
    | rt d => exact fun w dw => p5.now R5 w dw
  · rintro σ2 H2 ⟨Z2, α2, ρ2, m2, R2, En2, le2, p2⟩
    rw [List.drop_length] at p2
    unfold forL at p2
    exact p2.now R2 σ2 En2
theorem sc_ret {e : Expr} {x : E} {p : Pos} (he : SE G W X e x) : SC G W X (.Return (some e) p) (.ret x) := fun D σ H Z α ρ m R En q => by
  unfold evC at q
  refine ⟨_, ps_ret pe_all, ?_⟩
  exact he σ H Z α ρ m _ R En (q.bind.mono fun d m1 H1 Z1 α1 F1 R1 p1 v dv => p1.now R1 v dv)
theorem sc_retN {p : Pos} : SC G W X (.Return none p) .retN := fun D σ H Z α ρ m R En q => by
  unfold evC at q
  exact ⟨_, ps_retN, q.now R _ .non⟩
theorem sc_brk {p : Pos} : SC G W X (.Break p) .brk := fun D σ H Z α ρ m R En q => by
  unfold evC at q
  exact ⟨_, ps_break, q.now R _ En⟩
theorem sc_cnt {p : Pos} : SC G W X (.Continue p) .cnt := fun D σ H Z α ρ m R En q => by
  unfold evC at q
  exact ⟨_, ps_continue, q.now R _ En⟩
theorem sc_pas {p : Pos} : SC G W X (.Pass p) .pas := fun D σ H Z α ρ m R En q => by
  unfold evC at q
  exact ⟨_, ps_pass, q.now R _ En⟩
theorem frz_ok {T : Tb} {K : Env → Mu → Hp → Hp → List Addr → Prop} : ∀ {is : List Nat} {σ : St} {H Z : Hp} {α : List Addr} {ρ : Env} {m : Mu}, Rep T H Z α m → EnvR T Z α σ ρ → Post T W H Z α (frzD is ρ m) K → ∃ Z' ρ' m', Fut H Z α H Z' α ∧ Rep T H Z' α m' ∧ EnvR T Z' α σ ρ' ∧ K ρ' m' H Z' α
  | [], σ, H, Z, α, ρ, m, R, En, q => by
    unfold frzD at q
    exact ⟨Z, ρ, m, .rfl', R, En, q.now R⟩
  | i :: is, σ, H, Z, α, ρ, m, R, En, q => by
    unfold frzD at q
    split at q
    · rename_i k ek
      split at q
      · rename_i ds hk
        obtain ⟨v, ev, dv⟩ := En.at_ i _ ek
        cases dv with
        | own e1 =>
          rename_i a
          obtain ⟨a', vs, f1, f2, f3⟩ := look_lst R hk
          rw [e1] at f1; cases f1
          have F := Fut.freeze (u := .lst vs) R e1 hk rfl
          have En2 : EnvR T (upd Z a (.lst vs)) α σ (ρ.set i (some (.lst ds))) := by
            have := (En.mono F.le).set (i := i) (v := .ref a) (d := .lst ds) (.lst upd_same (f3.mono F.le))
            rwa [show σ.set i (some (V.ref a)) = σ by
              refine List.ext_getElem? fun j => ?_
              by_cases h : i = j
              · subst h
                rw [List.getElem?_set_self (List.getElem?_eq_some_iff.mp ev).1, ev]
              · rw [List.getElem?_set_ne h]] at this
          obtain ⟨Z', ρ', m', F2, R2, En3, k2⟩ := frz_ok (is := is) (R.freeze e1 hk rfl f2) En2 (q.later F)
          exact ⟨Z', ρ', m', F.trans F2, R2, En3, k2⟩
      · exact q.elim
    · exact q.elim
theorem sc_frz {s : Stmt} {c : C} {is : List Nat} (h : SC G W X s c) : SC G W X s (.frz is c) := fun D σ H Z α ρ m R En q => by
  unfold evC at q
  obtain ⟨Z', ρ', m', F, R', En', q'⟩ := frz_ok R En q.bind
  exact h D σ H Z' α ρ' m' R' En' q'
theorem scs_nil : SCs G W X [] [] := fun D σ H Z α ρ m R En q => by
  unfold evCs at q
  exact ⟨_, pss_nil, q.now R σ En⟩
theorem scs_cons {s : Stmt} {ss : List Stmt} {c : C} {cs : List C} (h1 : SC G W X s c) (h2 : SCs G W X ss cs) : SCs G W X (s :: ss) (c :: cs) := fun D σ H Z α ρ m R En q => by
  unfold evCs at q
  refine ⟨_, pss_cons ps_all pss_all, ?_⟩
  refine h1 _ σ H Z α ρ m R En (q.bind.mono fun fl m1 H1 Z1 α1 F1 R1 p1 => ?_)
  cases fl with
  | nx ρ1 => exact fun σ1 En1 => h2 D σ1 H1 Z1 α1 ρ1 m1 R1 En1 p1
  | ct ρ1 => exact fun σ1 En1 => p1.now R1 σ1 En1
  | bk ρ1 => exact fun σ1 En1 => p1.now R1 σ1 En1
  | rt d => exact fun v dv => p1.now R1 v dv
end
end Pm

set_option maxRecDepth 100000
set_option maxHeartbeats 4000000
/-! Defs -/
namespace Pm
open PySem L2
section
variable {G : Gm} {W : XK} {X : Cx} {N : List Str} {lv : Nat} {sc : Scope} {tp : Tp}
theorem trA_eq {n : Nat} {tg value : Expr} {c : C} (q : trA tp N n sc tg value = some c) : ∃ g x, c = .asg g x ∧ trG tp N n sc tg = some g ∧ trE tp N n sc value = some x := by
  unfold trA at q
  split at q
  · rename_i g x h1 h2
    cases q
    exact ⟨g, x, rfl, h1, h2⟩
  · cases q
theorem sw_sole {tg value : Expr} {l : Nat} {env : PySem.Env} (h : swapsWith value (some tg) l env = pure false) : swapsWithSole [tg] value l env = pure false := h
theorem sw_of {sc : Scope} {tg value : Expr} {p : Pos} (h : SxOk G N lv W sc X) (hok : asgOk sc tg value = true) : swapsWithSole [tg] value p.line X.env = pure false ∧ swappedStores [tg] value X.env = pure none := by
  unfold asgOk at hok
  rw [Bool.and_eq_true] at hok
  obtain ⟨_, hok⟩ := hok
  split at hok
  · rename_i scope p2
    refine ⟨?_, st_none2 fun a b c z => by cases z⟩
    refine sw_sole ((sw_comp h.cx.kind).trans ?_)
    rw [h.sce]
    simp at hok
    rw [hok]
  · cases hok
  · cases hok
  · rename_i vs k2 p2
    refine ⟨sw_sole (sw_plain rfl), ?_⟩
    split at hok
    · rename_i ts k p3
      split at hok
      · rename_i e
        exact swP_ok h.blk (by rw [h.kindOf]; exact e)
      · cases hok
    · cases hok
    · rename_i h1 h2
      exact st_none (by cases tg <;> first | rfl | exact absurd rfl (h1 _ _ _) | exact absurd rfl (h2 _ _))
  · rename_i h1 h2 h3 h4
    refine ⟨?_, st_none2 fun a b c z => h4 a b c z⟩
    refine sw_sole (sw_plain ?_)
    cases value <;> first | rfl | exact absurd rfl (h1 _ _ _ _) | exact absurd rfl (h2 _ _ _ _) | exact absurd rfl (h3 _ _ _ _ _)
structure TsOk (G : Gm) (N : List Str) (lv : Nat) (tp : Tp) (n : Nat) : Prop where
  c : ∀ sc W X, SxOk G N lv W sc X → ∀ s c, trC tp N n sc s = some c → SC G W X s c
  c0 : ∀ sc W X, SxOk G N lv W sc X → ∀ s c, trC0 tp N n sc s = some c → SC G W X s c
  cs : ∀ sc W X, SxOk G N lv W sc X → ∀ s c, trCs tp N n sc s = some c → SCs G W X s c
theorem asgOk_star {sc : Scope} {tg value : Expr} (hok : asgOk sc tg value = true) : noStar tg = true := by
  unfold asgOk at hok
  rw [Bool.and_eq_true] at hok
  exact hok.1
theorem trC0_ok (hcls : ∀ x ∈ tp.cls, ∃ C, G.T.cls x = some C) {n : Nat} (I : TsOk G N lv tp n) (sc : Scope) (W : XK) (X : Cx) (h : SxOk G N lv W sc X) (s : Stmt) (c : C) (q : trC0 tp N (n + 1) sc s = some c) : SC G W X s c := by
  have T := tr_ok (G := G) (N := N) (lv := lv) hcls n
  unfold trC0 at q
  split at q
  · rename_i tg value p
    split at q
    · rename_i hok
      obtain ⟨g, x, rfl, h1, h2⟩ := trA_eq q
      obtain ⟨w1, w2⟩ := sw_of (p := p) h hok
      exact sc_asg h w1 w2 (asgOk_star hok) (T.g sc W X h.cx _ _ h1) (T.e sc W X h.cx _ _ h2)
    · split at q
      · rename_i t pt elt gs scope p2 _
        split at q
        · rename_i hb
          obtain ⟨g, x, rfl, h1, h2⟩ := trA_eq q
          cases n with
          | zero => unfold trE at h2; cases h2
          | succ n =>
            unfold trG at h1
            dsimp only at h1
            split at h1
            · rw [Option.map_eq_some_iff] at h1
              obtain ⟨i, hi, rfl⟩ := h1
              have hl : sc.names.lookup t = some .local := by
                unfold swB at hb
                simp only [Bool.and_eq_true, beq_iff_eq] at hb
                exact hb.1.1
              exact sc_lc h hl hi hb (trL_ok (tr_ok hcls n) sc W X h.cx _ _ _ _ _ h2)
            · cases h1
        · cases q
      · split at q
        · rename_i hc
          obtain ⟨hsw, hx, hy, hne⟩ := hc
          split at q
          · rename_i h1 h2 h3
            cases q
            obtain ⟨h4, h5⟩ := T.es sc W X h.cx _ _ h3
            exact sc_par h hsw hx hy hne h1 h2 h4 h5
          · cases q
        · cases q
      · split at q
        · rename_i hc
          obtain ⟨hsw, hx, hy, hz, hxy, hxz, hyz⟩ := hc
          split at q
          · rename_i h1 h2 h6 h3
            cases q
            obtain ⟨h4, h5⟩ := T.es sc W X h.cx _ _ h3
            exact sc_par3 h hsw hx hy hz hxy hxz hyz h1 h2 h6 h4 h5
          · cases q
        · cases q
      · cases q
  · split at q
    · rename_i hc
      rw [Bool.and_eq_true, Bool.or_eq_true, beq_iff_eq, beq_iff_eq] at hc
      split at q
      · rename_i h1 h2
        cases q
        exact sc_aug h hc.1 hc.2 h1 (T.e sc W X h.cx _ _ h2)
      · cases q
    · cases q
  · split at q
    · cases q
    · rename_i hc
      rw [Option.map_eq_some_iff] at q
      obtain ⟨x, hq, rfl⟩ := q
      exact sc_expr (by simpa using hc) (T.e sc W X h.cx _ _ hq)
  · split at q
    · rename_i h1 h2 h3
      cases q
      exact sc_if (T.t sc W X h.cx _ _ h1) (I.cs sc W X h _ _ h2) (I.cs sc W X h _ _ h3)
    · cases q
  · split at q
    · rename_i h1 h2
      cases q
      exact sc_whl h (T.t sc W X h.cx _ _ h1) (I.cs sc W X h _ _ h2)
    · cases q
  · split at q
    · rename_i h1 h2 h3
      cases q
      obtain ⟨i1, i2⟩ := T.i sc W X h.cx _ _ _ h1
      exact sc_for h (noSet i2) i1 (T.g sc W X h.cx _ _ h2) (I.cs sc W X h _ _ h3)
    · cases q
  · cases q; exact sc_retN
  · rw [Option.map_eq_some_iff] at q
    obtain ⟨x, hq, rfl⟩ := q
    exact sc_ret (T.e sc W X h.cx _ _ hq)
  · cases q; exact sc_brk
  · cases q; exact sc_cnt
  · cases q; exact sc_pas
  · cases q
theorem ts_ok (hcls : ∀ x ∈ tp.cls, ∃ C, G.T.cls x = some C) : ∀ n, TsOk G N lv tp n
  | 0 => ⟨fun _ _ _ _ _ _ h => (by unfold trC at h; cases h), fun _ _ _ _ _ _ h => (by unfold trC0 at h; cases h), fun _ _ _ _ _ _ h => (by unfold trCs at h; cases h)⟩
  | n + 1 => by
    have I := ts_ok hcls n
    refine ⟨fun sc W X h s c q => ?_, trC0_ok hcls I, fun sc W X h ss cs q => ?_⟩
    · unfold trC at q
      split at q
      · rw [Option.map_eq_some_iff] at q
        obtain ⟨c, q, rfl⟩ := q
        exact sc_frz (I.c0 sc W X h _ _ q)
      · exact I.c0 sc W X h _ _ q
    · unfold trCs at q
      split at q
      · cases q; exact scs_nil
      · split at q
        · rename_i h1 h2
          cases q
          exact scs_cons (I.c sc W X h _ _ h1) (I.cs sc W X h _ _ h2)
        · cases q
end
section
variable {P : Program} {w : World} {K : PySem.W.Frag} {mg : Str → Option Value} {base : Heap} {G : Gm} {lv : Nat} {tp : Tp}
theorem start_ok {T : Tb} {Z : Hp} {α : List Addr} {N : List Str} {vs : List V} {ds : List D} (h : Dns T Z α vs ds) : EnvR T Z α (L2.start N vs) (ds.map some ++ List.replicate (N.length - ds.length) none) := by
  refine ⟨by simp [L2.start, h.len], fun i d e => ?_⟩
  by_cases hi : i < ds.length
  · rw [List.getElem?_append_left (by simpa using hi), List.getElem?_map] at e
    cases q : ds[i]? with
    | none => rw [q] at e; cases e
    | some d' =>
      rw [q] at e
      cases e
      obtain ⟨v, e1, e2⟩ := h.get q
      refine ⟨v, ?_, e2⟩
      unfold L2.start
      rw [List.getElem?_append_left (by simp [h.len, hi]), List.getElem?_map, e1]
      rfl
  · rw [List.getElem?_append_right (by simp; omega)] at e
    rw [List.getElem?_replicate] at e
    split at e <;> cases e
/-- THE RULE: a def does what its program without names does to data -/
theorem fnD {x qual : Str} {st : Stmt} {f : Addr} {fd : FuncData} {N ps : List Str} {n : Nat} {body : List C} (F : Fun K x qual st f fd) (S : FnScope N ps (defScope st)) (g : Good G lv ⟨P, w, K, mg, base⟩) (hcls : ∀ x ∈ tp.cls, ∃ C, G.T.cls x = some C)
    (ht : trCs tp N n (defScope st) (defBody st) = some body) (hpn : ps.length ≤ N.length) : FnG P w K mg base (lv + 1) f fd ps (spD G.T ps.length (runF G ps.length N.length body)) := by
  refine okG F S (fun vs H Q E h => h.1) (fun cdv A outer s H vs Q E gd hr h => ?_)
  obtain ⟨hl, Z, α, m, ds, R, dv, q⟩ := h
  have cx : CxOk G N lv E (defScope st) (cxOf (L2.CX P w) P w K mg base N qual (defScope st) f cdv A outer s H E) :=
    { good := g, eN := rfl, nd := S.nd, calm := rfl, room := hr, gd := gd
      vis := fun x e => by
        show Vis (defScope st) x
        unfold Vis
        cases q : (defScope st).names.lookup x with
        | none => rw [q] at e; cases e
        | some k =>
          rw [q] at e
          cases k <;> first | exact .inl rfl | exact .inr (.inl rfl) | exact .inr (.inr rfl) | cases e
      glob := fun x e => by
        show (defScope st).names.lookup x = some .globalImplicit
        cases q : (defScope st).names.lookup x with
        | none => rw [q] at e; cases e
        | some k =>
          rw [q] at e
          cases k <;> first | rfl | cases e
      loc := fun x e => by
        refine ⟨?_, .inl rfl⟩
        show L2.Loc (defScope st) x
        unfold L2.Loc
        cases q : (defScope st).names.lookup x with
        | none => rw [q] at e; cases e
        | some k =>
          rw [q] at e
          cases k <;> first | exact .inl rfl | exact .inr rfl | cases e
      kind := S.kind
      fre := fun x e => e
      tk := takes_of rfl rfl rfl rfl }
  have sx : SxOk G N lv E (defScope st) (cxOf (L2.CX P w) P w K mg base N qual (defScope st) f cdv A outer s H E) := ⟨cx, rfl, passes_of rfl⟩
  refine ⟨_, pss_all, ?_⟩
  unfold runF at q
  have hd : ds.length = ps.length := by rw [← dv.len]; exact hl
  rw [if_pos hd] at q
  refine (ts_ok hcls n).cs _ E _ sx _ _ ht _ _ H Z α _ m R (start_ok dv) (q.bind.mono fun fl m1 H1 Z1 α1 F1 R1 p1 => ?_)
  cases fl with
  | nx ρ => exact fun σ En => p1.now R1 _ .non
  | rt d => exact fun v dv => p1.now R1 v dv
  | bk ρ => exact p1.elim
  | ct ρ => exact p1.elim
end
end Pm

set_option maxRecDepth 100000
set_option maxHeartbeats 400000
/-! The law at the top -/
namespace Pm
open PySem L2
open PyProof.Rows (IntsAre AllBare)
section
variable {P : Program} {w : World} {K : PySem.W.Frag} {mg mb : Str → Option Value} {k : Nat} {fa a : Addr} {fd : FuncData} {x : Str} {sp : Sp} {s : Shared} {vs : List Value} {ns : List Int}
/-- what is tracked at the top: the script, if the module doesn't hold it -/
def topH (K : PySem.W.Frag) (a : Addr) (vs : List Value) (ns : List Int) : Hp := fun b => match K.lookup a with
  | some _ => none
  | none => if b = a then some (.frz { cls := .type "list", data := .seq vs.toArray } (.lst (ns.map V.int))) else none
theorem topH_at {b : Addr} {u : HO} (h : topH K a vs ns b = some u) : K.lookup a = none ∧ b = a ∧ u = .frz { cls := .type "list", data := .seq vs.toArray } (.lst (ns.map V.int)) := by
  unfold topH at h
  split at h
  · cases h
  · rename_i e
    split at h
    · rename_i e2; cases h; exact ⟨e, e2, rfl⟩
    · cases h
theorem top_free {b : Addr} {o : Obj} (ha : s.heap.get? a = some { cls := .type "list", data := .seq vs.toArray }) (e : s.heap.get? b = some o) (hd : ∀ its n, o.data ≠ .seq its n) : topH K a vs ns b = none := by
  cases q : topH K a vs ns b with
  | none => rfl
  | some u =>
    obtain ⟨_, rfl, _⟩ := topH_at q
    rw [ha] at e
    cases e
    exact absurd rfl (hd _ _)
theorem top_K {b : Addr} {o : Obj} (e : K.lookup b = some o) : topH K a vs ns b = none := by
  cases q : topH K a vs ns b with
  | none => rfl
  | some u =>
    obtain ⟨h1, rfl, _⟩ := topH_at q
    rw [h1] at e
    cases e
theorem top_ok (ha : s.heap.get? a = some { cls := .type "list", data := .seq vs.toArray }) (hi : IntsAre vs ns) (hl : ns.length ≤ sizeLine) : HOk P w (topH K a vs ns) s.heap := fun b u e => by
  obtain ⟨_, rfl, rfl⟩ := topH_at e
  exact ⟨ha, by rw [List.length_map]; exact hl, vs, _, vals_ints hi, ha⟩
theorem top_sq (KX : K.In s.heap) (ha : s.heap.get? a = some { cls := .type "list", data := .seq vs.toArray }) (hi : IntsAre vs ns) (hl : ns.length ≤ sizeLine) : SqL K (topH K a vs ns) a (ns.map V.int) := by
  cases h : K.lookup a with
  | none => exact .inl (.inr ⟨_, by unfold topH; rw [h]; exact if_pos rfl⟩)
  | some o =>
    have e := KX a o h
    rw [ha] at e
    cases e
    exact .inr ⟨_, vs.toArray, _, h, rfl, rfl, rfl, by rw [List.size_toArray, hi.length]; exact hl, by simpa using vals_ints hi⟩
theorem callerA_guards : callerA.guards = some [] := rfl
theorem lawG (KX : K.In s.heap) (hns : s.heap.Ns mainGlobals mg) (hb : s.heap.Ns builtinsNs mb) (hbb : ∀ x : Str, x ≠ "__name__" → mb x = bootBuiltins x) (hlim : s.heap.NoLimit) (hg : s.gens = #[]) (ha : s.heap.get? a = some { cls := .type "list", data := .seq vs.toArray })
    (hi : IntsAre vs ns) (hl : ns.length ≤ sizeLine) (hr : Room k callerA) (F : ∀ base : Heap, K.In base → base.Ns mainGlobals mg → FnG P w K mg base k fa fd [x] sp) (hbind : ∀ (s : Shared) (u : Value), BindsTo s fd ⟨[u], []⟩ [(x, u)])
    (hsp : ∀ H : Hp, SqL K H a (ns.map V.int) → sp [.ref a] H (fun v _ => v = .bl true) fun _ _ _ => False) :
    codeAny (model P w) callerA (.call (.ref fa) ⟨[.ref a], []⟩) (fun r s' => r = .ok (.ret (.bool true)) ∧ OldK s.heap s'.heap ∧ s'.os = s.os ∧ AllBare s'.gens) s := by
  let H := topH K a vs ns
  let base := hidT s.heap H
  have nsK : ∀ {b : Addr} {m : Str → Option Value}, s.heap.Ns b m → base.Ns b m := fun ⟨o, es, ep, e, d, r⟩ => ⟨o, es, ep, hidT_get e (top_free ha e fun _ _ z => by rw [d] at z; cases z), d, r⟩
  have hKb : K.In base := fun b o e => hidT_get (KX b o e) (top_K e)
  have hM : Mod K mg base := ⟨hKb, nsK hns, ⟨mb, nsK hb, hbb⟩, by obtain ⟨mc, h1, h2⟩ := hlim; exact ⟨mc, nsK h1, h2⟩⟩
  have nob : ∀ b ∈ frs [], H b = none := fun b hb => absurd (show b ∈ ([] : List Addr) from hb) (by simp)
  have e0 : Env0 P w K mg base callerA [] s H := ⟨rfl, hM, fun b o e => of_hidT e, Nat.le_of_eq (hidT_size _ _), trivial, nob, top_ok ha hi hl, .of_eq hg⟩
  refine codeAny_mono ((F base hKb (nsK hns)).runG callerA [] s H ⟨[.ref a], []⟩ [.ref a] [.ref a] _ _ rfl hr e0 (hbind s (.ref a)) (.cons rfl .nil) (hsp H (top_sq KX ha hi hl))) fun fin s2 q => ?_
  match fin, q with
  | .error er, q =>
    obtain ⟨_, _, _, _, _, _, _, _, _, _, _, _, z⟩ := q
    exact z.elim
  | .ok (.ret u), ⟨v, H2, os, bare, un, ok2, r2, q2⟩ =>
    subst q2
    obtain rfl : u = Value.bool true := r2
    refine ⟨rfl, OldK.of_keep fun b o e => ?_, os, bare⟩
    cases q : H b with
    | none => exact un.keep b o e q (fun z => absurd (show b ∈ ([] : List Addr) from z) (by simp)) (by simp)
    | some u =>
      obtain ⟨_, rfl, rfl⟩ := topH_at q
      rw [ha] at e
      cases e
      exact (ok2 _ _ (un.frzs _ _ _ q)).1
/-- the script is a list that is read -/
theorem law_spD {T : Tb} {H : Hp} {g : Fn} {m : Mu} {E : XK} (h : SqL T.K H a (ns.map V.int)) (q : g [.frl (ns.map D.int)] [] = .ok (.bl true) m) : spD T 1 g [.ref a] H (fun v _ => v = .bl true) E := by
  have no : ∀ (i : Nat) (a : Addr), ([] : List Addr)[i]? = some a → False := fun i a e => by rw [List.getElem?_nil] at e; cases e
  have R : Rep T H H [] [] := { sub := fun _ _ e => e, len := rfl, nd := fun i j a e => (no i a e).elim, out := fun i a o e => (no i a e).elim, obj := fun i a o e => (no i a e).elim }
  have dv : ∀ ns : List Int, Dns T H [] (ns.map V.int) (ns.map D.int) := fun ns => by
    induction ns with
    | nil => exact .nil
    | cons n r ih => exact .cons (.int n) ih
  refine ⟨rfl, H, [], [], _, R, .cons (.frl h (dv ns)) .nil, ?_⟩
  rw [q]
  exact fun H' Z' α' F R' v dv => by cases dv; rfl
end
end Pm

set_option maxRecDepth 100000
set_option maxHeartbeats 400000
/-! Own operators, own == and != -/
namespace PySem.W
open PySem PySem.Calls
open PyProof.Rows (Fr)
section
variable {prog : Program} {w : World} {A : Around} {E : Value → Shared → Prop} {s : Shared} {K : Frag} {x C L f : Addr} {h₀ : Heap} {m : Str → Option Value} {ox : Obj} {od : Option Obj} {b tb : Value}
/-- a slot of object at an own instance -/
theorem pm_check {id n : String} {rest : List Value} {Q : Unit → Shared → Prop} (hk : builtinKind id = some .slot) (hs : splitId id = some ("object", n)) (ha : argsOk id ⟨.ref x :: rest, []⟩) (X : K.In s.heap) (I : InstAt s.heap x ox C od)
    (hm : mroIn K C (.type "object") = some true) (q : Q () s) : wpAny (model prog w) A (checkBuiltinCall id ⟨.ref x :: rest, []⟩) Q E s := by
  simp only [checkBuiltinCall, hk, hs]
  refine wpAny_bind ?_
  unfold isInstance
  refine wpAny_bind (I.type.here ((looks_mroIn X hm).here ?_))
  simp only [Bool.not_true, Bool.false_eq_true, if_false]
  cases hsig : Manifest.signature? id with
  | none => exact wpAny_pure q
  | some sig =>
    simp only [argsOk, hsig] at ha
    show wpAny _ A (Bind.checkArgs id sig ⟨.ref x :: rest, []⟩) Q E _
    rw [show Bind.checkArgs id sig ⟨.ref x :: rest, []⟩ = pure () from ha]
    exact wpAny_pure q
/-- x != b of an own class that has == and no != -/
theorem pm_ne {Q : Value → Shared → Prop} (hu : A.units + 1 < cLine) (F : Fr h₀ L s.heap m) (X₀ : K.In h₀) (I : InstAt s.heap x ox C od) (hb : Looks (model prog w) s.heap (typeOf b) tb) (hn : notFirst K C tb = true)
    (hs : findIn K (.ref C) "__eq__" = some (some (.ref f))) (hf : isFn K (.ref f) = true) (hne : findIn K (.ref C) "__ne__" = some (some (.builtin "object.__ne__"))) (hm : mroIn K C (.type "object") = some true)
    (h : wpAny (model prog w) A.in1 (call (.ref f) [.ref x, b]) (fun v s' => ∃ r, v = .bool r ∧ Q (.bool (!r)) s') E s) : wpAny (model prog w) A (richCompare .NotEq (.ref x) b) Q E s := by
  have X := X₀.keeps F.keep
  have ent : wpAny (model prog w) A.in1 (Builtin.«object.__ne__» ⟨[.ref x, b], []⟩) (fun fin s' => match fin with | .done fl => ∃ r, fl = .ret (.bool (!r)) ∧ Q (.bool (!r)) s' | .again _ => False) E s := by
    unfold Builtin.«object.__ne__»
    repeat (first
      | with_reducible refine wpAny_cRoomFor (by show A.in1.units < _; show A.units + 1 < _; exact hu) ?_
      | (refine wpAny_bind (m := callSpecialIfBound? (.ref x) (Str.ofString "__eq__") [b]) (ifBound_K X I hs hf (wpAny_mono h (fun v s2 z => ?_) fun _ _ e => e)))
      | wp_step)
    obtain ⟨r, rfl, q⟩ := z
    repeat (first
      | (refine wpAny_bind (m := truthy (.bool _)) (wpAny_truthy_bool ?_))
      | wp_step)
    exact ⟨r, rfl, q⟩
  have cl : wpAny (model prog w) A (call (.builtin "object.__ne__") [.ref x, b]) (fun v s' => ∃ r, v = .bool (!r) ∧ Q (.bool (!r)) s') E s := by
    refine wpAny_call (codeAny_call_builtin PySem.F.cmp_object.ne.plain PySem.F.cmpEntry_ne (pm_check PySem.F.cmpKind_ne PySem.F.cmpSplit_ne (PySem.F.cmpArgs_ne _ _) X I hm (wpAny_mono ent (fun fin s2 z => ?_) fun _ _ e => e)))
    cases fin with
    | done fl => obtain ⟨r, rfl, q⟩ := z; exact ⟨r, rfl, q⟩
    | again c => exact z.elim
  have one : wpAny (model prog w) A (tryCompare (.ref x) "__ne__" b) (fun r s' => ∃ v, r = some v ∧ Q v s') E s := by
    simp only [tryCompare, callSpecialIfBound?, bindSpecialIfBound?]
    refine wpAny_bind (wpAny_holding (wpAny_bind (wpAny_bind (wpAny_bind (I.type.here ((looks_findIn X hne).here ?_))))))
    simp only [PySem.F.cmp_object.ne.bind]
    have fin : wpAny (model prog w) A (call (.builtin "object.__ne__") ([.ref x] ++ [b]) >>= fun v => pure (some v)) (fun o s' => ∃ r, o = some (.bool (!r)) ∧ Q (.bool (!r)) s') E s := wpAny_bind (wpAny_mono cl (fun v s2 z => by obtain ⟨r, rfl, q⟩ := z; exact wpAny_pure ⟨r, rfl, q⟩) fun _ _ e => e)
    have go : ∀ o s2, (∃ r, o = some (Value.bool (!r)) ∧ Q (.bool (!r)) s2) → wpAny (model prog w) A (match o with | some .notImplemented | none => pure none | some v => pure (some v)) (fun r s' => ∃ v, r = some v ∧ Q v s') E s2 := fun o s2 z => by
      obtain ⟨r, rfl, q⟩ := z
      exact wpAny_pure ⟨_, rfl, q⟩
    refine wpAny_bind (wpAny_askSetting (wpAny_ite ?_))
    split
    · exact wpAny_bind (wpAny_pure (wpAny_pure (wpAny_mono fin go fun _ _ e => e)))
    · exact wpAny_tryCatch (wpAny_bind (wpAny_pure (wpAny_pure (wpAny_mono fin go fun _ _ e => e))))
  unfold richCompare
  simp only [oneThing_ref]
  refine wpAny_holding (wpAny_bind (wpAny_cRoomFor (by omega) ?_))
  refine wpAny_bind (I.type.here (wpAny_bind (hb.here ?_)))
  split
  · rename_i q
    have e : subIn K tb (.ref C) = some false := by
      rcases Bool.or_eq_true_iff.mp hn with e | e
      · rw [beq_iff_eq.mp e] at q; simp at q
      · exact beq_iff_eq.mp e
    refine wpAny_bind ((looks_subIn X e).here ?_)
    simp only [Bool.false_eq_true, if_false]
    exact wpAny_bind (wpAny_mono one (fun r s2 z => by obtain ⟨v, rfl, q⟩ := z; exact wpAny_pure q) fun _ _ e => e)
  · refine wpAny_bind (wpAny_pure ?_)
    simp only [Bool.false_eq_true, if_false]
    exact wpAny_bind (wpAny_mono one (fun r s2 z => by obtain ⟨v, rfl, q⟩ := z; exact wpAny_pure q) fun _ _ e => e)
end
end PySem.W

set_option maxRecDepth 100000
set_option maxHeartbeats 400000
/-! Own operators by what a def does to data -/
namespace Pm
open PySem L2
/-- the right operand's class is one of those -/
def okArg (T : Tb) (ok : Value → Bool) (g : Fn) : Fn := fun ds m => match ds with
  | [a, b] => match b.typ T m with
    | some t => if ok t then g [a, b] m else .no
    | none => .no
  | _ => .no
def negR (g : Fn) : Fn := fun ds m => (g ds m).bind fun d m => match d with
  | .bl r => .ok (.bl (!r)) m
  | _ => .no
/-- a def that is known by its address -/
structure Callee (T : Tb) (s : Stc) (lv : Nat) (n : Nat) (f : Addr) (g : Fn) : Prop where
  ex : ∃ fd ps k, FnG s.P s.w s.K s.mg s.base k f fd ps (spD T ps.length g) ∧ Binds s.K fd ps [] ∧ k ≤ lv ∧ ps.length = n
section
variable {X : Cx} {G : Gm} {H Z : Hp} {α : List Addr} {m : Mu} {lv k : Nat} {C f : Addr} {c : Str} {fd : FuncData} {ps : List Str} {g : Fn} {ok : Value → Bool}
theorem ty_looks {pins : List (Addr × Obj)} {σ : L2.St} {s : Shared} {v : V} {u t : Value} (I : L2.Inv X pins σ H s) (rx : RelV v u) (ty : TyX X.K H v t) : PySem.W.Looks (model X.prog X.w) s.heap (typeOf u) t := by
  obtain ⟨P, k, p, _⟩ := kit_of I rx ty
  exact k.ty _ _ I.kIn p
theorem okArg_cases {T : Tb} {a b : D} {K : D → Mu → Hp → Hp → List Addr → Prop} (q : Post T E0 H Z α (okArg T ok g [a, b] m) K) : ∃ t, b.typ T m = some t ∧ ok t = true ∧ Post T E0 H Z α (g [a, b] m) K := by
  unfold okArg at q
  dsimp only at q
  split at q
  · rename_i t e
    split at q
    · rename_i e2; exact ⟨t, e, e2, q⟩
    · exact q.elim
  · exact q.elim
/-- two arguments go in, within a frame that is no deeper than asked -/
theorem run_two {T : Tb} {pins : List (Addr × Obj)} {σ : L2.St} {s : Shared} {x y : V} {v u : Value} {a b : D} {Q : VK} (cl : Callee T (stc X) lv 2 f g) (gd : X.A.guards = some []) (hr : Room lv X.A) (I : L2.Inv X pins σ H s) (rx : RelV x v) (ry : RelV y u) (R : Rep T H Z α m)
    (dx : Dn T Z α x a) (dy : Dn T Z α y b) (q : Post T E0 H Z α (g [a, b] m) (KQ T Q)) : wpAny (model X.prog X.w) X.A (call (.ref f) [v, u]) (EP X pins σ Q) X.xe s := by
  obtain ⟨fd, ps, k, F, hb, hk, hl⟩ := cl.ex
  exact run_g (E := E0) (us := [v, u]) (vs := [x, y]) F gd (hr.mono hk) hb passL I (.cons rx (.cons ry .nil)) ⟨hl.symm, Z, α, m, [a, b], R, .cons dx (.cons dy .nil), q⟩
theorem ep_back {pins : List (Addr × Obj)} {σ : L2.St} {Q : VK} {v : Value} {s : Shared} (h : EP X pins σ Q v s) : PySem.W.CmpBack (EP X pins σ Q) v s := by
  obtain ⟨x, H1, I1, r, q⟩ := id h
  cases x
  all_goals first | (cases r; exact h) | (obtain ⟨_, rfl⟩ := r; exact h) | (obtain ⟨_, _, rfl⟩ := r; exact h)
/-- a op b, both of the class -/
theorem op_own {op : Operator} (g0 : GoodK G X.K) (gd : X.A.guards = some []) (hr : Room lv X.A) (hC : G.T.cls c = some C) (hc : PySem.W.selfFirst X.K C = true) (hs : PySem.W.findIn X.K (.ref C) (PySem.dunder op.info.2) = some (some (.ref f))) (hf : PySem.W.isFn X.K (.ref f) = true)
    (cl : Callee G.T (stc X) lv 2 f g) (hok : ∀ t, ok t = true → t = .ref C) : OpR X (binaryOp op) (rOwn G.T c (okArg G.T ok g)) := by
  intro pins s σ H x y v u Q I rx ry ⟨Z, α, m, a, b, fs, R, dv, du, e, q⟩
  obtain ⟨t, ht, hk, q⟩ := okArg_cases q
  obtain rfl := hok t hk
  obtain ⟨p, C', dx, vs, rfl, h1, h2, h3⟩ := insOf_cls R dv e
  rw [hC] at h1
  cases h1
  cases rx
  obtain ⟨mA, O, _⟩ := ins_get I.hok h2
  obtain ⟨od, J, _⟩ := O.look
  obtain ⟨mm, hF⟩ := I.fr
  exact PySem.W.binop_K hF I.ok.mod.kin J (ty_looks I ry (typ_ok g0 R du ht)) hc hs hf (thn (run_two cl gd hr I (show RelV (.ref p) (.ref p) from rfl) ry R dv du q) fun v s2 h => ep_back h)
/-- a op b, b of a built-in class -/
theorem op_ownT {op : Operator} {n : String} {fo ro rc : Option Value} (g0 : GoodK G X.K) (gd : X.A.guards = some []) (hr : Room lv X.A) (hC : G.T.cls c = some C) (hc : PySem.W.selfFirst X.K C = true) (hs : PySem.W.findIn X.K (.ref C) (PySem.dunder op.info.2) = some (some (.ref f))) (hf : PySem.W.isFn X.K (.ref f) = true)
    (h4 : PySem.W.findIn X.K (.ref C) (dunderR op.info.2) = some rc) (h5 : rc = none ∨ ∃ g : Addr, rc = some (.ref g)) (h6 : PySem.W.findIn X.K (.type "int") (PySem.dunder op.info.2) = some fo) (h7 : PySem.W.findIn X.K (.type "int") (dunderR op.info.2) = some ro) (h8 : PySem.W.subIn X.K (.type "int") (.ref C) = some false)
    (cl : Callee G.T (stc X) lv 2 f g) (hok : ∀ t, ok t = true → t = .type "int") : OpR X (binaryOp op) (rOwn G.T c (okArg G.T ok g)) := by
  intro pins s σ H x y v u Q I rx ry ⟨Z, α, m, a, b, fs, R, dv, du, e, q⟩
  obtain ⟨t, ht, hk, q⟩ := okArg_cases q
  obtain rfl := hok t hk
  obtain ⟨p, C', dx, vs, rfl, h1, h2, h3⟩ := insOf_cls R dv e
  rw [hC] at h1
  cases h1
  cases rx
  obtain ⟨mA, O, _⟩ := ins_get I.hok h2
  obtain ⟨od, J, _⟩ := O.look
  obtain ⟨mm, hF⟩ := I.fr
  have hu : typeOf u = pure (.type "int") := by
    cases du with
    | int i => obtain ⟨tk, rfl⟩ := ry; rfl
    | own e1 =>
      simp only [D.typ] at ht
      split at ht <;> first | (rw [Option.map_eq_some_iff] at ht; obtain ⟨_, _, z⟩ := ht; cases z) | (injection ht with ht; injection ht with ht; exact absurd ht (by decide)) | cases ht
    | ins e1 e2 e3 => simp only [D.typ, e1, Option.map_some] at ht; cases ht
    | _ => first | (injection ht with ht; injection ht with ht; exact absurd ht (by decide)) | cases ht
  exact PySem.W.ksp_binT hF I.ok.mod.kin J hu hc hs hf h4 h5 h6 h7 h8 (thn (run_two cl gd hr I (show RelV (.ref p) (.ref p) from rfl) ry R dv du q) fun v s2 h => ep_back h)
/-- a == b -/
theorem cm_eq (g0 : GoodK G X.K) (gd : X.A.guards = some []) (hr : Room lv X.A) (hC : G.T.cls c = some C) (hs : PySem.W.findIn X.K (.ref C) "__eq__" = some (some (.ref f))) (hf : PySem.W.isFn X.K (.ref f) = true)
    (cl : Callee G.T (stc X) lv 2 f g) (hok : ∀ t, ok t = true → PySem.W.notFirst X.K C t = true) : OpR X (compareOp .Eq) (rOwn G.T c (okArg G.T ok g)) := by
  intro pins s σ H x y v u Q I rx ry ⟨Z, α, m, a, b, fs, R, dv, du, e, q⟩
  obtain ⟨t, ht, hk, q⟩ := okArg_cases q
  obtain ⟨p, C', dx, vs, rfl, h1, h2, h3⟩ := insOf_cls R dv e
  rw [hC] at h1
  cases h1
  cases rx
  obtain ⟨mA, O, _⟩ := ins_get I.hok h2
  obtain ⟨od, J, _⟩ := O.look
  obtain ⟨mm, hF⟩ := I.fr
  exact PySem.W.cmp_K (op := .Eq) hr.units0 hF I.ok.mod.kin J (ty_looks I ry (typ_ok g0 R du ht)) (hok t hk) hs hf (thn (run_two cl gd hr I (show RelV (.ref p) (.ref p) from rfl) ry R dv du q) fun v s2 h => ep_back h)
/-- a != b, by the own == -/
theorem cm_ne (g0 : GoodK G X.K) (gd : X.A.guards = some []) (hr : Room lv X.A) (hC : G.T.cls c = some C) (hs : PySem.W.findIn X.K (.ref C) "__eq__" = some (some (.ref f))) (hf : PySem.W.isFn X.K (.ref f) = true)
    (hne : PySem.W.findIn X.K (.ref C) "__ne__" = some (some (.builtin "object.__ne__"))) (hm : PySem.W.mroIn X.K C (.type "object") = some true)
    (cl : Callee G.T (stc X) k 2 f g) (hk : k + 1 ≤ lv) (hok : ∀ t, ok t = true → PySem.W.notFirst X.K C t = true) : OpR X (compareOp .NotEq) (rOwn G.T c (negR (okArg G.T ok g))) := by
  intro pins s σ H x y v u Q I rx ry ⟨Z, α, m, a, b, fs, R, dv, du, e, q⟩
  unfold negR at q
  have q1 := q.bind
  obtain ⟨t, ht, hk2, q2⟩ := okArg_cases q1
  obtain ⟨p, C', dx, vs, rfl, h1, h2, h3⟩ := insOf_cls R dv e
  rw [hC] at h1
  cases h1
  cases rx
  obtain ⟨mA, O, _⟩ := ins_get I.hok h2
  obtain ⟨od, J, _⟩ := O.look
  obtain ⟨mm, hF⟩ := I.fr
  refine PySem.W.pm_ne (by have := hr.units; omega) hF I.ok.mod.kin J (ty_looks I ry (typ_ok g0 R du ht)) (hok t hk2) hs hf hne hm ?_
  obtain ⟨fd, ps, k', F, hb, hk', hl⟩ := cl.ex
  have sp : spD G.T ps.length g [V.ref p, y] H (fun w H' => ∃ r, w = V.bl r ∧ Q (.bl (!r)) H') E0 := ⟨hl.symm, Z, α, m, [a, b], R, .cons dv (.cons du .nil), q2.mono fun d m1 H1 Z1 α1 F1 R1 p1 w dw => by
    split at p1
    · cases dw; exact ⟨_, rfl, p1.now R1 _ (.bl _)⟩
    · exact p1.elim⟩
  have b2 := hb s [Value.ref p, u] I.kIn (by rw [List.append_nil, hl]; rfl)
  rw [List.append_nil] at b2
  refine wpAny_call (codeAny_mono (F.runG X.A.in1 X.stack s H ⟨[.ref p, u], []⟩ [.ref p, u] [.ref p, y] _ E0 gd ((hr.mono (Nat.le_trans (Nat.succ_le_succ hk') hk)).in1) I.env0.in1 b2 (.cons rfl (.cons ry .nil)) sp) fun fin s2 z => ?_)
  match fin, z with
  | .error er, z => exact passL pins σ H s er s2 I z
  | .ok (.ret w), z =>
    obtain ⟨w', H2, I2, r2, r, rfl, q3⟩ := I.after z
    cases r2
    exact ⟨r, rfl, .bl (!r), H2, I2, rfl, q3⟩
end
end Pm

set_option maxRecDepth 100000
set_option maxHeartbeats 400000
/-! Tables that grow; the law's end -/
namespace Pm
open PySem L2
open PyProof.Rows (IntsAre AllBare)
section
variable {G : Gm} {s : Stc} {lv lv' k : Nat} {f : Addr} {fd : FuncData} {ps : List Str} {h : Fn}
theorem runF_no {np nN : Nat} {body : List C} : ∀ (ds : List D) (m : Mu), ds.length ≠ np → runF G np nN body ds m = .no := fun ds m e => by
  unfold runF
  exact if_neg e
theorem Good.up (g : Good G lv s) (hl : lv ≤ lv') : Good G lv' s :=
  { gk := g.gk
    fn := fun x e h => by obtain ⟨a, fd, ps, k, h1, h2, h3, h4, h5, h6⟩ := g.fn x e h; exact ⟨a, fd, ps, k, h1, h2, h3, h4, Nat.le_trans h5 hl, h6⟩
    me := fun c C x e h hC => by obtain ⟨a, fd, ps, k, h1, h2, h3, h4, h5⟩ := g.me c C x e h hC; exact ⟨a, fd, ps, k, h1, h2, h3, Nat.le_trans h4 hl, h5⟩
    pr := fun c C x e h hC => by obtain ⟨p, a, fd, ps, k, h1, h2, h3, h4, h5⟩ := g.pr c C x e h hC; exact ⟨p, a, fd, ps, k, h1, h2, h3, Nat.le_trans h4 hl, h5⟩
    cs := fun c e h => by obtain ⟨C, a, fd, ps, k, gi, frz, h1, h2, h3, h4, h5, h6, h7⟩ := g.cs c e h; exact ⟨C, a, fd, ps, k, gi, frz, h1, h2, h3, h4, h5, Nat.le_trans h6 hl, h7⟩
    op := fun c o e h X hX hr gd => g.op c o e h X hX (hr.mono hl) gd
    cm := fun c o e h X hX hr gd => g.cm c o e h X hX (hr.mono hl) gd
    ca := fun c C e h hC => by obtain ⟨a, fd, ps, k, h1, h2, h3, h4, h5⟩ := g.ca c C e h hC; exact ⟨a, fd, ps, k, h1, h2, h3, Nat.le_trans h4 hl, h5⟩
    rp := fun c C e h hC => by obtain ⟨a, fd, ps, k, h1, h2, h3, h4, h5, h6⟩ := g.rp c C e h hC; exact ⟨a, fd, ps, k, h1, h2, h3, h4, Nat.le_trans h5 hl, h6⟩
    bl := g.bl
    cl := g.cl }
/-- a table with one def more -/
def Gm.add (G : Gm) (x : Str) (h : Fn) : Gm := { G with fn := fun y => if y = x then some h else G.fn y }
theorem Good.add {x : Str} (g : Good G lv s) (hm : s.mg x = some (.ref f)) (hk : PySem.W.keepIn s.K (.ref f) = true) (F : FnG s.P s.w s.K s.mg s.base k f fd ps (spD G.T ps.length h)) (hb : Binds s.K fd ps []) (hl : k ≤ lv) (hn : ∀ ds m, ds.length ≠ ps.length → h ds m = .no) : Good (G.add x h) lv s :=
  { gk := ⟨g.gk.eK, g.gk.isi, g.gk.cls, g.gk.fl⟩
    fn := fun y e q => by
      have q : (if y = x then some h else G.fn y) = some e := q
      by_cases e1 : y = x
      · rw [if_pos e1] at q
        cases q
        exact ⟨f, fd, ps, k, by rw [e1]; exact hm, hk, F, hb, hl, hn⟩
      · rw [if_neg e1] at q
        exact g.fn y e q
    me := g.me, pr := g.pr, cs := g.cs, op := g.op, cm := g.cm, ca := g.ca, rp := g.rp, bl := g.bl, cl := g.cl }
end
section
variable {P : Program} {w : World} {K : PySem.W.Frag} {mg : Str → Option Value} {base : Heap} {G : Gm} {lv : Nat} {tp : Tp}
/-- a def is added to the table -/
theorem Good.def {x qual : Str} {st : Stmt} {f : Addr} {fd : FuncData} {N ps : List Str} {n : Nat} {body : List C} (g : Good G lv ⟨P, w, K, mg, base⟩) (F : Fun K x qual st f fd) (S : FnScope N ps (defScope st)) (hcls : ∀ x ∈ tp.cls, ∃ C, G.T.cls x = some C) (ht : trCs tp N n (defScope st) (defBody st) = some body)
    (hpn : ps.length ≤ N.length) (hm : mg x = some (.ref f)) (hb : Binds K fd ps []) : Good (G.add x (runF G ps.length N.length body)) (lv + 1) ⟨P, w, K, mg, base⟩ :=
  (g.up (Nat.le_succ lv)).add hm F.kp (fnD F S g hcls ht hpn) hb (Nat.le_refl _) runF_no
end
end Pm

set_option maxRecDepth 100000
set_option maxHeartbeats 400000
namespace Pm
open PySem L2
/-- THE END -/
theorem walkG {l : PySem.W.OpenLaw} {n k : Nat} {q : Program} {loose : List Str} {XP : (Str → Option Value) → Heap → Prop} {YP : World → Heap → Prop} {d : DefRec} {K : Params → PySem.W.Frag} {x : Str} (hn : l.most = some n) (hn2 : n ≤ sizeLine) (hdf : d.params.defaults = []) (hr : Room k callerA)
    (hY : ∀ (w : World) (h : Heap), YP w h → (K w.params).In h)
    (F : ∀ (w : World) (mg : Str → Option Value) (fa : Addr) (h : Heap), (K w.params).In h → h.Ns mainGlobals mg → mg d.name = some (.ref fa) →
      ∃ (fd : FuncData) (T : Tb) (g : Fn), T.K = K w.params ∧ (∀ ns : List Int, ns.length ≤ n → ∃ m, g [.frl (ns.map D.int)] [] = .ok (.bl true) m) ∧ (∀ (s : Shared) (u : Value), BindsTo s fd ⟨[u], []⟩ [(x, u)]) ∧
        ∀ base : Heap, (K w.params).In base → base.Ns mainGlobals mg → FnG l.prog w (K w.params) mg base k fa fd [x] (spD T 1 g)) : PySem.W.WalkO q loose XP YP l.row.toRowW d [] (fun f vs => PySem.call f vs) := by
  refine Att.attach_call hn hdf fun w s₀ s₁ mg mb fa o pm cd doc a vs ns A Y ho hd hcd hmg hobj hints hlen hgs => ?_
  have KX := hY w _ Y
  obtain ⟨fd, T, g, hT, hg, hb, hF⟩ := F w mg fa _ KX A.T.g hmg
  obtain ⟨m, hm⟩ := hg ns hlen
  exact lawG KX A.T.g A.T.b A.T.builtins A.T.nolimit hgs hobj hints (Nat.le_trans hlen hn2) hr hF hb fun H hS => law_spD (by rw [hT]; exact hS) hm
end Pm

set_option maxRecDepth 100000
set_option maxHeartbeats 4000000
/-! The defs of the law as programs without names -/
namespace K26
open PySem L2 Pm
abbrev prog : PySem.Program := PySem.Challenge.pw_sourwright_k26_bounds_of_lives
abbrev top (i : Nat) : Stmt := prog.main.body.getD i (.Pass ⟨0, 0, 0, 0⟩)
abbrev inCls (s : Stmt) (i : Nat) : Stmt := match s with
  | .ClassDef _ _ _ b _ _ _ _ _ _ _ => b.getD i (.Pass ⟨0, 0, 0, 0⟩)
  | _ => .Pass ⟨0, 0, 0, 0⟩
def tp : Tp := { cls := ["LifeRow"], own := [(17, 16), (59, 11), (73, 16), (84, 16), (126, 17), (151, 20)], frz := [(76, [3]), (153, [4])] }
abbrev s_LifeRow___init__ : Stmt := (inCls (top 1) 0)
def N_LifeRow___init__ : List Str := ["self", "left", "lost"]
abbrev s_LifeRow_left : Stmt := (inCls (top 1) 1)
def N_LifeRow_left : List Str := ["self"]
abbrev s_LifeRow_lost : Stmt := (inCls (top 1) 2)
def N_LifeRow_lost : List Str := ["self"]
abbrev s_LifeRow___call__ : Stmt := (inCls (top 1) 3)
def N_LifeRow___call__ : List Str := ["self", "lives", "terms", "life", "lost"]
abbrev s_LifeRow___sub__ : Stmt := (inCls (top 1) 4)
def N_LifeRow___sub__ : List Str := ["self", "other", "left", "lost"]
abbrev s_LifeRow___and__ : Stmt := (inCls (top 1) 5)
def N_LifeRow___and__ : List Str := ["self", "other", "left", "one", "two"]
abbrev s_LifeRow_is_below : Stmt := (inCls (top 1) 6)
def N_LifeRow_is_below : List Str := ["self", "other", "one", "two"]
abbrev s_LifeRow___eq__ : Stmt := (inCls (top 1) 7)
def N_LifeRow___eq__ : List Str := ["self", "other"]
abbrev s_LifeRow___repr__ : Stmt := (inCls (top 1) 8)
def N_LifeRow___repr__ : List Str := ["self"]
abbrev s_least_term : Stmt := (top 2)
def N_least_term : List Str := ["one", "two"]
abbrev s_greatest_term : Stmt := (top 3)
def N_greatest_term : List Str := ["one", "two"]
abbrev s__law_box : Stmt := (top 5)
def N__law_box : List Str := ["_law_script", "_law_k", "_law_cell", "_law_seed"]
abbrev s__law_take : Stmt := (top 6)
def N__law_take : List Str := ["_law_box_here", "_law_many", "_law_digit", "_law_one"]
abbrev s__law_pick : Stmt := (top 7)
def N__law_pick : List Str := ["_law_box_here", "_law_things"]
abbrev s__law_row : Stmt := (top 8)
def N__law_row : List Str := ["_law_box_here", "_law_many", "_law_left", "_law_lost", "_law_k", "_law_one"]
abbrev s__law_bound : Stmt := (top 9)
def N__law_bound : List Str := ["_law_row_here", "_law_lives", "_law_left", "_law_lost", "_law_found", "_law_life", "_law_one"]
abbrev s__law_alike : Stmt := (top 10)
def N__law_alike : List Str := ["_law_found", "_law_due", "_law_left", "_law_one", "_law_other"]
abbrev s__law_parts_of : Stmt := (top 11)
def N__law_parts_of : List Str := ["_law_row_here"]
abbrev s__law_less : Stmt := (top 12)
def N__law_less : List Str := ["_law_row_here", "_law_ticks", "_law_left", "_law_lost", "_law_one"]
abbrev s__law_worse : Stmt := (top 13)
def N__law_worse : List Str := ["_law_one", "_law_other", "_law_sign", "_law_some", "_law_term"]
abbrev s__law_least : Stmt := (top 14)
def N__law_least : List Str := ["_law_one", "_law_other", "_law_lost", "_law_x", "_law_y"]
abbrev s__law_is_below : Stmt := (top 15)
def N__law_is_below : List Str := ["_law_one", "_law_other", "_law_x", "_law_y", "_law_sign"]
abbrev s__law_near : Stmt := (top 16)
def N__law_near : List Str := ["_law_box_here", "_law_row_here", "_law_left", "_law_lost", "_law_at", "_law_lower", "_law_higher", "_law_one"]
abbrev s__law_pair_right : Stmt := (top 17)
def N__law_pair_right : List Str := ["_law_box_here", "_law_one", "_law_other", "_law_given", "_law_x", "_law_y", "_law_ticks", "_law_lives", "_law_term", "_law_odd"]
abbrev s_law : Stmt := (top 18)
def N_law : List Str := ["_law_script", "_law_k", "_law_box_here", "_law_many", "_law_rows", "_law_turn", "_law_one", "_law_other"]
def b_LifeRow___init__ : List C := [(.asg (.fld (.var 0) "_left") (.var 1)),
    (.asg (.fld (.var 0) "_lost") (.blt .tuple [(.var 2)]))]
theorem t_LifeRow___init__ : trCs tp N_LifeRow___init__ 60 (defScope s_LifeRow___init__) (defBody s_LifeRow___init__) = some b_LifeRow___init__ := by kernel_rfl
theorem sc_LifeRow___init__ : FnScope N_LifeRow___init__ ["self", "left", "lost"] (defScope s_LifeRow___init__) := ⟨rfl, rfl, rfl, by decide +kernel, rfl, by decide +kernel, by decide +kernel⟩
def b_LifeRow_left : List C := [(.ret (.att (.var 0) "_left"))]
theorem t_LifeRow_left : trCs tp N_LifeRow_left 60 (defScope s_LifeRow_left) (defBody s_LifeRow_left) = some b_LifeRow_left := by kernel_rfl
theorem sc_LifeRow_left : FnScope N_LifeRow_left ["self"] (defScope s_LifeRow_left) := ⟨rfl, rfl, rfl, by decide +kernel, rfl, by decide +kernel, by decide +kernel⟩
def b_LifeRow_lost : List C := [(.ret (.att (.var 0) "_lost"))]
theorem t_LifeRow_lost : trCs tp N_LifeRow_lost 60 (defScope s_LifeRow_lost) (defBody s_LifeRow_lost) = some b_LifeRow_lost := by kernel_rfl
theorem sc_LifeRow_lost : FnScope N_LifeRow_lost ["self"] (defScope s_LifeRow_lost) := ⟨rfl, rfl, rfl, by decide +kernel, rfl, by decide +kernel, by decide +kernel⟩
def b_LifeRow___call__ : List C := [(.asg (.nm 2) (.lc true (.tup [(.nm 3), (.nm 4)]) (.zip (.var 1) (.att (.var 0) "_lost")) (some (.cmp .IsNot (.var 4) (.con .non))) (.bin .Sub (.var 3) (.var 4)) [3, 4])),
    (.ife (.cmp .IsNot (.att (.var 0) "_left") (.con .non)) [(.expr (.bm (.var 2) .append [(.att (.var 0) "_left")]))] []),
    (.ret (.blt .max [(.blt .min [(.var 2)]), (.neg (.con (.int 1)))]))]
theorem t_LifeRow___call__ : trCs tp N_LifeRow___call__ 60 (defScope s_LifeRow___call__) (defBody s_LifeRow___call__) = some b_LifeRow___call__ := by kernel_rfl
theorem sc_LifeRow___call__ : FnScope N_LifeRow___call__ ["self", "lives"] (defScope s_LifeRow___call__) := ⟨rfl, rfl, rfl, by decide +kernel, rfl, by decide +kernel, by decide +kernel⟩
def b_LifeRow___sub__ : List C := [(.asg (.nm 2) (.ife (.cmp .Is (.att (.var 0) "_left") (.con .non)) (.con .non) (.blt .max [(.bin .Sub (.att (.var 0) "_left") (.var 1)), (.neg (.con (.int 1)))]))),
    (.ret (.mk "LifeRow" [(.var 2), (.lc false (.nm 3) (.val (.att (.var 0) "_lost")) none (.ife (.cmp .Is (.var 3) (.con .non)) (.con .non) (.blt .min [(.bin .Add (.var 3) (.var 1)), (.con (.int 61))])) [3])]))]
theorem t_LifeRow___sub__ : trCs tp N_LifeRow___sub__ 60 (defScope s_LifeRow___sub__) (defBody s_LifeRow___sub__) = some b_LifeRow___sub__ := by kernel_rfl
theorem sc_LifeRow___sub__ : FnScope N_LifeRow___sub__ ["self", "other"] (defScope s_LifeRow___sub__) := ⟨rfl, rfl, rfl, by decide +kernel, rfl, by decide +kernel, by decide +kernel⟩
def b_LifeRow___and__ : List C := [(.asg (.nm 2) (.fn "least_term" [(.att (.var 0) "_left"), (.att (.var 1) "_left")])),
    (.ret (.mk "LifeRow" [(.var 2), (.lc false (.tup [(.nm 3), (.nm 4)]) (.zip (.att (.var 0) "_lost") (.att (.var 1) "_lost")) none (.fn "greatest_term" [(.var 3), (.var 4)]) [3, 4])]))]
theorem t_LifeRow___and__ : trCs tp N_LifeRow___and__ 60 (defScope s_LifeRow___and__) (defBody s_LifeRow___and__) = some b_LifeRow___and__ := by kernel_rfl
theorem sc_LifeRow___and__ : FnScope N_LifeRow___and__ ["self", "other"] (defScope s_LifeRow___and__) := ⟨rfl, rfl, rfl, by decide +kernel, rfl, by decide +kernel, by decide +kernel⟩
def b_LifeRow_is_below : List C := [(.ife (.and (.cmp .IsNot (.att (.var 1) "_left") (.con .non)) (.or (.cmp .Is (.att (.var 0) "_left") (.con .non)) (.cmp .Gt (.att (.var 0) "_left") (.att (.var 1) "_left")))) [(.ret (.con (.bl false)))] []),
    (.for (.tup [(.nm 2), (.nm 3)]) (.zip (.att (.var 0) "_lost") (.att (.var 1) "_lost")) [(.ife (.and (.cmp .IsNot (.var 3) (.con .non)) (.or (.cmp .Is (.var 2) (.con .non)) (.cmp .Lt (.var 2) (.var 3)))) [(.ret (.con (.bl false)))] [])]),
    (.ret (.con (.bl true)))]
theorem t_LifeRow_is_below : trCs tp N_LifeRow_is_below 60 (defScope s_LifeRow_is_below) (defBody s_LifeRow_is_below) = some b_LifeRow_is_below := by kernel_rfl
theorem sc_LifeRow_is_below : FnScope N_LifeRow_is_below ["self", "other"] (defScope s_LifeRow_is_below) := ⟨rfl, rfl, rfl, by decide +kernel, rfl, by decide +kernel, by decide +kernel⟩
def b_LifeRow___eq__ : List C := [(.ret (.and (.blt .isi [(.var 1), (.con (.cls "LifeRow"))]) (.and (.cmp .Eq (.att (.var 0) "_left") (.att (.var 1) "_left")) (.cmp .Eq (.att (.var 0) "_lost") (.att (.var 1) "_lost")))))]
theorem t_LifeRow___eq__ : trCs tp N_LifeRow___eq__ 60 (defScope s_LifeRow___eq__) (defBody s_LifeRow___eq__) = some b_LifeRow___eq__ := by kernel_rfl
theorem sc_LifeRow___eq__ : FnScope N_LifeRow___eq__ ["self", "other"] (defScope s_LifeRow___eq__) := ⟨rfl, rfl, rfl, by decide +kernel, rfl, by decide +kernel, by decide +kernel⟩
def b_LifeRow___repr__ : List C := [(.ret (.jst [(.con (.str "LifeRow(")), (.fmt (.att (.var 0) "_left")), (.con (.str ", ")), (.fmt (.att (.var 0) "_lost")), (.con (.str ")"))]))]
theorem t_LifeRow___repr__ : trCs tp N_LifeRow___repr__ 60 (defScope s_LifeRow___repr__) (defBody s_LifeRow___repr__) = some b_LifeRow___repr__ := by kernel_rfl
theorem sc_LifeRow___repr__ : FnScope N_LifeRow___repr__ ["self"] (defScope s_LifeRow___repr__) := ⟨rfl, rfl, rfl, by decide +kernel, rfl, by decide +kernel, by decide +kernel⟩
def b_least_term : List C := [(.ife (.or (.cmp .Is (.var 0) (.con .non)) (.cmp .Is (.var 1) (.con .non))) [(.ret (.ife (.cmp .Is (.var 0) (.con .non)) (.var 1) (.var 0)))] []),
    (.ret (.blt .min [(.var 0), (.var 1)]))]
theorem t_least_term : trCs tp N_least_term 60 (defScope s_least_term) (defBody s_least_term) = some b_least_term := by kernel_rfl
theorem sc_least_term : FnScope N_least_term ["one", "two"] (defScope s_least_term) := ⟨rfl, rfl, rfl, by decide +kernel, rfl, by decide +kernel, by decide +kernel⟩
def b_greatest_term : List C := [(.ife (.or (.cmp .Is (.var 0) (.con .non)) (.cmp .Is (.var 1) (.con .non))) [(.ret (.ife (.cmp .Is (.var 0) (.con .non)) (.var 1) (.var 0)))] []),
    (.ret (.blt .max [(.var 0), (.var 1)]))]
theorem t_greatest_term : trCs tp N_greatest_term 60 (defScope s_greatest_term) (defBody s_greatest_term) = some b_greatest_term := by kernel_rfl
theorem sc_greatest_term : FnScope N_greatest_term ["one", "two"] (defScope s_greatest_term) := ⟨rfl, rfl, rfl, by decide +kernel, rfl, by decide +kernel, by decide +kernel⟩
def b__law_box : List C := [(.asg (.nm 2) (.bin .Add (.bin .Mult (.con (.int 6841)) (.var 1)) (.con (.int 37)))),
    (.ife (.cmp .Lt (.var 1) (.blt .len [(.var 0)])) [(.asg (.nm 2) (.idx (.var 0) (.var 1)))] [(.ife (.cmp .Gt (.blt .len [(.var 0)]) (.con (.int 0))) [(.asg (.nm 2) (.bin .Add (.var 2) (.bin .Mult (.bin .Mod (.idx (.var 0) (.bin .Mod (.var 1) (.blt .len [(.var 0)]))) (.con (.int 2147483629))) (.con (.int 69623)))))] [])]),
    (.asg (.nm 3) (.bin .Add (.bin .Mod (.bin .Add (.bin .Mult (.bin .Mod (.var 2) (.con (.int 2147483629))) (.con (.int 48271))) (.bin .Mult (.con (.int 40692)) (.var 1))) (.con (.int 2147483629))) (.con (.int 1)))),
    (.ret (.lsto [(.idx (.lst [(.con (.int 0)), (.var 2)]) (.blt .int [(.cmp .GtE (.var 2) (.bin .Pow (.con (.int 10)) (.con (.int 18))))])), (.var 3), (.con (.int 0))]))]
theorem t__law_box : trCs tp N__law_box 60 (defScope s__law_box) (defBody s__law_box) = some b__law_box := by kernel_rfl
theorem sc__law_box : FnScope N__law_box ["_law_script", "_law_k"] (defScope s__law_box) := ⟨rfl, rfl, rfl, by decide +kernel, rfl, by decide +kernel, by decide +kernel⟩
def b__law_take : List C := [(.ife (.cmp .Gt (.idx (.var 0) (.con (.int 0))) (.con (.int 0))) [(.asg (.nm 2) (.bin .Mod (.idx (.var 0) (.con (.int 0))) (.var 1))), (.asg (.sub (.var 0) (.con (.int 0))) (.bin .FloorDiv (.idx (.var 0) (.con (.int 0))) (.var 1))), (.ret (.var 2))] []),
    (.asg (.sub (.var 0) (.con (.int 2))) (.bin .Add (.idx (.var 0) (.con (.int 2))) (.con (.int 1)))),
    (.asg (.nm 3) (.bin .Mod (.bin .Mult (.bin .Add (.idx (.var 0) (.con (.int 1))) (.bin .Mult (.con (.int 104729)) (.idx (.var 0) (.con (.int 2))))) (.con (.int 69623))) (.con (.int 2147483647)))),
    (.asg (.sub (.var 0) (.con (.int 1))) (.bin .Add (.bin .Mod (.bin .Add (.bin .Mult (.var 3) (.con (.int 48271))) (.con (.int 30103))) (.con (.int 2147483629))) (.con (.int 1)))),
    (.ret (.bin .Mod (.bin .FloorDiv (.bin .Add (.bin .Mult (.var 3) (.con (.int 2147483647))) (.idx (.var 0) (.con (.int 1)))) (.con (.int 8191))) (.var 1)))]
theorem t__law_take : trCs tp N__law_take 60 (defScope s__law_take) (defBody s__law_take) = some b__law_take := by kernel_rfl
theorem sc__law_take : FnScope N__law_take ["_law_box_here", "_law_many"] (defScope s__law_take) := ⟨rfl, rfl, rfl, by decide +kernel, rfl, by decide +kernel, by decide +kernel⟩
def b__law_pick : List C := [(.ret (.idx (.var 1) (.fn "_law_take" [(.var 0), (.blt .len [(.var 1)])])))]
theorem t__law_pick : trCs tp N__law_pick 60 (defScope s__law_pick) (defBody s__law_pick) = some b__law_pick := by kernel_rfl
theorem sc__law_pick : FnScope N__law_pick ["_law_box_here", "_law_things"] (defScope s__law_pick) := ⟨rfl, rfl, rfl, by decide +kernel, rfl, by decide +kernel, by decide +kernel⟩
def b__law_row : List C := [(.asg (.nm 2) (.idx (.lst [(.con .non), (.bin .Sub (.fn "_law_take" [(.var 0), (.con (.int 62))]) (.con (.int 1))), (.fn "_law_pick" [(.var 0), (.lst [(.neg (.con (.int 1))), (.con (.int 0)), (.con (.int 1)), (.con (.int 2)), (.con (.int 59)), (.con (.int 60))])])]) (.fn "_law_take" [(.var 0), (.con (.int 3))]))),
    (.asg (.nm 3) (.lsto [])),
    (.for (.nm 4) (.rng [(.var 1)]) [(.expr (.bm (.var 3) .append [(.idx (.lst [(.con .non), (.fn "_law_take" [(.var 0), (.con (.int 62))]), (.fn "_law_pick" [(.var 0), (.lst [(.con (.int 0)), (.con (.int 1)), (.con (.int 2)), (.con (.int 59)), (.con (.int 60)), (.con (.int 61))])])]) (.fn "_law_take" [(.var 0), (.con (.int 3))]))]))]),
    (.frz [3] (.ife (.and (.cmp .Is (.var 2) (.con .non)) (.cmp .Eq (.lc false (.nm 5) (.val (.var 3)) (some (.cmp .IsNot (.var 5) (.con .non))) (.var 5) [5]) (.lst []))) [(.asg (.nm 2) (.fn "_law_take" [(.var 0), (.con (.int 61))]))] [])),
    (.ret (.tup [(.var 2), (.blt .tuple [(.var 3)])]))]
theorem t__law_row : trCs tp N__law_row 60 (defScope s__law_row) (defBody s__law_row) = some b__law_row := by kernel_rfl
theorem sc__law_row : FnScope N__law_row ["_law_box_here", "_law_many"] (defScope s__law_row) := ⟨rfl, rfl, rfl, by decide +kernel, rfl, by decide +kernel, by decide +kernel⟩
def b__law_bound : List C := [(.asg (.tup [(.nm 2), (.nm 3)]) (.var 0)),
    (.asg (.nm 4) (.bin .Add (.lc false (.tup [(.nm 5), (.nm 6)]) (.zip (.var 1) (.var 3)) (some (.cmp .IsNot (.var 6) (.con .non))) (.bin .Sub (.var 5) (.var 6)) [5, 6]) (.bin .Mult (.lst [(.var 2)]) (.blt .int [(.cmp .IsNot (.var 2) (.con .non))])))),
    (.ret (.blt .max [(.neg (.con (.int 1))), (.blt .min [(.var 4)])]))]
theorem t__law_bound : trCs tp N__law_bound 60 (defScope s__law_bound) (defBody s__law_bound) = some b__law_bound := by kernel_rfl
theorem sc__law_bound : FnScope N__law_bound ["_law_row_here", "_law_lives"] (defScope s__law_bound) := ⟨rfl, rfl, rfl, by decide +kernel, rfl, by decide +kernel, by decide +kernel⟩
def b__law_alike : List C := [(.asg (.nm 2) (.lsto [(.tup [(.var 0), (.var 1)])])),
    (.whl (.cmp .NotEq (.var 2) (.lst [])) [(.asg (.tup [(.nm 3), (.nm 4)]) (.bm (.var 2) .pop [])), (.ife (.tru (.blt .isi [(.var 4), (.tup [(.con (.ty "tuple")), (.con (.ty "list"))])])) [(.ife (.or (.cmp .NotEq (.blt .isi [(.var 3), (.con (.ty "tuple"))]) (.blt .isi [(.var 4), (.con (.ty "tuple"))])) (.cmp .NotEq (.blt .isi [(.var 3), (.con (.ty "list"))]) (.blt .isi [(.var 4), (.con (.ty "list"))]))) [(.ret (.con (.bl false)))] []), (.ife (.cmp .NotEq (.blt .len [(.var 3)]) (.blt .len [(.var 4)])) [(.ret (.con (.bl false)))] []), (.expr (.bm (.var 2) .extend [(.lzp (.var 3) (.var 4))]))] [(.ife (.or (.tru (.blt .isi [(.var 3), (.tup [(.con (.ty "tuple")), (.con (.ty "list"))])])) (.or (.cmp .NotEq (.blt .isi [(.var 3), (.con (.ty "bool"))]) (.blt .isi [(.var 4), (.con (.ty "bool"))])) (.cmp .NotEq (.var 3) (.var 4)))) [(.ret (.con (.bl false)))] [])])]),
    (.ret (.con (.bl true)))]
theorem t__law_alike : trCs tp N__law_alike 60 (defScope s__law_alike) (defBody s__law_alike) = some b__law_alike := by kernel_rfl
theorem sc__law_alike : FnScope N__law_alike ["_law_found", "_law_due"] (defScope s__law_alike) := ⟨rfl, rfl, rfl, by decide +kernel, rfl, by decide +kernel, by decide +kernel⟩
def b__law_parts_of : List C := [(.ret (.tup [(.att (.var 0) "left"), (.att (.var 0) "lost")]))]
theorem t__law_parts_of : trCs tp N__law_parts_of 60 (defScope s__law_parts_of) (defBody s__law_parts_of) = some b__law_parts_of := by kernel_rfl
theorem sc__law_parts_of : FnScope N__law_parts_of ["_law_row_here"] (defScope s__law_parts_of) := ⟨rfl, rfl, rfl, by decide +kernel, rfl, by decide +kernel, by decide +kernel⟩
def b__law_less : List C := [(.asg (.tup [(.nm 2), (.nm 3)]) (.var 0)),
    (.asg (.nm 2) (.ife (.cmp .Is (.var 2) (.con .non)) (.con .non) (.blt .max [(.neg (.con (.int 1))), (.bin .Sub (.var 2) (.var 1))]))),
    (.ret (.tup [(.var 2), (.blt .tuple [(.lc false (.nm 4) (.val (.var 3)) none (.ife (.cmp .Is (.var 4) (.con .non)) (.con .non) (.blt .min [(.con (.int 61)), (.bin .Add (.var 4) (.var 1))])) [4])])]))]
theorem t__law_less : trCs tp N__law_less 60 (defScope s__law_less) (defBody s__law_less) = some b__law_less := by kernel_rfl
theorem sc__law_less : FnScope N__law_less ["_law_row_here", "_law_ticks"] (defScope s__law_less) := ⟨rfl, rfl, rfl, by decide +kernel, rfl, by decide +kernel, by decide +kernel⟩
def b__law_worse : List C := [(.asg (.nm 3) (.lc false (.nm 4) (.val (.tup [(.var 0), (.var 1)])) (some (.cmp .IsNot (.var 4) (.con .non))) (.bin .Mult (.var 2) (.var 4)) [4])),
    (.ret (.ife (.cmp .Eq (.var 3) (.lst [])) (.con .non) (.bin .Mult (.var 2) (.blt .min [(.var 3)]))))]
theorem t__law_worse : trCs tp N__law_worse 60 (defScope s__law_worse) (defBody s__law_worse) = some b__law_worse := by kernel_rfl
theorem sc__law_worse : FnScope N__law_worse ["_law_one", "_law_other", "_law_sign"] (defScope s__law_worse) := ⟨rfl, rfl, rfl, by decide +kernel, rfl, by decide +kernel, by decide +kernel⟩
def b__law_least : List C := [(.asg (.nm 2) (.lc false (.tup [(.nm 3), (.nm 4)]) (.zip (.idx (.var 0) (.con (.int 1))) (.idx (.var 1) (.con (.int 1)))) none (.fn "_law_worse" [(.var 3), (.var 4), (.neg (.con (.int 1)))]) [3, 4])),
    (.ret (.tup [(.fn "_law_worse" [(.idx (.var 0) (.con (.int 0))), (.idx (.var 1) (.con (.int 0))), (.con (.int 1))]), (.blt .tuple [(.var 2)])]))]
theorem t__law_least : trCs tp N__law_least 60 (defScope s__law_least) (defBody s__law_least) = some b__law_least := by kernel_rfl
theorem sc__law_least : FnScope N__law_least ["_law_one", "_law_other"] (defScope s__law_least) := ⟨rfl, rfl, rfl, by decide +kernel, rfl, by decide +kernel, by decide +kernel⟩
def b__law_is_below : List C := [(.for (.tup [(.nm 2), (.nm 3), (.nm 4)]) (.val (.bin .Add (.lst [(.tup [(.idx (.var 0) (.con (.int 0))), (.idx (.var 1) (.con (.int 0))), (.con (.int 1))])]) (.lc false (.tup [(.nm 2), (.nm 3)]) (.zip (.idx (.var 0) (.con (.int 1))) (.idx (.var 1) (.con (.int 1)))) none (.tup [(.var 2), (.var 3), (.neg (.con (.int 1)))]) [2, 3]))) [(.ife (.and (.cmp .IsNot (.var 3) (.con .non)) (.or (.cmp .Is (.var 2) (.con .non)) (.cmp .Gt (.bin .Mult (.var 4) (.var 2)) (.bin .Mult (.var 4) (.var 3))))) [(.ret (.con (.bl false)))] [])]),
    (.ret (.con (.bl true)))]
theorem t__law_is_below : trCs tp N__law_is_below 60 (defScope s__law_is_below) (defBody s__law_is_below) = some b__law_is_below := by kernel_rfl
theorem sc__law_is_below : FnScope N__law_is_below ["_law_one", "_law_other"] (defScope s__law_is_below) := ⟨rfl, rfl, rfl, by decide +kernel, rfl, by decide +kernel, by decide +kernel⟩
def b__law_near : List C := [(.asg (.tup [(.nm 2), (.nm 3)]) (.var 1)),
    (.asg (.nm 4) (.fn "_law_take" [(.var 0), (.bin .Add (.blt .len [(.var 3)]) (.con (.int 1)))])),
    (.ife (.cmp .Eq (.var 4) (.con (.int 0))) [(.asg (.nm 5) (.ife (.cmp .Is (.var 2) (.con .non)) (.neg (.con (.int 1))) (.blt .max [(.neg (.con (.int 1))), (.bin .Sub (.var 2) (.con (.int 1)))]))), (.asg (.nm 2) (.fn "_law_pick" [(.var 0), (.lst [(.var 2), (.con .non), (.con (.int 7)), (.var 5)])]))] [(.asg (.nm 6) (.ife (.cmp .Is (.idx (.var 3) (.bin .Sub (.var 4) (.con (.int 1)))) (.con .non)) (.con (.int 4)) (.blt .min [(.con (.int 61)), (.bin .Add (.idx (.var 3) (.bin .Sub (.var 4) (.con (.int 1)))) (.con (.int 1)))]))), (.asg (.nm 3) (.bin .Add (.bin .Add (.slc (.var 3) none (some (.bin .Sub (.var 4) (.con (.int 1))))) (.tup [(.fn "_law_pick" [(.var 0), (.lst [(.con .non), (.con (.int 9)), (.var 6)])])])) (.slc (.var 3) (some (.var 4)) none)))]),
    (.ife (.and (.cmp .Is (.var 2) (.con .non)) (.cmp .Eq (.lc false (.nm 7) (.val (.var 3)) (some (.cmp .IsNot (.var 7) (.con .non))) (.var 7) [7]) (.lst []))) [(.asg (.nm 2) (.con (.int 3)))] []),
    (.ret (.tup [(.var 2), (.var 3)]))]
theorem t__law_near : trCs tp N__law_near 60 (defScope s__law_near) (defBody s__law_near) = some b__law_near := by kernel_rfl
theorem sc__law_near : FnScope N__law_near ["_law_box_here", "_law_row_here"] (defScope s__law_near) := ⟨rfl, rfl, rfl, by decide +kernel, rfl, by decide +kernel, by decide +kernel⟩
def b__law_pair_right : List C := [(.asg (.nm 3) (.blt .listO [(.idx (.var 2) (.con (.int 1)))])),
    (.asg (.tup [(.nm 4), (.nm 5)]) (.tup [(.mk "LifeRow" [(.idx (.var 1) (.con (.int 0))), (.idx (.var 1) (.con (.int 1)))]), (.mk "LifeRow" [(.idx (.var 2) (.con (.int 0))), (.var 3)])])),
    (.expr (.bm (.var 3) .append [(.con (.int 7))])),
    (.ife (.not (.tru (.fn "_law_alike" [(.fn "_law_parts_of" [(.bin .BitAnd (.var 4) (.var 5))]), (.fn "_law_least" [(.var 1), (.var 2)])]))) [(.ret (.con (.bl false)))] []),
    (.ife (.not (.tru (.fn "_law_alike" [(.lst [(.cmp .Eq (.var 4) (.var 5)), (.cmp .NotEq (.var 4) (.var 5))]), (.lst [(.cmp .Eq (.var 1) (.var 2)), (.cmp .NotEq (.var 1) (.var 2))])]))) [(.ret (.con (.bl false)))] []),
    (.ife (.not (.tru (.fn "_law_alike" [(.lst [(.met (.var 4) "is_below" [(.var 5)]), (.met (.var 5) "is_below" [(.var 4)])]), (.lst [(.fn "_law_is_below" [(.var 1), (.var 2)]), (.fn "_law_is_below" [(.var 2), (.var 1)])])]))) [(.ret (.con (.bl false)))] []),
    (.asg (.nm 6) (.fn "_law_pick" [(.var 0), (.lst [(.con (.int 0)), (.con (.int 1)), (.con (.int 2)), (.con (.int 30)), (.con (.int 60)), (.con (.int 61)), (.con (.int 62)), (.bin .Pow (.con (.int 10)) (.con (.int 20))), (.fn "_law_take" [(.var 0), (.con (.int 70))])])])),
    (.ife (.not (.tru (.fn "_law_alike" [(.fn "_law_parts_of" [(.bin .Sub (.var 4) (.var 6))]), (.fn "_law_less" [(.var 1), (.var 6)])]))) [(.ret (.con (.bl false)))] []),
    (.asg (.nm 7) (.blt .tuple [(.lc false (.nm 8) (.val (.idx (.var 1) (.con (.int 1)))) none (.fn "_law_pick" [(.var 0), (.lst [(.neg (.con (.int 1))), (.con (.int 0)), (.con (.int 60)), (.bin .Sub (.fn "_law_take" [(.var 0), (.con (.int 62))]) (.con (.int 1)))])]) [8])])),
    (.ife (.not (.tru (.fn "_law_alike" [(.lst [(.cal (.var 4) [(.var 7)]), (.cal (.var 5) [(.var 7)])]), (.lst [(.fn "_law_bound" [(.var 1), (.var 7)]), (.fn "_law_bound" [(.var 2), (.var 7)])])]))) [(.ret (.con (.bl false)))] []),
    (.ife (.cmp .NotEq (.rpr (.var 4)) (.bin .Add (.bin .Add (.bin .Add (.bin .Add (.con (.str "LifeRow(")) (.rpr (.idx (.var 1) (.con (.int 0))))) (.con (.str ", "))) (.rpr (.idx (.var 1) (.con (.int 1))))) (.con (.str ")")))) [(.ret (.con (.bl false)))] []),
    (.for (.nm 9) (.val (.tup [(.rpr (.var 4)), (.var 1), (.con .non), (.con (.int 7))])) [(.ife (.or (.cmp .Eq (.var 4) (.var 9)) (.not (.cmp .NotEq (.var 4) (.var 9)))) [(.ret (.con (.bl false)))] [])]),
    (.ret (.fn "_law_alike" [(.lst [(.fn "_law_parts_of" [(.var 4)]), (.fn "_law_parts_of" [(.var 5)])]), (.lst [(.var 1), (.var 2)])]))]
theorem t__law_pair_right : trCs tp N__law_pair_right 60 (defScope s__law_pair_right) (defBody s__law_pair_right) = some b__law_pair_right := by kernel_rfl
theorem sc__law_pair_right : FnScope N__law_pair_right ["_law_box_here", "_law_one", "_law_other"] (defScope s__law_pair_right) := ⟨rfl, rfl, rfl, by decide +kernel, rfl, by decide +kernel, by decide +kernel⟩
def b_law : List C := [(.for (.nm 1) (.rng [(.blt .max [(.con (.int 2)), (.blt .min [(.con (.int 5)), (.blt .len [(.var 0)])])])]) [(.asg (.nm 2) (.fn "_law_box" [(.var 0), (.var 1)])), (.asg (.nm 3) (.fn "_law_take" [(.var 2), (.con (.int 4))])), (.asg (.nm 4) (.lc true (.nm 5) (.rng [(.con (.int 3))]) none (.fn "_law_row" [(.var 2), (.var 3)]) [5])), (.expr (.bm (.var 4) .append [(.fn "_law_near" [(.var 2), (.idx (.var 4) (.con (.int 0)))])])), (.frz [4] (.for (.nm 6) (.val (.var 4)) [(.for (.nm 7) (.val (.bin .Add (.var 4) (.lst [(.fn "_law_near" [(.var 2), (.var 6)])]))) [(.ife (.not (.tru (.fn "_law_pair_right" [(.var 2), (.var 6), (.var 7)]))) [(.ret (.con (.bl false)))] [])])]))]),
    (.ret (.con (.bl true)))]
theorem t_law : trCs tp N_law 60 (defScope s_law) (defBody s_law) = some b_law := by kernel_rfl
theorem sc_law : FnScope N_law ["_law_script"] (defScope s_law) := ⟨rfl, rfl, rfl, by decide +kernel, rfl, by decide +kernel, by decide +kernel⟩
end K26

set_option maxRecDepth 100000
/-! The tables of the law, def by def -/
namespace K26
open PySem L2 Pm
section
variable (K : PySem.W.Frag) (A : Addr)
def tab (l : List (Str × Fn)) (x : Str) : Option Fn := (l.find? fun p => decide (p.1 = x)).map (·.2)
def T0 : Tb := ⟨K, fun c => if c = "LifeRow" then some A else none⟩
def tys : List Value := [.type "int", .type "tuple", .type "str", .type "NoneType", .type "list", .type "bool"]
def isi0 (t u : Value) : Option Bool := if u = .ref A then (if t = .ref A then some true else if tys.contains t then some false else none) else if t = .ref A ∧ tys.contains u = true then some false else none
def G0 : Gm := { T := T0 K A, fn := fun _ => none, cs := fun _ => none, me := fun _ _ => none, pr := fun _ _ => none, op := fun _ _ => none, cm := fun _ _ => none, fl := fun c f => decide (c = "LifeRow") && (decide (f = "_left") || decide (f = "_lost")), isi := isi0 A, ca := fun _ => none, rp := fun _ => none }
def gInit : Fn := runF (G0 K A) 3 3 b_LifeRow___init__
def gLeft : Fn := runF (G0 K A) 1 1 b_LifeRow_left
def gLost : Fn := runF (G0 K A) 1 1 b_LifeRow_lost
def gLeast : Fn := runF (G0 K A) 2 2 b_least_term
def gGreat : Fn := runF (G0 K A) 2 2 b_greatest_term
def gCall : Fn := runF (G0 K A) 2 N_LifeRow___call__.length b_LifeRow___call__
def gBelow : Fn := runF (G0 K A) 2 N_LifeRow_is_below.length b_LifeRow_is_below
def gEq : Fn := runF (G0 K A) 2 2 b_LifeRow___eq__
def gRepr : Fn := runF (G0 K A) 1 1 b_LifeRow___repr__
def G1a : Gm := { G0 K A with
  cs := fun c => if c = "LifeRow" then some (mkFn "LifeRow" true (gInit K A)) else none
  pr := fun c f => if c = "LifeRow" then (if f = "left" then some (gLeft K A) else if f = "lost" then some (gLost K A) else none) else none }
def G1 : Gm := ((G1a K A).add "least_term" (gLeast K A)).add "greatest_term" (gGreat K A)
def gSub : Fn := runF (G1 K A) 2 N_LifeRow___sub__.length b_LifeRow___sub__
def gAnd : Fn := runF (G1 K A) 2 N_LifeRow___and__.length b_LifeRow___and__
def okC (t : Value) : Bool := decide (t = .ref A)
def okI (t : Value) : Bool := decide (t = .type "int")
def okE (t : Value) : Bool := (Value.ref A :: tys).contains t
def G2 : Gm := { G1 K A with
  ca := fun c => if c = "LifeRow" then some (gCall K A) else none
  rp := fun c => if c = "LifeRow" then some (gRepr K A) else none
  me := fun c f => if c = "LifeRow" then (if f = "is_below" then some (gBelow K A) else none) else none
  op := fun c o => if c = "LifeRow" then (match o with | .BitAnd => some (okArg (T0 K A) (okC A) (gAnd K A)) | .Sub => some (okArg (T0 K A) okI (gSub K A)) | _ => none) else none
  cm := fun c o => if c = "LifeRow" then (match o with | .Eq => some (okArg (T0 K A) (okE A) (gEq K A)) | .NotEq => some (negR (okArg (T0 K A) (okE A) (gEq K A))) | _ => none) else none }
def g_law_box : Fn := runF (G2 K A) 2 N__law_box.length b__law_box
def H_law_box : Gm := (G2 K A).add "_law_box" (g_law_box K A)
def g_law_take : Fn := runF (H_law_box K A) 2 N__law_take.length b__law_take
def H_law_take : Gm := (H_law_box K A).add "_law_take" (g_law_take K A)
def g_law_pick : Fn := runF (H_law_take K A) 2 N__law_pick.length b__law_pick
def H_law_pick : Gm := (H_law_take K A).add "_law_pick" (g_law_pick K A)
def g_law_row : Fn := runF (H_law_pick K A) 2 N__law_row.length b__law_row
def H_law_row : Gm := (H_law_pick K A).add "_law_row" (g_law_row K A)
def g_law_bound : Fn := runF (H_law_row K A) 2 N__law_bound.length b__law_bound
def H_law_bound : Gm := (H_law_row K A).add "_law_bound" (g_law_bound K A)
def g_law_alike : Fn := runF (H_law_bound K A) 2 N__law_alike.length b__law_alike
def H_law_alike : Gm := (H_law_bound K A).add "_law_alike" (g_law_alike K A)
def g_law_parts_of : Fn := runF (H_law_alike K A) 1 N__law_parts_of.length b__law_parts_of
def H_law_parts_of : Gm := (H_law_alike K A).add "_law_parts_of" (g_law_parts_of K A)
def g_law_less : Fn := runF (H_law_parts_of K A) 2 N__law_less.length b__law_less
def H_law_less : Gm := (H_law_parts_of K A).add "_law_less" (g_law_less K A)
def g_law_worse : Fn := runF (H_law_less K A) 3 N__law_worse.length b__law_worse
def H_law_worse : Gm := (H_law_less K A).add "_law_worse" (g_law_worse K A)
def g_law_least : Fn := runF (H_law_worse K A) 2 N__law_least.length b__law_least
def H_law_least : Gm := (H_law_worse K A).add "_law_least" (g_law_least K A)
def g_law_is_below : Fn := runF (H_law_least K A) 2 N__law_is_below.length b__law_is_below
def H_law_is_below : Gm := (H_law_least K A).add "_law_is_below" (g_law_is_below K A)
def g_law_near : Fn := runF (H_law_is_below K A) 2 N__law_near.length b__law_near
def H_law_near : Gm := (H_law_is_below K A).add "_law_near" (g_law_near K A)
def g_law_pair_right : Fn := runF (H_law_near K A) 3 N__law_pair_right.length b__law_pair_right
def H_law_pair_right : Gm := (H_law_near K A).add "_law_pair_right" (g_law_pair_right K A)
def gLaw : Fn := runF (H_law_pair_right K A) 1 N_law.length b_law
end
end K26

set_option maxRecDepth 100000
set_option maxHeartbeats 400000
/-! Reckoning with programs without names -/
namespace Pm
open PySem L2
section
variable {β γ : Type} {G : Gm} {m : Mu} {i j : Int} {ρ : Env}
theorem rs_ok {b : β} {k : β → Mu → Rs γ} : (Rs.ok b m).bind k = k b m := rfl
theorem opD_add : opD G .Add (.int i) (.int j) m = .ok (.int (i + j)) m := rfl
theorem opD_sub : opD G .Sub (.int i) (.int j) m = .ok (.int (i - j)) m := rfl
theorem opD_mulL (h : smallI i = true) : opD G .Mult (.int i) (.int j) m = .ok (.int (i * j)) m := by
  simp [opD, binD, binI, h]
theorem opD_mulR (h : smallI j = true) : opD G .Mult (.int i) (.int j) m = .ok (.int (i * j)) m := by
  simp [opD, binD, binI, h]
theorem opD_mod (h : 0 < j) : opD G .Mod (.int i) (.int j) m = .ok (.int (i % j)) m := by
  simp [opD, binD, binI, h]
theorem opD_fdiv (h : 0 < j) (h2 : j < 1073741824) : opD G .FloorDiv (.int i) (.int j) m = .ok (.int (i / j)) m := by
  simp [opD, binD, binI, h, h2]
theorem cmD_lt : cmD G .Lt (.int i) (.int j) m = .ok (.bl (decide (i < j))) m := rfl
theorem cmD_le : cmD G .LtE (.int i) (.int j) m = .ok (.bl (decide (i ≤ j))) m := rfl
theorem cmD_gt : cmD G .Gt (.int i) (.int j) m = .ok (.bl (decide (j < i))) m := rfl
theorem cmD_ge : cmD G .GtE (.int i) (.int j) m = .ok (.bl (decide (j ≤ i))) m := rfl
theorem eqD_py {a b : D} {x y : PyData} (h1 : a.py = some x) (h2 : b.py = some y) (s1 : SeqAt.shaped x = true) (s2 : SeqAt.shaped y = true) : eqD m a b = some (PyData.eqv x y) := by
  unfold eqD
  rw [h1, h2]
  show (if (SeqAt.shaped x && SeqAt.shaped y) = true then some (PyData.eqv x y) else none) = _
  rw [s1, s2]
  rfl
theorem cmD_eq {a b : D} {x y : PyData} (h1 : a.py = some x) (h2 : b.py = some y) (s1 : SeqAt.shaped x = true) (s2 : SeqAt.shaped y = true) : cmD G .Eq a b m = .ok (.bl (PyData.eqv x y)) m := by
  unfold cmD cmpD
  dsimp only
  rw [eqD_py h1 h2 s1 s2]
theorem cmD_ne {a b : D} {x y : PyData} (h1 : a.py = some x) (h2 : b.py = some y) (s1 : SeqAt.shaped x = true) (s2 : SeqAt.shaped y = true) : cmD G .NotEq a b m = .ok (.bl (!PyData.eqv x y)) m := by
  unfold cmD cmpD
  dsimp only
  rw [eqD_py h1 h2 s1 s2]
  rfl
theorem cmD_eqI : cmD G .Eq (.int i) (.int j) m = .ok (.bl (i == j)) m := cmD_eq (x := .int i) (y := .int j) rfl rfl rfl rfl
theorem cmD_is (d : D) : cmD G .Is d .non m = .ok (.bl d.isNon) m := by cases d <;> rfl
theorem cmD_isNot (d : D) : cmD G .IsNot d .non m = .ok (.bl (!d.isNon)) m := by cases d <;> rfl
theorem idx_own {k : Nat} {ds : List D} {d : D} (h : m[k]? = some (.lst ds)) (e : atI ds i = some d) : liftO m (idxD m (.own k) (.int i)) = .ok d m := by
  simp [idxD, lookS, look, h, e, liftO]
theorem idx_lst {ds : List D} {d : D} (e : atI ds i = some d) : liftO m (idxD m (.lst ds) (.int i)) = .ok d m := by
  simp [idxD, lookS, look, e, liftO]
theorem idx_frl {ds : List D} {d : D} (e : atI ds i = some d) : liftO m (idxD m (.frl ds) (.int i)) = .ok d m := by
  simp [idxD, lookS, look, e, liftO]
theorem idx_tup {ds : List D} {d : D} (e : atI ds i = some d) : liftO m (idxD m (.tup ds) (.int i)) = .ok d m := by
  simp [idxD, lookS, e, liftO]
theorem at0 {α : Type} {x : α} {l : List α} : atI (x :: l) 0 = some x := by
  unfold atI ixN
  rw [if_pos (by decide), if_pos (by simp only [List.length_cons]; omega)]
  rfl
theorem atN {α : Type} {l : List α} {x : α} (n : Nat) (h : l[n]? = some x) : atI l (n : Nat) = some x := by
  have hn := (List.getElem?_eq_some_iff.mp h).1
  unfold atI ixN
  rw [if_pos (by omega), if_pos (by omega)]
  simpa using h
/-- one of the first three, by a drawn place -/
theorem at3 {α : Type} {x y z : α} {l : List α} (h0 : 0 ≤ i) (h3 : i < 3) : ∃ d, atI (x :: y :: z :: l) i = some d ∧ (d = x ∨ d = y ∨ d = z) := by
  obtain rfl | rfl | rfl : i = 0 ∨ i = 1 ∨ i = 2 := by omega
  · exact ⟨x, at0, .inl rfl⟩
  · exact ⟨y, atN (l := x :: y :: z :: l) 1 rfl, .inr (.inl rfl)⟩
  · exact ⟨z, atN (l := x :: y :: z :: l) 2 rfl, .inr (.inr rfl)⟩
theorem atR {α : Type} {l : List α} (h0 : 0 ≤ i) (h : i < l.length) : ∃ d, atI l i = some d ∧ d ∈ l := by
  have hn : i.toNat < l.length := by omega
  have e := atN i.toNat (List.getElem?_eq_getElem hn)
  rw [Int.toNat_of_nonneg h0] at e
  exact ⟨l[i.toNat], e, List.getElem_mem hn⟩
theorem set_get {k : Nat} {o o' : O} (h : m[k]? = some o) : (m.set k o')[k]? = some o' := by
  rw [List.getElem?_set_self', h]
  rfl
theorem set_set {k : Nat} {o o' : O} : (m.set k o).set k o' = m.set k o' := List.set_set ..
theorem bind_bind {δ : Type} {r : Rs β} {f : β → Mu → Rs γ} {g : γ → Mu → Rs δ} : (r.bind f).bind g = r.bind fun b m => (f b m).bind g := by cases r <;> rfl
theorem evCs_app {xs ys : List C} : ∀ {ρ : Env} {m : Mu}, evCs G (xs ++ ys) ρ m = (evCs G xs ρ m).bind fun fl m => match fl with
    | .nx ρ => evCs G ys ρ m
    | fl => .ok fl m := by
  induction xs with
  | nil => intro ρ m; simp only [List.nil_append, evCs, rs_ok]
  | cons c cs ih =>
    intro ρ m
    simp only [List.cons_append, evCs, bind_bind]
    congr 1
    funext fl m
    cases fl with
    | nx ρ => exact ih
    | _ => rfl
theorem evCs_cut (n : Nat) {xs : List C} {ρ : Env} {m : Mu} : evCs G xs ρ m = (evCs G (xs.take n) ρ m).bind fun fl m => match fl with
    | .nx ρ => evCs G (xs.drop n) ρ m
    | fl => .ok fl m := by
  rw [← evCs_app, List.take_append_drop]
/-- a loop whose turns all go on -/
theorem forL_inv {f : D → Env → Mu → Rs Fl} (P : Nat → Env → Mu → Prop) : ∀ (ds : List D) (n : Nat) {ρ : Env} {m : Mu}, (∀ (j : Nat) (d : D) ρ m, ds[j]? = some d → P (n + j) ρ m → ∃ ρ' m', (f d ρ m = .ok (.nx ρ') m' ∨ f d ρ m = .ok (.ct ρ') m') ∧ P (n + j + 1) ρ' m') → P n ρ m → ∃ ρ' m', forL f ds ρ m = .ok (.nx ρ') m' ∧ P (n + ds.length) ρ' m'
  | [], n, ρ, m, _, h => ⟨ρ, m, by unfold forL; rfl, h⟩
  | d :: ds, n, ρ, m, hf, h => by
    obtain ⟨ρ1, m1, e, h1⟩ := hf 0 d ρ m rfl h
    obtain ⟨ρ2, m2, e2, h2⟩ := forL_inv P ds (n + 1) (ρ := ρ1) (m := m1) (fun j d ρ m hj hp => by
      have := hf (j + 1) d ρ m (by simpa using hj) (by rw [show n + (j + 1) = n + 1 + j by omega]; exact hp)
      rw [show n + (j + 1) + 1 = n + 1 + j + 1 by omega] at this
      exact this) h1
    refine ⟨ρ2, m2, ?_, by rw [List.length_cons, show n + (ds.length + 1) = n + 1 + ds.length by omega]; exact h2⟩
    unfold forL
    rcases e with e | e <;> (rw [e]; exact e2)
/-- a comprehension whose elements leave the store as it wants -/
theorem lcL_inv {f : D → Mu → Rs (Option D)} (P : Nat → List D → Mu → Prop) : ∀ (ds : List D) (n : Nat) {acc : List D} {m : Mu}, acc.length + ds.length ≤ sizeLine → (∀ (j : Nat) (d : D) acc m, ds[j]? = some d → P (n + j) acc m → ∃ o m', f d m = .ok o m' ∧ P (n + j + 1) (acc ++ o.toList) m') → P n acc m →
    ∃ xs m', lcL f ds acc m = .ok xs m' ∧ P (n + ds.length) xs m'
  | [], n, acc, m, _, _, h => ⟨acc, m, by unfold lcL; rfl, h⟩
  | d :: ds, n, acc, m, hz, hf, h => by
    obtain ⟨o, m1, e, h1⟩ := hf 0 d acc m rfl h
    have hz' : (acc ++ o.toList).length + ds.length ≤ sizeLine := by
      rw [List.length_append]
      have : o.toList.length ≤ 1 := by cases o <;> simp
      rw [List.length_cons] at hz
      omega
    obtain ⟨xs, m2, e2, h2⟩ := lcL_inv P ds (n + 1) (acc := acc ++ o.toList) (m := m1) hz' (fun j d acc m hj hp => by
      have := hf (j + 1) d acc m (by simpa using hj) (by rw [show n + (j + 1) = n + 1 + j by omega]; exact hp)
      rw [show n + (j + 1) + 1 = n + 1 + j + 1 by omega] at this
      exact this) h1
    refine ⟨xs, m2, ?_, by rw [List.length_cons, show n + (ds.length + 1) = n + 1 + ds.length by omega]; exact h2⟩
    unfold lcL
    rw [e, rs_ok]
    cases o with
    | none => rw [show acc ++ (none : Option D).toList = acc by simp] at e2; exact e2
    | some x =>
      show (if acc.length < sizeLine then lcL f ds (acc ++ [x]) m1 else .no) = _
      rw [if_pos (by rw [List.length_cons] at hz; omega)]
      exact e2
/-- a comprehension that changes nothing -/
theorem lcL_pure {f : D → Mu → Rs (Option D)} {φ : D → Option D} : ∀ (ds : List D) {acc : List D}, acc.length + ds.length ≤ sizeLine → (∀ d ∈ ds, f d m = .ok (φ d) m) → lcL f ds acc m = .ok (acc ++ ds.filterMap φ) m
  | [], acc, _, _ => by unfold lcL; simp
  | d :: ds, acc, hz, hf => by
    unfold lcL
    rw [hf d List.mem_cons_self, rs_ok]
    rw [List.length_cons] at hz
    cases e : φ d with
    | none =>
      have := lcL_pure ds (acc := acc) (by omega) fun x hx => hf x (List.mem_cons_of_mem _ hx)
      rw [List.filterMap_cons, e]
      exact this
    | some x =>
      have := lcL_pure ds (acc := acc ++ [x]) (by rw [List.length_append]; simp only [List.length_cons, List.length_nil]; omega) fun x hx => hf x (List.mem_cons_of_mem _ hx)
      show (if acc.length < sizeLine then lcL f ds (acc ++ [x]) m else .no) = _
      rw [if_pos (by omega), this, List.filterMap_cons, e, List.append_assoc]
      rfl
theorem evCs_one {c : C} {m : Mu} : evCs G [c] ρ m = evC G c ρ m := by
  unfold evCs
  cases h : evC G c ρ m with
  | ok fl m1 => cases fl <;> (unfold evCs; rfl)
  | ex x m1 => rfl
  | no => rfl
theorem evC_for {g : Gt} {it : It} {b : List C} {m : Mu} : evC G (.for g it b) ρ m = (evI G it ρ m).bind fun ds m => forL (fun d ρ m => (evG G g d ρ m).bind fun ρ m => evCs G b ρ m) ds ρ m := by unfold evC; rfl
theorem evE_var {i : Nat} {d : D} {m : Mu} (h : ρ[i]? = some (some d)) : evE G (.var i) ρ m = .ok d m := by
  unfold evE
  rw [h]
theorem rngD_nat {n : Nat} (h : n < 1000) : rngD [.int (n : Int)] = some ((List.range n).map fun (i : Nat) => D.int (0 + (i : Int))) := by
  have h2 : (n : Int) < 2 ^ 62 ∧ -(2 ^ 62) ≤ (n : Int) := by omega
  unfold rngD
  split
  · rename_i k e
    cases e
    rw [if_pos h2, Int.toNat_natCast]
  · rename_i e
    cases e
  · rename_i h3 h4
    exact absurd rfl (h3 _)
end
end Pm

set_option maxRecDepth 100000
set_option maxHeartbeats 1000000
/-! Whether two values are equal with the same kinds throughout: a value is so with itself -/
namespace Pm
open PySem L2
mutual
/-- plain data -/
def D.pl : D → Bool
  | .non => true | .bl _ => true | .int _ => true | .str y => SeqAt.shaped (.str y)
  | .lst ds => D.pls ds
  | .tup ds => D.pls ds
  | _ => false
def D.pls : List D → Bool
  | [] => true
  | d :: ds => D.pl d && D.pls ds
end
mutual
def D.sz : D → Nat
  | .lst ds => D.szs ds + 1
  | .tup ds => D.szs ds + 1
  | _ => 1
def D.szs : List D → Nat
  | [] => 0
  | d :: ds => D.sz d + D.szs ds
end
theorem D.sz_pos : ∀ d : D, 1 ≤ d.sz
  | .lst ds => by unfold D.sz; omega
  | .tup ds => by unfold D.sz; omega
  | .non => by unfold D.sz; omega
  | .bl _ => by unfold D.sz; omega
  | .int _ => by unfold D.sz; omega
  | .str _ => by unfold D.sz; omega
  | .frl _ => by unfold D.sz; omega
  | .ins _ _ => by unfold D.sz; omega
  | .own _ => by unfold D.sz; omega
  | .ty _ => by unfold D.sz; omega
  | .cls _ => by unfold D.sz; omega
theorem D.szs_len : ∀ ds : List D, ds.length ≤ D.szs ds
  | [] => Nat.le_refl _
  | d :: ds => by
    unfold D.szs
    have := D.sz_pos d
    have := D.szs_len ds
    rw [List.length_cons]; omega
theorem D.szs_app : ∀ (ds es : List D), D.szs (ds ++ es) = D.szs ds + D.szs es
  | [], es => by rw [List.nil_append, show D.szs [] = 0 by simp [D.szs], Nat.zero_add]
  | d :: ds, es => by
    rw [List.cons_append, show D.szs (d :: (ds ++ es)) = d.sz + D.szs (ds ++ es) by simp [D.szs], show D.szs (d :: ds) = d.sz + D.szs ds by simp [D.szs], D.szs_app ds es]
    omega
theorem D.pls_app : ∀ (ds es : List D), D.pls (ds ++ es) = (D.pls ds && D.pls es)
  | [], es => by rw [List.nil_append, show D.pls [] = true by simp [D.pls], Bool.true_and]
  | d :: ds, es => by
    rw [List.cons_append, show D.pls (d :: (ds ++ es)) = (d.pl && D.pls (ds ++ es)) by simp [D.pls], show D.pls (d :: ds) = (d.pl && D.pls ds) by simp [D.pls], D.pls_app ds es, Bool.and_assoc]
def bAlike : List C := [(.asg (.nm 2) (.lsto [(.tup [(.var 0), (.var 1)])])),
    (.whl (.cmp .NotEq (.var 2) (.lst [])) [(.asg (.tup [(.nm 3), (.nm 4)]) (.bm (.var 2) .pop [])), (.ife (.tru (.blt .isi [(.var 4), (.tup [(.con (.ty "tuple")), (.con (.ty "list"))])])) [(.ife (.or (.cmp .NotEq (.blt .isi [(.var 3), (.con (.ty "tuple"))]) (.blt .isi [(.var 4), (.con (.ty "tuple"))])) (.cmp .NotEq (.blt .isi [(.var 3), (.con (.ty "list"))]) (.blt .isi [(.var 4), (.con (.ty "list"))]))) [(.ret (.con (.bl false)))] []), (.ife (.cmp .NotEq (.blt .len [(.var 3)]) (.blt .len [(.var 4)])) [(.ret (.con (.bl false)))] []), (.expr (.bm (.var 2) .extend [(.lzp (.var 3) (.var 4))]))] [(.ife (.or (.tru (.blt .isi [(.var 3), (.tup [(.con (.ty "tuple")), (.con (.ty "list"))])])) (.or (.cmp .NotEq (.blt .isi [(.var 3), (.con (.ty "bool"))]) (.blt .isi [(.var 4), (.con (.ty "bool"))])) (.cmp .NotEq (.var 3) (.var 4)))) [(.ret (.con (.bl false)))] [])])]),
    (.ret (.con (.bl true)))]
def D.leaf : D → Bool
  | .non => true | .bl _ => true | .int _ => true | .str y => SeqAt.shaped (.str y)
  | _ => false
def D.seqO : D → Option (List D)
  | .lst ds => some ds
  | .tup ds => some ds
  | _ => none
theorem leaf_isSeq {G : Gm} {m : Mu} {d : D} (h : d.leaf = true) : isiD G m d (.tup [.ty "tuple", .ty "list"]) = some false := by
  cases d <;> first | (simp [D.leaf] at h; done) | rfl
theorem leaf_isBool {G : Gm} {m : Mu} {d : D} (h : d.leaf = true) : ∃ b, isiD G m d (.ty "bool") = some b := by
  cases d <;> first | (simp [D.leaf] at h; done) | exact ⟨_, rfl⟩
theorem leaf_ne {G : Gm} {m : Mu} {d : D} (h : d.leaf = true) : cmD G .NotEq d d m = .ok (.bl false) m := by
  cases d <;> first | (simp [D.leaf] at h; done) | skip
  · exact (cmD_ne (x := .none) (y := .none) rfl rfl rfl rfl).trans (by simp [PyData.eqv])
  · exact (cmD_ne (x := .bool _) (y := .bool _) rfl rfl rfl rfl).trans (by simp [PyData.eqv])
  · exact (cmD_ne (x := .int _) (y := .int _) rfl rfl rfl rfl).trans (by simp [PyData.eqv])
  · exact (cmD_ne (x := .str _) (y := .str _) rfl rfl (by simpa [D.leaf] using h) (by simpa [D.leaf] using h)).trans (by simp [PyData.eqv])
theorem ne_bl {G : Gm} {m : Mu} (b : Bool) : cmD G .NotEq (.bl b) (.bl b) m = .ok (.bl false) m := leaf_ne rfl
theorem ne_int {G : Gm} {m : Mu} (b : Int) : cmD G .NotEq (.int b) (.int b) m = .ok (.bl false) m := leaf_ne rfl
theorem ne_nil {G : Gm} {m : Mu} {k : Nat} {ds : List D} (h : m[k]? = some (.lst ds)) : cmD G .NotEq (.own k) (.lst []) m = .ok (.bl (!ds.isEmpty)) m := by
  simp [cmD, cmpD, eqD, D.py, lookT, h]
/-- a pair of the same -/
def twin (d : D) : D := .tup [d, d]
theorem zip_twin : ∀ ds : List D, List.zipWith (fun x y => D.tup [x, y]) ds ds = ds.map twin
  | [] => rfl
  | d :: ds => by rw [List.zipWith_cons_cons, zip_twin ds]; rfl
def alT (G : Gm) : Pm.Env → Mu → Rs D := fun ρ m => evE G (.cmp .NotEq (.var 2) (.lst [])) ρ m
def alF (G : Gm) : Pm.Env → Mu → Rs Fl := fun ρ m => evCs G [(.asg (.tup [(.nm 3), (.nm 4)]) (.bm (.var 2) .pop [])), (.ife (.tru (.blt .isi [(.var 4), (.tup [(.con (.ty "tuple")), (.con (.ty "list"))])])) [(.ife (.or (.cmp .NotEq (.blt .isi [(.var 3), (.con (.ty "tuple"))]) (.blt .isi [(.var 4), (.con (.ty "tuple"))])) (.cmp .NotEq (.blt .isi [(.var 3), (.con (.ty "list"))]) (.blt .isi [(.var 4), (.con (.ty "list"))]))) [(.ret (.con (.bl false)))] []), (.ife (.cmp .NotEq (.blt .len [(.var 3)]) (.blt .len [(.var 4)])) [(.ret (.con (.bl false)))] []), (.expr (.bm (.var 2) .extend [(.lzp (.var 3) (.var 4))]))] [(.ife (.or (.tru (.blt .isi [(.var 3), (.tup [(.con (.ty "tuple")), (.con (.ty "list"))])])) (.or (.cmp .NotEq (.blt .isi [(.var 3), (.con (.ty "bool"))]) (.blt .isi [(.var 4), (.con (.ty "bool"))])) (.cmp .NotEq (.var 3) (.var 4)))) [(.ret (.con (.bl false)))] [])])] ρ m
theorem isi_b {G : Gm} {m : Mu} {x c : D} {b : Bool} (h : isiD G m x c = some b) : bltD G .isi [x, c] m = .ok (.bl b) m := by
  unfold bltD
  simp only [h]
theorem alT_at (G : Gm) {k : Nat} {d0 d1 : D} {x3 x4 : Option D} {m : Mu} {ds : List D} (hm : m[k]? = some (.lst ds)) : alT G [some d0, some d1, some (.own k), x3, x4] m = .ok (.bl (!ds.isEmpty)) m := by
  have z0 : (0 ≤ sizeLine) = True := by decide
  unfold alT
  simp only [evE, evEs, rs_ok, List.getElem?_cons_zero, List.getElem?_cons_succ, List.length_nil, z0, if_true, ne_nil hm]
theorem alF_at (G : Gm) {k : Nat} {d0 d1 e : D} {x3 x4 : Option D} {m : Mu} {S : List D} (hm : m[k]? = some (.lst (S ++ [twin e]))) (hp : e.pl = true) (hz : S.length + e.sz ≤ 1000000) :
    ∃ ds, D.szs ds + 1 ≤ e.sz ∧ D.pls ds = true ∧ alF G [some d0, some d1, some (.own k), x3, x4] m = .ok (.nx [some d0, some d1, some (.own k), some e, some e]) (m.set k (.lst (S ++ ds.map twin))) := by
  have z1 : (0 + 1 + 1 ≤ sizeLine) = True := by decide
  have hpop : mtD .pop (.own k) [] m = .ok (twin e) (m.set k (.lst S)) := by
    simp only [mtD, hm]
    rw [show (S ++ [twin e])[(S ++ [twin e]).length - 1]? = some (twin e) by simp, List.dropLast_concat]
  have hlk : lookT m (.own k) = some (S ++ [twin e]) := by simp [lookT, hm]
  have hs : (m.set k (.lst S))[k]? = some (.lst S) := set_get hm
  have hl2 : lookT (m.set k (.lst S)) (.own k) = some S := by simp [lookT, hs]
  by_cases hleaf : e.leaf = true
  · obtain ⟨b, hb⟩ := leaf_isBool (G := G) (m := m.set k (.lst S)) hleaf
    refine ⟨[], by have := D.sz_pos e; simp [D.szs]; omega, by simp [D.pls], ?_⟩
    unfold alF
    simp only [evCs, evC, evE, evEs, evG, evGs, rs_ok, List.getElem?_cons_zero, List.getElem?_cons_succ, hlk, hpop, twin, List.length_cons, List.length_nil, if_true, List.set_cons_succ, List.set_cons_zero, z1, isi_b (leaf_isSeq hleaf), truD, liftB, isi_b hb, ne_bl, leaf_ne hleaf, List.map_nil, List.append_nil]
  · obtain ⟨ds, hds, isT, isL, isS⟩ : ∃ ds, e.seqO = some ds ∧ (∃ b, ∀ m, isiD G m e (.ty "tuple") = some b) ∧ (∃ b, ∀ m, isiD G m e (.ty "list") = some b) ∧ (∀ m, isiD G m e (.tup [.ty "tuple", .ty "list"]) = some true) := by
      cases e <;> first | (simp [D.leaf] at hleaf; done) | (simp [D.pl] at hp; done) | exact ⟨_, rfl, ⟨_, fun _ => rfl⟩, ⟨_, fun _ => rfl⟩, fun _ => rfl⟩ | (rename_i y; exact absurd (by simpa [D.pl, D.leaf] using hp) hleaf)
    obtain ⟨bt, isT⟩ := isT
    obtain ⟨bl, isL⟩ := isL
    obtain ⟨e1, e2⟩ : D.szs ds + 1 = e.sz ∧ D.pls ds = true := by
      cases e <;> first | (simp [D.seqO] at hds; done) | skip
      · simp only [D.seqO, Option.some.injEq] at hds; subst hds; exact ⟨by simp [D.sz], by simpa [D.pl] using hp⟩
      · simp only [D.seqO, Option.some.injEq] at hds; subst hds; exact ⟨by simp [D.sz], by simpa [D.pl] using hp⟩
    have hlS : ∀ m, lookS m e = some ds := fun m => by
      cases e <;> first | (simp [D.seqO] at hds; done) | (simp only [D.seqO, Option.some.injEq] at hds; subst hds; rfl)
    have hlen : ∀ m, bltD G .len [e] m = .ok (.int ds.length) m := fun m => by
      cases e <;> first | (simp [D.seqO] at hds; done) | (simp only [D.seqO, Option.some.injEq] at hds; subst hds; rfl)
    have b1 := D.szs_len ds
    have zz : 1000000 < sizeLine := by decide
    refine ⟨ds, by omega, e2, ?_⟩
    have hext : mtD .extend (.own k) [.lst (ds.map twin)] (m.set k (.lst S)) = .ok .non (m.set k (.lst (S ++ ds.map twin))) := by
      simp only [mtD, hs, lookT, List.length_map, set_set]
      rw [if_pos (by omega)]
    have hzl : (ds.length < sizeLine) = True := by simp only [eq_iff_iff, iff_true]; omega
    have hzp : List.zipWith (fun x y => D.tup [x, y]) ds ds = ds.map twin := zip_twin ds
    unfold alF
    simp only [evCs, evC, evE, evEs, evG, evGs, rs_ok, List.getElem?_cons_zero, List.getElem?_cons_succ, hlk, hpop, show twin e = .tup [e, e] from rfl, List.length_cons, List.length_nil, if_true, List.set_cons_succ, List.set_cons_zero, z1, isi_b (isS _), isi_b (isT _), isi_b (isL _), truD, liftB, ne_bl, hlen, ne_int, hl2, hlS, hzl, true_and, if_true, hzp, hext]
theorem alike_loop (G : Gm) (k : Nat) (d0 d1 : D) : ∀ (n : Nat) (S : List D) (x3 x4 : Option D) (m : Mu), D.pls S = true → D.szs S < n → D.szs S ≤ 1000000 → m[k]? = some (.lst (S.map twin)) →
    ∃ x3' x4', whlL (alT G) (alF G) n [some d0, some d1, some (.own k), x3, x4] m = .ok (.nx [some d0, some d1, some (.own k), x3', x4']) (m.set k (.lst []))
  | 0, S, _, _, _, _, h, _, _ => by omega
  | n + 1, S, x3, x4, m, hp, hn, hz, hm => by
    rcases List.eq_nil_or_concat S with rfl | ⟨S', e, rfl⟩
    · refine ⟨x3, x4, ?_⟩
      unfold whlL
      rw [alT_at G hm, rs_ok]
      simp only [List.map_nil, List.isEmpty_nil, Bool.not_true]
      rw [show m.set k (.lst []) = m from ?_]
      obtain ⟨hk, e⟩ := List.getElem?_eq_some_iff.mp hm
      exact List.ext_getElem (by simp) fun i h1 h2 => by
        by_cases hi : k = i
        · subst hi; rw [List.getElem_set_self]; exact e.symm
        · rw [List.getElem_set_ne hi]
    · rw [List.concat_eq_append] at *
      rw [D.szs_app, show D.szs [e] = e.sz by simp [D.szs]] at hn hz
      rw [D.pls_app, Bool.and_eq_true] at hp
      have hpe : e.pl = true := by have := hp.2; simpa [D.pls] using this
      have hmm : m[k]? = some (.lst (S'.map twin ++ [twin e])) := by rw [hm, List.map_append]; rfl
      have hne : (!((S' ++ [e]).map twin).isEmpty) = true := by simp
      have b2 := D.szs_len S'
      obtain ⟨ds, h1, h2, h3⟩ := alF_at G (d0 := d0) (d1 := d1) (x3 := x3) (x4 := x4) hmm hpe (by rw [List.length_map]; omega)
      obtain ⟨x3', x4', ih⟩ := alike_loop G k d0 d1 n (S' ++ ds) (some e) (some e) (m.set k (.lst (S'.map twin ++ ds.map twin))) (by rw [D.pls_app, hp.1, h2]; rfl) (by rw [D.szs_app]; omega) (by rw [D.szs_app]; omega) (by rw [List.map_append]; exact set_get hm)
      refine ⟨x3', x4', ?_⟩
      unfold whlL
      rw [alT_at G hm, rs_ok, hne]
      simp only [h3, rs_ok]
      rw [ih, set_set]
theorem alike_refl (G : Gm) {d : D} {m : Mu} (hp : d.pl = true) (hz : d.sz ≤ 1000000) : runF G 2 5 bAlike [d, d] m = .ok (.bl true) (m ++ [.lst []]) := by
  obtain ⟨x3, x4, e⟩ := alike_loop G m.length d d fuelW [d] none none (m ++ [.lst [twin d]]) (by simp [D.pls, hp]) (by simp [D.szs, fuelW]; omega) (by simp [D.szs]; omega) (by simp)
  have z1 : (0 + 1 + 1 ≤ sizeLine) = True := by decide
  have z2 : (0 + 1 ≤ sizeLine) = True := by decide
  have hw : ∀ ρ m, evC G (bAlike.getD 1 .pas) ρ m = whlL (alT G) (alF G) fuelW ρ m := fun ρ m => by unfold bAlike; rfl
  unfold runF
  rw [if_pos (show [d, d].length = 2 from rfl), show bAlike = [bAlike.getD 0 .pas, bAlike.getD 1 .pas, bAlike.getD 2 .pas] from rfl]
  rw [evCs, show evC G (bAlike.getD 0 .pas) ([d, d].map some ++ List.replicate (5 - [d, d].length) none) m = .ok (.nx [some d, some d, some (.own m.length), none, none]) (m ++ [.lst [twin d]]) from ?_]
  · simp only [rs_ok]
    rw [show ∀ ρ mm, evCs G [bAlike.getD 1 .pas, bAlike.getD 2 .pas] ρ mm = (evC G (bAlike.getD 1 .pas) ρ mm).bind fun fl m => match fl with
      | .nx ρ => evCs G [bAlike.getD 2 .pas] ρ m
      | fl => .ok fl m from fun _ _ => by (rw [evCs]; try rfl), hw, e]
    simp only [rs_ok, bAlike, List.getD_cons_succ, List.getD_cons_zero, evCs, evC, evE]
    congr 1
    rw [List.set_append_right _ _ (Nat.le_refl _), Nat.sub_self]
    rfl
  · unfold bAlike
    simp only [List.getD_cons_zero, evC, evE, evEs, evG, rs_ok, List.map_cons, List.map_nil, List.length_cons, List.length_nil, List.cons_append, List.nil_append, List.getElem?_cons_zero, List.getElem?_cons_succ, z1, z2, if_true, Nat.zero_add, Nat.reduceAdd, Nat.reduceSub, List.replicate_succ, List.replicate_zero, List.set_cons_succ, List.set_cons_zero, twin]
end Pm

set_option maxRecDepth 100000
set_option maxHeartbeats 1000000
/-! Comprehensions that change nothing -/
namespace Pm
open PySem L2
section
variable {G : Gm} {m : Mu} {ρ : Env}
theorem evCs_nx {c : C} {cs : List C} {ρ' : Env} {m' : Mu} (h : evC G c ρ m = .ok (.nx ρ') m') : evCs G (c :: cs) ρ m = evCs G cs ρ' m' := by
  rw [evCs, h]
  rfl
theorem evCs_rt {c : C} {cs : List C} {d : D} {m' : Mu} (h : evC G c ρ m = .ok (.rt d) m') : evCs G (c :: cs) ρ m = .ok (.rt d) m' := by
  rw [evCs, h]
  rfl
/-- one turn of a comprehension -/
def lcT (G : Gm) (g : Gt) (c : Option E) (elt : E) (ρ : Env) (d : D) (m : Mu) : Rs (Option D) := (evG G g d ρ m).bind fun ρ2 m => (evT G c ρ2 m).bind fun b m =>
      if b then (evE G elt ρ2 m).bind fun x m => .ok (some x) m else .ok none m
theorem evE_lc {o : Bool} {g : Gt} {it : It} {c : Option E} {elt : E} {ws : List Nat} : evE G (.lc o g it c elt ws) ρ m = (evI G it ρ m).bind fun ds m => (lcL (lcT G g c elt (wipeD ρ ws)) ds [] m).noX.bind fun xs m => if o then .ok (.own m.length) (m ++ [.lst xs]) else .ok (.lst xs) m := by
  unfold evE
  rfl
theorem lc_pure {g : Gt} {it : It} {c : Option E} {elt : E} {ws : List Nat} {ds : List D} (φ : D → Option D) (hi : evI G it ρ m = .ok ds m) (hz : ds.length ≤ sizeLine) (hf : ∀ d ∈ ds, lcT G g c elt (wipeD ρ ws) d m = .ok (φ d) m) : evE G (.lc false g it c elt ws) ρ m = .ok (.lst (ds.filterMap φ)) m := by
  rw [evE_lc, hi, rs_ok, lcL_pure (φ := φ) ds (by simpa using hz) hf]
  rfl
theorem lc_pureO {g : Gt} {it : It} {c : Option E} {elt : E} {ws : List Nat} {ds : List D} (φ : D → Option D) (hi : evI G it ρ m = .ok ds m) (hz : ds.length ≤ sizeLine) (hf : ∀ d ∈ ds, lcT G g c elt (wipeD ρ ws) d m = .ok (φ d) m) : evE G (.lc true g it c elt ws) ρ m = .ok (.own m.length) (m ++ [.lst (ds.filterMap φ)]) := by
  rw [evE_lc, hi, rs_ok, lcL_pure (φ := φ) ds (by simpa using hz) hf]
  rfl
/-- without a test: a map -/
theorem lc_map {g : Gt} {it : It} {elt : E} {ws : List Nat} {ds : List D} (φ : D → D) (hi : evI G it ρ m = .ok ds m) (hz : ds.length ≤ sizeLine) (hf : ∀ d ∈ ds, (evG G g d (wipeD ρ ws) m).bind (fun ρ2 m => evE G elt ρ2 m) = .ok (φ d) m) : evE G (.lc false g it none elt ws) ρ m = .ok (.lst (ds.map φ)) m := by
  have := lc_pure (G := G) (ρ := ρ) (m := m) (g := g) (c := none) (elt := elt) (ws := ws) (fun d => some (φ d)) hi hz fun d hd => by
    have h := hf d hd
    unfold lcT
    cases e : evG G g d (wipeD ρ ws) m with
    | ok ρ2 m2 =>
      rw [e, rs_ok] at h
      rw [rs_ok]
      unfold evT
      rw [rs_ok]
      show (evE G elt ρ2 m2).bind _ = _
      rw [h, rs_ok]
    | ex x m2 => rw [e] at h; cases h
    | no => rw [e] at h; cases h
  rw [this]
  simp
theorem lcL_src {α : Type} {f : D → Mu → Rs (Option D)} {ψ : α → D} {φ : α → Option D} : ∀ (src : List α) {acc : List D}, acc.length + src.length ≤ sizeLine → (∀ a ∈ src, f (ψ a) m = .ok (φ a) m) → lcL f (src.map ψ) acc m = .ok (acc ++ src.filterMap φ) m
  | [], acc, _, _ => by unfold lcL; simp
  | d :: ds, acc, hz, hf => by
    rw [List.map_cons]
    unfold lcL
    rw [hf d List.mem_cons_self, rs_ok]
    rw [List.length_cons] at hz
    cases e : φ d with
    | none =>
      have := lcL_src ds (acc := acc) (by omega) fun x hx => hf x (List.mem_cons_of_mem _ hx)
      rw [List.filterMap_cons, e]
      exact this
    | some x =>
      have := lcL_src ds (acc := acc ++ [x]) (by rw [List.length_append]; simp only [List.length_cons, List.length_nil]; omega) fun x hx => hf x (List.mem_cons_of_mem _ hx)
      show (if acc.length < sizeLine then lcL f (ds.map ψ) (acc ++ [x]) m else .no) = _
      rw [if_pos (by omega), this, List.filterMap_cons, e, List.append_assoc]
      rfl
theorem lc_src {α : Type} {g : Gt} {it : It} {c : Option E} {elt : E} {ws : List Nat} (src : List α) (ψ : α → D) (φ : α → Option D) (hi : evI G it ρ m = .ok (src.map ψ) m) (hz : src.length ≤ sizeLine) (hf : ∀ a ∈ src, lcT G g c elt (wipeD ρ ws) (ψ a) m = .ok (φ a) m) : evE G (.lc false g it c elt ws) ρ m = .ok (.lst (src.filterMap φ)) m := by
  rw [evE_lc, hi, rs_ok, lcL_src (φ := φ) src (by simpa using hz) hf]
  rfl
theorem lc_srcO {α : Type} {g : Gt} {it : It} {c : Option E} {elt : E} {ws : List Nat} (src : List α) (ψ : α → D) (φ : α → Option D) (hi : evI G it ρ m = .ok (src.map ψ) m) (hz : src.length ≤ sizeLine) (hf : ∀ a ∈ src, lcT G g c elt (wipeD ρ ws) (ψ a) m = .ok (φ a) m) : evE G (.lc true g it c elt ws) ρ m = .ok (.own m.length) (m ++ [.lst (src.filterMap φ)]) := by
  rw [evE_lc, hi, rs_ok, lcL_src (φ := φ) src (by simpa using hz) hf]
  rfl
theorem lc_srcM {α : Type} {g : Gt} {it : It} {elt : E} {ws : List Nat} (src : List α) (ψ φ : α → D) (hi : evI G it ρ m = .ok (src.map ψ) m) (hz : src.length ≤ sizeLine) (hf : ∀ a ∈ src, (evG G g (ψ a) (wipeD ρ ws) m).bind (fun ρ2 m => evE G elt ρ2 m) = .ok (φ a) m) : evE G (.lc false g it none elt ws) ρ m = .ok (.lst (src.map φ)) m := by
  have := lc_src (G := G) (ρ := ρ) (m := m) (g := g) (c := none) (elt := elt) (ws := ws) src ψ (fun d => some (φ d)) hi hz fun d hd => by
    have h := hf d hd
    unfold lcT
    cases e : evG G g (ψ d) (wipeD ρ ws) m with
    | ok ρ2 m2 =>
      rw [e, rs_ok] at h
      rw [rs_ok]
      unfold evT
      rw [rs_ok]
      show (evE G elt ρ2 m2).bind _ = _
      rw [h, rs_ok]
    | ex x m2 => rw [e] at h; cases h
    | no => rw [e] at h; cases h
  rw [this]
  simp
theorem evI_tup {e : E} {ds : List D} (h : evE G e ρ m = .ok (.tup ds) m) : evI G (.val e) ρ m = .ok ds m := by
  unfold evI
  rw [h, rs_ok]
theorem evI_lst {e : E} {ds : List D} (h : evE G e ρ m = .ok (.lst ds) m) : evI G (.val e) ρ m = .ok ds m := by
  unfold evI
  rw [h, rs_ok]
theorem evI_zip {a b : E} {xs ys : List D} (h1 : evE G a ρ m = .ok (.tup xs) m) (h2 : evE G b ρ m = .ok (.tup ys) m) : evI G (.zip a b) ρ m = .ok (List.zipWith (fun x y => .tup [x, y]) xs ys) m := by
  unfold evI
  rw [h1, rs_ok, h2, rs_ok]
  rfl
/-- a loop that looks for something -/
theorem forL_find {α : Type} {f : D → Env → Mu → Rs Fl} {ψ : α → D} {bad : α → Bool} {d : D} (I : Env → Prop) : ∀ (src : List α) {ρ : Env}, (∀ a ∈ src, ∀ ρ, I ρ → (bad a = true → f (ψ a) ρ m = .ok (.rt d) m) ∧ (bad a = false → ∃ ρ', f (ψ a) ρ m = .ok (.nx ρ') m ∧ I ρ')) → I ρ →
    (src.any bad = true → forL f (src.map ψ) ρ m = .ok (.rt d) m) ∧ (src.any bad = false → ∃ ρ', forL f (src.map ψ) ρ m = .ok (.nx ρ') m ∧ I ρ')
  | [], ρ, _, h => ⟨fun e => by simp at e, fun _ => ⟨ρ, by unfold forL; rfl, h⟩⟩
  | a :: src, ρ, hf, h => by
    have hb := hf a List.mem_cons_self ρ h
    rw [List.any_cons, List.map_cons]
    cases e : bad a with
    | true =>
      refine ⟨fun _ => ?_, fun q => by simp at q⟩
      unfold forL
      rw [hb.1 e]
      rfl
    | false =>
      obtain ⟨ρ', e1, h1⟩ := hb.2 e
      have ih := forL_find (bad := bad) (d := d) I src (ρ := ρ') (fun a ha => hf a (List.mem_cons_of_mem _ ha)) h1
      rw [Bool.false_or]
      refine ⟨fun q => ?_, fun q => ?_⟩
      · unfold forL
        rw [e1, rs_ok]
        exact ih.1 q
      · obtain ⟨ρ2, e2, h2⟩ := ih.2 q
        refine ⟨ρ2, ?_, h2⟩
        unfold forL
        rw [e1, rs_ok]
        exact e2
end
end Pm

set_option maxRecDepth 100000
set_option maxHeartbeats 1000000
namespace K26
open PySem L2 Pm
variable (K : PySem.W.Frag) (A : Addr)
theorem take_ok {m : Mu} {k : Nat} {a b c n : Int} (h : m[k]? = some (.lst [.int a, .int b, .int c])) (hn : 1 ≤ n) (hn2 : n < 1073741824) : ∃ r a' b' c', g_law_take K A [.own k, .int n] m = .ok (.int r) (m.set k (.lst [.int a', .int b', .int c'])) ∧ 0 ≤ r ∧ r < n := by
  have hn0 : 0 < n := by omega
  have i0 : ∀ {x y z : D} {mm : Mu}, mm[k]? = some (.lst [x, y, z]) → liftO mm (idxD mm (.own k) (.int 0)) = .ok x mm := fun h => idx_own h at0
  have i1 : ∀ {x y z : D} {mm : Mu}, mm[k]? = some (.lst [x, y, z]) → liftO mm (idxD mm (.own k) (.int 1)) = .ok y mm := fun h => idx_own h (atN 1 rfl)
  have i2 : ∀ {x y z : D} {mm : Mu}, mm[k]? = some (.lst [x, y, z]) → liftO mm (idxD mm (.own k) (.int 2)) = .ok z mm := fun h => idx_own h (atN 2 rfl)
  have x0 : ixN 3 0 = some 0 := rfl
  have x1 : ixN 3 1 = some 1 := rfl
  have x2 : ixN 3 2 = some 2 := rfl
  unfold g_law_take runF b__law_take
  by_cases ha : 0 < a
  · refine ⟨a % n, a / n, b, c, ?_, Int.emod_nonneg _ (by omega), Int.emod_lt_of_pos _ hn0⟩
    simp only [show N__law_take.length = 4 from rfl, evCs, evC, evE, evEs, evG, rs_ok, List.map_cons, List.map_nil, List.length_cons, List.length_nil, List.cons_append, List.nil_append, List.getElem?_cons_zero, List.getElem?_cons_succ, i0 h, cmD_gt, ha, decide_true, opD_mod hn0, opD_fdiv hn0 hn2, Nat.zero_add, Nat.reduceAdd, Nat.reduceSub, List.replicate_succ, List.replicate_zero, List.set_cons_succ, List.set_cons_zero, h, x0, if_true]
  · have hs : ∀ X, (m.set k X)[k]? = some X := fun X => set_get h
    have j0 : ∀ x y z, liftO (m.set k (.lst [x, y, z])) (idxD (m.set k (.lst [x, y, z])) (.own k) (.int 0)) = .ok x (m.set k (.lst [x, y, z])) := fun x y z => i0 (set_get h)
    have j1 : ∀ x y z, liftO (m.set k (.lst [x, y, z])) (idxD (m.set k (.lst [x, y, z])) (.own k) (.int 1)) = .ok y (m.set k (.lst [x, y, z])) := fun x y z => i1 (set_get h)
    have j2 : ∀ x y z, liftO (m.set k (.lst [x, y, z])) (idxD (m.set k (.lst [x, y, z])) (.own k) (.int 2)) = .ok z (m.set k (.lst [x, y, z])) := fun x y z => i2 (set_get h)
    simp only [show N__law_take.length = 4 from rfl, evCs, evC, evE, evEs, evG, rs_ok, List.map_cons, List.map_nil, List.length_cons, List.length_nil, List.cons_append, List.nil_append, List.getElem?_cons_zero, List.getElem?_cons_succ, i0 h, i2 h, cmD_gt, ha, decide_false, opD_add, Nat.zero_add, Nat.reduceAdd, Nat.reduceSub, List.replicate_succ, List.replicate_zero, List.set_cons_succ, List.set_cons_zero, h, x0, x1, x2, if_true, hs, j0, j1, j2, opD_mulL (show smallI 104729 = true by decide), opD_mulR (show smallI 69623 = true by decide), opD_mulR (show smallI 48271 = true by decide), opD_mulR (show smallI 2147483647 = true by decide), opD_mod (show (0 : Int) < 2147483647 by decide), opD_mod (show (0 : Int) < 2147483629 by decide), opD_fdiv (show (0 : Int) < 8191 by decide) (by decide), opD_mod hn0, set_set, Bool.false_eq_true, if_false]
    exact ⟨_, _, _, _, rfl, Int.emod_nonneg _ (by omega), Int.emod_lt_of_pos _ hn0⟩
/-- the box of draws at k; what else was there stays -/
def Bx (m : Mu) (k : Nat) : Prop := ∃ a b c : Int, m[k]? = some (.lst [.int a, .int b, .int c])
structure Kp (m m' : Mu) (k : Nat) : Prop where
  len : m.length ≤ m'.length
  same : ∀ i, i < m.length → i ≠ k → m'[i]? = m[i]?
theorem Kp.rfl' {m : Mu} {k : Nat} : Kp m m k := ⟨Nat.le_refl _, fun _ _ _ => rfl⟩
theorem Kp.trans {m m' m'' : Mu} {k : Nat} (h : Kp m m' k) (h' : Kp m' m'' k) : Kp m m'' k :=
  ⟨Nat.le_trans h.len h'.len, fun i hi hk => (h'.same i (Nat.lt_of_lt_of_le hi h.len) hk).trans (h.same i hi hk)⟩
theorem Kp.set {m : Mu} {k : Nat} {o : O} : Kp m (m.set k o) k := ⟨by rw [List.length_set]; exact Nat.le_refl _, fun i hi hk => by rw [List.getElem?_set_ne (Ne.symm hk)]⟩
theorem Kp.push {m : Mu} {k : Nat} {o : O} : Kp m (m ++ [o]) k := ⟨by simp, fun i hi hk => List.getElem?_append_left hi⟩
theorem take_bx {m : Mu} {k : Nat} {n : Int} (h : Bx m k) (hn : 1 ≤ n) (hn2 : n < 1073741824) : ∃ (r : Int) (m' : Mu), g_law_take K A [.own k, .int n] m = .ok (.int r) m' ∧ 0 ≤ r ∧ r < n ∧ Bx m' k ∧ Kp m m' k := by
  obtain ⟨a, b, c, h⟩ := h
  obtain ⟨r, a', b', c', e, h1, h2⟩ := take_ok K A h hn hn2
  exact ⟨r, _, e, h1, h2, ⟨a', b', c', set_get h⟩, Kp.set⟩
/-- a draw from a list -/
theorem pick_ok {m : Mu} {k : Nat} {ds : List D} (h : Bx m k) (h1 : 1 ≤ ds.length) (h2 : ds.length < 1073741824) : ∃ d m', g_law_pick K A [.own k, .lst ds] m = .ok d m' ∧ d ∈ ds ∧ Bx m' k ∧ Kp m m' k := by
  obtain ⟨r, m', e, p1, p2, p3, p4⟩ := take_bx K A (n := (ds.length : Int)) h (by omega) (by omega)
  obtain ⟨d, e1, e2⟩ := atR p1 p2
  refine ⟨d, m', ?_, e2, p3, p4⟩
  have hf : (H_law_take K A).fn "_law_take" = some (g_law_take K A) := rfl
  unfold g_law_pick runF b__law_pick
  simp only [show N__law_pick.length = 2 from rfl, evCs, evC, evE, evEs, rs_ok, List.map_cons, List.map_nil, List.length_cons, List.length_nil, List.cons_append, List.nil_append, List.getElem?_cons_zero, List.getElem?_cons_succ, Nat.zero_add, Nat.reduceAdd, Nat.reduceSub, if_true, hf, bltD, lookS, look, e, idx_lst e1]
end K26

set_option maxRecDepth 100000
set_option maxHeartbeats 1000000
namespace K26
open PySem L2 Pm
variable (K : PySem.W.Frag) (A : Addr)
theorem pow18 {G : Gm} {m : Mu} : opD G .Pow (.int 10) (.int 18) m = .ok (.int 1000000000000000000) m := by rfl
/-- the end of the box, whatever the cell -/
theorem box_end {G : Gm} {m : Mu} {c j : Int} {x : Option D} (v0 : Option D) : ∃ (a b : Int), evCs G (b__law_box.drop 2) [v0, some (.int j), some (.int c), x] m = .ok (.rt (.own m.length)) (m ++ [.lst [.int a, .int b, .int 0]]) := by
  unfold b__law_box
  by_cases hb : (1000000000000000000 : Int) ≤ c
  · simp only [List.drop_succ_cons, List.drop_zero, evCs, evC, evE, evEs, evG, rs_ok, List.getElem?_cons_zero, List.getElem?_cons_succ, List.set_cons_succ, List.set_cons_zero, opD_mod (show (0 : Int) < 2147483629 by decide), opD_mulL (show smallI 40692 = true by decide), opD_mulR (show smallI 48271 = true by decide), opD_add, pow18, cmD_ge, hb, decide_true, bltD, if_true, List.length_cons, List.length_nil, show (0 + 1 + 1 ≤ sizeLine) = True by decide, show (0 + 1 + 1 + 1 ≤ sizeLine) = True by decide, idx_lst (show atI [D.int 0, D.int c] 1 = some (D.int c) from atN (l := [D.int 0, D.int c]) 1 rfl)]
    exact ⟨_, _, rfl⟩
  · simp only [List.drop_succ_cons, List.drop_zero, evCs, evC, evE, evEs, evG, rs_ok, List.getElem?_cons_zero, List.getElem?_cons_succ, List.set_cons_succ, List.set_cons_zero, opD_mod (show (0 : Int) < 2147483629 by decide), opD_mulL (show smallI 40692 = true by decide), opD_mulR (show smallI 48271 = true by decide), opD_add, pow18, cmD_ge, hb, decide_false, bltD, if_true, Bool.false_eq_true, if_false, List.length_cons, List.length_nil, show (0 + 1 + 1 ≤ sizeLine) = True by decide, show (0 + 1 + 1 + 1 ≤ sizeLine) = True by decide, idx_lst (show atI [D.int 0, D.int c] 0 = some (D.int 0) from at0)]
    exact ⟨_, _, rfl⟩
theorem box_ok (ns : List Int) (hl : ns.length < 1073741824) {j : Int} (hj : 0 ≤ j) (m : Mu) : ∃ (a b : Int), g_law_box K A [.frl (ns.map D.int), .int j] m = .ok (.own m.length) (m ++ [.lst [.int a, .int b, .int 0]]) := by
  have key : ∃ c : Int, evCs (G2 K A) (b__law_box.take 2) [some (.frl (ns.map D.int)), some (.int j), none, none] m = .ok (.nx [some (.frl (ns.map D.int)), some (.int j), some (.int c), none]) m := by
    unfold b__law_box
    by_cases h1 : j < (ns.length : Int)
    · obtain ⟨d, e1, e2⟩ := atR (l := ns.map D.int) hj (by rw [List.length_map]; exact h1)
      obtain ⟨n, _, rfl⟩ := List.mem_map.mp e2
      refine ⟨n, ?_⟩
      simp only [List.take_succ_cons, List.take_zero, evCs, evC, evE, evEs, evG, rs_ok, List.getElem?_cons_zero, List.getElem?_cons_succ, List.set_cons_succ, List.set_cons_zero, opD_mulL (show smallI 6841 = true by decide), opD_add, bltD, lookS, look, List.length_map, cmD_lt, h1, decide_true, idx_frl e1]
    · by_cases h2 : (0 : Int) < (ns.length : Int)
      · obtain ⟨d, e1, e2⟩ := atR (l := ns.map D.int) (i := j % (ns.length : Int)) (Int.emod_nonneg _ (by omega)) (by rw [List.length_map]; exact Int.emod_lt_of_pos _ h2)
        obtain ⟨n, _, rfl⟩ := List.mem_map.mp e2
        refine ⟨6841 * j + 37 + n % 2147483629 * 69623, ?_⟩
        simp only [List.take_succ_cons, List.take_zero, evCs, evC, evE, evEs, evG, rs_ok, List.getElem?_cons_zero, List.getElem?_cons_succ, List.set_cons_succ, List.set_cons_zero, opD_mulL (show smallI 6841 = true by decide), opD_add, bltD, lookS, look, List.length_map, cmD_lt, h1, decide_false, cmD_gt, h2, decide_true, opD_mod h2, idx_frl e1, opD_mod (show (0 : Int) < 2147483629 by decide), opD_mulR (show smallI 69623 = true by decide)]
      · refine ⟨6841 * j + 37, ?_⟩
        simp only [List.take_succ_cons, List.take_zero, evCs, evC, evE, evEs, evG, rs_ok, List.getElem?_cons_zero, List.getElem?_cons_succ, List.set_cons_succ, List.set_cons_zero, opD_mulL (show smallI 6841 = true by decide), opD_add, bltD, lookS, look, List.length_map, cmD_lt, h1, decide_false, cmD_gt, h2]
  obtain ⟨c, key⟩ := key
  obtain ⟨a, b, e⟩ := box_end (G := G2 K A) (m := m) (c := c) (j := j) (x := none) (some (.frl (ns.map D.int)))
  refine ⟨a, b, ?_⟩
  unfold g_law_box runF
  rw [if_pos (show [D.frl (ns.map D.int), D.int j].length = 2 from rfl)]
  show (evCs (G2 K A) b__law_box [some (.frl (ns.map D.int)), some (.int j), none, none] m).bind _ = _
  rw [evCs_cut 2, key]
  simp only [rs_ok, e]
end K26

set_option maxRecDepth 100000
set_option maxHeartbeats 1000000
namespace K26
open PySem L2 Pm
variable (K : PySem.W.Frag) (A : Addr)
/-- a term of a bound: none, or an int within -/
def Tm (lo hi : Int) (d : D) : Prop := d = .non ∨ ∃ i, d = .int i ∧ lo ≤ i ∧ i ≤ hi
theorem tm_ints {lo hi : Int} {l : List Int} {d : D} (h : d ∈ l.map D.int) (hb : ∀ i ∈ l, lo ≤ i ∧ i ≤ hi) : Tm lo hi d := by
  obtain ⟨i, hi, rfl⟩ := List.mem_map.mp h
  exact .inr ⟨i, rfl, hb i hi⟩
theorem draw_left {ρ : Pm.Env} {m : Mu} {k : Nat} (h : Bx m k) (hρ : ρ[0]? = some (some (.own k))) : ∃ d m', evE (H_law_pick K A) (.idx (.lst [(.con .non), (.bin .Sub (.fn "_law_take" [(.var 0), (.con (.int 62))]) (.con (.int 1))), (.fn "_law_pick" [(.var 0), (.lst [(.neg (.con (.int 1))), (.con (.int 0)), (.con (.int 1)), (.con (.int 2)), (.con (.int 59)), (.con (.int 60))])])]) (.fn "_law_take" [(.var 0), (.con (.int 3))])) ρ m = .ok d m' ∧ Tm (-1) 60 d ∧ Bx m' k ∧ Kp m m' k := by
  have f1 : (H_law_pick K A).fn "_law_take" = some (g_law_take K A) := rfl
  have f2 : (H_law_pick K A).fn "_law_pick" = some (g_law_pick K A) := rfl
  obtain ⟨r, m1, e1, p1, p2, b1, k1⟩ := take_bx K A (n := 62) h (by decide) (by decide)
  obtain ⟨d, m2, e2, q2, b2, k2⟩ := pick_ok K A (ds := [.int (-1), .int 0, .int 1, .int 2, .int 59, .int 60]) b1 (by decide) (by decide)
  obtain ⟨i, m3, e3, p3, p4, b3, k3⟩ := take_bx K A (n := 3) b2 (by decide) (by decide)
  obtain ⟨x, ex, hx⟩ := at3 (x := D.non) (y := D.int (r - 1)) (z := d) (l := []) p3 p4
  refine ⟨x, m3, ?_, ?_, b3, (k1.trans k2).trans k3⟩
  · simp only [evE, evEs, rs_ok, hρ, f1, f2, e1, opD_sub, List.length_cons, List.length_nil, show (0 + 1 + 1 + 1 + 1 + 1 + 1 ≤ sizeLine) = True by decide, if_true, e2, show (0 + 1 + 1 + 1 ≤ sizeLine) = True by decide, e3, idx_lst ex]
  · rcases hx with rfl | rfl | rfl
    · exact .inl rfl
    · exact .inr ⟨_, rfl, by omega, by omega⟩
    · exact tm_ints (l := [-1, 0, 1, 2, 59, 60]) q2 (by decide)
theorem draw_lost {ρ : Pm.Env} {m : Mu} {k : Nat} (h : Bx m k) (hρ : ρ[0]? = some (some (.own k))) : ∃ d m', evE (H_law_pick K A) (.idx (.lst [(.con .non), (.fn "_law_take" [(.var 0), (.con (.int 62))]), (.fn "_law_pick" [(.var 0), (.lst [(.con (.int 0)), (.con (.int 1)), (.con (.int 2)), (.con (.int 59)), (.con (.int 60)), (.con (.int 61))])])]) (.fn "_law_take" [(.var 0), (.con (.int 3))])) ρ m = .ok d m' ∧ Tm 0 61 d ∧ Bx m' k ∧ Kp m m' k := by
  have f1 : (H_law_pick K A).fn "_law_take" = some (g_law_take K A) := rfl
  have f2 : (H_law_pick K A).fn "_law_pick" = some (g_law_pick K A) := rfl
  obtain ⟨r, m1, e1, p1, p2, b1, k1⟩ := take_bx K A (n := 62) h (by decide) (by decide)
  obtain ⟨d, m2, e2, q2, b2, k2⟩ := pick_ok K A (ds := [.int 0, .int 1, .int 2, .int 59, .int 60, .int 61]) b1 (by decide) (by decide)
  obtain ⟨i, m3, e3, p3, p4, b3, k3⟩ := take_bx K A (n := 3) b2 (by decide) (by decide)
  obtain ⟨x, ex, hx⟩ := at3 (x := D.non) (y := D.int r) (z := d) (l := []) p3 p4
  refine ⟨x, m3, ?_, ?_, b3, (k1.trans k2).trans k3⟩
  · simp only [evE, evEs, rs_ok, hρ, f1, f2, e1, List.length_cons, List.length_nil, show (0 + 1 + 1 + 1 + 1 + 1 + 1 ≤ sizeLine) = True by decide, if_true, e2, show (0 + 1 + 1 + 1 ≤ sizeLine) = True by decide, e3, idx_lst ex]
  · rcases hx with rfl | rfl | rfl
    · exact .inl rfl
    · exact .inr ⟨_, rfl, by omega, by omega⟩
    · exact tm_ints (l := [0, 1, 2, 59, 60, 61]) q2 (by decide)
end K26

set_option maxRecDepth 100000
set_option maxHeartbeats 1000000
namespace K26
open PySem L2 Pm
/-- terms as numbers that may be lacking -/
def tm : Option Int → D
  | none => .non
  | some i => .int i
def tmP : Option Int → PyData
  | none => .none
  | some i => .int i
theorem tm_py (o : Option Int) : (tm o).py = some (tmP o) := by cases o <;> rfl
theorem tms_py : ∀ l : List (Option Int), D.pys (l.map tm) = some (l.map tmP)
  | [] => rfl
  | o :: l => by
    rw [List.map_cons, List.map_cons]
    unfold D.pys
    rw [tm_py, tms_py l]
theorem tms_lay : ∀ l : List (Option Int), PyData.canLayAll0 (l.map tmP) = true
  | [] => rfl
  | o :: l => by
    rw [List.map_cons]
    unfold PyData.canLayAll0
    rw [tms_lay l]
    cases o <;> rfl
theorem tms_depth : ∀ l : List (Option Int), PyData.depthAll (l.map tmP) = 0
  | [] => rfl
  | o :: l => by
    rw [List.map_cons]
    unfold PyData.depthAll
    rw [tms_depth l]
    cases o <;> rfl
theorem lst_shaped (l : List (Option Int)) : SeqAt.shaped (.list (l.map tmP)) = true := by
  unfold SeqAt.shaped
  rw [show (PyData.list (l.map tmP)).canLay0 = PyData.canLayAll0 (l.map tmP) by simp [PyData.canLay0], tms_lay, show (PyData.list (l.map tmP)).depth = PyData.depthAll (l.map tmP) + 1 by simp [PyData.depth], tms_depth]
  rfl
theorem tup_shaped (l : List (Option Int)) : SeqAt.shaped (.tuple (l.map tmP)) = true := by
  unfold SeqAt.shaped
  rw [show (PyData.tuple (l.map tmP)).canLay0 = PyData.canLayAll0 (l.map tmP) by simp [PyData.canLay0], tms_lay, show (PyData.tuple (l.map tmP)).depth = PyData.depthAll (l.map tmP) + 1 by simp [PyData.depth], tms_depth]
  rfl
theorem tmP_eqv (a b : Option Int) : PyData.eqv (tmP a) (tmP b) = decide (a = b) := by
  cases a <;> cases b <;> simp [tmP, PyData.eqv]
  rename_i i j
  by_cases h : i = j <;> simp [h]
theorem tms_eqv : ∀ l k : List (Option Int), PyData.eqvAll (l.map tmP) (k.map tmP) = decide (l = k)
  | [], [] => by simp [PyData.eqvAll]
  | [], b :: k => by simp [PyData.eqvAll]
  | a :: l, [] => by simp [PyData.eqvAll]
  | a :: l, b :: k => by
    simp only [List.map_cons, PyData.eqvAll, tmP_eqv, tms_eqv l k]
    by_cases h : a = b <;> by_cases h2 : l = k <;> simp [h, h2]
theorem lst_py (l : List (Option Int)) : (D.lst (l.map tm)).py = some (.list (l.map tmP)) := by
  unfold D.py
  rw [tms_py]
  rfl
theorem tup_py (l : List (Option Int)) : (D.tup (l.map tm)).py = some (.tuple (l.map tmP)) := by
  unfold D.py
  rw [tms_py]
  rfl
/-- a bound as data -/
def rowD (r : Option Int × List (Option Int)) : D := .tup [tm r.1, .tup (r.2.map tm)]
def rowP (r : Option Int × List (Option Int)) : PyData := .tuple [tmP r.1, .tuple (r.2.map tmP)]
theorem row_py (r : Option Int × List (Option Int)) : (rowD r).py = some (rowP r) := by
  unfold rowD rowP D.py D.pys
  rw [tm_py]
  unfold D.pys
  rw [tup_py]
  rfl
theorem row_shaped (r : Option Int × List (Option Int)) : SeqAt.shaped (rowP r) = true := by
  obtain ⟨o, l⟩ := r
  have h1 : (PyData.tuple (l.map tmP)).canLay0 = true := by simp [PyData.canLay0, tms_lay]
  have h2 : (PyData.tuple (l.map tmP)).depth = 1 := by simp [PyData.depth, tms_depth]
  unfold SeqAt.shaped rowP
  cases o <;> simp [PyData.canLay0, PyData.canLayAll0, PyData.depth, PyData.depthAll, tmP, tms_lay, tms_depth]
theorem row_eqv (r t : Option Int × List (Option Int)) : PyData.eqv (rowP r) (rowP t) = decide (r = t) := by
  obtain ⟨o, l⟩ := r
  obtain ⟨p, k⟩ := t
  simp only [rowP, PyData.eqv, PyData.eqvAll, tmP_eqv, tms_eqv, Bool.and_true]
  by_cases h : o = p <;> by_cases h2 : l = k <;> simp [h, h2]
end K26

set_option maxRecDepth 100000
set_option maxHeartbeats 1000000
namespace K26
open PySem L2 Pm
variable (K : PySem.W.Frag) (A : Addr)
theorem Tm.tm {lo hi : Int} {d : D} (h : Tm lo hi d) : ∃ o, d = tm o ∧ ∀ i, o = some i → lo ≤ i ∧ i ≤ hi := by
  rcases h with rfl | ⟨i, rfl, h⟩
  · exact ⟨none, rfl, fun i e => by cases e⟩
  · exact ⟨some i, rfl, fun j e => by cases e; exact h⟩
theorem Bx.lt {m : Mu} {k : Nat} (h : Bx m k) : k < m.length := by
  obtain ⟨a, b, c, h⟩ := h
  exact (List.getElem?_eq_some_iff.mp h).1
theorem Bx.push {m : Mu} {k : Nat} {o : O} (h : Bx m k) : Bx (m ++ [o]) k := by
  have hk := h.lt
  obtain ⟨a, b, c, h⟩ := h
  exact ⟨a, b, c, by rw [List.getElem?_append_left hk]; exact h⟩
theorem Bx.put {m : Mu} {k p : Nat} {o : O} (h : Bx m k) (hp : p ≠ k) : Bx (m.set p o) k := by
  obtain ⟨a, b, c, h⟩ := h
  exact ⟨a, b, c, by rw [List.getElem?_set_ne hp]; exact h⟩
theorem Kp.put {m m' : Mu} {k p : Nat} {o : O} (h : Kp m m' k) (hp : m.length ≤ p) : Kp m (m'.set p o) k :=
  ⟨by rw [List.length_set]; exact h.len, fun i hi hk => by rw [List.getElem?_set_ne (by omega)]; exact h.same i hi hk⟩
theorem Kp.at {m m' : Mu} {k p : Nat} {o : O} (h : Kp m m' k) (hp : p ≠ k) (e : m[p]? = some o) : m'[p]? = some o := by
  rw [h.same p (List.getElem?_eq_some_iff.mp e).1 hp]
  exact e
def InL (o : Option Int) : Prop := ∀ i, o = some i → -1 ≤ i ∧ i ≤ 60
def InT (o : Option Int) : Prop := ∀ i, o = some i → 0 ≤ i ∧ i ≤ 61
structure RowOk (n : Nat) (r : Option Int × List (Option Int)) : Prop where
  len : r.2.length = n
  left : InL r.1
  lost : ∀ o ∈ r.2, InT o
  some : r.1 ≠ none ∨ ∃ o ∈ r.2, o ≠ none
/-- one draw of a loss, kept -/
def rowF (ρ : Pm.Env) (m : Mu) : Rs Fl := evCs (H_law_pick K A) [(.expr (.bm (.var 3) .append [(.idx (.lst [(.con .non), (.fn "_law_take" [(.var 0), (.con (.int 62))]), (.fn "_law_pick" [(.var 0), (.lst [(.con (.int 0)), (.con (.int 1)), (.con (.int 2)), (.con (.int 59)), (.con (.int 60)), (.con (.int 61))])])]) (.fn "_law_take" [(.var 0), (.con (.int 3))]))]))] ρ m
def rowG (d : D) (ρ : Pm.Env) (m : Mu) : Rs Fl := (evG (H_law_pick K A) (.nm 4) d ρ m).bind fun ρ m => rowF K A ρ m
theorem rowF_at {m1 : Mu} {k p : Nat} {a b c x e : Option D} {ls : List (Option Int)} (q5 : Bx m1 k) (hp : p ≠ k) (q4 : m1[p]? = some (.lst (ls.map tm))) (hl : ls.length ≤ 3) : ∃ o m2, rowF K A [some (.own k), b, c, some (.own p), x, e] m1 = .ok (.nx [some (.own k), b, c, some (.own p), x, e]) (m2.set p (.lst ((ls ++ [o]).map tm))) ∧ InT o ∧ m2[p]? = some (.lst (ls.map tm)) ∧ Bx m2 k ∧ Kp m1 m2 k := by
  obtain ⟨t, m2, e2, ht, b2, k2⟩ := draw_lost K A (ρ := [some (.own k), b, c, some (.own p), x, e]) q5 rfl
  obtain ⟨o, rfl, ho⟩ := ht.tm
  have e3 := k2.at hp q4
  have hlk : lookT m1 (.own p) = some (ls.map tm) := by simp [lookT, q4]
  have hap : mtD .append (.own p) [tm o] m2 = .ok .non (m2.set p (.lst ((ls ++ [o]).map tm))) := by
    have zz : 3 < sizeLine := by decide
    simp only [mtD, e3, List.length_map, List.map_append, List.map_cons, List.map_nil]
    rw [if_pos (by omega)]
  refine ⟨o, m2, ?_, ho, e3, b2, k2⟩
  unfold rowF
  rw [evCs_one]
  unfold evC
  have hb : ∀ E, evE (H_law_pick K A) (.bm (.var 3) .append [E]) [some (.own k), b, c, some (.own p), x, e] m1 = (evE (H_law_pick K A) E [some (.own k), b, c, some (.own p), x, e] m1).bind fun d m => mtD .append (.own p) [d] m := fun E => by
    rw [evE, evE_var (G := H_law_pick K A) (d := .own p) rfl, rs_ok, hlk]
    simp only [evEs, bind_bind, rs_ok]
  rw [hb, e2, rs_ok, hap, rs_ok]
/-- the loop of a bound's losses -/
theorem row_loop {k p : Nat} {b c z : Option D} (hp : p ≠ k) : ∀ (ds : List D) (ls : List (Option Int)) (x : Option D) (m : Mu), ls.length + ds.length ≤ 3 → Bx m k → m[p]? = some (.lst (ls.map tm)) → (∀ o ∈ ls, InT o) → ∃ (ls' : List (Option Int)) (x' : Option D) (m' : Mu), forL (rowG K A) ds [some (.own k), b, c, some (.own p), x, z] m = .ok (.nx [some (.own k), b, c, some (.own p), x', z]) m' ∧
    ls'.length = ls.length + ds.length ∧ (∀ o ∈ ls', InT o) ∧ m'[p]? = some (.lst (ls'.map tm)) ∧ Bx m' k ∧ (∀ i, i < m.length → i ≠ k → i ≠ p → m'[i]? = m[i]?) ∧ m.length ≤ m'.length
  | [], ls, x, m, _, h, e, hl => ⟨ls, x, m, by unfold forL; rfl, by simp, hl, e, h, fun _ _ _ _ => rfl, Nat.le_refl _⟩
  | d :: ds, ls, x, m, hn, h, e, hl => by
    rw [List.length_cons] at hn
    obtain ⟨o, m2, e1, ho, e2, b2, k2⟩ := rowF_at K A (a := none) (b := b) (c := c) (x := some d) (e := z) h hp e (by omega)
    have hs : (m2.set p (.lst ((ls ++ [o]).map tm)))[p]? = some (.lst ((ls ++ [o]).map tm)) := set_get e2
    obtain ⟨ls', x', m', i1, i2, i3, i4, i5, i6, i7⟩ := row_loop hp ds (ls ++ [o]) (some d) (m2.set p (.lst ((ls ++ [o]).map tm))) (by rw [List.length_append]; simp only [List.length_cons, List.length_nil]; omega) (b2.put hp) hs (fun o' h' => by
      rcases List.mem_append.mp h' with q | q
      · exact hl _ q
      · rw [List.mem_singleton] at q; subst q; exact ho)
    refine ⟨ls', x', m', ?_, by rw [i2, List.length_append, List.length_cons]; simp only [List.length_cons, List.length_nil]; omega, i3, i4, i5, fun i hi h1 h2 => ?_, ?_⟩
    · unfold forL
      rw [show rowG K A d [some (.own k), b, c, some (.own p), x, z] m = rowF K A [some (.own k), b, c, some (.own p), some d, z] m by
        unfold rowG evG; rfl, e1, rs_ok]
      exact i1
    · rw [i6 i (by rw [List.length_set]; exact Nat.lt_of_lt_of_le hi k2.len) h1 h2, List.getElem?_set_ne (Ne.symm h2), k2.same i hi h1]
    · rw [List.length_set] at i7; exact Nat.le_trans k2.len i7
/-- the losses, from nothing on -/
theorem row_for {m : Mu} {k p n : Nat} (hn : n ≤ 3) {c z : Option D} (h : Bx m k) (hp : p ≠ k) (e : m[p]? = some (.lst [])) : ∃ (ls : List (Option Int)) (x : Option D) (m' : Mu), evC (H_law_pick K A) (b__law_row.getD 2 .pas) [some (.own k), some (.int n), c, some (.own p), none, z] m = .ok (.nx [some (.own k), some (.int n), c, some (.own p), x, z]) m' ∧
    ls.length = n ∧ (∀ o ∈ ls, InT o) ∧ m'[p]? = some (.lst (ls.map tm)) ∧ Bx m' k ∧ (∀ i, i < m.length → i ≠ k → i ≠ p → m'[i]? = m[i]?) ∧ m.length ≤ m'.length := by
  obtain ⟨ls, x, m', h1, h2, h3, h4, h5, h6, h7⟩ := row_loop K A (b := some (.int n)) (c := c) (z := z) hp ((List.range n).map fun (i : Nat) => D.int (0 + (i : Int))) [] none m (by simp; omega) h e (fun o ho => absurd ho List.not_mem_nil)
  refine ⟨ls, x, m', ?_, by rw [h2]; simp, h3, h4, h5, h6, h7⟩
  have hb : b__law_row.getD 2 .pas = .for (.nm 4) (.rng [(.var 1)]) [(.expr (.bm (.var 3) .append [(.idx (.lst [(.con .non), (.fn "_law_take" [(.var 0), (.con (.int 62))]), (.fn "_law_pick" [(.var 0), (.lst [(.con (.int 0)), (.con (.int 1)), (.con (.int 2)), (.con (.int 59)), (.con (.int 60)), (.con (.int 61))])])]) (.fn "_law_take" [(.var 0), (.con (.int 3))]))]))] := rfl
  rw [hb, evC_for]
  have hi : ∀ mm, evI (H_law_pick K A) (.rng [(.var 1)]) [some (.own k), some (.int n), c, some (.own p), none, z] mm = .ok ((List.range n).map fun (i : Nat) => D.int (0 + (i : Int))) mm := fun mm => by
    unfold evI
    rw [evEs, evE_var (d := .int n) rfl, rs_ok, evEs, rs_ok, rs_ok, rngD_nat (by omega)]
  rw [hi, rs_ok]
  exact h1
end K26

set_option maxRecDepth 100000
set_option maxHeartbeats 1000000
namespace K26
open PySem L2 Pm
variable (K : PySem.W.Frag) (A : Addr)
section
variable {G : Gm} {m : Mu} {ρ : Pm.Env}
theorem tm_isNon (o : Option Int) : (tm o).isNon = o.isNone := by cases o <;> rfl
theorem eq_nil (ls : List (Option Int)) : cmD G .Eq (.lst (ls.map tm)) (.lst []) m = .ok (.bl ls.isEmpty) m := by
  rw [cmD_eq (G := G) (m := m) (b := .lst []) (y := .list []) (lst_py ls) rfl (lst_shaped ls) rfl, show PyData.eqv (.list (ls.map tmP)) (.list []) = PyData.eqvAll (ls.map tmP) (([] : List (Option Int)).map tmP) by simp [PyData.eqv], tms_eqv]
  cases ls <;> simp
theorem filt : ∀ ls : List (Option Int), (ls.map tm).filterMap (fun d => if d.isNon then none else some d) = (ls.filter Option.isSome).map tm
  | [] => rfl
  | none :: ls => by
    rw [List.map_cons, List.filterMap_cons, List.filter_cons]
    exact filt ls
  | some x :: ls => by
    rw [List.map_cons, List.filterMap_cons, List.filter_cons]
    show tm (some x) :: _ = tm (some x) :: _
    rw [filt ls]
theorem three : 3 < sizeLine := by decide
/-- the terms that are there, compared with none -/
theorem noneIn {i j : Nat} {S : D} {ls : List (Option Int)} (hS : S = .lst (ls.map tm) ∨ S = .tup (ls.map tm)) (hj : ρ[j]? = some (some S)) (hi : i < ρ.length) (hn : ls.length ≤ sizeLine) : evE G (.cmp .Eq (.lc false (.nm i) (.val (.var j)) (some (.cmp .IsNot (.var i) (.con .non))) (.var i) [i]) (.lst [])) ρ m = .ok (.bl (ls.filter Option.isSome).isEmpty) m := by
  have z0 : (0 ≤ sizeLine) = True := by decide
  have hI : evI G (.val (.var j)) ρ m = .ok (ls.map tm) m := by
    rcases hS with rfl | rfl
    · exact evI_lst (evE_var hj)
    · exact evI_tup (evE_var hj)
  have e : evE G (.lc false (.nm i) (.val (.var j)) (some (.cmp .IsNot (.var i) (.con .non))) (.var i) [i]) ρ m = .ok (.lst ((ls.map tm).filterMap fun d => if d.isNon then none else some d)) m := lc_pure _ hI (by simpa using hn) fun d hd => by
    have hg : ((wipeD ρ [i]).set i (some d))[i]? = some (some d) := by
      rw [List.getElem?_set_self (by simp [wipeD, hi])]
    unfold lcT
    rw [evG, rs_ok, evT, evE, evE_var hg, rs_ok, evE, rs_ok, cmD_isNot, rs_ok]
    cases d.isNon with
    | true => rfl
    | false =>
      simp only [Bool.not_false, rs_ok, if_true, evE_var hg, Bool.false_eq_true, if_false]
  have h2 := filt ls
  rw [evE, e, rs_ok, evE, evEs, rs_ok]
  simp only [List.length_nil, z0, if_true, rs_ok, h2, eq_nil]
end
theorem allNone_iff (ls : List (Option Int)) : (ls.filter Option.isSome).isEmpty = true ↔ ∀ o ∈ ls, o = none := by
  rw [List.isEmpty_iff, List.filter_eq_nil_iff]
  constructor
  · intro h o ho; have := h o ho; cases o <;> simp_all
  · intro h o ho; rw [h o ho]; simp
/-- what stays -/
structure Kq (m m' : Mu) (k : Nat) : Prop where
  len : m.length ≤ m'.length
  same : ∀ i, i < m.length → i ≠ k → m'[i]? = m[i]?
theorem rw_s0 {m m1 : Mu} {k n : Nat} {l : Option Int} (e1 : evE (H_law_pick K A) (.idx (.lst [(.con .non), (.bin .Sub (.fn "_law_take" [(.var 0), (.con (.int 62))]) (.con (.int 1))), (.fn "_law_pick" [(.var 0), (.lst [(.neg (.con (.int 1))), (.con (.int 0)), (.con (.int 1)), (.con (.int 2)), (.con (.int 59)), (.con (.int 60))])])]) (.fn "_law_take" [(.var 0), (.con (.int 3))])) [some (.own k), some (.int n), none, none, none, none] m = .ok (tm l) m1) : evC (H_law_pick K A) (b__law_row.getD 0 .pas) [some (.own k), some (.int n), none, none, none, none] m = .ok (.nx [some (.own k), some (.int n), some (tm l), none, none, none]) m1 := by
    unfold b__law_row
    simp only [List.getD_cons_zero]
    rw [evC, e1, rs_ok, evG, rs_ok]
    rfl
theorem rw_s1 {m1 : Mu} {k n : Nat} {l : Option Int} : evC (H_law_pick K A) (b__law_row.getD 1 .pas) [some (.own k), some (.int n), some (tm l), none, none, none] m1 = .ok (.nx [some (.own k), some (.int n), some (tm l), some (.own m1.length), none, none]) (m1 ++ [.lst []]) := by
    have z0 : (0 ≤ sizeLine) = True := by decide
    unfold b__law_row
    simp only [List.getD_cons_zero, List.getD_cons_succ, evC, evE, evEs, rs_ok, List.length_nil, z0, if_true, evG]
    rfl
theorem rw_ret {k n : Nat} {ls : List (Option Int)} : ∀ (o : Option Int) (y z : Option D) mm, evC (H_law_pick K A) (b__law_row.getD 4 .pas) [some (.own k), some (.int n), some (tm o), some (.lst (ls.map tm)), y, z] mm = .ok (.rt (rowD (o, ls))) mm := fun o y z mm => by
    have z1 : (0 + 1 + 1 ≤ sizeLine) = True := by decide
    unfold b__law_row
    simp only [List.getD_cons_zero, List.getD_cons_succ, evC, evE, evEs, rs_ok, List.getElem?_cons_zero, List.getElem?_cons_succ, bltD, look, List.length_cons, List.length_nil, z1, if_true]
    rfl
theorem rw_hb3 :  b__law_row.getD 3 .pas = (.frz [3] (.ife (.and (.cmp .Is (.var 2) (.con .non)) (.cmp .Eq (.lc false (.nm 5) (.val (.var 3)) (some (.cmp .IsNot (.var 5) (.con .non))) (.var 5) [5]) (.lst []))) [(.asg (.nm 2) (.fn "_law_take" [(.var 0), (.con (.int 61))]))] [])) := rfl
theorem rw_body : b__law_row = [b__law_row.getD 0 .pas, b__law_row.getD 1 .pas, b__law_row.getD 2 .pas, b__law_row.getD 3 .pas, b__law_row.getD 4 .pas] := rfl
end K26
namespace K26
open PySem L2 Pm
variable (K : PySem.W.Frag) (A : Addr)
theorem rw_nn {k n : Nat} {l : Option Int} {ls : List (Option Int)} {x : Option D} (h : ls.length ≤ 3) : ∀ mm, evE (H_law_pick K A) (.cmp .Eq (.lc false (.nm 5) (.val (.var 3)) (some (.cmp .IsNot (.var 5) (.con .non))) (.var 5) [5]) (.lst [])) [some (.own k), some (.int n), some (tm l), some (.lst (ls.map tm)), x, none] mm = .ok (.bl (ls.filter Option.isSome).isEmpty) mm := fun mm => noneIn (.inl rfl) rfl (by simp) (by have := three; omega)
theorem rw_hfz {m2 : Mu} {p k n : Nat} {l : Option Int} {ls : List (Option Int)} {x : Option D} (h4 : m2[p]? = some (.lst (ls.map tm))) : frzD [3] [some (.own k), some (.int n), some (tm l), some (.own p), x, none] m2 = .ok [some (.own k), some (.int n), some (tm l), some (.lst (ls.map tm)), x, none] (m2.set p .dead) := by
    simp only [frzD, List.getElem?_cons_zero, List.getElem?_cons_succ, h4, List.set_cons_succ, List.set_cons_zero]
theorem rw_run {m : Mu} {k n : Nat} {d : D} {mm : Mu} (h : evCs (H_law_pick K A) b__law_row [some (.own k), some (.int n), none, none, none, none] m = .ok (.rt d) mm) : g_law_row K A [.own k, .int n] m = .ok d mm := by
    unfold g_law_row runF
    rw [if_pos (show [D.own k, D.int n].length = 2 from rfl)]
    show (evCs (H_law_pick K A) b__law_row [some (.own k), some (.int n), none, none, none, none] m).bind _ = _
    rw [h]
    rfl
end K26
namespace K26
open PySem L2 Pm
variable (K : PySem.W.Frag) (A : Addr)
theorem rw_if0 {m2 mm : Mu} {p k n : Nat} {l : Option Int} {ls : List (Option Int)} {x : Option D} (h3 : ls.length ≤ 3) (h4 : m2[p]? = some (.lst (ls.map tm))) (hc : ¬ (l = none ∧ ∀ o ∈ ls, o = none)) : evC (H_law_pick K A) (b__law_row.getD 3 .pas) [some (.own k), some (.int n), some (tm l), some (.own p), x, none] m2 = .ok (.nx [some (.own k), some (.int n), some (tm l), some (.lst (ls.map tm)), x, none]) (m2.set p .dead) := by
  rw [rw_hb3, evC, rw_hfz h4, rs_ok, evC, evE, evE, evE_var (d := tm l) rfl, rs_ok, evE, rs_ok, cmD_is, rs_ok, tm_isNon]
  cases l with
  | some i =>
    simp only [Option.isNone_some, rs_ok, evCs]
  | none =>
    have ht : (ls.filter Option.isSome).isEmpty = false := by
      cases hh : (ls.filter Option.isSome).isEmpty with
      | false => rfl
      | true => exact absurd ⟨rfl, (allNone_iff ls).mp hh⟩ hc
    simp only [Option.isNone_none]
    rw [rw_nn K A h3, ht, rs_ok]
    simp only [evCs]
end K26
namespace K26
open PySem L2 Pm
variable (K : PySem.W.Frag) (A : Addr)
theorem rw_if1 {m2 m3 : Mu} {p k n : Nat} {r : Int} {ls : List (Option Int)} {x : Option D} (h3 : ls.length ≤ 3) (h4 : m2[p]? = some (.lst (ls.map tm))) (hc : ∀ o ∈ ls, o = none) (e3 : g_law_take K A [.own k, .int 61] (m2.set p .dead) = .ok (.int r) m3) : evC (H_law_pick K A) (b__law_row.getD 3 .pas) [some (.own k), some (.int n), some (tm none), some (.own p), x, none] m2 = .ok (.nx [some (.own k), some (.int n), some (tm (some r)), some (.lst (ls.map tm)), x, none]) m3 := by
  have f1 : (H_law_pick K A).fn "_law_take" = some (g_law_take K A) := rfl
  have ht : (ls.filter Option.isSome).isEmpty = true := (allNone_iff ls).mpr hc
  rw [rw_hb3, evC, rw_hfz h4, rs_ok, evC, evE, evE, evE_var (d := tm none) rfl, rs_ok, evE, rs_ok, cmD_is, rs_ok, tm_isNon]
  simp only [Option.isNone_none]
  rw [rw_nn K A h3, ht, rs_ok]
  simp only []
  rw [evCs_one, evC, evE]
  simp only [f1, evEs, evE, List.getElem?_cons_zero, rs_ok, e3, evG, List.set_cons_succ, List.set_cons_zero, tm]
end K26
namespace K26
open PySem L2 Pm
variable (K : PySem.W.Frag) (A : Addr)
theorem row_ok {m : Mu} {k n : Nat} (h : Bx m k) (hn : n ≤ 3) : ∃ r m', g_law_row K A [.own k, .int n] m = .ok (rowD r) m' ∧ RowOk n r ∧ Bx m' k ∧ Kp m m' k := by
  obtain ⟨d, m1, e1, hd, b1, k1⟩ := draw_left K A (ρ := [some (.own k), some (.int n), none, none, none, none]) h rfl
  obtain ⟨l, rfl, hl⟩ := hd.tm
  have hk1 := b1.lt
  have hp : m1.length ≠ k := by omega
  obtain ⟨ls, x, m2, e2, h2, h3, h4, h5, h6, h7⟩ := row_for K A hn (c := some (tm l)) (z := none) (b1.push (o := .lst [])) hp (by simp)
  have b3 : Bx (m2.set m1.length .dead) k := h5.put hp
  have kk : Kp m (m2.set m1.length .dead) k := ⟨by
    have := k1.len; simp at h7; rw [List.length_set]; omega, fun i hi hk => by
    have := k1.len
    rw [List.getElem?_set_ne (by omega), h6 i (by simp; omega) hk (by omega), List.getElem?_append_left (by omega)]
    exact k1.same i hi hk⟩
  have run : ∀ (o : Option Int) mm, evC (H_law_pick K A) (b__law_row.getD 3 .pas) [some (.own k), some (.int n), some (tm l), some (.own m1.length), x, none] m2 = .ok (.nx [some (.own k), some (.int n), some (tm o), some (.lst (ls.map tm)), x, none]) mm → g_law_row K A [.own k, .int n] m = .ok (rowD (o, ls)) mm := fun o mm h => by
    refine rw_run K A ?_
    rw [rw_body, evCs_nx (rw_s0 K A e1), evCs_nx (rw_s1 K A), evCs_nx e2, evCs_nx h, evCs_rt (rw_ret K A _ _ _ _)]
  by_cases hc : l = none ∧ ∀ o ∈ ls, o = none
  · obtain ⟨r, m3, e3, q1, q2, b4, k4⟩ := take_bx K A (n := 61) b3 (by decide) (by decide)
    refine ⟨(some r, ls), m3, run (some r) m3 ?_, ⟨h2, fun i e => by cases e; omega, h3, .inl (by simp)⟩, b4, kk.trans k4⟩
    rw [hc.1]
    exact rw_if1 K A (by omega) h4 hc.2 e3
  · refine ⟨(l, ls), m2.set m1.length .dead, run l _ (rw_if0 K A (mm := m) (by omega) h4 hc), ⟨h2, hl, h3, ?_⟩, b3, kk⟩
    cases l with
    | some i => exact .inl (by simp)
    | none =>
      refine .inr ?_
      have : ¬ ∀ o ∈ ls, o = none := fun h => hc ⟨rfl, h⟩
      obtain ⟨o, ho⟩ := Classical.not_forall.mp this
      obtain ⟨h1, h2⟩ := Classical.not_imp.mp ho
      exact ⟨o, h1, h2⟩
end K26

set_option maxRecDepth 100000
set_option maxHeartbeats 1000000
namespace K26
open PySem L2 Pm
variable (K : PySem.W.Frag) (A : Addr)
def leastO : Option Int → Option Int → Option Int
  | none, b => b
  | some a, none => some a
  | some a, some b => some (if b < a then b else a)
def greatO : Option Int → Option Int → Option Int
  | none, b => b
  | some a, none => some a
  | some a, some b => some (if a < b then b else a)
theorem least_ok {m : Mu} (a b : Option Int) : gLeast K A [tm a, tm b] m = .ok (tm (leastO a b)) m := by
  unfold gLeast runF b_least_term
  cases a with
  | none => cases b <;> simp only [evCs, evC.eq_1, evC.eq_2, evC.eq_3, evC.eq_4, evC.eq_7, evC.eq_8, evC.eq_9, evC.eq_10, evC.eq_11, evC.eq_12, evE.eq_1, evE.eq_2, evE.eq_3, evE.eq_4, evE.eq_5, evE.eq_6, evE.eq_7, evE.eq_8, evE.eq_9, evE.eq_10, evE.eq_11, evE.eq_12, evE.eq_13, evE.eq_14, evE.eq_15, evE.eq_16, evE.eq_17, evE.eq_18, evE.eq_19, evE.eq_20, evE.eq_21, evE.eq_22, evE.eq_24, evE.eq_25, evE.eq_26, evE.eq_27, evE.eq_28, evEs, evG, evGs, rs_ok, List.map_cons, List.map_nil, List.length_cons, List.length_nil, List.cons_append, List.nil_append, List.getElem?_cons_zero, List.getElem?_cons_succ, Nat.zero_add, Nat.reduceAdd, Nat.reduceSub, List.replicate_succ, List.replicate_zero, List.set_cons_succ, List.set_cons_zero, if_true, tm, cmD_is, D.isNon, leastO]
  | some a => cases b <;> simp only [evCs, evC.eq_1, evC.eq_2, evC.eq_3, evC.eq_4, evC.eq_7, evC.eq_8, evC.eq_9, evC.eq_10, evC.eq_11, evC.eq_12, evE.eq_1, evE.eq_2, evE.eq_3, evE.eq_4, evE.eq_5, evE.eq_6, evE.eq_7, evE.eq_8, evE.eq_9, evE.eq_10, evE.eq_11, evE.eq_12, evE.eq_13, evE.eq_14, evE.eq_15, evE.eq_16, evE.eq_17, evE.eq_18, evE.eq_19, evE.eq_20, evE.eq_21, evE.eq_22, evE.eq_24, evE.eq_25, evE.eq_26, evE.eq_27, evE.eq_28, evEs, evG, evGs, rs_ok, List.map_cons, List.map_nil, List.length_cons, List.length_nil, List.cons_append, List.nil_append, List.getElem?_cons_zero, List.getElem?_cons_succ, Nat.zero_add, Nat.reduceAdd, Nat.reduceSub, List.replicate_succ, List.replicate_zero, List.set_cons_succ, List.set_cons_zero, if_true, tm, cmD_is, D.isNon, leastO, bltD]
theorem great_ok {m : Mu} (a b : Option Int) : gGreat K A [tm a, tm b] m = .ok (tm (greatO a b)) m := by
  unfold gGreat runF b_greatest_term
  cases a with
  | none => cases b <;> simp only [evCs, evC.eq_1, evC.eq_2, evC.eq_3, evC.eq_4, evC.eq_7, evC.eq_8, evC.eq_9, evC.eq_10, evC.eq_11, evC.eq_12, evE.eq_1, evE.eq_2, evE.eq_3, evE.eq_4, evE.eq_5, evE.eq_6, evE.eq_7, evE.eq_8, evE.eq_9, evE.eq_10, evE.eq_11, evE.eq_12, evE.eq_13, evE.eq_14, evE.eq_15, evE.eq_16, evE.eq_17, evE.eq_18, evE.eq_19, evE.eq_20, evE.eq_21, evE.eq_22, evE.eq_24, evE.eq_25, evE.eq_26, evE.eq_27, evE.eq_28, evEs, evG, evGs, rs_ok, List.map_cons, List.map_nil, List.length_cons, List.length_nil, List.cons_append, List.nil_append, List.getElem?_cons_zero, List.getElem?_cons_succ, Nat.zero_add, Nat.reduceAdd, Nat.reduceSub, List.replicate_succ, List.replicate_zero, List.set_cons_succ, List.set_cons_zero, if_true, tm, cmD_is, D.isNon, greatO]
  | some a => cases b <;> simp only [evCs, evC.eq_1, evC.eq_2, evC.eq_3, evC.eq_4, evC.eq_7, evC.eq_8, evC.eq_9, evC.eq_10, evC.eq_11, evC.eq_12, evE.eq_1, evE.eq_2, evE.eq_3, evE.eq_4, evE.eq_5, evE.eq_6, evE.eq_7, evE.eq_8, evE.eq_9, evE.eq_10, evE.eq_11, evE.eq_12, evE.eq_13, evE.eq_14, evE.eq_15, evE.eq_16, evE.eq_17, evE.eq_18, evE.eq_19, evE.eq_20, evE.eq_21, evE.eq_22, evE.eq_24, evE.eq_25, evE.eq_26, evE.eq_27, evE.eq_28, evEs, evG, evGs, rs_ok, List.map_cons, List.map_nil, List.length_cons, List.length_nil, List.cons_append, List.nil_append, List.getElem?_cons_zero, List.getElem?_cons_succ, Nat.zero_add, Nat.reduceAdd, Nat.reduceSub, List.replicate_succ, List.replicate_zero, List.set_cons_succ, List.set_cons_zero, if_true, tm, cmD_is, D.isNon, greatO, bltD, gt_iff_lt]
theorem w_two : (0 + 1 + 1 ≤ sizeLine) = True := by decide
theorem w_zero : (0 ≤ sizeLine) = True := by decide
theorem w_lt0 : (0 < sizeLine) = True := by decide
theorem w_lt1 : (0 + 1 < sizeLine) = True := by decide
theorem worse_eq_nil {G : Gm} {m : Mu} : cmD G .Eq (.lst []) (.lst []) m = .ok (.bl true) m := by
  have := eq_nil (G := G) (m := m) []
  simpa using this
theorem worse_eq_cons {G : Gm} {m : Mu} (a : Int) (l : List Int) : cmD G .Eq (.lst (.int a :: l.map .int)) (.lst []) m = .ok (.bl false) m := by
  have := eq_nil (G := G) (m := m) ((a :: l).map some)
  simpa [tm, Function.comp_def] using this
def worseG (s : Int) (a b : Option Int) : Option Int := match a, b with
  | none, none => none
  | none, some b => some (s * (s * b))
  | some a, none => some (s * (s * a))
  | some a, some b => some (s * (if s * b < s * a then s * b else s * a))
theorem worse_run {m : Mu} {s : Int} (hs : smallI s = true) (a b : Option Int) : g_law_worse K A [tm a, tm b, .int s] m = .ok (tm (worseG s a b)) m := by
  have e1 : ∀ {G : Gm} {m : Mu} (a b : Int), cmD G .Eq (.lst [.int a, .int b]) (.lst []) m = .ok (.bl false) m := fun a b => worse_eq_cons a [b]
  have e2 : ∀ {G : Gm} {m : Mu} (a : Int), cmD G .Eq (.lst [.int a]) (.lst []) m = .ok (.bl false) m := fun a => worse_eq_cons a []
  unfold g_law_worse runF b__law_worse
  cases a <;> cases b <;> simp only [evCs, evC.eq_1, evC.eq_2, evC.eq_3, evC.eq_4, evC.eq_7, evC.eq_8, evC.eq_9, evC.eq_10, evC.eq_11, evC.eq_12, evE.eq_1, evE.eq_2, evE.eq_3, evE.eq_4, evE.eq_5, evE.eq_6, evE.eq_7, evE.eq_8, evE.eq_9, evE.eq_10, evE.eq_11, evE.eq_12, evE.eq_13, evE.eq_14, evE.eq_15, evE.eq_16, evE.eq_17, evE.eq_18, evE.eq_19, evE.eq_20, evE.eq_21, evE.eq_22, evE.eq_24, evE.eq_25, evE.eq_26, evE.eq_27, evE.eq_28, evEs, evG, evGs, rs_ok, List.map_cons, List.map_nil, List.length_cons, List.length_nil, List.cons_append, List.nil_append, List.getElem?_cons_zero, List.getElem?_cons_succ, Nat.zero_add, Nat.reduceAdd, Nat.reduceSub, List.replicate_succ, List.replicate_zero, List.set_cons_succ, List.set_cons_zero, if_true, show N__law_worse.length = 5 from rfl, tm, evI, w_two, w_zero, evE_lc, lcL, lcT, evT, wipeD, cmD_isNot, D.isNon, Bool.not_true, Bool.not_false, Bool.false_eq_true, if_false, opD_mulL hs, w_lt0, w_lt1, Rs.noX, worse_eq_nil, e1, e2, bltD, look, Option.bind_some, intsOf, Option.map_some, minL, worseG]
theorem worse_one {m : Mu} (a b : Option Int) : g_law_worse K A [tm a, tm b, .int 1] m = .ok (tm (leastO a b)) m := by
  rw [worse_run K A rfl]
  congr 2
  cases a <;> cases b <;> simp [worseG, leastO]
theorem worse_neg {m : Mu} (a b : Option Int) : g_law_worse K A [tm a, tm b, .int (-1)] m = .ok (tm (greatO a b)) m := by
  rw [worse_run K A rfl]
  congr 2
  cases a <;> cases b <;> simp [worseG, greatO]
  split <;> omega
end K26

set_option maxRecDepth 100000
set_option maxHeartbeats 1000000
namespace K26
open PySem L2 Pm
variable (K : PySem.W.Frag) (A : Addr)
/-- a bound as an object -/
def rowS (r : Option Int × List (Option Int)) : List (Str × D) := [("_left", tm r.1), ("_lost", .tup (r.2.map tm))]
def rowI (r : Option Int × List (Option Int)) : D := .ins "LifeRow" (rowS r)
theorem ins_row {m : Mu} (r : Option Int × List (Option Int)) : insOf m (rowI r) = some (("LifeRow" : Str), rowS r) := rfl
section
variable {K : PySem.W.Frag} {A : Addr} {m : Mu}
theorem att_left0 {G : Gm} (h : G.fl "LifeRow" "_left" = true) (r : Option Int × List (Option Int)) : attD G m (rowI r) "_left" = .ok (tm r.1) m := by
  unfold attD
  rw [ins_row]
  simp only [h, if_true]
  rfl
theorem att_lost0 {G : Gm} (h : G.fl "LifeRow" "_lost" = true) (r : Option Int × List (Option Int)) : attD G m (rowI r) "_lost" = .ok (.tup (r.2.map tm)) m := by
  unfold attD
  rw [ins_row]
  simp only [h, if_true]
  rfl
theorem left_ok (r : Option Int × List (Option Int)) : gLeft K A [rowI r] m = .ok (tm r.1) m := by
  have := att_left0 (m := m) (G := G0 K A) rfl r
  unfold gLeft runF b_LifeRow_left
  simp only [evCs, evC.eq_1, evC.eq_2, evC.eq_3, evC.eq_4, evC.eq_7, evC.eq_8, evC.eq_9, evC.eq_10, evC.eq_11, evC.eq_12, evE.eq_1, evE.eq_2, evE.eq_3, evE.eq_4, evE.eq_5, evE.eq_6, evE.eq_7, evE.eq_8, evE.eq_9, evE.eq_10, evE.eq_11, evE.eq_12, evE.eq_13, evE.eq_14, evE.eq_15, evE.eq_16, evE.eq_17, evE.eq_18, evE.eq_19, evE.eq_20, evE.eq_21, evE.eq_22, evE.eq_24, evE.eq_25, evE.eq_26, evE.eq_27, evE.eq_28, evEs, evG, evGs, rs_ok, List.map_cons, List.map_nil, List.length_cons, List.length_nil, List.cons_append, List.nil_append, List.getElem?_cons_zero, List.getElem?_cons_succ, Nat.zero_add, Nat.reduceAdd, Nat.reduceSub, List.replicate_succ, List.replicate_zero, List.set_cons_succ, List.set_cons_zero, if_true, this]
theorem lost_ok (r : Option Int × List (Option Int)) : gLost K A [rowI r] m = .ok (.tup (r.2.map tm)) m := by
  have := att_lost0 (m := m) (G := G0 K A) rfl r
  unfold gLost runF b_LifeRow_lost
  simp only [evCs, evC.eq_1, evC.eq_2, evC.eq_3, evC.eq_4, evC.eq_7, evC.eq_8, evC.eq_9, evC.eq_10, evC.eq_11, evC.eq_12, evE.eq_1, evE.eq_2, evE.eq_3, evE.eq_4, evE.eq_5, evE.eq_6, evE.eq_7, evE.eq_8, evE.eq_9, evE.eq_10, evE.eq_11, evE.eq_12, evE.eq_13, evE.eq_14, evE.eq_15, evE.eq_16, evE.eq_17, evE.eq_18, evE.eq_19, evE.eq_20, evE.eq_21, evE.eq_22, evE.eq_24, evE.eq_25, evE.eq_26, evE.eq_27, evE.eq_28, evEs, evG, evGs, rs_ok, List.map_cons, List.map_nil, List.length_cons, List.length_nil, List.cons_append, List.nil_append, List.getElem?_cons_zero, List.getElem?_cons_succ, Nat.zero_add, Nat.reduceAdd, Nat.reduceSub, List.replicate_succ, List.replicate_zero, List.set_cons_succ, List.set_cons_zero, if_true, this]
/-- the tables from the class on -/
structure TabOk (G : Gm) : Prop where
  fl1 : G.fl "LifeRow" "_left" = true
  fl2 : G.fl "LifeRow" "_lost" = true
  f1 : G.fl "LifeRow" "left" = false
  f2 : G.fl "LifeRow" "lost" = false
  p1 : G.pr "LifeRow" "left" = some (gLeft K A)
  p2 : G.pr "LifeRow" "lost" = some (gLost K A)
  cs : G.cs "LifeRow" = some (mkFn "LifeRow" true (gInit K A))
theorem att_left {G : Gm} (h : TabOk (K := K) (A := A) G) (r : Option Int × List (Option Int)) : attD G m (rowI r) "left" = .ok (tm r.1) m := by
  unfold attD
  rw [ins_row]
  simp only [h.f1, h.p1, Bool.false_eq_true, if_false, left_ok, Rs.noX]
theorem att_lost {G : Gm} (h : TabOk (K := K) (A := A) G) (r : Option Int × List (Option Int)) : attD G m (rowI r) "lost" = .ok (.tup (r.2.map tm)) m := by
  unfold attD
  rw [ins_row]
  simp only [h.f2, h.p2, Bool.false_eq_true, if_false, lost_ok, Rs.noX]
theorem set_last (o o' : O) : (m ++ [o]).set m.length o' = m ++ [o'] := by
  rw [List.set_append_right _ _ (Nat.le_refl _), Nat.sub_self]; rfl
theorem get_last (o : O) : (m ++ [o])[m.length]? = some o := by simp
theorem mk_ok {X : D} {l : Option Int} {ls : List (Option Int)} (h : ∀ o : O, bltD (G0 K A) .tuple [X] (m ++ [o]) = .ok (.tup (ls.map tm)) (m ++ [o])) : mkFn "LifeRow" true (gInit K A) [tm l, X] m = .ok (rowI (l, ls)) (m ++ [.dead]) := by
  have hi : gInit K A [.own m.length, tm l, X] (m ++ [.ins "LifeRow" []]) = .ok .non (m ++ [.ins "LifeRow" [("_left", tm l), ("_lost", .tup (ls.map tm))]]) := by
    have z : (0 < 1000) = True := by decide
    have z1 : (0 + 1 < 1000) = True := by decide
    unfold gInit runF b_LifeRow___init__
    simp only [evCs, evC.eq_1, evC.eq_2, evC.eq_3, evC.eq_4, evC.eq_7, evC.eq_8, evC.eq_9, evC.eq_10, evC.eq_11, evC.eq_12, evE.eq_1, evE.eq_2, evE.eq_3, evE.eq_4, evE.eq_5, evE.eq_6, evE.eq_7, evE.eq_8, evE.eq_9, evE.eq_10, evE.eq_11, evE.eq_12, evE.eq_13, evE.eq_14, evE.eq_15, evE.eq_16, evE.eq_17, evE.eq_18, evE.eq_19, evE.eq_20, evE.eq_21, evE.eq_22, evE.eq_24, evE.eq_25, evE.eq_26, evE.eq_27, evE.eq_28, evEs, evG, evGs, rs_ok, List.map_cons, List.map_nil, List.length_cons, List.length_nil, List.cons_append, List.nil_append, List.getElem?_cons_zero, List.getElem?_cons_succ, Nat.zero_add, Nat.reduceAdd, Nat.reduceSub, List.replicate_succ, List.replicate_zero, List.set_cons_succ, List.set_cons_zero, if_true, get_last, show (G0 K A).fl "LifeRow" "_left" = true from rfl, show (G0 K A).fl "LifeRow" "_lost" = true from rfl, z, z1, set_last, putD, h]
    rfl
  unfold mkFn
  rw [hi, rs_ok, get_last]
  simp only [if_true, set_last]
  rfl
theorem mk_tup {l : Option Int} {ls : List (Option Int)} : mkFn "LifeRow" true (gInit K A) [tm l, .tup (ls.map tm)] m = .ok (rowI (l, ls)) (m ++ [.dead]) := mk_ok fun _ => rfl
theorem mk_lst {l : Option Int} {ls : List (Option Int)} : mkFn "LifeRow" true (gInit K A) [tm l, .lst (ls.map tm)] m = .ok (rowI (l, ls)) (m ++ [.dead]) := mk_ok fun _ => rfl
theorem mk_own {l : Option Int} {ls : List (Option Int)} {p : Nat} (hp : m[p]? = some (.lst (ls.map tm))) : mkFn "LifeRow" true (gInit K A) [tm l, .own p] m = .ok (rowI (l, ls)) (m ++ [.dead]) := mk_ok fun o => by
  have : (m ++ [o])[p]? = some (.lst (ls.map tm)) := by rw [List.getElem?_append_left (List.getElem?_eq_some_iff.mp hp).1]; exact hp
  simp only [bltD, look, this]
theorem parts_ok (r : Option Int × List (Option Int)) : g_law_parts_of K A [rowI r] m = .ok (rowD r) m := by
  have h : TabOk (K := K) (A := A) (H_law_alike K A) := ⟨rfl, rfl, rfl, rfl, rfl, rfl, rfl⟩
  unfold g_law_parts_of runF b__law_parts_of
  simp only [evCs, evC.eq_1, evC.eq_2, evC.eq_3, evC.eq_4, evC.eq_7, evC.eq_8, evC.eq_9, evC.eq_10, evC.eq_11, evC.eq_12, evE.eq_1, evE.eq_2, evE.eq_3, evE.eq_4, evE.eq_5, evE.eq_6, evE.eq_7, evE.eq_8, evE.eq_9, evE.eq_10, evE.eq_11, evE.eq_12, evE.eq_13, evE.eq_14, evE.eq_15, evE.eq_16, evE.eq_17, evE.eq_18, evE.eq_19, evE.eq_20, evE.eq_21, evE.eq_22, evE.eq_24, evE.eq_25, evE.eq_26, evE.eq_27, evE.eq_28, evEs, evG, evGs, rs_ok, List.map_cons, List.map_nil, List.length_cons, List.length_nil, List.cons_append, List.nil_append, List.getElem?_cons_zero, List.getElem?_cons_succ, Nat.zero_add, Nat.reduceAdd, Nat.reduceSub, List.replicate_succ, List.replicate_zero, List.set_cons_succ, List.set_cons_zero, if_true, show N__law_parts_of.length = 1 from rfl, att_left h, att_lost h, w_two]
  rfl
end
end K26

set_option maxRecDepth 100000
set_option maxHeartbeats 1000000
namespace K26
open PySem L2 Pm
section
variable {K : PySem.W.Frag} {A : Addr} {m : Mu}
def greatL (ls ks : List (Option Int)) : List (Option Int) := (ls.zip ks).map fun p => greatO p.1 p.2
def pairD (p : Option Int × Option Int) : D := .tup [tm p.1, tm p.2]
theorem zip_tm : ∀ ls ks : List (Option Int), List.zipWith (fun x y => D.tup [x, y]) (ls.map tm) (ks.map tm) = (ls.zip ks).map pairD
  | [], _ => by simp
  | _ :: _, [] => by simp
  | a :: ls, b :: ks => by
    rw [List.map_cons, List.map_cons, List.zipWith_cons_cons, List.zip_cons_cons, List.map_cons, zip_tm ls ks]
    rfl
theorem zip_len (ls ks : List (Option Int)) (h : ls.length ≤ 3) : (ls.zip ks).length ≤ sizeLine := by
  have := three
  rw [List.length_zip]
  omega
theorem fl1 {n : Str} : (G1 K A).fl "LifeRow" "_left" = true := rfl
/-- the meeting of two bounds -/
theorem and_ok (r s : Option Int × List (Option Int)) (h : r.2.length ≤ 3) : gAnd K A [rowI r, rowI s] m = .ok (rowI (leastO r.1 s.1, greatL r.2 s.2)) (m ++ [.dead]) := by
  have f1 : (G1 K A).fn "least_term" = some (gLeast K A) := rfl
  have f2 : (G1 K A).fn "greatest_term" = some (gGreat K A) := rfl
  have fc : (G1 K A).cs "LifeRow" = some (mkFn "LifeRow" true (gInit K A)) := rfl
  have a1 : ∀ r (m : Mu), attD (G1 K A) m (rowI r) "_left" = .ok (tm r.1) m := fun r m => att_left0 rfl r
  have a2 : ∀ r (m : Mu), attD (G1 K A) m (rowI r) "_lost" = .ok (.tup (r.2.map tm)) m := fun r m => att_lost0 rfl r
  have lc : ∀ l x y, evE (G1 K A) (.lc false (.tup [(.nm 3), (.nm 4)]) (.zip (.att (.var 0) "_lost") (.att (.var 1) "_lost")) none (.fn "greatest_term" [(.var 3), (.var 4)]) [3, 4]) [some (rowI r), some (rowI s), some l, x, y] m = .ok (.lst ((greatL r.2 s.2).map tm)) m := fun l x y => by
    have := lc_srcM (G := G1 K A) (m := m) (ρ := [some (rowI r), some (rowI s), some l, x, y]) (g := .tup [(.nm 3), (.nm 4)]) (it := .zip (.att (.var 0) "_lost") (.att (.var 1) "_lost")) (elt := .fn "greatest_term" [(.var 3), (.var 4)]) (ws := [3, 4]) (r.2.zip s.2) pairD (fun p => tm (greatO p.1 p.2))
      (by rw [← zip_tm]; refine evI_zip ?_ ?_ <;> simp only [evCs, evC.eq_1, evC.eq_2, evC.eq_3, evC.eq_4, evC.eq_7, evC.eq_8, evC.eq_9, evC.eq_10, evC.eq_11, evC.eq_12, evE.eq_1, evE.eq_2, evE.eq_3, evE.eq_4, evE.eq_5, evE.eq_6, evE.eq_7, evE.eq_8, evE.eq_9, evE.eq_10, evE.eq_11, evE.eq_12, evE.eq_13, evE.eq_14, evE.eq_15, evE.eq_16, evE.eq_17, evE.eq_18, evE.eq_19, evE.eq_20, evE.eq_21, evE.eq_22, evE.eq_24, evE.eq_25, evE.eq_26, evE.eq_27, evE.eq_28, evEs, evG, evGs, rs_ok, List.map_cons, List.map_nil, List.length_cons, List.length_nil, List.cons_append, List.nil_append, List.getElem?_cons_zero, List.getElem?_cons_succ, Nat.zero_add, Nat.reduceAdd, Nat.reduceSub, List.replicate_succ, List.replicate_zero, List.set_cons_succ, List.set_cons_zero, if_true, a2]) (zip_len _ _ h) fun p _ => by
        simp only [evCs, evC.eq_1, evC.eq_2, evC.eq_3, evC.eq_4, evC.eq_7, evC.eq_8, evC.eq_9, evC.eq_10, evC.eq_11, evC.eq_12, evE.eq_1, evE.eq_2, evE.eq_3, evE.eq_4, evE.eq_5, evE.eq_6, evE.eq_7, evE.eq_8, evE.eq_9, evE.eq_10, evE.eq_11, evE.eq_12, evE.eq_13, evE.eq_14, evE.eq_15, evE.eq_16, evE.eq_17, evE.eq_18, evE.eq_19, evE.eq_20, evE.eq_21, evE.eq_22, evE.eq_24, evE.eq_25, evE.eq_26, evE.eq_27, evE.eq_28, evEs, evG, evGs, rs_ok, List.map_cons, List.map_nil, List.length_cons, List.length_nil, List.cons_append, List.nil_append, List.getElem?_cons_zero, List.getElem?_cons_succ, Nat.zero_add, Nat.reduceAdd, Nat.reduceSub, List.replicate_succ, List.replicate_zero, List.set_cons_succ, List.set_cons_zero, if_true, pairD, wipeD, f2, great_ok]
    rw [this, greatL, List.map_map]
    rfl
  unfold gAnd runF b_LifeRow___and__
  simp only [evCs, evC.eq_1, evC.eq_2, evC.eq_3, evC.eq_4, evC.eq_7, evC.eq_8, evC.eq_9, evC.eq_10, evC.eq_11, evC.eq_12, evE.eq_1, evE.eq_2, evE.eq_3, evE.eq_4, evE.eq_5, evE.eq_6, evE.eq_7, evE.eq_8, evE.eq_9, evE.eq_10, evE.eq_11, evE.eq_12, evE.eq_13, evE.eq_14, evE.eq_15, evE.eq_16, evE.eq_17, evE.eq_18, evE.eq_19, evE.eq_20, evE.eq_21, evE.eq_22, evE.eq_24, evE.eq_25, evE.eq_26, evE.eq_27, evE.eq_28, evEs, evG, evGs, rs_ok, List.map_cons, List.map_nil, List.length_cons, List.length_nil, List.cons_append, List.nil_append, List.getElem?_cons_zero, List.getElem?_cons_succ, Nat.zero_add, Nat.reduceAdd, Nat.reduceSub, List.replicate_succ, List.replicate_zero, List.set_cons_succ, List.set_cons_zero, if_true, show N_LifeRow___and__.length = 5 from rfl, a1, f1, least_ok]
  simp only [lc, fc, rs_ok, mk_lst]
theorem lless_ok (r s : Option Int × List (Option Int)) (h : r.2.length ≤ 3) : g_law_least K A [rowD r, rowD s] m = .ok (rowD (leastO r.1 s.1, greatL r.2 s.2)) m := by
  have f1 : (H_law_worse K A).fn "_law_worse" = some (g_law_worse K A) := rfl
  have i0 : ∀ (r : Option Int × List (Option Int)) (m : Mu), liftO m (idxD m (rowD r) (.int 0)) = .ok (tm r.1) m := fun r m => idx_tup at0
  have i1 : ∀ (r : Option Int × List (Option Int)) (m : Mu), liftO m (idxD m (rowD r) (.int 1)) = .ok (.tup (r.2.map tm)) m := fun r m => idx_tup (ds := [tm r.1, .tup (r.2.map tm)]) (atN 1 rfl)
  have lc : ∀ x y z, evE (H_law_worse K A) (.lc false (.tup [(.nm 3), (.nm 4)]) (.zip (.idx (.var 0) (.con (.int 1))) (.idx (.var 1) (.con (.int 1)))) none (.fn "_law_worse" [(.var 3), (.var 4), (.neg (.con (.int 1)))]) [3, 4]) [some (rowD r), some (rowD s), x, y, z] m = .ok (.lst ((greatL r.2 s.2).map tm)) m := fun x y z => by
    have := lc_srcM (G := H_law_worse K A) (m := m) (ρ := [some (rowD r), some (rowD s), x, y, z]) (g := .tup [(.nm 3), (.nm 4)]) (it := .zip (.idx (.var 0) (.con (.int 1))) (.idx (.var 1) (.con (.int 1)))) (elt := .fn "_law_worse" [(.var 3), (.var 4), (.neg (.con (.int 1)))]) (ws := [3, 4]) (r.2.zip s.2) pairD (fun p => tm (greatO p.1 p.2))
      (by rw [← zip_tm]; refine evI_zip ?_ ?_ <;> simp only [evCs, evC.eq_1, evC.eq_2, evC.eq_3, evC.eq_4, evC.eq_7, evC.eq_8, evC.eq_9, evC.eq_10, evC.eq_11, evC.eq_12, evE.eq_1, evE.eq_2, evE.eq_3, evE.eq_4, evE.eq_5, evE.eq_6, evE.eq_7, evE.eq_8, evE.eq_9, evE.eq_10, evE.eq_11, evE.eq_12, evE.eq_13, evE.eq_14, evE.eq_15, evE.eq_16, evE.eq_17, evE.eq_18, evE.eq_19, evE.eq_20, evE.eq_21, evE.eq_22, evE.eq_24, evE.eq_25, evE.eq_26, evE.eq_27, evE.eq_28, evEs, evG, evGs, rs_ok, List.map_cons, List.map_nil, List.length_cons, List.length_nil, List.cons_append, List.nil_append, List.getElem?_cons_zero, List.getElem?_cons_succ, Nat.zero_add, Nat.reduceAdd, Nat.reduceSub, List.replicate_succ, List.replicate_zero, List.set_cons_succ, List.set_cons_zero, if_true, i1]) (zip_len _ _ h) fun p _ => by
        simp only [evCs, evC.eq_1, evC.eq_2, evC.eq_3, evC.eq_4, evC.eq_7, evC.eq_8, evC.eq_9, evC.eq_10, evC.eq_11, evC.eq_12, evE.eq_1, evE.eq_2, evE.eq_3, evE.eq_4, evE.eq_5, evE.eq_6, evE.eq_7, evE.eq_8, evE.eq_9, evE.eq_10, evE.eq_11, evE.eq_12, evE.eq_13, evE.eq_14, evE.eq_15, evE.eq_16, evE.eq_17, evE.eq_18, evE.eq_19, evE.eq_20, evE.eq_21, evE.eq_22, evE.eq_24, evE.eq_25, evE.eq_26, evE.eq_27, evE.eq_28, evEs, evG, evGs, rs_ok, List.map_cons, List.map_nil, List.length_cons, List.length_nil, List.cons_append, List.nil_append, List.getElem?_cons_zero, List.getElem?_cons_succ, Nat.zero_add, Nat.reduceAdd, Nat.reduceSub, List.replicate_succ, List.replicate_zero, List.set_cons_succ, List.set_cons_zero, if_true, pairD, wipeD, f1, worse_neg]
    rw [this, greatL, List.map_map]
    rfl
  unfold g_law_least runF b__law_least
  simp only [evCs, evC.eq_1, evC.eq_2, evC.eq_3, evC.eq_4, evC.eq_7, evC.eq_8, evC.eq_9, evC.eq_10, evC.eq_11, evC.eq_12, evE.eq_1, evE.eq_2, evE.eq_3, evE.eq_4, evE.eq_5, evE.eq_6, evE.eq_7, evE.eq_8, evE.eq_9, evE.eq_10, evE.eq_11, evE.eq_12, evE.eq_13, evE.eq_14, evE.eq_15, evE.eq_16, evE.eq_17, evE.eq_18, evE.eq_19, evE.eq_20, evE.eq_21, evE.eq_22, evE.eq_24, evE.eq_25, evE.eq_26, evE.eq_27, evE.eq_28, evEs, evG, evGs, rs_ok, List.map_cons, List.map_nil, List.length_cons, List.length_nil, List.cons_append, List.nil_append, List.getElem?_cons_zero, List.getElem?_cons_succ, Nat.zero_add, Nat.reduceAdd, Nat.reduceSub, List.replicate_succ, List.replicate_zero, List.set_cons_succ, List.set_cons_zero, if_true, show N__law_least.length = 5 from rfl]
  simp only [lc, rs_ok, i0, f1, worse_one, List.set_cons_succ, List.set_cons_zero, List.getElem?_cons_zero, List.getElem?_cons_succ, bltD, look, w_two, if_true]
  rfl
end
end K26

set_option maxRecDepth 100000
set_option maxHeartbeats 1000000
namespace K26
open PySem L2 Pm
section
variable {K : PySem.W.Frag} {A : Addr} {m : Mu}
theorem ri0 (r : Option Int × List (Option Int)) (m : Mu) : liftO m (idxD m (rowD r) (.int 0)) = .ok (tm r.1) m := idx_tup at0
theorem ri1 (r : Option Int × List (Option Int)) (m : Mu) : liftO m (idxD m (rowD r) (.int 1)) = .ok (.tup (r.2.map tm)) m := idx_tup (ds := [tm r.1, .tup (r.2.map tm)]) (atN 1 rfl)
def subL (t : Int) : Option Int → Option Int
  | none => none
  | some a => some (if -1 < a - t then a - t else -1)
def addL (t : Int) : Option Int → Option Int
  | none => none
  | some a => some (if a + t < 61 then a + t else 61)
theorem len_le {ls : List (Option Int)} (h : ls.length ≤ 3) : ls.length ≤ sizeLine := by have := three; omega
theorem sub_ok (r : Option Int × List (Option Int)) (t : Int) (h : r.2.length ≤ 3) : gSub K A [rowI r, .int t] m = .ok (rowI (subL t r.1, r.2.map (addL t))) (m ++ [.dead]) := by
  have fc : (G1 K A).cs "LifeRow" = some (mkFn "LifeRow" true (gInit K A)) := rfl
  have a1 : ∀ r (m : Mu), attD (G1 K A) m (rowI r) "_left" = .ok (tm r.1) m := fun r m => att_left0 rfl r
  have a2 : ∀ r (m : Mu), attD (G1 K A) m (rowI r) "_lost" = .ok (.tup (r.2.map tm)) m := fun r m => att_lost0 rfl r
  have lc : ∀ l x, evE (G1 K A) (.lc false (.nm 3) (.val (.att (.var 0) "_lost")) none (.ife (.cmp .Is (.var 3) (.con .non)) (.con .non) (.blt .min [(.bin .Add (.var 3) (.var 1)), (.con (.int 61))])) [3]) [some (rowI r), some (.int t), l, x] m = .ok (.lst ((r.2.map (addL t)).map tm)) m := fun l x => by
    have := lc_srcM (G := G1 K A) (m := m) (ρ := [some (rowI r), some (.int t), l, x]) (g := .nm 3) (it := .val (.att (.var 0) "_lost")) (elt := .ife (.cmp .Is (.var 3) (.con .non)) (.con .non) (.blt .min [(.bin .Add (.var 3) (.var 1)), (.con (.int 61))])) (ws := [3]) r.2 tm (fun p => tm (addL t p))
      (evI_tup (by simp only [evCs, evC.eq_1, evC.eq_2, evC.eq_3, evC.eq_4, evC.eq_7, evC.eq_8, evC.eq_9, evC.eq_10, evC.eq_11, evC.eq_12, evE.eq_1, evE.eq_2, evE.eq_3, evE.eq_4, evE.eq_5, evE.eq_6, evE.eq_7, evE.eq_8, evE.eq_9, evE.eq_10, evE.eq_11, evE.eq_12, evE.eq_13, evE.eq_14, evE.eq_15, evE.eq_16, evE.eq_17, evE.eq_18, evE.eq_19, evE.eq_20, evE.eq_21, evE.eq_22, evE.eq_24, evE.eq_25, evE.eq_26, evE.eq_27, evE.eq_28, evEs, evG, evGs, rs_ok, List.map_cons, List.map_nil, List.length_cons, List.length_nil, List.cons_append, List.nil_append, List.getElem?_cons_zero, List.getElem?_cons_succ, Nat.zero_add, Nat.reduceAdd, Nat.reduceSub, List.replicate_succ, List.replicate_zero, List.set_cons_succ, List.set_cons_zero, if_true, a2])) (len_le h) fun p _ => by
        cases p <;> simp only [evCs, evC.eq_1, evC.eq_2, evC.eq_3, evC.eq_4, evC.eq_7, evC.eq_8, evC.eq_9, evC.eq_10, evC.eq_11, evC.eq_12, evE.eq_1, evE.eq_2, evE.eq_3, evE.eq_4, evE.eq_5, evE.eq_6, evE.eq_7, evE.eq_8, evE.eq_9, evE.eq_10, evE.eq_11, evE.eq_12, evE.eq_13, evE.eq_14, evE.eq_15, evE.eq_16, evE.eq_17, evE.eq_18, evE.eq_19, evE.eq_20, evE.eq_21, evE.eq_22, evE.eq_24, evE.eq_25, evE.eq_26, evE.eq_27, evE.eq_28, evEs, evG, evGs, rs_ok, List.map_cons, List.map_nil, List.length_cons, List.length_nil, List.cons_append, List.nil_append, List.getElem?_cons_zero, List.getElem?_cons_succ, Nat.zero_add, Nat.reduceAdd, Nat.reduceSub, List.replicate_succ, List.replicate_zero, List.set_cons_succ, List.set_cons_zero, if_true, wipeD, tm, cmD_is, D.isNon, addL, opD_add, bltD]
        split <;> split <;> first | rfl | (exfalso; omega) | (congr 2; omega)
    rw [this, List.map_map]
    rfl
  have el : evE (G1 K A) (.ife (.cmp .Is (.att (.var 0) "_left") (.con .non)) (.con .non) (.blt .max [(.bin .Sub (.att (.var 0) "_left") (.var 1)), (.neg (.con (.int 1)))])) [some (rowI r), some (.int t), none, none] m = .ok (tm (subL t r.1)) m := by
    cases h1 : r.1 with
    | none => simp only [evCs, evC.eq_1, evC.eq_2, evC.eq_3, evC.eq_4, evC.eq_7, evC.eq_8, evC.eq_9, evC.eq_10, evC.eq_11, evC.eq_12, evE.eq_1, evE.eq_2, evE.eq_3, evE.eq_4, evE.eq_5, evE.eq_6, evE.eq_7, evE.eq_8, evE.eq_9, evE.eq_10, evE.eq_11, evE.eq_12, evE.eq_13, evE.eq_14, evE.eq_15, evE.eq_16, evE.eq_17, evE.eq_18, evE.eq_19, evE.eq_20, evE.eq_21, evE.eq_22, evE.eq_24, evE.eq_25, evE.eq_26, evE.eq_27, evE.eq_28, evEs, evG, evGs, rs_ok, List.map_cons, List.map_nil, List.length_cons, List.length_nil, List.cons_append, List.nil_append, List.getElem?_cons_zero, List.getElem?_cons_succ, Nat.zero_add, Nat.reduceAdd, Nat.reduceSub, List.replicate_succ, List.replicate_zero, List.set_cons_succ, List.set_cons_zero, if_true, a1, h1, tm, cmD_is, D.isNon, subL]
    | some a =>
      simp only [evCs, evC.eq_1, evC.eq_2, evC.eq_3, evC.eq_4, evC.eq_7, evC.eq_8, evC.eq_9, evC.eq_10, evC.eq_11, evC.eq_12, evE.eq_1, evE.eq_2, evE.eq_3, evE.eq_4, evE.eq_5, evE.eq_6, evE.eq_7, evE.eq_8, evE.eq_9, evE.eq_10, evE.eq_11, evE.eq_12, evE.eq_13, evE.eq_14, evE.eq_15, evE.eq_16, evE.eq_17, evE.eq_18, evE.eq_19, evE.eq_20, evE.eq_21, evE.eq_22, evE.eq_24, evE.eq_25, evE.eq_26, evE.eq_27, evE.eq_28, evEs, evG, evGs, rs_ok, List.map_cons, List.map_nil, List.length_cons, List.length_nil, List.cons_append, List.nil_append, List.getElem?_cons_zero, List.getElem?_cons_succ, Nat.zero_add, Nat.reduceAdd, Nat.reduceSub, List.replicate_succ, List.replicate_zero, List.set_cons_succ, List.set_cons_zero, if_true, a1, h1, tm, cmD_is, D.isNon, opD_sub, bltD, gt_iff_lt, subL]
      split <;> split <;> first | rfl | (exfalso; omega) | (congr 2; omega)
  unfold gSub runF b_LifeRow___sub__
  rw [if_pos (show [rowI r, D.int t].length = 2 from rfl), show [rowI r, D.int t].map some ++ List.replicate (N_LifeRow___sub__.length - [rowI r, D.int t].length) none = [some (rowI r), some (.int t), none, none] from rfl, evCs, evC, el, rs_ok, evG, rs_ok, rs_ok]
  simp only [evCs, evC.eq_1, evC.eq_2, evC.eq_3, evC.eq_4, evC.eq_7, evC.eq_8, evC.eq_9, evC.eq_10, evC.eq_11, evC.eq_12, evE.eq_1, evE.eq_2, evE.eq_3, evE.eq_4, evE.eq_5, evE.eq_6, evE.eq_7, evE.eq_8, evE.eq_9, evE.eq_10, evE.eq_11, evE.eq_12, evE.eq_13, evE.eq_14, evE.eq_15, evE.eq_16, evE.eq_17, evE.eq_18, evE.eq_19, evE.eq_20, evE.eq_21, evE.eq_22, evE.eq_24, evE.eq_25, evE.eq_26, evE.eq_27, evE.eq_28, evEs, evG, evGs, rs_ok, List.map_cons, List.map_nil, List.length_cons, List.length_nil, List.cons_append, List.nil_append, List.getElem?_cons_zero, List.getElem?_cons_succ, Nat.zero_add, Nat.reduceAdd, Nat.reduceSub, List.replicate_succ, List.replicate_zero, List.set_cons_succ, List.set_cons_zero, if_true, lc, fc, mk_lst]
theorem less_ok (r : Option Int × List (Option Int)) (t : Int) (h : r.2.length ≤ 3) : g_law_less K A [rowD r, .int t] m = .ok (rowD (subL t r.1, r.2.map (addL t))) m := by
  have lc : ∀ l x, evE (H_law_parts_of K A) (.lc false (.nm 4) (.val (.var 3)) none (.ife (.cmp .Is (.var 4) (.con .non)) (.con .non) (.blt .min [(.con (.int 61)), (.bin .Add (.var 4) (.var 1))])) [4]) [some (rowD r), some (.int t), l, some (.tup (r.2.map tm)), x] m = .ok (.lst ((r.2.map (addL t)).map tm)) m := fun l x => by
    have := lc_srcM (G := H_law_parts_of K A) (m := m) (ρ := [some (rowD r), some (.int t), l, some (.tup (r.2.map tm)), x]) (g := .nm 4) (it := .val (.var 3)) (elt := .ife (.cmp .Is (.var 4) (.con .non)) (.con .non) (.blt .min [(.con (.int 61)), (.bin .Add (.var 4) (.var 1))])) (ws := [4]) r.2 tm (fun p => tm (addL t p))
      (evI_tup (evE_var rfl)) (len_le h) fun p _ => by
        cases p <;> simp only [evCs, evC.eq_1, evC.eq_2, evC.eq_3, evC.eq_4, evC.eq_7, evC.eq_8, evC.eq_9, evC.eq_10, evC.eq_11, evC.eq_12, evE.eq_1, evE.eq_2, evE.eq_3, evE.eq_4, evE.eq_5, evE.eq_6, evE.eq_7, evE.eq_8, evE.eq_9, evE.eq_10, evE.eq_11, evE.eq_12, evE.eq_13, evE.eq_14, evE.eq_15, evE.eq_16, evE.eq_17, evE.eq_18, evE.eq_19, evE.eq_20, evE.eq_21, evE.eq_22, evE.eq_24, evE.eq_25, evE.eq_26, evE.eq_27, evE.eq_28, evEs, evG, evGs, rs_ok, List.map_cons, List.map_nil, List.length_cons, List.length_nil, List.cons_append, List.nil_append, List.getElem?_cons_zero, List.getElem?_cons_succ, Nat.zero_add, Nat.reduceAdd, Nat.reduceSub, List.replicate_succ, List.replicate_zero, List.set_cons_succ, List.set_cons_zero, if_true, wipeD, tm, cmD_is, D.isNon, addL, opD_add, bltD]
    rw [this, List.map_map]
    rfl
  have el : ∀ x y, evE (H_law_parts_of K A) (.ife (.cmp .Is (.var 2) (.con .non)) (.con .non) (.blt .max [(.neg (.con (.int 1))), (.bin .Sub (.var 2) (.var 1))])) [some (rowD r), some (.int t), some (tm r.1), x, y] m = .ok (tm (subL t r.1)) m := fun x y => by
    cases h1 : r.1 with
    | none => simp only [evCs, evC.eq_1, evC.eq_2, evC.eq_3, evC.eq_4, evC.eq_7, evC.eq_8, evC.eq_9, evC.eq_10, evC.eq_11, evC.eq_12, evE.eq_1, evE.eq_2, evE.eq_3, evE.eq_4, evE.eq_5, evE.eq_6, evE.eq_7, evE.eq_8, evE.eq_9, evE.eq_10, evE.eq_11, evE.eq_12, evE.eq_13, evE.eq_14, evE.eq_15, evE.eq_16, evE.eq_17, evE.eq_18, evE.eq_19, evE.eq_20, evE.eq_21, evE.eq_22, evE.eq_24, evE.eq_25, evE.eq_26, evE.eq_27, evE.eq_28, evEs, evG, evGs, rs_ok, List.map_cons, List.map_nil, List.length_cons, List.length_nil, List.cons_append, List.nil_append, List.getElem?_cons_zero, List.getElem?_cons_succ, Nat.zero_add, Nat.reduceAdd, Nat.reduceSub, List.replicate_succ, List.replicate_zero, List.set_cons_succ, List.set_cons_zero, if_true, h1, tm, cmD_is, D.isNon, subL]
    | some a =>
      simp only [evCs, evC.eq_1, evC.eq_2, evC.eq_3, evC.eq_4, evC.eq_7, evC.eq_8, evC.eq_9, evC.eq_10, evC.eq_11, evC.eq_12, evE.eq_1, evE.eq_2, evE.eq_3, evE.eq_4, evE.eq_5, evE.eq_6, evE.eq_7, evE.eq_8, evE.eq_9, evE.eq_10, evE.eq_11, evE.eq_12, evE.eq_13, evE.eq_14, evE.eq_15, evE.eq_16, evE.eq_17, evE.eq_18, evE.eq_19, evE.eq_20, evE.eq_21, evE.eq_22, evE.eq_24, evE.eq_25, evE.eq_26, evE.eq_27, evE.eq_28, evEs, evG, evGs, rs_ok, List.map_cons, List.map_nil, List.length_cons, List.length_nil, List.cons_append, List.nil_append, List.getElem?_cons_zero, List.getElem?_cons_succ, Nat.zero_add, Nat.reduceAdd, Nat.reduceSub, List.replicate_succ, List.replicate_zero, List.set_cons_succ, List.set_cons_zero, if_true, h1, tm, cmD_is, D.isNon, opD_sub, bltD, gt_iff_lt, subL]
  unfold g_law_less runF b__law_less
  rw [if_pos (show [rowD r, D.int t].length = 2 from rfl), show [rowD r, D.int t].map some ++ List.replicate (N__law_less.length - [rowD r, D.int t].length) none = [some (rowD r), some (.int t), none, none, none] from rfl,
    evCs_nx (ρ' := [some (rowD r), some (.int t), some (tm r.1), some (.tup (r.2.map tm)), none]) (m' := m) (by simp only [evCs, evC.eq_1, evC.eq_2, evC.eq_3, evC.eq_4, evC.eq_7, evC.eq_8, evC.eq_9, evC.eq_10, evC.eq_11, evC.eq_12, evE.eq_1, evE.eq_2, evE.eq_3, evE.eq_4, evE.eq_5, evE.eq_6, evE.eq_7, evE.eq_8, evE.eq_9, evE.eq_10, evE.eq_11, evE.eq_12, evE.eq_13, evE.eq_14, evE.eq_15, evE.eq_16, evE.eq_17, evE.eq_18, evE.eq_19, evE.eq_20, evE.eq_21, evE.eq_22, evE.eq_24, evE.eq_25, evE.eq_26, evE.eq_27, evE.eq_28, evEs, evG, evGs, rs_ok, List.map_cons, List.map_nil, List.length_cons, List.length_nil, List.cons_append, List.nil_append, List.getElem?_cons_zero, List.getElem?_cons_succ, Nat.zero_add, Nat.reduceAdd, Nat.reduceSub, List.replicate_succ, List.replicate_zero, List.set_cons_succ, List.set_cons_zero, if_true, show rowD r = .tup [tm r.1, .tup (r.2.map tm)] from rfl]),
    evCs_nx (ρ' := [some (rowD r), some (.int t), some (tm (subL t r.1)), some (.tup (r.2.map tm)), none]) (m' := m) (by rw [evC, el, rs_ok, evG, rs_ok]; rfl)]
  simp only [evCs, evC.eq_1, evC.eq_2, evC.eq_3, evC.eq_4, evC.eq_7, evC.eq_8, evC.eq_9, evC.eq_10, evC.eq_11, evC.eq_12, evE.eq_1, evE.eq_2, evE.eq_3, evE.eq_4, evE.eq_5, evE.eq_6, evE.eq_7, evE.eq_8, evE.eq_9, evE.eq_10, evE.eq_11, evE.eq_12, evE.eq_13, evE.eq_14, evE.eq_15, evE.eq_16, evE.eq_17, evE.eq_18, evE.eq_19, evE.eq_20, evE.eq_21, evE.eq_22, evE.eq_24, evE.eq_25, evE.eq_26, evE.eq_27, evE.eq_28, evEs, evG, evGs, rs_ok, List.map_cons, List.map_nil, List.length_cons, List.length_nil, List.cons_append, List.nil_append, List.getElem?_cons_zero, List.getElem?_cons_succ, Nat.zero_add, Nat.reduceAdd, Nat.reduceSub, List.replicate_succ, List.replicate_zero, List.set_cons_succ, List.set_cons_zero, if_true, lc, bltD, look, w_two]
  rfl
end
end K26

set_option maxRecDepth 100000
set_option maxHeartbeats 1000000
namespace K26
open PySem L2 Pm
section
variable {K : PySem.W.Frag} {A : Addr} {m : Mu}
theorem ints_of : ∀ l : List Int, intsOf (l.map D.int) = some l
  | [] => rfl
  | a :: l => by rw [List.map_cons]; unfold intsOf; rw [ints_of l]; rfl
theorem min_some {l : List Int} (h : l ≠ []) : ∃ i, minL l = some i := by
  cases l with
  | nil => exact absurd rfl h
  | cons a l => unfold minL; cases minL l <;> exact ⟨_, rfl⟩
def terms (lv : List Int) (ls : List (Option Int)) : List Int := (lv.zip ls).filterMap fun p => p.2.map fun o => p.1 - o
def allT (r : Option Int × List (Option Int)) (lv : List Int) : List Int := terms lv r.2 ++ r.1.toList
theorem allT_ne {n : Nat} {r : Option Int × List (Option Int)} {lv : List Int} (h : RowOk n r) (hl : lv.length = n) : allT r lv ≠ [] := by
  obtain ⟨l, ls⟩ := r
  have h1 := h.len
  have h4 := h.some
  simp only at h1 h4
  unfold allT
  rcases h4 with h4 | ⟨o, ho, hn⟩
  · cases l with
    | none => exact absurd rfl h4
    | some a => simp
  · intro e
    rw [List.append_eq_nil_iff] at e
    have e := e.1
    unfold terms at e
    rw [List.filterMap_eq_nil_iff] at e
    obtain ⟨i, hi, rfl⟩ := List.mem_iff_getElem.mp ho
    have hi' : i < (lv.zip ls).length := by rw [List.length_zip]; omega
    have := e (lv.zip ls)[i] (List.getElem_mem hi')
    rw [List.getElem_zip] at this
    simp only [Option.map_eq_none_iff] at this
    exact hn this
def ioD (p : Int × Option Int) : D := .tup [.int p.1, tm p.2]
theorem zip_io : ∀ (lv : List Int) (ks : List (Option Int)), List.zipWith (fun x y => D.tup [x, y]) (lv.map D.int) (ks.map tm) = (lv.zip ks).map ioD
  | [], _ => by simp
  | _ :: _, [] => by simp
  | a :: ls, b :: ks => by
    rw [List.map_cons, List.map_cons, List.zipWith_cons_cons, List.zip_cons_cons, List.map_cons, zip_io ls ks]
    rfl
theorem zip_len' (lv : List Int) (ks : List (Option Int)) (h : lv.length ≤ 3) : (lv.zip ks).length ≤ sizeLine := by
  have := three
  rw [List.length_zip]
  omega
theorem terms_len (lv : List Int) (ls : List (Option Int)) : (terms lv ls).length ≤ lv.length := by
  unfold terms
  refine Nat.le_trans (List.length_filterMap_le ..) ?_
  rw [List.length_zip]; omega
theorem terms_map (lv : List Int) (ls : List (Option Int)) : (lv.zip ls).filterMap (fun p => p.2.map fun o => D.int (p.1 - o)) = (terms lv ls).map .int := by
  unfold terms
  rw [List.map_filterMap]
  congr 1
  funext p
  cases p.2 <;> rfl
theorem blt_max {G : Gm} {m : Mu} {a b : Int} : bltD G .max [.int a, .int b] m = .ok (.int (if a < b then b else a)) m := rfl
theorem call_ok {n : Nat} (hn : n ≤ 3) (r : Option Int × List (Option Int)) (h : RowOk n r) (lv : List Int) (hl : lv.length = n) {i : Int} (hi : minL (allT r lv) = some i) : gCall K A [rowI r, .tup (lv.map .int)] m = .ok (.int (if -1 < i then i else -1)) (m ++ [.lst ((allT r lv).map .int)]) := by
  have a1 : ∀ r (m : Mu), attD (G0 K A) m (rowI r) "_left" = .ok (tm r.1) m := fun r m => att_left0 rfl r
  have a2 : ∀ r (m : Mu), attD (G0 K A) m (rowI r) "_lost" = .ok (.tup (r.2.map tm)) m := fun r m => att_lost0 rfl r
  have lc : ∀ x y z, evE (G0 K A) (.lc true (.tup [(.nm 3), (.nm 4)]) (.zip (.var 1) (.att (.var 0) "_lost")) (some (.cmp .IsNot (.var 4) (.con .non))) (.bin .Sub (.var 3) (.var 4)) [3, 4]) [some (rowI r), some (.tup (lv.map .int)), x, y, z] m = .ok (.own m.length) (m ++ [.lst ((terms lv r.2).map .int)]) := fun x y z => by
    have := lc_srcO (G := G0 K A) (m := m) (ρ := [some (rowI r), some (.tup (lv.map .int)), x, y, z]) (g := .tup [(.nm 3), (.nm 4)]) (it := .zip (.var 1) (.att (.var 0) "_lost")) (c := some (.cmp .IsNot (.var 4) (.con .non))) (elt := .bin .Sub (.var 3) (.var 4)) (ws := [3, 4]) (lv.zip r.2) ioD (fun p => p.2.map fun o => D.int (p.1 - o))
      (by rw [← zip_io]; refine evI_zip ?_ ?_ <;> simp only [evCs, evC.eq_1, evC.eq_2, evC.eq_3, evC.eq_4, evC.eq_7, evC.eq_8, evC.eq_9, evC.eq_10, evC.eq_11, evC.eq_12, evE.eq_1, evE.eq_2, evE.eq_3, evE.eq_4, evE.eq_5, evE.eq_6, evE.eq_7, evE.eq_8, evE.eq_9, evE.eq_10, evE.eq_11, evE.eq_12, evE.eq_13, evE.eq_14, evE.eq_15, evE.eq_16, evE.eq_17, evE.eq_18, evE.eq_19, evE.eq_20, evE.eq_21, evE.eq_22, evE.eq_24, evE.eq_25, evE.eq_26, evE.eq_27, evE.eq_28, evEs, evG, evGs, rs_ok, List.map_cons, List.map_nil, List.length_cons, List.length_nil, List.cons_append, List.nil_append, List.getElem?_cons_zero, List.getElem?_cons_succ, Nat.zero_add, Nat.reduceAdd, Nat.reduceSub, List.replicate_succ, List.replicate_zero, List.set_cons_succ, List.set_cons_zero, if_true, a2]) (zip_len' _ _ (by omega)) fun p _ => by
        obtain ⟨a, b⟩ := p
        cases b <;> simp only [lcT, evT, evCs, evC.eq_1, evC.eq_2, evC.eq_3, evC.eq_4, evC.eq_7, evC.eq_8, evC.eq_9, evC.eq_10, evC.eq_11, evC.eq_12, evE.eq_1, evE.eq_2, evE.eq_3, evE.eq_4, evE.eq_5, evE.eq_6, evE.eq_7, evE.eq_8, evE.eq_9, evE.eq_10, evE.eq_11, evE.eq_12, evE.eq_13, evE.eq_14, evE.eq_15, evE.eq_16, evE.eq_17, evE.eq_18, evE.eq_19, evE.eq_20, evE.eq_21, evE.eq_22, evE.eq_24, evE.eq_25, evE.eq_26, evE.eq_27, evE.eq_28, evEs, evG, evGs, rs_ok, List.map_cons, List.map_nil, List.length_cons, List.length_nil, List.cons_append, List.nil_append, List.getElem?_cons_zero, List.getElem?_cons_succ, Nat.zero_add, Nat.reduceAdd, Nat.reduceSub, List.replicate_succ, List.replicate_zero, List.set_cons_succ, List.set_cons_zero, if_true, wipeD, ioD, tm, cmD_isNot, D.isNon, Bool.not_true, Bool.not_false, Bool.false_eq_true, if_false, opD_sub, Option.map_none, Option.map_some]
    rw [this, terms_map]
  have hap : evC (G0 K A) (.ife (.cmp .IsNot (.att (.var 0) "_left") (.con .non)) [(.expr (.bm (.var 2) .append [(.att (.var 0) "_left")]))] []) [some (rowI r), some (.tup (lv.map .int)), some (.own m.length), none, none] (m ++ [.lst ((terms lv r.2).map .int)]) = .ok (.nx [some (rowI r), some (.tup (lv.map .int)), some (.own m.length), none, none]) (m ++ [.lst ((allT r lv).map .int)]) := by
    have tl := terms_len lv r.2
    have z : ((terms lv r.2).map D.int).length < sizeLine := by have := three; rw [List.length_map]; omega
    have hg : lookT (m ++ [.lst ((terms lv r.2).map D.int)]) (.own m.length) = some ((terms lv r.2).map D.int) := by simp [lookT]
    unfold allT
    cases h1 : r.1 with
    | none => simp only [evCs, evC.eq_1, evC.eq_2, evC.eq_3, evC.eq_4, evC.eq_7, evC.eq_8, evC.eq_9, evC.eq_10, evC.eq_11, evC.eq_12, evE.eq_1, evE.eq_2, evE.eq_3, evE.eq_4, evE.eq_5, evE.eq_6, evE.eq_7, evE.eq_8, evE.eq_9, evE.eq_10, evE.eq_11, evE.eq_12, evE.eq_13, evE.eq_14, evE.eq_15, evE.eq_16, evE.eq_17, evE.eq_18, evE.eq_19, evE.eq_20, evE.eq_21, evE.eq_22, evE.eq_24, evE.eq_25, evE.eq_26, evE.eq_27, evE.eq_28, evEs, evG, evGs, rs_ok, List.map_cons, List.map_nil, List.length_cons, List.length_nil, List.cons_append, List.nil_append, List.getElem?_cons_zero, List.getElem?_cons_succ, Nat.zero_add, Nat.reduceAdd, Nat.reduceSub, List.replicate_succ, List.replicate_zero, List.set_cons_succ, List.set_cons_zero, if_true, a1, h1, tm, cmD_isNot, D.isNon, Bool.not_true, Option.toList_none, List.append_nil]
    | some a =>
      simp only [evCs, evC.eq_1, evC.eq_2, evC.eq_3, evC.eq_4, evC.eq_7, evC.eq_8, evC.eq_9, evC.eq_10, evC.eq_11, evC.eq_12, evE.eq_1, evE.eq_2, evE.eq_3, evE.eq_4, evE.eq_5, evE.eq_6, evE.eq_7, evE.eq_8, evE.eq_9, evE.eq_10, evE.eq_11, evE.eq_12, evE.eq_13, evE.eq_14, evE.eq_15, evE.eq_16, evE.eq_17, evE.eq_18, evE.eq_19, evE.eq_20, evE.eq_21, evE.eq_22, evE.eq_24, evE.eq_25, evE.eq_26, evE.eq_27, evE.eq_28, evEs, evG, evGs, rs_ok, List.map_cons, List.map_nil, List.length_cons, List.length_nil, List.cons_append, List.nil_append, List.getElem?_cons_zero, List.getElem?_cons_succ, Nat.zero_add, Nat.reduceAdd, Nat.reduceSub, List.replicate_succ, List.replicate_zero, List.set_cons_succ, List.set_cons_zero, if_true, a1, h1, tm, cmD_isNot, D.isNon, Bool.not_false, Option.toList_some, hg, mtD, get_last, z, set_last, List.map_append]
  have hmin : ∀ mm : Mu, mm[m.length]? = some (.lst ((allT r lv).map .int)) → bltD (G0 K A) .min [.own m.length] mm = .ok (.int i) mm := fun mm e => by
    simp only [bltD, look, e, Option.bind_some, ints_of, hi]
  unfold gCall runF b_LifeRow___call__
  rw [if_pos (show [rowI r, D.tup (lv.map .int)].length = 2 from rfl), show [rowI r, D.tup (lv.map .int)].map some ++ List.replicate (N_LifeRow___call__.length - [rowI r, D.tup (lv.map .int)].length) none = [some (rowI r), some (.tup (lv.map .int)), none, none, none] from rfl,
    evCs_nx (ρ' := [some (rowI r), some (.tup (lv.map .int)), some (.own m.length), none, none]) (m' := m ++ [.lst ((terms lv r.2).map .int)]) (by rw [evC, lc, rs_ok, evG, rs_ok]; rfl), evCs_nx hap]
  simp only [evCs, evC.eq_1, evC.eq_2, evC.eq_3, evC.eq_4, evC.eq_7, evC.eq_8, evC.eq_9, evC.eq_10, evC.eq_11, evC.eq_12, evE.eq_1, evE.eq_2, evE.eq_3, evE.eq_4, evE.eq_5, evE.eq_6, evE.eq_7, evE.eq_8, evE.eq_9, evE.eq_10, evE.eq_11, evE.eq_12, evE.eq_13, evE.eq_14, evE.eq_15, evE.eq_16, evE.eq_17, evE.eq_18, evE.eq_19, evE.eq_20, evE.eq_21, evE.eq_22, evE.eq_24, evE.eq_25, evE.eq_26, evE.eq_27, evE.eq_28, evEs, evG, evGs, rs_ok, List.map_cons, List.map_nil, List.length_cons, List.length_nil, List.cons_append, List.nil_append, List.getElem?_cons_zero, List.getElem?_cons_succ, Nat.zero_add, Nat.reduceAdd, Nat.reduceSub, List.replicate_succ, List.replicate_zero, List.set_cons_succ, List.set_cons_zero, if_true, hmin _ (get_last _), blt_max]
  rw [show (if -1 < i then i else -1) = (if i < -1 then (-1 : Int) else i) by split <;> split <;> omega]
theorem bound_ok {n : Nat} (hn : n ≤ 3) (r : Option Int × List (Option Int)) (h : RowOk n r) (lv : List Int) (hl : lv.length = n) {i : Int} (hi : minL (allT r lv) = some i) : g_law_bound K A [rowD r, .tup (lv.map .int)] m = .ok (.int (if -1 < i then i else -1)) m := by
  have lc : ∀ z x y w, evE (H_law_row K A) (.lc false (.tup [(.nm 5), (.nm 6)]) (.zip (.var 1) (.var 3)) (some (.cmp .IsNot (.var 6) (.con .non))) (.bin .Sub (.var 5) (.var 6)) [5, 6]) [some (rowD r), some (.tup (lv.map .int)), z, some (.tup (r.2.map tm)), x, y, w] m = .ok (.lst ((terms lv r.2).map .int)) m := fun z x y w => by
    have := lc_src (G := H_law_row K A) (m := m) (ρ := [some (rowD r), some (.tup (lv.map .int)), z, some (.tup (r.2.map tm)), x, y, w]) (g := .tup [(.nm 5), (.nm 6)]) (it := .zip (.var 1) (.var 3)) (c := some (.cmp .IsNot (.var 6) (.con .non))) (elt := .bin .Sub (.var 5) (.var 6)) (ws := [5, 6]) (lv.zip r.2) ioD (fun p => p.2.map fun o => D.int (p.1 - o))
      (by rw [← zip_io]; refine evI_zip ?_ ?_ <;> simp only [evCs, evC.eq_1, evC.eq_2, evC.eq_3, evC.eq_4, evC.eq_7, evC.eq_8, evC.eq_9, evC.eq_10, evC.eq_11, evC.eq_12, evE.eq_1, evE.eq_2, evE.eq_3, evE.eq_4, evE.eq_5, evE.eq_6, evE.eq_7, evE.eq_8, evE.eq_9, evE.eq_10, evE.eq_11, evE.eq_12, evE.eq_13, evE.eq_14, evE.eq_15, evE.eq_16, evE.eq_17, evE.eq_18, evE.eq_19, evE.eq_20, evE.eq_21, evE.eq_22, evE.eq_24, evE.eq_25, evE.eq_26, evE.eq_27, evE.eq_28, evEs, evG, evGs, rs_ok, List.map_cons, List.map_nil, List.length_cons, List.length_nil, List.cons_append, List.nil_append, List.getElem?_cons_zero, List.getElem?_cons_succ, Nat.zero_add, Nat.reduceAdd, Nat.reduceSub, List.replicate_succ, List.replicate_zero, List.set_cons_succ, List.set_cons_zero, if_true]) (zip_len' _ _ (by omega)) fun p _ => by
        obtain ⟨a, b⟩ := p
        cases b <;> simp only [lcT, evT, evCs, evC.eq_1, evC.eq_2, evC.eq_3, evC.eq_4, evC.eq_7, evC.eq_8, evC.eq_9, evC.eq_10, evC.eq_11, evC.eq_12, evE.eq_1, evE.eq_2, evE.eq_3, evE.eq_4, evE.eq_5, evE.eq_6, evE.eq_7, evE.eq_8, evE.eq_9, evE.eq_10, evE.eq_11, evE.eq_12, evE.eq_13, evE.eq_14, evE.eq_15, evE.eq_16, evE.eq_17, evE.eq_18, evE.eq_19, evE.eq_20, evE.eq_21, evE.eq_22, evE.eq_24, evE.eq_25, evE.eq_26, evE.eq_27, evE.eq_28, evEs, evG, evGs, rs_ok, List.map_cons, List.map_nil, List.length_cons, List.length_nil, List.cons_append, List.nil_append, List.getElem?_cons_zero, List.getElem?_cons_succ, Nat.zero_add, Nat.reduceAdd, Nat.reduceSub, List.replicate_succ, List.replicate_zero, List.set_cons_succ, List.set_cons_zero, if_true, wipeD, ioD, tm, cmD_isNot, D.isNon, Bool.not_true, Bool.not_false, Bool.false_eq_true, if_false, opD_sub, Option.map_none, Option.map_some]
    rw [this, terms_map]
  have tl := terms_len lv r.2
  have ad : opD (H_law_row K A) .Add (.lst ((terms lv r.2).map .int)) (.lst (r.1.toList.map .int)) m = .ok (.lst ((allT r lv).map .int)) m := by
    have z : ((terms lv r.2).map D.int).length + (r.1.toList.map D.int).length ≤ sizeLine := by
      have zz : 4 ≤ sizeLine := by decide
      rw [List.length_map, List.length_map]
      have : r.1.toList.length ≤ 1 := by cases r.1 <;> simp
      omega
    simp only [opD, binD, binL, lookT, z, if_true, allT, List.map_append]
  have el : ∀ x y w, evE (H_law_row K A) (.bin .Mult (.lst [(.var 2)]) (.blt .int [(.cmp .IsNot (.var 2) (.con .non))])) [some (rowD r), some (.tup (lv.map .int)), some (tm r.1), some (.tup (r.2.map tm)), x, y, w] m = .ok (.lst (r.1.toList.map .int)) m := fun x y w => by
    have z1 : (0 + 1 ≤ sizeLine) = True := by decide
    cases h1 : r.1 with
    | none => simp only [evCs, evC.eq_1, evC.eq_2, evC.eq_3, evC.eq_4, evC.eq_7, evC.eq_8, evC.eq_9, evC.eq_10, evC.eq_11, evC.eq_12, evE.eq_1, evE.eq_2, evE.eq_3, evE.eq_4, evE.eq_5, evE.eq_6, evE.eq_7, evE.eq_8, evE.eq_9, evE.eq_10, evE.eq_11, evE.eq_12, evE.eq_13, evE.eq_14, evE.eq_15, evE.eq_16, evE.eq_17, evE.eq_18, evE.eq_19, evE.eq_20, evE.eq_21, evE.eq_22, evE.eq_24, evE.eq_25, evE.eq_26, evE.eq_27, evE.eq_28, evEs, evG, evGs, rs_ok, List.map_cons, List.map_nil, List.length_cons, List.length_nil, List.cons_append, List.nil_append, List.getElem?_cons_zero, List.getElem?_cons_succ, Nat.zero_add, Nat.reduceAdd, Nat.reduceSub, List.replicate_succ, List.replicate_zero, List.set_cons_succ, List.set_cons_zero, if_true, h1, z1, tm, cmD_isNot, D.isNon, bltD, Bool.not_true]; rfl
    | some a => simp only [evCs, evC.eq_1, evC.eq_2, evC.eq_3, evC.eq_4, evC.eq_7, evC.eq_8, evC.eq_9, evC.eq_10, evC.eq_11, evC.eq_12, evE.eq_1, evE.eq_2, evE.eq_3, evE.eq_4, evE.eq_5, evE.eq_6, evE.eq_7, evE.eq_8, evE.eq_9, evE.eq_10, evE.eq_11, evE.eq_12, evE.eq_13, evE.eq_14, evE.eq_15, evE.eq_16, evE.eq_17, evE.eq_18, evE.eq_19, evE.eq_20, evE.eq_21, evE.eq_22, evE.eq_24, evE.eq_25, evE.eq_26, evE.eq_27, evE.eq_28, evEs, evG, evGs, rs_ok, List.map_cons, List.map_nil, List.length_cons, List.length_nil, List.cons_append, List.nil_append, List.getElem?_cons_zero, List.getElem?_cons_succ, Nat.zero_add, Nat.reduceAdd, Nat.reduceSub, List.replicate_succ, List.replicate_zero, List.set_cons_succ, List.set_cons_zero, if_true, h1, z1, tm, cmD_isNot, D.isNon, bltD, Bool.not_false]; rfl
  unfold g_law_bound runF b__law_bound
  rw [if_pos (show [rowD r, D.tup (lv.map .int)].length = 2 from rfl), show [rowD r, D.tup (lv.map .int)].map some ++ List.replicate (N__law_bound.length - [rowD r, D.tup (lv.map .int)].length) none = [some (rowD r), some (.tup (lv.map .int)), none, none, none, none, none] from rfl,
    evCs_nx (ρ' := [some (rowD r), some (.tup (lv.map .int)), some (tm r.1), some (.tup (r.2.map tm)), none, none, none]) (m' := m) (by simp only [evCs, evC.eq_1, evC.eq_2, evC.eq_3, evC.eq_4, evC.eq_7, evC.eq_8, evC.eq_9, evC.eq_10, evC.eq_11, evC.eq_12, evE.eq_1, evE.eq_2, evE.eq_3, evE.eq_4, evE.eq_5, evE.eq_6, evE.eq_7, evE.eq_8, evE.eq_9, evE.eq_10, evE.eq_11, evE.eq_12, evE.eq_13, evE.eq_14, evE.eq_15, evE.eq_16, evE.eq_17, evE.eq_18, evE.eq_19, evE.eq_20, evE.eq_21, evE.eq_22, evE.eq_24, evE.eq_25, evE.eq_26, evE.eq_27, evE.eq_28, evEs, evG, evGs, rs_ok, List.map_cons, List.map_nil, List.length_cons, List.length_nil, List.cons_append, List.nil_append, List.getElem?_cons_zero, List.getElem?_cons_succ, Nat.zero_add, Nat.reduceAdd, Nat.reduceSub, List.replicate_succ, List.replicate_zero, List.set_cons_succ, List.set_cons_zero, if_true, show rowD r = .tup [tm r.1, .tup (r.2.map tm)] from rfl]),
    evCs_nx (ρ' := [some (rowD r), some (.tup (lv.map .int)), some (tm r.1), some (.tup (r.2.map tm)), some (.lst ((allT r lv).map .int)), none, none]) (m' := m) (by rw [evC, evE, lc, rs_ok, el, rs_ok, ad, rs_ok, evG, rs_ok]; rfl)]
  simp only [evCs, evC.eq_1, evC.eq_2, evC.eq_3, evC.eq_4, evC.eq_7, evC.eq_8, evC.eq_9, evC.eq_10, evC.eq_11, evC.eq_12, evE.eq_1, evE.eq_2, evE.eq_3, evE.eq_4, evE.eq_5, evE.eq_6, evE.eq_7, evE.eq_8, evE.eq_9, evE.eq_10, evE.eq_11, evE.eq_12, evE.eq_13, evE.eq_14, evE.eq_15, evE.eq_16, evE.eq_17, evE.eq_18, evE.eq_19, evE.eq_20, evE.eq_21, evE.eq_22, evE.eq_24, evE.eq_25, evE.eq_26, evE.eq_27, evE.eq_28, evEs, evG, evGs, rs_ok, List.map_cons, List.map_nil, List.length_cons, List.length_nil, List.cons_append, List.nil_append, List.getElem?_cons_zero, List.getElem?_cons_succ, Nat.zero_add, Nat.reduceAdd, Nat.reduceSub, List.replicate_succ, List.replicate_zero, List.set_cons_succ, List.set_cons_zero, if_true, bltD, look, Option.bind_some, ints_of, hi, gt_iff_lt]
end
end K26

set_option maxRecDepth 100000
set_option maxHeartbeats 1000000
namespace K26
open PySem L2 Pm
section
variable {K : PySem.W.Frag} {A : Addr} {m : Mu}
def badL : Option Int → Option Int → Bool
  | _, none => false
  | none, some _ => true
  | some a, some b => decide (b < a)
def badR : Option Int → Option Int → Bool
  | _, none => false
  | none, some _ => true
  | some a, some b => decide (a < b)
def belowB (r s : Option Int × List (Option Int)) : Bool := !(badL r.1 s.1 || (r.2.zip s.2).any fun p => badR p.1 p.2)
theorem cm_gt0 {G : Gm} {a b : Int} : cmD G .Gt (.int a) (.int b) m = .ok (.bl (decide (b < a))) m := rfl
theorem below_ok (r s : Option Int × List (Option Int)) : gBelow K A [rowI r, rowI s] m = .ok (.bl (belowB r s)) m := by
  have a1 : ∀ r (m : Mu), attD (G0 K A) m (rowI r) "_left" = .ok (tm r.1) m := fun r m => att_left0 rfl r
  have a2 : ∀ r (m : Mu), attD (G0 K A) m (rowI r) "_lost" = .ok (.tup (r.2.map tm)) m := fun r m => att_lost0 rfl r
  have c0 : evE (G0 K A) (.and (.cmp .IsNot (.att (.var 1) "_left") (.con .non)) (.or (.cmp .Is (.att (.var 0) "_left") (.con .non)) (.cmp .Gt (.att (.var 0) "_left") (.att (.var 1) "_left")))) [some (rowI r), some (rowI s), none, none] m = .ok (.bl (badL r.1 s.1)) m := by
    cases h1 : r.1 <;> cases h2 : s.1 <;> simp only [evCs, evC.eq_1, evC.eq_2, evC.eq_3, evC.eq_4, evC.eq_7, evC.eq_8, evC.eq_9, evC.eq_10, evC.eq_11, evC.eq_12, evE.eq_1, evE.eq_2, evE.eq_3, evE.eq_4, evE.eq_5, evE.eq_6, evE.eq_7, evE.eq_8, evE.eq_9, evE.eq_10, evE.eq_11, evE.eq_12, evE.eq_13, evE.eq_14, evE.eq_15, evE.eq_16, evE.eq_17, evE.eq_18, evE.eq_19, evE.eq_20, evE.eq_21, evE.eq_22, evE.eq_24, evE.eq_25, evE.eq_26, evE.eq_27, evE.eq_28, evEs, evG, evGs, rs_ok, List.map_cons, List.map_nil, List.length_cons, List.length_nil, List.cons_append, List.nil_append, List.getElem?_cons_zero, List.getElem?_cons_succ, Nat.zero_add, Nat.reduceAdd, Nat.reduceSub, List.replicate_succ, List.replicate_zero, List.set_cons_succ, List.set_cons_zero, if_true, a1, h1, h2, tm, cmD_isNot, cmD_is, D.isNon, Bool.not_true, Bool.not_false, badL, cm_gt0]
  have loop := forL_find (m := m) (f := fun d ρ m => (evG (G0 K A) (.tup [(.nm 2), (.nm 3)]) d ρ m).bind fun ρ m => evCs (G0 K A) [(.ife (.and (.cmp .IsNot (.var 3) (.con .non)) (.or (.cmp .Is (.var 2) (.con .non)) (.cmp .Lt (.var 2) (.var 3)))) [(.ret (.con (.bl false)))] [])] ρ m) (ψ := pairD) (bad := fun p => badR p.1 p.2) (d := .bl false)
    (fun ρ => ∃ x y, ρ = [some (rowI r), some (rowI s), x, y]) (r.2.zip s.2) (ρ := [some (rowI r), some (rowI s), none, none]) (fun p _ ρ ⟨x, y, e⟩ => by
      subst e
      obtain ⟨a, b⟩ := p
      refine ⟨fun q => ?_, fun q => ⟨[some (rowI r), some (rowI s), some (tm a), some (tm b)], ?_, _, _, rfl⟩⟩
      · cases a <;> cases b <;> simp only [badR, Bool.false_eq_true] at q <;> simp only [evCs, evC.eq_1, evC.eq_2, evC.eq_3, evC.eq_4, evC.eq_7, evC.eq_8, evC.eq_9, evC.eq_10, evC.eq_11, evC.eq_12, evE.eq_1, evE.eq_2, evE.eq_3, evE.eq_4, evE.eq_5, evE.eq_6, evE.eq_7, evE.eq_8, evE.eq_9, evE.eq_10, evE.eq_11, evE.eq_12, evE.eq_13, evE.eq_14, evE.eq_15, evE.eq_16, evE.eq_17, evE.eq_18, evE.eq_19, evE.eq_20, evE.eq_21, evE.eq_22, evE.eq_24, evE.eq_25, evE.eq_26, evE.eq_27, evE.eq_28, evEs, evG, evGs, rs_ok, List.map_cons, List.map_nil, List.length_cons, List.length_nil, List.cons_append, List.nil_append, List.getElem?_cons_zero, List.getElem?_cons_succ, Nat.zero_add, Nat.reduceAdd, Nat.reduceSub, List.replicate_succ, List.replicate_zero, List.set_cons_succ, List.set_cons_zero, if_true, pairD, tm, cmD_isNot, cmD_is, D.isNon, Bool.not_true, Bool.not_false, cmD_lt, q]
      · cases a <;> cases b <;> simp only [badR, Bool.true_eq_false, Bool.false_eq_true, Bool.true_eq] at q <;> simp only [evCs, evC.eq_1, evC.eq_2, evC.eq_3, evC.eq_4, evC.eq_7, evC.eq_8, evC.eq_9, evC.eq_10, evC.eq_11, evC.eq_12, evE.eq_1, evE.eq_2, evE.eq_3, evE.eq_4, evE.eq_5, evE.eq_6, evE.eq_7, evE.eq_8, evE.eq_9, evE.eq_10, evE.eq_11, evE.eq_12, evE.eq_13, evE.eq_14, evE.eq_15, evE.eq_16, evE.eq_17, evE.eq_18, evE.eq_19, evE.eq_20, evE.eq_21, evE.eq_22, evE.eq_24, evE.eq_25, evE.eq_26, evE.eq_27, evE.eq_28, evEs, evG, evGs, rs_ok, List.map_cons, List.map_nil, List.length_cons, List.length_nil, List.cons_append, List.nil_append, List.getElem?_cons_zero, List.getElem?_cons_succ, Nat.zero_add, Nat.reduceAdd, Nat.reduceSub, List.replicate_succ, List.replicate_zero, List.set_cons_succ, List.set_cons_zero, if_true, pairD, tm, cmD_isNot, cmD_is, D.isNon, Bool.not_true, Bool.not_false, cmD_lt, q]) ⟨none, none, rfl⟩
  have hi : evI (G0 K A) (.zip (.att (.var 0) "_lost") (.att (.var 1) "_lost")) [some (rowI r), some (rowI s), none, none] m = .ok ((r.2.zip s.2).map pairD) m := by
    rw [← zip_tm]; refine evI_zip ?_ ?_ <;> simp only [evCs, evC.eq_1, evC.eq_2, evC.eq_3, evC.eq_4, evC.eq_7, evC.eq_8, evC.eq_9, evC.eq_10, evC.eq_11, evC.eq_12, evE.eq_1, evE.eq_2, evE.eq_3, evE.eq_4, evE.eq_5, evE.eq_6, evE.eq_7, evE.eq_8, evE.eq_9, evE.eq_10, evE.eq_11, evE.eq_12, evE.eq_13, evE.eq_14, evE.eq_15, evE.eq_16, evE.eq_17, evE.eq_18, evE.eq_19, evE.eq_20, evE.eq_21, evE.eq_22, evE.eq_24, evE.eq_25, evE.eq_26, evE.eq_27, evE.eq_28, evEs, evG, evGs, rs_ok, List.map_cons, List.map_nil, List.length_cons, List.length_nil, List.cons_append, List.nil_append, List.getElem?_cons_zero, List.getElem?_cons_succ, Nat.zero_add, Nat.reduceAdd, Nat.reduceSub, List.replicate_succ, List.replicate_zero, List.set_cons_succ, List.set_cons_zero, if_true, a2]
  unfold gBelow runF b_LifeRow_is_below
  rw [if_pos (show [rowI r, rowI s].length = 2 from rfl), show [rowI r, rowI s].map some ++ List.replicate (N_LifeRow_is_below.length - [rowI r, rowI s].length) none = [some (rowI r), some (rowI s), none, none] from rfl]
  unfold belowB
  cases e1 : badL r.1 s.1 with
  | true => rw [evCs_rt (d := .bl false) (m' := m) (by rw [evC, c0, rs_ok, e1]; simp only [evCs, evC.eq_1, evC.eq_2, evC.eq_3, evC.eq_4, evC.eq_7, evC.eq_8, evC.eq_9, evC.eq_10, evC.eq_11, evC.eq_12, evE.eq_1, evE.eq_2, evE.eq_3, evE.eq_4, evE.eq_5, evE.eq_6, evE.eq_7, evE.eq_8, evE.eq_9, evE.eq_10, evE.eq_11, evE.eq_12, evE.eq_13, evE.eq_14, evE.eq_15, evE.eq_16, evE.eq_17, evE.eq_18, evE.eq_19, evE.eq_20, evE.eq_21, evE.eq_22, evE.eq_24, evE.eq_25, evE.eq_26, evE.eq_27, evE.eq_28, evEs, evG, evGs, rs_ok, List.map_cons, List.map_nil, List.length_cons, List.length_nil, List.cons_append, List.nil_append, List.getElem?_cons_zero, List.getElem?_cons_succ, Nat.zero_add, Nat.reduceAdd, Nat.reduceSub, List.replicate_succ, List.replicate_zero, List.set_cons_succ, List.set_cons_zero, if_true]), rs_ok]; simp
  | false =>
    rw [evCs_nx (ρ' := [some (rowI r), some (rowI s), none, none]) (m' := m) (by rw [evC, c0, rs_ok, e1]; simp only [evCs, evC.eq_1, evC.eq_2, evC.eq_3, evC.eq_4, evC.eq_7, evC.eq_8, evC.eq_9, evC.eq_10, evC.eq_11, evC.eq_12, evE.eq_1, evE.eq_2, evE.eq_3, evE.eq_4, evE.eq_5, evE.eq_6, evE.eq_7, evE.eq_8, evE.eq_9, evE.eq_10, evE.eq_11, evE.eq_12, evE.eq_13, evE.eq_14, evE.eq_15, evE.eq_16, evE.eq_17, evE.eq_18, evE.eq_19, evE.eq_20, evE.eq_21, evE.eq_22, evE.eq_24, evE.eq_25, evE.eq_26, evE.eq_27, evE.eq_28, evEs, evG, evGs, rs_ok, List.map_cons, List.map_nil, List.length_cons, List.length_nil, List.cons_append, List.nil_append, List.getElem?_cons_zero, List.getElem?_cons_succ, Nat.zero_add, Nat.reduceAdd, Nat.reduceSub, List.replicate_succ, List.replicate_zero, List.set_cons_succ, List.set_cons_zero, if_true])]
    cases e2 : (r.2.zip s.2).any fun p => badR p.1 p.2 with
    | true => rw [evCs_rt (d := .bl false) (m' := m) (by rw [evC_for, hi, rs_ok]; exact loop.1 e2), rs_ok]; simp
    | false =>
      obtain ⟨ρ', e3, x, y, rfl⟩ := loop.2 e2
      rw [evCs_nx (ρ' := [some (rowI r), some (rowI s), x, y]) (m' := m) (by rw [evC_for, hi, rs_ok]; exact e3)]
      simp only [evCs, evC.eq_1, evC.eq_2, evC.eq_3, evC.eq_4, evC.eq_7, evC.eq_8, evC.eq_9, evC.eq_10, evC.eq_11, evC.eq_12, evE.eq_1, evE.eq_2, evE.eq_3, evE.eq_4, evE.eq_5, evE.eq_6, evE.eq_7, evE.eq_8, evE.eq_9, evE.eq_10, evE.eq_11, evE.eq_12, evE.eq_13, evE.eq_14, evE.eq_15, evE.eq_16, evE.eq_17, evE.eq_18, evE.eq_19, evE.eq_20, evE.eq_21, evE.eq_22, evE.eq_24, evE.eq_25, evE.eq_26, evE.eq_27, evE.eq_28, evEs, evG, evGs, rs_ok, List.map_cons, List.map_nil, List.length_cons, List.length_nil, List.cons_append, List.nil_append, List.getElem?_cons_zero, List.getElem?_cons_succ, Nat.zero_add, Nat.reduceAdd, Nat.reduceSub, List.replicate_succ, List.replicate_zero, List.set_cons_succ, List.set_cons_zero, if_true, Bool.or_false, Bool.not_false]
/-- a pair with its sign -/
def sgnD (p : Option Int × Option Int × Int) : D := .tup [tm p.1, tm p.2.1, .int p.2.2]
def badS (p : Option Int × Option Int × Int) : Bool := match p.1, p.2.1 with
  | _, none => false
  | none, some _ => true
  | some a, some b => decide (p.2.2 * b < p.2.2 * a)
theorem lbelow_ok (r s : Option Int × List (Option Int)) (h : r.2.length ≤ 3) : g_law_is_below K A [rowD r, rowD s] m = .ok (.bl (belowB r s)) m := by
  have lc : ∀ x y z, evE (H_law_least K A) (.lc false (.tup [(.nm 2), (.nm 3)]) (.zip (.idx (.var 0) (.con (.int 1))) (.idx (.var 1) (.con (.int 1)))) none (.tup [(.var 2), (.var 3), (.neg (.con (.int 1)))]) [2, 3]) [some (rowD r), some (rowD s), x, y, z] m = .ok (.lst (((r.2.zip s.2).map fun p => (p.1, p.2, (-1 : Int))).map sgnD)) m := fun x y z => by
    have z3 : (0 + 1 + 1 + 1 ≤ sizeLine) = True := by decide
    have := lc_srcM (G := H_law_least K A) (m := m) (ρ := [some (rowD r), some (rowD s), x, y, z]) (g := .tup [(.nm 2), (.nm 3)]) (it := .zip (.idx (.var 0) (.con (.int 1))) (.idx (.var 1) (.con (.int 1)))) (elt := .tup [(.var 2), (.var 3), (.neg (.con (.int 1)))]) (ws := [2, 3]) (r.2.zip s.2) pairD (fun p => sgnD (p.1, p.2, (-1 : Int)))
      (by rw [← zip_tm]; refine evI_zip ?_ ?_ <;> simp only [evCs, evC.eq_1, evC.eq_2, evC.eq_3, evC.eq_4, evC.eq_7, evC.eq_8, evC.eq_9, evC.eq_10, evC.eq_11, evC.eq_12, evE.eq_1, evE.eq_2, evE.eq_3, evE.eq_4, evE.eq_5, evE.eq_6, evE.eq_7, evE.eq_8, evE.eq_9, evE.eq_10, evE.eq_11, evE.eq_12, evE.eq_13, evE.eq_14, evE.eq_15, evE.eq_16, evE.eq_17, evE.eq_18, evE.eq_19, evE.eq_20, evE.eq_21, evE.eq_22, evE.eq_24, evE.eq_25, evE.eq_26, evE.eq_27, evE.eq_28, evEs, evG, evGs, rs_ok, List.map_cons, List.map_nil, List.length_cons, List.length_nil, List.cons_append, List.nil_append, List.getElem?_cons_zero, List.getElem?_cons_succ, Nat.zero_add, Nat.reduceAdd, Nat.reduceSub, List.replicate_succ, List.replicate_zero, List.set_cons_succ, List.set_cons_zero, if_true, ri1]) (zip_len _ _ h) fun p _ => by
        simp only [evCs, evC.eq_1, evC.eq_2, evC.eq_3, evC.eq_4, evC.eq_7, evC.eq_8, evC.eq_9, evC.eq_10, evC.eq_11, evC.eq_12, evE.eq_1, evE.eq_2, evE.eq_3, evE.eq_4, evE.eq_5, evE.eq_6, evE.eq_7, evE.eq_8, evE.eq_9, evE.eq_10, evE.eq_11, evE.eq_12, evE.eq_13, evE.eq_14, evE.eq_15, evE.eq_16, evE.eq_17, evE.eq_18, evE.eq_19, evE.eq_20, evE.eq_21, evE.eq_22, evE.eq_24, evE.eq_25, evE.eq_26, evE.eq_27, evE.eq_28, evEs, evG, evGs, rs_ok, List.map_cons, List.map_nil, List.length_cons, List.length_nil, List.cons_append, List.nil_append, List.getElem?_cons_zero, List.getElem?_cons_succ, Nat.zero_add, Nat.reduceAdd, Nat.reduceSub, List.replicate_succ, List.replicate_zero, List.set_cons_succ, List.set_cons_zero, if_true, pairD, wipeD, z3, sgnD]
    rw [this, List.map_map]
    rfl
  have it : ∀ x y z, evI (H_law_least K A) (.val (.bin .Add (.lst [(.tup [(.idx (.var 0) (.con (.int 0))), (.idx (.var 1) (.con (.int 0))), (.con (.int 1))])]) (.lc false (.tup [(.nm 2), (.nm 3)]) (.zip (.idx (.var 0) (.con (.int 1))) (.idx (.var 1) (.con (.int 1)))) none (.tup [(.var 2), (.var 3), (.neg (.con (.int 1)))]) [2, 3]))) [some (rowD r), some (rowD s), x, y, z] m = .ok (((r.1, s.1, (1 : Int)) :: (r.2.zip s.2).map fun p => (p.1, p.2, (-1 : Int))).map sgnD) m := fun x y z => by
    have z3 : (0 + 1 + 1 + 1 ≤ sizeLine) = True := by decide
    have z1 : (0 + 1 ≤ sizeLine) = True := by decide
    refine evI_lst ?_
    rw [evE]
    simp only [evCs, evC.eq_1, evC.eq_2, evC.eq_3, evC.eq_4, evC.eq_7, evC.eq_8, evC.eq_9, evC.eq_10, evC.eq_11, evC.eq_12, evE.eq_1, evE.eq_2, evE.eq_3, evE.eq_4, evE.eq_5, evE.eq_6, evE.eq_7, evE.eq_8, evE.eq_9, evE.eq_10, evE.eq_11, evE.eq_12, evE.eq_13, evE.eq_14, evE.eq_15, evE.eq_16, evE.eq_17, evE.eq_18, evE.eq_19, evE.eq_20, evE.eq_21, evE.eq_22, evE.eq_24, evE.eq_25, evE.eq_26, evE.eq_27, evE.eq_28, evEs, evG, evGs, rs_ok, List.map_cons, List.map_nil, List.length_cons, List.length_nil, List.cons_append, List.nil_append, List.getElem?_cons_zero, List.getElem?_cons_succ, Nat.zero_add, Nat.reduceAdd, Nat.reduceSub, List.replicate_succ, List.replicate_zero, List.set_cons_succ, List.set_cons_zero, if_true, ri0, z3, z1, lc]
    have zz : 4 ≤ sizeLine := by decide
    have zl : ([D.tup [tm r.1, tm s.1, .int 1]].length + (((r.2.zip s.2).map fun p => (p.1, p.2, (-1 : Int))).map sgnD).length ≤ sizeLine) = True := by
      simp only [List.length_map, List.length_cons, List.length_nil, List.length_zip, eq_iff_iff, iff_true]; omega
    simp only [opD, binD, binL, lookT, zl, if_true]
    rfl
  have loop := forL_find (m := m) (f := fun d ρ m => (evG (H_law_least K A) (.tup [(.nm 2), (.nm 3), (.nm 4)]) d ρ m).bind fun ρ m => evCs (H_law_least K A) [(.ife (.and (.cmp .IsNot (.var 3) (.con .non)) (.or (.cmp .Is (.var 2) (.con .non)) (.cmp .Gt (.bin .Mult (.var 4) (.var 2)) (.bin .Mult (.var 4) (.var 3))))) [(.ret (.con (.bl false)))] [])] ρ m) (ψ := sgnD) (bad := badS) (d := .bl false)
    (fun ρ => ∃ x y z, ρ = [some (rowD r), some (rowD s), x, y, z]) ((r.1, s.1, (1 : Int)) :: (r.2.zip s.2).map fun p => (p.1, p.2, (-1 : Int))) (ρ := [some (rowD r), some (rowD s), none, none, none]) (fun p hp ρ ⟨x, y, z, e⟩ => by
      subst e
      have hs : smallI p.2.2 = true := by
        rcases List.mem_cons.mp hp with rfl | hp
        · rfl
        · obtain ⟨q, _, rfl⟩ := List.mem_map.mp hp
          rfl
      obtain ⟨a, b, c⟩ := p
      simp only at hs
      refine ⟨fun q => ?_, fun q => ⟨[some (rowD r), some (rowD s), some (tm a), some (tm b), some (.int c)], ?_, _, _, _, rfl⟩⟩
      · cases a <;> cases b <;> simp only [badS, Bool.false_eq_true] at q <;> simp only [evCs, evC.eq_1, evC.eq_2, evC.eq_3, evC.eq_4, evC.eq_7, evC.eq_8, evC.eq_9, evC.eq_10, evC.eq_11, evC.eq_12, evE.eq_1, evE.eq_2, evE.eq_3, evE.eq_4, evE.eq_5, evE.eq_6, evE.eq_7, evE.eq_8, evE.eq_9, evE.eq_10, evE.eq_11, evE.eq_12, evE.eq_13, evE.eq_14, evE.eq_15, evE.eq_16, evE.eq_17, evE.eq_18, evE.eq_19, evE.eq_20, evE.eq_21, evE.eq_22, evE.eq_24, evE.eq_25, evE.eq_26, evE.eq_27, evE.eq_28, evEs, evG, evGs, rs_ok, List.map_cons, List.map_nil, List.length_cons, List.length_nil, List.cons_append, List.nil_append, List.getElem?_cons_zero, List.getElem?_cons_succ, Nat.zero_add, Nat.reduceAdd, Nat.reduceSub, List.replicate_succ, List.replicate_zero, List.set_cons_succ, List.set_cons_zero, if_true, sgnD, tm, cmD_isNot, cmD_is, D.isNon, Bool.not_true, Bool.not_false, opD_mulL hs, cm_gt0, q]
      · cases a <;> cases b <;> simp only [badS, Bool.true_eq_false, Bool.false_eq_true, Bool.true_eq] at q <;> simp only [evCs, evC.eq_1, evC.eq_2, evC.eq_3, evC.eq_4, evC.eq_7, evC.eq_8, evC.eq_9, evC.eq_10, evC.eq_11, evC.eq_12, evE.eq_1, evE.eq_2, evE.eq_3, evE.eq_4, evE.eq_5, evE.eq_6, evE.eq_7, evE.eq_8, evE.eq_9, evE.eq_10, evE.eq_11, evE.eq_12, evE.eq_13, evE.eq_14, evE.eq_15, evE.eq_16, evE.eq_17, evE.eq_18, evE.eq_19, evE.eq_20, evE.eq_21, evE.eq_22, evE.eq_24, evE.eq_25, evE.eq_26, evE.eq_27, evE.eq_28, evEs, evG, evGs, rs_ok, List.map_cons, List.map_nil, List.length_cons, List.length_nil, List.cons_append, List.nil_append, List.getElem?_cons_zero, List.getElem?_cons_succ, Nat.zero_add, Nat.reduceAdd, Nat.reduceSub, List.replicate_succ, List.replicate_zero, List.set_cons_succ, List.set_cons_zero, if_true, sgnD, tm, cmD_isNot, cmD_is, D.isNon, Bool.not_true, Bool.not_false, opD_mulL hs, cm_gt0, q]) ⟨none, none, none, rfl⟩
  have hB : belowB r s = !(((r.1, s.1, (1 : Int)) :: (r.2.zip s.2).map fun p => (p.1, p.2, (-1 : Int))).any badS) := by
    unfold belowB
    rw [List.any_cons, List.any_map]
    congr 2
    · obtain ⟨a, _⟩ := r
      obtain ⟨b, _⟩ := s
      cases a <;> cases b <;> simp [badL, badS]
    · congr 1
      funext ⟨a, b⟩
      cases a <;> cases b <;> simp [badR, badS]
  rw [hB]
  unfold g_law_is_below runF b__law_is_below
  rw [if_pos (show [rowD r, rowD s].length = 2 from rfl), show [rowD r, rowD s].map some ++ List.replicate (N__law_is_below.length - [rowD r, rowD s].length) none = [some (rowD r), some (rowD s), none, none, none] from rfl]
  cases e2 : (((r.1, s.1, (1 : Int)) :: (r.2.zip s.2).map fun p => (p.1, p.2, (-1 : Int))).any badS) with
  | true => rw [evCs_rt (d := .bl false) (m' := m) (by rw [evC_for, it, rs_ok]; exact loop.1 e2), rs_ok]; simp
  | false =>
    obtain ⟨ρ', e3, x, y, z, rfl⟩ := loop.2 e2
    rw [evCs_nx (ρ' := [some (rowD r), some (rowD s), x, y, z]) (m' := m) (by rw [evC_for, it, rs_ok]; exact e3)]
    simp only [evCs, evC.eq_1, evC.eq_2, evC.eq_3, evC.eq_4, evC.eq_7, evC.eq_8, evC.eq_9, evC.eq_10, evC.eq_11, evC.eq_12, evE.eq_1, evE.eq_2, evE.eq_3, evE.eq_4, evE.eq_5, evE.eq_6, evE.eq_7, evE.eq_8, evE.eq_9, evE.eq_10, evE.eq_11, evE.eq_12, evE.eq_13, evE.eq_14, evE.eq_15, evE.eq_16, evE.eq_17, evE.eq_18, evE.eq_19, evE.eq_20, evE.eq_21, evE.eq_22, evE.eq_24, evE.eq_25, evE.eq_26, evE.eq_27, evE.eq_28, evEs, evG, evGs, rs_ok, List.map_cons, List.map_nil, List.length_cons, List.length_nil, List.cons_append, List.nil_append, List.getElem?_cons_zero, List.getElem?_cons_succ, Nat.zero_add, Nat.reduceAdd, Nat.reduceSub, List.replicate_succ, List.replicate_zero, List.set_cons_succ, List.set_cons_zero, if_true, Bool.not_false]
end
end K26

set_option maxRecDepth 100000
set_option maxHeartbeats 1000000
namespace K26
open PySem L2 Pm
/-- a short text of signs -/
structure Sh (n : Nat) (t : Str) : Prop where
  ok : PyData.strOk t = true
  len : t.length ≤ n
theorem Sh.app {a b : Nat} {s t : Str} (h : Sh a s) (k : Sh b t) : Sh (a + b) (s ++ t) := ⟨by
  have h1 := h.ok
  have h2 := k.ok
  unfold PyData.strOk at *
  rw [Str.cps_append, Array.all_append, h1, h2]
  rfl, by rw [Str.length_append]; have := h.len; have := k.len; omega⟩
theorem Sh.le {a b : Nat} {s : Str} (h : Sh a s) (hb : a ≤ b) : Sh b s := ⟨h.ok, Nat.le_trans h.len hb⟩
theorem ints_sh : ((List.range 63).all fun n => PyData.strOk (PyData.shown (.int ((n : Int) - 1))) && decide ((PyData.shown (.int ((n : Int) - 1))).length ≤ 8)) = true := by decide +kernel
theorem int_sh {i : Int} (h1 : -1 ≤ i) (h2 : i ≤ 61) : Sh 8 (PyData.shown (.int i)) := by
  have h := List.all_eq_true.mp ints_sh (i + 1).toNat (List.mem_range.mpr (by omega))
  rw [Bool.and_eq_true, decide_eq_true_eq, show (((i + 1).toNat : Nat) : Int) - 1 = i by omega] at h
  exact ⟨h.1, h.2⟩
def InB (o : Option Int) : Prop := ∀ i, o = some i → -1 ≤ i ∧ i ≤ 61
theorem InL.b {o : Option Int} (h : InL o) : InB o := fun i e => by have := h i e; omega
theorem InT.b {o : Option Int} (h : InT o) : InB o := fun i e => by have := h i e; omega
theorem tm_sh {o : Option Int} (h : InB o) : Sh 8 (PyData.shown (tmP o)) := by
  cases o with
  | none => exact ⟨by decide +kernel, by decide +kernel⟩
  | some i => have := h i rfl; exact int_sh this.1 this.2
theorem join_sh : ∀ ls : List (Option Int), (∀ o ∈ ls, InB o) → Sh (10 * ls.length) (Str.join ", " (ls.map fun o => PyData.shown (tmP o)))
  | [], _ => ⟨by decide +kernel, by decide +kernel⟩
  | [o], h => by
    show Sh 10 (PyData.shown (tmP o))
    exact (tm_sh (h o List.mem_cons_self)).le (by omega)
  | o :: p :: ls, h => by
    have ih := join_sh (p :: ls) fun q hq => h q (List.mem_cons_of_mem _ hq)
    have h1 := tm_sh (h o List.mem_cons_self)
    have h2 : Sh 2 ((", " : String) : Str) := ⟨by decide +kernel, by decide +kernel⟩
    show Sh _ (PyData.shown (tmP o) ++ ", " ++ Str.join ", " ((p :: ls).map fun o => PyData.shown (tmP o)))
    exact ((h1.app h2).app ih).le (by simp only [List.length_cons]; omega)
theorem shownAll_tm : ∀ ls : List (Option Int), PyData.shownAll (ls.map tmP) = ls.map fun o => PyData.shown (tmP o)
  | [] => by simp [PyData.shownAll]
  | o :: ls => by rw [List.map_cons, List.map_cons, ← shownAll_tm ls]; simp [PyData.shownAll]
theorem tup_sh {ls : List (Option Int)} (h : ∀ o ∈ ls, InB o) : Sh (10 * ls.length + 3) (PyData.shown (.tuple (ls.map tmP))) := by
  have e : PyData.shown (.tuple (ls.map tmP)) = tupleText (ls.map fun o => PyData.shown (tmP o)) := by rw [← shownAll_tm]; simp [PyData.shown]
  rw [e]
  have h1 : Sh 1 (("(" : String) : Str) := ⟨by decide +kernel, by decide +kernel⟩
  have h2 : Sh 2 ((if ((ls.map fun o => PyData.shown (tmP o)).length == 1) = true then ",)" else ")" : String) : Str) := by
    split <;> exact ⟨by decide +kernel, by decide +kernel⟩
  exact ((h1.app (join_sh ls h)).app h2).le (by omega)
theorem showable_int {i : Int} (h1 : -1 ≤ i) (h2 : i ≤ 61) : (PyData.int i).showable = true := by
  have h : ((List.range 63).all fun n => (PyData.int ((n : Int) - 1)).showable) = true := by decide +kernel
  have h := List.all_eq_true.mp h (i + 1).toNat (List.mem_range.mpr (by omega))
  rw [show (((i + 1).toNat : Nat) : Int) - 1 = i by omega] at h
  exact h
theorem tm_showable {o : Option Int} (h : InB o) : (tmP o).showable = true := by
  cases o with
  | none => rfl
  | some i => have := h i rfl; exact showable_int this.1 this.2
theorem tms_showable : ∀ {ls : List (Option Int)}, (∀ o ∈ ls, InB o) → PyData.showableAll (ls.map tmP) = true
  | [], _ => by simp [PyData.showableAll]
  | o :: ls, h => by
    rw [List.map_cons]
    unfold PyData.showableAll
    rw [tm_showable (h o List.mem_cons_self), tms_showable fun q hq => h q (List.mem_cons_of_mem _ hq)]
    rfl
theorem tms_noDict : ∀ ls : List (Option Int), PyData.hasDictAll (ls.map tmP) = false
  | [] => by simp [PyData.hasDictAll]
  | o :: ls => by
    rw [List.map_cons]
    unfold PyData.hasDictAll
    rw [tms_noDict ls]
    cases o <;> rfl
theorem sh_tm {o : Option Int} (h : InB o) : shownD (tm o) = some (PyData.shown (tmP o)) := by
  have hl := (tm_sh h).len
  have z : 8 ≤ sizeLine := by decide
  unfold shownD
  rw [tm_py]
  have e : ((tmP o).showable && !(tmP o).hasDict && decide ((tmP o).depth < 100) && decide ((tmP o).shown.length ≤ sizeLine)) = true := by
    rw [tm_showable h, show (tmP o).hasDict = false by cases o <;> rfl, show (tmP o).depth = 0 by cases o <;> rfl, decide_eq_true (show (tmP o).shown.length ≤ sizeLine by omega)]
    rfl
  simp only [e, if_true]
theorem sh_tup {ls : List (Option Int)} (hn : ls.length ≤ 3) (h : ∀ o ∈ ls, InB o) : shownD (.tup (ls.map tm)) = some (PyData.shown (.tuple (ls.map tmP))) := by
  have hl := (tup_sh h).len
  have z : 33 ≤ sizeLine := by decide
  unfold shownD
  rw [tup_py]
  have e : ((PyData.tuple (ls.map tmP)).showable && !(PyData.tuple (ls.map tmP)).hasDict && decide ((PyData.tuple (ls.map tmP)).depth < 100) && decide ((PyData.tuple (ls.map tmP)).shown.length ≤ sizeLine)) = true := by
    rw [show (PyData.tuple (ls.map tmP)).showable = PyData.showableAll (ls.map tmP) by simp [PyData.showable], tms_showable h, show (PyData.tuple (ls.map tmP)).hasDict = PyData.hasDictAll (ls.map tmP) by simp [PyData.hasDict], tms_noDict, show (PyData.tuple (ls.map tmP)).depth = PyData.depthAll (ls.map tmP) + 1 by simp [PyData.depth], tms_depth, decide_eq_true (show (PyData.tuple (ls.map tmP)).shown.length ≤ sizeLine by omega)]
    rfl
  simp only [e, if_true]
end K26

set_option maxRecDepth 100000
set_option maxHeartbeats 1000000
namespace K26
open PySem L2 Pm
section
variable {K : PySem.W.Frag} {A : Addr} {m : Mu}
/-- the tables behind the class's operators -/
structure Tab2 (G : Gm) : Prop where
  cs : G.cs "LifeRow" = some (mkFn "LifeRow" true (gInit K A))
  ca : G.ca "LifeRow" = some (gCall K A)
  rp : G.rp "LifeRow" = some (gRepr K A)
  me : G.me "LifeRow" "is_below" = some (gBelow K A)
  an : G.op "LifeRow" .BitAnd = some (okArg (T0 K A) (okC A) (gAnd K A))
  su : G.op "LifeRow" .Sub = some (okArg (T0 K A) okI (gSub K A))
  eq : G.cm "LifeRow" .Eq = some (okArg (T0 K A) (okE A) (gEq K A))
  ne : G.cm "LifeRow" .NotEq = some (negR (okArg (T0 K A) (okE A) (gEq K A)))
theorem row_typ (r : Option Int × List (Option Int)) : (rowI r).typ (T0 K A) m = some (.ref A) := by
  unfold rowI D.typ T0
  simp only [if_true]
  rfl
theorem t0c : (T0 K A).cls "LifeRow" = some A := by
  show (if ("LifeRow" : Str) = "LifeRow" then some A else none) = some A
  exact if_pos rfl
theorem row_isi (r : Option Int × List (Option Int)) : isiD (G0 K A) m (rowI r) (.cls "LifeRow") = some true := by
  unfold isiD
  rw [show (G0 K A).T = T0 K A from rfl, row_typ]
  show kitD (G0 K A) (.ref A) (.cls "LifeRow") = some true
  unfold kitD D.asCls
  simp only [show (G0 K A).T = T0 K A from rfl, show (T0 K A).cls "LifeRow" = some A from t0c, Option.map_some]
  show isi0 A (.ref A) (.ref A) = some true
  unfold isi0
  simp
theorem eq_ok (r s : Option Int × List (Option Int)) : gEq K A [rowI r, rowI s] m = .ok (.bl (decide (r = s))) m := by
  have a1 : ∀ r (m : Mu), attD (G0 K A) m (rowI r) "_left" = .ok (tm r.1) m := fun r m => att_left0 rfl r
  have a2 : ∀ r (m : Mu), attD (G0 K A) m (rowI r) "_lost" = .ok (.tup (r.2.map tm)) m := fun r m => att_lost0 rfl r
  have c1 : cmD (G0 K A) .Eq (tm r.1) (tm s.1) m = .ok (.bl (decide (r.1 = s.1))) m := by
    rw [cmD_eq (tm_py r.1) (tm_py s.1) (by cases r.1 <;> rfl) (by cases s.1 <;> rfl), tmP_eqv]
  have c2 : cmD (G0 K A) .Eq (.tup (r.2.map tm)) (.tup (s.2.map tm)) m = .ok (.bl (decide (r.2 = s.2))) m := by
    rw [cmD_eq (tup_py r.2) (tup_py s.2) (tup_shaped r.2) (tup_shaped s.2), show PyData.eqv (.tuple (r.2.map tmP)) (.tuple (s.2.map tmP)) = PyData.eqvAll (r.2.map tmP) (s.2.map tmP) by simp [PyData.eqv], tms_eqv]
  unfold gEq runF b_LifeRow___eq__
  obtain ⟨a, l⟩ := r
  obtain ⟨b, k⟩ := s
  simp only at c1 c2
  by_cases h : a = b
  · subst h
    simp only [evCs, evC.eq_1, evC.eq_2, evC.eq_3, evC.eq_4, evC.eq_7, evC.eq_8, evC.eq_9, evC.eq_10, evC.eq_11, evC.eq_12, evE.eq_1, evE.eq_2, evE.eq_3, evE.eq_4, evE.eq_5, evE.eq_6, evE.eq_7, evE.eq_8, evE.eq_9, evE.eq_10, evE.eq_11, evE.eq_12, evE.eq_13, evE.eq_14, evE.eq_15, evE.eq_16, evE.eq_17, evE.eq_18, evE.eq_19, evE.eq_20, evE.eq_21, evE.eq_22, evE.eq_24, evE.eq_25, evE.eq_26, evE.eq_27, evE.eq_28, evEs, evG, evGs, rs_ok, List.map_cons, List.map_nil, List.length_cons, List.length_nil, List.cons_append, List.nil_append, List.getElem?_cons_zero, List.getElem?_cons_succ, Nat.zero_add, Nat.reduceAdd, Nat.reduceSub, List.replicate_succ, List.replicate_zero, List.set_cons_succ, List.set_cons_zero, if_true, isi_b (row_isi _), a1, a2, c1, c2, decide_true, Prod.mk.injEq, true_and]
  · simp only [evCs, evC.eq_1, evC.eq_2, evC.eq_3, evC.eq_4, evC.eq_7, evC.eq_8, evC.eq_9, evC.eq_10, evC.eq_11, evC.eq_12, evE.eq_1, evE.eq_2, evE.eq_3, evE.eq_4, evE.eq_5, evE.eq_6, evE.eq_7, evE.eq_8, evE.eq_9, evE.eq_10, evE.eq_11, evE.eq_12, evE.eq_13, evE.eq_14, evE.eq_15, evE.eq_16, evE.eq_17, evE.eq_18, evE.eq_19, evE.eq_20, evE.eq_21, evE.eq_22, evE.eq_24, evE.eq_25, evE.eq_26, evE.eq_27, evE.eq_28, evEs, evG, evGs, rs_ok, List.map_cons, List.map_nil, List.length_cons, List.length_nil, List.cons_append, List.nil_append, List.getElem?_cons_zero, List.getElem?_cons_succ, Nat.zero_add, Nat.reduceAdd, Nat.reduceSub, List.replicate_succ, List.replicate_zero, List.set_cons_succ, List.set_cons_zero, if_true, isi_b (row_isi _), a1, a2, c1, c2, h, decide_false, Prod.mk.injEq, false_and]
/-- what is no bound -/
theorem eq_odd (r : Option Int × List (Option Int)) {d : D} {t : Value} (ht : d.typ (T0 K A) m = some t) (h1 : tys.contains t = true) (h2 : t ≠ .ref A) : gEq K A [rowI r, d] m = .ok (.bl false) m := by
  have hi : isiD (G0 K A) m d (.cls "LifeRow") = some false := by
    unfold isiD
    rw [show (G0 K A).T = T0 K A from rfl, ht]
    show kitD (G0 K A) t (.cls "LifeRow") = some false
    have e : kitD (G0 K A) t (.cls "LifeRow") = isi0 A t (.ref A) := by
      unfold kitD D.asCls
      rw [show (G0 K A).T = T0 K A from rfl]
      have := t0c (K := K) (A := A)
      split
      · rename_i h; cases h
      · simp only [this, Option.map_some]
        rfl
    rw [e]
    unfold isi0
    rw [if_pos rfl, if_neg h2, if_pos h1]
  unfold gEq runF b_LifeRow___eq__
  simp only [evCs, evC.eq_1, evC.eq_2, evC.eq_3, evC.eq_4, evC.eq_7, evC.eq_8, evC.eq_9, evC.eq_10, evC.eq_11, evC.eq_12, evE.eq_1, evE.eq_2, evE.eq_3, evE.eq_4, evE.eq_5, evE.eq_6, evE.eq_7, evE.eq_8, evE.eq_9, evE.eq_10, evE.eq_11, evE.eq_12, evE.eq_13, evE.eq_14, evE.eq_15, evE.eq_16, evE.eq_17, evE.eq_18, evE.eq_19, evE.eq_20, evE.eq_21, evE.eq_22, evE.eq_24, evE.eq_25, evE.eq_26, evE.eq_27, evE.eq_28, evEs, evG, evGs, rs_ok, List.map_cons, List.map_nil, List.length_cons, List.length_nil, List.cons_append, List.nil_append, List.getElem?_cons_zero, List.getElem?_cons_succ, Nat.zero_add, Nat.reduceAdd, Nat.reduceSub, List.replicate_succ, List.replicate_zero, List.set_cons_succ, List.set_cons_zero, if_true, isi_b hi]
theorem cm_own {G : Gm} {op : CmpOp} {g : Fn} (hg : G.cm "LifeRow" op = some g) (r : Option Int × List (Option Int)) {d : D} (h : cmpD op (rowI r) d m = none) : cmD G op (rowI r) d m = (g [rowI r, d] m).noX := by
  unfold cmD
  rw [h]
  simp only [ins_row, hg]
theorem eqD_row (r : Option Int × List (Option Int)) (d : D) : eqD m (rowI r) d = none := by
  unfold eqD
  rw [show (rowI r).py = none from rfl]
  rfl
theorem cmp_row_eq (r : Option Int × List (Option Int)) (d : D) : cmpD .Eq (rowI r) d m = none := by
  unfold cmpD
  exact eqD_row r d
theorem cmp_row_ne (r : Option Int × List (Option Int)) (d : D) : cmpD .NotEq (rowI r) d m = none := by
  unfold cmpD
  rw [eqD_row r d]
  rfl
theorem okE_ref : okE A (.ref A) = true := by
  unfold okE
  simp
theorem okE_tys {t : Value} (h : tys.contains t = true) : okE A t = true := by
  unfold okE
  rw [List.contains_cons, h, Bool.or_true]
theorem row_eq {G : Gm} (h : Tab2 (K := K) (A := A) G) (r s : Option Int × List (Option Int)) : cmD G .Eq (rowI r) (rowI s) m = .ok (.bl (decide (r = s))) m := by
  rw [cm_own h.eq r (cmp_row_eq r _)]
  unfold okArg
  simp only [row_typ, okE_ref, if_true, eq_ok, Rs.noX]
theorem row_ne {G : Gm} (h : Tab2 (K := K) (A := A) G) (r s : Option Int × List (Option Int)) : cmD G .NotEq (rowI r) (rowI s) m = .ok (.bl (!decide (r = s))) m := by
  rw [cm_own h.ne r (cmp_row_ne r _)]
  unfold negR okArg
  simp only [row_typ, okE_ref, if_true, eq_ok, Rs.noX, rs_ok]
theorem odd_eq {G : Gm} (h : Tab2 (K := K) (A := A) G) (r : Option Int × List (Option Int)) {d : D} {t : Value} (ht : d.typ (T0 K A) m = some t) (h1 : tys.contains t = true) (h2 : t ≠ .ref A) : cmD G .Eq (rowI r) d m = .ok (.bl false) m := by
  rw [cm_own h.eq r (cmp_row_eq r _)]
  unfold okArg
  simp only [ht, okE_tys h1, if_true, eq_odd r ht h1 h2, Rs.noX]
theorem odd_ne {G : Gm} (h : Tab2 (K := K) (A := A) G) (r : Option Int × List (Option Int)) {d : D} {t : Value} (ht : d.typ (T0 K A) m = some t) (h1 : tys.contains t = true) (h2 : t ≠ .ref A) : cmD G .NotEq (rowI r) d m = .ok (.bl true) m := by
  rw [cm_own h.ne r (cmp_row_ne r _)]
  unfold negR okArg
  simp only [ht, okE_tys h1, if_true, eq_odd r ht h1 h2, Rs.noX, rs_ok, Bool.not_false]
theorem rowD_eq {G : Gm} (r s : Option Int × List (Option Int)) : cmD G .Eq (rowD r) (rowD s) m = .ok (.bl (decide (r = s))) m := by
  rw [cmD_eq (row_py r) (row_py s) (row_shaped r) (row_shaped s), row_eqv]
theorem rowD_ne {G : Gm} (r s : Option Int × List (Option Int)) : cmD G .NotEq (rowD r) (rowD s) m = .ok (.bl (!decide (r = s))) m := by
  rw [cmD_ne (row_py r) (row_py s) (row_shaped r) (row_shaped s), row_eqv]
theorem op_own' {G : Gm} {op : Operator} {g : Fn} (hg : G.op "LifeRow" op = some g) (r : Option Int × List (Option Int)) {d : D} : opD G op (rowI r) d m = (g [rowI r, d] m).noX := by
  unfold opD
  rw [show binD op (rowI r) d m = none by cases d <;> rfl]
  simp only [ins_row, hg]
theorem row_and {G : Gm} (h : Tab2 (K := K) (A := A) G) (r s : Option Int × List (Option Int)) (hl : r.2.length ≤ 3) : opD G .BitAnd (rowI r) (rowI s) m = .ok (rowI (leastO r.1 s.1, greatL r.2 s.2)) (m ++ [.dead]) := by
  rw [op_own' h.an r]
  unfold okArg
  simp only [row_typ, show okC A (.ref A) = true from decide_eq_true rfl, if_true, and_ok r s hl, Rs.noX]
theorem row_sub {G : Gm} (h : Tab2 (K := K) (A := A) G) (r : Option Int × List (Option Int)) (t : Int) (hl : r.2.length ≤ 3) : opD G .Sub (rowI r) (.int t) m = .ok (rowI (subL t r.1, r.2.map (addL t))) (m ++ [.dead]) := by
  rw [op_own' h.su r]
  unfold okArg
  simp only [show (D.int t).typ (T0 K A) m = some (.type "int") from rfl, show okI (.type "int") = true from decide_eq_true rfl, if_true, sub_ok r t hl, Rs.noX]
/-- the text of a bound -/
def rowT (r : Option Int × List (Option Int)) : Str := (((("LifeRow(" : String) : Str) ++ PyData.shown (tmP r.1)) ++ ((", " : String) : Str) ++ PyData.shown (.tuple (r.2.map tmP))) ++ ((")" : String) : Str)
theorem lit_a : Sh 8 (("LifeRow(" : String) : Str) := ⟨by decide +kernel, by decide +kernel⟩
theorem lit_b : Sh 2 ((", " : String) : Str) := ⟨by decide +kernel, by decide +kernel⟩
theorem lit_c : Sh 1 ((")" : String) : Str) := ⟨by decide +kernel, by decide +kernel⟩
structure Rb (r : Option Int × List (Option Int)) : Prop where
  len : r.2.length ≤ 3
  left : InB r.1
  lost : ∀ o ∈ r.2, InB o
theorem RowOk.rb {n : Nat} {r : Option Int × List (Option Int)} (h : RowOk n r) (hn : n ≤ 3) : Rb r := ⟨by rw [h.len]; exact hn, h.left.b, fun o ho => (h.lost o ho).b⟩
theorem row_sh {r : Option Int × List (Option Int)} (h : Rb r) : Sh 52 (rowT r) :=
  ((((lit_a.app (tm_sh h.left)).app lit_b).app (tup_sh h.lost)).app lit_c).le (by have := h.len; omega)
theorem fmt_tm (o : Option Int) : fmtD (tm o) = shownD (tm o) := by cases o <;> rfl
theorem fmt_tup (l : List D) : fmtD (.tup l) = shownD (.tup l) := rfl
theorem repr_ok (r : Option Int × List (Option Int)) (h : Rb r) : gRepr K A [rowI r] m = .ok (.str (rowT r)) m := by
  have a1 : ∀ r (m : Mu), attD (G0 K A) m (rowI r) "_left" = .ok (tm r.1) m := fun r m => att_left0 rfl r
  have a2 : ∀ r (m : Mu), attD (G0 K A) m (rowI r) "_lost" = .ok (.tup (r.2.map tm)) m := fun r m => att_lost0 rfl r
  have z : 52 ≤ sizeLine := by decide
  have l1 := lit_a.len
  have l2 := (lit_a.app (tm_sh h.left)).len
  have l3 := ((lit_a.app (tm_sh h.left)).app lit_b).len
  have l4 := (((lit_a.app (tm_sh h.left)).app lit_b).app (tup_sh h.lost)).len
  have l5 := (row_sh h).len
  have hn := h.len
  unfold rowT at l5
  unfold gRepr runF b_LifeRow___repr__
  simp only [evCs, evC.eq_1, evC.eq_2, evC.eq_3, evC.eq_4, evC.eq_7, evC.eq_8, evC.eq_9, evC.eq_10, evC.eq_11, evC.eq_12, evE.eq_1, evE.eq_2, evE.eq_3, evE.eq_4, evE.eq_5, evE.eq_6, evE.eq_7, evE.eq_8, evE.eq_9, evE.eq_10, evE.eq_11, evE.eq_12, evE.eq_13, evE.eq_14, evE.eq_15, evE.eq_16, evE.eq_17, evE.eq_18, evE.eq_19, evE.eq_20, evE.eq_21, evE.eq_22, evE.eq_24, evE.eq_25, evE.eq_26, evE.eq_27, evE.eq_28, evEs, evG, evGs, rs_ok, List.map_cons, List.map_nil, List.length_cons, List.length_nil, List.cons_append, List.nil_append, List.getElem?_cons_zero, List.getElem?_cons_succ, Nat.zero_add, Nat.reduceAdd, Nat.reduceSub, List.replicate_succ, List.replicate_zero, List.set_cons_succ, List.set_cons_zero, if_true, evJ, Str.empty_append, a1, a2, fmt_tm, fmt_tup, sh_tm h.left, sh_tup h.len h.lost]
  rw [if_pos (by omega), if_pos (by omega), if_pos (by omega), if_pos (by omega), if_pos (by omega)]
  rfl
end
end K26

set_option maxRecDepth 100000
set_option maxHeartbeats 1000000
namespace K26
open PySem L2 Pm
section
variable {K : PySem.W.Frag} {A : Addr} {m : Mu}
theorem nr_body : b__law_near = [b__law_near.getD 0 .pas, b__law_near.getD 1 .pas, b__law_near.getD 2 .pas, b__law_near.getD 3 .pas, b__law_near.getD 4 .pas] := rfl
theorem nr_2 : b__law_near.getD 2 .pas = (.ife (.cmp .Eq (.var 4) (.con (.int 0))) [(.asg (.nm 5) (.ife (.cmp .Is (.var 2) (.con .non)) (.neg (.con (.int 1))) (.blt .max [(.neg (.con (.int 1))), (.bin .Sub (.var 2) (.con (.int 1)))]))), (.asg (.nm 2) (.fn "_law_pick" [(.var 0), (.lst [(.var 2), (.con .non), (.con (.int 7)), (.var 5)])]))] [(.asg (.nm 6) (.ife (.cmp .Is (.idx (.var 3) (.bin .Sub (.var 4) (.con (.int 1)))) (.con .non)) (.con (.int 4)) (.blt .min [(.con (.int 61)), (.bin .Add (.idx (.var 3) (.bin .Sub (.var 4) (.con (.int 1)))) (.con (.int 1)))]))), (.asg (.nm 3) (.bin .Add (.bin .Add (.slc (.var 3) none (some (.bin .Sub (.var 4) (.con (.int 1))))) (.tup [(.fn "_law_pick" [(.var 0), (.lst [(.con .non), (.con (.int 9)), (.var 6)])])])) (.slc (.var 3) (some (.var 4)) none)))]) := rfl
theorem nr_3 : b__law_near.getD 3 .pas = (.ife (.and (.cmp .Is (.var 2) (.con .non)) (.cmp .Eq (.lc false (.nm 7) (.val (.var 3)) (some (.cmp .IsNot (.var 7) (.con .non))) (.var 7) [7]) (.lst []))) [(.asg (.nm 2) (.con (.int 3)))] []) := rfl
theorem nr_s3 {k : Nat} {R : D} {l : Option Int} {ls : List (Option Int)} {a b c : Option D} (hn : ls.length ≤ 3) (mm : Mu) : ∃ l', evC (H_law_is_below K A) (b__law_near.getD 3 .pas) [some (.own k), some R, some (tm l), some (.tup (ls.map tm)), a, b, c, none] mm = .ok (.nx [some (.own k), some R, some (tm l'), some (.tup (ls.map tm)), a, b, c, none]) mm ∧ (l' = l ∨ l' = some 3) ∧ (l' ≠ none ∨ ∃ o ∈ ls, o ≠ none) := by
  have nn : ∀ l, evE (H_law_is_below K A) (.cmp .Eq (.lc false (.nm 7) (.val (.var 3)) (some (.cmp .IsNot (.var 7) (.con .non))) (.var 7) [7]) (.lst [])) [some (.own k), some R, l, some (.tup (ls.map tm)), a, b, c, none] mm = .ok (.bl (ls.filter Option.isSome).isEmpty) mm := fun l => noneIn (.inr rfl) rfl (by simp) (len_le hn)
  rw [nr_3]
  cases l with
  | some i => exact ⟨some i, by simp only [evCs, evC.eq_1, evC.eq_2, evC.eq_3, evC.eq_4, evC.eq_7, evC.eq_8, evC.eq_9, evC.eq_10, evC.eq_11, evC.eq_12, evE.eq_1, evE.eq_2, evE.eq_3, evE.eq_4, evE.eq_5, evE.eq_6, evE.eq_7, evE.eq_8, evE.eq_9, evE.eq_10, evE.eq_11, evE.eq_12, evE.eq_13, evE.eq_14, evE.eq_15, evE.eq_16, evE.eq_17, evE.eq_18, evE.eq_19, evE.eq_20, evE.eq_21, evE.eq_22, evE.eq_24, evE.eq_25, evE.eq_26, evE.eq_27, evE.eq_28, evEs, evG, evGs, rs_ok, List.map_cons, List.map_nil, List.length_cons, List.length_nil, List.cons_append, List.nil_append, List.getElem?_cons_zero, List.getElem?_cons_succ, Nat.zero_add, Nat.reduceAdd, Nat.reduceSub, List.replicate_succ, List.replicate_zero, List.set_cons_succ, List.set_cons_zero, if_true, tm, cmD_is, D.isNon], .inl rfl, .inl (by simp)⟩
  | none =>
    cases ht : (ls.filter Option.isSome).isEmpty with
    | true =>
      refine ⟨some 3, ?_, .inr rfl, .inl (by simp)⟩
      rw [evC, evE, evE, evE_var (d := tm none) rfl, rs_ok, evE, rs_ok, cmD_is, rs_ok]
      simp only [tm, D.isNon]
      rw [nn, ht, rs_ok]
      simp only [evCs, evC.eq_1, evC.eq_2, evC.eq_3, evC.eq_4, evC.eq_7, evC.eq_8, evC.eq_9, evC.eq_10, evC.eq_11, evC.eq_12, evE.eq_1, evE.eq_2, evE.eq_3, evE.eq_4, evE.eq_5, evE.eq_6, evE.eq_7, evE.eq_8, evE.eq_9, evE.eq_10, evE.eq_11, evE.eq_12, evE.eq_13, evE.eq_14, evE.eq_15, evE.eq_16, evE.eq_17, evE.eq_18, evE.eq_19, evE.eq_20, evE.eq_21, evE.eq_22, evE.eq_24, evE.eq_25, evE.eq_26, evE.eq_27, evE.eq_28, evEs, evG, evGs, rs_ok, List.map_cons, List.map_nil, List.length_cons, List.length_nil, List.cons_append, List.nil_append, List.getElem?_cons_zero, List.getElem?_cons_succ, Nat.zero_add, Nat.reduceAdd, Nat.reduceSub, List.replicate_succ, List.replicate_zero, List.set_cons_succ, List.set_cons_zero, if_true]
    | false =>
      refine ⟨none, ?_, .inl rfl, .inr ?_⟩
      · rw [evC, evE, evE, evE_var (d := tm none) rfl, rs_ok, evE, rs_ok, cmD_is, rs_ok]
        simp only [tm, D.isNon]
        rw [nn, ht, rs_ok]
        simp only [evCs, evC.eq_1, evC.eq_2, evC.eq_3, evC.eq_4, evC.eq_7, evC.eq_8, evC.eq_9, evC.eq_10, evC.eq_11, evC.eq_12, evE.eq_1, evE.eq_2, evE.eq_3, evE.eq_4, evE.eq_5, evE.eq_6, evE.eq_7, evE.eq_8, evE.eq_9, evE.eq_10, evE.eq_11, evE.eq_12, evE.eq_13, evE.eq_14, evE.eq_15, evE.eq_16, evE.eq_17, evE.eq_18, evE.eq_19, evE.eq_20, evE.eq_21, evE.eq_22, evE.eq_24, evE.eq_25, evE.eq_26, evE.eq_27, evE.eq_28, evEs, evG, evGs, rs_ok, List.map_cons, List.map_nil, List.length_cons, List.length_nil, List.cons_append, List.nil_append, List.getElem?_cons_zero, List.getElem?_cons_succ, Nat.zero_add, Nat.reduceAdd, Nat.reduceSub, List.replicate_succ, List.replicate_zero, List.set_cons_succ, List.set_cons_zero, if_true]
      · have : ¬ ∀ o ∈ ls, o = none := fun h => by rw [(allNone_iff ls).mpr h] at ht; cases ht
        obtain ⟨o, ho⟩ := Classical.not_forall.mp this
        obtain ⟨h1, h2⟩ := Classical.not_imp.mp ho
        exact ⟨o, h1, h2⟩
theorem tm_of {o : Option Int} {lo hi : Int} (h : ∀ i, o = some i → lo ≤ i ∧ i ≤ hi) : Tm lo hi (tm o) := by
  cases o with
  | none => exact .inl rfl
  | some i => exact .inr ⟨i, rfl, h i rfl⟩
theorem tm_is_none {G : Gm} (o : Option Int) : cmD G .Is (tm o) .non m = .ok (.bl o.isNone) m := by rw [cmD_is, tm_isNon]
theorem nr_s2 {k n : Nat} (h : Bx m k) (hn : n ≤ 3) {l : Option Int} {ls : List (Option Int)} (h1 : ls.length = n) (h2 : InL l) (h3 : ∀ o ∈ ls, InT o) {R : D} {a : Int} (ha : 0 ≤ a) (ha2 : a < (n : Int) + 1) : ∃ (l' : Option Int) (ls' : List (Option Int)) (b c : Option D) (m' : Mu), evC (H_law_is_below K A) (b__law_near.getD 2 .pas) [some (.own k), some R, some (tm l), some (.tup (ls.map tm)), some (.int a), none, none, none] m = .ok (.nx [some (.own k), some R, some (tm l'), some (.tup (ls'.map tm)), some (.int a), b, c, none]) m' ∧ ls'.length = n ∧ InL l' ∧ (∀ o ∈ ls', InT o) ∧ Bx m' k ∧ Kp m m' k := by
  have f1 : (H_law_is_below K A).fn "_law_pick" = some (g_law_pick K A) := rfl
  have z4 : (0 + 1 + 1 + 1 + 1 ≤ sizeLine) = True := by decide
  have z3 : (0 + 1 + 1 + 1 ≤ sizeLine) = True := by decide
  have z1 : (0 + 1 ≤ sizeLine) = True := by decide
  rw [nr_2]
  by_cases e0 : a = 0
  · subst e0
    obtain ⟨lower, hlo⟩ : ∃ x, x = (match l with | none => (-1 : Int) | some i => if -1 < i - 1 then i - 1 else -1) := ⟨_, rfl⟩
    have el : ∀ R ls a x y z mm, evE (H_law_is_below K A) (.ife (.cmp .Is (.var 2) (.con .non)) (.neg (.con (.int 1))) (.blt .max [(.neg (.con (.int 1))), (.bin .Sub (.var 2) (.con (.int 1)))])) [some (.own k), some R, some (tm l), ls, a, x, y, z] mm = .ok (.int lower) mm := fun R ls a x y z mm => by
      cases l <;> simp only [evCs, evC.eq_1, evC.eq_2, evC.eq_3, evC.eq_4, evC.eq_7, evC.eq_8, evC.eq_9, evC.eq_10, evC.eq_11, evC.eq_12, evE.eq_1, evE.eq_2, evE.eq_3, evE.eq_4, evE.eq_5, evE.eq_6, evE.eq_7, evE.eq_8, evE.eq_9, evE.eq_10, evE.eq_11, evE.eq_12, evE.eq_13, evE.eq_14, evE.eq_15, evE.eq_16, evE.eq_17, evE.eq_18, evE.eq_19, evE.eq_20, evE.eq_21, evE.eq_22, evE.eq_24, evE.eq_25, evE.eq_26, evE.eq_27, evE.eq_28, evEs, evG, evGs, rs_ok, List.map_cons, List.map_nil, List.length_cons, List.length_nil, List.cons_append, List.nil_append, List.getElem?_cons_zero, List.getElem?_cons_succ, Nat.zero_add, Nat.reduceAdd, Nat.reduceSub, List.replicate_succ, List.replicate_zero, List.set_cons_succ, List.set_cons_zero, if_true, tm, cmD_is, D.isNon, opD_sub, blt_max, hlo]
    obtain ⟨d, m1, e1, hd, b1, k1⟩ := pick_ok K A (ds := [tm l, .non, .int 7, .int lower]) h (by simp) (by simp)
    have hT : Tm (-1) 60 d := by
      rcases List.mem_cons.mp hd with rfl | hd
      · exact tm_of h2
      · rcases List.mem_cons.mp hd with rfl | hd
        · exact .inl rfl
        · refine tm_ints (l := [7, lower]) hd ?_
          intro i hi
          rcases List.mem_cons.mp hi with rfl | hi
          · omega
          · rw [List.mem_singleton] at hi
            subst hi
            rw [hlo]
            cases l with
            | none => simp only; omega
            | some j => have := h2 j rfl; simp only; split <;> omega
    obtain ⟨o, rfl, ho⟩ := hT.tm
    refine ⟨o, ls, some (.int lower), none, m1, ?_, h1, ho, h3, b1, k1⟩
    rw [evC, evE, evE_var (d := .int 0) rfl, rs_ok, evE, rs_ok, cmD_eqI, rs_ok]
    simp only [beq_self_eq_true]
    rw [evCs_nx (ρ' := [some (.own k), some R, some (tm l), some (.tup (ls.map tm)), some (.int 0), some (.int lower), none, none]) (m' := m) (by rw [evC, el, rs_ok, evG, rs_ok]; rfl)]
    simp only [evCs, evC.eq_1, evC.eq_2, evC.eq_3, evC.eq_4, evC.eq_7, evC.eq_8, evC.eq_9, evC.eq_10, evC.eq_11, evC.eq_12, evE.eq_1, evE.eq_2, evE.eq_3, evE.eq_4, evE.eq_5, evE.eq_6, evE.eq_7, evE.eq_8, evE.eq_9, evE.eq_10, evE.eq_11, evE.eq_12, evE.eq_13, evE.eq_14, evE.eq_15, evE.eq_16, evE.eq_17, evE.eq_18, evE.eq_19, evE.eq_20, evE.eq_21, evE.eq_22, evE.eq_24, evE.eq_25, evE.eq_26, evE.eq_27, evE.eq_28, evEs, evG, evGs, rs_ok, List.map_cons, List.map_nil, List.length_cons, List.length_nil, List.cons_append, List.nil_append, List.getElem?_cons_zero, List.getElem?_cons_succ, Nat.zero_add, Nat.reduceAdd, Nat.reduceSub, List.replicate_succ, List.replicate_zero, List.set_cons_succ, List.set_cons_zero, if_true, f1, z4, e1]
  · obtain ⟨i, rfl⟩ : ∃ i : Nat, a = (i : Int) + 1 := ⟨(a - 1).toNat, by omega⟩
    have hi : i < ls.length := by omega
    obtain ⟨o0, ho0⟩ : ∃ o, ls[i]? = some o := ⟨ls[i], List.getElem?_eq_getElem hi⟩
    have hix : ∀ mm, liftO mm (idxD mm (.tup (ls.map tm)) (.int (i : Int))) = .ok (tm o0) mm := fun mm => idx_tup (atN i (by rw [List.getElem?_map, ho0]; rfl))
    have hi1 : (i : Int) + 1 - 1 = (i : Int) := by omega
    obtain ⟨hg, hhg⟩ : ∃ x, x = (match o0 with | none => (4 : Int) | some j => if j + 1 < 61 then j + 1 else 61) := ⟨_, rfl⟩
    have hT0 : InT o0 := h3 o0 (List.mem_of_getElem? ho0)
    obtain ⟨d, m1, e1, hd, b1, k1⟩ := pick_ok K A (ds := [.non, .int 9, .int hg]) h (by simp) (by simp)
    have hT : Tm 0 61 d := by
      rcases List.mem_cons.mp hd with rfl | hd
      · exact .inl rfl
      · refine tm_ints (l := [9, hg]) hd ?_
        intro j hj
        rcases List.mem_cons.mp hj with rfl | hj
        · omega
        · rw [List.mem_singleton] at hj
          subst hj
          rw [hhg]
          cases o0 with
          | none => simp only; omega
          | some q => have := hT0 q rfl; simp only; split <;> omega
    obtain ⟨o, rfl, ho⟩ := hT.tm
    have hcut1 : ∀ mm : Mu, liftO mm (slcD mm (.tup (ls.map tm)) none (some (i : Int))) = .ok (.tup ((ls.take i).map tm)) mm := fun mm => by
      show Rs.ok (D.tup (cutD (ls.map tm) none (some (i : Int)))) mm = _
      unfold cutD
      rw [HT.sIx_none, HT.sIx_nat, List.length_map, Nat.min_eq_left (by omega), List.drop_zero, Nat.sub_zero, ← List.map_take]
    have hcut2 : ∀ mm : Mu, liftO mm (slcD mm (.tup (ls.map tm)) (some ((i : Int) + 1)) none) = .ok (.tup ((ls.drop (i + 1)).map tm)) mm := fun mm => by
      show Rs.ok (D.tup (cutD (ls.map tm) (some ((i : Int) + 1)) none)) mm = _
      unfold cutD
      rw [HT.sIx_none, show ((i : Int) + 1) = ((i + 1 : Nat) : Int) by omega, HT.sIx_nat, List.length_map, Nat.min_eq_left (by omega), ← List.map_drop, List.take_of_length_le (by rw [List.length_map, List.length_drop]; omega)]
    have ht := three
    have had1 : ∀ mm : Mu, opD (H_law_is_below K A) .Add (.tup ((ls.take i).map tm)) (.tup [tm o]) mm = .ok (.tup ((ls.take i ++ [o]).map tm)) mm := fun mm => by
      have z : (((ls.take i).map tm).length + [tm o].length ≤ sizeLine) = True := by
        simp only [List.length_map, List.length_take, List.length_cons, List.length_nil, eq_iff_iff, iff_true]; omega
      simp only [opD, binD, Pm.binT, z, if_true, List.map_append, List.map_cons, List.map_nil]
    have had2 : ∀ mm : Mu, opD (H_law_is_below K A) .Add (.tup ((ls.take i ++ [o]).map tm)) (.tup ((ls.drop (i + 1)).map tm)) mm = .ok (.tup ((ls.take i ++ [o] ++ ls.drop (i + 1)).map tm)) mm := fun mm => by
      have z : (((ls.take i ++ [o]).map tm).length + ((ls.drop (i + 1)).map tm).length ≤ sizeLine) = True := by
        simp only [List.length_map, List.length_append, List.length_take, List.length_drop, List.length_cons, List.length_nil, eq_iff_iff, iff_true]; omega
      rw [show (ls.take i ++ [o] ++ ls.drop (i + 1)).map tm = (ls.take i ++ [o]).map tm ++ (ls.drop (i + 1)).map tm from List.map_append]
      simp only [opD, binD, Pm.binT, z, if_true]
    have el : ∀ R l x y z mm, evE (H_law_is_below K A) (.ife (.cmp .Is (.idx (.var 3) (.bin .Sub (.var 4) (.con (.int 1)))) (.con .non)) (.con (.int 4)) (.blt .min [(.con (.int 61)), (.bin .Add (.idx (.var 3) (.bin .Sub (.var 4) (.con (.int 1)))) (.con (.int 1)))])) [some (.own k), some R, l, some (.tup (ls.map tm)), some (.int ((i : Int) + 1)), x, y, z] mm = .ok (.int hg) mm := fun R l x y z mm => by
      cases o0 <;> simp only [evCs, evC.eq_1, evC.eq_2, evC.eq_3, evC.eq_4, evC.eq_7, evC.eq_8, evC.eq_9, evC.eq_10, evC.eq_11, evC.eq_12, evE.eq_1, evE.eq_2, evE.eq_3, evE.eq_4, evE.eq_5, evE.eq_6, evE.eq_7, evE.eq_8, evE.eq_9, evE.eq_10, evE.eq_11, evE.eq_12, evE.eq_13, evE.eq_14, evE.eq_15, evE.eq_16, evE.eq_17, evE.eq_18, evE.eq_19, evE.eq_20, evE.eq_21, evE.eq_22, evE.eq_24, evE.eq_25, evE.eq_26, evE.eq_27, evE.eq_28, evEs, evG, evGs, rs_ok, List.map_cons, List.map_nil, List.length_cons, List.length_nil, List.cons_append, List.nil_append, List.getElem?_cons_zero, List.getElem?_cons_succ, Nat.zero_add, Nat.reduceAdd, Nat.reduceSub, List.replicate_succ, List.replicate_zero, List.set_cons_succ, List.set_cons_zero, if_true, opD_sub, hi1, hix, tm_is_none, tm, cmD_is, D.isNon, opD_add, bltD, hhg]
    refine ⟨l, ls.take i ++ [o] ++ ls.drop (i + 1), none, some (.int hg), m1, ?_, by simp only [List.length_append, List.length_take, List.length_drop, List.length_cons, List.length_nil]; omega, h2, ?_, b1, k1⟩
    · rw [evC, evE, evE_var (d := .int ((i : Int) + 1)) rfl, rs_ok, evE, rs_ok, cmD_eqI, rs_ok, show (((i : Int) + 1) == 0) = false by simp; omega]
      simp only []
      rw [evCs_nx (ρ' := [some (.own k), some R, some (tm l), some (.tup (ls.map tm)), some (.int ((i : Int) + 1)), none, some (.int hg), none]) (m' := m) (by rw [evC, el, rs_ok, evG, rs_ok]; rfl)]
      simp only [evCs, evC.eq_1, evC.eq_2, evC.eq_3, evC.eq_4, evC.eq_7, evC.eq_8, evC.eq_9, evC.eq_10, evC.eq_11, evC.eq_12, evE.eq_1, evE.eq_2, evE.eq_3, evE.eq_4, evE.eq_5, evE.eq_6, evE.eq_7, evE.eq_8, evE.eq_9, evE.eq_10, evE.eq_11, evE.eq_12, evE.eq_13, evE.eq_14, evE.eq_15, evE.eq_16, evE.eq_17, evE.eq_18, evE.eq_19, evE.eq_20, evE.eq_21, evE.eq_22, evE.eq_24, evE.eq_25, evE.eq_26, evE.eq_27, evE.eq_28, evEs, evG, evGs, rs_ok, List.map_cons, List.map_nil, List.length_cons, List.length_nil, List.cons_append, List.nil_append, List.getElem?_cons_zero, List.getElem?_cons_succ, Nat.zero_add, Nat.reduceAdd, Nat.reduceSub, List.replicate_succ, List.replicate_zero, List.set_cons_succ, List.set_cons_zero, if_true, f1, z3, z1, opD_sub, hi1, evO, hcut1, e1, had1, hcut2, had2]
    · intro q hq
      rcases List.mem_append.mp hq with hq | hq
      · rcases List.mem_append.mp hq with hq | hq
        · exact h3 q (List.mem_of_mem_take hq)
        · rw [List.mem_singleton] at hq; subst hq; exact ho
      · exact h3 q (List.mem_of_mem_drop hq)
theorem near_ok {k n : Nat} (h : Bx m k) (hn : n ≤ 3) {r : Option Int × List (Option Int)} (hr : RowOk n r) : ∃ r' m', g_law_near K A [.own k, rowD r] m = .ok (rowD r') m' ∧ RowOk n r' ∧ Bx m' k ∧ Kp m m' k := by
  obtain ⟨l, ls⟩ := r
  have h1 := hr.len
  have h2 := hr.left
  have h3 := hr.lost
  simp only at h1 h2 h3
  obtain ⟨a, m1, e1, q1, q2, b1, k1⟩ := take_bx K A (n := (n : Int) + 1) h (by omega) (by omega)
  obtain ⟨l', ls', b, c, m2, e2, p1, p2, p3, b2, k2⟩ := nr_s2 (K := K) (A := A) b1 hn h1 h2 h3 (R := rowD (l, ls)) q1 q2
  obtain ⟨l'', e3, p4, p5⟩ := nr_s3 (K := K) (A := A) (k := k) (R := rowD (l, ls)) (l := l') (ls := ls') (a := some (.int a)) (b := b) (c := c) (by omega) m2
  refine ⟨(l'', ls'), m2, ?_, ⟨p1, ?_, p3, p5⟩, b2, k1.trans k2⟩
  · have f1 : (H_law_is_below K A).fn "_law_take" = some (g_law_take K A) := rfl
    have s0 : evC (H_law_is_below K A) (b__law_near.getD 0 .pas) [some (.own k), some (rowD (l, ls)), none, none, none, none, none, none] m = .ok (.nx [some (.own k), some (rowD (l, ls)), some (tm l), some (.tup (ls.map tm)), none, none, none, none]) m := by
      unfold b__law_near
      simp only [List.getD_cons_zero, evCs, evC.eq_1, evC.eq_2, evC.eq_3, evC.eq_4, evC.eq_7, evC.eq_8, evC.eq_9, evC.eq_10, evC.eq_11, evC.eq_12, evE.eq_1, evE.eq_2, evE.eq_3, evE.eq_4, evE.eq_5, evE.eq_6, evE.eq_7, evE.eq_8, evE.eq_9, evE.eq_10, evE.eq_11, evE.eq_12, evE.eq_13, evE.eq_14, evE.eq_15, evE.eq_16, evE.eq_17, evE.eq_18, evE.eq_19, evE.eq_20, evE.eq_21, evE.eq_22, evE.eq_24, evE.eq_25, evE.eq_26, evE.eq_27, evE.eq_28, evEs, evG, evGs, rs_ok, List.map_cons, List.map_nil, List.length_cons, List.length_nil, List.cons_append, List.nil_append, List.getElem?_cons_zero, List.getElem?_cons_succ, Nat.zero_add, Nat.reduceAdd, Nat.reduceSub, List.replicate_succ, List.replicate_zero, List.set_cons_succ, List.set_cons_zero, if_true, show rowD (l, ls) = .tup [tm l, .tup (ls.map tm)] from rfl]
    have s1 : evC (H_law_is_below K A) (b__law_near.getD 1 .pas) [some (.own k), some (rowD (l, ls)), some (tm l), some (.tup (ls.map tm)), none, none, none, none] m = .ok (.nx [some (.own k), some (rowD (l, ls)), some (tm l), some (.tup (ls.map tm)), some (.int a), none, none, none]) m1 := by
      have hlen : bltD (H_law_is_below K A) .len [.tup (ls.map tm)] m = .ok (.int n) m := by
        rw [show bltD (H_law_is_below K A) .len [.tup (ls.map tm)] m = .ok (.int (ls.map tm).length) m from rfl, List.length_map, h1]
      unfold b__law_near
      simp only [List.getD_cons_zero, List.getD_cons_succ, evCs, evC.eq_1, evC.eq_2, evC.eq_3, evC.eq_4, evC.eq_7, evC.eq_8, evC.eq_9, evC.eq_10, evC.eq_11, evC.eq_12, evE.eq_1, evE.eq_2, evE.eq_3, evE.eq_4, evE.eq_5, evE.eq_6, evE.eq_7, evE.eq_8, evE.eq_9, evE.eq_10, evE.eq_11, evE.eq_12, evE.eq_13, evE.eq_14, evE.eq_15, evE.eq_16, evE.eq_17, evE.eq_18, evE.eq_19, evE.eq_20, evE.eq_21, evE.eq_22, evE.eq_24, evE.eq_25, evE.eq_26, evE.eq_27, evE.eq_28, evEs, evG, evGs, rs_ok, List.map_cons, List.map_nil, List.length_cons, List.length_nil, List.cons_append, List.nil_append, List.getElem?_cons_zero, List.getElem?_cons_succ, Nat.zero_add, Nat.reduceAdd, Nat.reduceSub, List.replicate_succ, List.replicate_zero, List.set_cons_succ, List.set_cons_zero, if_true, hlen, opD_add, f1, e1]
    have s4 : evC (H_law_is_below K A) (b__law_near.getD 4 .pas) [some (.own k), some (rowD (l, ls)), some (tm l''), some (.tup (ls'.map tm)), some (.int a), b, c, none] m2 = .ok (.rt (rowD (l'', ls'))) m2 := by
      unfold b__law_near
      simp only [List.getD_cons_zero, List.getD_cons_succ, evCs, evC.eq_1, evC.eq_2, evC.eq_3, evC.eq_4, evC.eq_7, evC.eq_8, evC.eq_9, evC.eq_10, evC.eq_11, evC.eq_12, evE.eq_1, evE.eq_2, evE.eq_3, evE.eq_4, evE.eq_5, evE.eq_6, evE.eq_7, evE.eq_8, evE.eq_9, evE.eq_10, evE.eq_11, evE.eq_12, evE.eq_13, evE.eq_14, evE.eq_15, evE.eq_16, evE.eq_17, evE.eq_18, evE.eq_19, evE.eq_20, evE.eq_21, evE.eq_22, evE.eq_24, evE.eq_25, evE.eq_26, evE.eq_27, evE.eq_28, evEs, evG, evGs, rs_ok, List.map_cons, List.map_nil, List.length_cons, List.length_nil, List.cons_append, List.nil_append, List.getElem?_cons_zero, List.getElem?_cons_succ, Nat.zero_add, Nat.reduceAdd, Nat.reduceSub, List.replicate_succ, List.replicate_zero, List.set_cons_succ, List.set_cons_zero, if_true, w_two]
      rfl
    unfold g_law_near runF
    rw [if_pos (show [D.own k, rowD (l, ls)].length = 2 from rfl), show [D.own k, rowD (l, ls)].map some ++ List.replicate (N__law_near.length - [D.own k, rowD (l, ls)].length) none = [some (.own k), some (rowD (l, ls)), none, none, none, none, none, none] from rfl, nr_body, evCs_nx s0, evCs_nx s1, evCs_nx e2, evCs_nx e3, evCs_rt s4]
    rfl
  · rcases p4 with rfl | rfl
    · exact p2
    · intro i e; cases e; omega
end
end K26

set_option maxRecDepth 100000
set_option maxHeartbeats 1000000
namespace K26
open PySem L2 Pm
section
variable {K : PySem.W.Frag} {A : Addr} {m : Mu}
theorem alike_ok {d : D} (hp : d.pl = true) (hz : d.sz ≤ 1000000) : g_law_alike K A [d, d] m = .ok (.bl true) (m ++ [.lst []]) := alike_refl (H_law_bound K A) hp hz
theorem tms_pl : ∀ ls : List (Option Int), D.pls (ls.map tm) = true
  | [] => by simp [D.pls]
  | o :: ls => by
    rw [List.map_cons, show D.pls (tm o :: ls.map tm) = ((tm o).pl && D.pls (ls.map tm)) by simp [D.pls], tms_pl ls]
    cases o <;> rfl
theorem tms_sz : ∀ ls : List (Option Int), D.szs (ls.map tm) = ls.length
  | [] => by simp [D.szs]
  | o :: ls => by
    rw [List.map_cons, show D.szs (tm o :: ls.map tm) = (tm o).sz + D.szs (ls.map tm) by simp [D.szs], tms_sz ls]
    cases o <;> simp [tm, D.sz] <;> omega
theorem row_pl (r : Option Int × List (Option Int)) : (rowD r).pl = true := by
  obtain ⟨o, ls⟩ := r
  have := tms_pl ls
  cases o <;> simp [rowD, D.pl, D.pls, tm, this]
theorem row_sz (r : Option Int × List (Option Int)) : (rowD r).sz = r.2.length + 3 := by
  obtain ⟨o, ls⟩ := r
  have := tms_sz ls
  cases o <;> simp [rowD, D.sz, D.szs, tm, this] <;> omega
theorem h2 : Tab2 (K := K) (A := A) (H_law_near K A) := ⟨rfl, rfl, rfl, rfl, rfl, rfl, rfl, rfl⟩
theorem fA : (H_law_near K A).fn "_law_alike" = some (g_law_alike K A) := rfl
theorem fP : (H_law_near K A).fn "_law_parts_of" = some (g_law_parts_of K A) := rfl
theorem fL : (H_law_near K A).fn "_law_least" = some (g_law_least K A) := rfl
theorem fB : (H_law_near K A).fn "_law_is_below" = some (g_law_is_below K A) := rfl
theorem fS : (H_law_near K A).fn "_law_less" = some (g_law_less K A) := rfl
theorem fU : (H_law_near K A).fn "_law_bound" = some (g_law_bound K A) := rfl
theorem fT : (H_law_near K A).fn "_law_take" = some (g_law_take K A) := rfl
theorem fK : (H_law_near K A).fn "_law_pick" = some (g_law_pick K A) := rfl
theorem small (n : Nat) (h : n ≤ 3) : n + 3 ≤ 1000000 := by omega
/-- the objects of a pair, and what they rest on -/
abbrev Ev (R S : D) (k : Nat) (a b c d e f g : Option D) : Pm.Env := [some (.own k), some R, some S, a, b, c, d, e, f, g]
theorem p0 {k : Nat} {R : D} (s : Option Int × List (Option Int)) : evC (H_law_near K A) (.asg (.nm 3) (.blt .listO [(.idx (.var 2) (.con (.int 1)))])) (Ev R (rowD s) k none none none none none none none) m = .ok (.nx (Ev R (rowD s) k (some (.own m.length)) none none none none none none)) (m ++ [.lst (s.2.map tm)]) := by
  simp only [evCs, evC.eq_1, evC.eq_2, evC.eq_3, evC.eq_4, evC.eq_7, evC.eq_8, evC.eq_9, evC.eq_10, evC.eq_11, evC.eq_12, evE.eq_1, evE.eq_2, evE.eq_3, evE.eq_4, evE.eq_5, evE.eq_6, evE.eq_7, evE.eq_8, evE.eq_9, evE.eq_10, evE.eq_11, evE.eq_12, evE.eq_13, evE.eq_14, evE.eq_15, evE.eq_16, evE.eq_17, evE.eq_18, evE.eq_19, evE.eq_20, evE.eq_21, evE.eq_22, evE.eq_24, evE.eq_25, evE.eq_26, evE.eq_27, evE.eq_28, evEs, evG, evGs, rs_ok, List.map_cons, List.map_nil, List.length_cons, List.length_nil, List.cons_append, List.nil_append, List.getElem?_cons_zero, List.getElem?_cons_succ, Nat.zero_add, Nat.reduceAdd, Nat.reduceSub, List.replicate_succ, List.replicate_zero, List.set_cons_succ, List.set_cons_zero, if_true, ri1, bltD, lookS]
theorem p1 {k p : Nat} (r s : Option Int × List (Option Int)) (hp : m[p]? = some (.lst (s.2.map tm))) : evC (H_law_near K A) (.asg (.tup [(.nm 4), (.nm 5)]) (.tup [(.mk "LifeRow" [(.idx (.var 1) (.con (.int 0))), (.idx (.var 1) (.con (.int 1)))]), (.mk "LifeRow" [(.idx (.var 2) (.con (.int 0))), (.var 3)])])) (Ev (rowD r) (rowD s) k (some (.own p)) none none none none none none) m = .ok (.nx (Ev (rowD r) (rowD s) k (some (.own p)) (some (rowI r)) (some (rowI s)) none none none none)) (m ++ [.dead] ++ [.dead]) := by
  have hp2 : (m ++ [O.dead])[p]? = some (.lst (s.2.map tm)) := by rw [List.getElem?_append_left (List.getElem?_eq_some_iff.mp hp).1]; exact hp
  simp only [evCs, evC.eq_1, evC.eq_2, evC.eq_3, evC.eq_4, evC.eq_7, evC.eq_8, evC.eq_9, evC.eq_10, evC.eq_11, evC.eq_12, evE.eq_1, evE.eq_2, evE.eq_3, evE.eq_4, evE.eq_5, evE.eq_6, evE.eq_7, evE.eq_8, evE.eq_9, evE.eq_10, evE.eq_11, evE.eq_12, evE.eq_13, evE.eq_14, evE.eq_15, evE.eq_16, evE.eq_17, evE.eq_18, evE.eq_19, evE.eq_20, evE.eq_21, evE.eq_22, evE.eq_24, evE.eq_25, evE.eq_26, evE.eq_27, evE.eq_28, evEs, evG, evGs, rs_ok, List.map_cons, List.map_nil, List.length_cons, List.length_nil, List.cons_append, List.nil_append, List.getElem?_cons_zero, List.getElem?_cons_succ, Nat.zero_add, Nat.reduceAdd, Nat.reduceSub, List.replicate_succ, List.replicate_zero, List.set_cons_succ, List.set_cons_zero, if_true, ri0, ri1, h2.cs, mk_tup, mk_own hp2, w_two]
theorem p2 {k p : Nat} {R S : D} {a b : Option D} {ds : List D} (hp : m[p]? = some (.lst ds)) (hd : ds.length < sizeLine) : evC (H_law_near K A) (.expr (.bm (.var 3) .append [(.con (.int 7))])) (Ev R S k (some (.own p)) a b none none none none) m = .ok (.nx (Ev R S k (some (.own p)) a b none none none none)) (m.set p (.lst (ds ++ [.int 7]))) := by
  simp only [evCs, evC.eq_1, evC.eq_2, evC.eq_3, evC.eq_4, evC.eq_7, evC.eq_8, evC.eq_9, evC.eq_10, evC.eq_11, evC.eq_12, evE.eq_1, evE.eq_2, evE.eq_3, evE.eq_4, evE.eq_5, evE.eq_6, evE.eq_7, evE.eq_8, evE.eq_9, evE.eq_10, evE.eq_11, evE.eq_12, evE.eq_13, evE.eq_14, evE.eq_15, evE.eq_16, evE.eq_17, evE.eq_18, evE.eq_19, evE.eq_20, evE.eq_21, evE.eq_22, evE.eq_24, evE.eq_25, evE.eq_26, evE.eq_27, evE.eq_28, evEs, evG, evGs, rs_ok, List.map_cons, List.map_nil, List.length_cons, List.length_nil, List.cons_append, List.nil_append, List.getElem?_cons_zero, List.getElem?_cons_succ, Nat.zero_add, Nat.reduceAdd, Nat.reduceSub, List.replicate_succ, List.replicate_zero, List.set_cons_succ, List.set_cons_zero, if_true, lookT, hp, mtD, hd]
theorem p3 {k : Nat} {a : Option D} {n : Nat} (hn : n ≤ 3) {r s : Option Int × List (Option Int)} (hr : RowOk n r) (hs : RowOk n s) : evC (H_law_near K A) (.ife (.not (.tru (.fn "_law_alike" [(.fn "_law_parts_of" [(.bin .BitAnd (.var 4) (.var 5))]), (.fn "_law_least" [(.var 1), (.var 2)])]))) [(.ret (.con (.bl false)))] []) (Ev (rowD r) (rowD s) k a (some (rowI r)) (some (rowI s)) none none none none) m = .ok (.nx (Ev (rowD r) (rowD s) k a (some (rowI r)) (some (rowI s)) none none none none)) (m ++ [.dead] ++ [.lst []]) := by
  have hl : r.2.length ≤ 3 := by rw [hr.len]; exact hn
  have hz : (rowD (leastO r.1 s.1, greatL r.2 s.2)).sz ≤ 1000000 := by
    rw [row_sz]; unfold greatL; rw [List.length_map, List.length_zip]; omega
  simp only [evCs, evC.eq_1, evC.eq_2, evC.eq_3, evC.eq_4, evC.eq_7, evC.eq_8, evC.eq_9, evC.eq_10, evC.eq_11, evC.eq_12, evE.eq_1, evE.eq_2, evE.eq_3, evE.eq_4, evE.eq_5, evE.eq_6, evE.eq_7, evE.eq_8, evE.eq_9, evE.eq_10, evE.eq_11, evE.eq_12, evE.eq_13, evE.eq_14, evE.eq_15, evE.eq_16, evE.eq_17, evE.eq_18, evE.eq_19, evE.eq_20, evE.eq_21, evE.eq_22, evE.eq_24, evE.eq_25, evE.eq_26, evE.eq_27, evE.eq_28, evEs, evG, evGs, rs_ok, List.map_cons, List.map_nil, List.length_cons, List.length_nil, List.cons_append, List.nil_append, List.getElem?_cons_zero, List.getElem?_cons_succ, Nat.zero_add, Nat.reduceAdd, Nat.reduceSub, List.replicate_succ, List.replicate_zero, List.set_cons_succ, List.set_cons_zero, if_true, fA, fP, fL, row_and h2 r s hl, parts_ok, lless_ok r s hl, alike_ok (row_pl _) hz, truD, liftB, Bool.not_true]
theorem bls_pl (a b : Bool) : (D.lst [.bl a, .bl b]).pl = true := by simp [D.pl, D.pls]
theorem bls_sz (a b : Bool) : (D.lst [.bl a, .bl b]).sz ≤ 1000000 := by simp [D.sz, D.szs]
theorem ints_pl (a b : Int) : (D.lst [.int a, .int b]).pl = true := by simp [D.pl, D.pls]
theorem ints_sz (a b : Int) : (D.lst [.int a, .int b]).sz ≤ 1000000 := by simp [D.sz, D.szs]
theorem p4 {k : Nat} {a : Option D} {r s : Option Int × List (Option Int)} : evC (H_law_near K A) (.ife (.not (.tru (.fn "_law_alike" [(.lst [(.cmp .Eq (.var 4) (.var 5)), (.cmp .NotEq (.var 4) (.var 5))]), (.lst [(.cmp .Eq (.var 1) (.var 2)), (.cmp .NotEq (.var 1) (.var 2))])]))) [(.ret (.con (.bl false)))] []) (Ev (rowD r) (rowD s) k a (some (rowI r)) (some (rowI s)) none none none none) m = .ok (.nx (Ev (rowD r) (rowD s) k a (some (rowI r)) (some (rowI s)) none none none none)) (m ++ [.lst []]) := by
  simp only [evCs, evC.eq_1, evC.eq_2, evC.eq_3, evC.eq_4, evC.eq_7, evC.eq_8, evC.eq_9, evC.eq_10, evC.eq_11, evC.eq_12, evE.eq_1, evE.eq_2, evE.eq_3, evE.eq_4, evE.eq_5, evE.eq_6, evE.eq_7, evE.eq_8, evE.eq_9, evE.eq_10, evE.eq_11, evE.eq_12, evE.eq_13, evE.eq_14, evE.eq_15, evE.eq_16, evE.eq_17, evE.eq_18, evE.eq_19, evE.eq_20, evE.eq_21, evE.eq_22, evE.eq_24, evE.eq_25, evE.eq_26, evE.eq_27, evE.eq_28, evEs, evG, evGs, rs_ok, List.map_cons, List.map_nil, List.length_cons, List.length_nil, List.cons_append, List.nil_append, List.getElem?_cons_zero, List.getElem?_cons_succ, Nat.zero_add, Nat.reduceAdd, Nat.reduceSub, List.replicate_succ, List.replicate_zero, List.set_cons_succ, List.set_cons_zero, if_true, fA, row_eq h2, row_ne h2, rowD_eq, rowD_ne, w_two, alike_ok (bls_pl _ _) (bls_sz _ _), truD, liftB, Bool.not_true]
theorem met_below (r : Option Int × List (Option Int)) : metF (H_law_near K A) m (rowI r) "is_below" = some (gBelow K A) := by
  unfold metF
  rw [ins_row]
  simp only [show (rowS r).lookup ("is_below" : Str) = none from rfl, h2.me]
theorem p5 {k : Nat} {a : Option D} {n : Nat} (hn : n ≤ 3) {r s : Option Int × List (Option Int)} (hr : RowOk n r) (hs : RowOk n s) : evC (H_law_near K A) (.ife (.not (.tru (.fn "_law_alike" [(.lst [(.met (.var 4) "is_below" [(.var 5)]), (.met (.var 5) "is_below" [(.var 4)])]), (.lst [(.fn "_law_is_below" [(.var 1), (.var 2)]), (.fn "_law_is_below" [(.var 2), (.var 1)])])]))) [(.ret (.con (.bl false)))] []) (Ev (rowD r) (rowD s) k a (some (rowI r)) (some (rowI s)) none none none none) m = .ok (.nx (Ev (rowD r) (rowD s) k a (some (rowI r)) (some (rowI s)) none none none none)) (m ++ [.lst []]) := by
  have hl : r.2.length ≤ 3 := by rw [hr.len]; exact hn
  have hl2 : s.2.length ≤ 3 := by rw [hs.len]; exact hn
  simp only [evCs, evC.eq_1, evC.eq_2, evC.eq_3, evC.eq_4, evC.eq_7, evC.eq_8, evC.eq_9, evC.eq_10, evC.eq_11, evC.eq_12, evE.eq_1, evE.eq_2, evE.eq_3, evE.eq_4, evE.eq_5, evE.eq_6, evE.eq_7, evE.eq_8, evE.eq_9, evE.eq_10, evE.eq_11, evE.eq_12, evE.eq_13, evE.eq_14, evE.eq_15, evE.eq_16, evE.eq_17, evE.eq_18, evE.eq_19, evE.eq_20, evE.eq_21, evE.eq_22, evE.eq_24, evE.eq_25, evE.eq_26, evE.eq_27, evE.eq_28, evEs, evG, evGs, rs_ok, List.map_cons, List.map_nil, List.length_cons, List.length_nil, List.cons_append, List.nil_append, List.getElem?_cons_zero, List.getElem?_cons_succ, Nat.zero_add, Nat.reduceAdd, Nat.reduceSub, List.replicate_succ, List.replicate_zero, List.set_cons_succ, List.set_cons_zero, if_true, fA, fB, met_below, below_ok, lbelow_ok r s hl, lbelow_ok s r hl2, w_two, alike_ok (bls_pl _ _) (bls_sz _ _), truD, liftB, Bool.not_true]
theorem p6 {k : Nat} {R S : D} {a b c : Option D} (h : Bx m k) : ∃ (t : Int) (m' : Mu), evC (H_law_near K A) (.asg (.nm 6) (.fn "_law_pick" [(.var 0), (.lst [(.con (.int 0)), (.con (.int 1)), (.con (.int 2)), (.con (.int 30)), (.con (.int 60)), (.con (.int 61)), (.con (.int 62)), (.bin .Pow (.con (.int 10)) (.con (.int 20))), (.fn "_law_take" [(.var 0), (.con (.int 70))])])])) (Ev R S k a b c none none none none) m = .ok (.nx (Ev R S k a b c (some (.int t)) none none none)) m' ∧ Bx m' k ∧ Kp m m' k := by
  obtain ⟨r, m1, e1, q1, q2, b1, k1⟩ := take_bx K A (n := 70) h (by decide) (by decide)
  obtain ⟨d, m2, e2, hd, b2, k2⟩ := pick_ok K A (ds := ([0, 1, 2, 30, 60, 61, 62, 100000000000000000000, r] : List Int).map D.int) b1 (by simp) (by simp)
  obtain ⟨t, ht, rfl⟩ := List.mem_map.mp hd
  refine ⟨t, m2, ?_, b2, k1.trans k2⟩
  have z9 : (0 + 1 + 1 + 1 + 1 + 1 + 1 + 1 + 1 + 1 ≤ sizeLine) = True := by decide
  have pw : ∀ mm : Mu, opD (H_law_near K A) .Pow (.int 10) (.int 20) mm = .ok (.int 100000000000000000000) mm := fun mm => by rfl
  simp only [List.map_cons, List.map_nil] at e2
  simp only [evCs, evC.eq_1, evC.eq_2, evC.eq_3, evC.eq_4, evC.eq_7, evC.eq_8, evC.eq_9, evC.eq_10, evC.eq_11, evC.eq_12, evE.eq_1, evE.eq_2, evE.eq_3, evE.eq_4, evE.eq_5, evE.eq_6, evE.eq_7, evE.eq_8, evE.eq_9, evE.eq_10, evE.eq_11, evE.eq_12, evE.eq_13, evE.eq_14, evE.eq_15, evE.eq_16, evE.eq_17, evE.eq_18, evE.eq_19, evE.eq_20, evE.eq_21, evE.eq_22, evE.eq_24, evE.eq_25, evE.eq_26, evE.eq_27, evE.eq_28, evEs, evG, evGs, rs_ok, List.map_cons, List.map_nil, List.length_cons, List.length_nil, List.cons_append, List.nil_append, List.getElem?_cons_zero, List.getElem?_cons_succ, Nat.zero_add, Nat.reduceAdd, Nat.reduceSub, List.replicate_succ, List.replicate_zero, List.set_cons_succ, List.set_cons_zero, if_true, fK, fT, e1, pw, z9, e2]
theorem p7 {k : Nat} {S : D} {a c : Option D} {t : Int} {n : Nat} (hn : n ≤ 3) {r : Option Int × List (Option Int)} (hr : RowOk n r) : evC (H_law_near K A) (.ife (.not (.tru (.fn "_law_alike" [(.fn "_law_parts_of" [(.bin .Sub (.var 4) (.var 6))]), (.fn "_law_less" [(.var 1), (.var 6)])]))) [(.ret (.con (.bl false)))] []) (Ev (rowD r) S k a (some (rowI r)) c (some (.int t)) none none none) m = .ok (.nx (Ev (rowD r) S k a (some (rowI r)) c (some (.int t)) none none none)) (m ++ [.dead] ++ [.lst []]) := by
  have hl : r.2.length ≤ 3 := by rw [hr.len]; exact hn
  have hz : (rowD (subL t r.1, r.2.map (addL t))).sz ≤ 1000000 := by rw [row_sz, List.length_map]; exact small _ hl
  simp only [evCs, evC.eq_1, evC.eq_2, evC.eq_3, evC.eq_4, evC.eq_7, evC.eq_8, evC.eq_9, evC.eq_10, evC.eq_11, evC.eq_12, evE.eq_1, evE.eq_2, evE.eq_3, evE.eq_4, evE.eq_5, evE.eq_6, evE.eq_7, evE.eq_8, evE.eq_9, evE.eq_10, evE.eq_11, evE.eq_12, evE.eq_13, evE.eq_14, evE.eq_15, evE.eq_16, evE.eq_17, evE.eq_18, evE.eq_19, evE.eq_20, evE.eq_21, evE.eq_22, evE.eq_24, evE.eq_25, evE.eq_26, evE.eq_27, evE.eq_28, evEs, evG, evGs, rs_ok, List.map_cons, List.map_nil, List.length_cons, List.length_nil, List.cons_append, List.nil_append, List.getElem?_cons_zero, List.getElem?_cons_succ, Nat.zero_add, Nat.reduceAdd, Nat.reduceSub, List.replicate_succ, List.replicate_zero, List.set_cons_succ, List.set_cons_zero, if_true, fA, fP, fS, row_sub h2 r t hl, parts_ok, less_ok r t hl, alike_ok (row_pl _) hz, truD, liftB, Bool.not_true]
theorem lives_loop {k : Nat} {ρ : Pm.Env} (h0 : ρ[0]? = some (some (.own k))) (h8 : 8 < ρ.length) : ∀ (src : List D) (acc : List Int) (m : Mu), acc.length + src.length ≤ 3 → Bx m k → ∃ (lv : List Int) (m' : Mu), lcL (lcT (H_law_near K A) (.nm 8) none (.fn "_law_pick" [(.var 0), (.lst [(.neg (.con (.int 1))), (.con (.int 0)), (.con (.int 60)), (.bin .Sub (.fn "_law_take" [(.var 0), (.con (.int 62))]) (.con (.int 1)))])]) (wipeD ρ [8])) src (acc.map D.int) m = .ok (lv.map D.int) m' ∧ lv.length = acc.length + src.length ∧ Bx m' k ∧ Kp m m' k
  | [], acc, m, _, h => ⟨acc, m, by unfold lcL; rfl, by simp, h, Kp.rfl'⟩
  | d :: src, acc, m, hn, h => by
    rw [List.length_cons] at hn
    obtain ⟨r, m1, e1, q1, q2, b1, k1⟩ := take_bx K A (n := 62) h (by decide) (by decide)
    obtain ⟨x, m2, e2, hd, b2, k2⟩ := pick_ok K A (ds := ([-1, 0, 60, r - 1] : List Int).map D.int) b1 (by simp) (by simp)
    obtain ⟨t, ht, rfl⟩ := List.mem_map.mp hd
    obtain ⟨lv, m3, e3, l3, b3, k3⟩ := lives_loop h0 h8 src (acc ++ [t]) m2 (by rw [List.length_append]; simp only [List.length_cons, List.length_nil]; omega) b2
    refine ⟨lv, m3, ?_, by rw [l3, List.length_append, List.length_cons]; simp only [List.length_cons, List.length_nil]; omega, b3, (k1.trans k2).trans k3⟩
    have z4 : (0 + 1 + 1 + 1 + 1 ≤ sizeLine) = True := by decide
    have g0 : ((wipeD ρ [8]).set 8 (some d))[0]? = some (some (.own k)) := by
      rw [List.getElem?_set_ne (by decide), wipeD, List.getElem?_set_ne (by decide)]
      exact h0
    simp only [List.map_cons, List.map_nil] at e2
    have ht : lcT (H_law_near K A) (.nm 8) none (.fn "_law_pick" [(.var 0), (.lst [(.neg (.con (.int 1))), (.con (.int 0)), (.con (.int 60)), (.bin .Sub (.fn "_law_take" [(.var 0), (.con (.int 62))]) (.con (.int 1)))])]) (wipeD ρ [8]) d m = .ok (some (.int t)) m2 := by
      unfold lcT
      rw [evG, rs_ok, evT, rs_ok]
      simp only [evCs, evC.eq_1, evC.eq_2, evC.eq_3, evC.eq_4, evC.eq_7, evC.eq_8, evC.eq_9, evC.eq_10, evC.eq_11, evC.eq_12, evE.eq_1, evE.eq_2, evE.eq_3, evE.eq_4, evE.eq_5, evE.eq_6, evE.eq_7, evE.eq_8, evE.eq_9, evE.eq_10, evE.eq_11, evE.eq_12, evE.eq_13, evE.eq_14, evE.eq_15, evE.eq_16, evE.eq_17, evE.eq_18, evE.eq_19, evE.eq_20, evE.eq_21, evE.eq_22, evE.eq_24, evE.eq_25, evE.eq_26, evE.eq_27, evE.eq_28, evEs, evG, evGs, rs_ok, List.map_cons, List.map_nil, List.length_cons, List.length_nil, List.cons_append, List.nil_append, List.getElem?_cons_zero, List.getElem?_cons_succ, Nat.zero_add, Nat.reduceAdd, Nat.reduceSub, List.replicate_succ, List.replicate_zero, List.set_cons_succ, List.set_cons_zero, if_true, g0, fK, fT, e1, opD_sub, z4, e2]
    unfold lcL
    rw [ht, rs_ok]
    have z3 := three
    simp only []
    rw [if_pos (by rw [List.length_map]; omega), show acc.map D.int ++ [D.int t] = (acc ++ [t]).map D.int by simp]
    exact e3
theorem p8 {k : Nat} {S : D} {a b c : Option D} {t : Option D} {n : Nat} (hn : n ≤ 3) {r : Option Int × List (Option Int)} (hr : RowOk n r) (h : Bx m k) : ∃ (lv : List Int) (m' : Mu), evC (H_law_near K A) (.asg (.nm 7) (.blt .tuple [(.lc false (.nm 8) (.val (.idx (.var 1) (.con (.int 1)))) none (.fn "_law_pick" [(.var 0), (.lst [(.neg (.con (.int 1))), (.con (.int 0)), (.con (.int 60)), (.bin .Sub (.fn "_law_take" [(.var 0), (.con (.int 62))]) (.con (.int 1)))])]) [8])])) (Ev (rowD r) S k a b c t none none none) m = .ok (.nx (Ev (rowD r) S k a b c t (some (.tup (lv.map .int))) none none)) m' ∧ lv.length = n ∧ Bx m' k ∧ Kp m m' k := by
  have hl := hr.len
  obtain ⟨lv, m', e, h1, b1, k1⟩ := lives_loop (K := K) (A := A) (ρ := Ev (rowD r) S k a b c t none none none) rfl (by simp) (r.2.map tm) [] m (by simp; omega) h
  refine ⟨lv, m', ?_, by simpa [hl] using h1, b1, k1⟩
  have lc : evE (H_law_near K A) (.lc false (.nm 8) (.val (.idx (.var 1) (.con (.int 1)))) none (.fn "_law_pick" [(.var 0), (.lst [(.neg (.con (.int 1))), (.con (.int 0)), (.con (.int 60)), (.bin .Sub (.fn "_law_take" [(.var 0), (.con (.int 62))]) (.con (.int 1)))])]) [8]) (Ev (rowD r) S k a b c t none none none) m = .ok (.lst (lv.map .int)) m' := by
    rw [evE_lc, evI_tup (ds := r.2.map tm) (by simp only [evCs, evC.eq_1, evC.eq_2, evC.eq_3, evC.eq_4, evC.eq_7, evC.eq_8, evC.eq_9, evC.eq_10, evC.eq_11, evC.eq_12, evE.eq_1, evE.eq_2, evE.eq_3, evE.eq_4, evE.eq_5, evE.eq_6, evE.eq_7, evE.eq_8, evE.eq_9, evE.eq_10, evE.eq_11, evE.eq_12, evE.eq_13, evE.eq_14, evE.eq_15, evE.eq_16, evE.eq_17, evE.eq_18, evE.eq_19, evE.eq_20, evE.eq_21, evE.eq_22, evE.eq_24, evE.eq_25, evE.eq_26, evE.eq_27, evE.eq_28, evEs, evG, evGs, rs_ok, List.map_cons, List.map_nil, List.length_cons, List.length_nil, List.cons_append, List.nil_append, List.getElem?_cons_zero, List.getElem?_cons_succ, Nat.zero_add, Nat.reduceAdd, Nat.reduceSub, List.replicate_succ, List.replicate_zero, List.set_cons_succ, List.set_cons_zero, if_true, ri1]), rs_ok]
    rw [List.map_nil] at e
    rw [e]
    rfl
  rw [evC, evE, evEs, lc, rs_ok, evEs, rs_ok, rs_ok]
  simp only [bltD, look, rs_ok, evG]
  rfl
theorem p9 {k : Nat} {a t : Option D} {n : Nat} (hn : n ≤ 3) {r s : Option Int × List (Option Int)} (hr : RowOk n r) (hs : RowOk n s) {lv : List Int} (hl : lv.length = n) : ∃ x y, evC (H_law_near K A) (.ife (.not (.tru (.fn "_law_alike" [(.lst [(.cal (.var 4) [(.var 7)]), (.cal (.var 5) [(.var 7)])]), (.lst [(.fn "_law_bound" [(.var 1), (.var 7)]), (.fn "_law_bound" [(.var 2), (.var 7)])])]))) [(.ret (.con (.bl false)))] []) (Ev (rowD r) (rowD s) k a (some (rowI r)) (some (rowI s)) t (some (.tup (lv.map .int))) none none) m = .ok (.nx (Ev (rowD r) (rowD s) k a (some (rowI r)) (some (rowI s)) t (some (.tup (lv.map .int))) none none)) (m ++ [x] ++ [y] ++ [.lst []]) := by
  obtain ⟨i, hi⟩ := min_some (allT_ne hr hl)
  obtain ⟨j, hj⟩ := min_some (allT_ne hs hl)
  refine ⟨.lst ((allT r lv).map .int), .lst ((allT s lv).map .int), ?_⟩
  simp only [evCs, evC.eq_1, evC.eq_2, evC.eq_3, evC.eq_4, evC.eq_7, evC.eq_8, evC.eq_9, evC.eq_10, evC.eq_11, evC.eq_12, evE.eq_1, evE.eq_2, evE.eq_3, evE.eq_4, evE.eq_5, evE.eq_6, evE.eq_7, evE.eq_8, evE.eq_9, evE.eq_10, evE.eq_11, evE.eq_12, evE.eq_13, evE.eq_14, evE.eq_15, evE.eq_16, evE.eq_17, evE.eq_18, evE.eq_19, evE.eq_20, evE.eq_21, evE.eq_22, evE.eq_24, evE.eq_25, evE.eq_26, evE.eq_27, evE.eq_28, evEs, evG, evGs, rs_ok, List.map_cons, List.map_nil, List.length_cons, List.length_nil, List.cons_append, List.nil_append, List.getElem?_cons_zero, List.getElem?_cons_succ, Nat.zero_add, Nat.reduceAdd, Nat.reduceSub, List.replicate_succ, List.replicate_zero, List.set_cons_succ, List.set_cons_zero, if_true, fA, fU, ins_row, h2.ca, call_ok hn r hr lv hl hi, call_ok hn s hs lv hl hj, bound_ok hn r hr lv hl hi, bound_ok hn s hs lv hl hj, w_two, alike_ok (ints_pl _ _) (ints_sz _ _), truD, liftB, Bool.not_true]
end
end K26

set_option maxRecDepth 100000
set_option maxHeartbeats 1000000
namespace K26
open PySem L2 Pm
section
variable {K : PySem.W.Frag} {A : Addr} {m : Mu}
theorem row_rpr {r : Option Int × List (Option Int)} (h : Rb r) : rprD (H_law_near K A) (rowI r) m = .ok (.str (rowT r)) m := by
  have hl := (row_sh h).len
  have z : 52 ≤ sizeLine := by decide
  have z2 : ((rowT r).length ≤ sizeLine) = True := by simp only [eq_iff_iff, iff_true]; omega
  unfold rprD
  rw [show shownD (rowI r) = none from rfl]
  simp only [ins_row, h2.rp, repr_ok r h, Rs.noX, strR, rs_ok, z2, if_true]
theorem tm_rpr {o : Option Int} (h : InB o) : rprD (H_law_near K A) (tm o) m = .ok (.str (PyData.shown (tmP o))) m := by
  unfold rprD
  rw [sh_tm h]
theorem tup_rpr {ls : List (Option Int)} (hn : ls.length ≤ 3) (h : ∀ o ∈ ls, InB o) : rprD (H_law_near K A) (.tup (ls.map tm)) m = .ok (.str (PyData.shown (.tuple (ls.map tmP)))) m := by
  unfold rprD
  rw [sh_tup hn h]
theorem add_str {G : Gm} {a b : Nat} {s t : Str} (h : Sh a s) (k : Sh b t) (hz : a + b ≤ 100) : opD G .Add (.str s) (.str t) m = .ok (.str (s ++ t)) m := by
  have z : 100 ≤ sizeLine := by decide
  have z2 : (s.length + t.length ≤ sizeLine) = True := by have := h.len; have := k.len; simp only [eq_iff_iff, iff_true]; omega
  simp only [opD, binD, binS, z2, if_true]
theorem ne_str {G : Gm} {a : Nat} {s : Str} (h : Sh a s) : cmD G .NotEq (.str s) (.str s) m = .ok (.bl false) m := by
  have hs : SeqAt.shaped (.str s) = true := by
    unfold SeqAt.shaped
    rw [show (PyData.str s).canLay0 = PyData.strOk s by simp [PyData.canLay0], h.ok, show (PyData.str s).depth = 0 by simp [PyData.depth]]
    rfl
  exact leaf_ne (d := .str s) (by simpa [D.leaf] using hs)
theorem p10 {k : Nat} {S : D} {a c t v : Option D} {n : Nat} (hn : n ≤ 3) {r : Option Int × List (Option Int)} (hr : RowOk n r) : evC (H_law_near K A) (.ife (.cmp .NotEq (.rpr (.var 4)) (.bin .Add (.bin .Add (.bin .Add (.bin .Add (.con (.str "LifeRow(")) (.rpr (.idx (.var 1) (.con (.int 0))))) (.con (.str ", "))) (.rpr (.idx (.var 1) (.con (.int 1))))) (.con (.str ")")))) [(.ret (.con (.bl false)))] []) (Ev (rowD r) S k a (some (rowI r)) c t v none none) m = .ok (.nx (Ev (rowD r) S k a (some (rowI r)) c t v none none)) m := by
  have h := hr.rb hn
  have hl := h.len
  simp only [evCs, evC.eq_1, evC.eq_2, evC.eq_3, evC.eq_4, evC.eq_7, evC.eq_8, evC.eq_9, evC.eq_10, evC.eq_11, evC.eq_12, evE.eq_1, evE.eq_2, evE.eq_3, evE.eq_4, evE.eq_5, evE.eq_6, evE.eq_7, evE.eq_8, evE.eq_9, evE.eq_10, evE.eq_11, evE.eq_12, evE.eq_13, evE.eq_14, evE.eq_15, evE.eq_16, evE.eq_17, evE.eq_18, evE.eq_19, evE.eq_20, evE.eq_21, evE.eq_22, evE.eq_24, evE.eq_25, evE.eq_26, evE.eq_27, evE.eq_28, evEs, evG, evGs, rs_ok, List.map_cons, List.map_nil, List.length_cons, List.length_nil, List.cons_append, List.nil_append, List.getElem?_cons_zero, List.getElem?_cons_succ, Nat.zero_add, Nat.reduceAdd, Nat.reduceSub, List.replicate_succ, List.replicate_zero, List.set_cons_succ, List.set_cons_zero, if_true, row_rpr h, ri0, ri1, tm_rpr h.left, tup_rpr h.len h.lost]
  rw [add_str lit_a (tm_sh h.left) (by omega), rs_ok, add_str (lit_a.app (tm_sh h.left)) lit_b (by omega), rs_ok]
  rw [add_str ((lit_a.app (tm_sh h.left)).app lit_b) (tup_sh h.lost) (by omega), rs_ok, add_str (((lit_a.app (tm_sh h.left)).app lit_b).app (tup_sh h.lost)) lit_c (by omega), rs_ok]
  rw [show rowT r = ((("LifeRow(" : String) : Str) ++ PyData.shown (tmP r.1)) ++ ((", " : String) : Str) ++ PyData.shown (.tuple (r.2.map tmP)) ++ ((")" : String) : Str) from rfl] at *
  rw [ne_str ((((lit_a.app (tm_sh h.left)).app lit_b).app (tup_sh h.lost)).app lit_c), rs_ok]
theorem p11 {k : Nat} {S : D} {a c t v : Option D} {n : Nat} (hn : n ≤ 3) {r : Option Int × List (Option Int)} (hr : RowOk n r) : ∃ x, evC (H_law_near K A) (.for (.nm 9) (.val (.tup [(.rpr (.var 4)), (.var 1), (.con .non), (.con (.int 7))])) [(.ife (.or (.cmp .Eq (.var 4) (.var 9)) (.not (.cmp .NotEq (.var 4) (.var 9)))) [(.ret (.con (.bl false)))] [])]) (Ev (rowD r) S k a (some (rowI r)) c t v none none) m = .ok (.nx (Ev (rowD r) S k a (some (rowI r)) c t v none x)) m := by
  have h := hr.rb hn
  have z4 : (0 + 1 + 1 + 1 + 1 ≤ sizeLine) = True := by decide
  have loop := forL_find (m := m) (f := fun d ρ m => (evG (H_law_near K A) (.nm 9) d ρ m).bind fun ρ m => evCs (H_law_near K A) [(.ife (.or (.cmp .Eq (.var 4) (.var 9)) (.not (.cmp .NotEq (.var 4) (.var 9)))) [(.ret (.con (.bl false)))] [])] ρ m) (ψ := (id : D → D)) (bad := fun _ => false) (d := .non)
    (fun ρ => ∃ x, ρ = Ev (rowD r) S k a (some (rowI r)) c t v none x) [D.str (rowT r), rowD r, .non, .int 7] (ρ := Ev (rowD r) S k a (some (rowI r)) c t v none none) (fun d hd ρ ⟨x, e⟩ => by
      subst e
      refine ⟨fun q => (nomatch q), fun _ => ⟨Ev (rowD r) S k a (some (rowI r)) c t v none (some d), ?_, _, rfl⟩⟩
      have key : ∃ u, d.typ (T0 K A) m = some u ∧ tys.contains u = true ∧ u ≠ .ref A := by
        simp only [List.mem_cons, List.not_mem_nil, or_false] at hd
        rcases hd with rfl | rfl | rfl | rfl
        · exact ⟨_, rfl, by decide, fun e => by cases e⟩
        · exact ⟨_, rfl, by decide, fun e => by cases e⟩
        · exact ⟨_, rfl, by decide, fun e => by cases e⟩
        · exact ⟨_, rfl, by decide, fun e => by cases e⟩
      obtain ⟨u, k1, k2, k3⟩ := key
      simp only [evCs, evC.eq_1, evC.eq_2, evC.eq_3, evC.eq_4, evC.eq_7, evC.eq_8, evC.eq_9, evC.eq_10, evC.eq_11, evC.eq_12, evE.eq_1, evE.eq_2, evE.eq_3, evE.eq_4, evE.eq_5, evE.eq_6, evE.eq_7, evE.eq_8, evE.eq_9, evE.eq_10, evE.eq_11, evE.eq_12, evE.eq_13, evE.eq_14, evE.eq_15, evE.eq_16, evE.eq_17, evE.eq_18, evE.eq_19, evE.eq_20, evE.eq_21, evE.eq_22, evE.eq_24, evE.eq_25, evE.eq_26, evE.eq_27, evE.eq_28, evEs, evG, evGs, rs_ok, List.map_cons, List.map_nil, List.length_cons, List.length_nil, List.cons_append, List.nil_append, List.getElem?_cons_zero, List.getElem?_cons_succ, Nat.zero_add, Nat.reduceAdd, Nat.reduceSub, List.replicate_succ, List.replicate_zero, List.set_cons_succ, List.set_cons_zero, if_true, id, odd_eq h2 r k1 k2 k3, odd_ne h2 r k1 k2 k3, Bool.not_true]) ⟨none, rfl⟩
  obtain ⟨ρ', e, x, rfl⟩ := loop.2 (by simp)
  refine ⟨x, ?_⟩
  rw [evC_for, evI_tup (ds := [D.str (rowT r), rowD r, .non, .int 7]) (by simp only [evCs, evC.eq_1, evC.eq_2, evC.eq_3, evC.eq_4, evC.eq_7, evC.eq_8, evC.eq_9, evC.eq_10, evC.eq_11, evC.eq_12, evE.eq_1, evE.eq_2, evE.eq_3, evE.eq_4, evE.eq_5, evE.eq_6, evE.eq_7, evE.eq_8, evE.eq_9, evE.eq_10, evE.eq_11, evE.eq_12, evE.eq_13, evE.eq_14, evE.eq_15, evE.eq_16, evE.eq_17, evE.eq_18, evE.eq_19, evE.eq_20, evE.eq_21, evE.eq_22, evE.eq_24, evE.eq_25, evE.eq_26, evE.eq_27, evE.eq_28, evEs, evG, evGs, rs_ok, List.map_cons, List.map_nil, List.length_cons, List.length_nil, List.cons_append, List.nil_append, List.getElem?_cons_zero, List.getElem?_cons_succ, Nat.zero_add, Nat.reduceAdd, Nat.reduceSub, List.replicate_succ, List.replicate_zero, List.set_cons_succ, List.set_cons_zero, if_true, row_rpr h, z4]), rs_ok]
  rw [List.map_id] at e
  exact e
theorem p12 {k : Nat} {a t v x : Option D} {n : Nat} (hn : n ≤ 3) {r s : Option Int × List (Option Int)} (hr : RowOk n r) (hs : RowOk n s) : evC (H_law_near K A) (.ret (.fn "_law_alike" [(.lst [(.fn "_law_parts_of" [(.var 4)]), (.fn "_law_parts_of" [(.var 5)])]), (.lst [(.var 1), (.var 2)])])) (Ev (rowD r) (rowD s) k a (some (rowI r)) (some (rowI s)) t v none x) m = .ok (.rt (.bl true)) (m ++ [.lst []]) := by
  have hp : (D.lst [rowD r, rowD s]).pl = true := by simp [D.pl, D.pls, row_pl]
  have hz : (D.lst [rowD r, rowD s]).sz ≤ 1000000 := by
    have h1 := hr.len
    have h2 := hs.len
    simp only [D.sz, D.szs, row_sz]; omega
  simp only [evCs, evC.eq_1, evC.eq_2, evC.eq_3, evC.eq_4, evC.eq_7, evC.eq_8, evC.eq_9, evC.eq_10, evC.eq_11, evC.eq_12, evE.eq_1, evE.eq_2, evE.eq_3, evE.eq_4, evE.eq_5, evE.eq_6, evE.eq_7, evE.eq_8, evE.eq_9, evE.eq_10, evE.eq_11, evE.eq_12, evE.eq_13, evE.eq_14, evE.eq_15, evE.eq_16, evE.eq_17, evE.eq_18, evE.eq_19, evE.eq_20, evE.eq_21, evE.eq_22, evE.eq_24, evE.eq_25, evE.eq_26, evE.eq_27, evE.eq_28, evEs, evG, evGs, rs_ok, List.map_cons, List.map_nil, List.length_cons, List.length_nil, List.cons_append, List.nil_append, List.getElem?_cons_zero, List.getElem?_cons_succ, Nat.zero_add, Nat.reduceAdd, Nat.reduceSub, List.replicate_succ, List.replicate_zero, List.set_cons_succ, List.set_cons_zero, if_true, fA, fP, parts_ok, w_two, alike_ok hp hz]
theorem pr_body : b__law_pair_right = [b__law_pair_right.getD 0 .pas, b__law_pair_right.getD 1 .pas, b__law_pair_right.getD 2 .pas, b__law_pair_right.getD 3 .pas, b__law_pair_right.getD 4 .pas, b__law_pair_right.getD 5 .pas, b__law_pair_right.getD 6 .pas, b__law_pair_right.getD 7 .pas, b__law_pair_right.getD 8 .pas, b__law_pair_right.getD 9 .pas, b__law_pair_right.getD 10 .pas, b__law_pair_right.getD 11 .pas, b__law_pair_right.getD 12 .pas] := rfl
theorem Kp.pushR {m m' : Mu} {k : Nat} {o : O} (h : Kp m m' k) : Kp m (m' ++ [o]) k := h.trans Kp.push
theorem pair_ok {k n : Nat} (h : Bx m k) (hn : n ≤ 3) {r s : Option Int × List (Option Int)} (hr : RowOk n r) (hs : RowOk n s) : ∃ m', g_law_pair_right K A [.own k, rowD r, rowD s] m = .ok (.bl true) m' ∧ Bx m' k ∧ Kp m m' k := by
  have hk := h.lt
  have e0 := p0 (K := K) (A := A) (m := m) (k := k) (R := rowD r) s
  have e1 := p1 (K := K) (A := A) (k := k) r s (p := m.length) (m := m ++ [.lst (s.2.map tm)]) (get_last _)
  have e2 := p2 (K := K) (A := A) (k := k) (R := rowD r) (S := rowD s) (a := some (rowI r)) (b := some (rowI s)) (p := m.length) (m := m ++ [O.lst (s.2.map tm)] ++ [O.dead] ++ [O.dead]) (ds := s.2.map tm) (by rw [List.getElem?_append_left (by simp), List.getElem?_append_left (by simp)]; exact get_last _) (by have := three; have := hs.len; rw [List.length_map]; omega)
  have b2 : Bx ((m ++ [O.lst (s.2.map tm)] ++ [O.dead] ++ [O.dead]).set m.length (O.lst (s.2.map tm ++ [D.int 7]))) k := (((h.push).push).push).put (by omega)
  have k2 : Kp m ((m ++ [O.lst (s.2.map tm)] ++ [O.dead] ++ [O.dead]).set m.length (O.lst (s.2.map tm ++ [D.int 7]))) k := (((Kp.push).pushR).pushR).put (Nat.le_refl _)
  revert e2 b2 k2
  generalize (m ++ [O.lst (s.2.map tm)] ++ [O.dead] ++ [O.dead]).set m.length (O.lst (s.2.map tm ++ [D.int 7])) = m3
  intro e2 b2 k2
  have e3 := p3 (K := K) (A := A) (m := m3) (k := k) (a := some (.own m.length)) hn hr hs
  have b3 := (b2.push (o := .dead)).push (o := .lst [])
  have k3 := (k2.pushR (o := .dead)).pushR (o := .lst [])
  revert e3 b3 k3
  generalize m3 ++ [O.dead] ++ [O.lst []] = m4
  intro e3 b3 k3
  have e4 := p4 (K := K) (A := A) (m := m4) (k := k) (a := some (.own m.length)) (r := r) (s := s)
  have e5 := p5 (K := K) (A := A) (m := m4 ++ [.lst []]) (k := k) (a := some (.own m.length)) hn hr hs
  have b5 := (b3.push (o := .lst [])).push (o := .lst [])
  have k5 := (k3.pushR (o := .lst [])).pushR (o := .lst [])
  obtain ⟨t, m6, e6, b6, k6⟩ := p6 (K := K) (A := A) (R := rowD r) (S := rowD s) (a := some (.own m.length)) (b := some (rowI r)) (c := some (rowI s)) b5
  have e7 := p7 (K := K) (A := A) (m := m6) (k := k) (S := rowD s) (a := some (.own m.length)) (c := some (rowI s)) (t := t) hn hr
  have b7 := (b6.push (o := .dead)).push (o := .lst [])
  have k7 := ((k5.trans k6).pushR (o := .dead)).pushR (o := .lst [])
  obtain ⟨lv, m8, e8, hl, b8, k8⟩ := p8 (K := K) (A := A) (S := rowD s) (a := some (.own m.length)) (b := some (rowI r)) (c := some (rowI s)) (t := some (.int t)) hn hr b7
  obtain ⟨x, y, e9⟩ := p9 (K := K) (A := A) (m := m8) (k := k) (a := some (.own m.length)) (t := some (.int t)) hn hr hs hl
  have b9 := ((b8.push (o := x)).push (o := y)).push (o := .lst [])
  have k9 := (((k7.trans k8).pushR (o := x)).pushR (o := y)).pushR (o := .lst [])
  have e10 := p10 (K := K) (A := A) (m := m8 ++ [x] ++ [y] ++ [.lst []]) (k := k) (S := rowD s) (a := some (.own m.length)) (c := some (rowI s)) (t := some (.int t)) (v := some (.tup (lv.map .int))) hn hr
  obtain ⟨z, e11⟩ := p11 (K := K) (A := A) (m := m8 ++ [x] ++ [y] ++ [.lst []]) (k := k) (S := rowD s) (a := some (.own m.length)) (c := some (rowI s)) (t := some (.int t)) (v := some (.tup (lv.map .int))) hn hr
  have e12 := p12 (K := K) (A := A) (m := m8 ++ [x] ++ [y] ++ [.lst []]) (k := k) (a := some (.own m.length)) (t := some (.int t)) (v := some (.tup (lv.map .int))) (x := z) hn hr hs
  refine ⟨m8 ++ [x] ++ [y] ++ [.lst []] ++ [.lst []], ?_, b9.push, k9.pushR⟩
  unfold g_law_pair_right runF
  rw [if_pos (show [D.own k, rowD r, rowD s].length = 3 from rfl), show [D.own k, rowD r, rowD s].map some ++ List.replicate (N__law_pair_right.length - [D.own k, rowD r, rowD s].length) none = Ev (rowD r) (rowD s) k none none none none none none none from rfl, pr_body]
  rw [evCs_nx (show evC _ (b__law_pair_right.getD 0 .pas) _ _ = _ from e0), evCs_nx (show evC _ (b__law_pair_right.getD 1 .pas) _ _ = _ from e1), evCs_nx (show evC _ (b__law_pair_right.getD 2 .pas) _ _ = _ from e2), evCs_nx (show evC _ (b__law_pair_right.getD 3 .pas) _ _ = _ from e3), evCs_nx (show evC _ (b__law_pair_right.getD 4 .pas) _ _ = _ from e4), evCs_nx (show evC _ (b__law_pair_right.getD 5 .pas) _ _ = _ from e5), evCs_nx (show evC _ (b__law_pair_right.getD 6 .pas) _ _ = _ from e6), evCs_nx (show evC _ (b__law_pair_right.getD 7 .pas) _ _ = _ from e7), evCs_nx (show evC _ (b__law_pair_right.getD 8 .pas) _ _ = _ from e8), evCs_nx (show evC _ (b__law_pair_right.getD 9 .pas) _ _ = _ from e9), evCs_nx (show evC _ (b__law_pair_right.getD 10 .pas) _ _ = _ from e10), evCs_nx (show evC _ (b__law_pair_right.getD 11 .pas) _ _ = _ from e11), evCs_rt (show evC _ (b__law_pair_right.getD 12 .pas) _ _ = _ from e12)]
  rfl
end
end K26

set_option maxRecDepth 100000
set_option maxHeartbeats 1000000
namespace K26
open PySem L2 Pm
section
variable {K : PySem.W.Frag} {A : Addr} {m : Mu}
theorem forL_go {f : D → Pm.Env → Mu → Rs Fl} (I : Pm.Env → Mu → Prop) : ∀ (ds : List D) {ρ : Pm.Env} {m : Mu}, (∀ d ∈ ds, ∀ ρ m, I ρ m → ∃ ρ' m', f d ρ m = .ok (.nx ρ') m' ∧ I ρ' m') → I ρ m → ∃ ρ' m', forL f ds ρ m = .ok (.nx ρ') m' ∧ I ρ' m'
  | [], ρ, m, _, h => ⟨ρ, m, by unfold forL; rfl, h⟩
  | d :: ds, ρ, m, hf, h => by
    obtain ⟨ρ1, m1, e1, h1⟩ := hf d List.mem_cons_self ρ m h
    obtain ⟨ρ2, m2, e2, h2⟩ := forL_go I ds (ρ := ρ1) (m := m1) (fun d hd => hf d (List.mem_cons_of_mem _ hd)) h1
    refine ⟨ρ2, m2, ?_, h2⟩
    unfold forL
    rw [e1, rs_ok]
    exact e2
abbrev Row := Option Int × List (Option Int)
abbrev Gl : Gm := H_law_pair_right K A
theorem gB : (Gl (K := K) (A := A)).fn "_law_box" = some (g_law_box K A) := rfl
theorem gT : (Gl (K := K) (A := A)).fn "_law_take" = some (g_law_take K A) := rfl
theorem gR : (Gl (K := K) (A := A)).fn "_law_row" = some (g_law_row K A) := rfl
theorem gN : (Gl (K := K) (A := A)).fn "_law_near" = some (g_law_near K A) := rfl
theorem gP : (Gl (K := K) (A := A)).fn "_law_pair_right" = some (g_law_pair_right K A) := rfl
/-- the innermost loop -/
theorem inner {k n : Nat} (hn : n ≤ 3) {S : D} {a b c e : Option D} {one : Row} (h1 : RowOk n one) (rows : List Row) (hr : ∀ r ∈ rows, RowOk n r) {x : Option D} (h : Bx m k) : ∃ ρ' m', forL (fun d ρ m => (evG (Gl (K := K) (A := A)) (.nm 7) d ρ m).bind fun ρ m => evCs (Gl (K := K) (A := A)) [(.ife (.not (.tru (.fn "_law_pair_right" [(.var 2), (.var 6), (.var 7)]))) [(.ret (.con (.bl false)))] [])] ρ m) (rows.map rowD) [some S, a, some (.own k), b, c, e, some (rowD one), x] m = .ok (.nx ρ') m' ∧ (∃ y, ρ' = [some S, a, some (.own k), b, c, e, some (rowD one), y]) ∧ Bx m' k := by
  obtain ⟨ρ', m', e1, ⟨y, e2⟩, b1⟩ := forL_go (f := fun d ρ m => (evG (Gl (K := K) (A := A)) (.nm 7) d ρ m).bind fun ρ m => evCs (Gl (K := K) (A := A)) [(.ife (.not (.tru (.fn "_law_pair_right" [(.var 2), (.var 6), (.var 7)]))) [(.ret (.con (.bl false)))] [])] ρ m)
    (fun ρ m => (∃ y, ρ = [some S, a, some (.own k), b, c, e, some (rowD one), y]) ∧ Bx m k) (rows.map rowD) (ρ := [some S, a, some (.own k), b, c, e, some (rowD one), x]) (m := m) (fun d hd ρ m ⟨⟨y, e1⟩, hb⟩ => by
      subst e1
      obtain ⟨r, hr', rfl⟩ := List.mem_map.mp hd
      obtain ⟨m', e2, b2, k2⟩ := pair_ok (K := K) (A := A) hb hn h1 (hr r hr')
      refine ⟨[some S, a, some (.own k), b, c, e, some (rowD one), some (rowD r)], m', ?_, ⟨_, rfl⟩, b2⟩
      simp only [evCs, evC.eq_1, evC.eq_2, evC.eq_3, evC.eq_4, evC.eq_7, evC.eq_8, evC.eq_9, evC.eq_10, evC.eq_11, evC.eq_12, evE.eq_1, evE.eq_2, evE.eq_3, evE.eq_4, evE.eq_5, evE.eq_6, evE.eq_7, evE.eq_8, evE.eq_9, evE.eq_10, evE.eq_11, evE.eq_12, evE.eq_13, evE.eq_14, evE.eq_15, evE.eq_16, evE.eq_17, evE.eq_18, evE.eq_19, evE.eq_20, evE.eq_21, evE.eq_22, evE.eq_24, evE.eq_25, evE.eq_26, evE.eq_27, evE.eq_28, evEs, evG, evGs, rs_ok, List.map_cons, List.map_nil, List.length_cons, List.length_nil, List.cons_append, List.nil_append, List.getElem?_cons_zero, List.getElem?_cons_succ, Nat.zero_add, Nat.reduceAdd, Nat.reduceSub, List.replicate_succ, List.replicate_zero, List.set_cons_succ, List.set_cons_zero, if_true, gP, e2, truD, liftB, Bool.not_true]) ⟨⟨x, rfl⟩, h⟩
  exact ⟨ρ', m', e1, ⟨y, e2⟩, b1⟩
theorem addL_ok {G : Gm} {xs ys : List D} (h : xs.length + ys.length ≤ sizeLine) : opD G .Add (.lst xs) (.lst ys) m = .ok (.lst (xs ++ ys)) m := by
  simp only [opD, binD, binL, lookT, h, if_true]
/-- the loops over pairs -/
theorem outer {k n : Nat} (hn : n ≤ 3) {S : D} {a b e f x : Option D} (rows : List Row) (hl : rows.length ≤ 4) (hr : ∀ r ∈ rows, RowOk n r) (h : Bx m k) : ∃ ρ' m', evC (Gl (K := K) (A := A)) (.for (.nm 6) (.val (.var 4)) [(.for (.nm 7) (.val (.bin .Add (.var 4) (.lst [(.fn "_law_near" [(.var 2), (.var 6)])]))) [(.ife (.not (.tru (.fn "_law_pair_right" [(.var 2), (.var 6), (.var 7)]))) [(.ret (.con (.bl false)))] [])])]) [some S, a, some (.own k), b, some (.lst (rows.map rowD)), e, f, x] m = .ok (.nx ρ') m' ∧ (∃ a b c d e f g, ρ' = [some S, a, b, c, d, e, f, g]) := by
  obtain ⟨ρ', m', e1, ⟨y, z, e2⟩, b1⟩ := forL_go (f := fun d ρ m => (evG (Gl (K := K) (A := A)) (.nm 6) d ρ m).bind fun ρ m => evCs (Gl (K := K) (A := A)) [(.for (.nm 7) (.val (.bin .Add (.var 4) (.lst [(.fn "_law_near" [(.var 2), (.var 6)])]))) [(.ife (.not (.tru (.fn "_law_pair_right" [(.var 2), (.var 6), (.var 7)]))) [(.ret (.con (.bl false)))] [])])] ρ m)
    (fun ρ m => (∃ y z, ρ = [some S, a, some (.own k), b, some (.lst (rows.map rowD)), e, y, z]) ∧ Bx m k) (rows.map rowD) (ρ := [some S, a, some (.own k), b, some (.lst (rows.map rowD)), e, f, x]) (m := m) (fun d hd ρ m ⟨⟨y, z, e1⟩, hb⟩ => by
      subst e1
      obtain ⟨r, hr', rfl⟩ := List.mem_map.mp hd
      obtain ⟨r', m1, e2, h1, b2, k2⟩ := near_ok (K := K) (A := A) hb hn (hr r hr')
      obtain ⟨ρ', m2, e3, ⟨y2, e4⟩, b3⟩ := inner (K := K) (A := A) (S := S) (a := a) (b := b) (c := some (.lst (rows.map rowD))) (e := e) (x := z) hn (hr r hr') (rows ++ [r']) (fun q hq => by
        rcases List.mem_append.mp hq with q1 | q1
        · exact hr q q1
        · rw [List.mem_singleton] at q1; subst q1; exact h1) b2
      refine ⟨ρ', m2, ?_, ⟨_, _, e4⟩, b3⟩
      have z1 : (0 + 1 ≤ sizeLine) = True := by decide
      have zz : 5 ≤ sizeLine := by decide
      have hi : evI (Gl (K := K) (A := A)) (.val (.bin .Add (.var 4) (.lst [(.fn "_law_near" [(.var 2), (.var 6)])]))) [some S, a, some (.own k), b, some (.lst (rows.map rowD)), e, some (rowD r), z] m = .ok ((rows ++ [r']).map rowD) m1 := by
        have e5 : evE (Gl (K := K) (A := A)) (.bin .Add (.var 4) (.lst [(.fn "_law_near" [(.var 2), (.var 6)])])) [some S, a, some (.own k), b, some (.lst (rows.map rowD)), e, some (rowD r), z] m = .ok (.lst ((rows ++ [r']).map rowD)) m1 := by
          simp only [evCs, evC.eq_1, evC.eq_2, evC.eq_3, evC.eq_4, evC.eq_7, evC.eq_8, evC.eq_9, evC.eq_10, evC.eq_11, evC.eq_12, evE.eq_1, evE.eq_2, evE.eq_3, evE.eq_4, evE.eq_5, evE.eq_6, evE.eq_7, evE.eq_8, evE.eq_9, evE.eq_10, evE.eq_11, evE.eq_12, evE.eq_13, evE.eq_14, evE.eq_15, evE.eq_16, evE.eq_17, evE.eq_18, evE.eq_19, evE.eq_20, evE.eq_21, evE.eq_22, evE.eq_24, evE.eq_25, evE.eq_26, evE.eq_27, evE.eq_28, evEs, evG, evGs, rs_ok, List.map_cons, List.map_nil, List.length_cons, List.length_nil, List.cons_append, List.nil_append, List.getElem?_cons_zero, List.getElem?_cons_succ, Nat.zero_add, Nat.reduceAdd, Nat.reduceSub, List.replicate_succ, List.replicate_zero, List.set_cons_succ, List.set_cons_zero, if_true, gN, e2, z1]
          rw [addL_ok (by rw [List.length_map]; simp only [List.length_cons, List.length_nil]; omega)]
          simp
        unfold evI
        rw [e5, rs_ok]
      rw [evG, rs_ok]
      simp only [List.set_cons_succ, List.set_cons_zero]
      rw [evCs_one, evC_for, hi, rs_ok]
      exact e3) ⟨⟨f, x, rfl⟩, h⟩
  refine ⟨ρ', m', ?_, a, some (.own k), b, some (.lst (rows.map rowD)), e, y, z, e2⟩
  rw [evC_for, evI_lst (evE_var rfl), rs_ok]
  exact e1
theorem rows_loop {k n : Nat} (hn : n ≤ 3) {ρ : Pm.Env} (h2 : ρ[2]? = some (some (.own k))) (h3 : ρ[3]? = some (some (.int n))) : ∀ (src : List D) (acc : List Row) (m : Mu), acc.length + src.length ≤ 3 → (∀ r ∈ acc, RowOk n r) → Bx m k → ∃ (rs : List Row) (m' : Mu), lcL (lcT (Gl (K := K) (A := A)) (.nm 5) none (.fn "_law_row" [(.var 2), (.var 3)]) (wipeD ρ [5])) src (acc.map rowD) m = .ok (rs.map rowD) m' ∧ rs.length = acc.length + src.length ∧ (∀ r ∈ rs, RowOk n r) ∧ Bx m' k
  | [], acc, m, _, ha, h => ⟨acc, m, by unfold lcL; rfl, by simp, ha, h⟩
  | d :: src, acc, m, hl, ha, h => by
    rw [List.length_cons] at hl
    obtain ⟨r, m1, e1, hr, b1, k1⟩ := row_ok K A h hn
    obtain ⟨rs, m2, e2, l2, hrs, b2⟩ := rows_loop hn h2 h3 src (acc ++ [r]) m1 (by rw [List.length_append]; simp only [List.length_cons, List.length_nil]; omega) (fun q hq => by
        rcases List.mem_append.mp hq with q1 | q1
        · exact ha q q1
        · rw [List.mem_singleton] at q1; subst q1; exact hr) b1
    refine ⟨rs, m2, ?_, by rw [l2, List.length_append, List.length_cons]; simp only [List.length_cons, List.length_nil]; omega, hrs, b2⟩
    have g2 : ((wipeD ρ [5]).set 5 (some d))[2]? = some (some (.own k)) := by
      rw [List.getElem?_set_ne (by decide), wipeD, List.getElem?_set_ne (by decide)]
      exact h2
    have g3 : ((wipeD ρ [5]).set 5 (some d))[3]? = some (some (.int n)) := by
      rw [List.getElem?_set_ne (by decide), wipeD, List.getElem?_set_ne (by decide)]
      exact h3
    have ht : lcT (Gl (K := K) (A := A)) (.nm 5) none (.fn "_law_row" [(.var 2), (.var 3)]) (wipeD ρ [5]) d m = .ok (some (rowD r)) m1 := by
      unfold lcT
      rw [evG, rs_ok, evT, rs_ok]
      simp only [evCs, evC.eq_1, evC.eq_2, evC.eq_3, evC.eq_4, evC.eq_7, evC.eq_8, evC.eq_9, evC.eq_10, evC.eq_11, evC.eq_12, evE.eq_1, evE.eq_2, evE.eq_3, evE.eq_4, evE.eq_5, evE.eq_6, evE.eq_7, evE.eq_8, evE.eq_9, evE.eq_10, evE.eq_11, evE.eq_12, evE.eq_13, evE.eq_14, evE.eq_15, evE.eq_16, evE.eq_17, evE.eq_18, evE.eq_19, evE.eq_20, evE.eq_21, evE.eq_22, evE.eq_24, evE.eq_25, evE.eq_26, evE.eq_27, evE.eq_28, evEs, evG, evGs, rs_ok, List.map_cons, List.map_nil, List.length_cons, List.length_nil, List.cons_append, List.nil_append, List.getElem?_cons_zero, List.getElem?_cons_succ, Nat.zero_add, Nat.reduceAdd, Nat.reduceSub, List.replicate_succ, List.replicate_zero, List.set_cons_succ, List.set_cons_zero, if_true, g2, g3, gR, e1]
    unfold lcL
    rw [ht, rs_ok]
    have z3 := three
    simp only []
    rw [if_pos (by rw [List.length_map]; omega), show acc.map rowD ++ [rowD r] = (acc ++ [r]).map rowD by simp]
    exact e2
theorem turn_ok (ns : List Int) (hl : ns.length ≤ 63) {j : Int} (hj : 0 ≤ j) {a b c d e f g : Option D} (m : Mu) : ∃ ρ' m', evCs (Gl (K := K) (A := A)) [(.asg (.nm 2) (.fn "_law_box" [(.var 0), (.var 1)])), (.asg (.nm 3) (.fn "_law_take" [(.var 2), (.con (.int 4))])), (.asg (.nm 4) (.lc true (.nm 5) (.rng [(.con (.int 3))]) none (.fn "_law_row" [(.var 2), (.var 3)]) [5])), (.expr (.bm (.var 4) .append [(.fn "_law_near" [(.var 2), (.idx (.var 4) (.con (.int 0)))])])), (.frz [4] (.for (.nm 6) (.val (.var 4)) [(.for (.nm 7) (.val (.bin .Add (.var 4) (.lst [(.fn "_law_near" [(.var 2), (.var 6)])]))) [(.ife (.not (.tru (.fn "_law_pair_right" [(.var 2), (.var 6), (.var 7)]))) [(.ret (.con (.bl false)))] [])])]))] [some (.frl (ns.map .int)), some (.int j), b, c, d, e, f, g] m = .ok (.nx ρ') m' ∧ (∃ a b c d e f g, ρ' = [some (.frl (ns.map .int)), a, b, c, d, e, f, g]) := by
  obtain ⟨x, y, e0⟩ := box_ok K A ns (by omega) hj m
  have b0 : Bx (m ++ [.lst [.int x, .int y, .int 0]]) m.length := ⟨x, y, 0, get_last _⟩
  obtain ⟨q, m1, e1, q1, q2, b1, k1⟩ := take_bx K A (n := 4) b0 (by decide) (by decide)
  obtain ⟨n, rfl⟩ : ∃ n : Nat, q = (n : Int) := ⟨q.toNat, by omega⟩
  have hn : n ≤ 3 := by omega
  obtain ⟨rs, m2, e2, l2, hrs, b2⟩ := rows_loop (K := K) (A := A) (ρ := [some (.frl (ns.map .int)), some (.int j), some (.own m.length), some (.int n), d, e, f, g]) hn rfl rfl ((List.range 3).map fun (i : Nat) => D.int (0 + (i : Int))) [] m1 (by simp) (fun r hr => absurd hr List.not_mem_nil) b1
  have l2 : rs.length = 3 := by simpa using l2
  have hne : m2.length ≠ m.length := by have := b2.lt; omega
  have b2' : Bx (m2 ++ [.lst (rs.map rowD)]) m.length := b2.push
  have hrs0 : RowOk n rs[0] := hrs _ (List.getElem_mem (by omega))
  obtain ⟨r', m3, e3, hr', b3, k3⟩ := near_ok (K := K) (A := A) b2' hn hrs0
  have hat : m3[m2.length]? = some (.lst (rs.map rowD)) := k3.at hne (get_last _)
  have hix : liftO (m2 ++ [O.lst (rs.map rowD)]) (idxD (m2 ++ [O.lst (rs.map rowD)]) (.own m2.length) (.int 0)) = .ok (rowD rs[0]) (m2 ++ [.lst (rs.map rowD)]) := idx_own (get_last _) (by
    have := atN (l := rs.map rowD) (x := rowD rs[0]) 0 (by rw [List.getElem?_map, List.getElem?_eq_getElem (by omega)]; rfl)
    simpa using this)
  have z4 : 4 < sizeLine := by decide
  have hap : mtD .append (.own m2.length) [rowD r'] m3 = .ok .non (m3.set m2.length (.lst ((rs ++ [r']).map rowD))) := by
    simp only [mtD, hat]
    rw [if_pos (by rw [List.length_map]; omega)]
    simp
  have hlk : lookT (m2 ++ [O.lst (rs.map rowD)]) (.own m2.length) = some (rs.map rowD) := by simp [lookT]
  have hs4 : (m3.set m2.length (.lst ((rs ++ [r']).map rowD)))[m2.length]? = some (.lst ((rs ++ [r']).map rowD)) := set_get hat
  have b4 : Bx ((m3.set m2.length (.lst ((rs ++ [r']).map rowD))).set m2.length .dead) m.length := (b3.put hne).put hne
  obtain ⟨ρ', m', e5, h5⟩ := outer (K := K) (A := A) (S := .frl (ns.map .int)) (a := some (.int j)) (b := some (.int n)) (e := e) (f := f) (x := g) hn (rs ++ [r']) (by rw [List.length_append, l2]; simp) (fun q hq => by
        rcases List.mem_append.mp hq with q1 | q1
        · exact hrs q q1
        · rw [List.mem_singleton] at q1; subst q1; exact hr') b4
  refine ⟨ρ', m', ?_, h5⟩
  rw [evCs_nx (ρ' := [some (.frl (ns.map .int)), some (.int j), some (.own m.length), c, d, e, f, g]) (m' := m ++ [.lst [.int x, .int y, .int 0]]) (by simp only [evCs, evC.eq_1, evC.eq_2, evC.eq_3, evC.eq_4, evC.eq_7, evC.eq_8, evC.eq_9, evC.eq_10, evC.eq_11, evC.eq_12, evE.eq_1, evE.eq_2, evE.eq_3, evE.eq_4, evE.eq_5, evE.eq_6, evE.eq_7, evE.eq_8, evE.eq_9, evE.eq_10, evE.eq_11, evE.eq_12, evE.eq_13, evE.eq_14, evE.eq_15, evE.eq_16, evE.eq_17, evE.eq_18, evE.eq_19, evE.eq_20, evE.eq_21, evE.eq_22, evE.eq_24, evE.eq_25, evE.eq_26, evE.eq_27, evE.eq_28, evEs, evG, evGs, rs_ok, List.map_cons, List.map_nil, List.length_cons, List.length_nil, List.cons_append, List.nil_append, List.getElem?_cons_zero, List.getElem?_cons_succ, Nat.zero_add, Nat.reduceAdd, Nat.reduceSub, List.replicate_succ, List.replicate_zero, List.set_cons_succ, List.set_cons_zero, if_true, gB, e0])]
  rw [evCs_nx (ρ' := [some (.frl (ns.map .int)), some (.int j), some (.own m.length), some (.int n), d, e, f, g]) (m' := m1) (by simp only [evCs, evC.eq_1, evC.eq_2, evC.eq_3, evC.eq_4, evC.eq_7, evC.eq_8, evC.eq_9, evC.eq_10, evC.eq_11, evC.eq_12, evE.eq_1, evE.eq_2, evE.eq_3, evE.eq_4, evE.eq_5, evE.eq_6, evE.eq_7, evE.eq_8, evE.eq_9, evE.eq_10, evE.eq_11, evE.eq_12, evE.eq_13, evE.eq_14, evE.eq_15, evE.eq_16, evE.eq_17, evE.eq_18, evE.eq_19, evE.eq_20, evE.eq_21, evE.eq_22, evE.eq_24, evE.eq_25, evE.eq_26, evE.eq_27, evE.eq_28, evEs, evG, evGs, rs_ok, List.map_cons, List.map_nil, List.length_cons, List.length_nil, List.cons_append, List.nil_append, List.getElem?_cons_zero, List.getElem?_cons_succ, Nat.zero_add, Nat.reduceAdd, Nat.reduceSub, List.replicate_succ, List.replicate_zero, List.set_cons_succ, List.set_cons_zero, if_true, gT, e1])]
  rw [evCs_nx (ρ' := [some (.frl (ns.map .int)), some (.int j), some (.own m.length), some (.int n), some (.own m2.length), e, f, g]) (m' := m2 ++ [.lst (rs.map rowD)]) (by
    have hi : evI (Gl (K := K) (A := A)) (.rng [(.con (.int 3))]) [some (.frl (ns.map .int)), some (.int j), some (.own m.length), some (.int n), d, e, f, g] m1 = .ok ((List.range 3).map fun (i : Nat) => D.int (0 + (i : Int))) m1 := by
      unfold evI
      simp only [evCs, evC.eq_1, evC.eq_2, evC.eq_3, evC.eq_4, evC.eq_7, evC.eq_8, evC.eq_9, evC.eq_10, evC.eq_11, evC.eq_12, evE.eq_1, evE.eq_2, evE.eq_3, evE.eq_4, evE.eq_5, evE.eq_6, evE.eq_7, evE.eq_8, evE.eq_9, evE.eq_10, evE.eq_11, evE.eq_12, evE.eq_13, evE.eq_14, evE.eq_15, evE.eq_16, evE.eq_17, evE.eq_18, evE.eq_19, evE.eq_20, evE.eq_21, evE.eq_22, evE.eq_24, evE.eq_25, evE.eq_26, evE.eq_27, evE.eq_28, evEs, evG, evGs, rs_ok, List.map_cons, List.map_nil, List.length_cons, List.length_nil, List.cons_append, List.nil_append, List.getElem?_cons_zero, List.getElem?_cons_succ, Nat.zero_add, Nat.reduceAdd, Nat.reduceSub, List.replicate_succ, List.replicate_zero, List.set_cons_succ, List.set_cons_zero, if_true]
      have := rngD_nat (n := 3) (by decide)
      rw [show ((3 : Nat) : Int) = 3 from rfl] at this
      rw [this]
    rw [evC, evE_lc, hi, rs_ok]
    rw [List.map_nil] at e2
    rw [e2]
    rfl)]
  rw [evCs_nx (ρ' := [some (.frl (ns.map .int)), some (.int j), some (.own m.length), some (.int n), some (.own m2.length), e, f, g]) (m' := m3.set m2.length (.lst ((rs ++ [r']).map rowD))) (by simp only [evCs, evC.eq_1, evC.eq_2, evC.eq_3, evC.eq_4, evC.eq_7, evC.eq_8, evC.eq_9, evC.eq_10, evC.eq_11, evC.eq_12, evE.eq_1, evE.eq_2, evE.eq_3, evE.eq_4, evE.eq_5, evE.eq_6, evE.eq_7, evE.eq_8, evE.eq_9, evE.eq_10, evE.eq_11, evE.eq_12, evE.eq_13, evE.eq_14, evE.eq_15, evE.eq_16, evE.eq_17, evE.eq_18, evE.eq_19, evE.eq_20, evE.eq_21, evE.eq_22, evE.eq_24, evE.eq_25, evE.eq_26, evE.eq_27, evE.eq_28, evEs, evG, evGs, rs_ok, List.map_cons, List.map_nil, List.length_cons, List.length_nil, List.cons_append, List.nil_append, List.getElem?_cons_zero, List.getElem?_cons_succ, Nat.zero_add, Nat.reduceAdd, Nat.reduceSub, List.replicate_succ, List.replicate_zero, List.set_cons_succ, List.set_cons_zero, if_true, hlk, hix, gN, e3, hap])]
  rw [evCs_one, evC]
  have hf : frzD [4] [some (.frl (ns.map .int)), some (.int j), some (.own m.length), some (.int n), some (.own m2.length), e, f, g] (m3.set m2.length (.lst ((rs ++ [r']).map rowD))) = .ok [some (.frl (ns.map .int)), some (.int j), some (.own m.length), some (.int n), some (.lst ((rs ++ [r']).map rowD)), e, f, g] ((m3.set m2.length (.lst ((rs ++ [r']).map rowD))).set m2.length .dead) := by
    simp only [frzD, List.getElem?_cons_zero, List.getElem?_cons_succ, hs4, List.set_cons_succ, List.set_cons_zero]
  rw [hf, rs_ok]
  exact e5
theorem law_true (K : PySem.W.Frag) (A : Addr) (ns : List Int) (h : ns.length ≤ 63) : ∃ m, gLaw K A [.frl (ns.map D.int)] [] = .ok (.bl true) m := by
  obtain ⟨n, hn, hr⟩ : ∃ n : Nat, n < 1000 ∧ ∀ a b c d e f g, evI (Gl (K := K) (A := A)) (.rng [(.blt .max [(.con (.int 2)), (.blt .min [(.con (.int 5)), (.blt .len [(.var 0)])])])]) [some (.frl (ns.map .int)), a, b, c, d, e, f, g] [] = .ok ((List.range n).map fun (i : Nat) => D.int (0 + (i : Int))) [] := by
    refine ⟨max 2 (min 5 ns.length), by omega, fun a b c d e f g => ?_⟩
    have hl : bltD (Gl (K := K) (A := A)) .len [.frl (ns.map .int)] [] = .ok (.int ns.length) [] := by
      rw [show bltD (Gl (K := K) (A := A)) .len [.frl (ns.map .int)] [] = .ok (.int (ns.map D.int).length) [] from rfl, List.length_map]
    have hm : ∀ a b : Int, bltD (Gl (K := K) (A := A)) .min [.int a, .int b] [] = .ok (.int (if b < a then b else a)) [] := fun _ _ => rfl
    unfold evI
    simp only [evCs, evC.eq_1, evC.eq_2, evC.eq_3, evC.eq_4, evC.eq_7, evC.eq_8, evC.eq_9, evC.eq_10, evC.eq_11, evC.eq_12, evE.eq_1, evE.eq_2, evE.eq_3, evE.eq_4, evE.eq_5, evE.eq_6, evE.eq_7, evE.eq_8, evE.eq_9, evE.eq_10, evE.eq_11, evE.eq_12, evE.eq_13, evE.eq_14, evE.eq_15, evE.eq_16, evE.eq_17, evE.eq_18, evE.eq_19, evE.eq_20, evE.eq_21, evE.eq_22, evE.eq_24, evE.eq_25, evE.eq_26, evE.eq_27, evE.eq_28, evEs, evG, evGs, rs_ok, List.map_cons, List.map_nil, List.length_cons, List.length_nil, List.cons_append, List.nil_append, List.getElem?_cons_zero, List.getElem?_cons_succ, Nat.zero_add, Nat.reduceAdd, Nat.reduceSub, List.replicate_succ, List.replicate_zero, List.set_cons_succ, List.set_cons_zero, if_true, hl, hm, blt_max]
    rw [show (if (2 : Int) < (if (ns.length : Int) < 5 then (ns.length : Int) else 5) then (if (ns.length : Int) < 5 then (ns.length : Int) else 5) else 2) = ((max 2 (min 5 ns.length) : Nat) : Int) by split <;> split <;> omega]
    rw [rngD_nat (by omega)]
  obtain ⟨ρ', m', e1, b1⟩ := forL_go (f := fun d ρ m => (evG (Gl (K := K) (A := A)) (.nm 1) d ρ m).bind fun ρ m => evCs (Gl (K := K) (A := A)) [(.asg (.nm 2) (.fn "_law_box" [(.var 0), (.var 1)])), (.asg (.nm 3) (.fn "_law_take" [(.var 2), (.con (.int 4))])), (.asg (.nm 4) (.lc true (.nm 5) (.rng [(.con (.int 3))]) none (.fn "_law_row" [(.var 2), (.var 3)]) [5])), (.expr (.bm (.var 4) .append [(.fn "_law_near" [(.var 2), (.idx (.var 4) (.con (.int 0)))])])), (.frz [4] (.for (.nm 6) (.val (.var 4)) [(.for (.nm 7) (.val (.bin .Add (.var 4) (.lst [(.fn "_law_near" [(.var 2), (.var 6)])]))) [(.ife (.not (.tru (.fn "_law_pair_right" [(.var 2), (.var 6), (.var 7)]))) [(.ret (.con (.bl false)))] [])])]))] ρ m)
    (fun ρ m => ∃ a b c d e f g, ρ = [some (.frl (ns.map .int)), a, b, c, d, e, f, g]) ((List.range n).map fun (i : Nat) => D.int (0 + (i : Int))) (ρ := [some (.frl (ns.map .int)), none, none, none, none, none, none, none]) (m := []) (fun d hd ρ m ⟨a, b, c, d', e, f, g, e1⟩ => by
      subst e1
      obtain ⟨i, hi, rfl⟩ := List.mem_map.mp hd
      obtain ⟨ρ', m', e2, h2⟩ := turn_ok (K := K) (A := A) ns h (j := 0 + (i : Int)) (by omega) (a := a) (b := b) (c := c) (d := d') (e := e) (f := f) (g := g) m
      exact ⟨ρ', m', by rw [evG, rs_ok]; exact e2, h2⟩) ⟨_, _, _, _, _, _, _, rfl⟩
  obtain ⟨a, b, c, d, e, f, g, rfl⟩ := b1
  refine ⟨m', ?_⟩
  unfold gLaw runF
  rw [if_pos (show [D.frl (ns.map .int)].length = 1 from rfl), show [D.frl (ns.map .int)].map some ++ List.replicate (N_law.length - [D.frl (ns.map .int)].length) none = [some (.frl (ns.map .int)), none, none, none, none, none, none, none] from rfl, show b_law = [b_law.getD 0 .pas, b_law.getD 1 .pas] from rfl]
  rw [evCs_nx (ρ' := [some (.frl (ns.map .int)), a, b, c, d, e, f, g]) (m' := m') (by
    show evC _ (.for (.nm 1) (.rng [(.blt .max [(.con (.int 2)), (.blt .min [(.con (.int 5)), (.blt .len [(.var 0)])])])]) _) _ _ = _
    rw [evC_for, hr, rs_ok]
    exact e1), evCs_rt (d := .bl true) (m' := m') (by
    show evC _ (.ret (.con (.bl true))) _ _ = _
    simp only [evCs, evC.eq_1, evC.eq_2, evC.eq_3, evC.eq_4, evC.eq_7, evC.eq_8, evC.eq_9, evC.eq_10, evC.eq_11, evC.eq_12, evE.eq_1, evE.eq_2, evE.eq_3, evE.eq_4, evE.eq_5, evE.eq_6, evE.eq_7, evE.eq_8, evE.eq_9, evE.eq_10, evE.eq_11, evE.eq_12, evE.eq_13, evE.eq_14, evE.eq_15, evE.eq_16, evE.eq_17, evE.eq_18, evE.eq_19, evE.eq_20, evE.eq_21, evE.eq_22, evE.eq_24, evE.eq_25, evE.eq_26, evE.eq_27, evE.eq_28, evEs, evG, evGs, rs_ok, List.map_cons, List.map_nil, List.length_cons, List.length_nil, List.cons_append, List.nil_append, List.getElem?_cons_zero, List.getElem?_cons_succ, Nat.zero_add, Nat.reduceAdd, Nat.reduceSub, List.replicate_succ, List.replicate_zero, List.set_cons_succ, List.set_cons_zero, if_true])]
  rfl
end
end K26

set_option maxRecDepth 100000
set_option maxHeartbeats 400000
/-! What the tables of the law rest on -/
namespace K26
open PySem L2 Pm
/-- what the top leaves of the class, as one answer -/
def clsB (K : PySem.W.Frag) (A : Addr) : Bool :=
  PySem.W.plainGet K A Str.empty && (PySem.W.hasDictIn K A && (PySem.W.plainOver K A && (decide (PySem.W.findIn K (.ref A) "__setattr__" = some (some (.builtin "object.__setattr__"))) &&
  (decide (PySem.W.findIn K (.ref A) "__class__" = some (some (.builtin "object.__class__"))) && (decide (PySem.W.specialIn K (.builtin "object.__class__") "__get__" = some (some (.builtin "getset_descriptor.__get__"))) && (decide (PySem.W.takesIn K (.builtin "object.__class__") = some true) &&
  (decide (PySem.W.mroIn K A (.type "object") = some true) && (PySem.W.keepIn K (.ref A) && (decide (PySem.W.findIn K (.ref A) "_left" = some none) && (decide (PySem.W.findIn K (.ref A) "_lost" = some none) &&
  (decide (PySem.W.findIn K (.ref A) "__ne__" = some (some (.builtin "object.__ne__"))) && (PySem.W.selfFirst K A && (decide (PySem.W.kitOne K (.ref A) (.ref A) = some true) &&
  (tys.all (fun t => decide (PySem.W.kitOne K t (.ref A) = some false) && decide (PySem.W.kitOne K (.ref A) t = some false)) && ((Value.ref A :: tys).all (fun t => PySem.W.notFirst K A t) &&
  (decide (PySem.W.findIn K (.ref A) "__rsub__" = some none) && (decide (PySem.W.subIn K (.type "int") (.ref A) = some false) &&
  (decide (PySem.W.findIn K (.type "int") "__sub__" = some (some (.builtin "int.__sub__"))) && decide (PySem.W.findIn K (.type "int") "__rsub__" = some (some (.builtin "int.__rsub__")))))))))))))))))))))
section
variable {K : PySem.W.Frag} {A : Addr} {P : Program} {w : World} {mg : Str → Option Value} {base : Heap}
theorem t0_cls : (T0 K A).cls "LifeRow" = some A := by
  show (if ("LifeRow" : Str) = "LifeRow" then some A else none) = some A
  exact if_pos rfl
theorem cls_is {c : Str} {C : Addr} (e : (T0 K A).cls c = some C) : c = "LifeRow" ∧ C = A := by
  have e : (if c = "LifeRow" then some A else none) = some C := e
  by_cases h : c = "LifeRow"
  · rw [if_pos h] at e; cases e; exact ⟨h, rfl⟩
  · rw [if_neg h] at e; cases e
theorem good_k (hcl : Cls K A) (c5 : PySem.W.findIn K (.ref A) "__class__" = some (some (.builtin "object.__class__"))) (c6 : PySem.W.specialIn K (.builtin "object.__class__") "__get__" = some (some (.builtin "getset_descriptor.__get__"))) (c7 : PySem.W.takesIn K (.builtin "object.__class__") = some true) (c8 : PySem.W.mroIn K A (.type "object") = some true)
    (c10 : PySem.W.findIn K (.ref A) "_left" = some none) (c11 : PySem.W.findIn K (.ref A) "_lost" = some none) (c14 : PySem.W.kitOne K (.ref A) (.ref A) = some true) (c15 : ∀ t ∈ tys, PySem.W.kitOne K t (.ref A) = some false ∧ PySem.W.kitOne K (.ref A) t = some false) : GoodK (G0 K A) K where
  eK := rfl
  isi := fun t u b e => by
    have e : isi0 A t u = some b := e
    unfold isi0 at e
    by_cases h : u = .ref A
    · rw [if_pos h] at e
      by_cases h2 : t = .ref A
      · rw [if_pos h2] at e; cases e; rw [h, h2]; exact c14
      · rw [if_neg h2] at e
        by_cases h3 : tys.contains t = true
        · rw [if_pos h3] at e; cases e; rw [h]; exact (c15 t (List.contains_iff_mem.mp h3)).1
        · rw [if_neg h3] at e; cases e
    · rw [if_neg h] at e
      by_cases h3 : t = .ref A ∧ tys.contains u = true
      · rw [if_pos h3] at e; cases e; rw [h3.1]; exact (c15 u (List.contains_iff_mem.mp h3.2)).2
      · rw [if_neg h3] at e; cases e
  cls := fun c C e => by obtain ⟨rfl, rfl⟩ := cls_is e; exact ⟨hcl, c5, c6, c7, c8⟩
  fl := fun c C f e h => by
    obtain ⟨rfl, rfl⟩ := cls_is e
    have h : (decide (("LifeRow" : Str) = "LifeRow") && (decide (f = "_left") || decide (f = "_lost"))) = true := h
    simp only [Bool.and_eq_true, Bool.or_eq_true, decide_eq_true_eq] at h
    rcases h.2 with rfl | rfl
    · exact c10
    · exact c11
theorem good_0 (gk : GoodK (G0 K A) K) (bl : ∀ x, x ∈ (["len", "min", "max", "int", "tuple", "list", "isinstance", "any", "all", "range", "zip", "enumerate", "str", "bool", "repr"] : List Str) → mg x = none) (mA : mg "LifeRow" = some (.ref A)) : Good (G0 K A) 0 ⟨P, w, K, mg, base⟩ where
  gk := gk
  fn := fun _ _ h => by cases h
  me := fun _ _ _ _ h => by cases h
  pr := fun _ _ _ _ h => by cases h
  cs := fun _ _ h => by cases h
  op := fun _ _ _ h => by cases h
  cm := fun _ _ _ h => by cases h
  ca := fun _ _ _ h => by cases h
  rp := fun _ _ _ h => by cases h
  bl := bl
  cl := fun c C e => by obtain ⟨rfl, rfl⟩ := cls_is e; exact mA
theorem good_1 {fi fl fo p0 p1 : Addr} {d0 d1 d2 : FuncData} (g : Good (G0 K A) 2 ⟨P, w, K, mg, base⟩) (mA : mg "LifeRow" = some (.ref A)) (M : Mk K A fi) (F0 : FnG P w K mg base 1 fi d0 ["self", "left", "lost"] (spD (T0 K A) 3 (gInit K A))) (b0 : Binds K d0 ["self", "left", "lost"] [])
    (P1 : PropOf K A "left" p0 fl) (F1 : FnG P w K mg base 1 fl d1 ["self"] (spD (T0 K A) 1 (gLeft K A))) (b1 : Binds K d1 ["self"] []) (P2 : PropOf K A "lost" p1 fo) (F2 : FnG P w K mg base 1 fo d2 ["self"] (spD (T0 K A) 1 (gLost K A))) (b2 : Binds K d2 ["self"] []) : Good (G1a K A) 2 ⟨P, w, K, mg, base⟩ where
  gk := ⟨g.gk.eK, g.gk.isi, g.gk.cls, g.gk.fl⟩
  fn := g.fn
  me := g.me
  pr := fun c C f e h hC => by
    obtain ⟨rfl, rfl⟩ := cls_is hC
    have h : (if f = "left" then some (gLeft K C) else if f = "lost" then some (gLost K C) else none) = some e := h
    by_cases h1 : f = "left"
    · rw [if_pos h1] at h; cases h; subst h1; exact ⟨p0, fl, d1, ["self"], 1, P1, F1, b1, by decide, rfl⟩
    · rw [if_neg h1] at h
      by_cases h2 : f = "lost"
      · rw [if_pos h2] at h; cases h; subst h2; exact ⟨p1, fo, d2, ["self"], 1, P2, F2, b2, by decide, rfl⟩
      · rw [if_neg h2] at h; cases h
  cs := fun c e h => by
    have h : (if c = "LifeRow" then some (mkFn "LifeRow" true (gInit K A)) else none) = some e := h
    by_cases h1 : c = "LifeRow"
    · rw [if_pos h1] at h; cases h; subst h1
      exact ⟨A, fi, d0, ["self", "left", "lost"], 1, gInit K A, true, t0_cls, mA, M, F0, b0, by decide, runF_no, rfl⟩
    · rw [if_neg h1] at h; cases h
  op := g.op
  cm := g.cm
  ca := g.ca
  rp := g.rp
  bl := g.bl
  cl := g.cl
theorem fn_in {f : Addr} {oc : Value} {od : Option Addr} {fd : FuncData} {sl : Array (Option Value)} (h : K.lookup f = some ⟨oc, od, .func fd, sl⟩) : PySem.W.fnIn K f = true := by
  unfold PySem.W.fnIn
  rw [h]
/-- the table behind the class's operators -/
theorem good_2 {f1 f2 f3 f4 f5 f6 : Addr} {d1 d2 d3 d4 d5 d6 : FuncData} (g : Good (G1 K A) 4 ⟨P, w, K, mg, base⟩) (C1 : StX.CallO K A f1) (F1 : FnG P w K mg base 1 f1 d1 ["self", "lives"] (spD (T0 K A) 2 (gCall K A))) (b1 : Binds K d1 ["self", "lives"] [])
    (i6 : PySem.W.findIn K (.ref A) "__repr__" = some (some (.ref f6))) (t6 : PySem.W.isFn K (.ref f6) = true) (F6 : FnG P w K mg base 1 f6 d6 ["self"] (spD (T0 K A) 1 (gRepr K A))) (b6 : Binds K d6 ["self"] [])
    (M4 : Meth K A "is_below" f4) (F4 : FnG P w K mg base 1 f4 d4 ["self", "other"] (spD (T0 K A) 2 (gBelow K A))) (b4 : Binds K d4 ["self", "other"] []) (c13 : PySem.W.selfFirst K A = true)
    (i3 : PySem.W.findIn K (.ref A) "__and__" = some (some (.ref f3))) (t3 : PySem.W.isFn K (.ref f3) = true) (F3 : FnG P w K mg base 3 f3 d3 ["self", "other"] (spD (T0 K A) 2 (gAnd K A))) (b3 : Binds K d3 ["self", "other"] [])
    (i2 : PySem.W.findIn K (.ref A) "__sub__" = some (some (.ref f2))) (t2 : PySem.W.isFn K (.ref f2) = true) (F2 : FnG P w K mg base 3 f2 d2 ["self", "other"] (spD (T0 K A) 2 (gSub K A))) (b2 : Binds K d2 ["self", "other"] [])
    (c17 : PySem.W.findIn K (.ref A) "__rsub__" = some none) (c18 : PySem.W.subIn K (.type "int") (.ref A) = some false) (c19 : PySem.W.findIn K (.type "int") "__sub__" = some (some (.builtin "int.__sub__"))) (c20 : PySem.W.findIn K (.type "int") "__rsub__" = some (some (.builtin "int.__rsub__")))
    (i5 : PySem.W.findIn K (.ref A) "__eq__" = some (some (.ref f5))) (t5 : PySem.W.isFn K (.ref f5) = true) (F5 : FnG P w K mg base 1 f5 d5 ["self", "other"] (spD (T0 K A) 2 (gEq K A))) (b5 : Binds K d5 ["self", "other"] [])
    (c12 : PySem.W.findIn K (.ref A) "__ne__" = some (some (.builtin "object.__ne__"))) (c8 : PySem.W.mroIn K A (.type "object") = some true) (c16 : ∀ t ∈ (Value.ref A :: tys), PySem.W.notFirst K A t = true) : Good (G2 K A) 4 ⟨P, w, K, mg, base⟩ where
  gk := ⟨g.gk.eK, g.gk.isi, g.gk.cls, g.gk.fl⟩
  fn := g.fn
  cs := g.cs
  pr := g.pr
  bl := g.bl
  cl := g.cl
  me := fun c C f e h hC => by
    obtain ⟨rfl, rfl⟩ := cls_is hC
    have h : (if f = "is_below" then some (gBelow K C) else none) = some e := h
    by_cases h1 : f = "is_below"
    · rw [if_pos h1] at h; cases h; subst h1; exact ⟨f4, d4, ["self", "other"], 1, M4, F4, b4, by decide, runF_no⟩
    · rw [if_neg h1] at h; cases h
  ca := fun c C e h hC => by
    obtain ⟨rfl, rfl⟩ := cls_is hC
    have h : some (gCall K C) = some e := h
    cases h
    exact ⟨f1, d1, ["self", "lives"], 1, C1, F1, b1, by decide, runF_no⟩
  rp := fun c C e h hC => by
    obtain ⟨rfl, rfl⟩ := cls_is hC
    have h : some (gRepr K C) = some e := h
    cases h
    exact ⟨f6, d6, ["self"], 1, i6, t6, F6, b6, by decide, rfl⟩
  op := fun c o e h X hX hr gd => by
    by_cases h1 : c = "LifeRow"
    · subst h1
      have hK : X.K = K := congrArg Stc.K hX
      have gX : GoodK (G2 K A) X.K := by rw [hK]; exact ⟨g.gk.eK, g.gk.isi, g.gk.cls, g.gk.fl⟩
      have hC : (G2 K A).T.cls "LifeRow" = some A := t0_cls
      cases o <;> first | (cases h; done) | skip
      · cases h
        exact op_ownT (n := "int") gX gd hr hC (by rw [hK]; exact c13) (by rw [hK]; exact i2) (by rw [hK]; exact t2) (by rw [hK]; exact c17) (.inl rfl) (by rw [hK]; exact c19) (by rw [hK]; exact c20) (by rw [hK]; exact c18) (by rw [hX]; exact ⟨d2, ["self", "other"], 3, F2, b2, by decide, rfl⟩) fun t e => of_decide_eq_true e
      · cases h
        exact op_own gX gd hr hC (by rw [hK]; exact c13) (by rw [hK]; exact i3) (by rw [hK]; exact t3) (by rw [hX]; exact ⟨d3, ["self", "other"], 3, F3, b3, by decide, rfl⟩) fun t e => of_decide_eq_true e
    · have h : (if c = "LifeRow" then _ else none) = some e := h
      rw [if_neg h1] at h; cases h
  cm := fun c o e h X hX hr gd => by
    by_cases h1 : c = "LifeRow"
    · subst h1
      have hK : X.K = K := congrArg Stc.K hX
      have gX : GoodK (G2 K A) X.K := by rw [hK]; exact ⟨g.gk.eK, g.gk.isi, g.gk.cls, g.gk.fl⟩
      have hC : (G2 K A).T.cls "LifeRow" = some A := t0_cls
      have nf : ∀ t, okE A t = true → PySem.W.notFirst X.K A t = true := fun t e => by rw [hK]; exact c16 t (List.contains_iff_mem.mp e)
      cases o <;> first | (cases h; done) | skip
      · cases h
        exact cm_eq gX gd hr hC (by rw [hK]; exact i5) (by rw [hK]; exact t5) (by rw [hX]; exact ⟨d5, ["self", "other"], 1, F5, b5, by decide, rfl⟩) nf
      · cases h
        exact cm_ne (k := 1) gX gd hr hC (by rw [hK]; exact i5) (by rw [hK]; exact t5) (by rw [hK]; exact c12) (by rw [hK]; exact c8) (by rw [hX]; exact ⟨d5, ["self", "other"], 1, F5, b5, by decide, rfl⟩) (by decide) nf
    · have h : (if c = "LifeRow" then _ else none) = some e := h
      rw [if_neg h1] at h; cases h
end
end K26

set_option maxRecDepth 100000
set_option maxHeartbeats 4000000
namespace K26
open PySem L2 Pm
theorem all_mk {l : PySem.W.OpenLaw} {w : World} {K : PySem.W.Frag} {h : Heap} {mg : Str → Option Value} {fa A : Addr} (X : K.In h) (G : h.Ns mainGlobals mg) (hfa : mg "law" = some (.ref fa))
    {fm0 : Addr} {odm0 anm0 : Option Addr} {slm0 : Array (Option Value)} {ocm0 kVm0 dcm0 pmm0 cdm0 ctm0 : Value}
    {fm1 : Addr} {odm1 anm1 : Option Addr} {slm1 : Array (Option Value)} {ocm1 kVm1 dcm1 pmm1 cdm1 ctm1 : Value}
    {fm2 : Addr} {odm2 anm2 : Option Addr} {slm2 : Array (Option Value)} {ocm2 kVm2 dcm2 pmm2 cdm2 ctm2 : Value}
    {fm3 : Addr} {odm3 anm3 : Option Addr} {slm3 : Array (Option Value)} {ocm3 kVm3 dcm3 pmm3 cdm3 ctm3 : Value}
    {fm4 : Addr} {odm4 anm4 : Option Addr} {slm4 : Array (Option Value)} {ocm4 kVm4 dcm4 pmm4 cdm4 ctm4 : Value}
    {fm5 : Addr} {odm5 anm5 : Option Addr} {slm5 : Array (Option Value)} {ocm5 kVm5 dcm5 pmm5 cdm5 ctm5 : Value}
    {fm6 : Addr} {odm6 anm6 : Option Addr} {slm6 : Array (Option Value)} {ocm6 kVm6 dcm6 pmm6 cdm6 ctm6 : Value}
    {qp0 : Addr} {rp0 : List Value}
    {fp0 : Addr} {odp0 anp0 : Option Addr} {slp0 : Array (Option Value)} {ocp0 kVp0 dcp0 pmp0 cdp0 ctp0 : Value}
    {qp1 : Addr} {rp1 : List Value}
    {fp1 : Addr} {odp1 anp1 : Option Addr} {slp1 : Array (Option Value)} {ocp1 kVp1 dcp1 pmp1 cdp1 ctp1 : Value}
    {fd0 : Addr} {odd0 and0 : Option Addr} {sld0 : Array (Option Value)} {ocd0 kVd0 dcd0 pmd0 cdd0 ctd0 : Value}
    {fd1 : Addr} {odd1 and1 : Option Addr} {sld1 : Array (Option Value)} {ocd1 kVd1 dcd1 pmd1 cdd1 ctd1 : Value}
    {fd2 : Addr} {odd2 and2 : Option Addr} {sld2 : Array (Option Value)} {ocd2 kVd2 dcd2 pmd2 cdd2 ctd2 : Value}
    {fd3 : Addr} {odd3 and3 : Option Addr} {sld3 : Array (Option Value)} {ocd3 kVd3 dcd3 pmd3 cdd3 ctd3 : Value}
    {fd4 : Addr} {odd4 and4 : Option Addr} {sld4 : Array (Option Value)} {ocd4 kVd4 dcd4 pmd4 cdd4 ctd4 : Value}
    {fd5 : Addr} {odd5 and5 : Option Addr} {sld5 : Array (Option Value)} {ocd5 kVd5 dcd5 pmd5 cdd5 ctd5 : Value}
    {fd6 : Addr} {odd6 and6 : Option Addr} {sld6 : Array (Option Value)} {ocd6 kVd6 dcd6 pmd6 cdd6 ctd6 : Value}
    {fd7 : Addr} {odd7 and7 : Option Addr} {sld7 : Array (Option Value)} {ocd7 kVd7 dcd7 pmd7 cdd7 ctd7 : Value}
    {fd8 : Addr} {odd8 and8 : Option Addr} {sld8 : Array (Option Value)} {ocd8 kVd8 dcd8 pmd8 cdd8 ctd8 : Value}
    {fd9 : Addr} {odd9 and9 : Option Addr} {sld9 : Array (Option Value)} {ocd9 kVd9 dcd9 pmd9 cdd9 ctd9 : Value}
    {fd10 : Addr} {odd10 and10 : Option Addr} {sld10 : Array (Option Value)} {ocd10 kVd10 dcd10 pmd10 cdd10 ctd10 : Value}
    {fd11 : Addr} {odd11 and11 : Option Addr} {sld11 : Array (Option Value)} {ocd11 kVd11 dcd11 pmd11 cdd11 ctd11 : Value}
    {fd12 : Addr} {odd12 and12 : Option Addr} {sld12 : Array (Option Value)} {ocd12 kVd12 dcd12 pmd12 cdd12 ctd12 : Value}
    {fd13 : Addr} {odd13 and13 : Option Addr} {sld13 : Array (Option Value)} {ocd13 kVd13 dcd13 pmd13 cdd13 ctd13 : Value}
    {fd14 : Addr} {odd14 and14 : Option Addr} {sld14 : Array (Option Value)} {ocd14 kVd14 dcd14 pmd14 cdd14 ctd14 : Value}
    {fd15 : Addr} {odd15 and15 : Option Addr} {sld15 : Array (Option Value)} {ocd15 kVd15 dcd15 pmd15 cdd15 ctd15 : Value}
    (aA : PySem.W.nsIn K mainGlobals "LifeRow" = some (some (.ref A)))
    (im0 : PySem.W.findIn K (.ref A) "__init__" = some (some (.ref fm0)))
    (lm0 : K.lookup fm0 = some ⟨ocm0, odm0, .func (PySem.W.fnOf "__init__" "LifeRow.__init__" (defArgs s_LifeRow___init__) (defBody s_LifeRow___init__) (defScope s_LifeRow___init__) .none kVm0 dcm0 pmm0 anm0 cdm0 ctm0), slm0⟩)
    (cm0 : PySem.W.codeIn K cdm0 "LifeRow.__init__" = true)
    (km0 : PySem.W.keepIn K (.ref fm0) = true)
    (tm0 : PySem.W.typeIn K (.ref fm0) = some (.type "function"))
    (im1 : PySem.W.findIn K (.ref A) "__call__" = some (some (.ref fm1)))
    (lm1 : K.lookup fm1 = some ⟨ocm1, odm1, .func (PySem.W.fnOf "__call__" "LifeRow.__call__" (defArgs s_LifeRow___call__) (defBody s_LifeRow___call__) (defScope s_LifeRow___call__) .none kVm1 dcm1 pmm1 anm1 cdm1 ctm1), slm1⟩)
    (cm1 : PySem.W.codeIn K cdm1 "LifeRow.__call__" = true)
    (km1 : PySem.W.keepIn K (.ref fm1) = true)
    (tm1 : PySem.W.typeIn K (.ref fm1) = some (.type "function"))
    (im2 : PySem.W.findIn K (.ref A) "__sub__" = some (some (.ref fm2)))
    (lm2 : K.lookup fm2 = some ⟨ocm2, odm2, .func (PySem.W.fnOf "__sub__" "LifeRow.__sub__" (defArgs s_LifeRow___sub__) (defBody s_LifeRow___sub__) (defScope s_LifeRow___sub__) .none kVm2 dcm2 pmm2 anm2 cdm2 ctm2), slm2⟩)
    (cm2 : PySem.W.codeIn K cdm2 "LifeRow.__sub__" = true)
    (km2 : PySem.W.keepIn K (.ref fm2) = true)
    (tm2 : PySem.W.typeIn K (.ref fm2) = some (.type "function"))
    (im3 : PySem.W.findIn K (.ref A) "__and__" = some (some (.ref fm3)))
    (lm3 : K.lookup fm3 = some ⟨ocm3, odm3, .func (PySem.W.fnOf "__and__" "LifeRow.__and__" (defArgs s_LifeRow___and__) (defBody s_LifeRow___and__) (defScope s_LifeRow___and__) .none kVm3 dcm3 pmm3 anm3 cdm3 ctm3), slm3⟩)
    (cm3 : PySem.W.codeIn K cdm3 "LifeRow.__and__" = true)
    (km3 : PySem.W.keepIn K (.ref fm3) = true)
    (tm3 : PySem.W.typeIn K (.ref fm3) = some (.type "function"))
    (im4 : PySem.W.findIn K (.ref A) "is_below" = some (some (.ref fm4)))
    (lm4 : K.lookup fm4 = some ⟨ocm4, odm4, .func (PySem.W.fnOf "is_below" "LifeRow.is_below" (defArgs s_LifeRow_is_below) (defBody s_LifeRow_is_below) (defScope s_LifeRow_is_below) .none kVm4 dcm4 pmm4 anm4 cdm4 ctm4), slm4⟩)
    (cm4 : PySem.W.codeIn K cdm4 "LifeRow.is_below" = true)
    (km4 : PySem.W.keepIn K (.ref fm4) = true)
    (tm4 : PySem.W.typeIn K (.ref fm4) = some (.type "function"))
    (im5 : PySem.W.findIn K (.ref A) "__eq__" = some (some (.ref fm5)))
    (lm5 : K.lookup fm5 = some ⟨ocm5, odm5, .func (PySem.W.fnOf "__eq__" "LifeRow.__eq__" (defArgs s_LifeRow___eq__) (defBody s_LifeRow___eq__) (defScope s_LifeRow___eq__) .none kVm5 dcm5 pmm5 anm5 cdm5 ctm5), slm5⟩)
    (cm5 : PySem.W.codeIn K cdm5 "LifeRow.__eq__" = true)
    (km5 : PySem.W.keepIn K (.ref fm5) = true)
    (tm5 : PySem.W.typeIn K (.ref fm5) = some (.type "function"))
    (im6 : PySem.W.findIn K (.ref A) "__repr__" = some (some (.ref fm6)))
    (lm6 : K.lookup fm6 = some ⟨ocm6, odm6, .func (PySem.W.fnOf "__repr__" "LifeRow.__repr__" (defArgs s_LifeRow___repr__) (defBody s_LifeRow___repr__) (defScope s_LifeRow___repr__) .none kVm6 dcm6 pmm6 anm6 cdm6 ctm6), slm6⟩)
    (cm6 : PySem.W.codeIn K cdm6 "LifeRow.__repr__" = true)
    (km6 : PySem.W.keepIn K (.ref fm6) = true)
    (tm6 : PySem.W.typeIn K (.ref fm6) = some (.type "function"))
    (ap0 : PySem.W.findIn K (.ref A) "left" = some (some (.ref qp0)))
    (gp0 : PySem.W.specialIn K (.ref qp0) "__get__" = some (some (.builtin "property.__get__")))
    (up0 : PySem.W.takesIn K (.ref qp0) = some true)
    (ip0 : PySem.W.recIn K qp0 "property" = some (.ref fp0 :: rp0))
    (lp0 : K.lookup fp0 = some ⟨ocp0, odp0, .func (PySem.W.fnOf "left" "LifeRow.left" (defArgs s_LifeRow_left) (defBody s_LifeRow_left) (defScope s_LifeRow_left) .none kVp0 dcp0 pmp0 anp0 cdp0 ctp0), slp0⟩)
    (cp0 : PySem.W.codeIn K cdp0 "LifeRow.left" = true)
    (kp0 : PySem.W.keepIn K (.ref fp0) = true)
    (ap1 : PySem.W.findIn K (.ref A) "lost" = some (some (.ref qp1)))
    (gp1 : PySem.W.specialIn K (.ref qp1) "__get__" = some (some (.builtin "property.__get__")))
    (up1 : PySem.W.takesIn K (.ref qp1) = some true)
    (ip1 : PySem.W.recIn K qp1 "property" = some (.ref fp1 :: rp1))
    (lp1 : K.lookup fp1 = some ⟨ocp1, odp1, .func (PySem.W.fnOf "lost" "LifeRow.lost" (defArgs s_LifeRow_lost) (defBody s_LifeRow_lost) (defScope s_LifeRow_lost) .none kVp1 dcp1 pmp1 anp1 cdp1 ctp1), slp1⟩)
    (cp1 : PySem.W.codeIn K cdp1 "LifeRow.lost" = true)
    (kp1 : PySem.W.keepIn K (.ref fp1) = true)
    (id0 : PySem.W.nsIn K mainGlobals "least_term" = some (some (.ref fd0)))
    (ld0 : K.lookup fd0 = some ⟨ocd0, odd0, .func (PySem.W.fnOf "least_term" "least_term" (defArgs s_least_term) (defBody s_least_term) (defScope s_least_term) .none kVd0 dcd0 pmd0 and0 cdd0 ctd0), sld0⟩)
    (cd0 : PySem.W.codeIn K cdd0 "least_term" = true)
    (kd0 : PySem.W.keepIn K (.ref fd0) = true)
    (id1 : PySem.W.nsIn K mainGlobals "greatest_term" = some (some (.ref fd1)))
    (ld1 : K.lookup fd1 = some ⟨ocd1, odd1, .func (PySem.W.fnOf "greatest_term" "greatest_term" (defArgs s_greatest_term) (defBody s_greatest_term) (defScope s_greatest_term) .none kVd1 dcd1 pmd1 and1 cdd1 ctd1), sld1⟩)
    (cd1 : PySem.W.codeIn K cdd1 "greatest_term" = true)
    (kd1 : PySem.W.keepIn K (.ref fd1) = true)
    (id2 : PySem.W.nsIn K mainGlobals "_law_box" = some (some (.ref fd2)))
    (ld2 : K.lookup fd2 = some ⟨ocd2, odd2, .func (PySem.W.fnOf "_law_box" "_law_box" (defArgs s__law_box) (defBody s__law_box) (defScope s__law_box) .none kVd2 dcd2 pmd2 and2 cdd2 ctd2), sld2⟩)
    (cd2 : PySem.W.codeIn K cdd2 "_law_box" = true)
    (kd2 : PySem.W.keepIn K (.ref fd2) = true)
    (id3 : PySem.W.nsIn K mainGlobals "_law_take" = some (some (.ref fd3)))
    (ld3 : K.lookup fd3 = some ⟨ocd3, odd3, .func (PySem.W.fnOf "_law_take" "_law_take" (defArgs s__law_take) (defBody s__law_take) (defScope s__law_take) .none kVd3 dcd3 pmd3 and3 cdd3 ctd3), sld3⟩)
    (cd3 : PySem.W.codeIn K cdd3 "_law_take" = true)
    (kd3 : PySem.W.keepIn K (.ref fd3) = true)
    (id4 : PySem.W.nsIn K mainGlobals "_law_pick" = some (some (.ref fd4)))
    (ld4 : K.lookup fd4 = some ⟨ocd4, odd4, .func (PySem.W.fnOf "_law_pick" "_law_pick" (defArgs s__law_pick) (defBody s__law_pick) (defScope s__law_pick) .none kVd4 dcd4 pmd4 and4 cdd4 ctd4), sld4⟩)
    (cd4 : PySem.W.codeIn K cdd4 "_law_pick" = true)
    (kd4 : PySem.W.keepIn K (.ref fd4) = true)
    (id5 : PySem.W.nsIn K mainGlobals "_law_row" = some (some (.ref fd5)))
    (ld5 : K.lookup fd5 = some ⟨ocd5, odd5, .func (PySem.W.fnOf "_law_row" "_law_row" (defArgs s__law_row) (defBody s__law_row) (defScope s__law_row) .none kVd5 dcd5 pmd5 and5 cdd5 ctd5), sld5⟩)
    (cd5 : PySem.W.codeIn K cdd5 "_law_row" = true)
    (kd5 : PySem.W.keepIn K (.ref fd5) = true)
    (id6 : PySem.W.nsIn K mainGlobals "_law_bound" = some (some (.ref fd6)))
    (ld6 : K.lookup fd6 = some ⟨ocd6, odd6, .func (PySem.W.fnOf "_law_bound" "_law_bound" (defArgs s__law_bound) (defBody s__law_bound) (defScope s__law_bound) .none kVd6 dcd6 pmd6 and6 cdd6 ctd6), sld6⟩)
    (cd6 : PySem.W.codeIn K cdd6 "_law_bound" = true)
    (kd6 : PySem.W.keepIn K (.ref fd6) = true)
    (id7 : PySem.W.nsIn K mainGlobals "_law_alike" = some (some (.ref fd7)))
    (ld7 : K.lookup fd7 = some ⟨ocd7, odd7, .func (PySem.W.fnOf "_law_alike" "_law_alike" (defArgs s__law_alike) (defBody s__law_alike) (defScope s__law_alike) .none kVd7 dcd7 pmd7 and7 cdd7 ctd7), sld7⟩)
    (cd7 : PySem.W.codeIn K cdd7 "_law_alike" = true)
    (kd7 : PySem.W.keepIn K (.ref fd7) = true)
    (id8 : PySem.W.nsIn K mainGlobals "_law_parts_of" = some (some (.ref fd8)))
    (ld8 : K.lookup fd8 = some ⟨ocd8, odd8, .func (PySem.W.fnOf "_law_parts_of" "_law_parts_of" (defArgs s__law_parts_of) (defBody s__law_parts_of) (defScope s__law_parts_of) .none kVd8 dcd8 pmd8 and8 cdd8 ctd8), sld8⟩)
    (cd8 : PySem.W.codeIn K cdd8 "_law_parts_of" = true)
    (kd8 : PySem.W.keepIn K (.ref fd8) = true)
    (id9 : PySem.W.nsIn K mainGlobals "_law_less" = some (some (.ref fd9)))
    (ld9 : K.lookup fd9 = some ⟨ocd9, odd9, .func (PySem.W.fnOf "_law_less" "_law_less" (defArgs s__law_less) (defBody s__law_less) (defScope s__law_less) .none kVd9 dcd9 pmd9 and9 cdd9 ctd9), sld9⟩)
    (cd9 : PySem.W.codeIn K cdd9 "_law_less" = true)
    (kd9 : PySem.W.keepIn K (.ref fd9) = true)
    (id10 : PySem.W.nsIn K mainGlobals "_law_worse" = some (some (.ref fd10)))
    (ld10 : K.lookup fd10 = some ⟨ocd10, odd10, .func (PySem.W.fnOf "_law_worse" "_law_worse" (defArgs s__law_worse) (defBody s__law_worse) (defScope s__law_worse) .none kVd10 dcd10 pmd10 and10 cdd10 ctd10), sld10⟩)
    (cd10 : PySem.W.codeIn K cdd10 "_law_worse" = true)
    (kd10 : PySem.W.keepIn K (.ref fd10) = true)
    (id11 : PySem.W.nsIn K mainGlobals "_law_least" = some (some (.ref fd11)))
    (ld11 : K.lookup fd11 = some ⟨ocd11, odd11, .func (PySem.W.fnOf "_law_least" "_law_least" (defArgs s__law_least) (defBody s__law_least) (defScope s__law_least) .none kVd11 dcd11 pmd11 and11 cdd11 ctd11), sld11⟩)
    (cd11 : PySem.W.codeIn K cdd11 "_law_least" = true)
    (kd11 : PySem.W.keepIn K (.ref fd11) = true)
    (id12 : PySem.W.nsIn K mainGlobals "_law_is_below" = some (some (.ref fd12)))
    (ld12 : K.lookup fd12 = some ⟨ocd12, odd12, .func (PySem.W.fnOf "_law_is_below" "_law_is_below" (defArgs s__law_is_below) (defBody s__law_is_below) (defScope s__law_is_below) .none kVd12 dcd12 pmd12 and12 cdd12 ctd12), sld12⟩)
    (cd12 : PySem.W.codeIn K cdd12 "_law_is_below" = true)
    (kd12 : PySem.W.keepIn K (.ref fd12) = true)
    (id13 : PySem.W.nsIn K mainGlobals "_law_near" = some (some (.ref fd13)))
    (ld13 : K.lookup fd13 = some ⟨ocd13, odd13, .func (PySem.W.fnOf "_law_near" "_law_near" (defArgs s__law_near) (defBody s__law_near) (defScope s__law_near) .none kVd13 dcd13 pmd13 and13 cdd13 ctd13), sld13⟩)
    (cd13 : PySem.W.codeIn K cdd13 "_law_near" = true)
    (kd13 : PySem.W.keepIn K (.ref fd13) = true)
    (id14 : PySem.W.nsIn K mainGlobals "_law_pair_right" = some (some (.ref fd14)))
    (ld14 : K.lookup fd14 = some ⟨ocd14, odd14, .func (PySem.W.fnOf "_law_pair_right" "_law_pair_right" (defArgs s__law_pair_right) (defBody s__law_pair_right) (defScope s__law_pair_right) .none kVd14 dcd14 pmd14 and14 cdd14 ctd14), sld14⟩)
    (cd14 : PySem.W.codeIn K cdd14 "_law_pair_right" = true)
    (kd14 : PySem.W.keepIn K (.ref fd14) = true)
    (id15 : PySem.W.nsIn K mainGlobals "law" = some (some (.ref fd15)))
    (ld15 : K.lookup fd15 = some ⟨ocd15, odd15, .func (PySem.W.fnOf "law" "law" (defArgs s_law) (defBody s_law) (defScope s_law) .none kVd15 dcd15 pmd15 and15 cdd15 ctd15), sld15⟩)
    (cd15 : PySem.W.codeIn K cdd15 "law" = true)
    (kd15 : PySem.W.keepIn K (.ref fd15) = true)
    (z_len : PySem.W.nsIn K mainGlobals "len" = some none)
    (z_min : PySem.W.nsIn K mainGlobals "min" = some none)
    (z_max : PySem.W.nsIn K mainGlobals "max" = some none)
    (z_int : PySem.W.nsIn K mainGlobals "int" = some none)
    (z_tuple : PySem.W.nsIn K mainGlobals "tuple" = some none)
    (z_list : PySem.W.nsIn K mainGlobals "list" = some none)
    (z_isinstance : PySem.W.nsIn K mainGlobals "isinstance" = some none)
    (z_any : PySem.W.nsIn K mainGlobals "any" = some none)
    (z_all : PySem.W.nsIn K mainGlobals "all" = some none)
    (z_range : PySem.W.nsIn K mainGlobals "range" = some none)
    (z_zip : PySem.W.nsIn K mainGlobals "zip" = some none)
    (z_enumerate : PySem.W.nsIn K mainGlobals "enumerate" = some none)
    (z_str : PySem.W.nsIn K mainGlobals "str" = some none)
    (z_bool : PySem.W.nsIn K mainGlobals "bool" = some none)
    (z_repr : PySem.W.nsIn K mainGlobals "repr" = some none)
    (hB : clsB K A = true)
    (hM : PySem.W.makesIn K A = true) :
    ∃ (fd : FuncData) (T : Tb) (g : Fn), T.K = K ∧ (∀ ns : List Int, ns.length ≤ 63 → ∃ m, g [.frl (ns.map D.int)] [] = .ok (.bl true) m) ∧ (∀ (s : Shared) (v : Value), BindsTo s fd ⟨[v], []⟩ [("_law_script", v)]) ∧ ∀ base : Heap, K.In base → base.Ns mainGlobals mg → FnG l.prog w K mg base 18 fa fd ["_law_script"] (spD T 1 g) := by
  simp only [clsB, Bool.and_eq_true, decide_eq_true_eq, List.all_eq_true] at hB
  obtain ⟨c1, c2, c3, c4, c5, c6, c7, c8, c9, c10, c11, c12, c13, c14, c15, c16, c17, c18, c19, c20⟩ := hB
  have efa := hfa.symm.trans (PySem.W.mg_of X G id15)
  cases efa
  have mA := PySem.W.mg_of X G aA
  have hcl : Cls K A := ⟨c1, c2, c3, c4⟩
  have gk : GoodK (G0 K A) K := good_k hcl c5 c6 c7 c8 c10 c11 c14 c15
  have hcls : ∀ x ∈ tp.cls, ∃ C, (T0 K A).cls x = some C := fun x hx => by
    have hx : x ∈ ([("LifeRow" : Str)] : List Str) := hx
    rw [List.mem_singleton] at hx
    subst hx
    exact ⟨A, t0_cls⟩
  have Fm0 := fun_mk (st := s_LifeRow___init__) lm0 cm0 km0
  have bm0 := Fm0.binds (ps := ["self", "left", "lost"]) fun _ _ _ _ _ _ us hl => match us, hl with | [_, _, _], _ => rfl
  have Fm1 := fun_mk (st := s_LifeRow___call__) lm1 cm1 km1
  have bm1 := Fm1.binds (ps := ["self", "lives"]) fun _ _ _ _ _ _ us hl => match us, hl with | [_, _], _ => rfl
  have Fm2 := fun_mk (st := s_LifeRow___sub__) lm2 cm2 km2
  have bm2 := Fm2.binds (ps := ["self", "other"]) fun _ _ _ _ _ _ us hl => match us, hl with | [_, _], _ => rfl
  have Fm3 := fun_mk (st := s_LifeRow___and__) lm3 cm3 km3
  have bm3 := Fm3.binds (ps := ["self", "other"]) fun _ _ _ _ _ _ us hl => match us, hl with | [_, _], _ => rfl
  have Fm4 := fun_mk (st := s_LifeRow_is_below) lm4 cm4 km4
  have bm4 := Fm4.binds (ps := ["self", "other"]) fun _ _ _ _ _ _ us hl => match us, hl with | [_, _], _ => rfl
  have Fm5 := fun_mk (st := s_LifeRow___eq__) lm5 cm5 km5
  have bm5 := Fm5.binds (ps := ["self", "other"]) fun _ _ _ _ _ _ us hl => match us, hl with | [_, _], _ => rfl
  have Fm6 := fun_mk (st := s_LifeRow___repr__) lm6 cm6 km6
  have bm6 := Fm6.binds (ps := ["self"]) fun _ _ _ _ _ _ us hl => match us, hl with | [_], _ => rfl
  have Fp0 := fun_mk (st := s_LifeRow_left) lp0 cp0 kp0
  have bp0 := Fp0.binds (ps := ["self"]) fun _ _ _ _ _ _ us hl => match us, hl with | [_], _ => rfl
  have Fp1 := fun_mk (st := s_LifeRow_lost) lp1 cp1 kp1
  have bp1 := Fp1.binds (ps := ["self"]) fun _ _ _ _ _ _ us hl => match us, hl with | [_], _ => rfl
  have Fd0 := fun_mk (st := s_least_term) ld0 cd0 kd0
  have bd0 := Fd0.binds (ps := ["one", "two"]) fun _ _ _ _ _ _ us hl => match us, hl with | [_, _], _ => rfl
  have Fd1 := fun_mk (st := s_greatest_term) ld1 cd1 kd1
  have bd1 := Fd1.binds (ps := ["one", "two"]) fun _ _ _ _ _ _ us hl => match us, hl with | [_, _], _ => rfl
  have Fd2 := fun_mk (st := s__law_box) ld2 cd2 kd2
  have bd2 := Fd2.binds (ps := ["_law_script", "_law_k"]) fun _ _ _ _ _ _ us hl => match us, hl with | [_, _], _ => rfl
  have Fd3 := fun_mk (st := s__law_take) ld3 cd3 kd3
  have bd3 := Fd3.binds (ps := ["_law_box_here", "_law_many"]) fun _ _ _ _ _ _ us hl => match us, hl with | [_, _], _ => rfl
  have Fd4 := fun_mk (st := s__law_pick) ld4 cd4 kd4
  have bd4 := Fd4.binds (ps := ["_law_box_here", "_law_things"]) fun _ _ _ _ _ _ us hl => match us, hl with | [_, _], _ => rfl
  have Fd5 := fun_mk (st := s__law_row) ld5 cd5 kd5
  have bd5 := Fd5.binds (ps := ["_law_box_here", "_law_many"]) fun _ _ _ _ _ _ us hl => match us, hl with | [_, _], _ => rfl
  have Fd6 := fun_mk (st := s__law_bound) ld6 cd6 kd6
  have bd6 := Fd6.binds (ps := ["_law_row_here", "_law_lives"]) fun _ _ _ _ _ _ us hl => match us, hl with | [_, _], _ => rfl
  have Fd7 := fun_mk (st := s__law_alike) ld7 cd7 kd7
  have bd7 := Fd7.binds (ps := ["_law_found", "_law_due"]) fun _ _ _ _ _ _ us hl => match us, hl with | [_, _], _ => rfl
  have Fd8 := fun_mk (st := s__law_parts_of) ld8 cd8 kd8
  have bd8 := Fd8.binds (ps := ["_law_row_here"]) fun _ _ _ _ _ _ us hl => match us, hl with | [_], _ => rfl
  have Fd9 := fun_mk (st := s__law_less) ld9 cd9 kd9
  have bd9 := Fd9.binds (ps := ["_law_row_here", "_law_ticks"]) fun _ _ _ _ _ _ us hl => match us, hl with | [_, _], _ => rfl
  have Fd10 := fun_mk (st := s__law_worse) ld10 cd10 kd10
  have bd10 := Fd10.binds (ps := ["_law_one", "_law_other", "_law_sign"]) fun _ _ _ _ _ _ us hl => match us, hl with | [_, _, _], _ => rfl
  have Fd11 := fun_mk (st := s__law_least) ld11 cd11 kd11
  have bd11 := Fd11.binds (ps := ["_law_one", "_law_other"]) fun _ _ _ _ _ _ us hl => match us, hl with | [_, _], _ => rfl
  have Fd12 := fun_mk (st := s__law_is_below) ld12 cd12 kd12
  have bd12 := Fd12.binds (ps := ["_law_one", "_law_other"]) fun _ _ _ _ _ _ us hl => match us, hl with | [_, _], _ => rfl
  have Fd13 := fun_mk (st := s__law_near) ld13 cd13 kd13
  have bd13 := Fd13.binds (ps := ["_law_box_here", "_law_row_here"]) fun _ _ _ _ _ _ us hl => match us, hl with | [_, _], _ => rfl
  have Fd14 := fun_mk (st := s__law_pair_right) ld14 cd14 kd14
  have bd14 := Fd14.binds (ps := ["_law_box_here", "_law_one", "_law_other"]) fun _ _ _ _ _ _ us hl => match us, hl with | [_, _, _], _ => rfl
  have Fd15 := fun_mk (st := s_law) ld15 cd15 kd15
  have bd15 := Fd15.binds (ps := ["_law_script"]) fun _ _ _ _ _ _ us hl => match us, hl with | [_], _ => rfl
  have m0 := PySem.W.mg_of X G id0
  have m1 := PySem.W.mg_of X G id1
  have m2 := PySem.W.mg_of X G id2
  have m3 := PySem.W.mg_of X G id3
  have m4 := PySem.W.mg_of X G id4
  have m5 := PySem.W.mg_of X G id5
  have m6 := PySem.W.mg_of X G id6
  have m7 := PySem.W.mg_of X G id7
  have m8 := PySem.W.mg_of X G id8
  have m9 := PySem.W.mg_of X G id9
  have m10 := PySem.W.mg_of X G id10
  have m11 := PySem.W.mg_of X G id11
  have m12 := PySem.W.mg_of X G id12
  have m13 := PySem.W.mg_of X G id13
  have m14 := PySem.W.mg_of X G id14
  have m15 := PySem.W.mg_of X G id15
  refine ⟨PySem.W.fnOf "law" "law" (defArgs s_law) (defBody s_law) (defScope s_law) .none kVd15 dcd15 pmd15 and15 cdd15 ctd15, T0 K A, gLaw K A, rfl, law_true K A, fun s v => .of_eq rfl, fun base _ _ => ?_⟩
  have bl : ∀ x, x ∈ (["len", "min", "max", "int", "tuple", "list", "isinstance", "any", "all", "range", "zip", "enumerate", "str", "bool", "repr"] : List Str) → mg x = none := fun x hx => by
    simp only [List.mem_cons, List.not_mem_nil, or_false] at hx
    rcases hx with rfl | rfl | rfl | rfl | rfl | rfl | rfl | rfl | rfl | rfl | rfl | rfl | rfl | rfl | rfl
    · exact PySem.W.mg_none_of X G z_len
    · exact PySem.W.mg_none_of X G z_min
    · exact PySem.W.mg_none_of X G z_max
    · exact PySem.W.mg_none_of X G z_int
    · exact PySem.W.mg_none_of X G z_tuple
    · exact PySem.W.mg_none_of X G z_list
    · exact PySem.W.mg_none_of X G z_isinstance
    · exact PySem.W.mg_none_of X G z_any
    · exact PySem.W.mg_none_of X G z_all
    · exact PySem.W.mg_none_of X G z_range
    · exact PySem.W.mg_none_of X G z_zip
    · exact PySem.W.mg_none_of X G z_enumerate
    · exact PySem.W.mg_none_of X G z_str
    · exact PySem.W.mg_none_of X G z_bool
    · exact PySem.W.mg_none_of X G z_repr
  have g0 : Good (G0 K A) 0 ⟨l.prog, w, K, mg, base⟩ := good_0 gk bl mA
  have Km0 : FnG l.prog w K mg base 1 fm0 _ ["self", "left", "lost"] (spD (T0 K A) 3 (gInit K A)) := fnD Fm0 sc_LifeRow___init__ g0 hcls t_LifeRow___init__ (by decide)
  have Km1 : FnG l.prog w K mg base 1 fm1 _ ["self", "lives"] (spD (T0 K A) 2 (gCall K A)) := fnD Fm1 sc_LifeRow___call__ g0 hcls t_LifeRow___call__ (by decide)
  have Km4 : FnG l.prog w K mg base 1 fm4 _ ["self", "other"] (spD (T0 K A) 2 (gBelow K A)) := fnD Fm4 sc_LifeRow_is_below g0 hcls t_LifeRow_is_below (by decide)
  have Km5 : FnG l.prog w K mg base 1 fm5 _ ["self", "other"] (spD (T0 K A) 2 (gEq K A)) := fnD Fm5 sc_LifeRow___eq__ g0 hcls t_LifeRow___eq__ (by decide)
  have Km6 : FnG l.prog w K mg base 1 fm6 _ ["self"] (spD (T0 K A) 1 (gRepr K A)) := fnD Fm6 sc_LifeRow___repr__ g0 hcls t_LifeRow___repr__ (by decide)
  have Kp0 : FnG l.prog w K mg base 1 fp0 _ ["self"] (spD (T0 K A) 1 (gLeft K A)) := fnD Fp0 sc_LifeRow_left g0 hcls t_LifeRow_left (by decide)
  have Kp1 : FnG l.prog w K mg base 1 fp1 _ ["self"] (spD (T0 K A) 1 (gLost K A)) := fnD Fp1 sc_LifeRow_lost g0 hcls t_LifeRow_lost (by decide)
  have Kd0 : FnG l.prog w K mg base 1 fd0 _ ["one", "two"] (spD (T0 K A) 2 (gLeast K A)) := fnD Fd0 sc_least_term g0 hcls t_least_term (by decide)
  have Kd1 : FnG l.prog w K mg base 1 fd1 _ ["one", "two"] (spD (T0 K A) 2 (gGreat K A)) := fnD Fd1 sc_greatest_term g0 hcls t_greatest_term (by decide)
  have Mk0 : Mk K A fm0 := ⟨hM, im0, beq_iff_eq.mpr tm0, c9⟩
  have g1a : Good (G1a K A) 2 ⟨l.prog, w, K, mg, base⟩ := good_1 (g0.up (by decide)) mA Mk0 Km0 bm0 ⟨ap0, gp0, up0, _, ip0⟩ Kp0 bp0 ⟨ap1, gp1, up1, _, ip1⟩ Kp1 bp1
  have g1 : Good (G1 K A) 2 ⟨l.prog, w, K, mg, base⟩ := (g1a.add m0 kd0 Kd0 bd0 (by decide) runF_no).add m1 kd1 Kd1 bd1 (by decide) runF_no
  have Km2 : FnG l.prog w K mg base 3 fm2 _ ["self", "other"] (spD (T0 K A) 2 (gSub K A)) := fnD Fm2 sc_LifeRow___sub__ g1 hcls t_LifeRow___sub__ (by decide)
  have Km3 : FnG l.prog w K mg base 3 fm3 _ ["self", "other"] (spD (T0 K A) 2 (gAnd K A)) := fnD Fm3 sc_LifeRow___and__ g1 hcls t_LifeRow___and__ (by decide)
  have g2 : Good (G2 K A) 4 ⟨l.prog, w, K, mg, base⟩ := good_2 (g1.up (by decide)) ⟨im1, beq_iff_eq.mpr tm1, fn_in lm1⟩ Km1 bm1 im6 (beq_iff_eq.mpr tm6) Km6 bm6 ⟨im4, beq_iff_eq.mpr tm4, km4⟩ Km4 bm4 c13 im3 (beq_iff_eq.mpr tm3) Km3 bm3 im2 (beq_iff_eq.mpr tm2) Km2 bm2 c17 c18 c19 c20 im5 (beq_iff_eq.mpr tm5) Km5 bm5 c12 c8 c16
  have g_law_box : Good (H_law_box K A) 5 ⟨l.prog, w, K, mg, base⟩ := g2.def Fd2 sc__law_box hcls t__law_box (by decide) m2 bd2
  have g_law_take : Good (H_law_take K A) 6 ⟨l.prog, w, K, mg, base⟩ := g_law_box.def Fd3 sc__law_take hcls t__law_take (by decide) m3 bd3
  have g_law_pick : Good (H_law_pick K A) 7 ⟨l.prog, w, K, mg, base⟩ := g_law_take.def Fd4 sc__law_pick hcls t__law_pick (by decide) m4 bd4
  have g_law_row : Good (H_law_row K A) 8 ⟨l.prog, w, K, mg, base⟩ := g_law_pick.def Fd5 sc__law_row hcls t__law_row (by decide) m5 bd5
  have g_law_bound : Good (H_law_bound K A) 9 ⟨l.prog, w, K, mg, base⟩ := g_law_row.def Fd6 sc__law_bound hcls t__law_bound (by decide) m6 bd6
  have g_law_alike : Good (H_law_alike K A) 10 ⟨l.prog, w, K, mg, base⟩ := g_law_bound.def Fd7 sc__law_alike hcls t__law_alike (by decide) m7 bd7
  have g_law_parts_of : Good (H_law_parts_of K A) 11 ⟨l.prog, w, K, mg, base⟩ := g_law_alike.def Fd8 sc__law_parts_of hcls t__law_parts_of (by decide) m8 bd8
  have g_law_less : Good (H_law_less K A) 12 ⟨l.prog, w, K, mg, base⟩ := g_law_parts_of.def Fd9 sc__law_less hcls t__law_less (by decide) m9 bd9
  have g_law_worse : Good (H_law_worse K A) 13 ⟨l.prog, w, K, mg, base⟩ := g_law_less.def Fd10 sc__law_worse hcls t__law_worse (by decide) m10 bd10
  have g_law_least : Good (H_law_least K A) 14 ⟨l.prog, w, K, mg, base⟩ := g_law_worse.def Fd11 sc__law_least hcls t__law_least (by decide) m11 bd11
  have g_law_is_below : Good (H_law_is_below K A) 15 ⟨l.prog, w, K, mg, base⟩ := g_law_least.def Fd12 sc__law_is_below hcls t__law_is_below (by decide) m12 bd12
  have g_law_near : Good (H_law_near K A) 16 ⟨l.prog, w, K, mg, base⟩ := g_law_is_below.def Fd13 sc__law_near hcls t__law_near (by decide) m13 bd13
  have g_law_pair_right : Good (H_law_pair_right K A) 17 ⟨l.prog, w, K, mg, base⟩ := g_law_near.def Fd14 sc__law_pair_right hcls t__law_pair_right (by decide) m14 bd14
  exact fnD Fd15 sc_law g_law_pair_right hcls t_law (by decide)
end K26

open PySem PySem.W PyProof.Rows
set_option maxRecDepth 100000 in
set_option maxHeartbeats 0 in
theorem PySem.Challenge.cw_sourwright_k26_bounds_of_lives_holds : PySem.Challenge.rw_sourwright_k26_bounds_of_lives.Holds := by
  w_on; o_law; k_head; (case hw => w_witness2)
  k_fill
  refine Pm.walkG (l := PySem.Challenge.rw_sourwright_k26_bounds_of_lives) (n := 63) (k := 18) (x := "_law_script") rfl (by decide) rfl ⟨rfl, by decide, by decide⟩ (fun w h Y => PySem.W.kIn_of Y) ?F
  case F =>
    intro w mg fa h KX G hmg
    refine' K26.all_mk KX G hmg ?aA ?im0 ?lm0 ?cm0 ?km0 ?tm0 ?im1 ?lm1 ?cm1 ?km1 ?tm1 ?im2 ?lm2 ?cm2 ?km2 ?tm2 ?im3 ?lm3 ?cm3 ?km3 ?tm3 ?im4 ?lm4 ?cm4 ?km4 ?tm4 ?im5 ?lm5 ?cm5 ?km5 ?tm5 ?im6 ?lm6 ?cm6 ?km6 ?tm6 ?ap0 ?gp0 ?up0 ?ip0 ?lp0 ?cp0 ?kp0 ?ap1 ?gp1 ?up1 ?ip1 ?lp1 ?cp1 ?kp1 ?id0 ?ld0 ?cd0 ?kd0 ?id1 ?ld1 ?cd1 ?kd1 ?id2 ?ld2 ?cd2 ?kd2 ?id3 ?ld3 ?cd3 ?kd3 ?id4 ?ld4 ?cd4 ?kd4 ?id5 ?ld5 ?cd5 ?kd5 ?id6 ?ld6 ?cd6 ?kd6 ?id7 ?ld7 ?cd7 ?kd7 ?id8 ?ld8 ?cd8 ?kd8 ?id9 ?ld9 ?cd9 ?kd9 ?id10 ?ld10 ?cd10 ?kd10 ?id11 ?ld11 ?cd11 ?kd11 ?id12 ?ld12 ?cd12 ?kd12 ?id13 ?ld13 ?cd13 ?kd13 ?id14 ?ld14 ?cd14 ?kd14 ?id15 ?ld15 ?cd15 ?kd15 ?z_len ?z_min ?z_max ?z_int ?z_tuple ?z_list ?z_isinstance ?z_any ?z_all ?z_range ?z_zip ?z_enumerate ?z_str ?z_bool ?z_repr ?hB ?hM
    (case aA => k_is)
    (case im0 => k_is)
    (case lm0 => k_is)
    (case cm0 => k_is)
    (case km0 => k_is)
    (case tm0 => k_is)
    (case im1 => k_is)
    (case lm1 => k_is)
    (case cm1 => k_is)
    (case km1 => k_is)
    (case tm1 => k_is)
    (case im2 => k_is)
    (case lm2 => k_is)
    (case cm2 => k_is)
    (case km2 => k_is)
    (case tm2 => k_is)
    (case im3 => k_is)
    (case lm3 => k_is)
    (case cm3 => k_is)
    (case km3 => k_is)
    (case tm3 => k_is)
    (case im4 => k_is)
    (case lm4 => k_is)
    (case cm4 => k_is)
    (case km4 => k_is)
    (case tm4 => k_is)
    (case im5 => k_is)
    (case lm5 => k_is)
    (case cm5 => k_is)
    (case km5 => k_is)
    (case tm5 => k_is)
    (case im6 => k_is)
    (case lm6 => k_is)
    (case cm6 => k_is)
    (case km6 => k_is)
    (case tm6 => k_is)
    (case ap0 => k_is)
    (case gp0 => k_is)
    (case up0 => k_is)
    (case ip0 => k_is)
    (case lp0 => k_is)
    (case cp0 => k_is)
    (case kp0 => k_is)
    (case ap1 => k_is)
    (case gp1 => k_is)
    (case up1 => k_is)
    (case ip1 => k_is)
    (case lp1 => k_is)
    (case cp1 => k_is)
    (case kp1 => k_is)
    (case id0 => k_is)
    (case ld0 => k_is)
    (case cd0 => k_is)
    (case kd0 => k_is)
    (case id1 => k_is)
    (case ld1 => k_is)
    (case cd1 => k_is)
    (case kd1 => k_is)
    (case id2 => k_is)
    (case ld2 => k_is)
    (case cd2 => k_is)
    (case kd2 => k_is)
    (case id3 => k_is)
    (case ld3 => k_is)
    (case cd3 => k_is)
    (case kd3 => k_is)
    (case id4 => k_is)
    (case ld4 => k_is)
    (case cd4 => k_is)
    (case kd4 => k_is)
    (case id5 => k_is)
    (case ld5 => k_is)
    (case cd5 => k_is)
    (case kd5 => k_is)
    (case id6 => k_is)
    (case ld6 => k_is)
    (case cd6 => k_is)
    (case kd6 => k_is)
    (case id7 => k_is)
    (case ld7 => k_is)
    (case cd7 => k_is)
    (case kd7 => k_is)
    (case id8 => k_is)
    (case ld8 => k_is)
    (case cd8 => k_is)
    (case kd8 => k_is)
    (case id9 => k_is)
    (case ld9 => k_is)
    (case cd9 => k_is)
    (case kd9 => k_is)
    (case id10 => k_is)
    (case ld10 => k_is)
    (case cd10 => k_is)
    (case kd10 => k_is)
    (case id11 => k_is)
    (case ld11 => k_is)
    (case cd11 => k_is)
    (case kd11 => k_is)
    (case id12 => k_is)
    (case ld12 => k_is)
    (case cd12 => k_is)
    (case kd12 => k_is)
    (case id13 => k_is)
    (case ld13 => k_is)
    (case cd13 => k_is)
    (case kd13 => k_is)
    (case id14 => k_is)
    (case ld14 => k_is)
    (case cd14 => k_is)
    (case kd14 => k_is)
    (case id15 => k_is)
    (case ld15 => k_is)
    (case cd15 => k_is)
    (case kd15 => k_is)
    (case z_len => k_is)
    (case z_min => k_is)
    (case z_max => k_is)
    (case z_int => k_is)
    (case z_tuple => k_is)
    (case z_list => k_is)
    (case z_isinstance => k_is)
    (case z_any => k_is)
    (case z_all => k_is)
    (case z_range => k_is)
    (case z_zip => k_is)
    (case z_enumerate => k_is)
    (case z_str => k_is)
    (case z_bool => k_is)
    (case z_repr => k_is)
    (case hB => kernel_rfl)
    (case hM => k_is)
