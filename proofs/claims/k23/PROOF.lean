import PyProof.Rows.All
import Wide.All
import OpenK.AllK
import Wide.FinOn
import PyProof.Rows.SortShellAny
import HandS.Base
import HandS.Call
import HandS.List
import HandS.Comp
import HandS.Set
import HandS.SetFor
import HandS.SetBool
import HandS.ForMost
import HandS.Star
import HandS.Conv
import HandS.Codes
import HandS.IsInst
import HandS.TupAny
import HandS.Style
import HandS.Dict
import HandS.Deep
import HandS.Iter
import HandS.Walk
import KE.GoesEnum
import KE.GoesMore
import HandS.Strs
import HandS.Text
import KE.KDictZip
import HandS.Zip
import HandS.ListItems
import PyProof.ListNew
import HandS.DictComp
import HandS.Words
import HandS.TupSets
import HandS.More
import HandS.Sort
import KE.DataMinMax
import KE.SortData
import PySem.Challenge.RW_finitestructures_k23_classes_of_points
set_option Elab.async false
set_option linter.all false
set_option maxRecDepth 100000
set_option maxHeartbeats 4000000
/-! Sets of texts: what one is, put in, made of a sequence, sorted. -/
namespace Tx
open PySem PySem.Spec PyProof.Rows L2

/-- the object of a fresh set -/
abbrev s0 (w : World) : Obj := { cls := .type "set", dict := none, data := .set #[] 0 (.fresh 0 0 (!w.params.followText "set-order")) }
def txt (e : Int × Value) : Str := match e.2 with | .str x _ => x | _ => Str.empty
def GoodT (w : World) (e : Int × Value) : Prop := ∃ x u, e.2 = Value.str x u ∧ e.1 = hashStr w x
/-- at a stands a set whose members are those of l -/
structure TS0 (w : World) (l : List Str) (o : Obj) (es : Array (Int × Value)) (ep : Nat) (t : SetTable) : Prop where
  exact_ : o.ExactSet
  data : o.data = .set es ep t
  good : ∀ e ∈ es.toList, GoodT w e
  once : (es.toList.map txt).Nodup
  mem : ∀ x, x ∈ l ↔ x ∈ es.toList.map txt
  few : es.size ≤ l.length
  size : es.size < scanBound
  fits : t.fits es.size = true
  ris : Ris t.place.toList
  led : w.params.followText "set-order" = true ∨ t.led = true
def TSet (w : World) (h : Heap) (a : Addr) (l : List Str) : Prop := ∃ o es ep t, h.get? a = some o ∧ TS0 w l o es ep t
theorem TSet.at {w : World} {h h' : Heap} {a : Addr} {l : List Str} (R : TSet w h a l) (k : ∀ o, h.get? a = some o → h'.get? a = some o) : TSet w h' a l :=
  let ⟨o, es, ep, t, ho, r⟩ := R; ⟨o, es, ep, t, k o ho, r⟩
theorem TSet.same {w : World} {h : Heap} {a : Addr} {l l' : List Str} (R : TSet w h a l) (m : ∀ x, x ∈ l' ↔ x ∈ l) (n : l.length ≤ l'.length) : TSet w h a l' :=
  let ⟨o, es, ep, t, ho, r⟩ := R
  ⟨o, es, ep, t, ho, { r with mem := fun x => (m x).trans (r.mem x), few := Nat.le_trans r.few n }⟩

section
variable {P : Program} {w : World}
theorem kind_is (x : Str) (u : Tok) : (PySem.strKind P w).is x (.str x u) = true := by
  show Value.isStrOf x (.str x u) = true
  simp [Value.isStrOf]
theorem elems {l : List (Int × Value)} (g : ∀ e ∈ l, GoodT w e) : ElemsOf (PySem.strKind P w) l := fun e he => by
  obtain ⟨x, u, e1, e2⟩ := g e he
  refine ⟨⟨x, ?_, e2⟩, ?_⟩
  · rw [e1]; exact kind_is x u
  · rw [e1]; rfl
theorem is_txt {e : Int × Value} (g : GoodT w e) (x : Str) : (PySem.strKind P w).is x e.2 = true ↔ txt e = x := by
  obtain ⟨y, u, e1, _⟩ := g
  unfold txt
  rw [e1]
  constructor
  · intro q
    exact (PySem.strKind P w).inj (.str y u) y x (kind_is y u) q
  · intro q
    have q' : y = x := q
    rw [← q']; exact kind_is y u
theorem mem_txt {l : List (Int × Value)} (g : ∀ e ∈ l, GoodT w e) (x : Str) : x ∈ l.map txt ↔ ∃ e ∈ l, (PySem.strKind P w).is x e.2 = true := by
  rw [List.mem_map]
  exact ⟨fun ⟨e, he, q⟩ => ⟨e, he, (is_txt (g e he) x).mpr q⟩, fun ⟨e, he, q⟩ => ⟨e, he, (is_txt (g e he) x).mp q⟩⟩
end

section
variable {P : Program} {w : World} {A : Around} {E : Value → Shared → Prop} {s : Shared} {a : Addr}
/-- the set is stored, and laid anew where it has grown full -/
theorem add_end {gv : Bool → Sem Unit} (hg : ∀ (b : Bool) (s1 : Shared) (Z : Unit → Shared → Prop), Z () s1 → wpAny (model P w) A (gv b) Z E s1) {l : List Str}
    {o : Obj} {es : Array (Int × Value)} {ep : Nat} {t : SetTable} (ho : s.heap.get? a = some o) (hd : o.data = .set es ep t) {es1 : Array (Int × Value)} {t1 : SetTable} {dummy : Bool}
    (R1 : ∀ ep1, TS0 w l { o with data := .set es1 ep1 t1 } es1 ep1 t1) {Z : Option Bool → Shared → Prop}
    (hZ : ∀ h', Heap.SameBut a s.heap h' → TSet w h' a l → Z (some true) { s with heap := h' }) :
    wpAny (model P w) A (do
        storeSet a es1 t1
        if (!dummy && t1.tooFull) = true then do
            gv (relayAll t1 es1 (SetTable.grown es1.size)).2.2
            storeSet a (relayAll t1 es1 (SetTable.grown es1.size)).1 (relayAll t1 es1 (SetTable.grown es1.size)).2.1
            pure (some true)
          else pure (some true)) Z E s := by
  have r1 := R1 (ep + 1)
  refine wpAny_bind (wpAny_storeSet_of ho hd ?_ (fits_of_scanBound r1.size))
  have ho1 := store_at (es' := es1) (t' := t1) ho hd
  have sb := Heap.SameBut.update s.heap a (Obj.putSet es1 t1)
  by_cases full : (!dummy && t1.tooFull) = true
  · rw [if_pos full]
    have e1 := relayAll_perm t1 es1 (SetTable.grown es1.size)
    have e2 := relayAll_fits t1 es1 (SetTable.grown es1.size)
    have e3 := relayAll_ris t1 es1 (SetTable.grown es1.size)
    have e4 := relayAll_led t1 es1 (SetTable.grown es1.size)
    generalize relayAll t1 es1 (SetTable.grown es1.size) = N at e1 e2 e3 e4 ⊢
    obtain ⟨es2, t2, gave⟩ := N
    dsimp only at e1 e2 e3 e4 ⊢
    have n2 : es2.size = es1.size := by
      have q := e1.length_eq
      rwa [Array.length_toList, Array.length_toList] at q
    refine wpAny_bind (hg _ _ _ (wpAny_bind (wpAny_storeSet_of ho1 rfl ?_ (fits_of_scanBound (by rw [n2]; exact r1.size)))))
    have ho2 := store_at (es' := es2) (t' := t2) ho1 rfl
    refine wpAny_pure (hZ _ (sb.trans (Heap.SameBut.update _ a _)) ⟨_, es2, ep + 1 + 1, t2, ho2, ?_⟩)
    exact { exact_ := r1.exact_, data := rfl, good := fun e he => r1.good e (e1.mem_iff.mp he), once := (e1.map txt).nodup_iff.mpr r1.once, mem := fun x => (r1.mem x).trans (e1.map txt).mem_iff.symm,
            few := by rw [n2]; exact r1.few, size := by rw [n2]; exact r1.size, fits := e2, ris := e3, led := r1.led.imp id fun z => by rw [e4]; exact z }
  · rw [if_neg full]
    exact wpAny_pure (hZ _ sb ⟨_, es1, ep + 1, t1, ho1, r1⟩)
/-- the hashed text is put in -/
theorem add_hashed {x : Str} {u : Tok} {l : List Str} {Z : Bool → Shared → Prop} (R : TSet w s.heap a l) (room : l.length + 1 < scanBound)
    (hZ : ∀ b h', Heap.SameBut a s.heap h' → TSet w h' a (l ++ [x]) → Z b { s with heap := h' }) : wpAny (model P w) A (setAddHashed a (.str x u) (hashStr w x)) Z E s := by
  obtain ⟨o, es, ep, t, ho, r⟩ := R
  have hkey : (PySem.strKind P w).is x (.str x u) = true := kind_is x u
  have hsc : (Value.str x u).scannable = true := rfl
  have hel : ElemsOf (PySem.strKind P w) es.toList := elems r.good
  unfold setAddHashed setAddHashedIn
  refine wpAny_holding (wpAny_bind (wpAny_setState_of ho r.data r.fits ?_))
  dsimp only
  rw [byScan_of hsc r.size hel]
  simp only [↓reduceIte]
  unfold setAddByScan
  refine wpAny_bind (wpAny_bind (wpAny_rule (wpAny_bind (wpAny_setScan_of hkey ho r.data r.fits hel ?_))))
  cases found : List.findIdx? (fun e => (PySem.strKind P w).is x e.2) es.toList with
  | some j =>
    dsimp only
    obtain ⟨hj, pj, _⟩ := List.findIdx?_eq_some_iff_getElem.mp found
    have hx : x ∈ l := (r.mem x).mpr ((mem_txt (P := P) r.good x).mpr ⟨es.toList[j], List.getElem_mem hj, pj⟩)
    refine wpAny_pure (wpAny_pure (hZ false s.heap (Heap.SameBut.refl a s.heap) ?_))
    refine TSet.same (l := l) ⟨o, es, ep, t, ho, r⟩ (fun y => ?_) (by rw [List.length_append]; exact Nat.le_add_right _ _)
    rw [List.mem_append, List.mem_singleton]
    exact ⟨fun z => z.elim id fun e => e ▸ hx, .inl⟩
  | none =>
    dsimp only
    have hx : x ∉ es.toList.map txt := fun z => by
      obtain ⟨e, he, q⟩ := (mem_txt (P := P) r.good x).mp z
      have no := List.findIdx?_eq_none_iff.mp found e he
      rw [q] at no
      cases no
    have e1 := layNew_perm t es (hashStr w x) (.str x u)
    have e2 := layNew_fits t es (hashStr w x) (.str x u)
    have e3 := layNew_ris t es (hashStr w x) (.str x u) r.ris
    have e4 := layNew_led t es (hashStr w x) (.str x u)
    show wpAny _ _ (_ >>= _) _ _ _
    generalize hN : layNew t es (hashStr w x) (.str x u) = N at e1 e2 e3 e4 ⊢
    have hN' : layNew t es ((PySem.strKind P w).hash x) (.str x u) = N := hN
    try rw [hN']
    obtain ⟨es1, t1, dummy, gave⟩ := N
    dsimp only at e1 e2 e3 e4 ⊢
    rw [Array.toList_push] at e1
    have pc := e1.trans (List.perm_append_singleton _ _)
    have pk := pc.map txt
    have n1 : es1.size = es.size + 1 := by
      have q := pc.length_eq
      rwa [Array.length_toList, List.length_cons, Array.length_toList] at q
    have hn : es1.size < scanBound := by have := r.few; omega
    have mk : ∀ (t2 : SetTable), t2.fits es1.size = true → Ris t2.place.toList → t2.led = t1.led → ∀ ep1, TS0 w (l ++ [x]) { o with data := .set es1 ep1 t2 } es1 ep1 t2 := fun t2 f2 i2 d2 ep1 =>
      { exact_ := r.exact_, data := rfl
        good := fun e he => (List.mem_cons.mp (pc.mem_iff.mp he)).elim (fun z => by rw [z]; exact ⟨x, u, rfl, rfl⟩) (r.good e)
        once := pk.nodup_iff.mpr (List.nodup_cons.mpr ⟨hx, r.once⟩)
        mem := fun y => by
          rw [pk.mem_iff, List.map_cons, List.mem_cons, List.mem_append, List.mem_singleton, r.mem y]
          exact or_comm
        few := by rw [n1, List.length_append]; exact Nat.succ_le_succ r.few
        size := hn, fits := f2, ris := i2
        led := r.led.imp id fun z => by rw [d2, e4]; exact z }
    have gw : ∀ (b : Bool) (s1 : Shared) (Z' : Unit → Shared → Prop), Z' () s1 → wpAny (model P w) A (match b with | true => rule "set.scan.the-table-gave-way" | false => pure ()) Z' E s1 :=
      fun b s1 Z' q => by cases b <;> first | exact wpAny_pure q | exact wpAny_rule q
    refine wpAny_bind ((gw _ _ _ ?_))
    split
    · refine wpAny_bind ?_
      rw [hashByValue_scannable 8 hsc]
      refine wpAny_pure ?_
      refine add_end (l := l ++ [x]) ?_ ho r.data ?_ ?_
      · intro b s1 Z' q
        cases b <;> first | exact wpAny_pure q | exact wpAny_rule q
      · intro ep1
        first
          | (split <;> first | exact mk _ e2 e3 rfl ep1 | exact mk _ (SetTable.fits_plain_off e2) e3 rfl ep1)
          | exact mk _ (SetTable.fits_plain_off e2) e3 rfl ep1
      · intro h' sb q
        dsimp only
        exact wpAny_pure (hZ true h' sb q)
    · refine wpAny_bind (wpAny_pure ?_)
      simp only [↓reduceIte]
      refine add_end (l := l ++ [x]) ?_ ho r.data (mk _ e2 e3 rfl) ?_
      · intro b s1 Z' q
        cases b <;> first | exact wpAny_pure q | exact wpAny_rule q
      · intro h' sb q
        dsimp only
        exact wpAny_pure (hZ true h' sb q)

/-! ### made, put in, walked -/
theorem fresh_at {h : Heap} (ho : h.get? a = some (s0 w)) : TSet w h a [] := by
  refine ⟨_, #[], 0, .fresh 0 0 (!w.params.followText "set-order"), ho, ?_⟩
  refine { exact_ := ⟨rfl, rfl, rfl⟩, data := rfl, good := fun e he => ?_, once := ?_, mem := fun x => ?_, few := ?_, size := ?_, fits := ?_, ris := ?_, led := ?_ }
  · simp at he
  · simp
  · simp
  · simp
  · show 0 < scanBound
    decide
  · rfl
  · exact List.Pairwise.nil
  · show _ ∨ (!w.params.followText "set-order") = true
    cases w.params.followText "set-order" with
    | false => exact .inr rfl
    | true => exact .inl rfl
theorem put_in {x : Str} {u : Tok} {l : List Str} {Z : Bool → Shared → Prop} (R : TSet w s.heap a l) (room : l.length + 1 < scanBound)
    (hZ : ∀ b h', Heap.SameBut a s.heap h' → TSet w h' a (l ++ [x]) → Z b { s with heap := h', toks := s.toks + 1 }) : wpAny (model P w) A (setAdd a (.str x u)) Z E s := by
  unfold setAdd
  exact wpAny_holding (wpAny_bind ((PySem.strKind P w).pyHash (kind_is x u) (add_hashed (s := { s with toks := s.toks + 1 }) R room hZ)))
/-- found.add(x) -/
theorem call_add {x : Str} {u : Tok} {l : List Str} {Q : Value → Shared → Prop} (R : TSet w s.heap a l) (room : l.length + 1 < scanBound)
    (hQ : ∀ h', Heap.SameBut a s.heap h' → TSet w h' a (l ++ [x]) → Q .none { s with heap := h', toks := s.toks + 1 }) : wpAny (model P w) A (call (.builtin "set.add") [.ref a, .str x u]) Q E s := by
  have hT : s.TypeIs (.ref a) "set" := let ⟨o, _, _, _, ho, r⟩ := R; ⟨o, ho, r.exact_.1⟩
  refine wpAny_call_entry PySem.F.slot_set_add hT PySem.F.entry_set_add ?_ (PySem.F.args_set_add_2 _ _)
  unfold Builtin.«set.add» Builtin.Frozenset.oneOther
  simp only [List.isEmpty_nil, bind_assoc]
  unfold Builtin.Frozenset.addrOf
  refine wpAny_bind (wpAny_pure ?_)
  try dsimp only
  refine wpAny_bind (wpAny_pure ?_)
  try dsimp only
  refine wpAny_bind (put_in R room fun b h' sb q => ?_)
  show wpAny _ _ (ret Value.none) _ _ _
  exact wpAny_pure ⟨_, rfl, hQ h' sb q⟩
/-- the loop of set.update over what yields the texts xs -/
theorem update_loop {I : Addr} {fp wr : List Addr} {G : Array GenState → Array GenState → Prop} {n : Nat} {Pv : Nat → Value → Prop} {St : Nat → Shared → Prop} {R : Result → Shared → Prop}
    (W : WalksS P w A.in1 I fp wr G n Pv St) (S : Addr) (hS : S ∉ fp) (xs : List Str) (hn : n = xs.length) (hb : xs.length + 1 < scanBound) (hv : ∀ i v, Pv i v → ∃ x u, xs[i]? = some x ∧ v = .str x u) :
    ∀ (k i : Nat) (s : Shared), n = i + k → St i s → TSet w s.heap S (xs.take i) →
      (∀ s', Moved (S :: wr) G s s' → TSet w s'.heap S xs → R (.ok (.ret .none)) s') →
      codeAny (model P w) A (.builtin "set.update.loop" ⟨[.ref S, .ref I], []⟩) R s := by
  have nS : S ∉ wr := fun h => hS (W.sub _ h)
  have wide : ∀ b ∈ wr, b ∈ S :: wr := fun b hb => List.mem_cons_of_mem _ hb
  intro k
  induction k with
  | zero =>
    intro i s hi st hT hR
    have e : i = n := by omega
    subst e
    refine codeAny_builtin PyProof.Rows.F.entry_set_update_loop ?_
    rw [Around.under_plainId PyProof.Rows.F.plain_set_update_loop _]
    show wpAny _ A.in1 (pyNext (.ref I) >>= _) _ _ s
    refine wpAny_bind (W.done s _ _ st fun s' hm => ?_)
    show wpAny _ A.in1 (ret Value.none) _ _ s'
    rw [hn, List.take_length] at hT
    exact wpAny_pure (hR s' (hm.mono wide) (hT.at fun o e => hm.heap S o nS e))
  | succ k ih =>
    intro i s hi st hT hR
    have lt : i < n := by omega
    refine codeAny_builtin PyProof.Rows.F.entry_set_update_loop ?_
    rw [Around.under_plainId PyProof.Rows.F.plain_set_update_loop _]
    show wpAny _ A.in1 (pyNext (.ref I) >>= _) _ _ s
    refine wpAny_bind (W.item i s _ _ lt st fun v s' hP st' hm => ?_)
    obtain ⟨x, u, hx, rfl⟩ := hv i v hP
    have hT' : TSet w s'.heap S (xs.take i) := hT.at fun o e => hm.heap S o nS e
    show wpAny _ A.in1 (holding [Value.str x u] (setAdd S (.str x u)) >>= _) _ _ s'
    refine wpAny_bind (wpAny_holding (put_in hT' (by rw [List.length_take]; omega) fun b h' sb q => ?_))
    have q' : TSet w h' S (xs.take (i + 1)) := by
      rw [List.take_succ, hx]
      exact q
    refine wpAny_pure ⟨plainId_quiet PyProof.Rows.F.plain_set_update_loop _, ih (i + 1) _ (by omega) (W.frame _ s' _ _ st' (Nat.le_succ _) fun b hb o e => ?_) q' fun s2 hm2 hT2 => ?_⟩
    · rw [sb.2 b (fun z => hS (z ▸ hb))]
      exact e
    · refine hR s2 (Moved.trans W.gtrans ((hm.mono wide).then_heap (Nat.le_succ _) fun b o hb e => ?_) hm2) hT2
      rw [sb.2 b (fun z => hb (z ▸ List.mem_cons_self))]
      exact e
end
end Tx

set_option Elab.async false
set_option linter.all false
set_option maxRecDepth 100000
set_option maxHeartbeats 4000000
namespace Tx
open PySem PySem.Spec PyProof.Rows L2
section
variable {P : Program} {w : World} {A : Around} {E : Value → Shared → Prop} {s : Shared} {a : Addr}
/-- what a new set of the texts xs leaves -/
def Made (w : World) (s : Shared) (xs : List Str) (s' : Shared) : Prop :=
  ∃ h' tk, s' = { s with heap := h', toks := tk } ∧ TSet w h' s.heap.objs.size xs ∧ ∀ b o, s.heap.get? b = some o → h'.get? b = some o
/-- set(xs), by what its __init__ does -/
theorem call_set {l : Addr} {xs : List Str} {Q : Value → Shared → Prop} (hl : ∃ o, s.heap.get? l = some o)
    (init : ∀ (Z : PySem.Fin → Shared → Prop), (∀ s', Made w s xs s' → Z (.done (.ret .none)) s') →
      wpAny (model P w) A.in1.in1 (Builtin.«set.__init__» ⟨[.ref s.heap.objs.size, .ref l], []⟩) Z E { s with heap := s.heap.push (s0 w) })
    (hQ : ∀ s', Made w s xs s' → Q (.ref s.heap.objs.size) s') : wpAny (model P w) A (call (.type "set") [.ref l]) Q E s := by
  obtain ⟨mroC, mroT, mroE⟩ := PySem.F.called_set.mro
  have made := PySem.F.called_set.made
  have below := PySem.F.called_set.sub
  refine wpAny_call (codeAny_of_tree ?_)
  show wpAny _ _ (callAny (.type "set") _) _ _ _
  refine wpAny_pure ⟨Code.quiet_builtin _ (by decide +kernel), codeAny_builtin PySem.F.entry_type_call ?_⟩
  rw [Around.under_plain (weight_type_call_type "set" [.ref l] []) rfl]
  have f1 := PySem.F.called_set.notType
  have f2 := PySem.F.called_set.canCreate
  have f3 := PySem.F.typeCall_set_1 (.ref l)
  repeat (any_goals (first | assumption | wp_step))

  refine codeAny_mono (code_set_led1 (.ref l) (E := E) (Q₁ := fun r s1 => r = .ref s.heap.objs.size ∧ s1 = { s with heap := s.heap.push (s0 w) }) ⟨rfl, rfl⟩) fun r s1 hr => ?_
  cases r with
  | error e => exact hr
  | ok f =>
    cases f with
    | ret v =>
      obtain ⟨rfl, rfl⟩ := hr
      have hT : Shared.TypeIs { s with heap := s.heap.push (s0 w) } (.ref s.heap.objs.size) "set" := ⟨_, Heap.get?_push_size _ rfl, rfl⟩
      have g1 := PySem.F.called_set.init.lookup
      have g2 := PySem.F.called_set.init.bind (.ref s.heap.objs.size)
      repeat (any_goals (first | assumption | wp_step))

      refine codeAny_mono (codeAny_call_builtin (R := wants (fun r s2 => r = .none ∧ Made w s xs s2) E) PySem.F.called_set.init.plain PySem.F.entry_set_init (check_set_init_1 hT ?_)) fun r s2 hr => ?_
      · exact init _ fun s' m => ⟨rfl, m⟩
      · cases r with
        | error e => exact hr
        | ok f2 =>
          cases f2 with
          | ret v =>
            obtain ⟨rfl, m⟩ := hr
            repeat (any_goals (first | assumption | wp_step))
            exact hQ _ m
          | _ => exact hr.elim
    | _ => exact hr.elim
end
end Tx

set_option Elab.async false
set_option linter.all false
set_option maxRecDepth 100000
set_option maxHeartbeats 4000000
namespace Tx
open PySem PySem.Spec PyProof.Rows L2
section
variable {P : Program} {w : World} {A : Around} {E : Value → Shared → Prop} {s : Shared} {a : Addr}
theorem strs_at : ∀ {us : List Value} {xs : List Str}, StrsAre us xs → ∀ (i : Nat) (v : Value), us[i]? = some v → ∃ x u, xs[i]? = some x ∧ v = .str x u
  | _, _, .nil, i, v, h => by simp at h
  | _, _, .cons x u r, 0, v, h => ⟨x, u, rfl, by simpa using h.symm⟩
  | _, _, .cons x u r, i + 1, v, h => strs_at r i v (by simpa using h)
theorem strs_len : ∀ {us : List Value} {xs : List Str}, StrsAre us xs → us.length = xs.length
  | _, _, .nil => rfl
  | _, _, .cons x u r => congrArg Nat.succ (strs_len r)
/-- behind the loop -/
theorem ends {xs : List Str} {Z : PySem.Fin → Shared → Prop} {I : Addr} (hI : s.heap.objs.size + 1 ≤ I) {h1 : Heap} (k1 : ∀ b o, s.heap.get? b = some o → h1.get? b = some o) {s' : Shared} (hm : Moved [s.heap.objs.size, I] (fun a b => b = a) { s with heap := h1 } s') (hT : TSet w s'.heap s.heap.objs.size xs)
    (hZ : ∀ s', Made w s xs s' → Z (.done (.ret .none)) s') : Z (.done (.ret .none)) s' := by
  refine hZ s' ⟨s'.heap, s'.toks, ?_, hT, fun b o e => hm.heap b o (fun z => ?_) (k1 b o e)⟩
  · obtain ⟨h', g, d, tk, os⟩ := s'
    have e1 : g = s.gens := hm.gens
    have e2 : d = s.drawn := hm.drawn
    have e3 : os = s.os := hm.os
    subst e1 e2 e3
    rfl
  · have lt := Heap.lt_size e
    rcases List.mem_cons.mp z with z | z
    · exact absurd lt (z ▸ Nat.lt_irrefl _)
    · rw [List.mem_singleton.mp z] at lt
      exact absurd (Nat.lt_of_lt_of_le lt (Nat.le_of_succ_le hI)) (Nat.lt_irrefl _)
theorem init_list {l : Addr} {its : Array Value} {xs : List Str} (hh : A.handled = none) (hl : s.heap.IsList l its) (hi : StrsAre its.toList xs) (hb : xs.length + 1 < scanBound) (Z : PySem.Fin → Shared → Prop) (hZ : ∀ s', Made w s xs s' → Z (.done (.ret .none)) s') :
    wpAny (model P w) A (Builtin.«set.__init__» ⟨[.ref s.heap.objs.size, .ref l], []⟩) Z E { s with heap := s.heap.push (s0 w) } := by
  have hlen : its.size = xs.length := by rw [← strs_len hi, Array.length_toList]
  obtain ⟨ol, hol, hcl, nl, hdl⟩ := hl
  obtain ⟨ocls, odict, odata, oslots⟩ := ol
  simp only at hcl hdl
  subst hcl; subst hdl
  have hT : Shared.TypeIs { s with heap := s.heap.push (s0 w) } (.ref s.heap.objs.size) "set" := ⟨_, Heap.get?_push_size _ rfl, rfl⟩
  have hS : (s.heap.push (s0 w)).get? s.heap.objs.size = some (s0 w) := Heap.get?_push_size _ rfl
  have hol' : (s.heap.push (s0 w)).get? l = some { cls := .type "list", dict := odict, data := .seq its nl, slots := oslots } := Heap.get?_push_of_some _ hol
  have f1 := PySem.F.sub_list_set
  have f2 := PySem.F.sub_list_frozenset
  have f3 : (Value.type "list" == Value.type "dict") = false := by decide
  have hl1 : (s.heap.push (s0 w)).IsList l its := ⟨_, hol', rfl, nl, rfl⟩
  have lt : l < s.heap.objs.size := Heap.lt_size hol
  have sz : (s.heap.push (s0 w)).objs.size = s.heap.objs.size + 1 := Heap.size_push ..
  unfold Builtin.«set.__init__» noKeywords Builtin.Frozenset.updateFrom
  generalize hPI : pyIter = PI
  wp_walk
  subst hPI
  refine wpAny_pyIter_list hl1 ?_
  refine wpAny_bind (wpAny_runValue ?_)
  have hne : l ≠ (s.heap.push (s0 w)).objs.size := by rw [sz]; exact Nat.ne_of_lt (Nat.lt_succ_of_lt lt)
  have hSf : s.heap.objs.size ∉ [(s.heap.push (s0 w)).objs.size, l] := by
    rw [sz]
    simp only [List.mem_cons, List.mem_singleton, List.not_mem_nil, or_false, not_or]
    exact ⟨Nat.ne_of_lt (Nat.lt_succ_self _), Nat.ne_of_gt lt⟩
  refine update_loop ((Walks.list (A := A.in1) (by simp [hh]) _ l hne its).toS) s.heap.objs.size hSf xs hlen hb (fun i v hv => strs_at hi i v (by rw [Array.getElem?_toList]; exact hv)) its.size 0 _ (by omega)
    ⟨⟨_, Heap.get?_push_size _ rfl, rfl, rfl⟩, hl1.push _⟩ (fresh_at (Heap.get?_push_of_some _ hS)) fun s' hm q => ?_
  refine wpAny_pure ?_
  show wpAny _ _ (ret Value.none) _ _ _
  exact wpAny_pure (ends (Nat.le_of_eq sz.symm) (fun b o e => Heap.get?_push_of_some _ (Heap.get?_push_of_some _ e)) hm q hZ)
theorem init_tuple {l : Addr} {its : Array Value} {xs : List Str} (hh : A.handled = none) (hl : s.heap.IsTuple l its) (hi : StrsAre its.toList xs) (hb : xs.length + 1 < scanBound) (Z : PySem.Fin → Shared → Prop) (hZ : ∀ s', Made w s xs s' → Z (.done (.ret .none)) s') :
    wpAny (model P w) A (Builtin.«set.__init__» ⟨[.ref s.heap.objs.size, .ref l], []⟩) Z E { s with heap := s.heap.push (s0 w) } := by
  have hlen : its.size = xs.length := by rw [← strs_len hi, Array.length_toList]
  obtain ⟨ol, hol, hcl, nl, hdl⟩ := hl
  obtain ⟨ocls, odict, odata, oslots⟩ := ol
  simp only at hcl hdl
  subst hcl; subst hdl
  have hT : Shared.TypeIs { s with heap := s.heap.push (s0 w) } (.ref s.heap.objs.size) "set" := ⟨_, Heap.get?_push_size _ rfl, rfl⟩
  have hS : (s.heap.push (s0 w)).get? s.heap.objs.size = some (s0 w) := Heap.get?_push_size _ rfl
  have hol' : (s.heap.push (s0 w)).get? l = some { cls := .type "tuple", dict := odict, data := .seq its nl, slots := oslots } := Heap.get?_push_of_some _ hol
  have f1 := F.sub_tuple_set
  have f2 := F.sub_tuple_frozenset
  have f3 : (Value.type "tuple" == Value.type "dict") = false := by decide
  have hl1 : (s.heap.push (s0 w)).IsTuple l its := ⟨_, hol', rfl, nl, rfl⟩
  have lt : l < s.heap.objs.size := Heap.lt_size hol
  have sz : (s.heap.push (s0 w)).objs.size = s.heap.objs.size + 1 := Heap.size_push ..
  unfold Builtin.«set.__init__» noKeywords Builtin.Frozenset.updateFrom
  generalize hPI : pyIter = PI
  wp_walk
  subst hPI
  refine wpAny_pyIter_tuple hl1 ?_
  refine wpAny_bind (wpAny_runValue ?_)
  have hne : l ≠ (s.heap.push (s0 w)).objs.size := by rw [sz]; exact Nat.ne_of_lt (Nat.lt_succ_of_lt lt)
  have hSf : s.heap.objs.size ∉ [(s.heap.push (s0 w)).objs.size, l] := by
    rw [sz]
    simp only [List.mem_cons, List.mem_singleton, List.not_mem_nil, or_false, not_or]
    exact ⟨Nat.ne_of_lt (Nat.lt_succ_self _), Nat.ne_of_gt lt⟩
  refine update_loop ((Walks.tuple (A := A.in1) (by simp [hh]) _ l hne its).toS) s.heap.objs.size hSf xs hlen hb (fun i v hv => strs_at hi i v (by rw [Array.getElem?_toList]; exact hv)) its.size 0 _ (by omega)
    ⟨⟨_, Heap.get?_push_size _ rfl, rfl, rfl⟩, hl1.push _⟩ (fresh_at (Heap.get?_push_of_some _ hS)) fun s' hm q => ?_
  refine wpAny_pure ?_
  show wpAny _ _ (ret Value.none) _ _ _
  exact wpAny_pure (ends (Nat.le_of_eq sz.symm) (fun b o e => Heap.get?_push_of_some _ (Heap.get?_push_of_some _ e)) hm q hZ)
end
end Tx

set_option Elab.async false
set_option linter.all false
set_option maxRecDepth 100000
set_option maxHeartbeats 4000000
namespace Tx
open PySem PySem.Spec PyProof.Rows L2
/-! ### the order of texts -/
def Lt (x y : Str) : Prop := x.cps.toList < y.cps.toList
def Le (x y : Str) : Prop := ¬ y.cps.toList < x.cps.toList
theorem le_trans {x y z : Str} (h : Le x y) (k : Le y z) : Le x z := fun q => by
  have h' : x.cps.toList ≤ y.cps.toList := List.not_lt.mp h
  rcases List.le_iff_lt_or_eq.mp h' with e | e
  · exact k (List.lt_trans q e)
  · exact k (e ▸ q)
theorem rising_all : ∀ (l : List Str) (p : Str), risingS p l = true → (∀ y ∈ l, Le p y) ∧ l.Pairwise Le
  | [], _, _ => ⟨fun y hy => (by cases hy), .nil⟩
  | x :: r, p, h => by
    have h' : (!ltCps x.cps.toList p.cps.toList && risingS x r) = true := h
    rw [Bool.and_eq_true] at h'
    obtain ⟨h1, h2⟩ := h'
    obtain ⟨h3, h4⟩ := rising_all r x h2
    have h5 : Le p x := fun q => by
      rw [ltCps_eq, decide_eq_true q] at h1
      cases h1
    exact ⟨fun y hy => (List.mem_cons.mp hy).elim (fun z => z ▸ h5) fun z => le_trans h5 (h3 y z), List.pairwise_cons.mpr ⟨h3, h4⟩⟩
theorem sorted_all : ∀ (l : List Str), sortedS l = true → l.Pairwise Le
  | [], _ => .nil
  | x :: r, h => List.pairwise_cons.mpr (rising_all r x h)
theorem str_ext {x y : Str} (h : x.cps.toList = y.cps.toList) : x = y := by
  cases x; cases y
  simp only at h
  exact congrArg Str.mk (Array.ext' h)
theorem up_of : ∀ {l : List Str}, l.Pairwise Le → l.Nodup → l.Pairwise Lt
  | [], _, _ => .nil
  | x :: r, h, d => by
    obtain ⟨h1, h2⟩ := List.pairwise_cons.mp h
    obtain ⟨d1, d2⟩ := List.nodup_cons.mp d
    refine List.pairwise_cons.mpr ⟨fun y hy => ?_, up_of h2 d2⟩
    have q : x.cps.toList ≤ y.cps.toList := List.not_lt.mp (h1 y hy)
    rcases List.le_iff_lt_or_eq.mp q with z | z
    · exact z
    · exact absurd (str_ext z ▸ hy) d1
/-- rising lists of the same members are one -/
theorem up_one : ∀ {l m : List Str}, l.Pairwise Lt → m.Pairwise Lt → (∀ x, x ∈ l ↔ x ∈ m) → l = m
  | [], [], _, _, _ => rfl
  | [], y :: m, _, _, h => by simpa using (h y).mpr List.mem_cons_self
  | x :: l, [], _, _, h => by simpa using (h x).mp List.mem_cons_self
  | x :: l, y :: m, a, b, h => by
    obtain ⟨a1, a2⟩ := List.pairwise_cons.mp a
    obtain ⟨b1, b2⟩ := List.pairwise_cons.mp b
    have irr : ∀ z : Str, ¬ Lt z z := fun z q => List.lt_irrefl _ q
    have asy : ∀ z u : Str, Lt z u → Lt u z → False := fun z u p q => irr z (List.lt_trans p q)
    have e : x = y := by
      rcases List.mem_cons.mp ((h x).mp List.mem_cons_self) with p | p
      · exact p
      · rcases List.mem_cons.mp ((h y).mpr List.mem_cons_self) with q | q
        · exact q.symm
        · exact (asy _ _ (a1 y q) (b1 x p)).elim
    subst e
    refine congrArg _ (up_one a2 b2 fun z => ⟨fun hz => ?_, fun hz => ?_⟩)
    · rcases List.mem_cons.mp ((h z).mp (List.mem_cons_of_mem _ hz)) with p | p
      · exact absurd (p ▸ a1 z hz) (irr _)
      · exact p
    · rcases List.mem_cons.mp ((h z).mpr (List.mem_cons_of_mem _ hz)) with p | p
      · exact absurd (p ▸ b1 z hz) (irr _)
      · exact p

section
variable {P : Program} {w : World} {A : Around} {E : Value → Shared → Prop} {s : Shared} {a : Addr}
theorem strs_map : ∀ (l : List (Int × Value)), (∀ e ∈ l, GoodT w e) → StrsAre (l.map (·.2)) (l.map txt)
  | [], _ => .nil
  | e :: l, h => by
    obtain ⟨x, u, e1, _⟩ := h e List.mem_cons_self
    have q : txt e = x := by unfold txt; rw [e1]
    show StrsAre (e.2 :: l.map (·.2)) (txt e :: l.map txt)
    rw [e1, q]
    exact .cons x u (strs_map l fun b hb => h b (List.mem_cons_of_mem _ hb))
theorem strs_perm {vs us : List Value} {xs : List Str} (p : vs.Perm us) (h : StrsAre us xs) : ∃ ys, StrsAre vs ys ∧ ys.Perm xs := by
  have m := p.map strOf
  refine ⟨vs.map strOf, ?_, ?_⟩
  · exact strsAre_map vs fun v hv => h.all v (p.mem_iff.mp hv)
  · rw [h.strs] at m
    exact m
/-- sorted(a set of texts) -/
theorem call_sorted {l : List Str} {Q : Value → Shared → Prop} (R : TSet w s.heap a l) (hh : A.handled = none)
    (hQ : ∀ s' p (out : Array Value) (c : Nat) (ys : List Str), (∀ b o, s.heap.get? b = some o → s'.heap.get? b = some o) → s'.gens = s.gens → s'.os = s.os → s.heap.objs.size ≤ p →
      s'.heap.get? p = some (seqObj "list" out c) → StrsAre out.toList ys → ys.Pairwise Lt → (∀ x, x ∈ ys ↔ x ∈ l) → ys.length < scanBound → ys.length ≤ l.length → Q (.ref p) s') :
    wpAny (model P w) A (call (.builtin "sorted") [.ref a]) Q E s := by
  obtain ⟨o, es, ep, t, ho, r⟩ := R
  refine Calls.call_function_entry kind_sorted plain_sorted entry_sorted (args_sorted1 _) ?_
  unfold Builtin.«sorted»
  refine wpAny_bind (m := checkCount "sorted" 1 1 _) (wpAny_pure ?_)
  refine wpAny_bind (collect_set (A := A.in1) hh ⟨o, ho, r.exact_.1, r.data⟩ r.fits r.size r.ris r.led fun s1 vs k1 hz g1 o1 pm => ?_)
  obtain ⟨xs, hx, px⟩ := strs_perm pm (strs_map es.toList r.good)
  have hvl : vs.length = es.size := by rw [pm.length_eq, List.length_map, Array.length_toList]
  have few : vs.length ≤ sizeLine := by rw [hvl]; exact fits_of_scanBound r.size
  refine wpAny_bind (wpAny_newList ?_ few)
  have hoL : (s1.heap.push (seqObj "list" vs.toArray 0)).get? s1.heap.objs.size = some (seqObj "list" vs.toArray 0) := Heap.get?_push_size _ rfl
  refine wpAny_bind (wpAny_holding (wpAny_call_entry slot_list_sort ⟨_, hoL, rfl⟩ entry_list_sort
    (list_sort_treeKAny strKind_oneLt hoL hx.keysOf (fun v1 v2 rest e => keyKind_strs (by rw [← e]; exact hx)) few fun st hp hs => ⟨_, rfl, ?_⟩) (args_list_sort _)))
  obtain ⟨ys, b1, b2, b3⟩ := sorted_out_str hx hp hs
  obtain ⟨c, hc⟩ := sortedHeap_at (vs := vs) (out := (arrOf st).map (·.2)) hoL
  have pk : ys.Perm (es.toList.map txt) := b2.trans px
  refine wpAny_pure ⟨_, rfl, hQ _ s1.heap.objs.size _ c ys (fun b u e => ?_) g1 o1 hz hc b1 (up_of (sorted_all ys b3) (pk.nodup_iff.mpr r.once)) (fun x => by rw [pk.mem_iff, ← r.mem x]) ?_ ?_⟩
  · have q := k1 b u e
    have lt := Heap.lt_size q
    show (sortedHeap (s1.heap.push (seqObj "list" vs.toArray 0)) s1.heap.objs.size vs _).get? b = some u
    rw [sortedHeap_old (Nat.ne_of_lt lt) (by rw [size_push']; exact Nat.lt_succ_of_lt lt)]
    exact Heap.get?_push_of_some _ q
  · rw [pk.length_eq, List.length_map, Array.length_toList]
    exact r.size
  · rw [pk.length_eq, List.length_map, Array.length_toList]
    exact r.few
end
end Tx

set_option Elab.async false
set_option linter.all false
set_option maxRecDepth 100000
set_option maxHeartbeats 4000000
namespace Tx
open PySem PySem.Spec PyProof.Rows L2
/-- the set of the texts l, as a tracked thing -/
def TSO (w : World) (a : Addr) (l : List Str) : HO := .ext fun h => TSet w h a l
theorem tso_ok {w : World} {P : Program} {H : Hp} {h : Heap} {a : Addr} {l : List Str} (R : TSet w h a l) : ObjOk P w H h a (TSO w a l) :=
  ⟨R, (let ⟨o, _, _, _, ho, _⟩ := R; ⟨o, ho⟩), fun _ _ p k => TSet.at p k⟩
section
variable {X : Cx}
theorem tso_get {pins : List (Addr × Obj)} {σ : L2.St} {H : Hp} {s : Shared} {a : Addr} {l : List Str} (I : Inv X pins σ H s) (ha : H a = some (TSO X.w a l)) : TSet X.w s.heap a l := (I.hok a _ ha).1
/-- set(a list or a tuple of texts) -/
def rSetTx (K : PySem.W.Frag) (w : World) : List V → Hp → VK → Prop := fun vs H Q => ∃ (p : Addr) (xs : List Str), vs = [.ref p] ∧ (SqL K H p (xs.map V.str) ∨ SqT K H p (xs.map V.str)) ∧ xs.length + 1 < scanBound ∧
  ∀ a, H a = none → Q (.ref a) (upd H a (TSO w a xs))
theorem cr_setTx (hc : X.calm = true) : CallR X (.type "set") (rSetTx X.K X.w) := by
  intro pins s σ H vs us Q I r h
  obtain ⟨p, xs, rfl, hp, hb, q⟩ := h
  rw [Vals.ref1 r]
  have fin : ∀ s', Made X.w s xs s' → EP X pins σ Q (.ref s.heap.objs.size) s' := fun s' ⟨h', tk, e, hT, k⟩ => by
    subst e
    exact ⟨.ref _, _, I.laid (t' := tk) k (Nat.le_refl _) (tso_ok hT), rfl, q _ (I.hok.fresh (Nat.le_refl _))⟩
  have hh := I.ok.hd hc
  rcases hp with hp | hp
  · obtain ⟨its, rv, pl, hz⟩ := I.list hp
    have st := rv.strs
    obtain ⟨o, ho, hq⟩ := pl.isList
    exact call_set ⟨o, ho⟩ (fun Z hZ => init_list (by simpa using hh) pl.isList (by simpa using st) hb Z hZ) fin
  · obtain ⟨its, rv, pl, hz⟩ := I.tuple hp
    have st := rv.strs
    obtain ⟨o, ho, hq⟩ := id pl
    exact call_set ⟨o, ho⟩ (fun Z hZ => init_tuple (by simpa using hh) pl (by simpa using st) hb Z hZ) fin
/-- sorted(a set of texts) -/
def rSortTx (w : World) : List V → Hp → VK → Prop := fun vs H Q => ∃ (a : Addr) (l : List Str), vs = [.ref a] ∧ H a = some (TSO w a l) ∧
  ∀ (ys : List Str) (p : Addr), ys.Pairwise Lt → (∀ x, x ∈ ys ↔ x ∈ l) → ys.length ≤ l.length → H p = none → Q (.ref p) (upd H p (.lst (ys.map V.str)))
theorem cr_sortTx (hc : X.calm = true) : CallR X (.builtin "sorted") (rSortTx X.w) := by
  intro pins s σ H vs us Q I r h
  obtain ⟨a, l, rfl, ha, q⟩ := h
  rw [Vals.ref1 r]
  refine call_sorted (tso_get I ha) (I.ok.hd hc) fun s' p out c ys k g o hp hg hi hs hm hn hn' => ?_
  have hz : (ys.map V.str).length ≤ sizeLine := by
    rw [List.length_map]
    exact fits_of_scanBound hn
  have no : H p = none := I.hok.fresh hp
  have J : Inv X pins σ (upd H p (.lst (ys.map V.str))) { s with heap := s'.heap, gens := s'.gens, drawn := s'.drawn, toks := s'.toks } :=
    I.call (ch := []) (Un.laid k hp no) (I.hok.laid k hp ⟨hz, out.toList, c, vals_of_strs hi, hg⟩) (by rw [g]; exact I.bare) (fun _ z => nomatch z)
  have e : s' = { s with heap := s'.heap, gens := s'.gens, drawn := s'.drawn, toks := s'.toks } := by
    cases s'
    cases s
    cases o
    rfl
  rw [e]
  exact ⟨.ref p, _, J, rfl, q ys p hs hm hn' no⟩
/-- xs.extend(a list or a tuple) -/
def rExt (K : PySem.W.Frag) : V → List V → Hp → VK → Prop := fun x vs H Q => ∃ l b xs zs, x = .ref l ∧ vs = [.ref b] ∧ H l = some (.lst xs) ∧ (SqL K H b zs ∨ SqT K H b zs) ∧ xs.length + zs.length ≤ sizeLine ∧ Q .non (upd H l (.lst (xs ++ zs)))
theorem mt_ext : MtM X "list.extend" (rExt X.K) := by
  intro pins s σ H x vs v us Q I rx rv h
  obtain ⟨l, b, xs, zs, rfl, rfl, hH, hB, hz, q⟩ := h
  cases rx
  obtain ⟨u, rfl, ru⟩ := rv.one
  cases ru
  obtain ⟨z, its, n, r, hl, e⟩ := I.lstM hH
  have main : ∀ (T : String) (its2 : List Value) (o : Obj) (n2 : Nat), (T = "list" ∨ T = "tuple") → Vals zs its2 → s.heap.get? b = some o → o.cls = .type T → o.data = .seq its2.toArray n2 →
      wpAny (model X.prog X.w) X.A (call (.builtin "list.extend") [.ref l, .ref b]) (EP X pins σ Q) X.xe s := fun T its2 o n2 hT r2 ho hcl hd => by
    have hl2 := r2.length
    have few : its.toArray.size + its2.toArray.size ≤ sizeLine := by rw [List.size_toArray, List.size_toArray]; omega
    have long : ¬ (!its.toArray.isEmpty && Builtin.List.listTooLong (its.toArray.size + its2.toArray.size)) = true := by
      rw [notLongL few, Bool.and_false]
      exact Bool.false_ne_true
    refine wpAny_call_entry PySem.F.slot_list_extend ⟨_, e, rfl⟩ PySem.F.entry_list_extend ?_ (PySem.F.args_list_extend_2 _ _)
    show wpAny _ _ (Builtin.List.listExtendWith (.ref l) (.ref b) .none) _ _ s
    unfold Builtin.List.listExtendWith
    refine wpAny_bind (wpAny_typeOf ⟨o, ho, hcl⟩ ?_)
    have h1 : (Builtin.List.listSameRef (.ref l) (.ref b) || Value.type T == Value.type "list" || Value.type T == Value.type "tuple") = true := by
      rcases hT with rfl | rfl <;> simp
    simp only [h1, if_true]
    unfold Builtin.List.listItems
    refine wpAny_bind (wpAny_bind (wpAny_seqItems ho hd (wpAny_pure ?_)))
    refine wpAny_bind (wpAny_bind (wpAny_seqItems e rfl (wpAny_pure ?_)))
    rw [if_neg long]
    show wpAny _ _ (updateSeq l (· ++ its2.toArray) >>= fun _ => ret Value.none) _ _ s
    refine wpAny_bind (wpAny_updateSeq e rfl ?_ (hz := by rw [List.size_toArray]; omega) (_hz' := by rw [Array.size_append]; omega))
    refine wpAny_pure ⟨_, rfl, .non, _, I.lset (t' := s.toks) (its' := its ++ its2) hH e (by simp) (r.append r2) (by rw [List.length_append]; exact hz), rfl, q⟩
  rcases hB with hB | hB
  · obtain ⟨its2, r2, pl, _⟩ := I.list hB
    obtain ⟨o, ho, hcl, n2, hd⟩ := pl.isList
    exact main "list" its2 o n2 (.inl rfl) r2 ho hcl hd
  · obtain ⟨its2, r2, ⟨o, ho, hcl, n2, hd⟩, _⟩ := I.tuple hB
    exact main "tuple" its2 o n2 (.inr rfl) r2 ho hcl hd
end
end Tx

set_option Elab.async false
set_option linter.all false
set_option maxRecDepth 100000
set_option maxHeartbeats 4000000
/-! {elt for a in .. for b in ..}, elt a text -/
namespace Tx
open PySem PySem.Spec PyProof.Rows L2
abbrev two (elt t0 i0 t1 i1 : Expr) (sc : Scope) (pos : Pos) : Expr := .SetComp elt [⟨t0, i0, [], 0⟩, ⟨t1, i1, [], 0⟩] sc pos
theorem turn_out (elt t0 i0 t1 i1 : Expr) (sc : Scope) (pos : Pos) (it acc : Value) (env : Env) :
    compTurn (two elt t0 i0 t1 i1 sc pos) 0 it acc env = (do
      standAt i0.pos
      match ← pyNext it with
      | none => pure (.done .next)
      | some v =>
        letOwnedTupleGo t0 it v
        assign t0 env v
        let x ← eval i1 env
        standAt i1.pos
        let x ← foldedSetIterable i1 env x
        let _ ← runOwn (.compStart (two elt t0 i0 t1 i1 sc pos) 1 (← holding [x] (pyIter x)) acc env) env
        again (.compLoop (two elt t0 i0 t1 i1 sc pos) 0 it acc env)) := by rfl
theorem turn_in (elt t0 i0 t1 i1 : Expr) (sc : Scope) (pos : Pos) (it acc : Value) (env : Env) :
    compTurn (two elt t0 i0 t1 i1 sc pos) 1 it acc env = (do
      standAt i1.pos
      match ← pyNext it with
      | none => pure (.done .next)
      | some v =>
        letOwnedTupleGo t1 it v
        assign t1 env v
        (do let v ← eval elt env; standAt elt.pos; let _ ← call (.builtin "set.add") [acc, v])
        again (.compLoop (two elt t0 i0 t1 i1 sc pos) 1 it acc env)) := by rfl
section
variable {prog : Program} {w : World} {A : Around} {R : Result → Shared → Prop} {s : Shared} {elt t0 i0 t1 i1 : Expr} {sc : Scope} {pos : Pos} {it acc : Value} {env : Env}
/-- the first clause's loop -/
theorem loop_out (hs : ∀ x, foldedSetIterable i1 env x = pure x) (I : Nat → Shared → Prop)
    (turn : ∀ n s, I n s → wpAny (model prog w) A (pyNext it) (fun r s1 => match r with
      | none => R (.ok .next) s1
      | some v => wpAny (model prog w) A (letOwnedTupleGo t0 it v) (fun _ s2 => wpAny (model prog w) A (assign t0 env v) (fun _ s3 =>
          wpAny (model prog w) A (eval i1 env) (fun x s4 => wpAny (model prog w) A (pyIter x) (fun j s5 =>
              codeAny (model prog w) A (.compStart (two elt t0 i0 t1 i1 sc pos) 1 j acc env) (fun r s' => match r with
                | .ok _ => ∃ m, m < n ∧ I m s'
                | .error _ => False) s5) (notedBy (model prog w) A env fun e s' => R (.error e) s') s4) (notedBy (model prog w) A env fun e s' => R (.error e) s') s3)
            (notedBy (model prog w) A env fun e s' => R (.error e) s') s2) (notedBy (model prog w) A env fun e s' => R (.error e) s') s1) (notedBy (model prog w) A env fun e s' => R (.error e) s') s)
    (n : Nat) (h : I n s) : codeAny (model prog w) A (.compLoop (two elt t0 i0 t1 i1 sc pos) 0 it acc env) R s := by
  refine codeAny_loop rfl I (fun n s hI => ?_) n h
  show wpAny _ A ((compTurn (two elt t0 i0 t1 i1 sc pos) 0 it acc env).onRaise (fun x => do noteFrame x env; theTreesLotGoes x)) _ _ s
  refine wpAny_noted ?_
  rw [turn_out]
  refine wpAny_bind (wpAny_standAt (wpAny_bind (wpAny_mono (turn n s hI) (fun r s1 h1 => ?_) fun _ _ z => z)))
  cases r with
  | none => exact wpAny_pure h1
  | some v =>
    refine wpAny_bind (wpAny_mono h1 (fun _ s2 h2 => ?_) fun _ _ z => z)
    refine wpAny_bind (wpAny_mono h2 (fun _ s3 h3 => ?_) fun _ _ z => z)
    refine wpAny_bind (wpAny_mono h3 (fun x s4 h4 => ?_) fun _ _ z => z)
    refine wpAny_bind (wpAny_standAt (wpAny_bind (wpAny_of_eq (hs x) (wpAny_bind (wpAny_holding (wpAny_mono h4 (fun j s5 h5 => ?_) fun _ _ z => z))))))
    refine wpAny_bind (wpAny_runOwn ?_)
    rw [Around.mark_none]
    refine codeAny_mono h5 fun r s' hr => ?_
    cases r with
    | error e => exact hr.elim
    | ok f =>
      first
        | exact wpAny_pure ⟨rfl, hr⟩
        | exact wpAny_bind (wpAny_pure (wpAny_pure ⟨rfl, hr⟩))
/-- the second clause's loop -/
theorem loop_in (I : Nat → Shared → Prop)
    (turn : ∀ n s, I n s → wpAny (model prog w) A (pyNext it) (fun r s1 => match r with
      | none => R (.ok .next) s1
      | some v => wpAny (model prog w) A (letOwnedTupleGo t1 it v) (fun _ s2 => wpAny (model prog w) A (assign t1 env v) (fun _ s3 =>
          wpAny (model prog w) A (eval elt env) (fun x s4 => wpAny (model prog w) A (call (.builtin "set.add") [acc, x]) (fun _ s5 => ∃ m, m < n ∧ I m s5) (notedBy (model prog w) A env fun e s' => R (.error e) s') s4)
            (notedBy (model prog w) A env fun e s' => R (.error e) s') s3) (notedBy (model prog w) A env fun e s' => R (.error e) s') s2) (notedBy (model prog w) A env fun e s' => R (.error e) s') s1)
        (notedBy (model prog w) A env fun e s' => R (.error e) s') s)
    (n : Nat) (h : I n s) : codeAny (model prog w) A (.compLoop (two elt t0 i0 t1 i1 sc pos) 1 it acc env) R s := by
  refine codeAny_loop rfl I (fun n s hI => ?_) n h
  show wpAny _ A ((compTurn (two elt t0 i0 t1 i1 sc pos) 1 it acc env).onRaise (fun x => do noteFrame x env; theTreesLotGoes x)) _ _ s
  refine wpAny_noted ?_
  rw [turn_in]
  refine wpAny_bind (wpAny_standAt (wpAny_bind (wpAny_mono (turn n s hI) (fun r s1 h1 => ?_) fun _ _ z => z)))
  cases r with
  | none => exact wpAny_pure h1
  | some v =>
    refine wpAny_bind (wpAny_mono h1 (fun _ s2 h2 => ?_) fun _ _ z => z)
    refine wpAny_bind (wpAny_mono h2 (fun _ s3 h3 => ?_) fun _ _ z => z)
    exact wpAny_bind (wpAny_bind (wpAny_mono h3 (fun x s4 h4 => wpAny_bind (wpAny_standAt (wpAny_bind (wpAny_mono h4 (fun _ s5 h5 => wpAny_pure (wpAny_pure ⟨rfl, h5⟩)) fun _ _ z => z)))) fun _ _ z => z))
theorem start_in (h0 : codeAny (model prog w) A (.compLoop (two elt t0 i0 t1 i1 sc pos) 1 it acc env) R s)
    (h : wpAny (model prog w) A (pyIter it) (fun j s' => codeAny (model prog w) A (.compLoop (two elt t0 i0 t1 i1 sc pos) 1 j acc env) R s') (notedBy (model prog w) A env fun x s' => R (.error x) s') s) :
    codeAny (model prog w) A (.compStart (two elt t0 i0 t1 i1 sc pos) 1 it acc env) R s := by
  refine codeAny_of_tree ?_
  show wpAny _ _ ((compStart (two elt t0 i0 t1 i1 sc pos) 1 it acc env).onRaise (fun x => do noteFrame x env; standAt theWindowsPlace)) _ _ s
  refine wpAny_notedAt ?_
  unfold compStart
  show wpAny _ _ (ask >>= _) _ _ s
  refine wpAny_bind (wpAny_askSetting (wpAny_ite ?_))
  split
  · first
      | exact wpAny_bind (wpAny_pure (wpAny_pure (And.intro rfl h0)))
      | exact wpAny_pure (And.intro rfl h0)
  · first
      | exact wpAny_bind (wpAny_rule (wpAny_bind (wpAny_standAt (wpAny_bind (wpAny_mono h (fun _ _ z => wpAny_pure (And.intro rfl z)) fun _ _ x => x)))))
      | (refine wpAny_bind (wpAny_rule ?_); show wpAny _ _ (standAt i1.pos >>= _) _ _ s; exact wpAny_bind (wpAny_standAt (wpAny_bind (wpAny_mono h (fun _ _ z => wpAny_pure (And.intro rfl z)) fun _ _ x => x))))
end
end Tx

set_option Elab.async false
set_option linter.all false
set_option maxRecDepth 100000
set_option maxHeartbeats 4000000
namespace Tx
open PySem PySem.Spec PyProof.Rows L2
section
variable {X : Cx}
/-- a text put into a tracked set -/
theorem put_ok {pins : List (Addr × Obj)} {σ : L2.St} {H : Hp} {s : Shared} {E : Value → Shared → Prop} {D : Addr} {l : List Str} {x : Str} {u : Tok} {Q : Value → Shared → Prop} (I : Inv X pins σ H s) (hD : H D = some (TSO X.w D l)) (room : l.length + 1 < scanBound)
    (h : ∀ s', Inv X pins σ (upd H D (TSO X.w D (l ++ [x]))) s' → Q .none s') : wpAny (model X.prog X.w) X.A (call (.builtin "set.add") [.ref D, .str x u]) Q E s := by
  refine call_add (tso_get I hD) room fun h' sb q => ?_
  have he : ∃ u, h'.get? D = some u := let ⟨o, _, _, _, ho, _⟩ := q; ⟨o, ho⟩
  exact h _ (I.write (e := D) (t' := s.toks + 1) (by rw [hD]; trivial) (.inl rfl) (fun b u hb hu => (sb.2 b hb).trans hu) he (tso_ok q))
/-- what {elt for g in wi for g1 in wi1} asks: vs the block's slots, vs1 those of the second target -/
def tSc2 (w : World) (wi : TI) (g : TG) (wi1 : TI) (g1 : TG) (te : TE) (vs vs1 : List Nat) : TE := fun σ H Q => wi σ H fun J H1 => ∀ D, H1 D = none → ∃ W : Nat → Nat → Hp → Prop, (∃ m, W 0 m (upd H1 D (TSO w D []))) ∧ ∀ i m H, W i m H →
  (J.stop i H ∧ Q (.ref D) H) ∨ (J.go i H ∧ ∃ Nx : Hp → Prop, (∀ H', Nx H' → ∃ m', m' < m ∧ W (i + 1) m' H') ∧ ∀ x H', J.yld i H x H' → g x (wipe σ vs) H' fun σ2 H2 => wipe σ2 vs = wipe σ vs ∧
    wi1 σ2 H2 fun J1 H4 => ∃ W1 : Nat → Nat → Hp → Prop, (∃ m, W1 0 m H4) ∧ ∀ j k H, W1 j k H →
      (J1.stop j H ∧ Nx H) ∨ (J1.go j H ∧ ∃ Nx1 : Hp → Prop, (∀ H', Nx1 H' → ∃ k', k' < k ∧ W1 (j + 1) k' H') ∧ ∀ x H', J1.yld j H x H' → g1 x (wipe σ2 vs1) H' fun σ3 H5 => wipe σ3 vs1 = wipe σ2 vs1 ∧
        te σ3 H5 fun y H7 => ∃ t l, y = .str t ∧ H7 D = some (TSO w D l) ∧ l.length + 1 < scanBound ∧ Nx1 (upd H7 D (TSO w D (l ++ [t])))))
theorem pe_sc2 {elt t0 i0 t1 i1 : Expr} {sc : Scope} {own : List (Str × Nat)} {vs1 : List Nat} {pos : Pos} {wi wi1 : TI} {g g1 : TG} {te : TE} (hc : X.calm = true) (hN : X.N.Nodup) (hi : PI X t0 i0 wi) (ok : BlkOk X.N X.env.scope sc own) (hv : ∀ i ∈ vs1, i ∈ own.map (·.2))
    (hg : ∀ (s : Shared) (H : Hp) (C : Addr) (cl : List (Str × Addr)) (fp : List Addr), PG (X.blk s H sc (compEnvC sc cl C X.env) fp) t0 g)
    (hi1 : ∀ (s : Shared) (H : Hp) (C : Addr) (cl : List (Str × Addr)) (fp : List Addr), PI (X.blk s H sc (compEnvC sc cl C X.env) fp) t1 i1 wi1)
    (hg1 : ∀ (s : Shared) (H : Hp) (C : Addr) (cl : List (Str × Addr)) (fp : List Addr), PG (X.blk s H sc (compEnvC sc cl C X.env) fp) t1 g1)
    (he : ∀ (s : Shared) (H : Hp) (C : Addr) (cl : List (Str × Addr)) (fp : List Addr), PE (X.blk s H sc (compEnvC sc cl C X.env) fp) elt te)
    (hs : ∀ x, foldedSetIterable i0 X.env x = pure x := by intro _; rfl) (hs1 : ∀ env x, foldedSetIterable i1 env x = pure x := by intro _ _; rfl) :
    PE X (two elt t0 i0 t1 i1 sc pos) (tSc2 X.w wi g wi1 g1 te (own.map (·.2)) vs1) := by
  refine ⟨fun pins s σ H Q I h => ?_⟩
  rw [show eval (two elt t0 i0 t1 i1 sc pos) X.env = comprehension (two elt t0 i0 t1 i1 sc pos) sc X.env (firstIterPos [⟨t0, i0, [], 0⟩, ⟨t1, i1, [], 0⟩] pos) (newSet (.type "set")) false (eval i0 X.env) none from rfl]
  have frees : ∀ y ∈ sc.names, y.2 = .free → ∃ c, X.env.cells.lookup y.1 = some c := fun y hy e => I.ok.has _ (ok.free y hy e)
  refine wpAny_comprehension_free (use := none) rfl hs (closure_ok frees) ok.kind (fun y hy e => by rw [ok.uniq y hy, e]) (thn (hi.run pins s σ H _ I h) fun _ s1 hx => thn hx fun _ s2 h2 => ?_)
  obtain ⟨it, fp, tn, J, H2, rfl, I2, T, st2, f2, q⟩ := h2
  refine PpSet.newSet_ok (newEnv_comp ?_)
  obtain ⟨D, hD⟩ : ∃ D, s2.heap.objs.size = D := ⟨_, rfl⟩
  rw [hD]
  have hDn : H2 D = none := I2.hok.fresh (Nat.le_of_eq hD)
  obtain ⟨W, ⟨m0, w0⟩, turn⟩ := q D hDn
  obtain ⟨s3, hs3⟩ : ∃ s3 : Shared, ({ s2 with heap := s2.heap.push (s0 X.w) } : Shared) = s3 := ⟨_, rfl⟩
  have h3 : s3.heap = s2.heap.push (s0 X.w) := by rw [← hs3]
  have I3 : Inv X pins σ (upd H2 D (TSO X.w D [])) s3 := by
    rw [← hs3]
    refine I2.laid (t' := s2.toks) (fun b o e => Heap.get?_push_of_some _ e) (Nat.le_of_eq hD) (tso_ok (fresh_at ?_))
    rw [← hD]
    exact Heap.get?_push_size _ rfl
  have f3 : ∀ b ∈ fp, FpOk X pins (upd H2 D (TSO X.w D [])) b ∧ b < s3.heap.objs.size := fun b hb => by
    obtain ⟨o, eo, _⟩ := T.obj _ _ st2 b hb
    have lt : b < s2.heap.objs.size := Heap.lt_size eo
    refine ⟨⟨?_, (f2 b hb).2⟩, by rw [h3, Heap.size_push]; exact Nat.lt_succ_of_lt lt⟩
    rw [upd_ne (by rw [← hD]; exact Nat.ne_of_lt lt)]
    exact (f2 b hb).1
  have st3 : tn 0 s3.heap := T.keep _ _ _ st2 fun b _ o e => by rw [h3]; exact Heap.get?_push_of_some _ e
  have I4 := block_start I3 ok hN f3
  show codeAny _ _ (.compStart (two elt t0 i0 t1 i1 sc pos) 0 (.ref it) (.ref D) _) (compPost (model X.prog X.w) X.A X.xe none (EP X pins σ Q) (.ref D) _) _
  rw [hs3]
  have pg := hg s3 (upd H2 D (TSO X.w D [])) s3.heap.objs.size (cellsFrom (s3.heap.objs.size + 1) sc.names (cloFrom X.env.cells sc.names [])) fp
  have pe := he s3 (upd H2 D (TSO X.w D [])) s3.heap.objs.size (cellsFrom (s3.heap.objs.size + 1) sc.names (cloFrom X.env.cells sc.names [])) fp
  have pi1 := hi1 s3 (upd H2 D (TSO X.w D [])) s3.heap.objs.size (cellsFrom (s3.heap.objs.size + 1) sc.names (cloFrom X.env.cells sc.names [])) fp
  have pg1 := hg1 s3 (upd H2 D (TSO X.w D [])) s3.heap.objs.size (cellsFrom (s3.heap.objs.size + 1) sc.names (cloFrom X.env.cells sc.names [])) fp
  have none3 : ∀ b ∈ fp, (upd H2 D (TSO X.w D [])) b = none := fun b hb => (f3 b hb).1.1
  show codeAny _ _ (.compStart (two elt t0 i0 t1 i1 sc pos) 0 (.ref it) (.ref D) (compEnvC sc (cellsFrom (s3.heap.objs.size + 1) sc.names (cloFrom X.env.cells sc.names [])) s3.heap.objs.size X.env))
    (compPost (model X.prog X.w) X.A X.xe none (EP X pins σ Q) (.ref D) s3.heap.objs.size) { s3 with heap := pushCells (s3.heap.push { cls := .type "dict", data := .dict #[] }) sc.names }
  generalize hce : compEnvC sc (cellsFrom (s3.heap.objs.size + 1) sc.names (cloFrom X.env.cells sc.names [])) s3.heap.objs.size X.env = ce at I4 pg pe pi1 pg1 ⊢
  have cL : ce.locals = s3.heap.objs.size := by subst hce; rfl
  generalize hH3 : upd H2 D (TSO X.w D []) = H3 at I3 I4 pg pe pi1 pg1 w0 none3 f3
  generalize hs4 : ({ s3 with heap := pushCells (s3.heap.push { cls := .type "dict", data := .dict #[] }) sc.names } : Shared) = s4 at I4 ⊢
  have st4 : tn 0 s4.heap := T.keep _ _ _ st3 fun b _ o e => by rw [← hs4]; exact pushCells_keeps _ _ _ _ (Heap.get?_push_of_some _ e)
  let B := X.blk s3 H3 sc ce fp
  let σ0 := wipe σ (own.map (·.2))
  let Goal : Nat → Shared → Prop := fun n s' => ∃ i H', Inv B [] σ0 H' s' ∧ tn i s'.heap ∧ (∀ b ∈ fp, H' b = none) ∧ W i n H'
  have stat : ∀ {σ' : L2.St} {H' : Hp} {s' : Shared}, Inv B [] σ' H' s' → (∀ b ∈ fp, H' b = none) → ∀ b ∈ fp, FpOk B [] H' b := fun {σ' H' s'} I' hn b hb =>
    ⟨hn b hb, (I'.ok.exf b hb).1, I'.ok.exfs b hb, .inl hb, fun x c e => (I'.ok.exf b hb).2 x c e, fun p hp => absurd (show p ∈ ([] : List (Addr × Obj)) ++ [] from hp) (by simp)⟩
  have loop : codeAny (model X.prog X.w) X.A (.compLoop (two elt t0 i0 t1 i1 sc pos) 0 (.ref it) (.ref D) ce) (compPost (model X.prog X.w) X.A X.xe none (EP X pins σ Q) (.ref D) s3.heap.objs.size) s4 := by
    refine loop_out (hs1 ce) Goal ?_ m0 ⟨0, H3, I4, st4, none3, w0⟩
    rintro n s5 ⟨i, H5, I5, st5, n5, w5⟩
    rcases turn i n H5 w5 with ⟨stop, qq⟩ | ⟨go, Nx, hNx, step⟩
    · refine thnF (T.done B rfl rfl rfl hc i [] s5 _ H5 (fun _ _ => False) I5 (stat I5 n5) st5 stop) fun r s6 ⟨hr, I6⟩ => ?_
      subst hr
      have I7 : Inv X pins σ H5 s6 := I3.call' (ch := fp) I6.os I6.base I6.hok I6.bare fun b hb => ⟨(f3 b hb).1.2.2.2.1, (f3 b hb).1.2.1, (f3 b hb).1.2.2.2.2.1, (f3 b hb).1.2.2.2.2.2⟩
      have noC : H5 s3.heap.objs.size = none := by
        have z : H5 ce.locals = none := I6.free
        rwa [cL] at z
      obtain ⟨mm, hn, _⟩ := I6.loc
      have hn : s6.heap.Ns ce.locals mm := hn
      rw [cL] at hn
      obtain ⟨g0, g1', g2, g3, g4, g5⟩ := I3.fpOk (Nat.le_refl _) noC
      exact ⟨mm, hn, fun h'' sb => ⟨.ref D, H5, I7.turned (t' := s6.toks) (fun b o hb e => (sb.2 b hb).trans e) g0 g1' g3 g4 g5, rfl, qq⟩⟩
    · refine thnF (T.item B rfl rfl rfl hc i [] s5 _ H5 (fun _ _ => False) I5 (stat I5 n5) st5 go) fun r s6 ⟨u, hr, h6⟩ => ?_
      subst hr
      refine thnF h6 fun _ s7 ⟨x, H7, I7, r7, y7, st7, n7⟩ => ?_
      refine thnF (pg.run _ s7 _ H7 x u _ (I7.pinned (stat I7 n7) (T.obj _ _ st7)) r7 (step x H7 y7)) fun _ s8 ⟨σ8, H8, I8, hw8, q8⟩ => ?_
      have back : ∀ {σ9 : L2.St} {s' : Shared} {H' : Hp}, Inv B ([] ++ pinsAt fp s7.heap) σ9 H' s' → σ0.length = σ9.length → (∀ (j : Nat) v, σ0[j]? = some (some v) → σ9[j]? = some (some v)) → Nx H' → ∃ m, m < n ∧ Goal m s' := fun {σ9 s' H'} I' hl hk nx => by
        obtain ⟨m', hm, w'⟩ := hNx H' nx
        have still : ∀ b ∈ fp, ∀ o, s7.heap.get? b = some o → s'.heap.get? b = some o ∧ H' b = none := fun b hb o e =>
          let z := I'.pin (b, o) (List.mem_append_right _ (List.mem_append_right _ (mem_pinsAt hb e)))
          ⟨z.1, z.2.1⟩
        refine ⟨m', hm, i + 1, H', (I'.unpinned (pins := [])).weak hl hk, T.keep _ _ _ st7 fun b hb o e => (still b hb o e).1, fun b hb => ?_, w'⟩
        obtain ⟨o, e, _⟩ := T.obj _ _ st7 b hb
        exact (still b hb o e).2
      have l8 : σ0.length = σ8.length := by rw [← wipe_length σ8 (own.map (·.2)), hw8]
      have k9 : ∀ (j : Nat) v, σ0[j]? = some (some v) → (wipe σ8 vs1)[j]? = some (some v) := fun j v e => by
        have e' : (wipe σ8 (own.map (·.2)))[j]? = some (some v) := by rw [hw8]; exact e
        obtain ⟨e1, e2⟩ := wipe_some e'
        rw [wipe_out fun z => e2 (hv j z)]
        exact e1
      refine thnF (pi1.run _ s8 σ8 H8 _ I8 q8) fun _ s10 hx => thnF hx fun _ s11 h11 => ?_
      obtain ⟨it1, fp1, tn1, J1, H11, rfl, I11, T1, st11, f11, W1, ⟨m1, w1⟩, turn1⟩ := h11
      have stat1 : ∀ {H' : Hp}, (∀ b ∈ fp1, H' b = none) → ∀ b ∈ fp1, FpOk B ([] ++ pinsAt fp s7.heap) H' b := fun hn b hb => ⟨hn b hb, (f11 b hb).2⟩
      let Inner : Nat → Shared → Prop := fun k s' => ∃ j H', Inv B ([] ++ pinsAt fp s7.heap) (wipe σ8 vs1) H' s' ∧ tn1 j s'.heap ∧ (∀ b ∈ fp1, H' b = none) ∧ W1 j k H'
      have loop1 : codeAny (model X.prog X.w) X.A (.compLoop (two elt t0 i0 t1 i1 sc pos) 1 (.ref it1) (.ref D) ce) (fun r s' => match r with
          | .ok _ => ∃ m, m < n ∧ Goal m s'
          | .error _ => False) s11 := by
        refine loop_in Inner ?_ m1 ⟨0, H11, I11.weak (wipe_length _ _) (fun j v e => (wipe_some e).1), st11, fun b hb => (f11 b hb).1, w1⟩
        rintro k s12 ⟨j, H12, I12, st12, n12, w12⟩
        rcases turn1 j k H12 w12 with ⟨stop1, nx1⟩ | ⟨go1, Nx1, hNx1, step1⟩
        · refine thnF (T1.done B rfl rfl rfl hc j _ s12 (wipe σ8 vs1) H12 (fun _ _ => False) I12 (stat1 n12) st12 stop1) fun r s13 ⟨hr, I13⟩ => ?_
          subst hr
          exact back I13 (l8.trans (wipe_length σ8 vs1).symm) k9 nx1
        · refine thnF (T1.item B rfl rfl rfl hc j _ s12 (wipe σ8 vs1) H12 (fun _ _ => False) I12 (stat1 n12) st12 go1) fun r s13 ⟨u1, hr, h13⟩ => ?_
          subst hr
          refine thnF h13 fun _ s14 ⟨x1, H14, I14, r14, y14, st14, n14⟩ => ?_
          refine thnF (pg1.run _ s14 (wipe σ8 vs1) H14 x1 u1 _ (I14.pinned (stat1 n14) (T1.obj _ _ st14)) r14 (step1 x1 H14 y14)) fun _ s15 ⟨σ15, H15, I15, hw15, q15⟩ => ?_
          refine thnF (pe.run _ s15 σ15 H15 _ I15 q15) fun z s17 ⟨yv, H17, I17, r17, tx, l, ey, hD17, hz17, nx⟩ => ?_
          subst ey
          obtain ⟨tk, rfl⟩ := (show ∃ tk, z = Value.str tx tk from r17)
          refine put_ok (X := B) I17 hD17 hz17 fun s18 I18 => ?_
          obtain ⟨m', hm, w'⟩ := hNx1 _ nx
          have still1 : ∀ b ∈ fp1, ∀ o, s14.heap.get? b = some o → s18.heap.get? b = some o ∧ (upd H17 D (TSO X.w D (l ++ [tx]))) b = none := fun b hb o e =>
            let z := I18.pin (b, o) (List.mem_append_right _ (List.mem_append_right _ (mem_pinsAt hb e)))
            ⟨z.1, z.2.1⟩
          refine ⟨m', hm, j + 1, _, I18.unpinned.weak (by rw [← wipe_length σ15 vs1, hw15]) (fun i v e => by rw [← hw15] at e; exact (wipe_some e).1), T1.keep _ _ _ st14 fun b hb o e => (still1 b hb o e).1, fun b hb => ?_, w'⟩
          obtain ⟨o, e, _⟩ := T1.obj _ _ st14 b hb
          exact (still1 b hb o e).2
      exact start_in loop1 (T1.self X.A 0 _ _ _ st11 loop1)
  exact PpSet.codeAny_compStart_set loop (T.self X.A 0 _ _ _ st4 loop)
end
end Tx

set_option Elab.async false
set_option linter.all false
set_option maxRecDepth 100000
set_option maxHeartbeats 4000000
/-! Formulas as data, and as tuples of tuples in the heap. -/
namespace Fo
open PySem L2
/-- a formula: con true: and; con false: or; qu true: some; qu false: all -/
inductive Fm where
  | rel (n : Str) (xs : List Str)
  | same (x y : Str)
  | neg (f : Fm)
  | con (b : Bool) (fs : List Fm)
  | qu (b : Bool) (x : Str) (f : Fm)
namespace Fm
def kids : Fm → List Fm
  | .rel _ _ => []
  | .same _ _ => []
  | .neg f => [f]
  | .con _ fs => fs
  | .qu _ _ f => [f]
/-- the names that it tells itself -/
def own : Fm → List Str
  | .rel _ xs => xs
  | .same x y => [x, y]
  | .neg _ => []
  | .con _ _ => []
  | .qu _ x _ => [x]
mutual
/-- how many formulas stand in it -/
def ct : Fm → Nat
  | .rel _ _ => 1
  | .same _ _ => 1
  | .neg f => 1 + ct f
  | .con _ fs => 1 + cts fs
  | .qu _ _ f => 1 + ct f
def cts : List Fm → Nat
  | [] => 0
  | f :: fs => ct f + cts fs
end
mutual
def dp : Fm → Nat
  | .rel _ _ => 0
  | .same _ _ => 0
  | .neg f => 1 + dp f
  | .con _ fs => dps fs
  | .qu _ _ f => 1 + dp f
/-- one more than the greatest depth of these, 0 if there is none -/
def dps : List Fm → Nat
  | [] => 0
  | f :: fs => max (1 + dp f) (dps fs)
end
mutual
/-- all names that stand in it -/
def nm : Fm → List Str
  | .rel _ xs => xs
  | .same x y => [x, y]
  | .neg f => nm f
  | .con _ fs => nms fs
  | .qu _ x f => x :: nm f
def nms : List Fm → List Str
  | [] => []
  | f :: fs => nm f ++ nms fs
end
mutual
def fr : Fm → List Str
  | .rel _ xs => xs
  | .same x y => [x, y]
  | .neg f => fr f
  | .con _ fs => frs fs
  | .qu _ x f => (fr f).filter (fun y => decide (y ≠ x))
def frs : List Fm → List Str
  | [] => []
  | f :: fs => fr f ++ frs fs
end
mutual
def rk : Fm → Nat
  | .rel _ _ => 0
  | .same _ _ => 0
  | .neg f => rk f
  | .con _ fs => rks fs
  | .qu _ _ f => 1 + rk f
def rks : List Fm → Nat
  | [] => 0
  | f :: fs => max (rk f) (rks fs)
end
theorem ct_pos : ∀ f : Fm, 1 ≤ ct f
  | .rel _ _ => by rw [ct]; omega
  | .same _ _ => by rw [ct]; omega
  | .neg f => by rw [ct]; omega
  | .con _ fs => by rw [ct]; omega
  | .qu _ _ f => by rw [ct]; omega
theorem ct_kids (f : Fm) : ct f = 1 + cts f.kids := by
  cases f <;> simp only [ct, kids, cts] <;> omega
theorem cts_append : ∀ (a b : List Fm), cts (a ++ b) = cts a + cts b
  | [], b => by simp [cts]
  | f :: a, b => by rw [List.cons_append, cts, cts, cts_append a b]; omega
theorem cts_mem : ∀ {fs : List Fm} {f : Fm}, f ∈ fs → ct f ≤ cts fs
  | g :: fs, f, h => by
    rw [cts]
    rcases List.mem_cons.mp h with e | e
    · rw [e]; omega
    · have := cts_mem e; omega
theorem len_cts : ∀ (fs : List Fm), fs.length ≤ cts fs
  | [] => Nat.le_refl _
  | f :: fs => by rw [cts, List.length_cons]; have := len_cts fs; have := ct_pos f; omega
theorem nms_append : ∀ (a b : List Fm), nms (a ++ b) = nms a ++ nms b
  | [], b => by simp [nms]
  | f :: a, b => by rw [List.cons_append, nms, nms, nms_append a b, List.append_assoc]
theorem mem_nms : ∀ {fs : List Fm} {x : Str}, x ∈ nms fs ↔ ∃ f ∈ fs, x ∈ nm f
  | [], x => by simp [nms]
  | f :: fs, x => by
    rw [nms, List.mem_append, mem_nms]
    simp only [List.mem_cons, exists_eq_or_imp]
theorem nm_kids (f : Fm) (x : Str) : x ∈ nm f ↔ x ∈ f.own ∨ x ∈ nms f.kids := by
  cases f <;> simp [nm, own, kids, nms]
theorem mem_frs : ∀ {fs : List Fm} {x : Str}, x ∈ frs fs ↔ ∃ f ∈ fs, x ∈ fr f
  | [], x => by simp [frs]
  | f :: fs, x => by
    rw [frs, List.mem_append, mem_frs]
    simp only [List.mem_cons, exists_eq_or_imp]
theorem nm_len (f : Fm) : (nm f).length = f.own.length + (nms f.kids).length := by
  cases f <;> simp [nm, own, kids, nms] <;> omega
theorem nms_len_mem : ∀ {fs : List Fm} {f : Fm}, f ∈ fs → (nm f).length ≤ (nms fs).length
  | g :: fs, f, h => by
    rw [nms, List.length_append]
    rcases List.mem_cons.mp h with e | e
    · rw [e]; omega
    · have := nms_len_mem e; omega
mutual
theorem fr_nm : ∀ (f : Fm), (fr f).length ≤ (nm f).length
  | .rel _ xs => Nat.le_refl _
  | .same _ _ => Nat.le_refl _
  | .neg f => fr_nm f
  | .con _ fs => frs_nms fs
  | .qu _ x f => by
    rw [fr, nm, List.length_cons]
    exact Nat.le_succ_of_le (Nat.le_trans (List.length_filter_le _ _) (fr_nm f))
theorem frs_nms : ∀ (fs : List Fm), (frs fs).length ≤ (nms fs).length
  | [] => Nat.le_refl _
  | f :: fs => by
    rw [frs, nms, List.length_append, List.length_append]
    exact Nat.add_le_add (fr_nm f) (frs_nms fs)
end
theorem dps_mem : ∀ {fs : List Fm} {f : Fm}, f ∈ fs → 1 + dp f ≤ dps fs
  | g :: fs, f, h => by
    rw [dps]
    rcases List.mem_cons.mp h with e | e
    · rw [e]; exact Nat.le_max_left _ _
    · exact Nat.le_trans (dps_mem e) (Nat.le_max_right _ _)
theorem dps_le : ∀ {fs : List Fm} {n : Nat}, (∀ f ∈ fs, 1 + dp f ≤ n) → dps fs ≤ n
  | [], n, _ => Nat.zero_le _
  | f :: fs, n, h => by
    rw [dps]
    exact Nat.max_le.mpr ⟨h f List.mem_cons_self, dps_le fun g hg => h g (List.mem_cons_of_mem _ hg)⟩
theorem dp_kids {f g : Fm} (h : g ∈ f.kids) : dp g < dp f := by
  cases f with
  | rel n xs => cases h
  | same x y => cases h
  | neg k => rw [List.mem_singleton.mp h, dp]; omega
  | con b fs =>
    have q := dps_mem (fs := fs) h
    rw [dp]; omega
  | qu b x k => rw [List.mem_singleton.mp h, dp]; omega
theorem rks_mem : ∀ {fs : List Fm} {f : Fm}, f ∈ fs → rk f ≤ rks fs
  | g :: fs, f, h => by
    rw [rks]
    rcases List.mem_cons.mp h with e | e
    · rw [e]; exact Nat.le_max_left _ _
    · exact Nat.le_trans (rks_mem e) (Nat.le_max_right _ _)
theorem rks_is : ∀ {fs : List Fm} {m : Nat}, (∀ f ∈ fs, rk f ≤ m) → (m = 0 ∨ ∃ f ∈ fs, rk f = m) → rks fs = m
  | [], m, _, h => by
    rcases h with e | ⟨f, hf, _⟩
    · rw [e]; rfl
    · cases hf
  | f :: fs, m, h, k => by
    have up : rks (f :: fs) ≤ m := by
      rw [rks]
      refine Nat.max_le.mpr ⟨h f List.mem_cons_self, ?_⟩
      have : ∀ gs : List Fm, (∀ g ∈ gs, rk g ≤ m) → rks gs ≤ m := fun gs => by
        induction gs with
        | nil => intro _; exact Nat.zero_le _
        | cons g gs ih => intro hh; rw [rks]; exact Nat.max_le.mpr ⟨hh g List.mem_cons_self, ih fun a ha => hh a (List.mem_cons_of_mem _ ha)⟩
      exact this fs fun g hg => h g (List.mem_cons_of_mem _ hg)
    refine Nat.le_antisymm up ?_
    rcases k with e | ⟨g, hg, e⟩
    · omega
    · rw [← e]; exact rks_mem hg
end Fm

/-! ### in the heap -/
def cn (b : Bool) : Str := if b = true then "and" else "or"
def qn (b : Bool) : Str := if b = true then "some" else "all"
mutual
def FmAt (K : PySem.W.Frag) (H : Hp) : V → Fm → Prop
  | v, .rel n xs => ∃ a t, v = .ref a ∧ SqT K H a [.str "rel", .str n, .ref t] ∧ SqT K H t (xs.map V.str)
  | v, .same x y => ∃ a, v = .ref a ∧ SqT K H a [.str "same", .str x, .str y]
  | v, .neg f => ∃ a u, v = .ref a ∧ SqT K H a [.str "not", u] ∧ FmAt K H u f
  | v, .con b fs => ∃ a t us, v = .ref a ∧ SqT K H a [.str (cn b), .ref t] ∧ SqT K H t us ∧ FmsAt K H us fs
  | v, .qu b x f => ∃ a u, v = .ref a ∧ SqT K H a [.str (qn b), .str x, u] ∧ FmAt K H u f
def FmsAt (K : PySem.W.Frag) (H : Hp) : List V → List Fm → Prop
  | us, [] => us = []
  | us, f :: fs => ∃ u r, us = u :: r ∧ FmAt K H u f ∧ FmsAt K H r fs
end
/-- the tuples stay -/
def Tk (K : PySem.W.Frag) (H H' : Hp) : Prop := ∀ a xs, SqT K H a xs → SqT K H' a xs
theorem Tk.refl {K : PySem.W.Frag} (H : Hp) : Tk K H H := fun _ _ h => h
theorem Tk.trans {K : PySem.W.Frag} {H H1 H2 : Hp} (a : Tk K H H1) (b : Tk K H1 H2) : Tk K H H2 := fun p xs h => b p xs (a p xs h)
theorem Tk.of_same {K : PySem.W.Frag} {H H' : Hp} (e : Same H H') : Tk K H H' := fun a xs h => by
  rcases h with (h | ⟨o, h⟩) | h
  · exact .inl (.inl (e _ _ h))
  · exact .inl (.inr ⟨o, e _ _ h⟩)
  · exact .inr h
mutual
theorem FmAt.tk {K : PySem.W.Frag} {H H' : Hp} (k : Tk K H H') : ∀ {v : V} {f : Fm}, FmAt K H v f → FmAt K H' v f
  | v, .rel n xs, h => by
    rw [FmAt] at h ⊢
    obtain ⟨a, t, e, h1, h2⟩ := h
    exact ⟨a, t, e, k _ _ h1, k _ _ h2⟩
  | v, .same x y, h => by
    rw [FmAt] at h ⊢
    obtain ⟨a, e, h1⟩ := h
    exact ⟨a, e, k _ _ h1⟩
  | v, .neg f, h => by
    rw [FmAt] at h ⊢
    obtain ⟨a, u, e, h1, h2⟩ := h
    exact ⟨a, u, e, k _ _ h1, FmAt.tk k h2⟩
  | v, .con b fs, h => by
    rw [FmAt] at h ⊢
    obtain ⟨a, t, us, e, h1, h2, h3⟩ := h
    exact ⟨a, t, us, e, k _ _ h1, k _ _ h2, FmsAt.tk k h3⟩
  | v, .qu b x f, h => by
    rw [FmAt] at h ⊢
    obtain ⟨a, u, e, h1, h2⟩ := h
    exact ⟨a, u, e, k _ _ h1, FmAt.tk k h2⟩
theorem FmsAt.tk {K : PySem.W.Frag} {H H' : Hp} (k : Tk K H H') : ∀ {us : List V} {fs : List Fm}, FmsAt K H us fs → FmsAt K H' us fs
  | us, [], h => by
    rw [FmsAt] at h ⊢
    exact h
  | us, f :: fs, h => by
    rw [FmsAt] at h ⊢
    obtain ⟨u, r, e, h1, h2⟩ := h
    exact ⟨u, r, e, FmAt.tk k h1, FmsAt.tk k h2⟩
end
theorem FmsAt.nil {K : PySem.W.Frag} {H : Hp} : FmsAt K H [] [] := by rw [FmsAt]
theorem FmsAt.cons {K : PySem.W.Frag} {H : Hp} {u : V} {us : List V} {f : Fm} {fs : List Fm} (h : FmAt K H u f) (t : FmsAt K H us fs) : FmsAt K H (u :: us) (f :: fs) := by
  rw [FmsAt]
  exact ⟨u, us, rfl, h, t⟩
theorem FmsAt.uncons {K : PySem.W.Frag} {H : Hp} {us : List V} {f : Fm} {fs : List Fm} (h : FmsAt K H us (f :: fs)) : ∃ u r, us = u :: r ∧ FmAt K H u f ∧ FmsAt K H r fs := by
  rw [FmsAt] at h
  exact h
theorem FmsAt.unnil {K : PySem.W.Frag} {H : Hp} {us : List V} (h : FmsAt K H us []) : us = [] := by
  rw [FmsAt] at h
  exact h
theorem FmsAt.length {K : PySem.W.Frag} {H : Hp} : ∀ {us : List V} {fs : List Fm}, FmsAt K H us fs → us.length = fs.length
  | us, [], h => by rw [h.unnil]; rfl
  | us, f :: fs, h => by
    obtain ⟨u, r, rfl, _, h2⟩ := h.uncons
    exact congrArg Nat.succ h2.length
theorem FmsAt.append {K : PySem.W.Frag} {H : Hp} {ws : List V} {gs : List Fm} (k : FmsAt K H ws gs) : ∀ {us : List V} {fs : List Fm}, FmsAt K H us fs → FmsAt K H (us ++ ws) (fs ++ gs)
  | us, [], h => by rw [h.unnil]; exact k
  | us, f :: fs, h => by
    obtain ⟨u, r, rfl, h1, h2⟩ := h.uncons
    exact .cons h1 (FmsAt.append k h2)
theorem FmsAt.get {K : PySem.W.Frag} {H : Hp} : ∀ {us : List V} {fs : List Fm}, FmsAt K H us fs → ∀ {i : Nat} {u : V}, us[i]? = some u → ∃ f, fs[i]? = some f ∧ FmAt K H u f
  | us, [], h, i, u, e => by rw [h.unnil] at e; simp at e
  | us, f :: fs, h, i, u, e => by
    obtain ⟨v, r, rfl, h1, h2⟩ := h.uncons
    cases i with
    | zero =>
      have e' : v = u := Option.some.inj e
      exact ⟨f, rfl, e' ▸ h1⟩
    | succ i => exact h2.get (i := i) e
/-- the last of a list -/
theorem FmsAt.unsnoc {K : PySem.W.Frag} {H : Hp} {us : List V} {fs : List Fm} (h : FmsAt K H us fs) (n : fs ≠ []) : ∃ vs u gs f, us = vs ++ [u] ∧ fs = gs ++ [f] ∧ FmsAt K H vs gs ∧ FmAt K H u f := by
  induction fs generalizing us with
  | nil => exact absurd rfl n
  | cons f fs ih =>
    obtain ⟨u, r, rfl, h1, h2⟩ := h.uncons
    cases fs with
    | nil =>
      rw [h2.unnil]
      exact ⟨[], u, [], f, rfl, rfl, .nil, h1⟩
    | cons g fs =>
      obtain ⟨vs, w, gs, k, e1, e2, h3, h4⟩ := ih h2 (by simp)
      exact ⟨u :: vs, w, f :: gs, k, by rw [e1]; rfl, by rw [e2]; rfl, .cons h1 h3, h4⟩
/-- a new object, and a list written, leave the tuples -/
theorem same_new {H : Hp} {p : Addr} (h : H p = none) (o : HO) : Same H (upd H p o) := fun b u q => by rw [upd_ne (ne_of_none q h)]; exact q
theorem tk_new {K : PySem.W.Frag} {H : Hp} {p : Addr} (h : H p = none) (o : HO) : Tk K H (upd H p o) := .of_same (same_new h o)
theorem tk_lst {K : PySem.W.Frag} {H : Hp} {p : Addr} {xs : List V} (h : H p = some (.lst xs)) (o : HO) : Tk K H (upd H p o) := fun a ys q => by
  rcases q with (q | ⟨u, q⟩) | q
  · exact .inl (.inl (by rw [upd_ne (ne_of q h (by intro z; cases z))]; exact q))
  · exact .inl (.inr ⟨u, by rw [upd_ne (ne_of q h (by intro z; cases z))]; exact q⟩)
  · exact .inr q
end Fo

set_option Elab.async false
set_option linter.all false
set_option maxRecDepth 100000
set_option maxHeartbeats 4000000
/-! Lists item by item; formulas turned, and what is true of them. -/
namespace Fo
open PySem L2
inductive All2 {α β : Type} (R : α → β → Prop) : List α → List β → Prop where
  | nil : All2 R [] []
  | cons {a : α} {b : β} {as : List α} {bs : List β} : R a b → All2 R as bs → All2 R (a :: as) (b :: bs)
namespace All2
variable {α β : Type} {R S : α → β → Prop}
theorem length {as : List α} {bs : List β} (h : All2 R as bs) : as.length = bs.length := by
  induction h with
  | nil => rfl
  | cons _ _ ih => exact congrArg Nat.succ ih
theorem imp {as : List α} {bs : List β} (h : All2 R as bs) (k : ∀ a b, R a b → S a b) : All2 S as bs := by
  induction h with
  | nil => exact .nil
  | cons r _ ih => exact .cons (k _ _ r) ih
theorem append {as cs : List α} {bs ds : List β} (h : All2 R as bs) (k : All2 R cs ds) : All2 R (as ++ cs) (bs ++ ds) := by
  induction h with
  | nil => exact k
  | cons r _ ih => exact .cons r ih
theorem snoc {as : List α} {bs : List β} {a : α} {b : β} (h : All2 R as bs) (r : R a b) : All2 R (as ++ [a]) (bs ++ [b]) := h.append (.cons r .nil)
theorem unsnoc {as : List α} {bs : List β} (h : All2 R as bs) (n : as ≠ []) : ∃ cs a ds b, as = cs ++ [a] ∧ bs = ds ++ [b] ∧ All2 R cs ds ∧ R a b := by
  induction h with
  | nil => exact absurd rfl n
  | @cons a b as bs r t ih =>
    cases t with
    | nil => exact ⟨[], a, [], b, rfl, rfl, .nil, r⟩
    | @cons a' b' as bs r' t' =>
      obtain ⟨cs, x, ds, y, e1, e2, h1, h2⟩ := ih (by simp)
      exact ⟨a :: cs, x, b :: ds, y, by rw [e1]; rfl, by rw [e2]; rfl, .cons r h1, h2⟩
theorem get {as : List α} {bs : List β} (h : All2 R as bs) : ∀ {i : Nat} {a : α}, as[i]? = some a → ∃ b, bs[i]? = some b ∧ R a b := by
  induction h with
  | nil => intro i a e; simp at e
  | @cons x y as bs r t ih =>
    intro i a e
    cases i with
    | zero => exact ⟨y, rfl, (Option.some.inj e) ▸ r⟩
    | succ i => exact ih (i := i) e
end All2
theorem Fm.cts_single (f : Fm) : Fm.cts [f] = f.ct := by simp [Fm.cts]
theorem Fm.nms_single (f : Fm) : Fm.nms [f] = f.nm := by simp [Fm.nms]
/-- the last item is popped -/
theorem drop_last {α : Type} (xs : List α) (x : α) : (xs ++ [x]).dropLast = xs := by simp
theorem at_last {α : Type} (xs : List α) (x : α) : (xs ++ [x])[(xs ++ [x]).length - 1]? = some x := by simp
theorem over_list {K : PySem.W.Frag} {a : Addr} {xs : List V} {H0 : Hp} {Qd : Hp → Prop} {step : V → Hp → (Hp → Prop) → Prop} (Pv : Nat → Hp → Prop) (h0 : Pv 0 H0) (hl : ∀ i H, i ≤ xs.length → Pv i H → SqL K H a xs)
    (hs : ∀ i x H, xs[i]? = some x → Pv i H → step x H (Pv (i + 1))) (hd : ∀ H, Pv xs.length H → Qd H) :
    ∃ W : Nat → Nat → Hp → Prop, (∃ m, W 0 m H0) ∧ ∀ i m H, W i m H → ((Itl K a).stop i H ∧ Qd H) ∨ ((Itl K a).go i H ∧ ∃ Nx : Hp → Prop, (∀ H', Nx H' → ∃ m', m' < m ∧ W (i + 1) m' H') ∧ ∀ x H', (Itl K a).yld i H x H' → step x H' Nx) := by
  refine ⟨fun i m H => m = xs.length - i ∧ i ≤ xs.length ∧ Pv i H, ⟨_, rfl, Nat.zero_le _, h0⟩, ?_⟩
  rintro i m H ⟨rfl, hi, p⟩
  rcases Nat.lt_or_ge i xs.length with lt | ge
  · refine .inr ⟨⟨xs, xs[i], hl i H hi p, List.getElem?_eq_getElem lt⟩, Pv (i + 1), fun H' p' => ⟨_, by omega, rfl, lt, p'⟩, fun x H' y => ?_⟩
    obtain ⟨rfl, y⟩ := y
    exact hs i x _ (y xs (hl i _ hi p)) p
  · obtain rfl : i = xs.length := by omega
    exact .inl ⟨⟨xs, hl _ H hi p, Nat.le_refl _⟩, hd H p⟩
theorem over_tup {K : PySem.W.Frag} {a : Addr} {xs : List V} {H0 : Hp} {Qd : Hp → Prop} {step : V → Hp → (Hp → Prop) → Prop} (Pv : Nat → Hp → Prop) (h0 : Pv 0 H0) (hl : ∀ i H, i ≤ xs.length → Pv i H → SqT K H a xs)
    (hs : ∀ i x H, xs[i]? = some x → Pv i H → step x H (Pv (i + 1))) (hd : ∀ H, Pv xs.length H → Qd H) :
    ∃ W : Nat → Nat → Hp → Prop, (∃ m, W 0 m H0) ∧ ∀ i m H, W i m H → ((Itt K a).stop i H ∧ Qd H) ∨ ((Itt K a).go i H ∧ ∃ Nx : Hp → Prop, (∀ H', Nx H' → ∃ m', m' < m ∧ W (i + 1) m' H') ∧ ∀ x H', (Itt K a).yld i H x H' → step x H' Nx) := by
  refine ⟨fun i m H => m = xs.length - i ∧ i ≤ xs.length ∧ Pv i H, ⟨_, rfl, Nat.zero_le _, h0⟩, ?_⟩
  rintro i m H ⟨rfl, hi, p⟩
  rcases Nat.lt_or_ge i xs.length with lt | ge
  · refine .inr ⟨⟨xs, xs[i], hl i H hi p, List.getElem?_eq_getElem lt⟩, Pv (i + 1), fun H' p' => ⟨_, by omega, rfl, lt, p'⟩, fun x H' y => ?_⟩
    obtain ⟨rfl, y⟩ := y
    exact hs i x _ (y xs (hl i _ hi p)) p
  · obtain rfl : i = xs.length := by omega
    exact .inl ⟨⟨xs, hl _ H hi p, Nat.le_refl _⟩, hd H p⟩
theorem inV_strs (x : Str) : ∀ (bs : List Str), inV (.str x) (bs.map V.str) = decide (x ∈ bs)
  | [] => by simp [inV]
  | b :: bs => by
    have ih := inV_strs x bs
    unfold inV at ih ⊢
    rw [List.map_cons, List.any_cons, ih]
    show ((b == x) || decide (x ∈ bs)) = decide (x ∈ b :: bs)
    by_cases e : b = x
    · subst e; simp
    · have e' : ¬ x = b := fun q => e q.symm
      simp [e, e']
theorem flat_strs : ∀ (bs : List Str), (bs.map V.str).all flatV = true
  | [] => rfl
  | b :: bs => by rw [List.map_cons, List.all_cons, flat_strs bs]; rfl
namespace Fm
/-- parts of these -/
def pct {α : Type} : List (Fm × α) → Nat
  | [] => 0
  | p :: ps => p.1.ct + pct ps
theorem pct_append {α : Type} : ∀ (a b : List (Fm × α)), pct (a ++ b) = pct a + pct b
  | [], b => by simp [pct]
  | p :: a, b => by rw [List.cons_append, pct, pct, pct_append a b]; omega
theorem pct_map {α : Type} (d : α) : ∀ (fs : List Fm), pct (fs.map fun k => (k, d)) = cts fs
  | [] => rfl
  | f :: fs => by rw [List.map_cons, pct, cts, pct_map d fs]
theorem len_pct {α : Type} : ∀ (ps : List (Fm × α)), ps.length ≤ pct ps
  | [] => Nat.le_refl _
  | p :: ps => by rw [pct, List.length_cons]; have := len_pct ps; have := ct_pos p.1; omega
end Fm

theorem cts_take {fs : List Fm} {i : Nat} {g : Fm} (h : fs[i]? = some g) : Fm.cts (fs.take (i + 1)) = Fm.cts (fs.take i) + g.ct := by
  rw [List.take_succ, h]
  show Fm.cts (fs.take i ++ [g]) = _
  rw [Fm.cts_append, Fm.cts_single]
namespace Fm
mutual
def tr : Fm → Bool → Fm
  | .rel n xs, d => if d = true then .neg (.rel n xs) else .rel n xs
  | .same x y, d => if d = true then .neg (.same x y) else .same x y
  | .neg f, d => tr f (!d)
  | .con b fs, d => .con (b != d) (trs fs d)
  | .qu b x f, d => .qu (b != d) x (tr f d)
def trs : List Fm → Bool → List Fm
  | [], _ => []
  | f :: fs, d => tr f d :: trs fs d
end
def bel (f : Fm) (d : Bool) : Bool := match f with | .neg _ => !d | _ => d
mutual
def pre : Fm → Bool → List (Fm × Bool)
  | .rel n xs, d => [(.rel n xs, d)]
  | .same x y, d => [(.same x y, d)]
  | .neg f, d => (.neg f, d) :: pre f (!d)
  | .con b fs, d => (.con b fs, d) :: pres fs d
  | .qu b x f, d => (.qu b x f, d) :: pre f d
def pres : List Fm → Bool → List (Fm × Bool)
  | [], _ => []
  | f :: fs, d => pre f d ++ pres fs d
end
def flat (ps : List (Fm × Bool)) : List (Fm × Bool) := (ps.map fun p => pre p.1 p.2).flatten
theorem flat_nil : flat [] = [] := rfl
theorem flat_cons (p : Fm × Bool) (ps : List (Fm × Bool)) : flat (p :: ps) = pre p.1 p.2 ++ flat ps := rfl
theorem flat_append (a b : List (Fm × Bool)) : flat (a ++ b) = flat a ++ flat b := by
  unfold flat
  rw [List.map_append, List.flatten_append]
theorem pres_flat (d : Bool) : ∀ fs : List Fm, pres fs d = flat (fs.map fun k => (k, d))
  | [] => rfl
  | f :: fs => by rw [pres, pres_flat d fs]; rfl
theorem pre_kids (f : Fm) (d : Bool) : pre f d = (f, d) :: flat (f.kids.map fun k => (k, bel f d)) := by
  cases f with
  | rel n xs => rfl
  | same x y => rfl
  | neg f => rw [pre]; show _ = (Fm.neg f, d) :: (pre f (!d) ++ []); rw [List.append_nil]
  | con b fs => rw [pre, pres_flat]; rfl
  | qu b x f => rw [pre]; show _ = (Fm.qu b x f, d) :: (pre f d ++ []); rw [List.append_nil]
theorem flat_head (p : Fm × Bool) (ps : List (Fm × Bool)) : flat (p :: ps) = p :: flat ((p.1.kids.map fun k => (k, bel p.1 p.2)) ++ ps) := by
  rw [flat_cons, pre_kids, flat_append]
  rfl
theorem pct_kids (p : Fm × Bool) : p.1.ct = 1 + pct (p.1.kids.map fun k => (k, bel p.1 p.2)) := by rw [pct_map, ct_kids]
/-- behind a formula stand its parts -/
theorem flat_mid (g : Fm) (d : Bool) (X : List (Fm × Bool)) : ∀ (n : Nat) (A ps : List (Fm × Bool)), pct ps ≤ n → flat ps = A ++ (g, d) :: X → ∃ Y, X = flat (g.kids.map fun k => (k, bel g d)) ++ Y
  | n, A, [], _, h => by simp [flat] at h
  | 0, A, p :: ps, hn, _ => by
    have := ct_pos p.1
    rw [pct] at hn
    omega
  | n + 1, A, p :: ps, hn, h => by
    rw [flat_head] at h
    have ck := pct_kids p
    rw [pct] at hn
    cases A with
    | nil =>
      rw [List.nil_append] at h
      injection h with e1 e2
      subst e1
      exact ⟨flat ps, by rw [← e2, flat_append]⟩
    | cons a A =>
      rw [List.cons_append] at h
      injection h with e1 e2
      exact flat_mid g d X n A _ (by rw [pct_append]; omega) e2
theorem flat_cut : ∀ (ks ts Y : List (Fm × Bool)), flat ts = flat ks ++ Y → ∃ ts2, ts = ks ++ ts2 ∧ flat ts2 = Y
  | [], ts, Y, h => ⟨ts, rfl, h⟩
  | k :: ks, [], Y, h => by rw [flat_head] at h; simp [flat] at h
  | k :: ks, t :: ts, Y, h => by
    have h' := h
    rw [flat_head, flat_head, List.cons_append] at h
    injection h with e1 e2
    subst e1
    rw [flat_cons, flat_cons, List.append_assoc] at h'
    obtain ⟨ts2, e3, e4⟩ := flat_cut ks ts Y (List.append_cancel_left h')
    exact ⟨ts2, by rw [e3]; rfl, e4⟩
mutual
theorem pre_len : ∀ (f : Fm) (d : Bool), (pre f d).length = f.ct
  | .rel n xs, d => rfl
  | .same x y, d => rfl
  | .neg f, d => by rw [pre, List.length_cons, pre_len f, ct]; omega
  | .con b fs, d => by rw [pre, List.length_cons, pres_len fs, ct]; omega
  | .qu b x f, d => by rw [pre, List.length_cons, pre_len f, ct]; omega
theorem pres_len : ∀ (fs : List Fm) (d : Bool), (pres fs d).length = cts fs
  | [], d => rfl
  | f :: fs, d => by rw [pres, List.length_append, pre_len f, pres_len fs, cts]
end
theorem trs_map (d : Bool) : ∀ fs : List Fm, trs fs d = fs.map fun k => tr k d
  | [] => rfl
  | f :: fs => by rw [trs, trs_map d fs]; rfl
/-- a formula turned, from its parts turned -/
def one (g : Fm) (d : Bool) (rs : List Fm) : Option Fm := match g, rs with
  | .rel n xs, _ => some (if d = true then .neg (.rel n xs) else .rel n xs)
  | .same x y, _ => some (if d = true then .neg (.same x y) else .same x y)
  | .neg _, [r] => some r
  | .con b _, rs => some (.con (b != d) rs)
  | .qu b x _, [r] => some (.qu (b != d) x r)
  | _, _ => none
theorem one_tr (g : Fm) (d : Bool) : one g d (g.kids.map fun k => tr k (bel g d)) = some (tr g d) := by
  cases g with
  | rel n xs => rfl
  | same x y => rfl
  | neg f => rfl
  | con b fs => rw [tr, trs_map]; rfl
  | qu b x f => rfl
/-- truth -/
def rows : List (Str × List (List Int)) → Str → Option (List (List Int))
  | [], _ => none
  | r :: rs, n => if r.1 = n then some r.2 else rows rs n
def holds (rs : List (Str × List (List Int))) (n : Str) (t : List Int) : Bool := match rows rs n with | none => false | some ts => (ts.map fun z : List Int => PyData.tuple (z.map PyData.int)).any fun z => PyData.eqv z (.tuple (t.map PyData.int))
def set1 (e : Str → Int) (x : Str) (i : Int) : Str → Int := fun y => if y = x then i else e y
mutual
def tv (m : Nat) (rs : List (Str × List (List Int))) : Fm → (Str → Int) → Bool
  | .rel n xs, e => holds rs n (xs.map e)
  | .same x y, e => decide (e x = e y)
  | .neg f, e => !tv m rs f e
  | .con b fs, e => tvs m rs b fs e
  | .qu b x f, e => if (List.range m).any (fun i => tv m rs f (set1 e x i) != !b) = true then b else !b
def tvs (m : Nat) (rs : List (Str × List (List Int))) (b : Bool) : List Fm → (Str → Int) → Bool
  | [], _ => b
  | f :: fs, e => if (tv m rs f e != b) = true then !b else tvs m rs b fs e
end
mutual
theorem tv_tr (m : Nat) (rs : List (Str × List (List Int))) : ∀ (f : Fm) (d : Bool) (e : Str → Int), tv m rs (tr f d) e = (tv m rs f e != d)
  | .rel n xs, d, e => by cases d <;> simp [tr, tv]
  | .same x y, d, e => by cases d <;> simp [tr, tv]
  | .neg f, d, e => by rw [tr, tv_tr m rs f, tv]; cases tv m rs f e <;> cases d <;> rfl
  | .con b fs, d, e => by rw [tr, tv, tv]; exact tvs_tr m rs b fs d e
  | .qu b x f, d, e => by
    rw [tr, tv, tv]
    have z : (fun i : Nat => tv m rs (tr f d) (set1 e x i) != !(b != d)) = (fun i : Nat => tv m rs f (set1 e x i) != !b) := by
      funext i
      rw [tv_tr m rs f]
      cases tv m rs f (set1 e x i) <;> cases b <;> cases d <;> rfl
    rw [z]
    split <;> cases b <;> cases d <;> rfl
theorem tvs_tr (m : Nat) (rs : List (Str × List (List Int))) (b : Bool) : ∀ (fs : List Fm) (d : Bool) (e : Str → Int), tvs m rs (b != d) (trs fs d) e = (tvs m rs b fs e != d)
  | [], d, e => by rw [trs, tvs, tvs]
  | f :: fs, d, e => by
    rw [trs, tvs, tvs, tv_tr m rs f, tvs_tr m rs b fs]
    cases tv m rs f e <;> cases b <;> cases d <;> simp
end
mutual
def bd : Fm → Nat
  | .rel _ _ => 0
  | .same _ _ => 0
  | .neg f => bd f
  | .con _ fs => bds fs
  | .qu _ _ f => 1 + bd f
def bds : List Fm → Nat
  | [] => 0
  | f :: fs => bd f + bds fs
end
mutual
theorem bd_tr : ∀ (f : Fm) (d : Bool), bd (tr f d) = bd f
  | .rel n xs, d => by cases d <;> rfl
  | .same x y, d => by cases d <;> rfl
  | .neg f, d => by rw [tr, bd_tr f, bd]
  | .con b fs, d => by rw [tr, bd, bd, bds_tr fs]
  | .qu b x f, d => by rw [tr, bd, bd, bd_tr f]
theorem bds_tr : ∀ (fs : List Fm) (d : Bool), bds (trs fs d) = bds fs
  | [], d => rfl
  | f :: fs, d => by rw [trs, bds, bds, bd_tr f, bds_tr fs]
end
theorem bds_append : ∀ (a b : List Fm), bds (a ++ b) = bds a + bds b
  | [], b => by simp [bds]
  | f :: a, b => by rw [List.cons_append, bds, bds, bds_append a b]; omega
mutual
def nnf : Fm → Bool
  | .rel _ _ => true
  | .same _ _ => true
  | .neg (.rel _ _) => true
  | .neg (.same _ _) => true
  | .neg _ => false
  | .con _ fs => nnfs fs
  | .qu _ _ f => nnf f
def nnfs : List Fm → Bool
  | [] => true
  | f :: fs => nnf f && nnfs fs
end
mutual
theorem nnf_tr : ∀ (f : Fm) (d : Bool), nnf (tr f d) = true
  | .rel n xs, d => by cases d <;> rfl
  | .same x y, d => by cases d <;> rfl
  | .neg f, d => by rw [tr]; exact nnf_tr f _
  | .con b fs, d => by rw [tr, nnf]; exact nnfs_tr fs d
  | .qu b x f, d => by rw [tr, nnf]; exact nnf_tr f d
theorem nnfs_tr : ∀ (fs : List Fm) (d : Bool), nnfs (trs fs d) = true
  | [], d => rfl
  | f :: fs, d => by rw [trs, nnfs, nnf_tr f, nnfs_tr fs]; rfl
end
theorem nnfs_mem : ∀ {fs : List Fm} {f : Fm}, nnfs fs = true → f ∈ fs → nnf f = true
  | g :: fs, f, h, hm => by
    rw [nnfs, Bool.and_eq_true] at h
    rcases List.mem_cons.mp hm with e | e
    · rw [e]; exact h.1
    · exact nnfs_mem h.2 e
mutual
theorem fr_tr : ∀ (f : Fm) (d : Bool), fr (tr f d) = fr f
  | .rel n xs, d => by cases d <;> rfl
  | .same x y, d => by cases d <;> rfl
  | .neg f, d => by rw [tr, fr_tr f, fr]
  | .con b fs, d => by rw [tr, fr, fr, frs_tr fs]
  | .qu b x f, d => by rw [tr, fr, fr, fr_tr f]
theorem frs_tr : ∀ (fs : List Fm) (d : Bool), frs (trs fs d) = frs fs
  | [], d => rfl
  | f :: fs, d => by rw [trs, frs, frs, fr_tr f, frs_tr fs]
end
mutual
theorem nm_tr : ∀ (f : Fm) (d : Bool), nm (tr f d) = nm f
  | .rel n xs, d => by cases d <;> rfl
  | .same x y, d => by cases d <;> rfl
  | .neg f, d => by rw [tr, nm_tr f, nm]
  | .con b fs, d => by rw [tr, nm, nm, nms_tr fs]
  | .qu b x f, d => by rw [tr, nm, nm, nm_tr f]
theorem nms_tr : ∀ (fs : List Fm) (d : Bool), nms (trs fs d) = nms fs
  | [], d => rfl
  | f :: fs, d => by rw [trs, nms, nms, nm_tr f, nms_tr fs]
end
mutual
theorem ct_tr : ∀ (f : Fm) (d : Bool), ct (tr f d) ≤ 2 * ct f
  | .rel n xs, d => by cases d <;> simp [tr, ct]
  | .same x y, d => by cases d <;> simp [tr, ct]
  | .neg f, d => by rw [tr, ct]; have := ct_tr f (!d); omega
  | .con b fs, d => by rw [tr, ct, ct]; have := cts_tr fs d; omega
  | .qu b x f, d => by rw [tr, ct, ct]; have := ct_tr f d; omega
theorem cts_tr : ∀ (fs : List Fm) (d : Bool), cts (trs fs d) ≤ 2 * cts fs
  | [], d => Nat.le_refl _
  | f :: fs, d => by rw [trs, cts, cts]; have := ct_tr f d; have := cts_tr fs d; omega
end
mutual
theorem dp_tr : ∀ (f : Fm) (d : Bool), dp (tr f d) ≤ dp f + 1
  | .rel n xs, d => by cases d <;> simp [tr, dp]
  | .same x y, d => by cases d <;> simp [tr, dp]
  | .neg f, d => by rw [tr, dp]; have := dp_tr f (!d); omega
  | .con b fs, d => by rw [tr, dp, dp]; exact dps_tr fs d
  | .qu b x f, d => by rw [tr, dp, dp]; have := dp_tr f d; omega
theorem dps_tr : ∀ (fs : List Fm) (d : Bool), dps (trs fs d) ≤ dps fs + 1
  | [], d => Nat.zero_le _
  | f :: fs, d => by
    rw [trs, dps, dps]
    have := dp_tr f d
    have := dps_tr fs d
    omega
end
end Fm
end Fo

set_option Elab.async false
set_option linter.all false
set_option maxRecDepth 100000
set_option maxHeartbeats 4000000
/-! Formulas from left to right, each with what is handed down to it. -/
namespace Fo
open PySem L2
namespace Hd
open Fm
variable {β : Type}
mutual
def hd (st : Fm → β → β) : Fm → β → List (Fm × β)
  | .rel n xs, b => [(.rel n xs, b)]
  | .same x y, b => [(.same x y, b)]
  | .neg f, b => (.neg f, b) :: hd st f (st (.neg f) b)
  | .con c fs, b => (.con c fs, b) :: hds st fs (st (.con c fs) b)
  | .qu c x f, b => (.qu c x f, b) :: hd st f (st (.qu c x f) b)
def hds (st : Fm → β → β) : List Fm → β → List (Fm × β)
  | [], _ => []
  | f :: fs, b => hd st f b ++ hds st fs b
end
variable {st : Fm → β → β}
def flat (st : Fm → β → β) (ps : List (Fm × β)) : List (Fm × β) := (ps.map fun p => hd st p.1 p.2).flatten
theorem flat_nil : flat st [] = [] := rfl
theorem flat_cons (p : Fm × β) (ps : List (Fm × β)) : flat st (p :: ps) = hd st p.1 p.2 ++ flat st ps := rfl
theorem flat_append (a b : List (Fm × β)) : flat st (a ++ b) = flat st a ++ flat st b := by
  unfold flat
  rw [List.map_append, List.flatten_append]
theorem hds_flat (d : β) : ∀ fs : List Fm, hds st fs d = flat st (fs.map fun k => (k, d))
  | [] => by rw [hds]; rfl
  | f :: fs => by rw [hds, hds_flat d fs]; rfl
theorem hd_kids (f : Fm) (d : β) : hd st f d = (f, d) :: flat st (f.kids.map fun k => (k, st f d)) := by
  cases f with
  | rel n xs => rw [hd]; rfl
  | same x y => rw [hd]; rfl
  | neg f => rw [hd]; show _ = (Fm.neg f, d) :: (hd st f (st (.neg f) d) ++ []); rw [List.append_nil]
  | con b fs => rw [hd, hds_flat]; rfl
  | qu b x f => rw [hd]; show _ = (Fm.qu b x f, d) :: (hd st f (st (.qu b x f) d) ++ []); rw [List.append_nil]
theorem flat_head (p : Fm × β) (ps : List (Fm × β)) : flat st (p :: ps) = p :: flat st ((p.1.kids.map fun k => (k, st p.1 p.2)) ++ ps) := by
  rw [flat_cons, hd_kids, flat_append]
  rfl
theorem pct_kids (p : Fm × β) : p.1.ct = 1 + pct (p.1.kids.map fun k => (k, st p.1 p.2)) := by rw [pct_map, ct_kids]
theorem flat_mid (g : Fm) (d : β) (X : List (Fm × β)) : ∀ (n : Nat) (A ps : List (Fm × β)), pct ps ≤ n → flat st ps = A ++ (g, d) :: X → ∃ Y, X = flat st (g.kids.map fun k => (k, st g d)) ++ Y
  | n, A, [], _, h => by simp [flat] at h
  | 0, A, p :: ps, hn, _ => by
    have := ct_pos p.1
    rw [pct] at hn
    omega
  | n + 1, A, p :: ps, hn, h => by
    rw [flat_head] at h
    have ck := pct_kids (st := st) p
    rw [pct] at hn
    cases A with
    | nil =>
      rw [List.nil_append] at h
      injection h with e1 e2
      subst e1
      exact ⟨flat st ps, by rw [← e2, flat_append]⟩
    | cons a A =>
      rw [List.cons_append] at h
      injection h with e1 e2
      exact flat_mid g d X n A _ (by rw [pct_append]; omega) e2
theorem flat_cut : ∀ (ks ts Y : List (Fm × β)), flat st ts = flat st ks ++ Y → ∃ ts2, ts = ks ++ ts2 ∧ flat st ts2 = Y
  | [], ts, Y, h => ⟨ts, rfl, h⟩
  | k :: ks, [], Y, h => by rw [flat_head] at h; simp [flat] at h
  | k :: ks, t :: ts, Y, h => by
    have h' := h
    rw [flat_head, flat_head, List.cons_append] at h
    injection h with e1 e2
    subst e1
    rw [flat_cons, flat_cons, List.append_assoc] at h'
    obtain ⟨ts2, e3, e4⟩ := flat_cut ks ts Y (List.append_cancel_left h')
    exact ⟨ts2, by rw [e3]; rfl, e4⟩
mutual
theorem hd_len : ∀ (f : Fm) (d : β), (hd st f d).length = f.ct
  | .rel n xs, d => by rw [hd]; rfl
  | .same x y, d => by rw [hd]; rfl
  | .neg f, d => by rw [hd, List.length_cons, hd_len f, ct]; omega
  | .con b fs, d => by rw [hd, List.length_cons, hds_len fs, ct]; omega
  | .qu b x f, d => by rw [hd, List.length_cons, hd_len f, ct]; omega
theorem hds_len : ∀ (fs : List Fm) (d : β), (hds st fs d).length = cts fs
  | [], d => by rw [hds]; rfl
  | f :: fs, d => by rw [hds, List.length_append, hd_len f, hds_len fs, cts]
end
theorem len_flat : ∀ ps : List (Fm × β), ps.length ≤ (flat st ps).length
  | [] => Nat.le_refl _
  | p :: ps => by
    rw [flat_head, List.length_cons, List.length_cons, flat_append, List.length_append]
    have := len_flat ps
    omega
/-- something true of each formula with what it has, if it goes on to what is within -/
theorem hd_all {R : Fm → β → Prop} (hs : ∀ g b, R g b → ∀ k ∈ g.kids, R k (st g b)) : ∀ (n : Nat) (ps : List (Fm × β)), pct ps ≤ n → (∀ p ∈ ps, R p.1 p.2) → ∀ p ∈ flat st ps, R p.1 p.2
  | n, [], _, _ => by simp [flat]
  | 0, p :: ps, hn, _ => by
    have := ct_pos p.1
    rw [pct] at hn
    omega
  | n + 1, p :: ps, hn, h => by
    rw [flat_head]
    have ck := pct_kids (st := st) p
    rw [pct] at hn
    intro q hq
    rcases List.mem_cons.mp hq with rfl | hq
    · exact h _ List.mem_cons_self
    refine hd_all hs n _ (by rw [pct_append]; omega) ?_ q hq
    intro r hr
    rcases List.mem_append.mp hr with e | e
    · obtain ⟨k, hk, rfl⟩ := List.mem_map.mp e
      exact hs _ _ (h _ List.mem_cons_self) k hk
    · exact h _ (List.mem_cons_of_mem _ e)
/-! what is handed down, in the heap -/
def PrAt (K : PySem.W.Frag) (At : Hp → V → β → Prop) (H : Hp) (u : V) (p : Fm × β) : Prop := ∃ (a : Addr) (v x : V), u = .ref a ∧ SqT K H a [v, x] ∧ FmAt K H v p.1 ∧ At H x p.2
structure Stay (K : PySem.W.Frag) (At : Hp → V → β → Prop) : Prop where
  go : ∀ {H H' : Hp} {u : V} {b : β}, Tk K H H' → At H u b → At H' u b
theorem PrAt.tk {K : PySem.W.Frag} {At : Hp → V → β → Prop} (sa : Stay K At) {H H' : Hp} {u : V} {p : Fm × β} (k : Tk K H H') (h : PrAt K At H u p) : PrAt K At H' u p :=
  let ⟨a, v, x, e, h1, h2, h3⟩ := h; ⟨a, v, x, e, k _ _ h1, h2.tk k, sa.go k h3⟩
theorem pr_new {K : PySem.W.Frag} {At : Hp → V → β → Prop} (sa : Stay K At) {H : Hp} {p : Addr} {v x : V} {f : Fm} {d : β} (np : H p = none) (h : FmAt K H v f) (hx : At H x d) : PrAt K At (upd H p (.tup [v, x])) (.ref p) (f, d) :=
  ⟨p, v, x, rfl, SqT.of upd_same, h.tk (tk_new np _), sa.go (tk_new np _) hx⟩
/-- what the function that tells what is handed down does -/
def spBelow (K : PySem.W.Frag) (At : Hp → V → β → Prop) (st : Fm → β → β) (Ok : Fm → β → Prop) : Sp := fun vs H Q _ => ∃ (v u : V) (g : Fm) (b : β), vs = [v, u] ∧ FmAt K H v g ∧ At H u b ∧ Ok g b ∧ ∀ (u' : V) (H' : Hp), Same H H' → At H' u' (st g b) → Q u' H'
def spHanded (K : PySem.W.Frag) (At : Hp → V → β → Prop) (st : Fm → β → β) (Ok : Fm → β → Prop) (fb : Addr) : Sp := fun vs H Q _ => ∃ (v u : V) (g : Fm) (b : β), vs = [v, u, .ref fb] ∧ FmAt K H v g ∧ At H u b ∧ Ok g b ∧ g.ct ≤ 1000 ∧
  ∀ (F : Addr) (us : List V) (H' : Hp), Same H H' → H F = none → H' F = some (.lst us) → All2 (PrAt K At H') us (hd st g b) → Q (.ref F) H'
end Hd
theorem all2_rev {α β : Type} {R : α → β → Prop} {as : List α} {bs : List β} (h : All2 R as bs) : All2 R as.reverse bs.reverse := by
  induction h with
  | nil => exact .nil
  | cons r _ ih => rw [List.reverse_cons, List.reverse_cons]; exact ih.snoc r
theorem fms_all2 {K : PySem.W.Frag} {H : Hp} : ∀ {us : List V} {fs : List Fm}, FmsAt K H us fs → All2 (FmAt K H) us fs
  | us, [], h => by rw [h.unnil]; exact .nil
  | us, f :: fs, h => by
    obtain ⟨u, r, rfl, h1, h2⟩ := h.uncons
    exact .cons h1 (fms_all2 h2)
theorem all2_fms {K : PySem.W.Frag} {H : Hp} {us : List V} {fs : List Fm} (h : All2 (FmAt K H) us fs) : FmsAt K H us fs := by
  induction h with
  | nil => exact .nil
  | cons r _ ih => exact .cons r ih
theorem cts_rev (fs : List Fm) : Fm.cts fs.reverse = Fm.cts fs := by
  induction fs with
  | nil => rfl
  | cons f fs ih => rw [List.reverse_cons, Fm.cts_append, ih, Fm.cts_single, Fm.cts]; omega
end Fo

set_option Elab.async false
set_option linter.all false
set_option maxRecDepth 100000
set_option maxHeartbeats 4000000
/-! t[::-1] of a tuple -/
namespace Rv
open PySem PySem.Spec PyProof.Rows L2
section
variable {P : Program} {w : World} {A : Around} {E : Value → Shared → Prop} {s : Shared}
theorem applied {sl : Addr} {a b c : Value} {n : Nat} {Q : Int × Int × Nat → Shared → Prop} (hs : s.heap.IsSliceOf sl a b c) (pa : IsPart a none) (pb : IsPart b none) (pc : IsPart c (some (-1))) (h : Q ((n : Int) - 1, -1, n) s) :
    wpAny (model P w) A (Builtin.Slice.sliceApplied (.ref sl) (pure (n : Int))) Q E s := by
  obtain ⟨os, hos, hcs, hds⟩ := id hs
  unfold Builtin.Slice.sliceApplied Builtin.Slice.sliceFields
  refine wpAny_bind (wpAny_bind (wpAny_field hos hds (x := a) rfl (wpAny_bind (wpAny_field hos hds (x := b) rfl (wpAny_bind (wpAny_field hos hds (x := c) rfl (wpAny_pure ?_)))))))
  refine wpAny_bind (HT.slicePart_ pc ?_)
  show wpAny _ _ (if ((-1 : Int) == 0) = true then _ else _) _ _ s
  rw [if_neg (by decide)]
  refine wpAny_bind (HT.slicePart_ pa (wpAny_bind (HT.slicePart_ pb (wpAny_bind (wpAny_pure ?_)))))
  have e1 : Builtin.Slice.sliceAdjust none none (-1) (n : Int) = ((n : Int) - 1, -1) := rfl
  have e2 : Builtin.Slice.slicePlaces ((n : Int) - 1) (-1) (-1) = n := by
    unfold Builtin.Slice.slicePlaces
    rw [if_neg (by decide)]
    by_cases z : (n : Int) - 1 > -1
    · rw [if_pos z, show (-(-1 : Int)) = 1 by decide, Int.ediv_one]
      omega
    · rw [if_neg z]
      omega
  show wpAny _ _ (pure ((n : Int) - 1, (-1 : Int), Builtin.Slice.slicePlaces ((n : Int) - 1) (-1) (-1))) _ _ s
  rw [e2]
  exact wpAny_pure h
theorem fm_congr {α β : Type} {f g : α → Option β} : ∀ (l : List α), (∀ a ∈ l, f a = g a) → l.filterMap f = l.filterMap g
  | [], _ => rfl
  | a :: l, h => by
    rw [List.filterMap_cons, List.filterMap_cons, h a List.mem_cons_self, fm_congr l fun b hb => h b (List.mem_cons_of_mem _ hb)]
theorem picked (xs : Array Value) : ((List.range xs.size).filterMap fun (k : Nat) => xs[((xs.size : Int) - 1 + (k : Int) * (-1)).toNat]?) = xs.toList.reverse := by
  have e : (List.range xs.size).filterMap (fun (k : Nat) => xs[((xs.size : Int) - 1 + (k : Int) * (-1)).toNat]?) = (List.range xs.size).filterMap (fun k => xs[xs.size - 1 - k]?) := by
    refine fm_congr _ fun k hk => ?_
    have lt := List.mem_range.mp hk
    have z : ((xs.size : Int) - 1 + (k : Int) * (-1)).toNat = xs.size - 1 - k := by omega
    rw [z]
  have m : (List.range xs.size).filterMap (fun k => xs[xs.size - 1 - k]?) = ((List.range xs.size).map (fun k => xs.size - 1 - k)).filterMap (xs[·]?) := by
    rw [List.filterMap_map]
    rfl
  rw [e, m, PySem.W.krv_range, List.filterMap_reverse, PySem.W.krv_all]
theorem tup_rev {t sl : Addr} {its : Array Value} {a b c : Value} {Q : Value → Shared → Prop} (ht : IsTup s.heap t its) (hs : s.heap.IsSliceOf sl a b c) (pa : IsPart a none) (pb : IsPart b none) (pc : IsPart c (some (-1)))
    (h : Q (.ref s.heap.objs.size) { s with heap := s.heap.push { cls := .type "tuple", data := .seq its.toList.reverse.toArray } }) (hz : its.size ≤ sizeLine) : wpAny (model P w) A (getItem (.ref t) (.ref sl)) Q E s := by
  have ok : sizeOk (.seq its.toList.reverse.toArray) := by
    show its.toList.reverse.toArray.size ≤ sizeLine
    rw [List.size_toArray, List.length_reverse, Array.length_toList]
    exact hz
  obtain ⟨os, hos, hcs, hds⟩ := id hs
  have hT : s.TypeIs (.ref sl) "slice" := ⟨os, hos, hcs⟩
  unfold getItem
  try with_reducible refine wpAny_holding ?_
  first | refine wpAny_bind (wpAny_pure ?_) | skip
  refine wpAny_bind (wpAny_sequenceKey ht.typeIs (by decide) ?_)
  refine wpAny_bind (wpAny_callSpecial?_slot (name := Str.ofString "__getitem__") ht.typeIs PyProof.Rows.slot_tuple_getitem
    (wpAny_call_entry PyProof.Rows.slot_tuple_getitem ht.typeIs entry_tuple_getitem ?_ (args_tuple_getitem _ _)))
  show wpAny _ _ (Builtin.Tuple.tupleItemsOf (.ref t) >>= _) _ _ s
  refine wpAny_bind (tupleItemsOf_ ht (wpAny_bind (wpAny_typeOf hT ?_)))
  rw [if_pos (by decide)]
  refine wpAny_bind (applied hs pa pb pc ?_)
  have no : ¬ (((its.size : Int) - 1 == 0 && (-1 : Int) == 1 && its.size == its.size) = true) := by
    intro q
    rw [Bool.and_eq_true, Bool.and_eq_true] at q
    exact absurd q.1.2 (by decide)
  show wpAny _ _ (if ((its.size : Int) - 1 == 0 && (-1 : Int) == 1 && its.size == its.size) = true then _ else _) _ _ s
  rw [if_neg no, picked]
  first
    | exact wpAny_bind (m := Builtin.Tuple.tupleExact _) (wpAny_newObj_type (wpAny_pure ⟨_, rfl, wpAny_pure h⟩) ok)
    | exact wpAny_bind (m := Builtin.Tuple.tupleExact _) (wpAny_newObj_type (wpAny_bind (wpAny_pure (wpAny_pure ⟨_, rfl, wpAny_pure h⟩))) ok)
    | exact wpAny_bind (wpAny_bind (m := Builtin.Tuple.tupleExact _) (wpAny_newObj_type (wpAny_pure (wpAny_pure ⟨_, rfl, wpAny_pure h⟩)) ok))
    | exact wpAny_bind (wpAny_bind (m := Builtin.Tuple.tupleExact _) (wpAny_newObj_type (wpAny_pure ⟨_, rfl, wpAny_pure h⟩) ok))
end
def tRevT (K : PySem.W.Frag) (te : TE) : TE := fun σ H Q => te σ H fun x H1 => ∃ a xs, x = .ref a ∧ SqT K H1 a xs ∧ ∀ p, H1 p = none → Q (.ref p) (upd H1 p (.tup xs.reverse))
theorem pe_revT {X : Cx} {e : Expr} {te : TE} {k : Nat} {p1 p2 p3 pos : Pos} (he : PE X e te) : PE X (.Subscript e (.Slice none none (some (.UnaryOp .USub (.Constant (.int 1) k p1) p2)) p3) pos) (tRevT X.K te) := by
  refine ⟨fun pins s σ H Q I h => ?_⟩
  refine Subscript_ (thn (he.run pins s σ H _ I h) fun v s1 ⟨x, H1, I1, r1, a, xs, ex, hx, q⟩ => ?_)
  subst ex
  cases r1
  have third : PO X (some (.UnaryOp .USub (.Constant (.int 1) k p1) p2)) (tPart (tUn (rU fun i => .int (-i)) (tC (.int 1)))) := po_some (pe_un un_neg pe_int)
  refine wpAny_Slice (thn (po_none.run pins s1 σ H1 (fun o G => o = none ∧ G = H1) I1 ⟨rfl, rfl⟩) fun va s2 ⟨oa, G, I2, qa, ea, eG⟩ => ?_)
  subst ea eG
  refine thn (po_none.run pins s2 σ G (fun o G' => o = none ∧ G' = G) I2 ⟨rfl, rfl⟩) fun vb s3 ⟨ob, G', I3, qb, eb, eG'⟩ => ?_
  subst eb eG'
  refine thn (third.run pins s3 σ G' (fun o G2 => o = some (-1) ∧ G2 = G') I3 ⟨1, rfl, -1, rfl, rfl, rfl⟩) fun vc s4 ⟨oc, G2, I4, qc, ec, eG2⟩ => ?_
  subst ec eG2
  have I5 : Inv X pins σ G2 { s4 with heap := s4.heap.push { cls := .type "slice", data := .fields #[va, vb, vc] } } := I4.kept (t' := s4.toks) fun b ob q => Heap.get?_push_of_some _ q
  obtain ⟨its, r, ht, hz⟩ := I5.tuple hx
  have hlen := r.length
  show wpAny (model X.prog X.w) X.A (subscriptTail e (.Slice none none (some (.UnaryOp .USub (.Constant (.int 1) k p1) p2)) p3) (.ref a) (.ref s4.heap.objs.size)) (EP X pins σ Q) X.xe { s4 with heap := s4.heap.push { cls := .type "slice", data := .fields #[va, vb, vc] } }
  refine tail_any (ops := [.ref a, .ref s4.heap.objs.size]) ht.typeIs PyProof.Rows.slot_tuple_getitem.lookup ?_ (by with_unfolding_all rfl)
  refine tup_rev ht (Heap.IsSliceOf.new _ va vb vc) qa qb qc ?_ (by rw [List.size_toArray]; omega)
  refine ⟨.ref _, _, I5.laid (t' := s4.toks) (o := .tup xs.reverse) (fun b ob q => Heap.get?_push_of_some _ q) (Nat.le_refl _) ?_, rfl, q _ (I5.hok.fresh (Nat.le_refl _))⟩
  exact ⟨by rw [List.length_reverse]; exact hz, _, r.reverse, IsTup.new _ _⟩
end Rv

set_option Elab.async false
set_option linter.all false
set_option maxRecDepth 100000
set_option maxHeartbeats 4000000
/-! Dicts whose keys are tuples of any depth, of ints and texts: what the object level asks. -/
namespace Ndk
open PySem PySem.Spec PyProof.Rows
open L2 (Key kV keyH mixKind)
inductive Nk where
  | ak (k : Key)
  | tp (ks : List Nk)
noncomputable instance : DecidableEq Nk := fun a b => Classical.propDecidable (a = b)
namespace Nk
mutual
def dep : Nk → Nat
  | .ak _ => 0
  | .tp ks => deps ks + 1
def deps : List Nk → Nat
  | [] => 0
  | k :: ks => max (dep k) (deps ks)
end
mutual
def hash (w : World) : Nk → Int
  | .ak k => keyH w k
  | .tp ks => reduceHash (Builtin.Tuple.tupleHashOf (hashes w ks))
def hashes (w : World) : List Nk → List Int
  | [] => []
  | k :: ks => hash w k :: hashes w ks
end
mutual
def draws : Nk → Nat
  | .ak _ => 1
  | .tp ks => drawsL ks + 1
def drawsL : List Nk → Nat
  | [] => 0
  | k :: ks => draws k + drawsL ks
end
end Nk
/-- v holds the key k -/
def IsAt (k : Key) (v : Value) : Prop := (∃ i t, k = .inl i ∧ v = .int i t) ∨ ∃ x t, k = .inr x ∧ v = .str x t
mutual
def IsNk (h : Heap) : Nk → Value → Prop
  | .ak k, v => IsAt k v
  | .tp ks, v => ∃ a items, v = .ref a ∧ h.IsTuple a items ∧ IsNks h ks items.toList
def IsNks (h : Heap) : List Nk → List Value → Prop
  | [], vs => vs = []
  | k :: ks, vs => ∃ v r, vs = v :: r ∧ IsNk h k v ∧ IsNks h ks r
end
theorem IsAt.inj {j k : Key} {v : Value} (a : IsAt j v) (b : IsAt k v) : j = k := by
  rcases a with ⟨i, t, rfl, rfl⟩ | ⟨x, t, rfl, rfl⟩ <;> rcases b with ⟨i', t', rfl, e⟩ | ⟨x', t', rfl, e⟩ <;> cases e <;> rfl
theorem tup_inj {h : Heap} {a : Addr} {is js : Array Value} (x : h.IsTuple a is) (y : h.IsTuple a js) : is = js := by
  obtain ⟨o, ho, _, n, hd⟩ := x
  obtain ⟨o', ho', _, n', hd'⟩ := y
  rw [ho] at ho'
  cases ho'
  rw [hd] at hd'
  injection hd'
mutual
theorem IsNk.inj {h : Heap} : ∀ {x y : Nk} {v : Value}, IsNk h x v → IsNk h y v → x = y
  | .ak j, .ak k, v, a, b => by rw [IsNk] at a; rw [IsNk] at b; rw [a.inj b]
  | .ak j, .tp ks, v, a, b => by
    rw [IsNk] at a; rw [IsNk] at b
    obtain ⟨c, is, rfl, _⟩ := b
    rcases a with ⟨_, _, _, e⟩ | ⟨_, _, _, e⟩ <;> cases e
  | .tp ks, .ak j, v, b, a => by
    rw [IsNk] at a; rw [IsNk] at b
    obtain ⟨c, is, rfl, _⟩ := b
    rcases a with ⟨_, _, _, e⟩ | ⟨_, _, _, e⟩ <;> cases e
  | .tp ks, .tp js, v, a, b => by
    rw [IsNk] at a; rw [IsNk] at b
    obtain ⟨c, is, rfl, h1, h2⟩ := a
    obtain ⟨c', is', e, h1', h2'⟩ := b
    cases e
    rw [tup_inj h1' h1] at h2'
    rw [IsNks.inj h2 h2']
theorem IsNks.inj {h : Heap} : ∀ {x y : List Nk} {vs : List Value}, IsNks h x vs → IsNks h y vs → x = y
  | [], [], vs, a, b => rfl
  | [], k :: ks, vs, a, b => by
    rw [IsNks] at a; rw [IsNks] at b
    obtain ⟨v, r, e, _⟩ := b
    rw [a] at e; cases e
  | k :: ks, [], vs, b, a => by
    rw [IsNks] at a; rw [IsNks] at b
    obtain ⟨v, r, e, _⟩ := b
    rw [a] at e; cases e
  | k :: ks, j :: js, vs, a, b => by
    rw [IsNks] at a; rw [IsNks] at b
    obtain ⟨v, r, rfl, h1, h2⟩ := a
    obtain ⟨v', r', e, h1', h2'⟩ := b
    cases e
    rw [IsNk.inj h1 h1', IsNks.inj h2 h2']
end
theorem IsNks.length {h : Heap} : ∀ {ks : List Nk} {vs : List Value}, IsNks h ks vs → vs.length = ks.length
  | [], vs, a => by rw [IsNks] at a; rw [a]; rfl
  | k :: ks, vs, a => by
    rw [IsNks] at a
    obtain ⟨v, r, rfl, _, h2⟩ := a
    rw [List.length_cons, List.length_cons, h2.length]
theorem IsNks.get {h : Heap} : ∀ {ks : List Nk} {vs : List Value}, IsNks h ks vs → ∀ {i : Nat} (h1 : i < vs.length) (h2 : i < ks.length), IsNk h ks[i] vs[i]
  | [], vs, a, i, h1, h2 => by simp at h2
  | k :: ks, vs, a, i, h1, h2 => by
    rw [IsNks] at a
    obtain ⟨v, r, rfl, hv, hr⟩ := a
    cases i with
    | zero => exact hv
    | succ i => exact hr.get (by simpa using h1) (by simpa using h2)
/-- the tuples stay -/
def Stays (h h' : Heap) : Prop := ∀ a is, h.IsTuple a is → h'.IsTuple a is
mutual
theorem IsNk.stay {h h' : Heap} (s : Stays h h') : ∀ {x : Nk} {v : Value}, IsNk h x v → IsNk h' x v
  | .ak j, v, a => by rw [IsNk] at a ⊢; exact a
  | .tp ks, v, a => by
    rw [IsNk] at a ⊢
    obtain ⟨c, is, e, h1, h2⟩ := a
    exact ⟨c, is, e, s _ _ h1, IsNks.stay s h2⟩
theorem IsNks.stay {h h' : Heap} (s : Stays h h') : ∀ {x : List Nk} {vs : List Value}, IsNks h x vs → IsNks h' x vs
  | [], vs, a => by rw [IsNks] at a ⊢; exact a
  | k :: ks, vs, a => by
    rw [IsNks] at a ⊢
    obtain ⟨v, r, e, h1, h2⟩ := a
    exact ⟨v, r, e, IsNk.stay s h1, IsNks.stay s h2⟩
end
theorem deps_get : ∀ {ks : List Nk} {i : Nat} (h : i < ks.length), ks[i].dep ≤ Nk.deps ks
  | k :: ks, 0, h => by rw [Nk.deps]; exact Nat.le_max_left _ _
  | k :: ks, i + 1, h => by
    rw [Nk.deps]
    have := deps_get (ks := ks) (i := i) (by simpa using h)
    exact Nat.le_trans this (Nat.le_max_right _ _)
theorem deps_mem {ks : List Nk} {k : Nk} (h : k ∈ ks) : k.dep ≤ Nk.deps ks := by
  obtain ⟨i, hi, e⟩ := List.getElem_of_mem h
  rw [← e]
  exact deps_get hi
/-! ### equality -/
open PySem.SeqAt in
theorem eq_at {A : Around} {s : Shared} {j k : Key} {u v : Value} (a : IsAt j u) (b : IsAt k v) : EqAt A s u v (decide (Nk.ak j = Nk.ak k)) := by
  rcases a with ⟨i, t, rfl, rfl⟩ | ⟨x, t, rfl, rfl⟩ <;> rcases b with ⟨i', t', rfl, rfl⟩ | ⟨x', t', rfl, rfl⟩
  · have e : decide (Nk.ak (.inl i) = Nk.ak (.inl i')) = (i == i') := by
      by_cases z : i = i'
      · subst z; simp
      · rw [decide_eq_false (fun q => z (by injection q with q; injection q)), beq_eq_false_iff_ne.mpr z]
    rw [e]; exact .int_int _ _ _ _
  · rw [decide_eq_false (fun q => by injection q with q; cases q)]; exact .int_str _ _ _ _
  · rw [decide_eq_false (fun q => by injection q with q; cases q)]; exact .str_int _ _ _ _
  · have e : decide (Nk.ak (.inr x) = Nk.ak (.inr x')) = (x == x') := by
      by_cases z : x = x'
      · subst z; simp
      · rw [decide_eq_false (fun q => z (by injection q with q; injection q)), beq_eq_false_iff_ne.mpr z]
    rw [e]; exact .str_str _ _ _ _
end Ndk

set_option Elab.async false
set_option linter.all false
set_option maxRecDepth 100000
set_option maxHeartbeats 4000000
namespace Ndk
open PySem PySem.Spec PyProof.Rows PySem.SeqAt
open L2 (Key kV keyH mixKind)
def EqOk (x : Nk) : Prop := ∀ (y : Nk) (A : Around) (s : Shared) (u v : Value), A.units + x.dep < cLine → IsNk s.heap x u → IsNk s.heap y v → EqAt A s u v (decide (x = y))
theorem all_eq {ks js : List Nk} : ((List.range (min ks.length js.length)).all (fun j => if h : j < ks.length ∧ j < js.length then decide (ks[j] = js[j]) else true) && ks.length == js.length) = decide (Nk.tp ks = Nk.tp js) := by
  by_cases e : ks = js
  · subst e
    rw [decide_eq_true rfl]
    simp
  · rw [decide_eq_false (fun z => e (by injection z))]
    rw [Bool.eq_false_iff]
    intro q
    rw [Bool.and_eq_true, beq_iff_eq, List.all_eq_true] at q
    apply e
    refine List.ext_getElem q.2 fun i h1 h2 => ?_
    have := q.1 i (List.mem_range.mpr (by omega))
    rw [dif_pos ⟨h1, h2⟩] at this
    exact of_decide_eq_true this
mutual
theorem eq_nk : ∀ x : Nk, EqOk x
  | .ak j => fun y A s u v hu a b => by
    rw [IsNk] at a
    cases y with
    | ak k => rw [IsNk] at b; exact eq_at a b
    | tp ks =>
      rw [IsNk] at b
      obtain ⟨c, is, rfl, ht, _⟩ := b
      rw [decide_eq_false (fun z => nomatch z)]
      have hu' : A.units < cLine := by omega
      rcases a with ⟨i, t, rfl, rfl⟩ | ⟨x, t, rfl, rfl⟩
      · exact .int_tuple _ _ ht hu'
      · exact .str_tuple _ _ ht hu'
  | .tp ks => fun y A s u v hu a b => by
    have hu' : A.units < cLine := by omega
    rw [IsNk] at a
    obtain ⟨c, is, rfl, ht, hs⟩ := a
    cases y with
    | ak k =>
      rw [IsNk] at b
      rw [decide_eq_false (fun z => nomatch z)]
      rcases b with ⟨i, t, rfl, rfl⟩ | ⟨x, t, rfl, rfl⟩
      · exact .tuple_int _ _ ht hu'
      · exact .tuple_str _ _ ht hu'
    | tp js =>
      rw [IsNk] at b
      obtain ⟨c', is', rfl, ht', hs'⟩ := b
      by_cases hne : c = c'
      · subst hne
        rw [tup_inj ht' ht] at hs'
        rw [IsNks.inj hs hs', decide_eq_true rfl]
        exact EqAt.same _
      · refine EqAt.of_refs hne ?_
        have l1 := hs.length
        have l2 := hs'.length
        have l1' : is.size = ks.length := l1
        have l2' : is'.size = js.length := l2
        have q := RcAt.tuples (A := A) (s := s) (e := fun j => if h : j < ks.length ∧ j < js.length then decide (ks[j] = js[j]) else true) ht ht' hu' (fun j h1 h2 => by
          have k1 : j < ks.length := by omega
          have k2 : j < js.length := by omega
          show EqAt A.in1 s is[j] is'[j] (if h : j < ks.length ∧ j < js.length then decide (ks[j] = js[j]) else true)
          rw [dif_pos ⟨k1, k2⟩]
          have ok := eqs_nk ks ks[j] (List.getElem_mem k1)
          refine ok js[j] A.in1 s is[j] is'[j] ?_ (hs.get (i := j) h1 k1) (hs'.get (i := j) h2 k2)
          have dg := deps_get k1
          have : (Nk.tp ks).dep = Nk.deps ks + 1 := by rw [Nk.dep]
          show A.units + 1 + ks[j].dep < cLine
          omega)
        rw [l1', l2', all_eq] at q
        exact q
theorem eqs_nk : ∀ ks : List Nk, ∀ x ∈ ks, EqOk x
  | [], x, h => by cases h
  | k :: ks, x, h => by
    rcases List.mem_cons.mp h with e | h
    · rw [e]; exact eq_nk k
    · exact eqs_nk ks x h
end
/-! ### hash -/
section
variable {prog : Program} {w : World}
def HashOk (prog : Program) (w : World) (x : Nk) : Prop := ∀ (A : Around) (E : Value → Shared → Prop) (s : Shared) (v : Value) (Q : Int → Shared → Prop), A.units + x.dep < cLine → IsNk s.heap x v → Q (x.hash w) { s with toks := s.toks + x.draws } → wpAny (model prog w) A (pyHash v) Q E s
theorem key_is {k : Key} {v : Value} (a : IsAt k v) : (mixKind prog w).is k v = true := by
  rcases a with ⟨i, t, rfl, rfl⟩ | ⟨x, t, rfl, rfl⟩
  · exact L2.kV_is (k := .inl i) ⟨t, rfl⟩
  · exact L2.kV_is (k := .inr x) ⟨t, rfl⟩
theorem hashes_app : ∀ (a b : List Nk), Nk.hashes w (a ++ b) = Nk.hashes w a ++ Nk.hashes w b
  | [], b => by rw [Nk.hashes]; rfl
  | x :: a, b => by rw [List.cons_append, Nk.hashes, Nk.hashes, hashes_app a b]; rfl
theorem draws_app : ∀ (a b : List Nk), Nk.drawsL (a ++ b) = Nk.drawsL a + Nk.drawsL b
  | [], b => by rw [Nk.drawsL]; simp
  | x :: a, b => by rw [List.cons_append, Nk.drawsL, Nk.drawsL, draws_app a b]; omega
theorem tup_type {s : Shared} {a : Addr} {is : Array Value} (x : s.heap.IsTuple a is) : s.TypeIs (.ref a) "tuple" := let ⟨o, ho, hc, _⟩ := x; ⟨o, ho, hc⟩
theorem hash_tup {ks : List Nk} (ih : ∀ x ∈ ks, HashOk prog w x) : HashOk prog w (.tp ks) := by
  intro A E s v Q hu a h
  rw [IsNk] at a
  obtain ⟨c, items, rfl, ht, hi⟩ := a
  have hT := tup_type ht
  obtain ⟨o, ho, _, n, hd⟩ := ht
  have hdep : (Nk.tp ks).dep = Nk.deps ks + 1 := by rw [Nk.dep]
  unfold pyHash
  first | unfold pyHashByItsType | skip
  first | refine wpAny_bind (wpAny_cRoomFor_or (.inr (by omega)) ?_) | skip
  refine wpAny_bind (wpAny_specialOf hT F.slot_tuple_hash.lookup ?_)
  show wpAny _ _ (if (some (Value.builtin "tuple.__hash__") == some Value.none) = true then _ else _) Q E s
  rw [if_neg (by rw [beq_builtin_none]; exact Bool.false_ne_true)]
  refine wpAny_bind (wpAny_specialOf hT F.slot_tuple_hash.lookup ?_)
  show wpAny _ _ (callSpecialIfBoundUnlessNone? (.ref c) "__hash__" _ >>= _) Q E s
  refine wpAny_bind (wpAny_callSpecialIfBoundUnlessNone?_slot hT F.slot_tuple_hash (wpAny_call_entry F.slot_tuple_hash hT F.entry_tuple_hash ?_ (F.args_tuple_hash_1 _)))
  show wpAny _ _ (Builtin.Tuple.tupleItemsOf (.ref c) >>= _) _ _ s
  refine wpAny_bind (wpAny_tupleItemsOf ho hd ?_)
  refine wpAny_bind ?_
  rw [← Array.forIn_toList]
  refine wpAny_forIn_list _
    (fun rest (b : Array Int) s' => ∃ done left, ks = done ++ left ∧ IsNks s.heap left rest ∧ b.toList = Nk.hashes w done ∧ s' = { s with toks := s.toks + Nk.drawsL done })
    _ ?_ ?_ _ _ ⟨[], ks, rfl, hi, by rw [Nk.hashes], by rw [Nk.drawsL]; rfl⟩
  · rintro x rest b s' ⟨done, left, rfl, hl, hb, rfl⟩
    cases left with
    | nil => rw [IsNks] at hl; cases hl
    | cons k left =>
      rw [IsNks] at hl
      obtain ⟨v, r, e, h1, h2⟩ := hl
      cases e
      have km : k ∈ done ++ k :: left := by simp
      have dk : k.dep ≤ Nk.deps (done ++ k :: left) := deps_mem km
      refine wpAny_bind (ih k km _ _ _ _ _ (by show A.units + 1 + k.dep < cLine; omega) h1 ?_)
      first
        | exact wpAny_pure ⟨done ++ [k], left, by simp, h2, by rw [Array.toList_push, hb, hashes_app, Nk.hashes, Nk.hashes], by rw [draws_app, Nk.drawsL, Nk.drawsL, Nat.add_zero, Nat.add_assoc]⟩
        | exact wpAny_bind (wpAny_pure (wpAny_pure ⟨done ++ [k], left, by simp, h2, by rw [Array.toList_push, hb, hashes_app, Nk.hashes, Nk.hashes], by rw [draws_app, Nk.drawsL, Nk.drawsL, Nat.add_zero, Nat.add_assoc]⟩))
  · rintro b s' ⟨done, left, rfl, hl, hb, rfl⟩
    cases left with
    | cons k left => rw [IsNks] at hl; obtain ⟨v, r, e, _⟩ := hl; cases e
    | nil =>
      rw [List.append_nil] at h
      have e1 : (Nk.tp done).hash w = reduceHash (Builtin.Tuple.tupleHashOf (Nk.hashes w done)) := by rw [Nk.hash]
      have e2 : (Nk.tp done).draws = Nk.drawsL done + 1 := by rw [Nk.draws]
      rw [e1, e2] at h
      show wpAny _ _ (retInt (Builtin.Tuple.tupleHashOf b.toList)) _ _ _
      rw [hb]
      refine wpAny_ret_mkInt ?_
      show wpAny _ _ (if (decide (-(2 : Int) ^ 63 ≤ Builtin.Tuple.tupleHashOf (Nk.hashes w done)) && decide (Builtin.Tuple.tupleHashOf (Nk.hashes w done) < 2 ^ 63)) = true then _ else _) Q E _
      unfold reduceHash at h
      by_cases hr : (decide (-(2 : Int) ^ 63 ≤ Builtin.Tuple.tupleHashOf (Nk.hashes w done)) && decide (Builtin.Tuple.tupleHashOf (Nk.hashes w done) < 2 ^ 63)) = true
      · rw [if_pos hr]
        rw [if_pos hr] at h
        exact wpAny_pure (by simpa [Nat.add_assoc] using h)
      · rw [if_neg hr]
        rw [if_neg hr] at h
        exact wpAny_bind (wpAny_rule (wpAny_pure (by simpa [Nat.add_assoc] using h)))
mutual
theorem hash_nk : ∀ x : Nk, HashOk prog w x
  | .ak k => fun A E s v Q hu a h => by
    rw [IsNk] at a
    have e1 : (Nk.ak k).hash w = keyH w k := by rw [Nk.hash]
    have e2 : (Nk.ak k).draws = 1 := by rw [Nk.draws]
    rw [e1, e2] at h
    exact (mixKind prog w).pyHash (key_is a) h
  | .tp ks => hash_tup (hashes_nk ks)
theorem hashes_nk : ∀ ks : List Nk, ∀ x ∈ ks, HashOk prog w x
  | [], x, h => by cases h
  | k :: ks, x, h => by
    rcases List.mem_cons.mp h with e | h
    · rw [e]; exact hash_nk k
    · exact hashes_nk ks x h
end
/-! ### what equality asks ahead -/
def QuietOk (prog : Program) (w : World) (x : Nk) : Prop := ∀ (n : Nat) (A : Around) (E : Value → Shared → Prop) (s : Shared) (v : Value) (Q : Bool → Shared → Prop), x.dep ≤ n → IsNk s.heap x v → Q true s → wpAny (model prog w) A (eqIsQuiet n v) Q E s
theorem quiet_tup {ks : List Nk} (ih : ∀ x ∈ ks, QuietOk prog w x) : QuietOk prog w (.tp ks) := by
  intro n A E s v Q hn a h
  rw [IsNk] at a
  obtain ⟨c, items, rfl, ht, hi⟩ := a
  have hT := tup_type ht
  obtain ⟨o, ho, _, m, hd⟩ := ht
  have hdep : (Nk.tp ks).dep = Nk.deps ks + 1 := by rw [Nk.dep]
  cases n with
  | zero => omega
  | succ n =>
    unfold eqIsQuiet
    refine wpAny_bind (wpAny_specialOf hT F.slot_tuple_eq.lookup ?_)
    show wpAny _ _ (isInstance (.ref c) (.type "tuple") >>= _) _ _ s
    refine wpAny_bind (wpAny_isInstance hT isSubtype_tuple_tuple ?_)
    simp only [Bool.not_true, Bool.false_eq_true, if_false]
    refine wpAny_bind (wpAny_seqItems ho hd ?_)
    refine wpAny_bind ?_
    show wpAny _ _ (forIn items _ _) _ _ s
    rw [← Array.forIn_toList]
    refine wpAny_forIn_list _ (fun rest r s' => r.1 = none ∧ s' = s ∧ ∃ left, (∀ x ∈ left, x ∈ ks) ∧ IsNks s.heap left rest) _ ?_ ?_ _ _ ⟨rfl, rfl, ks, fun x hx => hx, hi⟩
    · rintro v rest r s' ⟨hr, rfl, left, hm, hl⟩
      cases left with
      | nil => rw [IsNks] at hl; cases hl
      | cons k left =>
        rw [IsNks] at hl
        obtain ⟨v', r', e, h1, h2⟩ := hl
        cases e
        have km := hm k List.mem_cons_self
        have dk : k.dep ≤ Nk.deps ks := deps_mem km
        refine wpAny_bind (ih k km n _ _ _ _ _ (by omega) h1 ?_)
        simp only [Bool.not_true, Bool.false_eq_true, if_false]
        exact wpAny_pure ⟨rfl, rfl, left, fun x hx => hm x (List.mem_cons_of_mem _ hx), h2⟩
    · rintro ⟨r1, r2⟩ s' ⟨hr, rfl, _⟩
      simp only at hr
      subst hr
      exact wpAny_pure h
mutual
theorem quiet_nk : ∀ x : Nk, QuietOk prog w x
  | .ak k => fun n A E s v Q hn a h => by
    rw [IsNk] at a
    have : carriedByValue v = true := by rcases a with ⟨i, t, rfl, rfl⟩ | ⟨x, t, rfl, rfl⟩ <;> rfl
    rw [eqIsQuiet_byValue _ this]
    exact wpAny_pure h
  | .tp ks => quiet_tup (quiets_nk ks)
theorem quiets_nk : ∀ ks : List Nk, ∀ x ∈ ks, QuietOk prog w x
  | [], x, h => by cases h
  | k :: ks, x, h => by
    rcases List.mem_cons.mp h with e | h
    · rw [e]; exact quiet_nk k
    · exact quiets_nk ks x h
end
end
end Ndk

set_option Elab.async false
set_option linter.all false
set_option maxRecDepth 100000
set_option maxHeartbeats 4000000
namespace Ndk
open PySem PySem.Spec PyProof.Rows PySem.SeqAt
open Fo (All2)
/-- the kind of such keys -/
noncomputable def nestKind (P : Program) (w : World) : HeapKind P w Nk where
  is := fun h k a => IsNk h k (.ref a) ∧ k.dep ≤ 7
  hash := Nk.hash w
  draws := Nk.draws
  room := fun A => A.units + 8 < cLine
  inj := fun x y => x.1.inj y.1
  keeps := fun {h h' k a d o es ep} x ho hd hs => ⟨x.1.stay fun b is ht => by
    obtain ⟨ob, h1, h2, n, h3⟩ := ht
    have ne : b ≠ d := by
      rintro rfl
      rw [ho] at h1
      cases h1
      rw [hd] at h3
      cases h3
    exact ⟨ob, (hs.2 b ne).trans h1, h2, n, h3⟩, x.2⟩
  pyHash := fun {A E s k a Q} hu x h => hash_nk k A E s (.ref a) Q (by have := x.2; omega) x.1 h
  eqBool := fun {A E s x y a b Q} hu hx hy h => eq_nk x y A s (.ref a) (.ref b) (by have := hx.2; omega) hx.1 hy.1 _ _ _ _ h
  quiet := fun {A E s k a Q} x h => quiet_nk k 8 A E s (.ref a) Q (by have := x.2; omega) x.1 h
open L2
def EVR (e : Nk × Addr × V) (x : Nk × Addr × Value) : Prop := e.1 = x.1 ∧ e.2.1 = x.2.1 ∧ RelV e.2.2 x.2.2
def NdO (P : Program) (w : World) (a : Addr) (ents : List (Nk × Addr × V)) : HO := .ext fun h => (a == sysModules) = false ∧ ents.length ≤ sizeLine ∧ (ents.map (·.1)).Nodup ∧
  ∃ (o : Obj) (es : Array DictEntry) (ep : Nat) (xs : List (Nk × Addr × Value)), h.get? a = some o ∧ o.ExactDict ∧ o.data = .dict es ep ∧ es.toList = xs.map (entryOfKey (nestKind P w)) ∧ All2 EVR ents xs
mutual
def NkAt (K : PySem.W.Frag) (H : Hp) : Nk → V → Prop
  | .ak k, v => v = kV k
  | .tp ks, v => ∃ a us, v = .ref a ∧ SqT K H a us ∧ NksAt K H ks us
def NksAt (K : PySem.W.Frag) (H : Hp) : List Nk → List V → Prop
  | [], us => us = []
  | k :: ks, us => ∃ u r, us = u :: r ∧ NkAt K H k u ∧ NksAt K H ks r
end
mutual
theorem NkAt.tk {K : PySem.W.Frag} {H H' : Hp} (t : ∀ a xs, SqT K H a xs → SqT K H' a xs) : ∀ {k : Nk} {v : V}, NkAt K H k v → NkAt K H' k v
  | .ak k, v, h => by rw [NkAt] at h ⊢; exact h
  | .tp ks, v, h => by
    rw [NkAt] at h ⊢
    obtain ⟨a, us, e, h1, h2⟩ := h
    exact ⟨a, us, e, t _ _ h1, NksAt.tk t h2⟩
theorem NksAt.tk {K : PySem.W.Frag} {H H' : Hp} (t : ∀ a xs, SqT K H a xs → SqT K H' a xs) : ∀ {ks : List Nk} {us : List V}, NksAt K H ks us → NksAt K H' ks us
  | [], us, h => by rw [NksAt] at h ⊢; exact h
  | k :: ks, us, h => by
    rw [NksAt] at h ⊢
    obtain ⟨u, r, e, h1, h2⟩ := h
    exact ⟨u, r, e, NkAt.tk t h1, NksAt.tk t h2⟩
end
def NdAt (K : PySem.W.Frag) (P : Program) (w : World) (H : Hp) (a : Addr) (ents : List (Nk × Addr × V)) : Prop := H a = some (NdO P w a ents) ∧ ∀ e ∈ ents, e.1.dep ≤ 7 ∧ NkAt K H e.1 (.ref e.2.1)
noncomputable def ndV (ents : List (Nk × Addr × V)) (k : Nk) : Option V := (ents.find? fun e => decide (e.1 = k)).map (·.2.2)
theorem ndV_nil (k : Nk) : ndV [] k = none := rfl
theorem ndV_snoc {ents : List (Nk × Addr × V)} {k j : Nk} {b : Addr} {v : V} (h : ndV ents k = none) : ndV (ents ++ [(k, b, v)]) j = if j = k then some v else ndV ents j := by
  have e0 : ents.find? (fun e => decide (e.1 = k)) = none := by
    unfold ndV at h
    cases e : ents.find? (fun e => decide (e.1 = k)) with
    | none => rfl
    | some x => rw [e] at h; cases h
  unfold ndV
  rw [List.find?_append]
  by_cases z : j = k
  · subst z
    rw [e0, if_pos rfl]
    simp
  · rw [if_neg z]
    have : (if decide (k = j) = true then some ((k, b, v) : Nk × Addr × V) else none) = none := by rw [if_neg]; intro q; exact z (of_decide_eq_true q).symm
    simp only [List.find?_cons, List.find?_nil]
    rw [decide_eq_false (fun q => z q.symm)]
    simp
theorem ndV_rel {ents : List (Nk × Addr × V)} {xs : List (Nk × Addr × Value)} (h : All2 EVR ents xs) (k : Nk) : RelO (ndV ents k) ((atKey xs k).map (·.2)) := by
  induction h with
  | nil => exact True.intro
  | @cons e x ents xs r _ ih =>
    unfold ndV atKey at ih ⊢
    rw [List.find?_cons, List.find?_cons]
    obtain ⟨r1, r2, r3⟩ := r
    rw [← r1]
    by_cases z : e.1 = k
    · rw [decide_eq_true z]; exact r3
    · rw [decide_eq_false z]; exact ih
section
variable {X : Cx} {pins : List (Addr × Obj)} {σ : L2.St} {H : Hp} {s : Shared}
mutual
theorem nk_is (I : Inv X pins σ H s) : ∀ {k : Nk} {v : V} {u : Value}, NkAt X.K H k v → RelV v u → IsNk s.heap k u
  | .ak (.inl i), v, u, h, r => by
    rw [NkAt] at h; subst h
    obtain ⟨t, rfl⟩ := r
    rw [IsNk]; exact .inl ⟨i, t, rfl, rfl⟩
  | .ak (.inr x), v, u, h, r => by
    rw [NkAt] at h; subst h
    obtain ⟨t, rfl⟩ := r
    rw [IsNk]; exact .inr ⟨x, t, rfl, rfl⟩
  | .tp ks, v, u, h, r => by
    rw [NkAt] at h
    obtain ⟨a, us, rfl, h1, h2⟩ := h
    obtain ⟨its, rv, ht, _⟩ := I.tuple h1
    cases (show u = Value.ref a from r)
    rw [IsNk]
    exact ⟨a, its.toArray, rfl, ht, by simpa using nks_is I h2 rv⟩
theorem nks_is (I : Inv X pins σ H s) : ∀ {ks : List Nk} {us : List V} {vs : List Value}, NksAt X.K H ks us → Vals us vs → IsNks s.heap ks vs
  | [], us, vs, h, r => by
    rw [NksAt] at h; subst h
    cases r
    rw [IsNks]
  | k :: ks, us, vs, h, r => by
    rw [NksAt] at h
    obtain ⟨u, q, rfl, h1, h2⟩ := h
    cases r with
    | cons ru rq =>
      rw [IsNks]
      exact ⟨_, _, rfl, nk_is I h1 ru, nks_is I h2 rq⟩
end
theorem nd_open {a : Addr} {ents : List (Nk × Addr × V)} (I : Inv X pins σ H s) (h : NdAt X.K X.prog X.w H a ents) : (a == sysModules) = false ∧ ents.length ≤ sizeLine ∧ ∃ xs, All2 EVR ents xs ∧ s.heap.DictOfH (nestKind X.prog X.w) a xs := by
  obtain ⟨h1, h2⟩ := h
  obtain ⟨⟨lo, sz, ndp, o, es, ep, xs, e1, e2, e3, e4, pr⟩, _, _⟩ := (show ObjOk X.prog X.w H s.heap a (NdO X.prog X.w a ents) from I.hok a _ h1)
  refine ⟨lo, sz, xs, pr, o, es, ep, e1, e2, e3, e4, ?_, ?_⟩
  · have all : ∀ {l : List (Nk × Addr × V)} {m : List (Nk × Addr × Value)}, All2 EVR l m → (∀ e ∈ l, e.1.dep ≤ 7 ∧ NkAt X.K H e.1 (.ref e.2.1)) → ∀ x ∈ m, (nestKind X.prog X.w).is s.heap x.1 x.2.1 := by
      intro l m q
      induction q with
      | nil => intro _ x hx; cases hx
      | @cons p q ps qs hq t ih =>
        intro hl x hx
        rcases List.mem_cons.mp hx with e | hx
        · subst e
          obtain ⟨d1, d2⟩ := hl p List.mem_cons_self
          rw [hq.1] at d1 d2
          rw [hq.2.1] at d2
          exact ⟨nk_is I d2 rfl, d1⟩
        · exact ih (fun e he => hl e (List.mem_cons_of_mem _ he)) x hx
    exact all pr h2
  · have em : ∀ {l : List (Nk × Addr × V)} {m : List (Nk × Addr × Value)}, All2 EVR l m → m.map (·.1) = l.map (·.1) := by
      intro l m q
      induction q with
      | nil => rfl
      | cons hq _ ih => rw [List.map_cons, List.map_cons, ih, hq.1]
    rw [em pr]; exact ndp
end
/-! ### the rules -/
section
variable {X : Cx} {o i value : Expr} {pos pos' : Pos} {td ty tv : TE}
def tNdNew (P : Program) (w : World) : TE := fun _ H Q => ∀ p, H p = none → Q (.ref p) (upd H p (NdO P w p []))
theorem nd_empty {P : Program} {w : World} {H : Hp} (h : Heap) (hb : sysModules < h.objs.size) : ObjOk P w H (h.push { cls := .type "dict", data := .dict #[] }) h.objs.size (NdO P w h.objs.size []) := by
  refine ⟨⟨beq_eq_false_iff_ne.mpr (Ne.symm (Nat.ne_of_lt hb)), Nat.zero_le _, List.nodup_nil, _, #[], 0, [], Heap.get?_push_size _ rfl, ⟨rfl, rfl, rfl⟩, rfl, rfl, .nil⟩, ⟨_, Heap.get?_push_size _ rfl⟩, ?_⟩
  rintro h1 h2 ⟨a1, a2, a3, o, es, ep, xs, e1, e2⟩ k
  exact ⟨a1, a2, a3, o, es, ep, xs, k o e1, e2⟩
theorem pe_ndnew : PE X (.Dict [] [] pos) (tNdNew X.prog X.w) := ⟨fun pins s σ H Q I h =>
  wpAny_Dict_empty ⟨.ref s.heap.objs.size, _, I.laid (a := s.heap.objs.size) (o := NdO X.prog X.w s.heap.objs.size []) (t' := s.toks) (fun _ _ q => Heap.get?_push_of_some _ q) (Nat.le_refl _) (nd_empty s.heap I.big), rfl, h _ (I.hok.fresh (Nat.le_refl _))⟩⟩
def rNdNot (K : PySem.W.Frag) (P : Program) (w : World) : R2 := fun x y H Q => ∃ (a b : Addr) (ents : List (Nk × Addr × V)) (k : Nk), x = .ref b ∧ y = .ref a ∧ NdAt K P w H a ents ∧ NkAt K H k (.ref b) ∧ k.dep ≤ 7 ∧ Q (.bl (!(ndV ents k).isSome)) H
theorem room_nd {P : Program} {w : World} {A : Around} (hu : A.units + 65 < cLine) : (nestKind P w).room A.in1 := by
  show A.units + 1 + 8 < cLine
  omega
theorem op_ndnot (hu : X.A.units + 65 < cLine) : OpR X (compareOp .NotIn) (rNdNot X.K X.prog X.w) := by
  intro pins s σ H x y v u Q I rx ry h
  obtain ⟨a, b, ents, k, rfl, rfl, hd, hk, hdep, q⟩ := h
  cases (show v = Value.ref b from rx)
  cases (show u = Value.ref a from ry)
  obtain ⟨lo, sz, xs, pr, dd⟩ := nd_open I hd
  refine wpAny_notIn_heap (room_nd hu) ⟨nk_is I hk rfl, hdep⟩ lo dd ?_
  have e := (ndV_rel pr k).isSome_eq
  rw [Option.isSome_map] at e
  rw [← e]
  exact ⟨.bl _, H, I.tok _, rfl, q⟩
def tNdGet (K : PySem.W.Frag) (P : Program) (w : World) (td ty : TE) : TE := fun σ H Q => td σ H fun x H1 => ty σ H1 fun y H2 => ∃ (a b : Addr) (ents : List (Nk × Addr × V)) (k : Nk) (v : V), x = .ref a ∧ y = .ref b ∧ NdAt K P w H2 a ents ∧ NkAt K H2 k (.ref b) ∧ k.dep ≤ 7 ∧ ndV ents k = some v ∧ Q v H2
theorem pe_ndget (hu : X.A.units + 65 < cLine) (ho : PE X o td) (hi : PE X i ty) (hs : NoSl i) : PE X (.Subscript o i pos) (tNdGet X.K X.prog X.w td ty) := by
  refine ⟨fun pins s σ H Q I h => ?_⟩
  refine subD_of PySem.F.slot_dict_getitem.lookup hs (thn (ho.run pins s σ H _ I h) fun u s1 ⟨x, H1, I1, rx, q1⟩ => thn (hi.run pins s1 σ H1 _ I1 q1) fun iv s2 ⟨y, H2, I2, ry, a, b, ents, k, v, ex, ey, hd, hk, hdep, hv, q2⟩ => ?_)
  subst ex ey
  obtain rfl : u = Value.ref a := rx
  obtain rfl : iv = Value.ref b := ry
  obtain ⟨lo, sz, xs, pr, dd⟩ := nd_open I2 hd
  refine ⟨dd.typeIs, ?_⟩
  obtain ⟨w', hw, rw'⟩ := RelO.some_of (v := v) (o := (atKey xs k).map (·.2)) (by rw [← hv]; exact ndV_rel pr k)
  obtain ⟨p, hp, hp2⟩ := Option.map_eq_some_iff.mp hw
  refine wpAny_getItem_heap (room_nd hu) ⟨nk_is I2 hk rfl, hdep⟩ dd hp ?_
  rw [hp2]
  exact ⟨v, H2, I2.tok _, rw', q2⟩
def sNdPut (K : PySem.W.Frag) (P : Program) (w : World) (td ty tv : TE) : TS := fun D σ H => tv σ H fun v H1 => td σ H1 fun x H2 => ty σ H2 fun y H3 => ∃ (a b : Addr) (ents : List (Nk × Addr × V)) (k : Nk), x = .ref a ∧ y = .ref b ∧ NdAt K P w H3 a ents ∧ NkAt K H3 k (.ref b) ∧ k.dep ≤ 7 ∧ ndV ents k = none ∧ ents.length < sizeLine ∧ D.nx σ (upd H3 a (NdO P w a (ents ++ [(k, b, v)])))
theorem ps_ndput (hu : X.A.units + 65 < cLine) (ho : PE X o td) (hi : PE X i ty) (hv : PE X value tv) (hs : swapsWith value (some (.Subscript o i pos')) pos.line X.env = pure false) :
    PS X (.Assign [.Subscript o i pos'] value pos) (sNdPut X.K X.prog X.w td ty tv) := by
  refine ⟨fun pins s σ H D I h => ?_⟩
  refine wpAny_Assign_Subscript (thn (hv.run pins s σ H _ I h) fun r s1 ⟨v, H1, I1, rv, q1⟩ => thn (ho.run pins s1 σ H1 _ I1 q1) fun u s2 ⟨x, H2, I2, rx, q2⟩ => thn (hi.run pins s2 σ H2 _ I2 q2) fun iv s3 ⟨y, H3, I3, ry, a, b, ents, k, ex, ey, hd, hk, hdep, hn, hl, q3⟩ => ?_) hs
  subst ex ey
  obtain rfl : u = Value.ref a := rx
  obtain rfl : iv = Value.ref b := ry
  obtain ⟨lo, sz, xs, pr, dd⟩ := nd_open I3 hd
  have hz : xs.length ≤ sizeLine := by rw [← pr.length]; exact sz
  have ha : atKey xs k = none := by
    have := ndV_rel pr k
    rw [hn] at this
    cases e : atKey xs k with
    | none => rfl
    | some p => rw [e] at this; exact this.elim
  refine wpAny_setItem_heap (hsz := hz) (room_nd hu) ⟨nk_is I3 hk rfl, hdep⟩ dd fun h' dd' hs => ⟨σ, _, ?_, q3⟩
  rw [storedH_new ha] at dd'
  obtain ⟨q, es, ep, hq, h2, h3, h4, h6, h5⟩ := dd'
  have em : ∀ {l : List (Nk × Addr × V)} {m : List (Nk × Addr × Value)}, All2 EVR l m → m.map (·.1) = l.map (·.1) := by
    intro l m q
    induction q with
    | nil => rfl
    | cons hq _ ih => rw [List.map_cons, List.map_cons, ih, hq.1]
  have pr' : All2 EVR (ents ++ [(k, b, v)]) (xs ++ [(k, b, r)]) := pr.append (.cons ⟨rfl, rfl, rv⟩ .nil)
  refine d_write I3 (by rw [hd.1]; exact True.intro) hs ⟨q, hq⟩ ⟨⟨lo, by rw [List.length_append, List.length_singleton]; omega, by rw [← em pr']; exact h5, q, es, ep, _, hq, h2, h3, h4, pr'⟩, ⟨q, hq⟩, ?_⟩
  rintro h1 h2 ⟨a1, a2, a3, o, es, ep, xs, e1, e2⟩ k
  exact ⟨a1, a2, a3, o, es, ep, xs, k o e1, e2⟩
end
end Ndk

set_option Elab.async false
set_option linter.all false
set_option maxRecDepth 100000
set_option maxHeartbeats 4000000
/-! Tables of bits: whole numbers each bit of which tells of one choice of values. -/
namespace Bts
open PySem L2 Fo
def bits : Nat → (Nat → Bool) → Nat
  | 0, _ => 0
  | n + 1, φ => bits n φ + if φ n = true then 2 ^ n else 0
theorem bits_lt (φ : Nat → Bool) : ∀ n, bits n φ < 2 ^ n
  | 0 => by simp [bits]
  | n + 1 => by
    have := bits_lt φ n
    rw [bits, Nat.pow_succ]
    split <;> omega
theorem bit_at (φ : Nat → Bool) : ∀ (n i : Nat), (bits n φ).testBit i = (decide (i < n) && φ i)
  | 0, i => by simp [bits]
  | n + 1, i => by
    have lt := bits_lt φ n
    have ih := bit_at φ n i
    rw [bits]
    by_cases h : φ n = true
    · rw [if_pos h, Nat.add_comm]
      rcases Nat.lt_trichotomy i n with l | l | l
      · rw [Nat.testBit_two_pow_add_gt l, ih]
        simp [l, Nat.lt_succ_of_lt l]
      · subst l
        rw [Nat.testBit_two_pow_add_eq]
        rw [ih]
        simp [h]
      · have : 2 ^ n + bits n φ < 2 ^ i := by
          have : 2 ^ (n + 1) ≤ 2 ^ i := Nat.pow_le_pow_right (by decide) l
          rw [Nat.pow_succ] at this
          omega
        rw [Nat.testBit_lt_two_pow this]
        simp; intro z; omega
    · have hf : φ n = false := by simpa using h
      rw [if_neg h, Nat.add_zero, ih]
      rcases Nat.lt_trichotomy i n with l | l | l
      · simp [l, Nat.lt_succ_of_lt l]
      · subst l; simp [hf]
      · have h1 : ¬ i < n := by omega
        have h2 : ¬ i < n + 1 := by omega
        simp [h1, h2]
theorem bits_ext {n : Nat} {φ : Nat → Bool} {T : Nat} (h : ∀ i, T.testBit i = (decide (i < n) && φ i)) : T = bits n φ :=
  Nat.eq_of_testBit_eq fun i => by rw [h, bit_at]
theorem bits_congr {n : Nat} {φ ψ : Nat → Bool} (h : ∀ i, i < n → φ i = ψ i) : bits n φ = bits n ψ := bits_ext fun i => by
  rw [bit_at]
  by_cases l : i < n
  · rw [h i l]
  · simp [l]
theorem bits_full (n : Nat) : 2 ^ n - 1 = bits n fun _ => true := bits_ext fun i => by rw [Nat.testBit_two_pow_sub_one]; simp
theorem bits_none (n : Nat) : 0 = bits n fun _ => false := bits_ext fun i => by simp
theorem bits_and (n : Nat) (φ ψ : Nat → Bool) : bits n φ &&& bits n ψ = bits n fun i => φ i && ψ i := bits_ext fun i => by
  rw [Nat.testBit_and, bit_at, bit_at]
  cases decide (i < n) <;> simp
theorem bits_or (n : Nat) (φ ψ : Nat → Bool) : bits n φ ||| bits n ψ = bits n fun i => φ i || ψ i := bits_ext fun i => by
  rw [Nat.testBit_or, bit_at, bit_at]
  cases decide (i < n) <;> simp
theorem bits_not (n : Nat) (φ : Nat → Bool) : bits n (fun _ => true) ^^^ bits n φ = bits n fun i => !φ i := bits_ext fun i => by
  rw [Nat.testBit_xor, bit_at, bit_at]
  cases decide (i < n) <;> simp
/-- the upper part -/
theorem bits_part (n k : Nat) (φ : Nat → Bool) (N : Nat) (h : k + n ≤ N) : (bits N φ >>> k) &&& bits n (fun _ => true) = bits n fun i => φ (k + i) := bits_ext fun i => by
  rw [Nat.testBit_and, Nat.testBit_shiftRight, bit_at, bit_at]
  by_cases l : i < n
  · have : k + i < N := by omega
    simp [l, this]
  · simp [l]
theorem bits_shl (n k : Nat) (φ : Nat → Bool) (N : Nat) (h : k + n ≤ N) : bits n φ * 2 ^ k = bits N fun i => decide (k ≤ i) && decide (i < k + n) && φ (i - k) := bits_ext fun i => by
  rw [← Nat.shiftLeft_eq, Nat.testBit_shiftLeft, bit_at]
  by_cases l : k ≤ i
  · by_cases l2 : i < k + n
    · have : i - k < n := by omega
      have : i < N := by omega
      simp [*]
    · have : ¬ i - k < n := by omega
      simp [l, l2, this]
  · simp [l]
/-- one after the other -/
theorem bits_sum (n : Nat) (φ : Nat → Bool) : ∀ m : Nat, ((List.range m).map fun e => bits n φ * 2 ^ (e * n)).sum = bits (m * n) fun i => φ (i % n)
  | 0 => by simp [bits]
  | m + 1 => by
    rw [List.range_succ, List.map_append, List.sum_append, bits_sum n φ m]
    simp only [List.map_cons, List.map_nil, List.sum_cons, List.sum_nil, Nat.add_zero]
    have hd : bits (m * n) (fun i => φ (i % n)) < 2 ^ (m * n) := bits_lt _ _
    refine bits_ext fun i => ?_
    rw [Nat.add_comm, Nat.mul_comm (bits n φ), Nat.testBit_two_pow_mul_add _ hd]
    by_cases l : i < m * n
    · rw [if_pos l, bit_at]
      have : i < (m + 1) * n := by rw [Nat.succ_mul]; omega
      simp [l, this]
    · rw [if_neg l, bit_at]
      by_cases l2 : i - m * n < n
      · have h3 : i < (m + 1) * n := by rw [Nat.succ_mul]; omega
        have h4 : i % n = i - m * n := by
          have e : i = (i - m * n) + n * m := by rw [Nat.mul_comm n m]; omega
          rw [e, Nat.add_mul_mod_self_left, Nat.mod_eq_of_lt l2]
          rw [Nat.mul_comm n m]; omega
        simp [l2, h3, h4]
      · have h3 : ¬ i < (m + 1) * n := by rw [Nat.succ_mul]; omega
        simp [l2, h3]
/-! ### the values that a place stands for -/
def envI (m : Nat) : (Str → Int) → List Str → Nat → (Str → Int)
  | e, [], _ => e
  | e, x :: xs, i => envI m (Fm.set1 e x ((i % m : Nat) : Int)) xs (i / m)
theorem env_snoc (m : Nat) : ∀ (xs : List Str) (e : Str → Int) (y : Str) (i : Nat), envI m e (xs ++ [y]) i = Fm.set1 (envI m e xs i) y ((i / m ^ xs.length % m : Nat) : Int)
  | [], e, y, i => by simp [envI]
  | x :: xs, e, y, i => by
    rw [List.cons_append, envI, env_snoc m xs, envI, List.length_cons, Nat.pow_succ, Nat.mul_comm, Nat.div_div_eq_div_mul]
theorem env_mod (m : Nat) : ∀ (xs : List Str) (e : Str → Int) (i : Nat), envI m e xs (i % m ^ xs.length) = envI m e xs i
  | [], e, i => rfl
  | x :: xs, e, i => by
    rw [envI, envI, List.length_cons, Nat.pow_succ]
    have h1 : i % (m ^ xs.length * m) % m = i % m := by rw [Nat.mul_comm]; exact Nat.mod_mul_right_mod i m (m ^ xs.length)
    have h2 : i % (m ^ xs.length * m) / m = i / m % m ^ xs.length := by rw [Nat.mul_comm]; exact Nat.mod_mul_right_div_self i m (m ^ xs.length)
    rw [h1, h2, env_mod m xs]
theorem env_out (m : Nat) : ∀ (xs : List Str) (e : Str → Int) (i : Nat) (y : Str), y ∉ xs → envI m e xs i y = e y
  | [], e, i, y, _ => rfl
  | x :: xs, e, i, y, h => by
    rw [envI, env_out m xs _ _ y (fun z => h (List.mem_cons_of_mem _ z))]
    unfold Fm.set1
    rw [if_neg (fun z => h (by rw [z]; exact List.mem_cons_self))]
theorem env_at (m : Nat) (xs zs : List Str) (y : Str) (e : Str → Int) (i : Nat) (h : y ∉ zs) : envI m e (xs ++ y :: zs) i y = ((i / m ^ xs.length % m : Nat) : Int) := by
  have main : ∀ (zs : List Str), y ∉ zs → ∀ (e : Str → Int) (xs : List Str) (i : Nat), envI m e (xs ++ y :: zs) i y = ((i / m ^ xs.length % m : Nat) : Int) := by
    intro zs hz e xs
    induction xs generalizing e with
    | nil =>
      intro i
      rw [List.nil_append, envI, env_out m zs _ _ y hz]
      simp [Fm.set1]
    | cons x xs ih =>
      intro i
      rw [List.cons_append, envI, ih, List.length_cons, Nat.pow_succ, Nat.mul_comm, Nat.div_div_eq_div_mul]
  exact main zs h e xs i
/-- the table of a formula within the names xs -/
def tab (m : Nat) (rs : List (Str × List (List Int))) (e : Str → Int) (f : Fm) (xs : List Str) : Nat := bits (m ^ xs.length) fun i => Fm.tv m rs f (envI m e xs i)
theorem tab_lt (m : Nat) (rs : List (Str × List (List Int))) (e : Str → Int) (f : Fm) (xs : List Str) : tab m rs e f xs < 2 ^ (m ^ xs.length) := bits_lt _ _
end Bts

set_option Elab.async false
set_option linter.all false
set_option maxRecDepth 100000
set_option maxHeartbeats 4000000
namespace Bts
open PySem L2 Fo
/-- the names have these values, one by one -/
def mt (g : Str → Int) : List Str → List Int → Bool
  | [], [] => true
  | z :: zs, t :: ts => decide (g z = t) && mt g zs ts
  | _, _ => false
theorem mt_eqv (g : Str → Int) : ∀ (zs : List Str) (r : List Int), PyData.eqvAll (r.map PyData.int) ((zs.map g).map PyData.int) = mt g zs r
  | [], [] => by simp [PyData.eqvAll, mt]
  | [], t :: ts => by simp [PyData.eqvAll, mt]
  | z :: zs, [] => by simp [PyData.eqvAll, mt]
  | z :: zs, t :: ts => by
    rw [List.map_cons, List.map_cons, List.map_cons, PyData.eqvAll, mt_eqv g zs ts, mt, PyData.eqv]
    congr 1
    by_cases e : g z = t
    · subst e; simp
    · rw [decide_eq_false e]
      simp
      exact fun q => e q.symm
theorem tv_rel {m : Nat} {rs : List (Str × List (List Int))} {n : Str} {ts : List (List Int)} (h : Fm.rows rs n = some ts) (zs : List Str) (g : Str → Int) : Fm.tv m rs (.rel n zs) g = ts.any fun r => mt g zs r := by
  rw [Fm.tv, Fm.holds, h]
  show (ts.map fun z : List Int => PyData.tuple (z.map PyData.int)).any _ = _
  rw [List.any_map]
  congr 1
  funext r
  show PyData.eqv (.tuple (r.map PyData.int)) (.tuple ((zs.map g).map PyData.int)) = _
  rw [PyData.eqv, mt_eqv]
theorem tv_same {m : Nat} (rs : List (Str × List (List Int))) (y z : Str) (g : Str → Int) (h : 0 ≤ g y ∧ g y < (m : Int)) : Fm.tv m rs (.same y z) g = ((List.range m).map fun j : Nat => [(j : Int), (j : Int)]).any fun r => mt g [y, z] r := by
  rw [Fm.tv, List.any_map]
  by_cases e : g y = g z
  · rw [decide_eq_true e]
    refine (List.any_eq_true.mpr ⟨(g y).toNat, List.mem_range.mpr (by omega), ?_⟩).symm
    show mt g [y, z] [(((g y).toNat : Nat) : Int), (((g y).toNat : Nat) : Int)] = true
    have h1 : g y = (((g y).toNat : Nat) : Int) := by omega
    have h2 : g z = (((g y).toNat : Nat) : Int) := by rw [← e]; exact h1
    rw [mt, mt, mt, decide_eq_true h1, decide_eq_true h2]
    rfl
  · rw [decide_eq_false e]
    refine Eq.symm ?_
    rw [List.any_eq_false]
    intro j _ q
    have q' : mt g [y, z] [(j : Int), (j : Int)] = true := q
    rw [mt, mt, mt, Bool.and_eq_true, Bool.and_eq_true] at q'
    have h1 := of_decide_eq_true q'.1
    have h2 := of_decide_eq_true q'.2.1
    exact e (h1.trans h2.symm)
theorem and_fold (n : Nat) (g : Nat → Str → Int) : ∀ (zs : List Str) (r : List Int) (ψ : Nat → Bool), zs.length = r.length → ((zs.zip r).map fun p => bits n fun i => decide (g i p.1 = p.2)).foldl (fun x y => x &&& y) (bits n ψ) = bits n fun i => ψ i && mt (g i) zs r
  | [], [], ψ, _ => by
    show bits n ψ = _
    exact bits_congr fun i _ => by simp [mt]
  | z :: zs, t :: ts, ψ, h => by
    rw [List.zip_cons_cons, List.map_cons, List.foldl_cons, bits_and, and_fold n g zs ts _ (by simpa using h)]
    exact bits_congr fun i _ => by rw [mt, Bool.and_assoc]
theorem or_snoc (n : Nat) (p : List Int → Nat → Bool) (rs : List (List Int)) (r : List Int) : (bits n fun i => rs.any fun r => p r i) ||| (bits n fun i => p r i) = bits n fun i => (rs ++ [r]).any fun r => p r i := by
  rw [bits_or]
  exact bits_congr fun i _ => by rw [List.any_append]; simp
theorem env_rng {m : Nat} (hm : 0 < m) : ∀ (xs : List Str) (e : Str → Int) (i : Nat) (y : Str), (y ∉ xs → 0 ≤ e y ∧ e y < (m : Int)) → 0 ≤ envI m e xs i y ∧ envI m e xs i y < (m : Int)
  | [], e, i, y, h => h (by simp)
  | x :: xs, e, i, y, h => by
    rw [envI]
    refine env_rng hm xs _ _ y fun hy => ?_
    unfold Fm.set1
    by_cases z : y = x
    · rw [if_pos z]
      have := Nat.mod_lt i hm
      omega
    · rw [if_neg z]
      exact h (by simp [z, hy])
end Bts

set_option Elab.async false
set_option linter.all false
set_option maxRecDepth 100000
set_option maxHeartbeats 4000000
namespace Bts
open PySem L2 Fo
theorem fold_and (n : Nat) : ∀ (ts : List (Nat → Bool)) (ψ : Nat → Bool), (ts.map (bits n)).foldl (fun x y => x &&& y) (bits n ψ) = bits n fun i => ψ i && ts.all fun t => t i
  | [], ψ => bits_congr fun i _ => by simp
  | t :: ts, ψ => by
    rw [List.map_cons, List.foldl_cons, bits_and, fold_and n ts]
    exact bits_congr fun i _ => by rw [List.all_cons, Bool.and_assoc]
theorem fold_or (n : Nat) : ∀ (ts : List (Nat → Bool)) (ψ : Nat → Bool), (ts.map (bits n)).foldl (fun x y => x ||| y) (bits n ψ) = bits n fun i => ψ i || ts.any fun t => t i
  | [], ψ => bits_congr fun i _ => by simp
  | t :: ts, ψ => by
    rw [List.map_cons, List.foldl_cons, bits_or, fold_or n ts]
    exact bits_congr fun i _ => by rw [List.any_cons, Bool.or_assoc]
theorem tvs_and (m : Nat) (rs : List (Str × List (List Int))) (e : Str → Int) : ∀ fs : List Fm, Fm.tvs m rs true fs e = fs.all fun f => Fm.tv m rs f e
  | [] => by rw [Fm.tvs]; rfl
  | f :: fs => by
    rw [Fm.tvs, tvs_and m rs e fs, List.all_cons]
    cases Fm.tv m rs f e <;> simp
theorem tvs_or (m : Nat) (rs : List (Str × List (List Int))) (e : Str → Int) : ∀ fs : List Fm, Fm.tvs m rs false fs e = fs.any fun f => Fm.tv m rs f e
  | [] => by rw [Fm.tvs]; rfl
  | f :: fs => by
    rw [Fm.tvs, tvs_or m rs e fs, List.any_cons]
    cases Fm.tv m rs f e <;> simp
variable (m : Nat) (rs : List (Str × List (List Int))) (e : Str → Int)
theorem tab_neg (f : Fm) (xs : List Str) : bits (m ^ xs.length) (fun _ => true) ^^^ tab m rs e f xs = tab m rs e (.neg f) xs := by
  rw [tab, bits_not, tab]
  exact bits_congr fun i _ => by rw [Fm.tv]
theorem tab_and (fs : List Fm) (xs : List Str) : (fs.map fun f => tab m rs e f xs).foldl (fun x y => x &&& y) (bits (m ^ xs.length) fun _ => true) = tab m rs e (.con true fs) xs := by
  have := fold_and (m ^ xs.length) (fs.map fun f i => Fm.tv m rs f (envI m e xs i)) fun _ => true
  rw [List.map_map] at this
  refine Eq.trans this ?_
  rw [tab]
  exact bits_congr fun i _ => by rw [Fm.tv, tvs_and, List.all_map, Bool.true_and]; rfl
theorem tab_or (fs : List Fm) (xs : List Str) : (fs.map fun f => tab m rs e f xs).foldl (fun x y => x ||| y) 0 = tab m rs e (.con false fs) xs := by
  have := fold_or (m ^ xs.length) (fs.map fun f i => Fm.tv m rs f (envI m e xs i)) fun _ => false
  rw [← bits_none, List.map_map] at this
  refine Eq.trans this ?_
  rw [tab]
  exact bits_congr fun i _ => by rw [Fm.tv, tvs_or, List.any_map, Bool.false_or]; rfl
/-- what parting gives -/
theorem tab_part (f : Fm) (xs : List Str) (y : Str) : ((List.range m).map fun j => bits (m ^ xs.length) fun i => Fm.tv m rs f (envI m e (xs ++ [y]) (j * m ^ xs.length + i))) = ((List.range m).map fun (j : Nat) (i : Nat) => Fm.tv m rs f (Fm.set1 (envI m e xs i) y (j : Int))).map (bits (m ^ xs.length)) := by
  rw [List.map_map]
  refine List.map_congr_left fun j hj => ?_
  have hjm := List.mem_range.mp hj
  refine bits_congr fun i hi => ?_
  have hp : 0 < m ^ xs.length := by omega
  have e1 : (j * m ^ xs.length + i) / m ^ xs.length = j := by
    rw [Nat.add_comm, Nat.add_mul_div_right _ _ hp, Nat.div_eq_of_lt hi, Nat.zero_add]
  have e2 : envI m e xs (j * m ^ xs.length + i) = envI m e xs i := by
    rw [← env_mod m xs e (j * m ^ xs.length + i), Nat.add_comm, Nat.add_mul_mod_self_right, Nat.mod_eq_of_lt hi]
  rw [env_snoc, e1, e2, Nat.mod_eq_of_lt hjm]
theorem tab_some (f : Fm) (xs : List Str) (y : Str) : (((List.range m).map fun (j : Nat) (i : Nat) => Fm.tv m rs f (Fm.set1 (envI m e xs i) y (j : Int))).map (bits (m ^ xs.length))).foldl (fun x y => x ||| y) 0 = tab m rs e (.qu true y f) xs := by
  have := fold_or (m ^ xs.length) ((List.range m).map fun (j : Nat) (i : Nat) => Fm.tv m rs f (Fm.set1 (envI m e xs i) y (j : Int))) fun _ => false
  rw [← bits_none] at this
  rw [this, tab]
  refine bits_congr fun i _ => ?_
  rw [Fm.tv, List.any_map, Bool.false_or]
  show (List.range m).any (fun j => Fm.tv m rs f (Fm.set1 (envI m e xs i) y (j : Int))) = _
  have z : (fun j : Nat => Fm.tv m rs f (Fm.set1 (envI m e xs i) y (j : Int)) != !true) = fun j : Nat => Fm.tv m rs f (Fm.set1 (envI m e xs i) y (j : Int)) := by funext j; simp
  rw [z]
  cases (List.range m).any (fun j => Fm.tv m rs f (Fm.set1 (envI m e xs i) y (j : Int))) <;> rfl
theorem tab_all (f : Fm) (xs : List Str) (y : Str) : (((List.range m).map fun (j : Nat) (i : Nat) => Fm.tv m rs f (Fm.set1 (envI m e xs i) y (j : Int))).map (bits (m ^ xs.length))).foldl (fun x y => x &&& y) (bits (m ^ xs.length) fun _ => true) = tab m rs e (.qu false y f) xs := by
  rw [fold_and, tab]
  refine bits_congr fun i _ => ?_
  rw [Fm.tv, List.all_map, Bool.true_and]
  show (List.range m).all (fun j => Fm.tv m rs f (Fm.set1 (envI m e xs i) y (j : Int))) = _
  have z : (fun j : Nat => Fm.tv m rs f (Fm.set1 (envI m e xs i) y (j : Int)) != !false) = fun j : Nat => !Fm.tv m rs f (Fm.set1 (envI m e xs i) y (j : Int)) := by funext j; cases Fm.tv m rs f (Fm.set1 (envI m e xs i) y (j : Int)) <;> rfl
  rw [z, List.all_eq_not_any_not]
  cases (List.range m).any (fun j => !Fm.tv m rs f (Fm.set1 (envI m e xs i) y (j : Int))) <;> rfl
end Bts

set_option Elab.async false
set_option linter.all false
set_option maxRecDepth 100000
set_option maxHeartbeats 4000000
/-! enumerate of a tuple, zip of a list and a tuple: what the hand layer walks, out of the walks that are there (WalksT). -/
namespace Enu
open PySem PySem.Spec PyProof.Rows L2
/-- a walk that gives new tuples, as turns of the hand layer -/
theorem turn_of {P : Program} {w : World} {K : PySem.W.Frag} {elts : List Expr} {kk : Nat} {tpos : Pos} {J : It} {fp : List Addr} {it : Addr} {tn : Nat → Heap → Prop} (mem : it ∈ fp)
    (obj : ∀ i h, tn i h → ∀ b ∈ fp, ∃ o, h.get? b = some o ∧ ∀ v, o.data ≠ .cell v)
    (keep : ∀ i h h', tn i h → (∀ b ∈ fp, ∀ o, h.get? b = some o → h'.get? b = some o) → tn i h')
    (self : ∀ (A : Around) (i : Nat) (s : Shared) (Q E : Value → Shared → Prop), tn i s.heap → Q (.ref it) s → wpAny (model P w) A (pyIter (.ref it)) Q E s)
    (walks : ∀ X : Cx, X.prog = P → X.w = w → X.K = K → X.calm = true → ∀ pins s σ H i, Inv X pins σ H s → tn i s.heap → (J.go i H ∨ J.stop i H) →
      ∃ (n : Nat) (Pt : Nat → Array Value → Prop) (St : Nat → Heap → Prop) (Mid : Nat → Addr → Heap → Prop) (fp' wr : List Addr), WalksT P w X.A it fp' wr n Pt St Mid ∧ (∀ b ∈ wr, b ∈ fp) ∧ St i s.heap ∧ (∀ h, St (i + 1) h → tn (i + 1) h) ∧
        (J.go i H → i < n ∧ ∀ vals, Pt i vals → ∃ xs : List V, Vals xs vals.toList ∧ xs.length ≤ sizeLine ∧ ∀ T, H T = none → J.yld i H (.ref T) (upd H T (.tup xs))) ∧ (J.stop i H → i = n)) :
    Turn P w K (.Tuple elts kk tpos) J fp it tn where
  mem := mem
  obj := obj
  keep := keep
  self := self
  item := by
    intro X hP hw hK hc i pins s σ H E I hf st hg
    obtain ⟨n, Pt, St, Mid, fp', wr, W, sub, hSt, back, give, _⟩ := walks X hP hw hK hc pins s σ H i I st (.inl hg)
    obtain ⟨hi, hv⟩ := give hg
    subst hP hw hK
    refine W.item i s _ _ hi hSt fun T vals h1 tk hPt hT hIs hMid k1 => ⟨.ref T, rfl, ?_⟩
    refine W.go elts kk tpos i T { s with heap := h1, toks := tk } _ _ hMid fun h2 hS2 k2 => ?_
    obtain ⟨xs, rv, hlen, hy⟩ := hv vals hPt
    have apart := W.apart i T h1 hMid
    have hIs2 : h2.IsTuple T vals := hIs.at fun o q => k2 T o apart q
    have fresh : H T = none := I.hok.fresh hT
    have ok : ObjOk X.prog X.w (upd H T (.tup xs)) h2 T (.tup xs) := ⟨hlen, vals.toList, rv, by rw [Array.toArray_toList]; exact hIs2⟩
    refine ⟨.ref T, _, I.turnedNew (t' := tk) (ch := wr) (fun b o hb q => k2 b o hb (k1 b o hb q)) (fun b hb => hf b (sub b hb)) hT ok, rfl, hy T fresh, back h2 hS2, fun b hb => ?_⟩
    obtain ⟨o, ho, _⟩ := obj i s.heap st b hb
    have lt : b < s.heap.objs.size := Heap.lt_size ho
    rw [upd_ne (Nat.ne_of_lt (Nat.lt_of_lt_of_le lt hT))]
    exact (hf b hb).1
  done := by
    intro X hP hw hK hc i pins s σ H E I hf st hg
    obtain ⟨n, Pt, St, Mid, fp', wr, W, sub, hSt, _, _, stop⟩ := walks X hP hw hK hc pins s σ H i I st (.inr hg)
    have e := stop hg
    subst hP hw hK e
    exact W.done s _ _ hSt fun h1 tk k1 => ⟨rfl, I.turnedL (t' := tk) (ch := wr) k1 fun b hb => hf b (sub b hb)⟩
/-- a tuple at a, its members with their numbers in new pairs -/
def IteT (K : PySem.W.Frag) (a : Addr) : It where
  go := fun i H => ∃ (xs : List V) (x : V), SqT K H a xs ∧ xs[i]? = some x
  yld := fun i H v G => ∃ T x, v = .ref T ∧ H T = none ∧ G = upd H T (.tup [.int (i : Nat), x]) ∧ ∀ xs, SqT K H a xs → xs[i]? = some x
  stop := fun i H => ∃ xs : List V, SqT K H a xs ∧ xs.length = i
/-- where an enumerate of the tuple stands -/
def AtE (a e it : Addr) (i : Nat) (h : Heap) : Prop := (∃ old, IsEnum h e it ((i : Nat) : Int) old) ∧ h.IsTupleIter it a i ∧ e ≠ it ∧ e ≠ a ∧ a ≠ it
theorem turn_enumT {P : Program} {w : World} {K : PySem.W.Frag} {elts : List Expr} {kk : Nat} {tpos : Pos} (a e it : Addr) : Turn P w K (.Tuple elts kk tpos) (IteT K a) [e, it] e (AtE a e it) := by
  refine turn_of List.mem_cons_self (fun i h st b hb => ?_) (fun i h h' st k => ?_) (fun A i s Q E st q => ?_) (fun X hP hw hK hc pins s σ H i I st hJ => ?_)
  · obtain ⟨⟨old, he⟩, ⟨o, ho, _, hd⟩, _⟩ := st
    simp only [List.mem_cons, List.not_mem_nil, or_false] at hb
    rcases hb with rfl | rfl
    · exact ⟨_, he, nofun⟩
    · exact ⟨o, ho, by rw [hd]; nofun⟩
  · obtain ⟨⟨old, he⟩, hi, r⟩ := st
    exact ⟨⟨old, k e (by simp) _ he⟩, hi.at (k it (by simp)), r⟩
  · obtain ⟨⟨old, he⟩, _⟩ := st
    exact wpAny_pyIter_enum he q
  · subst hP hw hK
    obtain ⟨he, hit, hne, hea, hai⟩ := st
    have hJ' : ∃ xs, SqT X.K H a xs := by
      rcases hJ with ⟨xs, _, h, _⟩ | ⟨xs, h, _⟩ <;> exact ⟨xs, h⟩
    obtain ⟨xs, hxs⟩ := hJ'
    obtain ⟨its, rv, p, _⟩ := I.tuple hxs
    have hh : X.A.in1.handled = none := I.ok.hd hc
    refine ⟨_, _, _, _, _, _, WalksT.enumerateD (A := X.A) (Draws.tuple hh it a hai its.toArray) e hne (by simp [hne, hea]) (by simp), fun b hb => hb, ⟨he, hit, p⟩, fun h st => ⟨st.1, st.2.1, hne, hea, hai⟩, fun hg => ?_, fun hs => ?_⟩
    · obtain ⟨ys, y, hys, hy⟩ := hg
      obtain rfl := I.tuple_inj hys hxs
      obtain ⟨u, hu, ru⟩ := rv.get hy
      refine ⟨by have := (List.getElem?_eq_some_iff.mp hu).1; simpa using this, fun vals hv => ?_⟩
      obtain ⟨t, x, hx, rfl⟩ := hv
      have ex : x = u := by
        have : its[i]? = some x := by simpa using hx
        rw [this] at hu
        injection hu
      subst ex
      exact ⟨[.int (i : Nat), y], .cons ⟨t, rfl⟩ (.cons ru .nil), (by show 2 ≤ sizeLine; decide), fun T nT => ⟨T, y, rfl, nT, rfl, fun zs hz => by rw [I.tuple_inj hz hxs]; exact hy⟩⟩
    · obtain ⟨ys, hys, hl⟩ := hs
      obtain rfl := I.tuple_inj hys hxs
      have := rv.length
      simp
      omega
/-- enumerate of what begins to be walked as B tells -/
theorem meets_new {v : Value} {o : Obj} {H : Heap → Prop} (B : Begins v o H) : Meets (Builtin.«enumerate.__new__» ⟨[.type "enumerate", v], []⟩) (fun _ R s => H s.heap ∧ R (.ok (.ret (.ref (s.heap.push o).objs.size))) { s with heap := (s.heap.push o).push { cls := .type "enumerate", data := .fields #[.none, .bool false, .ref s.heap.objs.size, rawInt 0, .none, .none] } }) := by
  refine .of_wp fun prog w A R s h => ?_
  obtain ⟨hp, g, d, tk, os⟩ := s
  have sub := sub_enumerate
  have walk : ∀ {A' : Around} {E Q : Value → Shared → Prop}, Q (.ref hp.objs.size) ⟨hp.push o, g, d, tk, os⟩ → wpAny (model prog w) A' (pyIter v) Q E ⟨hp, g, d, tk, os⟩ := fun q => B.iter prog w _ _ ⟨hp, g, d, tk, os⟩ _ h.1 q
  wp_walk using walk
  refine wpAny_stack_any fun st => wpAny_pure ?_
  split
  · rename_i c _ _ _ _ _
    cases (c == Value.type "enumerate") <;> (wp_walk using walk; exact ⟨_, rfl, h.2⟩)
  · wp_walk using walk
    exact ⟨_, rfl, h.2⟩
theorem call_new {prog : Program} {w : World} {A : Around} {E Q : Value → Shared → Prop} {s : Shared} {v : Value} {o : Obj} {H : Heap → Prop} (B : Begins v o H) (h1 : H s.heap)
    (h : ∀ G, IsEnum G (s.heap.objs.size + 1) s.heap.objs.size 0 .none → G.get? s.heap.objs.size = some o → (∀ b u, s.heap.get? b = some u → G.get? b = some u) → Q (.ref (s.heap.objs.size + 1)) { s with heap := G }) : wpAny (model prog w) A (call (.type "enumerate") [v]) Q E s := by
  have size : (s.heap.push o).objs.size = s.heap.objs.size + 1 := Heap.size_push ..
  have last := Heap.get?_push_size (s.heap.push o) (o := { cls := .type "enumerate", data := .fields #[.none, .bool false, .ref s.heap.objs.size, rawInt 0, .none, .none] }) rfl
  have go := h _ (by rw [size] at last; exact last) (Heap.get?_push_of_some _ (Heap.get?_push_size _ B.free)) fun b u q => Heap.get?_push_of_some _ (Heap.get?_push_of_some _ q)
  rw [← size] at go
  exact callType_new F.called_enumerate (by decide) (F.typeCall_enumerate_1 _) (F.newCall_enumerate_1 _) (fun obj => F.args_object_init_2 obj _) F.entry_enumerate_new (meets_new B) ⟨h1, ⟨_, last, rfl⟩, go⟩
def iEnumT (K : PySem.W.Frag) (ta : TA) : TI := fun σ H R => ta σ H fun vs G => ∃ a xs, vs = [.ref a] ∧ SqT K G a xs ∧ R (IteT K a) G
theorem pi_enumT {X : Cx} {e : Expr} {ta : TA} {p pos tpos : Pos} {elts : List Expr} {kk : Nat} (hg : Gl X "enumerate") (hm : X.mg "enumerate" = none) (ha : PA X [e] ta) (one : starEach [e] X.env = [(false, eval e X.env)] := by rfl) : PI X (.Tuple elts kk tpos) (.Call (.Name "enumerate" p) [e] [] pos) (iEnumT X.K ta) := ⟨fun pins s σ H R I h => by
  refine Call_ (ld_blt I hg hm boot_enumerate (PyProof.Rows.callWith_type1 (thn (ha.run pos pins s σ H _ I h) fun us s1 ⟨vs, G, J, r, a, xs, ex, hq, q⟩ => ?_) one rfl))
  subst ex
  obtain ⟨u, rfl, rfl⟩ := vals1 r
  obtain ⟨its, _, tup, _⟩ := J.tuple hq
  have lt : a < s1.heap.objs.size := by obtain ⟨_, z, _⟩ := id tup; exact Heap.lt_size z
  refine call_new (begins_tuple a its.toArray) tup fun h2 he hit k => wpAny_pyIter_enum he ⟨_, [_, _], _, _, G, rfl, J.kept (t' := s1.toks) k, turn_enumT a (s1.heap.objs.size + 1) s1.heap.objs.size, ⟨⟨.none, he⟩, ⟨_, hit, rfl, rfl⟩, Nat.succ_ne_self _, Ne.symm (Nat.ne_of_lt (Nat.lt_succ_of_lt lt)), Nat.ne_of_lt lt⟩, fun b hb => ?_, q⟩
  have le : s1.heap.objs.size ≤ b := by
    simp only [List.mem_cons, List.not_mem_nil, or_false] at hb
    rcases hb with rfl | rfl
    · exact Nat.le_succ _
    · exact Nat.le_refl _
  exact J.fpOk le (J.hok.fresh le)⟩
/-! zip of a list and a tuple of one length -/
def ItzM (K : PySem.W.Frag) (a b : Addr) : It where
  go := fun i H => ∃ (xs ys : List V) (x y : V), SqL K H a xs ∧ SqT K H b ys ∧ xs[i]? = some x ∧ ys[i]? = some y
  yld := fun i H v G => ∃ T x y, v = .ref T ∧ H T = none ∧ G = upd H T (.tup [x, y]) ∧ (∀ xs, SqL K H a xs → xs[i]? = some x) ∧ ∀ ys, SqT K H b ys → ys[i]? = some y
  stop := fun i H => ∃ xs ys : List V, SqL K H a xs ∧ SqT K H b ys ∧ xs.length = i ∧ ys.length = i
/-- where such a zip stands -/
def AtZ (a b z TI TO i1 i2 : Addr) (i : Nat) (h : Heap) : Prop := IsZip h z TI TO .none ∧ IsTupOf2 h TI (.ref i1) (.ref i2) ∧ (∃ x y, IsTupOf2 h TO x y) ∧ h.IsListIter i1 a i ∧ h.IsTupleIter i2 b i
theorem turn_zipM {P : Program} {w : World} {K : PySem.W.Frag} {elts : List Expr} {kk : Nat} {tpos : Pos} {a b z TI TO i1 i2 : Addr} (S : ZipSep2 z TI TO i1 i2 [i1, a] [i2, b]) (na : a ≠ i1) (nb : b ≠ i2) : Turn P w K (.Tuple elts kk tpos) (ItzM K a b) [z, TI, TO, i1, i2] z (AtZ a b z TI TO i1 i2) := by
  refine turn_of List.mem_cons_self (fun i h st c hc => ?_) (fun i h h' st k => ?_) (fun A i s Q E st q => wpAny_pyIter_zip st.1 q) (fun X hP hw hK hc pins s σ H i I st hJ => ?_)
  · obtain ⟨h1, h2, ⟨x, y, h3⟩, ⟨o1, g1, _, d1⟩, o2, g2, _, d2⟩ := st
    simp only [List.mem_cons, List.not_mem_nil, or_false] at hc
    rcases hc with rfl | rfl | rfl | rfl | rfl
    · exact ⟨_, h1, nofun⟩
    · exact ⟨_, h2, nofun⟩
    · exact ⟨_, h3, nofun⟩
    · exact ⟨o1, g1, by rw [d1]; nofun⟩
    · exact ⟨o2, g2, by rw [d2]; nofun⟩
  · obtain ⟨h1, h2, ⟨x, y, h3⟩, g1, g2⟩ := st
    exact ⟨k _ (by simp) _ h1, k _ (by simp) _ h2, ⟨x, y, k _ (by simp) _ h3⟩, g1.at (k _ (by simp)), g2.at (k _ (by simp))⟩
  · subst hP hw hK
    obtain ⟨h1, h2, h3, g1, g2⟩ := st
    have hJ' : ∃ xs ys, SqL X.K H a xs ∧ SqT X.K H b ys := by
      rcases hJ with ⟨xs, ys, _, _, p, q, _⟩ | ⟨xs, ys, p, q, _⟩ <;> exact ⟨xs, ys, p, q⟩
    obtain ⟨xs, ys, hxs, hys⟩ := hJ'
    obtain ⟨its, rv, p, _⟩ := I.list hxs
    obtain ⟨jts, rw', q, _⟩ := I.tuple hys
    have hh : X.A.in1.handled = none := I.ok.hd hc
    refine ⟨_, _, _, _, _, _, WalksT.zipD2 (A := X.A) S (Draws.list hh i1 a na its.toArray) (Draws.tuple hh i2 b nb jts.toArray), fun c hc => ?_, ⟨h1, h2, h3, ⟨g1, p.isList⟩, g2, q⟩, fun h st => ⟨st.1, st.2.1, st.2.2.1, st.2.2.2.1.1, st.2.2.2.2.1⟩, fun hg => ?_, fun hs => ?_⟩
    · simp only [List.mem_cons, List.not_mem_nil, or_false] at hc ⊢
      rcases hc with e | e | e | e <;> simp [e]
    · obtain ⟨us, vs, x, y, hus, hvs, hx, hy⟩ := hg
      obtain rfl := I.list_inj hus hxs
      obtain rfl := I.tuple_inj hvs hys
      obtain ⟨u, hu, ru⟩ := rv.get hx
      obtain ⟨v, hv, rvv⟩ := rw'.get hy
      have l1 := (List.getElem?_eq_some_iff.mp hu).1
      have l2 := (List.getElem?_eq_some_iff.mp hv).1
      refine ⟨by simp; omega, fun vals hvals => ?_⟩
      obtain ⟨x1, x2, hx1, hx2, rfl⟩ := hvals
      have e1 : x1 = u := by
        have : its[i]? = some x1 := by simpa using hx1
        rw [this] at hu
        injection hu
      have e2 : x2 = v := by
        have : jts[i]? = some x2 := by simpa using hx2
        rw [this] at hv
        injection hv
      subst e1 e2
      exact ⟨[x, y], .cons ru (.cons rvv .nil), (by show 2 ≤ sizeLine; decide), fun T nT => ⟨T, x, y, rfl, nT, rfl, fun zs hz => by rw [I.list_inj hz hxs]; exact hx, fun zs hz => by rw [I.tuple_inj hz hys]; exact hy⟩⟩
    · obtain ⟨us, vs, hus, hvs, l1, l2⟩ := hs
      obtain rfl := I.list_inj hus hxs
      obtain rfl := I.tuple_inj hvs hys
      have := rv.length
      have := rw'.length
      simp
      omega
theorem sep_new {n a b : Nat} (ha : a < n) (hb : b < n) : ZipSep2 (n + 4) (n + 2) (n + 3) n (n + 1) [n, a] [n + 1, b] := by
  have ne : ∀ {x y : Nat}, (x < y ∨ y < x) → x ≠ y := fun h => by omega
  have nm : ∀ {x y z : Nat}, (x < y ∨ y < x) → (x < z ∨ z < x) → x ∉ [y, z] := fun h1 h2 h => by
    rcases List.mem_cons.mp h with e | h
    · omega
    · have := List.mem_singleton.mp h; omega
  exact ⟨ne (.inl (by omega)), ne (.inl (by omega)), ne (.inl (by omega)), ne (.inr (by omega)), List.mem_cons_self, nm (.inr (by omega)) (.inr (by omega)), nm (.inr (by omega)) (.inr (by omega)), ne (.inr (by omega)), List.mem_cons_self, nm (.inr (by omega)) (.inr (by omega)), nm (.inr (by omega)) (.inr (by omega)), nm (.inl (by omega)) (.inr (by omega)), nm (.inr (by omega)) (.inr (by omega))⟩
def iZipM (K : PySem.W.Frag) (ta : TA) : TI := fun σ H R => ta σ H fun vs G => ∃ a b xs ys, vs = [.ref a, .ref b] ∧ SqL K G a xs ∧ SqT K G b ys ∧ R (ItzM K a b) G
theorem pi_zipM {X : Cx} {e e2 : Expr} {ta : TA} {p pos tpos : Pos} {elts : List Expr} {kk : Nat} (hg : Gl X "zip") (hm : X.mg "zip" = none) (ha : PA X [e, e2] ta) (two : starEach [e, e2] X.env = (false, eval e X.env) :: starEach [e2] X.env := by rfl) (plain : (backTo pos (starEach [e2] X.env)).any (·.1) = false := by rfl) :
    PI X (.Tuple elts kk tpos) (.Call (.Name "zip" p) [e, e2] [] pos) (iZipM X.K ta) := ⟨fun pins s σ H R I h => by
  refine Call_ (ld_blt I hg hm PyProof.Rows.boot_zip (PyProof.Rows.callWith_type1 (thn (ha.run pos pins s σ H _ I h) fun us s1 ⟨vs, G, J, r, a, b, xs, ys, ex, hx, hy, q⟩ => ?_) two plain))
  subst ex
  obtain ⟨u, v, rfl, rfl, rfl⟩ := vals2 r
  obtain ⟨its, _, lst, _⟩ := J.list hx
  obtain ⟨jts, _, tup, _⟩ := J.tuple hy
  have la := lst.lt
  have lb : b < s1.heap.objs.size := by obtain ⟨_, z, _⟩ := id tup; exact Heap.lt_size z
  refine zip_begins2 (begins_list a its.toArray) (begins_tuple b jts.toArray) lst.isList tup fun h2 hz h3 h4 g1 g2 _ k => wpAny_pyIter_zip hz ⟨_, [_, _, _, _, _], _, _, G, rfl, J.kept (t' := s1.toks) k, turn_zipM (sep_new la lb) (Nat.ne_of_lt la) (Nat.ne_of_lt (Nat.lt_succ_of_lt lb)), ⟨hz, h3, ⟨_, _, h4⟩, ⟨_, g1, rfl, rfl⟩, _, g2, rfl, rfl⟩, fun c hc => ?_, q⟩
  have le : s1.heap.objs.size ≤ c := by
    simp only [List.mem_cons, List.not_mem_nil, or_false] at hc
    rcases hc with rfl | rfl | rfl | rfl | rfl <;> first | exact Nat.le_refl _ | exact Nat.le_add_right _ _
  exact J.fpOk le (J.hok.fresh le)⟩
/-! what they give -/
theorem walk_enumT {K : PySem.W.Frag} {a : Addr} {xs : List V} : Walk (IteT K a) xs.length (fun H => SqT K H a xs) (YPair (fun i => some (.int (i : Nat))) fun i => xs[i]?) where
  goes := fun i H hi q => ⟨xs, xs[i], q, List.getElem?_eq_getElem hi⟩
  stops := fun H q => ⟨xs, q, rfl⟩
  yields := fun i H v G _ q ⟨T, x, e1, e2, e3, f⟩ => ⟨T, _, x, e1, e2, e3, rfl, f xs q⟩
theorem walk_zipM {K : PySem.W.Frag} {a b : Addr} {xs ys : List V} (e : xs.length = ys.length) : Walk (ItzM K a b) xs.length (fun H => SqL K H a xs ∧ SqT K H b ys) (YPair (fun i => xs[i]?) fun i => ys[i]?) where
  goes := fun i H hi q => ⟨xs, ys, xs[i], ys[i]'(e ▸ hi), q.1, q.2, List.getElem?_eq_getElem hi, List.getElem?_eq_getElem (e ▸ hi)⟩
  stops := fun H q => ⟨xs, ys, q.1, q.2, rfl, e.symm⟩
  yields := fun i H v G _ q ⟨T, x, y, e1, e2, e3, f, g⟩ => ⟨T, x, y, e1, e2, e3, f xs q.1, g ys q.2⟩
end Enu

set_option Elab.async false
set_option linter.all false
set_option maxRecDepth 100000
set_option maxHeartbeats 4000000
/-! xs[::-1].index(x): a tuple that has just been made, and is known to have no dict. -/
namespace Tix
open PySem PySem.Spec PyProof.Rows L2
/-- a plain tuple -/
def TO (p : Addr) (xs : List V) : HO := .ext fun h => xs.length ≤ sizeLine ∧ ∃ (o : Obj) (its : List Value) (n : Nat), h.get? p = some o ∧ o.cls = .type "tuple" ∧ o.dict = none ∧ o.data = .seq its.toArray n ∧ Vals xs its
def tRevX (K : PySem.W.Frag) (te : TE) : TE := fun σ H Q => te σ H fun x H1 => ∃ a xs, x = .ref a ∧ SqT K H1 a xs ∧ ∀ p, H1 p = none → Q (.ref p) (upd H1 p (TO p xs.reverse))
theorem pe_revX {X : Cx} {e : Expr} {te : TE} {k : Nat} {p1 p2 p3 pos : Pos} (he : PE X e te) : PE X (.Subscript e (.Slice none none (some (.UnaryOp .USub (.Constant (.int 1) k p1) p2)) p3) pos) (tRevX X.K te) := by
  refine ⟨fun pins s σ H Q I h => ?_⟩
  refine Subscript_ (thn (he.run pins s σ H _ I h) fun v s1 ⟨x, H1, I1, r1, a, xs, ex, hx, q⟩ => ?_)
  subst ex
  cases r1
  have third : PO X (some (.UnaryOp .USub (.Constant (.int 1) k p1) p2)) (tPart (tUn (rU fun i => .int (-i)) (tC (.int 1)))) := po_some (pe_un un_neg pe_int)
  refine wpAny_Slice (thn (po_none.run pins s1 σ H1 (fun o G => o = none ∧ G = H1) I1 ⟨rfl, rfl⟩) fun va s2 ⟨oa, G, I2, qa, ea, eG⟩ => ?_)
  subst ea eG
  refine thn (po_none.run pins s2 σ G (fun o G' => o = none ∧ G' = G) I2 ⟨rfl, rfl⟩) fun vb s3 ⟨ob, G', I3, qb, eb, eG'⟩ => ?_
  subst eb eG'
  refine thn (third.run pins s3 σ G' (fun o G2 => o = some (-1) ∧ G2 = G') I3 ⟨1, rfl, -1, rfl, rfl, rfl⟩) fun vc s4 ⟨oc, G2, I4, qc, ec, eG2⟩ => ?_
  subst ec eG2
  have I5 : Inv X pins σ G2 { s4 with heap := s4.heap.push { cls := .type "slice", data := .fields #[va, vb, vc] } } := I4.kept (t' := s4.toks) fun b ob q => Heap.get?_push_of_some _ q
  obtain ⟨its, r, ht, hz⟩ := I5.tuple hx
  have hlen := r.length
  show wpAny (model X.prog X.w) X.A (subscriptTail e (.Slice none none (some (.UnaryOp .USub (.Constant (.int 1) k p1) p2)) p3) (.ref a) (.ref s4.heap.objs.size)) (EP X pins σ Q) X.xe { s4 with heap := s4.heap.push { cls := .type "slice", data := .fields #[va, vb, vc] } }
  refine tail_any (ops := [.ref a, .ref s4.heap.objs.size]) ht.typeIs PyProof.Rows.slot_tuple_getitem.lookup ?_ (by with_unfolding_all rfl)
  refine Rv.tup_rev ht (Heap.IsSliceOf.new _ va vb vc) qa qb qc ?_ (by rw [List.size_toArray]; omega)
  refine ⟨.ref _, _, I5.laid (t' := s4.toks) (o := TO _ xs.reverse) (fun b ob q => Heap.get?_push_of_some _ q) (Nat.le_refl _) ?_, rfl, q _ (I5.hok.fresh (Nat.le_refl _))⟩
  have g := Heap.get?_push_size (s4.heap.push { cls := .type "slice", data := .fields #[va, vb, vc] }) (o := { cls := .type "tuple", data := .seq its.reverse.toArray }) rfl
  refine ⟨⟨by rw [List.length_reverse]; exact hz, _, its.reverse, _, g, rfl, rfl, rfl, r.reverse⟩, ⟨_, g⟩, ?_⟩
  rintro h1 h2 ⟨a1, o, its, n, b1, b2, b3, b4, b5⟩ k
  exact ⟨a1, o, its, n, k o b1, b2, b3, b4, b5⟩
section
variable {X : Cx} {o e : Expr} {es : List Expr} {to : TE} {t : TA} {apos cpos : Pos}
def tTix (to : TE) (t : TA) : TE := fun σ H Q => to σ H fun x H1 => ∃ (p : Addr) (ys : List Str), x = .ref p ∧ H1 p = some (TO p (ys.map V.str)) ∧ t σ H1 fun vs H2 => ∃ (z : Str) (j : Nat), vs = [.str z] ∧ H2 p = some (TO p (ys.map V.str)) ∧ ys[j]? = some z ∧ (∀ m, m < j → ys[m]? ≠ some z) ∧ Q (.int (j : Nat)) H2
theorem pe_tix (ha : PA X (e :: es) t) (ho : PE X o to)
    (hbase : attributeBase o "index" X.env (eval o X.env) = eval o X.env := by rfl)
    (hfew : ((backTo cpos (starEach (e :: es) X.env)).all (fun x => !x.1) && (backToKw cpos (keywordEach [] X.env)).all (fun x => x.1.isSome)
      && decide ((e :: es).length + ([] : List Keyword).length + (if ([] : List Keyword).isEmpty then 0 else 1) < 30)) = true := by rfl)
    (hline : (apos.endLine == cpos.line) = true := by rfl) (hs : starEach (e :: es) X.env = (false, eval e X.env) :: starEach es X.env := by rfl) (hplain : (backTo cpos (starEach es X.env)).any (·.1) = false := by rfl) :
    PE X (.Call (.Attribute o "index" apos) (e :: es) [] cpos) (tTix to t) := by
  refine ⟨fun pins s σ H Q I h => ?_⟩
  refine wpAny_Call_method_late hbase hfew hline rfl (thn (ho.run pins s σ H _ I h) fun v s1 ⟨x, H1, I1, r1, p, ys, ex, hp, q1⟩ => ?_)
  subst ex
  obtain rfl : v = Value.ref p := r1
  obtain ⟨⟨_, ob, its, n, g1, g2, g3, g4, g5⟩, _, _⟩ := (show ObjOk X.prog X.w H1 s1.heap p (TO p (ys.map V.str)) from I1.hok p _ hp)
  refine ⟨"tuple", _, PySem.F.plainAttrs_tuple, PySem.F.slot_tuple_index, PySem.F.type_tuple_index, ⟨ob, g1, g2⟩, fun a ea => ?_, ?_⟩
  · cases ea
    exact ⟨ob, g1, g3⟩
  have hA := ha.run cpos pins s1 σ H1 _ I1 q1
  rw [hs] at hA ⊢
  refine Calls.callWith_builtin (by show (false || (backTo cpos (starEach es X.env)).any (·.1)) = false; rw [hplain] <;> rfl) (Calls.evalArgs_plain ?_)
  refine thn hA fun us s2 ⟨vs, H2, I2, r2, q2⟩ => ?_
  obtain ⟨z, j, rfl, hp2, hy, hno, q⟩ := q2
  obtain ⟨u, rfl, tk, rfl⟩ := vals1 r2
  obtain ⟨⟨_, ob2, its2, n2, g1', g2', g3', g4', r⟩, _, _⟩ := (show ObjOk X.prog X.w H2 s2.heap p (TO p (ys.map V.str)) from I2.hok p _ hp2)
  obtain ⟨cls, dd, dt, sl⟩ := ob2
  simp only at g2' g4'
  subst g2'
  subst g4'
  have hl : its2.toArray.size = ys.length := by rw [List.size_toArray, ← r.length, List.length_map]
  have hj : j < its2.toArray.size := by rw [hl]; exact (List.getElem?_eq_some_iff.mp hy).1
  have at' : ∀ (m : Nat) (hm : m < its2.toArray.size), ∃ y t', ys[m]? = some y ∧ its2.toArray[m] = Value.str y t' := fun m hm => by
    have hm' : m < ys.length := by rw [← hl]; exact hm
    obtain ⟨w, hw, t', hw'⟩ := r.get (i := m) (x := .str ys[m]) (by simp [hm'])
    refine ⟨ys[m], t', List.getElem?_eq_getElem hm', ?_⟩
    have e := (List.getElem?_eq_some_iff.mp hw).2
    rw [← hw', ← e]
    simp
  refine call_meets PySem.F.slot_tuple_index ⟨_, g1', rfl⟩ PySem.F.entry_tuple_index (PySem.F.args_tuple_index_2 _ _) (TI.tuple_indexAt p its2.toArray n2 dd sl (.str z tk) (eqU (.str z)) j hj ?_ ?_)
    ⟨g1', fun w hw => mem_eqAt (x := .str z) ⟨tk, rfl⟩ rfl r (flat_strs ys) w (by simpa using hw), ⟨.int (j : Nat), H2, I2.tok _, ⟨_, rfl⟩, q⟩⟩
  · obtain ⟨y, t', h1, h2⟩ := at' j hj
    rw [hy] at h1
    cases h1
    rw [h2]
    show (z == z) = true
    exact beq_self_eq_true z
  · intro m hm hmj
    obtain ⟨y, t', h1, h2⟩ := at' m hm
    rw [h2]
    show (y == z) = false
    rw [beq_eq_false_iff_ne]
    rintro rfl
    exact hno m hmj h1
end
end Tix

set_option Elab.async false
set_option linter.all false
/-! Games on two structures, on the pairs of points alone: what they are, that only which pairs there are counts, that enough rounds are all rounds. -/
namespace Gm
abbrev Pr := Int × Int
/-- the relations of both: places, rows here, rows there -/
abbrev Rels := List (Nat × List (List Int) × List (List Int))
def Fair (R : Rels) (ps : List Pr) : Prop := (∀ p ∈ ps, ∀ q ∈ ps, (p.1 = q.1 ↔ p.2 = q.2)) ∧
  ∀ t ∈ R, ∀ c : List Pr, c.length = t.1 → (∀ p ∈ c, p ∈ ps) → (c.map (·.1) ∈ t.2.1 ↔ c.map (·.2) ∈ t.2.2)
def El (m : Nat) (x : Int) : Prop := 0 ≤ x ∧ x < (m : Int)
def Alike (R : Rels) (m n : Nat) : Nat → List Pr → Prop
  | 0, ps => Fair R ps
  | k + 1, ps => Fair R ps ∧ (∀ x, El m x → ∃ y, El n y ∧ Alike R m n k ((x, y) :: ps)) ∧ ∀ y, El n y → ∃ x, El m x ∧ Alike R m n k ((x, y) :: ps)
variable {R : Rels} {m n : Nat}
theorem fair_set {ps qs : List Pr} (h : ∀ p, p ∈ ps ↔ p ∈ qs) (f : Fair R ps) : Fair R qs :=
  ⟨fun p hp q hq => f.1 p ((h p).mpr hp) q ((h q).mpr hq), fun t ht c hl hc => f.2 t ht c hl fun p hp => (h p).mpr (hc p hp)⟩
theorem cons_set {ps qs : List Pr} (h : ∀ p, p ∈ ps ↔ p ∈ qs) (a : Pr) : ∀ p, p ∈ a :: ps ↔ p ∈ a :: qs := fun p => by
  rw [List.mem_cons, List.mem_cons, h p]
/-- only which pairs there are counts -/
theorem alike_set : ∀ (k : Nat) {ps qs : List Pr}, (∀ p, p ∈ ps ↔ p ∈ qs) → Alike R m n k ps → Alike R m n k qs
  | 0, ps, qs, h, a => fair_set h a
  | k + 1, ps, qs, h, ⟨a, b, c⟩ => ⟨fair_set h a, fun x hx => let ⟨y, hy, z⟩ := b x hx; ⟨y, hy, alike_set k (cons_set h _) z⟩, fun y hy => let ⟨x, hx, z⟩ := c y hy; ⟨x, hx, alike_set k (cons_set h _) z⟩⟩
theorem alike_fair : ∀ {k : Nat} {ps : List Pr}, Alike R m n k ps → Fair R ps
  | 0, _, h => h
  | _ + 1, _, h => h.1
theorem alike_down : ∀ (k : Nat) {ps : List Pr}, Alike R m n (k + 1) ps → Alike R m n k ps
  | 0, _, h => h.1
  | k + 1, _, ⟨a, b, c⟩ => ⟨a, fun x hx => let ⟨y, hy, z⟩ := b x hx; ⟨y, hy, alike_down k z⟩, fun y hy => let ⟨x, hx, z⟩ := c y hy; ⟨x, hx, alike_down k z⟩⟩
/-- how many elements are not among those picked -/
def left (m : Nat) (xs : List Int) : Nat := ((List.range m).filter fun x : Nat => decide ((x : Int) ∉ xs)).length
theorem cnt {p : Nat → Bool} {a : Nat} : ∀ {l : List Nat}, a ∈ l → p a = true → (l.filter fun x => p x && !decide (x = a)).length + 1 ≤ (l.filter p).length
  | b :: l, h, hp => by
    have le : ∀ l : List Nat, (l.filter fun x => p x && !decide (x = a)).length ≤ (l.filter p).length := by
      intro l
      induction l with
      | nil => exact Nat.le_refl _
      | cons c l ih =>
        rw [List.filter_cons, List.filter_cons]
        by_cases z : p c = true
        · by_cases e : c = a
          · rw [if_neg (by simp [e]), if_pos z, List.length_cons]; omega
          · rw [if_pos (by simp [z, e]), if_pos z, List.length_cons, List.length_cons]; omega
        · rw [if_neg (by simp [z]), if_neg z]; exact ih
    rw [List.filter_cons, List.filter_cons]
    by_cases e : b = a
    · have := le l
      rw [if_neg (by simp [e]), if_pos (by rw [e]; exact hp), List.length_cons]
      omega
    · have hm : a ∈ l := by
        rcases List.mem_cons.mp h with z | z
        · exact absurd z.symm e
        · exact z
      have ih := cnt hm hp
      by_cases z : p b = true
      · rw [if_pos (by simp [z, e]), if_pos z, List.length_cons, List.length_cons]
        omega
      · rw [if_neg (by simp [z]), if_neg z]
        exact ih
theorem left_cons {xs : List Int} {x : Int} (hx : El m x) (no : x ∉ xs) : left m (x :: xs) + 1 ≤ left m xs := by
  have h := cnt (p := fun z : Nat => decide ((z : Int) ∉ xs)) (a := x.toNat) (l := List.range m) (List.mem_range.mpr (by have := hx.1; have := hx.2; omega)) (by
    rw [show ((x.toNat : Nat) : Int) = x by have := hx.1; omega]
    exact decide_eq_true no)
  unfold left
  have e : ((List.range m).filter fun z : Nat => decide ((z : Int) ∉ x :: xs)) = (List.range m).filter fun z : Nat => decide ((z : Int) ∉ xs) && !decide (z = x.toNat) := by
    refine List.filter_congr fun z _ => ?_
    have i : ((z : Int) ∉ x :: xs) ↔ ((z : Int) ∉ xs ∧ ¬ z = x.toNat) := by
      rw [List.mem_cons, not_or]
      constructor
      · rintro ⟨h1, h2⟩
        exact ⟨h2, fun q => h1 (by rw [q]; have := hx.1; omega)⟩
      · rintro ⟨h1, h2⟩
        exact ⟨fun q => h2 (by omega), h1⟩
    by_cases w : (z : Int) ∉ x :: xs
    · rw [decide_eq_true w, decide_eq_true (i.mp w).1, decide_eq_false (i.mp w).2]
      rfl
    · rw [decide_eq_false w]
      by_cases w1 : (z : Int) ∉ xs
      · have w2 : z = x.toNat := Classical.byContradiction fun q => w (i.mpr ⟨w1, q⟩)
        rw [decide_eq_true w2]
        simp
      · rw [decide_eq_false w1]
        rfl
  rw [e]
  exact h
theorem left_zero {xs : List Int} (h : left m xs = 0) {x : Int} (hx : El m x) : x ∈ xs := by
  refine Classical.byContradiction fun no => ?_
  have := left_cons hx no
  omega
/-- enough rounds are one more -/
theorem alike_up : ∀ (k : Nat) {ps : List Pr}, (∀ p ∈ ps, El m p.1 ∧ El n p.2) → left m (ps.map (·.1)) ≤ k → left n (ps.map (·.2)) ≤ k → Alike R m n k ps → Alike R m n (k + 1) ps
  | 0, ps, hin, h1, h2, a => by
    refine ⟨a, fun x hx => ?_, fun y hy => ?_⟩
    · obtain ⟨p, hp, rfl⟩ := List.mem_map.mp (left_zero (Nat.le_zero.mp h1) hx)
      exact ⟨p.2, (hin p hp).2, fair_set (fun q => by rw [List.mem_cons]; exact ⟨.inr, fun z => z.elim (fun e => e ▸ hp) id⟩) a⟩
    · obtain ⟨p, hp, rfl⟩ := List.mem_map.mp (left_zero (Nat.le_zero.mp h2) hy)
      exact ⟨p.1, (hin p hp).1, fair_set (fun q => by rw [List.mem_cons]; exact ⟨.inr, fun z => z.elim (fun e => e ▸ hp) id⟩) a⟩
  | k + 1, ps, hin, h1, h2, a => by
    have new : ∀ x y, El m x → El n y → Alike R m n k ((x, y) :: ps) → x ∉ ps.map (·.1) ∨ y ∉ ps.map (·.2) → Alike R m n (k + 1) ((x, y) :: ps) := by
      intro x y hx hy z no
      have f := (alike_fair z).1
      have nx : x ∉ ps.map (·.1) := by
        rcases no with h | h
        · exact h
        · intro q
          obtain ⟨p, hp, e⟩ := List.mem_map.mp q
          exact h (List.mem_map.mpr ⟨p, hp, (f p (List.mem_cons_of_mem _ hp) (x, y) List.mem_cons_self).mp e⟩)
      have ny : y ∉ ps.map (·.2) := by
        intro q
        obtain ⟨p, hp, e⟩ := List.mem_map.mp q
        exact nx (List.mem_map.mpr ⟨p, hp, (f p (List.mem_cons_of_mem _ hp) (x, y) List.mem_cons_self).mpr e⟩)
      refine alike_up k (fun p hp => ?_) ?_ ?_ z
      · rcases List.mem_cons.mp hp with e | e
        · rw [e]; exact ⟨hx, hy⟩
        · exact hin p e
      · have := left_cons hx nx
        show left m (x :: ps.map (·.1)) ≤ k
        omega
      · have := left_cons hy ny
        show left n (y :: ps.map (·.2)) ≤ k
        omega
    have old : ∀ p ∈ ps, Alike R m n (k + 1) (p :: ps) := fun p hp => alike_set (k + 1) (fun q => by rw [List.mem_cons]; exact ⟨.inr, fun z => z.elim (fun e => e ▸ hp) id⟩) a
    obtain ⟨f, b, c⟩ := id a
    refine ⟨f, fun x hx => ?_, fun y hy => ?_⟩
    · by_cases q : x ∈ ps.map (·.1)
      · obtain ⟨p, hp, rfl⟩ := List.mem_map.mp q
        exact ⟨p.2, (hin p hp).2, old p hp⟩
      · obtain ⟨y, hy, z⟩ := b x hx
        exact ⟨y, hy, new x y hx hy z (.inl q)⟩
    · by_cases q : y ∈ ps.map (·.2)
      · obtain ⟨p, hp, rfl⟩ := List.mem_map.mp q
        exact ⟨p.1, (hin p hp).1, old p hp⟩
      · obtain ⟨x, hx, z⟩ := c y hy
        exact ⟨x, hx, new x y hx hy z (.inr q)⟩
theorem left_ge (xs : List Int) (x : Int) : left m xs ≤ left m (x :: xs) + 1 := by
  unfold left
  have main : ∀ l : List Nat, l.Nodup → (l.filter fun z : Nat => decide ((z : Int) ∉ xs)).length ≤ (l.filter fun z : Nat => decide ((z : Int) ∉ x :: xs)).length + 1 := by
    have same : ∀ l : List Nat, (∀ z ∈ l, ¬ (z : Int) = x) → (l.filter fun z : Nat => decide ((z : Int) ∉ xs)) = l.filter fun z : Nat => decide ((z : Int) ∉ x :: xs) := fun l h =>
      List.filter_congr fun z hz => by
        by_cases q : (z : Int) ∈ xs
        · simp [q]
        · simp [q, h z hz]
    intro l
    induction l with
    | nil => intro _; exact Nat.zero_le _
    | cons b l ih =>
      intro nd
      rw [List.nodup_cons] at nd
      have ih' := ih nd.2
      rw [List.filter_cons, List.filter_cons]
      by_cases e : (b : Int) = x
      · have eq := same l fun z hz w => nd.1 (by
          have : z = b := by omega
          rw [← this]; exact hz)
        rw [if_neg (show ¬ decide ((b : Int) ∉ x :: xs) = true by simp [e]), ← eq]
        split
        · rw [List.length_cons]; exact Nat.le_refl _
        · omega
      · by_cases q : (b : Int) ∈ xs
        · rw [if_neg (by simp [q]), if_neg (by simp [q])]
          exact ih'
        · rw [if_pos (by simp [q]), if_pos (by simp [q, e]), List.length_cons, List.length_cons]
          omega
  exact main _ List.nodup_range
theorem left_new {xs : List Int} (h : left m xs ≠ 0) : ∃ x, El m x ∧ x ∉ xs := by
  refine Classical.byContradiction fun no => h ?_
  unfold left
  rw [List.length_eq_zero_iff, List.filter_eq_nil_iff]
  intro z hz
  have hz' := List.mem_range.mp hz
  have : (z : Int) ∈ xs := Classical.byContradiction fun q => no ⟨z, ⟨by omega, by omega⟩, q⟩
  simp [this]
/-- who has fewer left sees that the other has no more, with one round above -/
theorem left_le1 : ∀ (c : Nat) {ps : List Pr}, Alike R m n (c + 1) ps → left n (ps.map (·.2)) ≤ c → left m (ps.map (·.1)) ≤ left n (ps.map (·.2))
  | c, ps, a, hn => by
    by_cases z : left m (ps.map (·.1)) = 0
    · omega
    obtain ⟨x, hx, nx⟩ := left_new z
    obtain ⟨y, hy, b⟩ := a.2.1 x hx
    have f := (alike_fair b).1
    have ny : y ∉ ps.map (·.2) := fun q => by
      obtain ⟨p, hp, e⟩ := List.mem_map.mp q
      exact nx (List.mem_map.mpr ⟨p, hp, (f p (List.mem_cons_of_mem _ hp) (x, y) List.mem_cons_self).mpr e⟩)
    have h1 := left_cons hy ny
    cases c with
    | zero => omega
    | succ c =>
      have ih := left_le1 c b (show left n (y :: ps.map (·.2)) ≤ c by omega)
      have ih' : left m (x :: ps.map (·.1)) ≤ left n (y :: ps.map (·.2)) := ih
      have h2 := left_ge (m := m) (ps.map (·.1)) x
      omega
theorem left_le2 : ∀ (c : Nat) {ps : List Pr}, Alike R m n (c + 1) ps → left m (ps.map (·.1)) ≤ c → left n (ps.map (·.2)) ≤ left m (ps.map (·.1))
  | c, ps, a, hm => by
    by_cases z : left n (ps.map (·.2)) = 0
    · omega
    obtain ⟨y, hy, ny⟩ := left_new z
    obtain ⟨x, hx, b⟩ := a.2.2 y hy
    have f := (alike_fair b).1
    have nx : x ∉ ps.map (·.1) := fun q => by
      obtain ⟨p, hp, e⟩ := List.mem_map.mp q
      exact ny (List.mem_map.mpr ⟨p, hp, (f p (List.mem_cons_of_mem _ hp) (x, y) List.mem_cons_self).mp e⟩)
    have h1 := left_cons hx nx
    cases c with
    | zero => omega
    | succ c =>
      have ih := left_le2 c b (show left m (x :: ps.map (·.1)) ≤ c by omega)
      have ih' : left n (y :: ps.map (·.2)) ≤ left m (x :: ps.map (·.1)) := ih
      have h2 := left_ge (m := n) (ps.map (·.2)) y
      omega
theorem left_most (xs : List Int) : left m xs ≤ m := by
  unfold left
  have := List.length_filter_le (fun z : Nat => decide ((z : Int) ∉ xs)) (List.range m)
  rw [List.length_range] at this
  exact this
/-- alike for one round more than the smaller structure has elements: alike for all -/
theorem alike_all {ps : List Pr} (hin : ∀ p ∈ ps, El m p.1 ∧ El n p.2) (a : Alike R m n (min m n + 1) ps) : ∀ k, Alike R m n k ps := by
  have both : left m (ps.map (·.1)) ≤ min m n + 1 ∧ left n (ps.map (·.2)) ≤ min m n + 1 := by
    have l1 := left_most (m := m) (ps.map (·.1))
    have l2 := left_most (m := n) (ps.map (·.2))
    rcases Nat.le_total m n with h | h
    · rw [Nat.min_eq_left h] at a ⊢
      have := left_le2 m a l1
      omega
    · rw [Nat.min_eq_right h] at a ⊢
      have := left_le1 n a l2
      omega
  have up : ∀ j, Alike R m n (min m n + 1 + j) ps := by
    intro j
    induction j with
    | zero => exact a
    | succ j ih =>
      have h1 : left m (ps.map (·.1)) ≤ min m n + 1 + j := Nat.le_trans both.1 (Nat.le_add_right _ _)
      have h2 : left n (ps.map (·.2)) ≤ min m n + 1 + j := Nat.le_trans both.2 (Nat.le_add_right _ _)
      exact alike_up (min m n + 1 + j) hin h1 h2 ih
  intro k
  by_cases h : min m n + 1 ≤ k
  · have := up (k - (min m n + 1))
    rw [show min m n + 1 + (k - (min m n + 1)) = k by omega] at this
    exact this
  · have down : ∀ d k, k + d = min m n + 1 → Alike R m n k ps := by
      intro d
      induction d with
      | zero => intro k e; rw [show k = min m n + 1 by omega]; exact a
      | succ d ih => intro k e; exact alike_down k (ih (k + 1) (by omega))
    exact down (min m n + 1 - k) k (by omega)
end Gm

set_option Elab.async false
set_option linter.all false
set_option maxRecDepth 100000
set_option maxHeartbeats 4000000
/-! Formulas as texts. -/
namespace Fo
open PySem L2
theorem s_e (a : Str) : Str.empty ++ a = a := by
  show Str.append _ _ = _
  simp [Str.append, Str.empty]
theorem s_ae (a : Str) : a ++ Str.empty = a := by
  show Str.append _ _ = _
  simp [Str.append, Str.empty]
theorem s_len (a b : Str) : (a ++ b).length = a.length + b.length := by
  show (Str.append a b).length = _
  simp [Str.append, Str.length]
/-- one behind the other -/
def cat : List Str → Str
  | [] => Str.empty
  | x :: r => x ++ cat r
theorem cat_append : ∀ a b : List Str, cat (a ++ b) = cat a ++ cat b
  | [], b => (s_e _).symm
  | x :: a, b => by rw [List.cons_append, cat, cat, cat_append a b, Str.append_assoc]
/-- with a sign between -/
def jn (s : Str) : List Str → Str
  | [] => Str.empty
  | [x] => x
  | x :: y :: r => x ++ (s ++ jn s (y :: r))
theorem fold_cat (g : Array Nat) : ∀ (r : List Str) (acc : Array Nat), List.foldl (fun acc (p : Str) => acc ++ g ++ p.cps) acc r = acc ++ (cat (r.map fun p => (⟨g⟩ : Str) ++ p)).cps
  | [], acc => by simp [cat, Str.empty]
  | p :: r, acc => by
    rw [List.foldl_cons, fold_cat g r, List.map_cons, cat]
    show _ = acc ++ (Str.append (Str.append ⟨g⟩ p) _).cps
    simp [Str.append]
theorem jn_cat (s : Str) : ∀ (x : Str) (r : List Str), jn s (x :: r) = x ++ cat (r.map fun p => s ++ p)
  | x, [] => by rw [jn, List.map_nil, cat, s_ae]
  | x, y :: r => by rw [jn, jn_cat s y r, List.map_cons, cat, Str.append_assoc]
theorem join_jn (s : Str) : ∀ ys : List Str, Txt.join s ys = jn s ys
  | [] => rfl
  | x :: r => by
    rw [jn_cat]
    show Builtin.Str.glued s (x :: r) = _
    rw [Builtin.Str.glued.eq_1, fold_cat]
    rfl
theorem jn_empty : ∀ ys : List Str, jn Str.empty ys = cat ys
  | [] => rfl
  | [x] => by rw [jn, cat, cat, s_ae]
  | x :: y :: r => by rw [jn, jn_empty (y :: r), s_e]; rfl
namespace Fm
mutual
def bare : Fm → Fm
  | .con b fs => bareL b fs
  | .rel n xs => .rel n xs
  | .same x y => .same x y
  | .neg f => .neg f
  | .qu b x f => .qu b x f
def bareL (b : Bool) : List Fm → Fm
  | [] => .con b []
  | f :: fs => match fs with
    | [] => bare f
    | _ :: _ => .con b (f :: fs)
end
def wide : Fm → Bool
  | .qu _ _ _ => true
  | .con _ (_ :: _) => true
  | _ => false
/-- no and, no or of one row -/
def isB : Fm → Bool
  | .con _ [_] => false
  | _ => true
theorem bare_one (b : Bool) (f : Fm) : bare (.con b [f]) = bare f := rfl
mutual
theorem bare_is : ∀ f : Fm, isB (bare f) = true
  | .con b fs => bareL_is b fs
  | .rel n xs => rfl
  | .same x y => rfl
  | .neg f => rfl
  | .qu b x f => rfl
theorem bareL_is (b : Bool) : ∀ fs : List Fm, isB (bareL b fs) = true
  | [] => rfl
  | [f] => bare_is f
  | f :: g :: fs => rfl
end
theorem bare_id {f : Fm} (h : isB f = true) : bare f = f := by
  cases f with
  | con b fs =>
    match fs, h with
    | [], _ => rfl
    | _ :: _ :: _, _ => rfl
  | rel n xs => rfl
  | same x y => rfl
  | neg f => rfl
  | qu b x f => rfl
mutual
theorem bare_ct : ∀ f : Fm, ct (bare f) ≤ ct f
  | .con b fs => by
    have := bareL_ct b fs
    rw [bare]
    rw [ct]
    exact this
  | .rel n xs => Nat.le_refl _
  | .same x y => Nat.le_refl _
  | .neg f => Nat.le_refl _
  | .qu b x f => Nat.le_refl _
theorem bareL_ct (b : Bool) : ∀ fs : List Fm, ct (bareL b fs) ≤ 1 + cts fs
  | [] => Nat.le_refl _
  | [f] => by
    have := bare_ct f
    show ct (bare f) ≤ 1 + (ct f + 0)
    omega
  | f :: g :: fs => Nat.le_refl _
end
mutual
theorem bare_dp : ∀ f : Fm, dp (bare f) ≤ dp f
  | .con b fs => bareL_dp b fs
  | .rel n xs => Nat.le_refl _
  | .same x y => Nat.le_refl _
  | .neg f => Nat.le_refl _
  | .qu b x f => Nat.le_refl _
theorem bareL_dp (b : Bool) : ∀ fs : List Fm, dp (bareL b fs) ≤ dps fs
  | [] => Nat.le_refl _
  | [f] => by
    have := bare_dp f
    show dp (bare f) ≤ max (1 + dp f) 0
    omega
  | f :: g :: fs => Nat.le_refl _
end
def word (b : Bool) : Str := if b = true then "true" else "false"
def sgn (b : Bool) : Str := if b = true then " & " else " | "
mutual
def txt : Fm → Str
  | .rel n xs => n ++ ("(" ++ (jn "," xs ++ ")"))
  | .same x y => x ++ ("=" ++ y)
  | .neg f => "~" ++ (if wide (bare f) = true then "(" ++ (txt f ++ ")") else txt f)
  | .con b fs => txtL b fs
  | .qu b x f => qn b ++ (" " ++ (x ++ (": " ++ txt f)))
def txtL (b : Bool) : List Fm → Str
  | [] => word b
  | f :: fs => match fs with
    | [] => txt f
    | _ :: _ => jn (sgn b) ((if wide (bare f) = true then "(" ++ (txt f ++ ")") else txt f) :: helds fs)
def helds : List Fm → List Str
  | [] => []
  | f :: fs => (if wide (bare f) = true then "(" ++ (txt f ++ ")") else txt f) :: helds fs
end
def held (f : Fm) : Str := if wide (bare f) = true then "(" ++ (txt f ++ ")") else txt f
theorem helds_map : ∀ fs : List Fm, helds fs = fs.map held
  | [] => by rw [helds]; rfl
  | f :: fs => by rw [helds, helds_map fs]; rfl
mutual
theorem txt_bare : ∀ f : Fm, txt (bare f) = txt f
  | .con b fs => by rw [bare, txt]; exact txtL_bare b fs
  | .rel n xs => rfl
  | .same x y => rfl
  | .neg f => rfl
  | .qu b x f => rfl
theorem txtL_bare (b : Bool) : ∀ fs : List Fm, txt (bareL b fs) = txtL b fs
  | [] => by show txt (.con b []) = _; rw [txt]
  | [f] => by
    show txt (bare f) = txtL b [f]
    rw [txt_bare f, txtL]
  | f :: g :: fs => by
    show txt (.con b (f :: g :: fs)) = _
    rw [txt]
end
theorem txt_many (b : Bool) (f g : Fm) (fs : List Fm) : txt (.con b (f :: g :: fs)) = held f ++ cat ((g :: fs).map fun k => sgn b ++ held k) := by
  rw [txt, txtL]
  show jn (sgn b) (held f :: helds (g :: fs)) = _
  rw [jn_cat, helds_map, List.map_map]
  rfl
theorem txt_neg (f : Fm) : txt (.neg f) = "~" ++ held f := by rw [txt]; rfl
/-- what is still to be written -/
def wt : Fm → Nat := fun f => 5 * ct f - 3
mutual
def plain : Fm → Fm
  | .rel n xs => .rel n xs
  | .same x y => .same x y
  | .neg f => .neg (plain f)
  | .con b fs => plainL b fs
  | .qu b x f => .qu b x (plain f)
def plainL (b : Bool) : List Fm → Fm
  | [] => .con b []
  | f :: fs => match fs with
    | [] => plain f
    | _ :: _ => .con b (plain f :: plains fs)
def plains : List Fm → List Fm
  | [] => []
  | f :: fs => plain f :: plains fs
end
theorem plains_map : ∀ fs : List Fm, plains fs = fs.map plain
  | [] => by rw [plains]; rfl
  | f :: fs => by rw [plains, plains_map fs]; rfl
mutual
theorem plain_bare : ∀ f : Fm, plain (bare f) = plain f
  | .con b fs => by rw [bare, plain]; exact plainL_bare b fs
  | .rel n xs => rfl
  | .same x y => rfl
  | .neg f => rfl
  | .qu b x f => rfl
theorem plainL_bare (b : Bool) : ∀ fs : List Fm, plain (bareL b fs) = plainL b fs
  | [] => by show plain (.con b []) = _; rw [plain]
  | [f] => by
    show plain (bare f) = plainL b [f]
    rw [plain_bare f, plainL]
  | f :: g :: fs => by
    show plain (.con b (f :: g :: fs)) = _
    rw [plain]
end
theorem plain_many (b : Bool) (f g : Fm) (fs : List Fm) : plain (.con b (f :: g :: fs)) = .con b ((f :: g :: fs).map plain) := by
  rw [plain, plainL, plains_map]
  rfl
end Fm
end Fo

set_option Elab.async false
set_option linter.all false
set_option maxRecDepth 100000
set_option maxHeartbeats 4000000
/-! list(zip(s, t)) of two tuples -/
namespace Zl
open PySem PySem.Spec PyProof.Rows L2 RZ
section
variable {prog : Program} {w : World} {A : Around} {E : Value → Shared → Prop} {s : Shared} {z TI TO T i1 i2 a b : Addr} {f : Bool} {oT : Obj} {n m : Nat} {xs ys : Array Value}
/-- next of a zip whose last tuple is still there -/
theorem held_item {x y : Value} {Q : Option Value → Shared → Prop} (D : ZipApart z TI TO i1 i2 a b) (hz : IsZipHeld s.heap z TI TO T f) (hT : s.heap.get? T = some oT) (hTI : IsPair s.heap TI (.ref i1) (.ref i2))
    (h1 : s.heap.IsTupleIter i1 a n) (h2 : s.heap.IsTupleIter i2 b m) (ha : s.heap.IsTuple a xs) (hb : s.heap.IsTuple b ys) (hx : xs[n]? = some x) (hy : ys[m]? = some y)
    (q : ∀ g, IsZipHeld g z TI TO T true → g.IsTupleIter i1 a (n + 1) → g.IsTupleIter i2 b (m + 1) → IsPair g s.heap.objs.size x y → g.objs.size = s.heap.objs.size + 1 →
      (∀ c o, c ≠ z → c ≠ i1 → c ≠ i2 → s.heap.get? c = some o → g.get? c = some o) → Q (some (.ref s.heap.objs.size)) { s with heap := g }) : wpAny (model prog w) A (pyNext (.ref z)) Q E s := by
  have ty : s.TypeIs (.ref z) "zip" := ⟨_, hz, rfl⟩
  unfold pyNext
  refine wpAny_bind (wpAny_attempt (wpAny_callSpecial?_slot (name := Str.ofString "__next__") ty F.slot_zip_next (wpAny_call_entry F.slot_zip_next ty F.entry_zip_next ?body (F.args_zip_next_1 _))))
  case body =>
    show wpAny _ _ (field (.ref z) 2 >>= _) _ _ _
    refine wpAny_bind (wpAny_field hz rfl (x := .bool false) rfl ?_)
    show wpAny _ _ (field (.ref z) 3 >>= _) _ _ _
    refine wpAny_bind (wpAny_field hz rfl (x := .ref TI) rfl (wpAny_bind (wpAny_seqItems hTI rfl ?_)))
    show wpAny _ _ (Builtin.SmallTypes.ownedTupleIsFree (.ref z) >>= _) _ _ _
    refine wpAny_bind (wpAny_tupleHeld_zip hz hT fun g1 z1 e1 => ?_)
    simp only [Bool.false_eq_true, if_false]
    refine wpAny_bind ?_
    rw [← Array.forIn_toList]
    simp only [List.forIn_cons, List.forIn_nil]
    refine wpAny_bind (wpAny_bind (wpAny_holding ?_))
    show wpAny _ _ (Builtin.SmallTypes.nextOf (.ref i1) >>= _) _ _ _
    refine wpAny_bind (nextOf_tuple_item (s := { s with heap := g1 }) (h1.extBut e1.extBut D.i1z) (ha.extBut e1.extBut D.l1z) hx fun g2 k2 e2 => wpAny_pure ?_)
    refine wpAny_pure (wpAny_bind (wpAny_bind (wpAny_holding ?_)))
    show wpAny _ _ (Builtin.SmallTypes.nextOf (.ref i2) >>= _) _ _ _
    refine wpAny_bind (nextOf_tuple_item (s := { s with heap := g2 }) ((h2.extBut e1.extBut D.i2z).extBut e2.extBut D.i12.symm) ((hb.extBut e1.extBut D.l2z).extBut e2.extBut D.l2i1) hy fun g3 k3 e3 => wpAny_pure ?_)
    refine wpAny_pure (wpAny_pure ?_)
    show wpAny _ _ (newTuple [x, y] >>= _) _ _ _
    refine wpAny_bind (wpAny_newTuple ?_)
    have sz : g3.objs.size = s.heap.objs.size := e3.1.trans (e2.1.trans e1.1)
    have kp : ∀ c o, c ≠ z → c ≠ i1 → c ≠ i2 → s.heap.get? c = some o → g3.get? c = some o := fun c o c1 c2 c3 e => e3.extBut _ _ c3 (e2.extBut _ _ c2 (e1.extBut _ _ c1 e))
    have z3 : IsZipHeld g3 z TI TO T true := e3.extBut _ _ D.i2z.symm (e2.extBut _ _ D.i1z.symm z1)
    have k13 : g3.IsTupleIter i1 a (n + 1) := k2.extBut e3.extBut D.i12
    have pr : IsPair (g3.push { cls := .type "tuple", data := .seq #[x, y] }) g3.objs.size x y := Heap.get?_push_size _ rfl
    have s4 : (g3.push { cls := .type "tuple", data := .seq #[x, y] }).objs.size = g3.objs.size + 1 := Heap.size_push ..
    refine wpAny_pure ⟨_, rfl, ?_⟩
    show wpAny _ _ _ _ _ _
    rw [sz] at pr s4 ⊢
    exact wpAny_pure (q _ (Heap.get?_push_of_some _ z3) (k13.at fun o e => Heap.get?_push_of_some _ e) (k3.at fun o e => Heap.get?_push_of_some _ e) pr s4 fun c o c1 c2 c3 e => Heap.get?_push_of_some _ (kp c o c1 c2 c3 e))
theorem held_end {Q : Option Value → Shared → Prop} (hh : A.handled = none) (D : ZipApart z TI TO i1 i2 a b) (hz : IsZipHeld s.heap z TI TO T f) (hT : s.heap.get? T = some oT) (hTI : IsPair s.heap TI (.ref i1) (.ref i2))
    (h1 : s.heap.IsTupleIter i1 a n) (ha : s.heap.IsTuple a xs) (hx : xs[n]? = none) (q : ∀ g, (∀ c o, c ≠ z → c ≠ i1 → s.heap.get? c = some o → g.get? c = some o) → Q none { s with heap := g }) : wpAny (model prog w) A (pyNext (.ref z)) Q E s := by
  have ty : s.TypeIs (.ref z) "zip" := ⟨_, hz, rfl⟩
  unfold pyNext
  refine wpAny_bind (wpAny_attempt (wpAny_callSpecial?_slot (name := Str.ofString "__next__") ty F.slot_zip_next (wpAny_call_entry F.slot_zip_next ty F.entry_zip_next ?body (F.args_zip_next_1 _))))
  case body =>
    show wpAny _ _ (field (.ref z) 2 >>= _) _ _ _
    refine wpAny_bind (wpAny_field hz rfl (x := .bool false) rfl ?_)
    show wpAny _ _ (field (.ref z) 3 >>= _) _ _ _
    refine wpAny_bind (wpAny_field hz rfl (x := .ref TI) rfl (wpAny_bind (wpAny_seqItems hTI rfl ?_)))
    show wpAny _ _ (Builtin.SmallTypes.ownedTupleIsFree (.ref z) >>= _) _ _ _
    refine wpAny_bind (wpAny_tupleHeld_zip hz hT fun g1 z1 e1 => ?_)
    simp only [Bool.false_eq_true, if_false]
    refine wpAny_bind ?_
    rw [← Array.forIn_toList]
    simp only [List.forIn_cons, List.forIn_nil]
    refine wpAny_bind (wpAny_bind (wpAny_holding ?_))
    show wpAny _ _ (Builtin.SmallTypes.nextOf (.ref i1) >>= _) _ _ _
    refine wpAny_bind (nextOf_tuple_end (s := { s with heap := g1 }) hh (h1.extBut e1.extBut D.i1z) (ha.extBut e1.extBut D.l1z) hx fun g2 e k2 he => ?_)
    obtain ⟨o, ho, hc⟩ := he
    refine wpAny_bind (wpAny_isInstance (T := "StopIteration") (b := true) ⟨o, ho, hc⟩ isSubtype_stop ?_)
    exact wpAny_pure (q _ fun c o c1 c2 x => k2 _ _ c2 (e1.extBut _ _ c1 x))
end
/-- how a zip of two tuples stands ahead of its turn n, ts the tuples it has given -/
structure ZAt (h : Heap) (z TI TO i1 i2 a b : Addr) (xs ys : Array Value) (n : Nat) (ts : List Addr) : Prop where
  pr : IsPair h TI (.ref i1) (.ref i2)
  to : ∃ x y, IsPair h TO x y
  j1 : h.IsTupleIter i1 a n
  j2 : h.IsTupleIter i2 b n
  l1 : h.IsTuple a xs
  l2 : h.IsTuple b ys
  zz : (ts = [] ∧ IsZip h z TI TO .none) ∨ ∃ T f, T ∈ ts ∧ IsZipHeld h z TI TO T f
/-- the tuples given so far -/
structure GAt (h : Heap) (lo : Nat) (xs ys : Array Value) (ts : List Addr) : Prop where
  le : ts.length ≤ xs.size
  up : ts.Pairwise (· < ·)
  lw : ∀ t ∈ ts, lo ≤ t
  at_ : ∀ (i : Nat) (t : Addr), ts[i]? = some t → ∃ x y, xs[i]? = some x ∧ ys[i]? = some y ∧ IsPair h t x y
theorem IsPair.some {h : Heap} {t : Addr} {x y : Value} (p : IsPair h t x y) : t < h.objs.size := Heap.lt_size p
section
variable {prog : Program} {w : World} {A : Around} {R : Result → Shared → Prop} {z TI TO i1 i2 a b S : Addr} {xs ys : Array Value} {res : Value}
theorem loop (hh : A.handled = none) (D : ZipApart z TI TO i1 i2 a b) (nS : S ≠ z ∧ S ≠ TI ∧ S ≠ TO ∧ S ≠ i1 ∧ S ≠ i2 ∧ S ≠ a ∧ S ≠ b) (e : xs.size = ys.size) (hn : xs.size ≤ sizeLine) (lo : Nat) (low : z < lo ∧ TI < lo ∧ TO < lo ∧ i1 < lo ∧ i2 < lo ∧ S < lo) :
    ∀ (k : Nat) (ts : List Addr) (s : Shared) (acc : Array Value) (c : Nat), acc.toList = ts.map Value.ref → k + ts.length = xs.size → lo ≤ s.heap.objs.size → ZAt s.heap z TI TO i1 i2 a b xs ys ts.length ts → GAt s.heap lo xs ys ts → s.heap.get? S = some { cls := .type "list", dict := none, data := .seq acc c, slots := #[] } →
    (∀ (s' : Shared) (us : List Addr) (acc' : Array Value) (c' : Nat), acc'.toList = us.map Value.ref → (∃ g, s' = { s with heap := g }) → (∀ p o, p ≠ S → p ≠ z → p ≠ TO → p ≠ i1 → p ≠ i2 → s.heap.get? p = some o → s'.heap.get? p = some o) → us.length = xs.size → GAt s'.heap lo xs ys us → s'.heap.get? S = some { cls := .type "list", dict := none, data := .seq acc' c', slots := #[] } → R (.ok (.ret res)) s') →
    codeAny (model prog w) A (.builtin "list.extend.loop" ⟨[.ref S, .ref z, res], []⟩) R s := by
  obtain ⟨n1, n2, n3, n4, n5, n6, n7⟩ := nS
  obtain ⟨w1, w2, w3, w4, w5, w6⟩ := low
  intro k
  induction k with
  | zero =>
    intro ts s acc c ha hk hlo hZ hG hS q
    refine codeAny_builtin F.entry_extend_loop ?_
    rw [Around.under_plainId F.plain_extend_loop _]
    show wpAny _ A.in1 (pyNext (.ref z) >>= _) _ _ s
    have hx : xs[ts.length]? = none := by simp; omega
    have done : ∀ g : Heap, (∀ c o, c ≠ z → c ≠ TO → c ≠ i1 → c ≠ i2 → s.heap.get? c = some o → g.get? c = some o) → R (.ok (.ret res)) { s with heap := g } := fun g kp => by
      have low' : ∀ t, lo ≤ t → t ≠ z ∧ t ≠ TO ∧ t ≠ i1 ∧ t ≠ i2 := fun t h => ⟨Ne.symm (Nat.ne_of_lt (Nat.lt_of_lt_of_le w1 h)), Ne.symm (Nat.ne_of_lt (Nat.lt_of_lt_of_le w3 h)), Ne.symm (Nat.ne_of_lt (Nat.lt_of_lt_of_le w4 h)), Ne.symm (Nat.ne_of_lt (Nat.lt_of_lt_of_le w5 h))⟩
      refine q _ ts acc c ha ⟨g, rfl⟩ (fun p o _ p1 p2 p3 p4 e => kp p o p1 p2 p3 p4 e) (by omega) ⟨hG.le, hG.up, hG.lw, fun i t ht => ?_⟩ (kp S _ n1 n3 n4 n5 hS)
      obtain ⟨x, y, h1, h2, h3⟩ := hG.at_ i t ht
      obtain ⟨m1, m2, m3, m4⟩ := low' t (hG.lw t (List.mem_of_getElem? ht))
      exact ⟨x, y, h1, h2, kp t _ m1 m2 m3 m4 h3⟩
    obtain ⟨x0, y0, hTO⟩ := hZ.to
    rcases hZ.zz with ⟨_, hz⟩ | ⟨T, f, hm, hz⟩
    · exact wpAny_bind (pyNext_zipT_end hh D hz hZ.pr hTO hZ.j1 hZ.j2 hZ.l1 hZ.l2 (.inl hx) fun g kp => wpAny_pure (done g kp))
    · obtain ⟨j, hj⟩ := List.getElem?_of_mem hm
      obtain ⟨_, _, _, _, hT⟩ := hG.at_ j T hj
      exact wpAny_bind (held_end hh D hz hT hZ.pr hZ.j1 hZ.l1 hx fun g kp => wpAny_pure (done g fun c o c1 _ c2 _ e => kp c o c1 c2 e))
  | succ k ih =>
    intro ts s acc c ha hk hlo hZ hG hS q
    refine codeAny_builtin F.entry_extend_loop ?_
    rw [Around.under_plainId F.plain_extend_loop _]
    show wpAny _ A.in1 (pyNext (.ref z) >>= _) _ _ s
    have l1 : ts.length < xs.size := by omega
    have l2 : ts.length < ys.size := by omega
    have hx : xs[ts.length]? = some xs[ts.length] := Array.getElem?_eq_getElem l1
    have hy : ys[ts.length]? = some ys[ts.length] := Array.getElem?_eq_getElem l2
    have more : ∀ (g : Heap) (f : Bool) (T : Addr), T ∈ ts ++ [s.heap.objs.size] → IsZipHeld g z TI TO T f → g.IsTupleIter i1 a (ts.length + 1) → g.IsTupleIter i2 b (ts.length + 1) → (∃ x y, IsPair g TO x y) → IsPair g s.heap.objs.size xs[ts.length] ys[ts.length] → g.objs.size = s.heap.objs.size + 1 →
        (∀ c o, c ≠ z → c ≠ TO → c ≠ i1 → c ≠ i2 → s.heap.get? c = some o → g.get? c = some o) → wpAny (model prog w) A.in1 (updateSeq S (·.push (.ref s.heap.objs.size)) >>= fun _ => again (.builtin "list.extend.loop" ⟨[.ref S, .ref z, res], []⟩)) (fun fin s' => match fin with | .done f => R (.ok f) s' | .again c' => c'.quiet = true ∧ codeAny (model prog w) A c' R s') (fun e s' => R (.error e) s') { s with heap := g } := fun g f T hm hz h1 h2 hTO hT gs kp => by
      have hS' := kp S _ n1 n3 n4 n5 hS
      have lS : S < s.heap.objs.size := Heap.lt_size hS
      have za : acc.size = ts.length := by rw [← Array.length_toList, ha, List.length_map]
      refine wpAny_bind (wpAny_updateSeq hS' rfl (wpAny_pure ⟨plainId_quiet F.plain_extend_loop _, ih (ts ++ [s.heap.objs.size]) _ (acc.push (.ref s.heap.objs.size)) _ (by simp [ha]) (by simp; omega) ?_ ?_ ?_ (Heap.get?_update_self _ hS' rfl) ?_⟩) (by omega) (by show (acc.push (.ref s.heap.objs.size)).size ≤ sizeLine + 1; rw [Array.size_push]; omega))
      · show lo ≤ (g.update S _).objs.size
        rw [Heap.size_update, gs]; omega
      · have up : ∀ p o, p ≠ S → g.get? p = some o → (g.update S (Obj.mapSeq (·.push (.ref s.heap.objs.size)))).get? p = some o := fun p o hp e => (Heap.get?_update_other _ _ (Ne.symm hp)).trans e
        obtain ⟨x, y, hTO⟩ := hTO
        refine ⟨up _ _ n2.symm (kp TI _ D.TIz D.TITO D.TIi1 D.TIi2 hZ.pr), ⟨x, y, up _ _ n3.symm hTO⟩, ?_, ?_, hZ.l1.at fun o e => up _ o n6.symm (kp a _ D.l1z D.l1TO D.l1i1 D.l1i2 e), hZ.l2.at fun o e => up _ o n7.symm (kp b _ D.l2z D.l2TO D.l2i1 D.l2i2 e), .inr ⟨T, f, hm, up _ _ n1.symm hz⟩⟩
        · rw [List.length_append]; exact h1.at fun o e => up _ o n4.symm e
        · rw [List.length_append]; exact h2.at fun o e => up _ o n5.symm e
      · have up : ∀ p o, p ≠ S → g.get? p = some o → (g.update S (Obj.mapSeq (·.push (.ref s.heap.objs.size)))).get? p = some o := fun p o hp e => (Heap.get?_update_other _ _ (Ne.symm hp)).trans e
        refine ⟨by simp; omega, ?_, fun t ht => ?_, fun i t ht => ?_⟩
        · rw [List.pairwise_append]
          refine ⟨hG.up, List.pairwise_singleton _ _, fun t ht u hu => ?_⟩
          rw [List.mem_singleton.mp hu]
          obtain ⟨j, hj⟩ := List.getElem?_of_mem ht
          obtain ⟨_, _, _, _, h3⟩ := hG.at_ j t hj
          exact IsPair.some h3
        · rcases List.mem_append.mp ht with ht | ht
          · exact hG.lw t ht
          · rw [List.mem_singleton.mp ht]; exact hlo
        · by_cases hi : i < ts.length
          · rw [List.getElem?_append_left hi] at ht
            obtain ⟨x, y, h1, h2, h3⟩ := hG.at_ i t ht
            have lt := hG.lw t (List.mem_of_getElem? ht)
            exact ⟨x, y, h1, h2, up t _ (by rintro rfl; exact absurd lt (Nat.not_le.mpr w6)) (kp t _ (by rintro rfl; exact absurd lt (Nat.not_le.mpr w1)) (by rintro rfl; exact absurd lt (Nat.not_le.mpr w3)) (by rintro rfl; exact absurd lt (Nat.not_le.mpr w4)) (by rintro rfl; exact absurd lt (Nat.not_le.mpr w5)) h3)⟩
          · rw [List.getElem?_append_right (by omega)] at ht
            have hi' : i = ts.length := by
              have := (List.getElem?_eq_some_iff.mp ht).1
              rw [List.length_singleton] at this
              omega
            subst hi'
            rw [Nat.sub_self] at ht
            cases ht
            exact ⟨_, _, hx, hy, up _ _ (Ne.symm (Nat.ne_of_lt lS)) hT⟩
      · rintro s' us acc' c' ha' ⟨g', rfl⟩ kp' hl hG' hS''
        refine q _ us acc' c' ha' ⟨g', rfl⟩ (fun p o p0 p1 p2 p3 p4 e => kp' p o p0 p1 p2 p3 p4 ((Heap.get?_update_other _ _ (Ne.symm p0)).trans (kp p o p1 p2 p3 p4 e))) hl hG' hS''
    obtain ⟨x0, y0, hTO⟩ := hZ.to
    rcases hZ.zz with ⟨_, hz⟩ | ⟨T, f, hm, hz⟩
    · refine wpAny_bind (pyNext_zipT_item D hz hZ.pr hTO hZ.j1 hZ.j2 hZ.l1 hZ.l2 hx hy fun g z' to' h1 h2 hT gs kp => ?_)
      exact more g false _ (List.mem_append_right _ List.mem_cons_self) z' h1 h2 ⟨_, _, to'⟩ hT gs kp
    · obtain ⟨j, hj⟩ := List.getElem?_of_mem hm
      obtain ⟨_, _, _, _, hT⟩ := hG.at_ j T hj
      refine wpAny_bind (held_item D hz hT hZ.pr hZ.j1 hZ.j2 hZ.l1 hZ.l2 hx hy fun g z' h1 h2 hT' gs kp => ?_)
      exact more g true T (List.mem_append_left _ hm) z' h1 h2 ⟨_, _, kp _ _ D.TOz D.TOi1 D.TOi2 hTO⟩ hT' gs fun c o c1 _ c2 c3 e => kp c o c1 c2 c3 e
end
end Zl

set_option Elab.async false
set_option linter.all false
set_option maxRecDepth 100000
set_option maxHeartbeats 4000000
namespace Zl
open PySem PySem.Spec PyProof.Rows L2 RZ
theorem no_len : typeLookup (.type "zip") "__len__" = pure none := am_miss_of_fast (by decide +kernel)
theorem no_hint : typeLookup (.type "zip") "__length_hint__" = pure none := am_miss_of_fast (by decide +kernel)
abbrev LsAt (h : Heap) (S : Addr) (acc : Array Value) (c : Nat) : Prop := h.get? S = some { cls := .type "list", dict := none, data := .seq acc c, slots := #[] }
section
variable {prog : Program} {w : World} {A : Around} {s : Shared} {R : Result → Shared → Prop} {z TI TO i1 i2 a b S : Addr} {xs ys : Array Value} {res : Value} {lo : Nat}
/-- what the collected list is -/
def Got (s : Shared) (S z TO i1 i2 : Addr) (lo : Nat) (xs ys : Array Value) (K : Shared → Prop) : Prop :=
  ∀ (s' : Shared) (us : List Addr) (acc' : Array Value) (c' : Nat), acc'.toList = us.map Value.ref → (∃ g, s' = { s with heap := g }) → (∀ p o, p ≠ S → p ≠ z → p ≠ TO → p ≠ i1 → p ≠ i2 → s.heap.get? p = some o → s'.heap.get? p = some o) → us.length = xs.size → GAt s'.heap lo xs ys us → LsAt s'.heap S acc' c' → K s'
theorem ZAt.still {h h' : Heap} {n : Nat} {ts : List Addr} (x : ZAt h z TI TO i1 i2 a b xs ys n ts) (nS : S ≠ z ∧ S ≠ TI ∧ S ≠ TO ∧ S ≠ i1 ∧ S ≠ i2 ∧ S ≠ a ∧ S ≠ b) (k : ∀ p o, p ≠ S → h.get? p = some o → h'.get? p = some o) : ZAt h' z TI TO i1 i2 a b xs ys n ts := by
  obtain ⟨n1, n2, n3, n4, n5, n6, n7⟩ := nS
  obtain ⟨x0, y0, hTO⟩ := x.to
  refine ⟨k _ _ n2.symm x.pr, ⟨x0, y0, k _ _ n3.symm hTO⟩, x.j1.at fun o e => k _ o n4.symm e, x.j2.at fun o e => k _ o n5.symm e, x.l1.at fun o e => k _ o n6.symm e, x.l2.at fun o e => k _ o n7.symm e, ?_⟩
  rcases x.zz with ⟨e, h⟩ | ⟨T, f, m, h⟩
  · exact .inl ⟨e, k _ _ n1.symm h⟩
  · exact .inr ⟨T, f, m, k _ _ n1.symm h⟩
theorem Got.keep {K : Shared → Prop} {g : Heap} (q : Got s S z TO i1 i2 lo xs ys K) (k : ∀ p o, p ≠ S → s.heap.get? p = some o → g.get? p = some o) : Got { s with heap := g } S z TO i1 i2 lo xs ys K := by
  rintro s' us acc' c' ha ⟨g', rfl⟩ kp hl hG hS
  exact q _ us acc' c' ha ⟨g', rfl⟩ (fun p o p0 p1 p2 p3 p4 e => kp p o p0 p1 p2 p3 p4 (k p o p0 e)) hl hG hS
theorem fill (hh : A.handled = none) (D : ZipApart z TI TO i1 i2 a b) (nS : S ≠ z ∧ S ≠ TI ∧ S ≠ TO ∧ S ≠ i1 ∧ S ≠ i2 ∧ S ≠ a ∧ S ≠ b) (e : xs.size = ys.size) (hn : xs.size ≤ sizeLine) (low : z < lo ∧ TI < lo ∧ TO < lo ∧ i1 < lo ∧ i2 < lo ∧ S < lo)
    (hlo : lo ≤ s.heap.objs.size) (hz : IsZip s.heap z TI TO .none) (hZ : ZAt s.heap z TI TO i1 i2 a b xs ys 0 []) {c : Nat} (hS : LsAt s.heap S #[] c) (q : Got s S z TO i1 i2 lo xs ys fun s' => R (.ok (.ret res)) s') :
    wpAny (model prog w) A.in1 (Builtin.List.listExtendWith (.ref S) (.ref z) res)
      (fun fin t => match fin with | .done f => R (.ok f) t | .again u => u.quiet = true ∧ codeAny (model prog w) A u R t) (fun x t => R (.error x) t) s := by
  have ty : s.TypeIs (.ref z) "zip" := ⟨_, hz, rfl⟩
  unfold Builtin.List.listExtendWith
  refine wpAny_bind (wpAny_typeOf ty ?_)
  have f1 : Builtin.List.listSameRef (.ref S) (.ref z) = false := by simp [Builtin.List.listSameRef, nS.1]
  have f2 : (Value.type "zip" == Value.type "list") = false := by decide
  have f3 : (Value.type "zip" == Value.type "tuple") = false := by decide
  simp only [f1, f2, f3, Bool.or_false, Bool.false_eq_true, if_false]
  refine wpAny_bind (wpAny_pyIter_zip hz (wpAny_bind (wpAny_holding ?_)))
  unfold Builtin.List.listLengthHint
  refine wpAny_bind (wpAny_specialOf ty no_len ?_)
  show wpAny _ A.in1 (specialOf (Value.ref z) (Str.ofString "__length_hint__") >>= _) _ _ _
  refine wpAny_bind (wpAny_specialOf ty no_hint (wpAny_pure ?_))
  show wpAny _ A.in1 (rule "list.extend.makes-room" >>= fun _ => Builtin.List.listTouch (.ref S) >>= fun _ => again (.builtin "list.extend.loop" ⟨[.ref S, .ref z, res], []⟩)) _ _ _
  refine wpAny_bind (wpAny_rule (wpAny_bind ?_))
  show wpAny _ A.in1 (updateSeq S (·.push .none) >>= fun _ => updateSeq S (·.pop)) _ _ _
  refine wpAny_bind (wpAny_updateSeq hS rfl ?_)
  have u2 := Heap.get?_update_self (Obj.mapSeq (·.push Value.none)) hS rfl
  refine wpAny_updateSeq (hz := by seq_fits) u2 rfl ?_
  have u3 := Heap.get?_update_self (Obj.mapSeq (·.pop)) u2 rfl
  have k : ∀ p o, p ≠ S → s.heap.get? p = some o → ((s.heap.update S (Obj.mapSeq (·.push Value.none))).update S (Obj.mapSeq (·.pop))).get? p = some o := fun p o hp x => (Heap.get?_update_other _ _ (Ne.symm hp)).trans ((Heap.get?_update_other _ _ (Ne.symm hp)).trans x)
  refine wpAny_pure ⟨plainId_quiet F.plain_extend_loop _, loop hh D nS e hn lo low xs.size [] _ _ _ rfl rfl ?_ (hZ.still nS k) ⟨Nat.zero_le _, .nil, (fun t h => nomatch h), fun i t h => by cases i <;> cases h⟩ u3 (q.keep k)⟩
  show lo ≤ ((s.heap.update S _).update S _).objs.size
  rw [Heap.size_update, Heap.size_update]
  exact hlo
theorem init (hh : A.handled = none) (D : ZipApart z TI TO i1 i2 a b) (nS : S ≠ z ∧ S ≠ TI ∧ S ≠ TO ∧ S ≠ i1 ∧ S ≠ i2 ∧ S ≠ a ∧ S ≠ b) (e : xs.size = ys.size) (hn : xs.size ≤ sizeLine) (low : z < lo ∧ TI < lo ∧ TO < lo ∧ i1 < lo ∧ i2 < lo ∧ S < lo)
    (hlo : lo ≤ s.heap.objs.size) (hz : IsZip s.heap z TI TO .none) (hZ : ZAt s.heap z TI TO i1 i2 a b xs ys 0 []) (hS : LsAt s.heap S #[] 0) (q : Got s S z TO i1 i2 lo xs ys fun s' => R (.ok (.ret .none)) s') :
    wpAny (model prog w) A.in1 (Builtin.«list.__init__» ⟨[.ref S, .ref z], []⟩)
      (fun fin t => match fin with | .done f => R (.ok f) t | .again u => u.quiet = true ∧ codeAny (model prog w) A u R t) (fun x t => R (.error x) t) s := by
  show wpAny _ A.in1 (do let old ← Builtin.List.listItems (.ref S); Builtin.List.listUpdate (.ref S) (fun _ => #[]); letGo old.toList.reverse; Builtin.List.listExtendWith (.ref S) (.ref z) .none) _ _ s
  refine wpAny_bind ?_
  unfold Builtin.List.listItems
  refine wpAny_bind (wpAny_seqItems hS rfl (wpAny_pure ?_))
  show wpAny _ A.in1 (updateSeq S (fun _ => #[]) >>= fun _ => letGo (#[] : Array Value).toList.reverse >>= fun _ => Builtin.List.listExtendWith (.ref S) (.ref z) .none) _ _ s
  refine wpAny_bind (wpAny_updateSeq hS rfl ?_)
  have u2 := Heap.get?_update_self (Obj.mapSeq (fun _ => (#[] : Array Value))) hS rfl
  have k : ∀ p o, p ≠ S → s.heap.get? p = some o → (s.heap.update S (Obj.mapSeq (fun _ => (#[] : Array Value)))).get? p = some o := fun p o hp x => (Heap.get?_update_other _ _ (Ne.symm hp)).trans x
  refine wpAny_bind (wpAny_letGo ?_)
  refine fill hh D nS e hn low ?_ (k _ _ nS.1.symm hz) (hZ.still nS k) u2 (q.keep k)
  show lo ≤ (s.heap.update S _).objs.size
  rw [Heap.size_update]
  exact hlo
end
section
variable {prog : Program} {w : World} {A : Around} {E : Value → Shared → Prop} {s : Shared} {z TI TO i1 i2 a b : Addr} {xs ys : Array Value}
theorem call_list {Q : Value → Shared → Prop} (hh : A.handled = none) (D : ZipApart z TI TO i1 i2 a b) (e : xs.size = ys.size) (hn : xs.size ≤ sizeLine) (hz : IsZip s.heap z TI TO .none) (hZ : ZAt s.heap z TI TO i1 i2 a b xs ys 0 [])
    (q : ∀ (g : Heap) (us : List Addr) (acc : Array Value) (c : Nat), acc.toList = us.map Value.ref → (∀ p o, p ≠ z → p ≠ TO → p ≠ i1 → p ≠ i2 → s.heap.get? p = some o → g.get? p = some o) → us.length = xs.size → GAt g (s.heap.objs.size + 1) xs ys us → LsAt g s.heap.objs.size acc c → Q (.ref s.heap.objs.size) { s with heap := g }) :
    wpAny (model prog w) A (call (.type "list") [.ref z]) Q E s := by
  obtain ⟨x0, y0, hTO⟩ := hZ.to
  have lz := Heap.lt_size hz
  have lI := Heap.lt_size hZ.pr
  have lO := Heap.lt_size hTO
  obtain ⟨o1, ho1, _⟩ := hZ.j1
  obtain ⟨o2, ho2, _⟩ := hZ.j2
  obtain ⟨o3, ho3, _⟩ := hZ.l1
  obtain ⟨o4, ho4, _⟩ := hZ.l2
  have nS : s.heap.objs.size ≠ z ∧ s.heap.objs.size ≠ TI ∧ s.heap.objs.size ≠ TO ∧ s.heap.objs.size ≠ i1 ∧ s.heap.objs.size ≠ i2 ∧ s.heap.objs.size ≠ a ∧ s.heap.objs.size ≠ b :=
    ⟨Ne.symm (Nat.ne_of_lt lz), Ne.symm (Nat.ne_of_lt lI), Ne.symm (Nat.ne_of_lt lO), Ne.symm (Nat.ne_of_lt (Heap.lt_size ho1)), Ne.symm (Nat.ne_of_lt (Heap.lt_size ho2)), Ne.symm (Nat.ne_of_lt (Heap.lt_size ho3)), Ne.symm (Nat.ne_of_lt (Heap.lt_size ho4))⟩
  have up : ∀ {p : Addr}, p < s.heap.objs.size → p < s.heap.objs.size + 1 := fun h => Nat.lt_succ_of_lt h
  have low : z < s.heap.objs.size + 1 ∧ TI < s.heap.objs.size + 1 ∧ TO < s.heap.objs.size + 1 ∧ i1 < s.heap.objs.size + 1 ∧ i2 < s.heap.objs.size + 1 ∧ s.heap.objs.size < s.heap.objs.size + 1 := ⟨up lz, up lI, up lO, up (Heap.lt_size ho1), up (Heap.lt_size ho2), Nat.lt_succ_self _⟩
  refine callType_codes (Q₁ := fun ob t => ob = .ref s.heap.objs.size ∧ t = { s with heap := s.heap.push { cls := .type "list", data := .seq #[] } }) F.called_list (F.typeCall_list_1 _) F.entry_list_init (code_list_new _ ⟨rfl, rfl⟩) fun ob t ht => ?_
  obtain ⟨rfl, rfl⟩ := ht
  have hS : LsAt (s.heap.push { cls := .type "list", data := .seq #[] }) s.heap.objs.size #[] 0 := Heap.get?_push_size _ rfl
  have k : ∀ p o, p ≠ s.heap.objs.size → s.heap.get? p = some o → (s.heap.push { cls := .type "list", data := .seq #[] }).get? p = some o := fun p o _ x => Heap.get?_push_of_some _ x
  refine ⟨⟨_, hS, rfl⟩, F.args_list_init_2 _ _, init (lo := s.heap.objs.size + 1) (A := A.in1) (s := { s with heap := s.heap.push { cls := .type "list", data := .seq #[] } }) hh D nS e hn low ?_ (k _ _ nS.1.symm hz) (hZ.still nS k) hS ?_⟩
  · show s.heap.objs.size + 1 ≤ (s.heap.push _).objs.size
    rw [Heap.size_push]
    exact Nat.le_refl _
  · rintro s' us acc' c' ha ⟨g', rfl⟩ kp hl hG hS'
    exact ⟨rfl, q g' us acc' c' ha (fun p o p1 p2 p3 p4 x => kp p o (Nat.ne_of_lt (Heap.lt_size x)) p1 p2 p3 p4 (Heap.get?_push_of_some _ x)) hl hG hS'⟩
end
/-! over the layer -/
def putP (H : Hp) (L : List (Addr × V × V)) : Hp := fun p => match L.lookup p with | some v => some (.tup [v.1, v.2]) | none => H p
theorem putP_in {H : Hp} : ∀ {L : List (Addr × V × V)} {t : Addr} {v : V × V}, (L.map (·.1)).Nodup → (t, v) ∈ L → putP H L t = some (.tup [v.1, v.2])
  | (u, v0) :: L, t, v, nd, h => by
    unfold putP
    rw [List.lookup_cons]
    rw [List.map_cons, List.nodup_cons] at nd
    rcases List.mem_cons.mp h with e | e
    · cases e
      rw [beq_self_eq_true]
    · have ne : (t == u) = false := beq_eq_false_iff_ne.mpr fun z => nd.1 (by rw [← z]; exact List.mem_map.mpr ⟨_, e, rfl⟩)
      rw [ne]
      exact putP_in nd.2 e
theorem putP_out {H : Hp} : ∀ {L : List (Addr × V × V)} {t : Addr}, t ∉ L.map (·.1) → putP H L t = H t
  | [], t, _ => rfl
  | (u, v0) :: L, t, h => by
    unfold putP
    rw [List.map_cons, List.mem_cons, not_or] at h
    rw [List.lookup_cons, beq_eq_false_iff_ne.mpr h.1]
    exact putP_out h.2
theorem putP_cases {H : Hp} {t : Addr} {o : HO} : ∀ {L : List (Addr × V × V)}, putP H L t = some o → (∃ v, (t, v) ∈ L ∧ o = .tup [v.1, v.2]) ∨ (t ∉ L.map (·.1) ∧ H t = some o)
  | [], h => .inr ⟨by simp, h⟩
  | (u, v0) :: L, h => by
    unfold putP at h
    rw [List.lookup_cons] at h
    by_cases e : t = u
    · subst e
      rw [beq_self_eq_true] at h
      exact .inl ⟨v0, List.mem_cons_self, (Option.some.inj h).symm⟩
    · rw [beq_eq_false_iff_ne.mpr e] at h
      rcases putP_cases (L := L) h with ⟨v, hv, e2⟩ | ⟨h1, h2⟩
      · exact .inl ⟨v, List.mem_cons_of_mem _ hv, e2⟩
      · exact .inr ⟨by rw [List.map_cons, List.mem_cons, not_or]; exact ⟨e, h1⟩, h2⟩
section
variable {X : Cx}
def rLz (K : PySem.W.Frag) : List V → Hp → VK → Prop := fun vs H Q => ∃ a b xs ys, vs = [V.ref a, V.ref b] ∧ SqT K H a xs ∧ SqT K H b ys ∧ xs.length = ys.length ∧
  ∀ (H' : Hp) (p : Addr) (ts : List Addr), (∀ c o, H c = some o → H' c = some o) → H p = none → (∀ t ∈ ts, H t = none) → H' p = some (.lst (ts.map V.ref)) → ts.length = xs.length → (∀ (i : Nat) t x y, ts[i]? = some t → xs[i]? = some x → ys[i]? = some y → H' t = some (.tup [x, y])) → Q (.ref p) H'
def tLz (K : PySem.W.Frag) (ta : TA) : TE := fun σ H Q => ta σ H fun vs H1 => rLz K vs H1 Q
theorem three {us : List Addr} {xs ys : List V} (h1 : us.length = xs.length) (h2 : us.length = ys.length) : ((us.zip (xs.zip ys)).map (·.1)) = us := by
  rw [List.map_fst_zip]
  rw [List.length_zip]
  omega
theorem pe_listZip {e e2 : Expr} {ta : TA} {p p2 q pos : Pos} (hc : X.calm = true) (hgl : Gl X "list") (hml : X.mg "list" = none) (hg : Gl X "zip") (hm : X.mg "zip" = none) (ha : PA X [e, e2] ta)
    (hs : starEach [e, e2] X.env = (false, eval e X.env) :: starEach [e2] X.env := by rfl) (hpl : (backTo q (starEach [e2] X.env)).any (·.1) = false := by rfl)
    (hs1 : starEach [.Call (.Name "zip" p2) [e, e2] [] q] X.env = (false, eval (.Call (.Name "zip" p2) [e, e2] [] q) X.env) :: starEach [] X.env := by rfl) :
    PE X (.Call (.Name "list" p) [.Call (.Name "zip" p2) [e, e2] [] q] [] pos) (tLz X.K ta) := by
  refine ⟨fun pins s σ H Q I h => ?_⟩
  refine Call_ (ld_blt I hgl hml (show bootBuiltins "list" = some (.type "list") from by decide +kernel) (PyProof.Rows.callWith_type1 ?_ hs1 rfl))
  rw [hs1]
  show wpAny _ _ (spliced ((false, eval (.Call (.Name "zip" p2) [e, e2] [] q) X.env) :: backTo pos (starEach [] X.env))) _ _ s
  refine Calls.spliced_cons ?_
  refine Call_ (ld_blt I hg hm PyProof.Rows.boot_zip (PyProof.Rows.callWith_type1 (thn (ha.run q pins s σ H _ I h) fun us s1 ⟨vs, H1, I1, r1, q1⟩ => ?_) hs hpl))
  obtain ⟨a, b, xs, ys, rfl, hqx, hqy, hl, q1⟩ := q1
  cases r1 with
  | cons r rr =>
    cases rr with
    | cons r' rr =>
      cases rr
      cases r
      cases r'
      obtain ⟨its, rv, p1, hz1⟩ := I1.tuple hqx
      obtain ⟨its2, rv2, p2', _⟩ := I1.tuple hqy
      have l1 := rv.length
      have l2 := rv2.length
      obtain ⟨o1, ho1, _⟩ := id p1
      obtain ⟨o2, ho2, _⟩ := id p2'
      refine call_zipT (show s1.heap.IsTuple a its.toArray from p1) (show s1.heap.IsTuple b its2.toArray from p2') fun h' hz hTI hTO h1 h2 hsz hk => ?_
      refine Calls.spliced_nil ?_
      have I2 : Inv X pins σ H1 { s1 with heap := h' } := I1.kept (t' := s1.toks) hk
      have e0 : its.toArray.size = its2.toArray.size := by simp; omega
      have D := PySem.W.ktu_apart s1.heap.objs.size a b (Heap.lt_size ho1) (Heap.lt_size ho2)
      refine call_list (I1.ok.hd hc) D e0 (by simp; omega) hz ⟨hTI, ⟨_, _, hTO⟩, h1, h2, (show h'.IsTuple a its.toArray from ⟨o1, hk _ _ ho1, (by obtain ⟨o, h, r⟩ := p1; rw [ho1] at h; cases h; exact r)⟩), (show h'.IsTuple b its2.toArray from ⟨o2, hk _ _ ho2, (by obtain ⟨o, h, r⟩ := p2'; rw [ho2] at h; cases h; exact r)⟩), .inl ⟨rfl, hz⟩⟩ fun g us acc c hacc kp hlu hG hS => ?_
      have szu : us.length = xs.length := by rw [hlu]; simp; omega
      have nd : us.Nodup := hG.up.imp fun h => Nat.ne_of_lt h
      have lt0 : ∀ t ∈ us, h'.objs.size < t := fun t ht => hG.lw t ht
      have nS : h'.objs.size ∉ us := fun m => Nat.lt_irrefl _ (lt0 _ m)
      have low : ∀ c o, s1.heap.get? c = some o → g.get? c = some o := fun c o e => by
        have lt := Heap.lt_size e
        have ne : ∀ k, c ≠ s1.heap.objs.size + k := fun k => Nat.ne_of_lt (Nat.lt_of_lt_of_le lt (Nat.le_add_right _ _))
        exact kp c o (ne 4) (ne 3) (ne 0) (ne 1) (hk c o e)
      have fresh : ∀ c, s1.heap.objs.size ≤ c → H1 c = none := fun c h => I1.hok.fresh h
      have le' : s1.heap.objs.size ≤ h'.objs.size := by rw [hsz]; exact Nat.le_add_right _ _
      have fu : ∀ t ∈ us, H1 t = none := fun t ht => fresh t (Nat.le_trans le' (Nat.le_of_lt (lt0 t ht)))
      have fS : H1 h'.objs.size = none := fresh _ le'
      let L : List (Addr × V × V) := us.zip (xs.zip ys)
      have eL : L.map (·.1) = us := three (by omega) (by omega)
      have inL : ∀ {t v}, (t, v) ∈ L → t ∈ us := fun {t v} h => by rw [← eL]; exact List.mem_map.mpr ⟨_, h, rfl⟩
      have grow : ∀ c o, H1 c = some o → upd (putP H1 L) h'.objs.size (.lst (us.map V.ref)) c = some o := fun c o e => by
        rw [upd_ne (fun z => by rw [z, fS] at e; cases e), putP_out]
        · exact e
        · rw [eL]; exact fun m => by rw [fu c m] at e; cases e
      refine ⟨.ref h'.objs.size, upd (putP H1 L) h'.objs.size (.lst (us.map V.ref)), ?_, rfl, q1 _ _ us grow fS fu upd_same szu fun i t x y ht hx hy => ?_⟩
      · refine I1.call' (ch := []) rfl ⟨fun c o e _ _ _ => low c o e, fun c o e _ _ _ => ⟨o.slots, low c o e⟩, fun c o e n _ => ?_, fun c o e _ => ⟨o, low c o e⟩, fun c xs e => grow c _ e, fun c o u e => grow c _ e, fun c ps e => ⟨#[], by rw [grow c _ e]; simp⟩⟩ (fun c u e => ?_) I1.bare fun c m => nomatch m
        · have lt := Heap.lt_size e
          rw [upd_ne (Nat.ne_of_lt (Nat.lt_of_lt_of_le lt le')), putP_out]
          · exact n
          · rw [eL]; exact fun m => Nat.lt_irrefl _ (Nat.lt_of_lt_of_le lt (Nat.le_trans le' (Nat.le_of_lt (lt0 c m))))
        · by_cases hcS : c = h'.objs.size
          · subst hcS
            rw [upd_same] at e
            cases e
            refine ⟨by rw [List.length_map]; omega, acc.toList, c, by rw [hacc]; exact LiI.vals_refs us, ?_⟩
            rw [Array.toArray_toList]
            exact hS
          · rw [upd_ne hcS] at e
            rcases putP_cases e with ⟨v, hv, rfl⟩ | ⟨h1', h2'⟩
            · obtain ⟨i, hi⟩ := List.getElem?_of_mem hv
              have hi' := hi
              rw [List.getElem?_zip_eq_some, List.getElem?_zip_eq_some] at hi
              obtain ⟨g1, g2, g3⟩ := hi
              obtain ⟨x, y, a1, a2, a3⟩ := hG.at_ i c g1
              obtain ⟨ux, b1, b2⟩ := rv.get g2
              obtain ⟨uy, c1, c2⟩ := rv2.get g3
              have ex : x = ux := by
                have : its.toArray[i]? = some ux := by simpa using b1
                rw [this] at a1; exact (Option.some.inj a1).symm
              have ey : y = uy := by
                have : its2.toArray[i]? = some uy := by simpa using c1
                rw [this] at a2; exact (Option.some.inj a2).symm
              subst ex
              subst ey
              exact ⟨by show 2 ≤ sizeLine; decide, [x, y], .cons b2 (.cons c2 .nil), ⟨_, a3, rfl, _, rfl⟩⟩
            · exact (I1.hok c u h2').stay (fun d v _ k => low d v k) (fun d k => grow d _ k) fun d xs k => grow d _ k
      · have hm : (t, (x, y)) ∈ L := by
          refine List.mem_of_getElem? (i := i) ?_
          rw [List.getElem?_zip_eq_some, List.getElem?_zip_eq_some]
          exact ⟨ht, hx, hy⟩
        rw [upd_ne (fun z => nS (by rw [← z]; exact inL hm)), putP_in (by rw [eL]; exact nd) hm]
end
end Zl

set_option Elab.async false
set_option linter.all false
set_option maxRecDepth 100000
set_option maxHeartbeats 4000000
/-! comprehensions into a set or a dict, whatever stands there -/
namespace Cg
open PySem PySem.Spec PyProof.Rows L2
section
variable {X : Cx}
/-- what {elt for g in wi if tt} asks: emp the new set, r the rule of set.add -/
def tScG (emp : Addr → HO) (r : V → List V → Hp → VK → Prop) (wi : TI) (g : TG) (tt : TT) (te : TE) (vs : List Nat) : TE := fun σ H Q => wi σ H fun J H1 => ∀ D, H1 D = none → ∃ W : Nat → Nat → Hp → Prop, (∃ m, W 0 m (upd H1 D (emp D))) ∧ ∀ i m H, W i m H →
  (J.stop i H ∧ Q (.ref D) H) ∨ (J.go i H ∧ ∃ Nx : Hp → Prop, (∀ H', Nx H' → ∃ m', m' < m ∧ W (i + 1) m' H') ∧ ∀ x H', J.yld i H x H' → g x (wipe σ vs) H' fun σ2 H2 => wipe σ2 vs = wipe σ vs ∧ tt σ2 H2 fun b H3 =>
    if b = true then te σ2 H3 fun y H4 => r (.ref D) [y] H4 fun _ H5 => Nx H5 else Nx H3)
theorem pe_scG {elt t0 i0 : Expr} {ifs : List Expr} {sc : Scope} {own : List (Str × Nat)} {pos : Pos} {emp : Addr → HO} {r : V → List V → Hp → VK → Prop} {wi : TI} {g : TG} {tt : TT} {te : TE} (hc : X.calm = true) (hN : X.N.Nodup) (hi : PI X t0 i0 wi) (ok : BlkOk X.N X.env.scope sc own)
    (hemp : ∀ (H : Hp) (h : Heap), sysModules < h.objs.size → ObjOk X.prog X.w H (h.push (Tx.s0 X.w)) h.objs.size (emp h.objs.size))
    (hput : ∀ (s : Shared) (H : Hp) (C : Addr) (cl : List (Str × Addr)) (fp : List Addr), MtR (X.blk s H sc (compEnvC sc cl C X.env) fp) "set.add" r)
    (hg : ∀ (s : Shared) (H : Hp) (C : Addr) (cl : List (Str × Addr)) (fp : List Addr), PG (X.blk s H sc (compEnvC sc cl C X.env) fp) t0 g)
    (ht : ∀ (s : Shared) (H : Hp) (C : Addr) (cl : List (Str × Addr)) (fp : List Addr), PTs (X.blk s H sc (compEnvC sc cl C X.env) fp) ifs tt)
    (he : ∀ (s : Shared) (H : Hp) (C : Addr) (cl : List (Str × Addr)) (fp : List Addr), PE (X.blk s H sc (compEnvC sc cl C X.env) fp) elt te)
    (hs : ∀ x, foldedSetIterable i0 X.env x = pure x := by intro _; rfl) :
    PE X (.SetComp elt [⟨t0, i0, ifs, 0⟩] sc pos) (tScG emp r wi g tt te (own.map (·.2))) := by
  refine ⟨fun pins s σ H Q I h => ?_⟩
  rw [PpSet.eval_SetComp]
  have frees : ∀ y ∈ sc.names, y.2 = .free → ∃ c, X.env.cells.lookup y.1 = some c := fun y hy e => I.ok.has _ (ok.free y hy e)
  refine wpAny_comprehension_free (use := none) rfl hs (closure_ok frees) ok.kind (fun y hy e => by rw [ok.uniq y hy, e]) (thn (hi.run pins s σ H _ I h) fun _ s1 hx => thn hx fun _ s2 h2 => ?_)
  obtain ⟨it, fp, tn, J, H2, rfl, I2, T, st2, f2, q⟩ := h2
  refine PpSet.newSet_ok (newEnv_comp ?_)
  obtain ⟨D, hD⟩ : ∃ D, s2.heap.objs.size = D := ⟨_, rfl⟩
  rw [hD]
  have hDn : H2 D = none := I2.hok.fresh (Nat.le_of_eq hD)
  obtain ⟨W, ⟨m0, w0⟩, turn⟩ := q D hDn
  obtain ⟨s3, hs3⟩ : ∃ s3 : Shared, ({ s2 with heap := s2.heap.push (Tx.s0 X.w) } : Shared) = s3 := ⟨_, rfl⟩
  have h3 : s3.heap = s2.heap.push (Tx.s0 X.w) := by rw [← hs3]
  have I3 : Inv X pins σ (upd H2 D (emp D)) s3 := by
    rw [← hs3]
    refine I2.laid (t' := s2.toks) (fun b o e => Heap.get?_push_of_some _ e) (Nat.le_of_eq hD) ?_
    rw [← hD]
    exact hemp _ _ I2.big
  have f3 : ∀ b ∈ fp, FpOk X pins (upd H2 D (emp D)) b ∧ b < s3.heap.objs.size := fun b hb => by
    obtain ⟨o, eo, _⟩ := T.obj _ _ st2 b hb
    have lt : b < s2.heap.objs.size := Heap.lt_size eo
    refine ⟨⟨?_, (f2 b hb).2⟩, by rw [h3, Heap.size_push]; exact Nat.lt_succ_of_lt lt⟩
    rw [upd_ne (by rw [← hD]; exact Nat.ne_of_lt lt)]
    exact (f2 b hb).1
  have st3 : tn 0 s3.heap := T.keep _ _ _ st2 fun b _ o e => by rw [h3]; exact Heap.get?_push_of_some _ e
  have I4 := block_start I3 ok hN f3
  show codeAny _ _ (.compStart (.SetComp elt [⟨t0, i0, ifs, 0⟩] sc pos) 0 (.ref it) (.ref D) _) (compPost (model X.prog X.w) X.A X.xe none (EP X pins σ Q) (.ref D) _) _
  rw [hs3]
  have pg := hg s3 (upd H2 D (emp D)) s3.heap.objs.size (cellsFrom (s3.heap.objs.size + 1) sc.names (cloFrom X.env.cells sc.names [])) fp
  have pt := ht s3 (upd H2 D (emp D)) s3.heap.objs.size (cellsFrom (s3.heap.objs.size + 1) sc.names (cloFrom X.env.cells sc.names [])) fp
  have pe := he s3 (upd H2 D (emp D)) s3.heap.objs.size (cellsFrom (s3.heap.objs.size + 1) sc.names (cloFrom X.env.cells sc.names [])) fp
  have pp := hput s3 (upd H2 D (emp D)) s3.heap.objs.size (cellsFrom (s3.heap.objs.size + 1) sc.names (cloFrom X.env.cells sc.names [])) fp
  have none3 : ∀ b ∈ fp, (upd H2 D (emp D)) b = none := fun b hb => (f3 b hb).1.1
  show codeAny _ _ (.compStart (.SetComp elt [⟨t0, i0, ifs, 0⟩] sc pos) 0 (.ref it) (.ref D) (compEnvC sc (cellsFrom (s3.heap.objs.size + 1) sc.names (cloFrom X.env.cells sc.names [])) s3.heap.objs.size X.env))
    (compPost (model X.prog X.w) X.A X.xe none (EP X pins σ Q) (.ref D) s3.heap.objs.size) { s3 with heap := pushCells (s3.heap.push { cls := .type "dict", data := .dict #[] }) sc.names }
  generalize hce : compEnvC sc (cellsFrom (s3.heap.objs.size + 1) sc.names (cloFrom X.env.cells sc.names [])) s3.heap.objs.size X.env = ce at I4 pg pt pe pp ⊢
  have cL : ce.locals = s3.heap.objs.size := by subst hce; rfl
  generalize hH3 : upd H2 D (emp D) = H3 at I3 I4 pg pt pe pp w0 none3 f3
  generalize hs4 : ({ s3 with heap := pushCells (s3.heap.push { cls := .type "dict", data := .dict #[] }) sc.names } : Shared) = s4 at I4 ⊢
  have st4 : tn 0 s4.heap := T.keep _ _ _ st3 fun b _ o e => by rw [← hs4]; exact pushCells_keeps _ _ _ _ (Heap.get?_push_of_some _ e)
  let B := X.blk s3 H3 sc ce fp
  let σ0 := wipe σ (own.map (·.2))
  let Goal : Nat → Shared → Prop := fun n s' => ∃ i H', Inv B [] σ0 H' s' ∧ tn i s'.heap ∧ (∀ b ∈ fp, H' b = none) ∧ W i n H'
  have stat : ∀ {σ' : L2.St} {H' : Hp} {s' : Shared}, Inv B [] σ' H' s' → (∀ b ∈ fp, H' b = none) → ∀ b ∈ fp, FpOk B [] H' b := fun {σ' H' s'} I' hn b hb =>
    ⟨hn b hb, (I'.ok.exf b hb).1, I'.ok.exfs b hb, .inl hb, fun x c e => (I'.ok.exf b hb).2 x c e, fun p hp => absurd (show p ∈ ([] : List (Addr × Obj)) ++ [] from hp) (by simp)⟩
  have loop : codeAny (model X.prog X.w) X.A (.compLoop (.SetComp elt [⟨t0, i0, ifs, 0⟩] sc pos) 0 (.ref it) (.ref D) ce) (compPost (model X.prog X.w) X.A X.xe none (EP X pins σ Q) (.ref D) s3.heap.objs.size) s4 := by
    refine PpSet.compLoopS_any Goal ?_ m0 ⟨0, H3, I4, st4, none3, w0⟩
    rintro n s5 ⟨i, H5, I5, st5, n5, w5⟩
    rcases turn i n H5 w5 with ⟨stop, qq⟩ | ⟨go, Nx, hNx, step⟩
    · refine thnF (T.done B rfl rfl rfl hc i [] s5 _ H5 (fun _ _ => False) I5 (stat I5 n5) st5 stop) fun r s6 ⟨hr, I6⟩ => ?_
      subst hr
      have I7 : Inv X pins σ H5 s6 := I3.call' (ch := fp) I6.os I6.base I6.hok I6.bare fun b hb => ⟨(f3 b hb).1.2.2.2.1, (f3 b hb).1.2.1, (f3 b hb).1.2.2.2.2.1, (f3 b hb).1.2.2.2.2.2⟩
      have noC : H5 s3.heap.objs.size = none := by
        have z : H5 ce.locals = none := I6.free
        rwa [cL] at z
      obtain ⟨mm, hn, _⟩ := I6.loc
      have hn : s6.heap.Ns ce.locals mm := hn
      rw [cL] at hn
      obtain ⟨g0, g1', g2, g3, g4, g5⟩ := I3.fpOk (Nat.le_refl _) noC
      exact ⟨mm, hn, fun h'' sb => ⟨.ref D, H5, I7.turned (t' := s6.toks) (fun b o hb e => (sb.2 b hb).trans e) g0 g1' g3 g4 g5, rfl, qq⟩⟩
    · refine thnF (T.item B rfl rfl rfl hc i [] s5 _ H5 (fun _ _ => False) I5 (stat I5 n5) st5 go) fun r s6 ⟨u, hr, h6⟩ => ?_
      subst hr
      refine thnF h6 fun _ s7 ⟨x, H7, I7, r7, y7, st7, n7⟩ => ?_
      refine thnF (pg.run _ s7 _ H7 x u _ (I7.pinned (stat I7 n7) (T.obj _ _ st7)) r7 (step x H7 y7)) fun _ s8 ⟨σ8, H8, I8, hw8, q8⟩ => ?_
      refine thnF (pt.run _ s8 σ8 H8 _ I8 q8) fun bo s9 ⟨H9, I9, q9⟩ => ?_
      have back : ∀ {s' : Shared} {H' : Hp}, Inv B ([] ++ pinsAt fp s7.heap) σ8 H' s' → Nx H' → ∃ m, m < n ∧ Goal m s' := fun {s' H'} I' nx => by
        obtain ⟨m', hm, w'⟩ := hNx H' nx
        have still : ∀ b ∈ fp, ∀ o, s7.heap.get? b = some o → s'.heap.get? b = some o ∧ H' b = none := fun b hb o e =>
          let z := I'.pin (b, o) (List.mem_append_right _ (List.mem_append_right _ (mem_pinsAt hb e)))
          ⟨z.1, z.2.1⟩
        refine ⟨m', hm, i + 1, H', (I'.unpinned (pins := [])).weak (by rw [← wipe_length σ8 (own.map (·.2)), hw8]) (fun j v e => (wipe_some (show (wipe σ8 (own.map (·.2)))[j]? = some (some v) by rw [hw8]; exact e)).1), T.keep _ _ _ st7 fun b hb o e => (still b hb o e).1, fun b hb => ?_, w'⟩
        obtain ⟨o, e, _⟩ := T.obj _ _ st7 b hb
        exact (still b hb o e).2
      cases bo with
      | false =>
        simp only [Bool.false_eq_true, if_false] at q9 ⊢
        exact back I9 q9
      | true =>
        simp only [if_true] at q9 ⊢
        refine thnF (pe.run _ s9 σ8 H9 _ I9 q9) fun z s10 ⟨yv, H10, I10, r10, q10⟩ => ?_
        exact thnF (pp _ s10 σ8 H10 (.ref D) [yv] (.ref D) [z] _ I10 rfl (.cons r10 .nil) q10) fun _ s11 ⟨_, H11, I11, _, nx⟩ => back I11 nx
  exact PpSet.codeAny_compStart_set loop (T.self X.A 0 _ _ _ st4 loop)
/-- d[k] = v by a comprehension -/
def PutD (X : Cx) (r : V → V → V → Hp → (Hp → Prop) → Prop) : Prop :=
  ∀ (pins : List (Addr × Obj)) (s : Shared) (σ : L2.St) (H : Hp) (D : Addr) (y z : V) (u v : Value) (Q : Hp → Prop), Inv X pins σ H s → RelV y u → RelV z v → r (.ref D) y z H Q →
    wpAny (model X.prog X.w) X.A (dictSet D u v) (fun _ s' => ∃ H', Inv X pins σ H' s' ∧ Q H') X.xe s
/-- what {kx: vx for g in wi if tt} asks: emp the new dict, r the rule of the store -/
def tDcG (emp : Addr → HO) (r : V → V → V → Hp → (Hp → Prop) → Prop) (wi : TI) (g : TG) (tt : TT) (tk te : TE) (vs : List Nat) : TE := fun σ H Q => wi σ H fun J H1 => ∀ D, H1 D = none → ∃ W : Nat → Nat → Hp → Prop, (∃ m, W 0 m (upd H1 D (emp D))) ∧ ∀ i m H, W i m H →
  (J.stop i H ∧ Q (.ref D) H) ∨ (J.go i H ∧ ∃ Nx : Hp → Prop, (∀ H', Nx H' → ∃ m', m' < m ∧ W (i + 1) m' H') ∧ ∀ x H', J.yld i H x H' → g x (wipe σ vs) H' fun σ2 H2 => wipe σ2 vs = wipe σ vs ∧ tt σ2 H2 fun b H3 =>
    if b = true then tk σ2 H3 fun y H4 => te σ2 H4 fun z H5 => r (.ref D) y z H5 Nx else Nx H3)
theorem pe_dcG {kx elt t0 i0 : Expr} {ifs : List Expr} {sc : Scope} {own : List (Str × Nat)} {pos : Pos} {emp : Addr → HO} {r : V → V → V → Hp → (Hp → Prop) → Prop} {wi : TI} {g : TG} {tt : TT} {tk te : TE} (hc : X.calm = true) (hN : X.N.Nodup) (hi : PI X t0 i0 wi) (ok : BlkOk X.N X.env.scope sc own)
    (hemp : ∀ (H : Hp) (h : Heap), sysModules < h.objs.size → ObjOk X.prog X.w H (h.push { cls := .type "dict", data := .dict #[] }) h.objs.size (emp h.objs.size))
    (hput : ∀ (s : Shared) (H : Hp) (C : Addr) (cl : List (Str × Addr)) (fp : List Addr), PutD (X.blk s H sc (compEnvC sc cl C X.env) fp) r)
    (hg : ∀ (s : Shared) (H : Hp) (C : Addr) (cl : List (Str × Addr)) (fp : List Addr), PG (X.blk s H sc (compEnvC sc cl C X.env) fp) t0 g)
    (ht : ∀ (s : Shared) (H : Hp) (C : Addr) (cl : List (Str × Addr)) (fp : List Addr), PTs (X.blk s H sc (compEnvC sc cl C X.env) fp) ifs tt)
    (hk : ∀ (s : Shared) (H : Hp) (C : Addr) (cl : List (Str × Addr)) (fp : List Addr), PE (X.blk s H sc (compEnvC sc cl C X.env) fp) kx tk)
    (he : ∀ (s : Shared) (H : Hp) (C : Addr) (cl : List (Str × Addr)) (fp : List Addr), PE (X.blk s H sc (compEnvC sc cl C X.env) fp) elt te)
    (hs : ∀ x, foldedSetIterable i0 X.env x = pure x := by intro _; rfl) :
    PE X (.DictComp kx elt [⟨t0, i0, ifs, 0⟩] sc pos) (tDcG emp r wi g tt tk te (own.map (·.2))) := by
  refine ⟨fun pins s σ H Q I h => ?_⟩
  rw [arm_eval_DictComp]
  have frees : ∀ y ∈ sc.names, y.2 = .free → ∃ c, X.env.cells.lookup y.1 = some c := fun y hy e => I.ok.has _ (ok.free y hy e)
  refine wpAny_comprehension_free (use := none) rfl hs (closure_ok frees) ok.kind (fun y hy e => by rw [ok.uniq y hy, e]) (thn (hi.run pins s σ H _ I h) fun _ s1 hx => thn hx fun _ s2 h2 => ?_)
  obtain ⟨it, fp, tn, J, H2, rfl, I2, T, st2, f2, q⟩ := h2
  refine wpAny_newObj_type (newEnv_comp ?_)
  obtain ⟨D, hD⟩ : ∃ D, s2.heap.objs.size = D := ⟨_, rfl⟩
  rw [hD]
  have hDn : H2 D = none := I2.hok.fresh (Nat.le_of_eq hD)
  obtain ⟨W, ⟨m0, w0⟩, turn⟩ := q D hDn
  obtain ⟨s3, hs3⟩ : ∃ s3 : Shared, ({ s2 with heap := s2.heap.push { cls := .type "dict", data := .dict #[] } } : Shared) = s3 := ⟨_, rfl⟩
  have h3 : s3.heap = s2.heap.push { cls := .type "dict", data := .dict #[] } := by rw [← hs3]
  have I3 : Inv X pins σ (upd H2 D (emp D)) s3 := by
    rw [← hs3]
    refine I2.laid (t' := s2.toks) (fun b o e => Heap.get?_push_of_some _ e) (Nat.le_of_eq hD) ?_
    rw [← hD]
    exact hemp _ _ I2.big
  have f3 : ∀ b ∈ fp, FpOk X pins (upd H2 D (emp D)) b ∧ b < s3.heap.objs.size := fun b hb => by
    obtain ⟨o, eo, _⟩ := T.obj _ _ st2 b hb
    have lt : b < s2.heap.objs.size := Heap.lt_size eo
    refine ⟨⟨?_, (f2 b hb).2⟩, by rw [h3, Heap.size_push]; exact Nat.lt_succ_of_lt lt⟩
    rw [upd_ne (by rw [← hD]; exact Nat.ne_of_lt lt)]
    exact (f2 b hb).1
  have st3 : tn 0 s3.heap := T.keep _ _ _ st2 fun b _ o e => by rw [h3]; exact Heap.get?_push_of_some _ e
  have I4 := block_start I3 ok hN f3
  show codeAny _ _ (.compStart (.DictComp kx elt [⟨t0, i0, ifs, 0⟩] sc pos) 0 (.ref it) (.ref D) _) (compPost (model X.prog X.w) X.A X.xe none (EP X pins σ Q) (.ref D) _) _
  rw [hs3]
  have pg := hg s3 (upd H2 D (emp D)) s3.heap.objs.size (cellsFrom (s3.heap.objs.size + 1) sc.names (cloFrom X.env.cells sc.names [])) fp
  have pt := ht s3 (upd H2 D (emp D)) s3.heap.objs.size (cellsFrom (s3.heap.objs.size + 1) sc.names (cloFrom X.env.cells sc.names [])) fp
  have pk := hk s3 (upd H2 D (emp D)) s3.heap.objs.size (cellsFrom (s3.heap.objs.size + 1) sc.names (cloFrom X.env.cells sc.names [])) fp
  have pe := he s3 (upd H2 D (emp D)) s3.heap.objs.size (cellsFrom (s3.heap.objs.size + 1) sc.names (cloFrom X.env.cells sc.names [])) fp
  have pp := hput s3 (upd H2 D (emp D)) s3.heap.objs.size (cellsFrom (s3.heap.objs.size + 1) sc.names (cloFrom X.env.cells sc.names [])) fp
  have none3 : ∀ b ∈ fp, (upd H2 D (emp D)) b = none := fun b hb => (f3 b hb).1.1
  show codeAny _ _ (.compStart (.DictComp kx elt [⟨t0, i0, ifs, 0⟩] sc pos) 0 (.ref it) (.ref D) (compEnvC sc (cellsFrom (s3.heap.objs.size + 1) sc.names (cloFrom X.env.cells sc.names [])) s3.heap.objs.size X.env))
    (compPost (model X.prog X.w) X.A X.xe none (EP X pins σ Q) (.ref D) s3.heap.objs.size) { s3 with heap := pushCells (s3.heap.push { cls := .type "dict", data := .dict #[] }) sc.names }
  generalize hce : compEnvC sc (cellsFrom (s3.heap.objs.size + 1) sc.names (cloFrom X.env.cells sc.names [])) s3.heap.objs.size X.env = ce at I4 pg pt pk pe pp ⊢
  have cL : ce.locals = s3.heap.objs.size := by subst hce; rfl
  generalize hH3 : upd H2 D (emp D) = H3 at I3 I4 pg pt pk pe pp w0 none3 f3
  generalize hs4 : ({ s3 with heap := pushCells (s3.heap.push { cls := .type "dict", data := .dict #[] }) sc.names } : Shared) = s4 at I4 ⊢
  have st4 : tn 0 s4.heap := T.keep _ _ _ st3 fun b _ o e => by rw [← hs4]; exact pushCells_keeps _ _ _ _ (Heap.get?_push_of_some _ e)
  let B := X.blk s3 H3 sc ce fp
  let σ0 := wipe σ (own.map (·.2))
  let Goal : Nat → Shared → Prop := fun n s' => ∃ i H', Inv B [] σ0 H' s' ∧ tn i s'.heap ∧ (∀ b ∈ fp, H' b = none) ∧ W i n H'
  have stat : ∀ {σ' : L2.St} {H' : Hp} {s' : Shared}, Inv B [] σ' H' s' → (∀ b ∈ fp, H' b = none) → ∀ b ∈ fp, FpOk B [] H' b := fun {σ' H' s'} I' hn b hb =>
    ⟨hn b hb, (I'.ok.exf b hb).1, I'.ok.exfs b hb, .inl hb, fun x c e => (I'.ok.exf b hb).2 x c e, fun p hp => absurd (show p ∈ ([] : List (Addr × Obj)) ++ [] from hp) (by simp)⟩
  have loop : codeAny (model X.prog X.w) X.A (.compLoop (.DictComp kx elt [⟨t0, i0, ifs, 0⟩] sc pos) 0 (.ref it) (.ref D) ce) (compPost (model X.prog X.w) X.A X.xe none (EP X pins σ Q) (.ref D) s3.heap.objs.size) s4 := by
    refine compLoop_anyD Goal ?_ m0 ⟨0, H3, I4, st4, none3, w0⟩
    rintro n s5 ⟨i, H5, I5, st5, n5, w5⟩
    rcases turn i n H5 w5 with ⟨stop, qq⟩ | ⟨go, Nx, hNx, step⟩
    · refine thnF (T.done B rfl rfl rfl hc i [] s5 _ H5 (fun _ _ => False) I5 (stat I5 n5) st5 stop) fun r s6 ⟨hr, I6⟩ => ?_
      subst hr
      have I7 : Inv X pins σ H5 s6 := I3.call' (ch := fp) I6.os I6.base I6.hok I6.bare fun b hb => ⟨(f3 b hb).1.2.2.2.1, (f3 b hb).1.2.1, (f3 b hb).1.2.2.2.2.1, (f3 b hb).1.2.2.2.2.2⟩
      have noC : H5 s3.heap.objs.size = none := by
        have z : H5 ce.locals = none := I6.free
        rwa [cL] at z
      obtain ⟨mm, hn, _⟩ := I6.loc
      have hn : s6.heap.Ns ce.locals mm := hn
      rw [cL] at hn
      obtain ⟨g0, g1', g2, g3, g4, g5⟩ := I3.fpOk (Nat.le_refl _) noC
      exact ⟨mm, hn, fun h'' sb => ⟨.ref D, H5, I7.turned (t' := s6.toks) (fun b o hb e => (sb.2 b hb).trans e) g0 g1' g3 g4 g5, rfl, qq⟩⟩
    · refine thnF (T.item B rfl rfl rfl hc i [] s5 _ H5 (fun _ _ => False) I5 (stat I5 n5) st5 go) fun r s6 ⟨u, hr, h6⟩ => ?_
      subst hr
      refine thnF h6 fun _ s7 ⟨x, H7, I7, r7, y7, st7, n7⟩ => ?_
      refine thnF (pg.run _ s7 _ H7 x u _ (I7.pinned (stat I7 n7) (T.obj _ _ st7)) r7 (step x H7 y7)) fun _ s8 ⟨σ8, H8, I8, hw8, q8⟩ => ?_
      refine thnF (pt.run _ s8 σ8 H8 _ I8 q8) fun bo s9 ⟨H9, I9, q9⟩ => ?_
      have back : ∀ {s' : Shared} {H' : Hp}, Inv B ([] ++ pinsAt fp s7.heap) σ8 H' s' → Nx H' → ∃ m, m < n ∧ Goal m s' := fun {s' H'} I' nx => by
        obtain ⟨m', hm, w'⟩ := hNx H' nx
        have still : ∀ b ∈ fp, ∀ o, s7.heap.get? b = some o → s'.heap.get? b = some o ∧ H' b = none := fun b hb o e =>
          let z := I'.pin (b, o) (List.mem_append_right _ (List.mem_append_right _ (mem_pinsAt hb e)))
          ⟨z.1, z.2.1⟩
        refine ⟨m', hm, i + 1, H', (I'.unpinned (pins := [])).weak (by rw [← wipe_length σ8 (own.map (·.2)), hw8]) (fun j v e => (wipe_some (show (wipe σ8 (own.map (·.2)))[j]? = some (some v) by rw [hw8]; exact e)).1), T.keep _ _ _ st7 fun b hb o e => (still b hb o e).1, fun b hb => ?_, w'⟩
        obtain ⟨o, e, _⟩ := T.obj _ _ st7 b hb
        exact (still b hb o e).2
      cases bo with
      | false =>
        simp only [Bool.false_eq_true, if_false] at q9 ⊢
        exact back I9 q9
      | true =>
        simp only [if_true] at q9 ⊢
        refine thnF (pk.run _ s9 σ8 H9 _ I9 q9) fun z s10 ⟨yk, H10, I10, r10, q10⟩ => ?_
        refine thnF (pe.run _ s10 σ8 H10 _ I10 q10) fun z2 s11 ⟨yv, H11, I11, r11, q11⟩ => ?_
        exact thnF (pp _ s11 σ8 H11 D yk yv z z2 _ I11 r10 r11 q11) fun _ s12 ⟨H12, I12, nx⟩ => back I12 nx
  exact codeAny_compStart_dict loop (T.self X.A 0 _ _ _ st4 loop)
end
end Cg

set_option Elab.async false
set_option linter.all false
set_option maxRecDepth 100000
set_option maxHeartbeats 4000000
/-! dicts with nested keys: in, a store by a comprehension; sets of ints: len, by a comprehension -/
namespace Ndk
open PySem PySem.Spec PyProof.Rows L2
open Fo (All2)
section
variable {X : Cx}
def rNdIn (K : PySem.W.Frag) (P : Program) (w : World) : R2 := fun x y H Q => ∃ (a b : Addr) (ents : List (Nk × Addr × V)) (k : Nk), x = .ref b ∧ y = .ref a ∧ NdAt K P w H a ents ∧ NkAt K H k (.ref b) ∧ k.dep ≤ 7 ∧ Q (.bl (ndV ents k).isSome) H
theorem op_ndin (hu : X.A.units + 65 < cLine) : OpR X (compareOp .In) (rNdIn X.K X.prog X.w) := by
  intro pins s σ H x y v u Q I rx ry h
  obtain ⟨a, b, ents, k, rfl, rfl, hd, hk, hdep, q⟩ := h
  cases (show v = Value.ref b from rx)
  cases (show u = Value.ref a from ry)
  obtain ⟨lo, sz, xs, pr, dd⟩ := nd_open I hd
  refine wpAny_in_heap (room_nd hu) ⟨nk_is I hk rfl, hdep⟩ lo dd ?_
  have e := (ndV_rel pr k).isSome_eq
  rw [Option.isSome_map] at e
  rw [← e]
  exact ⟨.bl _, H, I.tok _, rfl, q⟩
theorem op_ndin_k {K : PySem.W.Frag} {P : Program} {w : World} (h1 : X.K = K) (h2 : X.prog = P) (h3 : X.w = w) (hu : X.A.units + 65 < cLine) : OpR X (compareOp .In) (rNdIn K P w) := by
  subst h1 h2 h3
  exact op_ndin hu
def rNdPut (K : PySem.W.Frag) (P : Program) (w : World) : V → V → V → Hp → (Hp → Prop) → Prop := fun x y z H N => ∃ (a b : Addr) (ents : List (Nk × Addr × V)) (k : Nk), x = .ref a ∧ y = .ref b ∧ NdAt K P w H a ents ∧ NkAt K H k (.ref b) ∧ k.dep ≤ 7 ∧ ndV ents k = none ∧ ents.length < sizeLine ∧ N (upd H a (NdO P w a (ents ++ [(k, b, z)])))
theorem put_nd (hu : X.A.units + 65 < cLine) : Cg.PutD X (rNdPut X.K X.prog X.w) := by
  intro pins s σ H D y z u v Q I ry rz h
  obtain ⟨a, b, ents, k, ex, rfl, hd, hk, hdep, hn, hl, q⟩ := h
  cases ex
  obtain rfl : u = Value.ref b := ry
  obtain ⟨lo, sz, xs, pr, dd⟩ := nd_open I hd
  have hz : xs.length ≤ sizeLine := by rw [← pr.length]; exact sz
  have ha : atKey xs k = none := by
    have := ndV_rel pr k
    rw [hn] at this
    cases e : atKey xs k with
    | none => rfl
    | some p => rw [e] at this; exact this.elim
  refine wpAny_dictSet_heap (hsz := hz) (knd := nestKind X.prog X.w) (show (nestKind X.prog X.w).room X.A from by show X.A.units + 8 < cLine; omega) ⟨nk_is I hk rfl, hdep⟩ dd fun h' dd' hs => ⟨_, ?_, q⟩
  rw [storedH_new ha] at dd'
  obtain ⟨o, es, ep, hq, h2, h3, h4, h6, h5⟩ := dd'
  have em : ∀ {l : List (Nk × Addr × V)} {m : List (Nk × Addr × Value)}, All2 EVR l m → m.map (·.1) = l.map (·.1) := by
    intro l m r
    induction r with
    | nil => rfl
    | cons hq _ ih => rw [List.map_cons, List.map_cons, ih, hq.1]
  have pr' : All2 EVR (ents ++ [(k, b, z)]) (xs ++ [(k, b, v)]) := pr.append (.cons ⟨rfl, rfl, rz⟩ .nil)
  refine d_write I (by rw [hd.1]; exact True.intro) hs ⟨o, hq⟩ ⟨⟨lo, by rw [List.length_append, List.length_singleton]; omega, by rw [← em pr']; exact h5, o, es, ep, _, hq, h2, h3, h4, pr'⟩, ⟨o, hq⟩, ?_⟩
  rintro g1 g2 ⟨a1, a2, a3, o, es, ep, xs, e1, e2⟩ k
  exact ⟨a1, a2, a3, o, es, ep, xs, k o e1, e2⟩
theorem put_nd_k {K : PySem.W.Frag} {P : Program} {w : World} (h1 : X.K = K) (h2 : X.prog = P) (h3 : X.w = w) (hu : X.A.units + 65 < cLine) : Cg.PutD X (rNdPut K P w) := by
  subst h1 h2 h3
  exact put_nd hu
theorem emp_nd {P : Program} {w : World} (H : Hp) (h : Heap) (hb : sysModules < h.objs.size) : ObjOk P w H (h.push { cls := .type "dict", data := .dict #[] }) h.objs.size (NdO P w h.objs.size []) := nd_empty h hb
end
end Ndk
namespace Si
open PySem PySem.Spec PyProof.Rows L2
section
variable {X : Cx}
theorem emp_si {P : Program} {w : World} (H : Hp) (h : Heap) (hb : sysModules < h.objs.size) : ObjOk P w H (h.push (Tx.s0 w)) h.objs.size (SetO w h.objs.size (fun _ => false) 0) := setO_new (setR_fresh w)
def rLenSi (w : World) : List V → Hp → VK → Prop := fun xs H Q => ∃ (a : Addr) (S : Int → Bool) (n : Nat), xs = [.ref a] ∧ H a = some (SetO w a S n) ∧ Q (.int (n : Int)) H
theorem call_lenSi : CallR X (.builtin "len") (rLenSi X.w) := by
  intro pins s σ H xs us Q I r h
  obtain ⟨a, S, n, rfl, ha, q⟩ := h
  obtain ⟨u, rfl, rx⟩ := vals1 r
  obtain rfl : u = .ref a := rx
  obtain ⟨o, es, ep, t, ho, hex, hd, _, _, _, hsc, hf, hn, _⟩ := setO_get I ha
  refine call_len_set ho hex hd hf (Int.lt_of_lt_of_le (Int.ofNat_lt.mpr hsc) (by decide)) ?_
  rw [hn]
  exact ⟨.int (n : Int), H, I.tok _, ⟨_, rfl⟩, q⟩
end
end Si

set_option Elab.async false
set_option linter.all false
set_option maxRecDepth 100000
set_option maxHeartbeats 4000000
/-! what the laws share: draws, structures, what _law_same compares -/
namespace Da
open PySem L2
def dint (r : List Int) : PyData := .tuple (r.map PyData.int)
theorem lay_ints : ∀ r : List Int, PyData.canLayAll0 (r.map PyData.int) = true
  | [] => rfl
  | x :: r => by rw [List.map_cons, PyData.canLayAll0, lay_ints r]; rfl
theorem dep_ints : ∀ r : List Int, PyData.depthAll (r.map PyData.int) ≤ 2
  | [] => by decide
  | x :: r => by
    rw [List.map_cons, PyData.depthAll]
    have := dep_ints r
    have e : (PyData.int x).depth ≤ 2 := by rw [PyData.depth]; omega
    omega
theorem lay_strs : ∀ r : List Str, (∀ x ∈ r, PyData.strOk x = true) → PyData.canLayAll0 (r.map PyData.str) = true
  | [], _ => rfl
  | x :: r, h => by
    rw [List.map_cons, PyData.canLayAll0, lay_strs r fun z hz => h z (List.mem_cons_of_mem _ hz), PyData.canLay0, h x List.mem_cons_self]
    rfl
theorem dep_strs : ∀ r : List Str, PyData.depthAll (r.map PyData.str) ≤ 2
  | [] => by decide
  | x :: r => by
    rw [List.map_cons, PyData.depthAll]
    have := dep_strs r
    have e : (PyData.str x).depth ≤ 2 := by rw [PyData.depth]; omega
    omega

theorem shaped_ints (r : List Int) : SeqAt.shaped (dint r) = true := by
  unfold SeqAt.shaped dint
  rw [Bool.and_eq_true, decide_eq_true_eq, PyData.canLay0, PyData.depth]
  have := dep_ints r
  exact ⟨lay_ints r, by omega⟩
theorem lay_rows : ∀ rs : List (List Int), PyData.canLayAll0 (rs.map dint) = true
  | [] => rfl
  | r :: rs => by rw [List.map_cons, PyData.canLayAll0, lay_rows rs, dint, PyData.canLay0, lay_ints r]; rfl
theorem dep_rows : ∀ rs : List (List Int), PyData.depthAll (rs.map dint) ≤ 4
  | [] => by decide
  | r :: rs => by
    rw [List.map_cons, PyData.depthAll]
    have := dep_rows rs
    have e : (dint r).depth ≤ 4 := by rw [dint, PyData.depth]; have := dep_ints r; omega
    omega
theorem shaped_rows (rs : List (List Int)) : SeqAt.shaped (.tuple (rs.map dint)) = true := by
  unfold SeqAt.shaped
  rw [Bool.and_eq_true, decide_eq_true_eq, PyData.canLay0, PyData.depth]
  have := dep_rows rs
  exact ⟨lay_rows rs, by omega⟩
theorem shaped_strs (r : List Str) (h : ∀ x ∈ r, PyData.strOk x = true) : SeqAt.shaped (.list (r.map PyData.str)) = true := by
  unfold SeqAt.shaped
  rw [Bool.and_eq_true, decide_eq_true_eq, PyData.canLay0, PyData.depth]
  have := dep_strs r
  exact ⟨lay_strs r h, by omega⟩
theorem eqv_strs : ∀ r : List Str, PyData.eqvAll (r.map PyData.str) (r.map PyData.str) = true
  | [] => by simp [PyData.eqvAll]
  | x :: r => by
    rw [List.map_cons, PyData.eqvAll, eqv_strs r, PyData.eqv]
    simp
theorem eqv_list (r : List Str) : PyData.eqv (.list (r.map PyData.str)) (.list (r.map PyData.str)) = true := by
  rw [PyData.eqv]; exact eqv_strs r
theorem dp_ints {K : PySem.W.Frag} {H : Hp} : ∀ r : List Int, DpAll K H (r.map V.int) (r.map PyData.int)
  | [] => .nil
  | x :: r => .cons (.int x) (dp_ints r)
theorem dp_strs {K : PySem.W.Frag} {H : Hp} : ∀ r : List Str, DpAll K H (r.map V.str) (r.map PyData.str)
  | [] => .nil
  | x :: r => .cons (.str x) (dp_strs r)
def rInDT (K : PySem.W.Frag) : R2 := fun x y H Q => ∃ d ds, Dp K H x d ∧ Dp K H y (.tuple ds) ∧ SeqAt.shaped d = true ∧ SeqAt.shaped (.tuple ds) = true ∧ Q (.bl (ds.any fun z => PyData.eqv z d)) H
theorem lay_of {ds : List PyData} (h : SeqAt.shaped (.tuple ds) = true) : PyData.canLayAll0 ds = true := by
  have := SeqAt.canLay_of_shaped h
  rw [PyData.canLay0] at this
  exact this
theorem op_inDT {X : Cx} (hu : X.A.units + 65 < cLine) : OpR X (compareOp .In) (rInDT X.K) := by
  intro pins s σ H x y v u Q I rx ry h
  obtain ⟨d, ds, hd, he, sd, se, q⟩ := h
  obtain ⟨as, r1⟩ := Dp.reads I d x v hd rx
  obtain ⟨bs, r2⟩ := Dp.reads I (.tuple ds) y u he ry
  exact SeqAt.in_tuple_reads r2 r1 (lay_of se) (SeqAt.canLay_of_shaped sd) (PyProof.Rows.room_in_shaped sd hu) ⟨.bl _, H, I, rfl, q⟩
end Da
namespace Lb
open PySem L2 Fo
open C8 (Cal pe_c pss_cut)
/-- which built-ins no name of the module hides -/
structure Bt (mg : Str → Option Value) : Prop where
  len : mg "len" = none
  max : mg "max" = none
  int : mg "int" = none
  tuple : mg "tuple" = none
  list : mg "list" = none
  set : mg "set" = none
  sorted : mg "sorted" = none
  range : mg "range" = none
  isinstance : mg "isinstance" = none
  dict : mg "dict" = none
  str : mg "str" = none
  bool : mg "bool" = none
  sum : mg "sum" = none
  enumerate : mg "enumerate" = none
  min : mg "min" = none
  all : mg "all" = none
  any : mg "any" = none
  type : mg "type" = none
  zip : mg "zip" = none
section
variable {P : Program} {w : World} {K : PySem.W.Frag} {mg : Str → Option Value} {base : Heap}
theorem at_int {ns : List Int} {k : Int} (h0 : 0 ≤ k) (h : k < (ns.length : Int)) : ∃ v : Int, atI (ns.map V.int) k = some (.int v) := by
  have hk : k.toNat < ns.length := by omega
  have e : k = ((k.toNat : Nat) : Int) := by omega
  refine ⟨ns[k.toNat], at_of e ?_⟩
  rw [List.getElem?_map, List.getElem?_eq_getElem hk]
  rfl
def spLCell (K : PySem.W.Frag) : Sp := fun vs H Q _ => ∃ (a : Addr) (ns : List Int) (k : Int), vs = [.ref a, .int k] ∧ SqL K H a (ns.map V.int) ∧ 0 ≤ k ∧ ∀ z, Q (.int z) H
/-! ### draw -/
/-- all but what stands at b is as it was -/
def But (b : Addr) (H H' : Hp) : Prop := ∀ a o, a ≠ b → H a = some o → H' a = some o
theorem But.refl (b : Addr) (H : Hp) : But b H H := fun _ _ _ h => h
theorem But.trans {b : Addr} {H H1 H2 : Hp} (x : But b H H1) (y : But b H1 H2) : But b H H2 := fun a o n h => y a o n (x a o n h)
theorem But.of_same {b : Addr} {H H' : Hp} (x : Same H H') : But b H H' := fun a o _ h => x a o h
/-- a box: a list of a list of ints and a place -/
def BoxAt (H : Hp) (b d : Addr) : Prop := ∃ (ns : List Int) (i : Int), H b = some (.lst [.ref d, .int i]) ∧ H d = some (.lst (ns.map V.int)) ∧ 0 ≤ i ∧ d ≠ b
theorem BoxAt.same {H H' : Hp} {b d : Addr} (x : BoxAt H b d) (e : Same H H') : BoxAt H' b d :=
  let ⟨ns, i, h1, h2, h3, h4⟩ := x; ⟨ns, i, e _ _ h1, e _ _ h2, h3, h4⟩
theorem But.tk {K : PySem.W.Frag} {b d : Addr} {H H' : Hp} (x : But b H H') (y : BoxAt H b d) : Tk K H H' := fun a xs h => by
  obtain ⟨ns, i, h1, _⟩ := y
  rcases h with (h | ⟨o, h⟩) | h
  · exact .inl (.inl (x _ _ (ne_of h h1 (by intro z; cases z)) h))
  · exact .inl (.inr ⟨o, x _ _ (ne_of h h1 (by intro z; cases z)) h⟩)
  · exact .inr h
def spDraw : Sp := fun vs H Q _ => ∃ (b d : Addr) (m : Int), vs = [.ref b, .int m] ∧ BoxAt H b d ∧ 0 < m ∧ ∀ (r : Int) (H' : Hp), 0 ≤ r → r < m → But b H H' → BoxAt H' b d → Q (.int r) H'
theorem cal_of {x : Str} {f : Addr} {fd : FuncData} {ps : List Str} {k : Nat} {sp : Sp} (G : FnOk P w K mg base CX0 k f fd ps sp) (m : mg x = some (.ref f)) (kp : PySem.W.keepIn K (.ref f) = true) (b : Binds K fd ps []) : Cal P w K mg base k x sp [] :=
  ⟨⟨f, fd, ps, [], G, m, kp, b, .nil⟩⟩
/-! ### digits, box -/
def spDigits (K : PySem.W.Frag) : Sp := fun vs H Q _ => ∃ (a : Addr) (ns : List Int) (L : Nat), vs = [.ref a, .int 0, .int (L : Int)] ∧ L ≤ 63 ∧ SqL K H a (ns.map V.int) ∧
  ∀ (d : Addr) (ms : List Int) (H' : Hp), Same H H' → H d = none → H' d = some (.lst (ms.map V.int)) → Q (.ref d) H'
theorem same_to {H H' : Hp} {d : Addr} {o : HO} (s : Same H H') (h : H d = none) : Same H (upd H' d o) := fun b u e => by
  rw [upd_ne (ne_of_none e h)]
  exact s _ _ e
theorem ints_snoc {ms : List Int} {z : Int} : ms.map V.int ++ [V.int z] = (ms ++ [z]).map V.int := by simp
theorem lineOk {n : Nat} (h : n ≤ 10000) : n < sizeLine := Nat.lt_of_le_of_lt h (by decide)
def spBox (K : PySem.W.Frag) : Sp := fun vs H Q _ => ∃ (a : Addr) (ns : List Int) (L : Nat), vs = [.ref a, .int 0, .int (L : Int)] ∧ L ≤ 63 ∧ SqL K H a (ns.map V.int) ∧
  ∀ (b d : Addr) (H' : Hp), Same H H' → H b = none → BoxAt H' b d → Q (.ref b) H'
theorem item_lt {xs : List V} {r : Int} {n : Nat} (h0 : 0 ≤ r) (h : r < (n : Int)) (hn : xs.length = n) : ∃ v, v ∈ xs ∧ atI xs r = some v := by
  have hk : r.toNat < xs.length := by omega
  have e : r = ((r.toNat : Nat) : Int) := by omega
  exact ⟨xs[r.toNat], List.getElem_mem hk, at_of e (List.getElem?_eq_getElem hk)⟩
def Kd : List (List (Str × Nat)) := [[("E", 2)], [("E", 2), ("P", 1)], [("P", 1), ("Q", 1)], [("E", 2), ("F", 2)], []]
def PrAt (K : PySem.W.Frag) (H : Hp) (u : V) (p : Str × Nat) : Prop := ∃ q : Addr, u = .ref q ∧ SqT K H q [.str p.1, .int (p.2 : Int)]
theorem PrAt.tk {H H' : Hp} {u : V} {p : Str × Nat} (x : PrAt K H u p) (t : Tk K H H') : PrAt K H' u p := let ⟨q, e, h⟩ := x; ⟨q, e, t _ _ h⟩
def KindsAt (K : PySem.W.Frag) (ks : List (Str × Nat)) (H : Hp) (v : V) : Prop := ∃ (a : Addr) (us : List V), v = .ref a ∧ SqT K H a us ∧ ks ∈ Kd ∧ All2 (PrAt K H) us ks
theorem KindsAt.tk {ks : List (Str × Nat)} {H H' : Hp} {v : V} (x : KindsAt K ks H v) (t : Tk K H H') : KindsAt K ks H' v :=
  let ⟨a, us, e, h, l, m⟩ := x; ⟨a, us, e, t _ _ h, l, m.imp fun _ _ h => h.tk t⟩
def PairAt (K : PySem.W.Frag) (ks : List (Str × Nat)) (H : Hp) (u : V) : Prop := ∃ (p : Addr) (n : Str) (pl : Int), u = .ref p ∧ SqT K H p [.str n, .int pl] ∧ 1 ≤ pl ∧ pl ≤ 2 ∧ (n, pl.toNat) ∈ ks
theorem PairAt.tk {ks : List (Str × Nat)} {H H' : Hp} {u : V} (x : PairAt K ks H u) (t : Tk K H H') : PairAt K ks H' u :=
  let ⟨p, n, pl, e, h, l⟩ := x; ⟨p, n, pl, e, t _ _ h, l⟩
theorem kd_len : ∀ ks ∈ Kd, ks.length ≤ 2 ∧ ∀ p ∈ ks, 1 ≤ p.2 ∧ p.2 ≤ 2 := by decide +kernel
theorem KindsAt.mem {ks : List (Str × Nat)} {H : Hp} {v : V} (x : KindsAt K ks H v) : ∃ (a : Addr) (us : List V), v = .ref a ∧ SqT K H a us ∧ us.length ≤ 2 ∧ ∀ u ∈ us, PairAt K ks H u := by
  obtain ⟨a, us, e, h, l, m⟩ := x
  obtain ⟨k1, k2⟩ := kd_len ks l
  refine ⟨a, us, e, h, by rw [m.length]; exact k1, fun u hu => ?_⟩
  obtain ⟨i, hi, rfl⟩ := List.getElem_of_mem hu
  obtain ⟨p, hp, q, e', hq⟩ := m.get (List.getElem?_eq_getElem hi)
  have pm := List.mem_of_getElem? hp
  have := k2 p pm
  exact ⟨q, p.1, (p.2 : Int), e', hq, by omega, by omega, by rw [Int.toNat_natCast]; exact pm⟩
theorem pair_new {H : Hp} {p : Addr} (n : Str) (pl : Nat) : PrAt K (upd H p (.tup [.str n, .int (pl : Int)])) (.ref p) (n, pl) := ⟨p, rfl, SqT.of upd_same⟩
theorem kinds_new {ks : List (Str × Nat)} {H : Hp} {a : Addr} {us : List V} (hn : H a = none) (l : ks ∈ Kd) (m : All2 (PrAt K H) us ks) : KindsAt K ks (upd H a (.tup us)) (.ref a) :=
  ⟨a, us, rfl, SqT.of upd_same, l, m.imp fun _ _ h => h.tk (tk_new hn _)⟩
def spKinds (K : PySem.W.Frag) : Sp := fun vs H Q _ => ∃ (b d : Addr), vs = [.ref b] ∧ BoxAt H b d ∧ ∀ (v : V) (ks : List (Str × Nat)) (H' : Hp), But b H H' → BoxAt H' b d → KindsAt K ks H' v → Q v H'
theorem l3 : (3 : Nat) ≤ sizeLine := by decide
theorem l2 : (2 : Nat) ≤ sizeLine := by decide
theorem l1 : (1 : Nat) ≤ sizeLine := by decide
theorem box_ne {H : Hp} {b d p : Addr} (x : BoxAt H b d) (h : H p = none) : p ≠ b ∧ p ≠ d := by
  obtain ⟨ns, i, h1, h2, _⟩ := x
  exact ⟨fun e => (by rw [e, h1] at h; cases h), fun e => (by rw [e, h2] at h; cases h)⟩
theorem BoxAt.new {H : Hp} {b d p : Addr} {o : HO} (x : BoxAt H b d) (h : H p = none) : BoxAt (upd H p o) b d := x.same (same_new h o)
theorem But.new {H : Hp} {b p : Addr} (o : HO) (h : H p = none) : But b H (upd H p o) := .of_same (same_new h o)
/-- a list of ours that is written -/
theorem But.put {H0 H : Hp} {b D : Addr} (o : HO) (x : But b H0 H) (h : H0 D = none) : But b H0 (upd H D o) := fun a u n e => by
  rw [upd_ne (ne_of_none e h)]
  exact x a u n e
theorem BoxAt.put {H0 H : Hp} {b d D : Addr} {o : HO} (x : BoxAt H0 b d) (h : H0 D = none) (y : BoxAt H b d) : BoxAt (upd H D o) b d := by
  obtain ⟨n1, n2⟩ := box_ne x h
  obtain ⟨ns, i, h1, h2, h3, h4⟩ := y
  exact ⟨ns, i, by rw [upd_ne n1.symm]; exact h1, by rw [upd_ne n2.symm]; exact h2, h3, h4⟩
theorem inF {x : V} {xs : List V} (h : inV x xs = false) : (V.bl (if false = true then !inV x xs else inV x xs)) = .bl false := by rw [h]; rfl
theorem inT {x : V} {xs : List V} (h : inV x xs = true) : (V.bl (if false = true then !inV x xs else inV x xs)) = .bl true := by rw [h]; rfl
theorem notIn_k {X : Cx} {K : PySem.W.Frag} (h : X.K = K) : OpR X (compareOp .NotIn) (rIn K true) := by
  subst h
  exact op_notIn_seq
theorem ixT_k {X : Cx} {K : PySem.W.Frag} (h : X.K = K) : IxR X (rIxT K) := by
  subst h
  exact ix_tup
theorem catA_k {X : Cx} {K : PySem.W.Frag} (h : X.K = K) : OpR X (binaryOp .Add) (rCatA K) := by
  subst h
  exact op_catA
def RowAt (K : PySem.W.Frag) (H : Hp) (u : V) (r : List Int) : Prop := ∃ a : Addr, u = .ref a ∧ SqT K H a (r.map V.int)
theorem RowAt.tk {H H' : Hp} {u : V} {r : List Int} (k : Tk K H H') (h : RowAt K H u r) : RowAt K H' u r :=
  let ⟨a, e, h1⟩ := h; ⟨a, e, k _ _ h1⟩
def ext1 (m : Nat) (r : List Int) : List (List Int) := (List.range m).map fun (x : Nat) => r ++ [(x : Int)]
/-- all rows of so many elements, rising -/
def rowsOf (m : Nat) : Nat → List (List Int)
  | 0 => [[]]
  | k + 1 => (rowsOf m k).flatMap (ext1 m)
theorem ext1_len (m : Nat) (r : List Int) : (ext1 m r).length = m := by unfold ext1; rw [List.length_map, List.length_range]
theorem flat_len (m : Nat) : ∀ rs : List (List Int), (rs.flatMap (ext1 m)).length = rs.length * m
  | [] => by simp
  | r :: rs => by rw [List.flatMap_cons, List.length_append, ext1_len, flat_len m rs, List.length_cons, Nat.succ_mul]; omega
theorem rows_len (m : Nat) : ∀ k, (rowsOf m k).length = m ^ k
  | 0 => rfl
  | k + 1 => by rw [rowsOf, flat_len, rows_len m k, Nat.pow_succ]
theorem rows_mem {m : Nat} : ∀ {k : Nat} {r : List Int}, r ∈ rowsOf m k → r.length = k ∧ ∀ x ∈ r, 0 ≤ x ∧ x < (m : Int)
  | 0, r, h => by rw [List.mem_singleton.mp h]; exact ⟨rfl, fun x hx => by cases hx⟩
  | k + 1, r, h => by
    rw [rowsOf, List.mem_flatMap] at h
    obtain ⟨q, hq, hr⟩ := h
    obtain ⟨x, hx, rfl⟩ := List.mem_map.mp hr
    obtain ⟨h1, h2⟩ := rows_mem hq
    refine ⟨by rw [List.length_append, List.length_singleton, h1], fun y hy => ?_⟩
    rcases List.mem_append.mp hy with e | e
    · exact h2 y e
    · rw [List.mem_singleton.mp e]
      have := List.mem_range.mp hx
      omega
theorem flat_take {m : Nat} {rs : List (List Int)} {j : Nat} {r : List Int} (h : rs[j]? = some r) : (rs.take (j + 1)).flatMap (ext1 m) = (rs.take j).flatMap (ext1 m) ++ ext1 m r := by
  rw [List.take_succ, h, List.flatMap_append]
  simp
theorem hu65 {k : Nat} {A : Around} (h : Room k A) : A.units + 65 < cLine := by
  have := h.un
  omega
theorem dp_rows {H : Hp} {us : List V} {rs : List (List Int)} (h : All2 (RowAt K H) us rs) : DpAll K H us (rs.map Da.dint) := by
  induction h with
  | nil => exact .nil
  | cons r _ ih =>
    obtain ⟨a, rfl, ha⟩ := r
    exact .cons (.tup ha (Da.dp_ints _)) ih
theorem bl_ne {x y b : Bool} (h : y = b) : V.bl (!decide (V.bl x = V.bl y)) = V.bl (x != b) := by
  subst h
  cases x <;> cases y <;> decide
theorem range_any {p : Nat → Bool} {m i : Nat} (h : i < m) (hp : p i = true) : (List.range m).any p = true := List.any_eq_true.mpr ⟨i, List.mem_range.mpr h, hp⟩
theorem range_snoc {p : Nat → Bool} {i : Nat} (h : (List.range i).any p = false) (hp : p i = false) : (List.range (i + 1)).any p = false := by
  rw [List.range_succ, List.any_append, h]
  simp [hp]
end
/-- texts and tuples of such -/
inductive Tr where
  | it (i : Int)
  | bo (b : Bool)
  | no
  | tx (x : Str)
  | tp (ts : List Tr)
namespace Tr
mutual
def dep : Tr → Nat
  | .it _ => 0
  | .bo _ => 0
  | .no => 0
  | .tx _ => 0
  | .tp ts => deps ts
def deps : List Tr → Nat
  | [] => 0
  | t :: ts => max (1 + dep t) (deps ts)
end
mutual
def wid : Tr → Nat
  | .it _ => 0
  | .bo _ => 0
  | .no => 0
  | .tx _ => 0
  | .tp ts => max ts.length (wids ts)
def wids : List Tr → Nat
  | [] => 0
  | t :: ts => max (wid t) (wids ts)
end
theorem deps_mem : ∀ {ts : List Tr} {t : Tr}, t ∈ ts → 1 + dep t ≤ deps ts
  | u :: ts, t, h => by
    rw [deps]
    rcases List.mem_cons.mp h with e | e
    · rw [e]; exact Nat.le_max_left _ _
    · exact Nat.le_trans (deps_mem e) (Nat.le_max_right _ _)
theorem wids_mem : ∀ {ts : List Tr} {t : Tr}, t ∈ ts → wid t ≤ wids ts
  | u :: ts, t, h => by
    rw [wids]
    rcases List.mem_cons.mp h with e | e
    · rw [e]; exact Nat.le_max_left _ _
    · exact Nat.le_trans (wids_mem e) (Nat.le_max_right _ _)
end Tr
mutual
def TrAt (K : PySem.W.Frag) (H : Hp) : V → Tr → Prop
  | v, .it i => v = .int i
  | v, .bo b => v = .bl b
  | v, .no => v = .non
  | v, .tx x => v = .str x
  | v, .tp ts => ∃ a us, v = .ref a ∧ SqT K H a us ∧ TrsAt K H us ts
def TrsAt (K : PySem.W.Frag) (H : Hp) : List V → List Tr → Prop
  | us, [] => us = []
  | us, t :: ts => ∃ u r, us = u :: r ∧ TrAt K H u t ∧ TrsAt K H r ts
end
mutual
theorem TrAt.tk {K : PySem.W.Frag} {H H' : Hp} (k : Tk K H H') : ∀ {v : V} {t : Tr}, TrAt K H v t → TrAt K H' v t
  | v, .it i, h => by
    rw [TrAt] at h ⊢
    exact h
  | v, .bo i, h => by
    rw [TrAt] at h ⊢
    exact h
  | v, .no, h => by
    rw [TrAt] at h ⊢
    exact h
  | v, .tx x, h => by
    rw [TrAt] at h ⊢
    exact h
  | v, .tp ts, h => by
    rw [TrAt] at h ⊢
    obtain ⟨a, us, e, h1, h2⟩ := h
    exact ⟨a, us, e, k _ _ h1, TrsAt.tk k h2⟩
theorem TrsAt.tk {K : PySem.W.Frag} {H H' : Hp} (k : Tk K H H') : ∀ {us : List V} {ts : List Tr}, TrsAt K H us ts → TrsAt K H' us ts
  | us, [], h => by
    rw [TrsAt] at h ⊢
    exact h
  | us, t :: ts, h => by
    rw [TrsAt] at h ⊢
    obtain ⟨u, r, e, h1, h2⟩ := h
    exact ⟨u, r, e, TrAt.tk k h1, TrsAt.tk k h2⟩
end
theorem TrsAt.all2 {K : PySem.W.Frag} {H : Hp} : ∀ {us : List V} {ts : List Tr}, TrsAt K H us ts → All2 (TrAt K H) us ts
  | us, [], h => by rw [TrsAt] at h; subst h; exact .nil
  | us, t :: ts, h => by
    rw [TrsAt] at h
    obtain ⟨u, r, rfl, h1, h2⟩ := h
    exact .cons h1 h2.all2
theorem TrsAt.of {K : PySem.W.Frag} {H : Hp} {us : List V} {ts : List Tr} (h : All2 (TrAt K H) us ts) : TrsAt K H us ts := by
  induction h with
  | nil => rw [TrsAt]
  | cons r _ ih => rw [TrsAt]; exact ⟨_, _, rfl, r, ih⟩

section
variable {P : Program} {w : World} {K : PySem.W.Frag} {mg : Str → Option Value} {base : Heap}
theorem ty_tup {H : Hp} {a : Addr} {xs : List V} (h : SqT K H a xs) : TyX K H (.ref a) (.type "tuple") := by
  rcases h with (h | ⟨o, h⟩) | ⟨o, its, n, h, c, _⟩
  · exact .base (.tup h)
  · exact .fTuple h
  · exact .kTuple h c
def spSame (K : PySem.W.Frag) (n : Nat) : Sp := fun vs H Q _ => ∃ (x y : V) (t : Tr), vs = [x, y] ∧ TrAt K H x t ∧ TrAt K H y t ∧ t.dep < n ∧ t.wid ≤ 10000 ∧ ∀ H', Same H H' → Q (.bl true) H'
end
end Lb

set_option Elab.async false
set_option linter.all false
set_option maxRecDepth 100000
set_option maxHeartbeats 4000000
/-! rows of ints: keys of them, sorted; structures with the numbers of places -/
namespace Lb
open PySem L2 Fo Ndk
theorem a2_perm {α β : Type} {R : α → β → Prop} {us vs : List α} (p : vs.Perm us) : ∀ {rs : List β}, All2 R us rs → ∃ ss, ss.Perm rs ∧ All2 R vs ss := by
  induction p with
  | nil => intro rs h; exact ⟨rs, .refl _, h⟩
  | cons x _ ih =>
    intro rs h
    cases h with
    | cons h t =>
      obtain ⟨ss, p, a⟩ := ih t
      exact ⟨_ :: ss, p.cons _, .cons h a⟩
  | swap x y l =>
    intro rs h
    cases h with
    | cons h1 t =>
      cases t with
      | cons h2 t => exact ⟨_ :: _ :: _, .swap _ _ _, .cons h2 (.cons h1 t)⟩
  | trans _ _ ih1 ih2 =>
    intro rs h
    obtain ⟨s1, p1, a1⟩ := ih2 h
    obtain ⟨s2, p2, a2⟩ := ih1 a1
    exact ⟨s2, p2.trans p1, a2⟩
theorem a2_pw {α β : Type} {R : α → β → Prop} {S : α → α → Prop} {T : β → β → Prop} (h : ∀ x y n m, R x n → R y m → S x y → T n m) : ∀ {us : List α} {rs : List β}, All2 R us rs → us.Pairwise S → rs.Pairwise T
  | _, _, .nil, _ => .nil
  | _, _, .cons (a := x) (as := us) r t, p => by
    cases p with
    | cons p1 p2 =>
      refine .cons (fun m hm => ?_) (a2_pw h t p2)
      obtain ⟨i, hi⟩ := List.getElem?_of_mem hm
      have l := t.length
      have li : i < us.length := by have := (List.getElem?_eq_some_iff.mp hi).1; omega
      have hu : us[i]? = some us[i] := List.getElem?_eq_getElem li
      obtain ⟨m', hm', r'⟩ := t.get hu
      rw [hi] at hm'
      cases hm'
      exact h _ _ _ _ r r' (p1 _ (List.getElem_mem li))
abbrev cd (r : List Int) : Int := TS.code 64 r
section
variable {K : PySem.W.Frag} {H : Hp}
def nkr (r : List Int) : Nk := .tp (r.map fun i => .ak (.inl i))
theorem nks_ints : ∀ r : List Int, NksAt K H (r.map fun i => .ak (.inl i)) (r.map V.int)
  | [] => by rw [List.map_nil, NksAt]; rfl
  | x :: r => by
    rw [List.map_cons, NksAt]
    exact ⟨_, _, rfl, by rw [NkAt]; rfl, nks_ints r⟩
theorem nk_row {u : V} {r : List Int} (h : RowAt K H u r) : NkAt K H (nkr r) u := by
  obtain ⟨a, rfl, h⟩ := h
  rw [nkr, NkAt]
  exact ⟨a, _, rfl, h, nks_ints r⟩
theorem nk_rows : ∀ {us : List V} {rs : List (List Int)}, All2 (RowAt K H) us rs → NksAt K H (rs.map nkr) us
  | _, _, .nil => by rw [List.map_nil, NksAt]
  | _, _, .cons h t => by
    rw [List.map_cons, NksAt]
    exact ⟨_, _, rfl, nk_row h, nk_rows t⟩
theorem nkr_inj {r s : List Int} (h : nkr r = nkr s) : r = s := by
  injection h with h
  induction r generalizing s with
  | nil => cases s with | nil => rfl | cons y s => cases h
  | cons x r ih =>
    cases s with
    | nil => cases h
    | cons y s =>
      rw [List.map_cons, List.map_cons] at h
      injection h with h1 h2
      injection h1 with h1
      injection h1 with h1
      rw [h1, ih h2]
theorem dep_row (r : List Int) : (nkr r).dep ≤ 2 := by
  rw [nkr, Nk.dep]
  have : Nk.deps (r.map fun i => Nk.ak (.inl i)) ≤ 1 := by
    induction r with
    | nil => rw [List.map_nil, Nk.deps]; omega
    | cons x r ih => rw [List.map_cons, Nk.deps, Nk.dep]; omega
  omega
theorem dep_rows (rs : List (List Int)) : (Nk.tp (rs.map nkr)).dep ≤ 4 := by
  rw [Nk.dep]
  have : Nk.deps (rs.map nkr) ≤ 3 := by
    induction rs with
    | nil => rw [List.map_nil, Nk.deps]; omega
    | cons x r ih => rw [List.map_cons, Nk.deps]; have := dep_row x; omega
  omega
end
section
variable {X : Cx}
/-- sorted(a list of rows), all as long -/
def rSortRows (K : PySem.W.Frag) : List V → Hp → VK → Prop := fun vs H Q => ∃ (a : Addr) (us : List V) (rs : List (List Int)) (d : Nat), vs = [.ref a] ∧ SqL K H a us ∧ All2 (RowAt K H) us rs ∧ rs.length < 64 ∧ 1 ≤ d ∧ (∀ r ∈ rs, r.length = d ∧ TS.Bd 64 r) ∧
  ∀ (ys : List V) (ss : List (List Int)) (p : Addr), ss.Perm rs → ss.Pairwise (fun n m => cd n ≤ cd m) → All2 (RowAt K H) ys ss → H p = none → Q (.ref p) (upd H p (.lst ys))
theorem cr_sortRows : CallR X (.builtin "sorted") (rSortRows X.K) := by
  intro pins s σ H vs us' Q I r h
  obtain ⟨a, us, rs, d, rfl, hs, hr, h64, hd, hb, q⟩ := h
  refine cr_sortT (B := 64) hd pins s σ H _ _ Q I r ⟨a, us, rfl, hs, by rw [hr.length]; exact h64, fun x hx => ?_, fun ys p pm pw np => ?_⟩
  · obtain ⟨i, hi⟩ := List.getElem?_of_mem hx
    obtain ⟨ns, hn, t, e, ht⟩ := hr.get hi
    exact ⟨ns, ⟨t, e, ht⟩, hb ns (List.mem_of_getElem? hn)⟩
  · obtain ⟨ss, p1, a1⟩ := a2_perm pm hr
    exact q ys ss p p1 (a2_pw (fun x y n m hn hm k => k n m hn hm) a1 pw) a1 np
end
end Lb

set_option Elab.async false
set_option linter.all false
set_option maxRecDepth 100000
set_option maxHeartbeats 4000000
/-! structures with the numbers of places; what is drawn -/
namespace Lb
open PySem L2 Fo Ndk
abbrev Rl := Str × Nat × List (List Int)
/-! ### the order of rows -/
theorem cd_snoc (r : List Int) (x : Int) : cd (r ++ [x]) = cd r * 64 + x := by
  induction r with
  | nil =>
    show x * 64 ^ 0 + 0 = 0 * 64 + x
    omega
  | cons d r ih =>
    show d * 64 ^ (r ++ [x]).length + TS.code 64 (r ++ [x]) = (d * 64 ^ r.length + TS.code 64 r) * 64 + x
    have ih' : TS.code 64 (r ++ [x]) = TS.code 64 r * 64 + x := ih
    rw [ih', List.length_append, List.length_singleton, Int.pow_succ, Int.add_mul, Int.mul_assoc]
    omega
theorem rows_up {m : Nat} (hm : m ≤ 64) : ∀ k, (rowsOf m k).Pairwise fun n l => cd n < cd l
  | 0 => List.pairwise_singleton _ _
  | k + 1 => by
    rw [rowsOf, List.pairwise_flatMap]
    refine ⟨fun r _ => ?_, (rows_up hm k).imp_of_mem fun {r s} hr hs h => ?_⟩
    · unfold ext1
      rw [List.pairwise_map]
      refine List.Pairwise.imp (fun {x y} h => ?_) List.pairwise_lt_range
      rw [cd_snoc, cd_snoc]
      omega
    · intro a ha b hb
      obtain ⟨x, hx, rfl⟩ := List.mem_map.mp ha
      obtain ⟨y, hy, rfl⟩ := List.mem_map.mp hb
      have hx' := List.mem_range.mp hx
      rw [cd_snoc, cd_snoc]
      omega
theorem rows_all {m : Nat} : ∀ {k : Nat} {r : List Int}, r.length = k → (∀ x ∈ r, 0 ≤ x ∧ x < (m : Int)) → r ∈ rowsOf m k := by
  intro k
  induction k with
  | zero => intro r h _; rw [List.length_eq_zero_iff.mp h]; exact List.mem_singleton.mpr rfl
  | succ k ih =>
    intro r h hx
    have ne : r ≠ [] := fun z => by rw [z] at h; cases h
    have e := (List.dropLast_concat_getLast ne).symm
    rw [rowsOf, List.mem_flatMap]
    refine ⟨r.dropLast, ih (by rw [List.length_dropLast]; omega) fun x hx' => hx x ((List.dropLast_sublist r).subset hx'), ?_⟩
    unfold ext1
    have := hx _ (List.getLast_mem ne)
    refine List.mem_map.mpr ⟨(r.getLast ne).toNat, List.mem_range.mpr (by omega), ?_⟩
    rw [Int.toNat_of_nonneg this.1]
    exact e.symm
theorem len_sub {α : Type} [DecidableEq α] : ∀ {l D : List α}, l.Nodup → (∀ x ∈ l, x ∈ D) → l.length ≤ D.length
  | [], _, _, _ => Nat.zero_le _
  | x :: l, D, hn, hs => by
    obtain ⟨h1, h2⟩ := List.nodup_cons.mp hn
    have hx : x ∈ D := hs x List.mem_cons_self
    have ih := len_sub (D := D.erase x) h2 fun y hy => (List.mem_erase_of_ne (fun e => h1 (by rw [← e]; exact hy))).2 (hs y (List.mem_cons_of_mem _ hy))
    have e := List.length_erase_of_mem hx
    have hp : 0 < D.length := List.length_pos_of_mem hx
    rw [List.length_cons]
    omega
/-- rows as they stand in a relation -/
structure RowsOk (m pl : Nat) (rs : List (List Int)) : Prop where
  fit : ∀ t ∈ rs, t.length = pl ∧ ∀ x ∈ t, 0 ≤ x ∧ x < (m : Int)
  up : rs.Pairwise fun n k => cd n < cd k
theorem up_nodup {rs : List (List Int)} (h : rs.Pairwise fun n k => cd n < cd k) : rs.Nodup := h.imp fun {a b} h e => by rw [e] at h; omega
theorem RowsOk.few {m pl : Nat} {rs : List (List Int)} (h : RowsOk m pl rs) : rs.length ≤ m ^ pl := by
  rw [← rows_len]
  exact len_sub (up_nodup h.up) fun t ht => rows_all (h.fit t ht).1 (h.fit t ht).2
theorem RowsOk.few16 {m pl : Nat} {rs : List (List Int)} (h : RowsOk m pl rs) (hm : m ≤ 4) (hp : pl ≤ 2) : rs.length ≤ 16 := by
  refine Nat.le_trans h.few ?_
  have : pl = 0 ∨ pl = 1 ∨ pl = 2 := by omega
  rcases this with e | e | e <;> subst e
  · rw [Nat.pow_zero]; decide
  · rw [Nat.pow_one]; omega
  · rw [Nat.pow_two]; have := Nat.mul_le_mul hm hm; omega
def Fits (m : Nat) (r : Rl) (p : Str × Nat) : Prop := r.1 = p.1 ∧ r.2.1 = p.2 ∧ RowsOk m r.2.1 r.2.2
section
variable {K : PySem.W.Frag}
def RelAt (K : PySem.W.Frag) (H : Hp) (u : V) (p : Rl) : Prop := ∃ (a t : Addr) (us : List V), u = .ref a ∧ SqT K H a [.str p.1, .int (p.2.1 : Int), .ref t] ∧ SqT K H t us ∧ All2 (RowAt K H) us p.2.2
theorem RelAt.tk {H H' : Hp} {u : V} {p : Rl} (k : Tk K H H') (h : RelAt K H u p) : RelAt K H' u p :=
  let ⟨a, t, us, e, h1, h2, h3⟩ := h; ⟨a, t, us, e, k _ _ h1, k _ _ h2, h3.imp fun _ _ z => z.tk k⟩
def StrAt (K : PySem.W.Frag) (H : Hp) (v : V) (m : Nat) (rels : List Rl) : Prop := ∃ (a t : Addr) (us : List V), v = .ref a ∧ SqT K H a [.str "structure", .int (m : Int), .ref t] ∧ SqT K H t us ∧ All2 (RelAt K H) us rels
theorem StrAt.tk {H H' : Hp} {v : V} {m : Nat} {rels : List Rl} (k : Tk K H H') (h : StrAt K H v m rels) : StrAt K H' v m rels :=
  let ⟨a, t, us, e, h1, h2, h3⟩ := h; ⟨a, t, us, e, k _ _ h1, k _ _ h2, h3.imp fun _ _ z => z.tk k⟩
end
def spTuples (K : PySem.W.Frag) : Sp := fun vs H Q _ => ∃ (m pl : Nat), vs = [.int (m : Int), .int (pl : Int)] ∧ m ≤ 64 ∧ pl ≤ 64 ∧ (∀ k, k ≤ pl → m ^ k ≤ 1024) ∧ ∀ (l : Addr) (us : List V) (H' : Hp), Same H H' → H l = none → H' l = some (.lst us) → All2 (RowAt K H') us (rowsOf m pl) → Q (.ref l) H'
theorem pow_le_small {m pl : Nat} (hm : m ≤ 6) (hp : pl ≤ 3) : ∀ k, k ≤ pl → m ^ k ≤ 1024 := fun k hk => Nat.le_trans (Nat.pow_le_pow_left hm k) (Nat.le_trans (Nat.pow_le_pow_right (by decide) (show k ≤ 3 by omega)) (by decide))
def spStruct (K : PySem.W.Frag) : Sp := fun vs H Q _ => ∃ (ks : List (Str × Nat)) (b d : Addr) (kv : V) (m : Nat), vs = [.ref b, kv, .int (m : Int)] ∧ BoxAt H b d ∧ KindsAt K ks H kv ∧ m ≤ 4 ∧
  ∀ (v : V) (rels : List Rl) (H' : Hp), But b H H' → BoxAt H' b d → StrAt K H' v m rels → All2 (Fits m) rels ks → Q v H'
def spTurned (K : PySem.W.Frag) : Sp := fun vs H Q _ => ∃ (ks : List (Str × Nat)) (b d : Addr) (sv : V) (m : Nat) (rels : List Rl), vs = [.ref b, sv] ∧ BoxAt H b d ∧ StrAt K H sv m rels ∧ All2 (Fits m) rels ks ∧ ks ∈ Kd ∧ 1 ≤ m ∧ m ≤ 4 ∧
  ∀ (v : V) (rels' : List Rl) (H' : Hp), But b H H' → BoxAt H' b d → StrAt K H' v m rels' → All2 (Fits m) rels' ks → Q v H'
def spOther (K : PySem.W.Frag) : Sp := fun vs H Q _ => ∃ (ks : List (Str × Nat)) (b d : Addr) (sv : V) (m most : Nat) (rels : List Rl), vs = [.ref b, sv, .int (most : Int)] ∧ BoxAt H b d ∧ StrAt K H sv m rels ∧ All2 (Fits m) rels ks ∧ ks ∈ Kd ∧ 1 ≤ m ∧ m ≤ 4 ∧ 1 ≤ most ∧ most ≤ 4 ∧
  ∀ (v : V) (n : Nat) (rels' : List Rl) (H' : Hp), But b H H' → BoxAt H' b d → StrAt K H' v n rels' → All2 (Fits n) rels' ks → 1 ≤ n → (n ≤ most ∨ n = m) → Q v H'
def spPoints (K : PySem.W.Frag) : Sp := fun vs H Q _ => ∃ (b d : Addr) (sv : V) (m many : Nat) (rels : List Rl), vs = [.ref b, sv, .int (many : Int)] ∧ BoxAt H b d ∧ StrAt K H sv m rels ∧ 1 ≤ m ∧ many ≤ 8 ∧
  ∀ (v : V) (xs : List Int) (H' : Hp), But b H H' → BoxAt H' b d → RowAt K H' v xs → xs.length = many → (∀ x ∈ xs, 0 ≤ x ∧ x < (m : Int)) → Q v H'
end Lb

set_option Elab.async false
set_option linter.all false
set_option maxRecDepth 100000
set_option maxHeartbeats 4000000
/-! rules told for a K of one's own: within a block the frame's K is that of the def -/
namespace Kf
open PySem L2
section
variable {X : Cx} {K : PySem.W.Frag}
theorem pi_list_k (h : X.K = K) {tg l : Expr} {tl : TE} (hl : PE X l tl) : PI X tg l (iList K tl) := by
  subst h; exact pi_list hl
theorem pi_tup_k (h : X.K = K) {tg l : Expr} {tl : TE} (hl : PE X l tl) : PI X tg l (iTup K tl) := by
  subst h; exact pi_tup hl
theorem pa_star_k (h : X.K = K) {e : Expr} {es : List Expr} {p : Pos} {te : TE} {t : TA} (he : PE X e te) (hr : PA X es t) (hs : starEach (.Starred e p :: es) X.env = (true, eval e X.env) :: starEach es X.env := by rfl) : PA X (.Starred e p :: es) (StX.tStar K te t) := by
  subst h; exact StX.pa_star he hr hs
theorem fld_k (h : X.K = K) {e : Expr} {f : Str} {ta : TE} {pos : Pos} (he : PE X e ta) (hb : attributeBase e f X.env (eval e X.env) = eval e X.env) : PE X (.Attribute e f pos) (tFld K ta f) := by
  subst h; exact pe_fld he hb
theorem slT_k (h : X.K = K) : SlR X (rSlT K) := by
  subst h; exact sl_tup
theorem ixL_k (h : X.K = K) : IxR X (rIxL K) := by
  subst h; exact ix_list
theorem ixT_k (h : X.K = K) : IxR X (rIxT K) := by
  subst h; exact ix_tup
def tTru (K : PySem.W.Frag) (ta : TE) : TT := fun σ H Q => ta σ H fun x H1 => ∃ k, TruV K x H1 k ∧ Q k H1
theorem pt_truth_k (h : X.K = K) {a : Expr} {ta : TE} (ha : PE X a ta) (he : ∀ whole, isTrue a X.env whole = (do let v ← whole; standAt a.pos; holding [v] (truthy v))) : PT X a (tTru K ta) := by
  subst h; exact pt_truth ha he
def rLen (K : PySem.W.Frag) : List V → Hp → VK → Prop := fun xs H Q => ∃ p ys, xs = [V.ref p] ∧ (SqL K H p ys ∨ SqT K H p ys) ∧ Q (.int ys.length) H
theorem len_k (h : X.K = K) : CallR X (.builtin "len") (rLen K) := by
  subst h; exact call_len_seq
theorem eqD_k (h : X.K = K) (hu : X.A.units + 64 < cLine) : OpR X (compareOp .Eq) (rEqD K) := by
  subst h; exact op_eqD hu
theorem neD_k (h : X.K = K) (hu : X.A.units + 64 < cLine) : OpR X (compareOp .NotEq) (rNeD K) := by
  subst h; exact op_neD hu
theorem inDT_k (h : X.K = K) (hu : X.A.units + 65 < cLine) : OpR X (compareOp .In) (Da.rInDT K) := by
  subst h; exact Da.op_inDT hu
theorem in_k (h : X.K = K) : OpR X (compareOp .In) (rIn K false) := by
  subst h; exact op_in_seq
def rTupOf (K : PySem.W.Frag) : List V → Hp → VK → Prop := fun xs H Q => ∃ p ys, xs = [V.ref p] ∧ ((SqL K H p ys ∧ ∀ l, H l = none → Q (.ref l) (upd H l (.tup ys))) ∨ (SqT K H p ys ∧ Q (.ref p) H))
theorem tupOf_k (h : X.K = K) : CallR X (.type "tuple") (rTupOf K) := by
  subst h; exact call_tuple_of
def rListOf (K : PySem.W.Frag) : List V → Hp → VK → Prop := fun xs H Q => ∃ p ys, xs = [V.ref p] ∧ (SqL K H p ys ∨ SqT K H p ys) ∧ ∀ l, H l = none → Q (.ref l) (upd H l (.lst ys))
theorem listOf_k (h : X.K = K) : CallR X (.type "list") (rListOf K) := by
  subst h; exact call_list_of
end
theorem look_relabel (env : Env) : ∀ {names : List (Str × NameKind)} {x : Str}, names.lookup x = some .cell ∨ names.lookup x = some .free →
    (names.map fun (n, k) => if (k == NameKind.free && env.scope.kind == .function && env.kindOf n == some .cell) then (n, NameKind.cell) else (n, k)).lookup x = some .cell ∨ (names.map fun (n, k) => if (k == NameKind.free && env.scope.kind == .function && env.kindOf n == some .cell) then (n, NameKind.cell) else (n, k)).lookup x = some .free
  | [], _, h => by rcases h with h | h <;> cases h
  | (n, k) :: r, x, h => by
    have ih := @look_relabel env r x
    rw [List.map_cons]
    rw [List.lookup_cons] at h
    by_cases e : x = n
    · subst e
      rw [beq_self_eq_true] at h
      by_cases c : (k == NameKind.free && env.scope.kind == .function && env.kindOf x == some .cell) = true
      · left
        simp only [c, if_true, List.lookup_cons, beq_self_eq_true]
      · simp only [Bool.eq_false_iff.mpr c, Bool.false_eq_true, if_false, List.lookup_cons, beq_self_eq_true]
        simpa using h
    · rw [beq_eq_false_iff_ne.mpr e] at h
      have ih' := ih h
      by_cases c : (k == NameKind.free && env.scope.kind == .function && env.kindOf n == some .cell) = true
      · simp only [c, if_true, List.lookup_cons, beq_eq_false_iff_ne.mpr e]
        exact ih'
      · simp only [Bool.eq_false_iff.mpr c, Bool.false_eq_true, if_false, List.lookup_cons, beq_eq_false_iff_ne.mpr e]
        exact ih'
/-- a block within a block -/
theorem blk_in {N : List Str} {sc scope : Scope} {own : List (Str × Nat)} {cl : List (Str × Addr)} {C : Addr} {env : Env} (h : BlkOk N sc scope own) : BlkOk N (compEnvC sc cl C env).scope scope own :=
  ⟨h.kind, h.uniq, h.ix, fun y hy e => look_relabel env (h.free y hy e), h.own⟩
end Kf

set_option Elab.async false
set_option linter.all false
set_option maxRecDepth 100000
set_option maxHeartbeats 4000000
/-! rows turned by an order of the elements -/
namespace Lb
open PySem L2 Fo Ndk
theorem cd_cons (d : Int) (r : List Int) : cd (d :: r) = d * 64 ^ r.length + cd r := rfl
theorem cd_bd : ∀ {r : List Int}, TS.Bd 64 r → 0 ≤ cd r ∧ cd r < 64 ^ r.length
  | [], _ => ⟨by decide, by decide⟩
  | d :: r, h => by
    obtain ⟨h1, h2⟩ := cd_bd h.tail
    have h3 := h.head
    rw [cd_cons, List.length_cons, Int.pow_succ]
    exact TS.num1 h1 h2 h3.1 h3.2
theorem cd_inj : ∀ {r s : List Int}, r.length = s.length → TS.Bd 64 r → TS.Bd 64 s → cd r = cd s → r = s
  | [], [], _, _, _, _ => rfl
  | [], _ :: _, h, _, _, _ => by cases h
  | _ :: _, [], h, _, _, _ => by cases h
  | d :: r, e :: s, hl, hr, hs, h => by
    have hl' : r.length = s.length := Nat.succ.inj hl
    rw [cd_cons, cd_cons, hl'] at h
    obtain ⟨a1, a2⟩ := cd_bd hr.tail
    obtain ⟨b1, b2⟩ := cd_bd hs.tail
    rw [hl'] at a2
    have : d = e := by
      rcases Int.lt_trichotomy d e with c | c | c
      · have := TS.num2 a1 a2 b1 c; omega
      · exact c
      · have := TS.num2 b1 b2 a1 c; omega
    subst this
    rw [cd_inj hl' hr.tail hs.tail (by omega)]
theorem fit_bd {m pl : Nat} {t : List Int} (hm : m ≤ 64) (h : t.length = pl ∧ ∀ x ∈ t, 0 ≤ x ∧ x < (m : Int)) : TS.Bd 64 t := fun x hx => by
  have := h.2 x hx
  omega
/-- sorted rows that are unlike rise -/
theorem rise {m pl : Nat} {rs : List (List Int)} (hm : m ≤ 64) (hf : ∀ t ∈ rs, t.length = pl ∧ ∀ x ∈ t, 0 ≤ x ∧ x < (m : Int)) (nd : rs.Nodup) (h : rs.Pairwise fun n k => cd n ≤ cd k) : RowsOk m pl rs := by
  refine ⟨hf, ?_⟩
  refine List.Pairwise.imp_of_mem (fun {a b} ha hb hab => ?_) (List.Pairwise.and h nd)
  have fa := hf a ha
  have fb := hf b hb
  rcases Int.lt_or_eq_of_le hab.1 with c | c
  · exact c
  · exact absurd (cd_inj (fa.1.trans fb.1.symm) (fit_bd hm fa) (fit_bd hm fb) c) hab.2
def tr (od : List Int) (t : List Int) : List Int := t.map fun x => od.getD x.toNat 0
def els (m : Nat) : List Int := (List.range m).map fun (i : Nat) => (i : Int)
theorem mem_els {m : Nat} {x : Int} : x ∈ els m ↔ 0 ≤ x ∧ x < (m : Int) := by
  unfold els
  rw [List.mem_map]
  constructor
  · rintro ⟨i, hi, rfl⟩
    have := List.mem_range.mp hi
    omega
  · intro h
    exact ⟨x.toNat, List.mem_range.mpr (by omega), by omega⟩
theorem els_len (m : Nat) : (els m).length = m := by unfold els; rw [List.length_map, List.length_range]
theorem nodup_map_on {α β : Type} {f : α → β} : ∀ {l : List α}, (∀ a ∈ l, ∀ b ∈ l, f a = f b → a = b) → l.Nodup → (l.map f).Nodup
  | [], _, _ => List.nodup_nil
  | x :: l, h, n => by
    obtain ⟨n1, n2⟩ := List.nodup_cons.mp n
    rw [List.map_cons, List.nodup_cons]
    refine ⟨fun q => ?_, nodup_map_on (fun a ha b hb => h a (List.mem_cons_of_mem _ ha) b (List.mem_cons_of_mem _ hb)) n2⟩
    obtain ⟨y, hy, e⟩ := List.mem_map.mp q
    exact n1 (h y (List.mem_cons_of_mem _ hy) x List.mem_cons_self e ▸ hy)
theorem els_nd (m : Nat) : (els m).Nodup := by
  exact nodup_map_on (fun a _ b _ (e : (a : Int) = (b : Int)) => by omega) List.nodup_range
section
variable {m : Nat} {od : List Int}
theorem od_at (p : od.Perm (els m)) {x : Int} (h : 0 ≤ x ∧ x < (m : Int)) : ∃ y, od[x.toNat]? = some y ∧ od.getD x.toNat 0 = y ∧ 0 ≤ y ∧ y < (m : Int) := by
  have l : od.length = m := by rw [p.length_eq, els_len]
  have hx : x.toNat < od.length := by omega
  have e := List.getElem?_eq_getElem hx
  refine ⟨_, e, by rw [List.getD_eq_getElem?_getD, e]; rfl, ?_⟩
  exact mem_els.mp (p.mem_iff.mp (List.getElem_mem hx))
theorem od_inj (p : od.Perm (els m)) {x y : Int} (hx : 0 ≤ x ∧ x < (m : Int)) (hy : 0 ≤ y ∧ y < (m : Int)) (h : od.getD x.toNat 0 = od.getD y.toNat 0) : x = y := by
  obtain ⟨a, a1, a2, _⟩ := od_at p hx
  obtain ⟨b, b1, b2, _⟩ := od_at p hy
  have nd : od.Nodup := p.nodup_iff.mpr (els_nd m)
  rw [a2, b2] at h
  subst h
  have := (List.getElem?_inj (List.getElem?_eq_some_iff.mp a1).1 nd).mp (a1.trans b1.symm)
  omega
theorem tr_fit (p : od.Perm (els m)) {pl : Nat} {t : List Int} (h : t.length = pl ∧ ∀ x ∈ t, 0 ≤ x ∧ x < (m : Int)) : (tr od t).length = pl ∧ ∀ x ∈ tr od t, 0 ≤ x ∧ x < (m : Int) := by
  unfold tr
  refine ⟨by rw [List.length_map]; exact h.1, fun x hx => ?_⟩
  obtain ⟨y, hy, rfl⟩ := List.mem_map.mp hx
  obtain ⟨z, _, e, h1⟩ := od_at p (h.2 y hy)
  rw [e]
  exact h1
theorem tr_inj (p : od.Perm (els m)) : ∀ {s t : List Int}, (∀ x ∈ s, 0 ≤ x ∧ x < (m : Int)) → (∀ x ∈ t, 0 ≤ x ∧ x < (m : Int)) → tr od s = tr od t → s = t
  | [], [], _, _, _ => rfl
  | [], _ :: _, _, _, h => by cases h
  | _ :: _, [], _, _, h => by cases h
  | x :: s, y :: t, hs, ht, h => by
    unfold tr at h
    rw [List.map_cons, List.map_cons] at h
    injection h with h1 h2
    rw [od_inj p (hs x List.mem_cons_self) (ht y List.mem_cons_self) h1, tr_inj p (fun z hz => hs z (List.mem_cons_of_mem _ hz)) (fun z hz => ht z (List.mem_cons_of_mem _ hz)) h2]
/-- the rows of a turned relation -/
theorem turned_ok (hm : m ≤ 64) (p : od.Perm (els m)) {pl : Nat} {rs ss : List (List Int)} (h : RowsOk m pl rs) (q : ss.Perm (rs.map (tr od))) (w : ss.Pairwise fun n k => cd n ≤ cd k) : RowsOk m pl ss := by
  refine rise hm (fun t ht => ?_) ?_ w
  · obtain ⟨s, hs, rfl⟩ := List.mem_map.mp (q.mem_iff.mp ht)
    exact tr_fit p (h.fit s hs)
  · exact q.nodup_iff.mpr (nodup_map_on (fun a ha b hb e => tr_inj p (h.fit a ha).2 (h.fit b hb).2 e) (up_nodup h.up))
end
theorem erase_perm : ∀ {L : List Int} {j : Nat} {y : Int}, L[j]? = some y → L.Perm (y :: L.eraseIdx j)
  | [], _, _, h => by cases h
  | x :: l, 0, y, h => by cases h; exact .refl _
  | x :: l, j + 1, y, h => by
    have ih := erase_perm (L := l) (j := j) (y := y) h
    exact (ih.cons x).trans (.swap _ _ _)
theorem perm_pop {L O : List Int} {j : Nat} {y : Int} {R : List Int} (h : L[j]? = some y) (p : (L ++ O).Perm R) : (L.eraseIdx j ++ (O ++ [y])).Perm R := by
  have h1 := erase_perm h
  refine List.Perm.trans ?_ ((h1.append_right O).symm.trans p)
  rw [← List.append_assoc]
  exact List.perm_append_comm.trans (List.Perm.refl _)
end Lb

set_option Elab.async false
set_option linter.all false
set_option maxRecDepth 100000
set_option maxHeartbeats 4000000
/-! sorted(a tuple of rows) -/
namespace St
open PySem PySem.Spec PyProof.Rows L2 Lb
open Fo (All2)
section
variable {prog : Program} {w : World} {A : Around} {E : Value → Shared → Prop} {s : Shared}
theorem sorted_of {l : Addr} {T : String} {o : Obj} {vs : List Value} {n d : Nat} {B : Int} {Q : Value → Shared → Prop} (hT : T = "list" ∨ T = "tuple") (ho : s.heap.get? l = some o) (hc : o.cls = .type T) (hdat : o.data = .seq vs.toArray n) (h64 : vs.length < 64) (hd : 1 ≤ d) (x : TS.TupsOk s.heap d B vs)
    (q : ∀ (h1 g : Heap) (out : Array Value) (c : Nat), out.toList.Perm vs → out.toList.Pairwise (fun u v => TS.code B (TS.intsOf s.heap u) ≤ TS.code B (TS.intsOf s.heap v)) → (∀ b o, s.heap.get? b = some o → h1.get? b = some o) → (∀ b o, h1.get? b = some o → g.get? b = some o) →
      g.get? h1.objs.size = some { cls := .type "list", dict := none, data := .seq out c, slots := #[] } → Q (.ref h1.objs.size) { s with heap := g }) :
    wpAny (model prog w) A (call (.builtin "sorted") [.ref l]) Q E s := by
  refine Calls.call_function_entry kind_sorted plain_sorted entry_sorted (args_sorted1 _) ?_
  unfold Builtin.«sorted»
  refine wpAny_bind (m := checkCount "sorted" 1 1 _) (wpAny_pure ?_)
  refine wpAny_bind (wpAny_collect_seq l hT ho hc hdat (fun h1 k1 => ?_) (by rw [List.size_toArray, sizeLine_eq]; omega))
  refine wpAny_bind (wpAny_newList ?_ (by rw [sizeLine_eq]; simp; omega))
  have lt1 : ∀ b o, s.heap.get? b = some o → b < h1.objs.size := fun b o e => Heap.lt_size (k1 b o e)
  have hoL : (h1.push (seqObj "list" vs.toArray 0)).get? h1.objs.size = some (seqObj "list" vs.toArray 0) := Heap.get?_push_size _ rfl
  have keep : ∀ b o, s.heap.get? b = some o → o.cls = .type "tuple" → (h1.push (seqObj "list" vs.toArray 0)).get? b = some o := fun b o e _ => Heap.get?_push_of_some _ (k1 b o e)
  refine wpAny_bind (wpAny_holding (wpAny_call_entry slot_list_sort ⟨_, hoL, rfl⟩ entry_list_sort (TS.sort_tups hoL h64 hd (x.keeps keep) (fun v => TS.code B (TS.intsOf s.heap v)) (fun v hv ns t => ?_) fun out a1 a2 => ⟨_, rfl, ?_⟩) (args_list_sort _)))
  · obtain ⟨ns0, t0, _⟩ := x v hv
    have e : ns = ns0 := t.ints.symm.trans (t0.keeps keep).ints
    rw [e]
    show TS.code B (TS.intsOf s.heap v) = TS.code B ns0
    rw [t0.ints]
  · have sz : (h1.push (seqObj "list" vs.toArray 0)).objs.size = h1.objs.size + 1 := size_push' _ _
    obtain ⟨c, hat⟩ := sortedHeap_at (out := out) hoL
    refine wpAny_pure ⟨_, rfl, q h1 _ out c a1 a2 k1 (fun b o e => ?_) hat⟩
    have lt := Heap.lt_size e
    exact (sortedHeap_old (Nat.ne_of_lt lt) (by rw [sz]; exact Nat.lt_succ_of_lt lt)).trans (Heap.get?_push_of_some _ e)
end
section
variable {X : Cx}
/-- sorted(rows), a list or a tuple of rows that are all as long -/
def rSort (K : PySem.W.Frag) : List V → Hp → VK → Prop := fun vs H Q => ∃ (a : Addr) (us : List V) (rs : List (List Int)) (d : Nat), vs = [.ref a] ∧ SqT K H a us ∧ All2 (RowAt K H) us rs ∧ rs.length < 64 ∧ 1 ≤ d ∧ (∀ r ∈ rs, r.length = d ∧ TS.Bd 64 r) ∧
  ∀ (ys : List V) (ss : List (List Int)) (p : Addr), ss.Perm rs → ss.Pairwise (fun n m => cd n ≤ cd m) → All2 (RowAt K H) ys ss → H p = none → Q (.ref p) (upd H p (.lst ys))
theorem cr_sort : CallR X (.builtin "sorted") (rSort X.K) := by
  intro pins s σ H vs us' Q I r h
  obtain ⟨a, us, rs, d, rfl, hs, hr, h64, hd, hb, q⟩ := h
  obtain ⟨its, rv, p1, hz⟩ := I.tuple hs
  obtain ⟨o, ho, hc, n, hdat⟩ := id p1
  rw [Vals.ref1 r]
  have refs : ∀ x ∈ us, ∃ a, x = V.ref a := fun x m => by
    obtain ⟨i, hi⟩ := List.getElem?_of_mem m
    obtain ⟨_, _, t, e, _⟩ := hr.get hi
    exact ⟨t, e⟩
  obtain ⟨e1, e2⟩ := bkV_refs rv refs
  have lu := hr.length
  refine sorted_of (.inr rfl) ho hc (vs := its) hdat (by rw [← rv.length]; omega) hd (B := 64) (fun v hv => ?_) fun h1 g out c pm pw k1 k2 hat => ?_
  · obtain ⟨t, rfl⟩ := e2 v hv
    have hm : V.ref t ∈ us := by
      rw [e1]
      exact List.mem_map.mpr ⟨_, hv, rfl⟩
    obtain ⟨i, hi⟩ := List.getElem?_of_mem hm
    obtain ⟨ns, hn, t', e, ht⟩ := hr.get hi
    cases e
    exact ⟨ns, tupI_raw I ht, hb ns (List.mem_of_getElem? hn)⟩
  · have I1 : Inv X pins σ H { s with heap := h1 } := I.kept (t' := s.toks) k1
    have h3 : ∀ u ∈ out.toList, ∃ a, u = Value.ref a := fun u hu => e2 u (pm.mem_iff.mp hu)
    have hp : (out.toList.map bkV).Perm us := by
      rw [e1]
      exact pm.map bkV
    obtain ⟨ss, p2, a1⟩ := a2_perm hp hr
    have pw' : ss.Pairwise fun n m => cd n ≤ cd m := by
      refine a2_pw (S := fun x y => ∀ n m, TupI X.K H x n → TupI X.K H y m → TS.code 64 n ≤ TS.code 64 m) (fun x y n m ⟨t, et, hn⟩ ⟨t', et', hm⟩ k => k n m ⟨t, et, hn⟩ ⟨t', et', hm⟩) a1 ?_
      rw [List.pairwise_map]
      refine List.Pairwise.imp (fun {u v} huv n m hn hm => ?_) pw
      obtain ⟨t, et, ht⟩ := hn
      obtain ⟨t', et', ht'⟩ := hm
      have i1 : TS.intsOf s.heap u = n := by
        rw [bkV_ref et]
        exact (tupI_raw I ht).ints
      have i2 : TS.intsOf s.heap v = m := by
        rw [bkV_ref et']
        exact (tupI_raw I ht').ints
      rw [← i1, ← i2]
      exact huv
    refine ⟨.ref _, upd H h1.objs.size (.lst (out.toList.map bkV)), I1.laid (t' := s.toks) k2 (Nat.le_refl _) ⟨by rw [hp.length_eq]; exact hz, out.toList, c, bkV_vals h3, hat⟩, rfl, q _ ss _ p2 pw' a1 (I1.hok.fresh (Nat.le_refl _))⟩
end
end St
namespace Lb
open PySem L2 Fo
theorem eqv_ints : ∀ r s : List Int, PyData.eqvAll (r.map PyData.int) (s.map PyData.int) = decide (r = s)
  | [], [] => by simp [PyData.eqvAll]
  | [], _ :: _ => by simp [PyData.eqvAll]
  | _ :: _, [] => by simp [PyData.eqvAll]
  | x :: r, y :: s => by
    rw [List.map_cons, List.map_cons, PyData.eqvAll, eqv_ints r s, PyData.eqv]
    by_cases e : x = y <;> by_cases g : r = s <;> simp [e, g]
theorem eqv_dint (r s : List Int) : PyData.eqv (Da.dint r) (Da.dint s) = decide (r = s) := by
  rw [Da.dint, Da.dint, PyData.eqv, eqv_ints]
theorem any_dint (rs : List (List Int)) (r : List Int) : ((rs.map Da.dint).any fun z => PyData.eqv z (Da.dint r)) = decide (r ∈ rs) := by
  induction rs with
  | nil => simp
  | cons s rs ih =>
    rw [List.map_cons, List.any_cons, ih, eqv_dint]
    by_cases e : s = r
    · subst e; simp
    · have : r ≠ s := fun z => e z.symm
      by_cases g : r ∈ rs <;> simp [e, g, this]
theorem a2_set {α β : Type} {R : α → β → Prop} {a : α} {b : β} (r : R a b) : ∀ {as : List α} {bs : List β} {i : Nat}, All2 R as bs → All2 R (as.set i a) (bs.set i b)
  | _, _, _, .nil => .nil
  | _, _, 0, .cons _ t => .cons r t
  | _, _, i + 1, .cons h t => .cons h (a2_set r t)
theorem a2_setL {α β : Type} {R : α → β → Prop} {a : α} {b : β} {as : List α} {bs : List β} {i : Nat} (h : All2 R as bs) (e : bs[i]? = some b) (r : R a b) : All2 R (as.set i a) bs := by
  have := a2_set r (i := i) h
  obtain ⟨hi, e'⟩ := List.getElem?_eq_some_iff.mp e
  rw [← e', List.set_getElem_self] at this
  exact this
theorem seq_ix {r : Int} {n : Nat} (h0 : 0 ≤ r) (h1 : r < (n : Int)) : seqIndex? r n = some r.toNat := by
  unfold seqIndex?
  simp only [show ¬ (r < 0) by omega, if_false]
  rw [if_pos (by simp; omega)]
end Lb

set_option Elab.async false
set_option linter.all false
set_option maxRecDepth 100000
set_option maxHeartbeats 4000000
/-! games of two structures: what the law walks through is Gm's -/
namespace Lb
open PySem L2 Fo
def Rs (rels rels' : List Rl) : Gm.Rels := (rels.zip rels').map fun p => (p.1.2.1, p.1.2.2, p.2.2.2)
section
variable {xs ys : List Int}
theorem zip_at (hl : xs.length = ys.length) {i : Nat} (hi : i < xs.length) : (xs.getD i 0, ys.getD i 0) ∈ xs.zip ys := by
  have e1 : xs[i]? = some (xs.getD i 0) := by rw [List.getD_eq_getElem?_getD, List.getElem?_eq_getElem hi]; rfl
  have e2 : ys[i]? = some (ys.getD i 0) := by rw [List.getD_eq_getElem?_getD, List.getElem?_eq_getElem (show i < ys.length by omega)]; rfl
  exact List.mem_of_getElem? (i := i) (List.getElem?_zip_eq_some.mpr ⟨e1, e2⟩)
theorem at_zip {p : Int × Int} (h : p ∈ xs.zip ys) : ∃ i, i < xs.length ∧ p.1 = xs.getD i 0 ∧ p.2 = ys.getD i 0 := by
  obtain ⟨i, hi⟩ := List.getElem?_of_mem h
  obtain ⟨h1, h2⟩ := List.getElem?_zip_eq_some.mp hi
  refine ⟨i, (List.getElem?_eq_some_iff.mp h1).1, ?_, ?_⟩
  · rw [List.getD_eq_getElem?_getD, h1]; rfl
  · rw [List.getD_eq_getElem?_getD, h2]; rfl
theorem tr_pair (row : List Int) : (row.map fun i => (xs.getD i.toNat 0, ys.getD i.toNat 0)).map (·.1) = tr xs row ∧ (row.map fun i => (xs.getD i.toNat 0, ys.getD i.toNat 0)).map (·.2) = tr ys row := by
  unfold tr
  rw [List.map_map, List.map_map]
  exact ⟨rfl, rfl⟩
theorem of_pairs (hl : xs.length = ys.length) : ∀ c : List (Int × Int), (∀ p ∈ c, p ∈ xs.zip ys) → ∃ row : List Int, row.length = c.length ∧ (∀ x ∈ row, 0 ≤ x ∧ x < (xs.length : Int)) ∧ tr xs row = c.map (·.1) ∧ tr ys row = c.map (·.2)
  | [], _ => ⟨[], rfl, (fun x h => nomatch h), rfl, rfl⟩
  | p :: c, h => by
    obtain ⟨row, h1, h2, h3, h4⟩ := of_pairs hl c fun q hq => h q (List.mem_cons_of_mem _ hq)
    obtain ⟨i, hi, e1, e2⟩ := at_zip (h p List.mem_cons_self)
    refine ⟨(i : Int) :: row, by rw [List.length_cons, List.length_cons, h1], fun x hx => ?_, ?_, ?_⟩
    · rcases List.mem_cons.mp hx with e | e
      · rw [e]; omega
      · exact h2 x e
    · show xs.getD ((i : Int).toNat) 0 :: tr xs row = p.1 :: c.map (·.1)
      rw [Int.toNat_natCast, ← e1, h3]
    · show ys.getD ((i : Int).toNat) 0 :: tr ys row = p.2 :: c.map (·.2)
      rw [Int.toNat_natCast, ← e2, h4]
def EqOk (xs ys : List Int) : Prop := ∀ i, i < xs.length → ∀ j, j < xs.length → (xs.getD i 0 = xs.getD j 0 ↔ ys.getD i 0 = ys.getD j 0)
def RelsOk (xs ys : List Int) (rels rels' : List Rl) : Prop := ∀ (k : Nat) (r r' : Rl), rels[k]? = some r → rels'[k]? = some r' → ∀ row ∈ rowsOf xs.length r.2.1, (tr xs row ∈ r.2.2 ↔ tr ys row ∈ r'.2.2)
theorem fair_iff (hl : xs.length = ys.length) {rels rels' : List Rl} : Gm.Fair (Rs rels rels') (xs.zip ys) ↔ EqOk xs ys ∧ RelsOk xs ys rels rels' := by
  constructor
  · rintro ⟨f1, f2⟩
    refine ⟨fun i hi j hj => f1 _ (zip_at hl hi) _ (zip_at hl hj), fun k r r' hr hr' row hrow => ?_⟩
    obtain ⟨m1, m2⟩ := rows_mem hrow
    have ht : (r.2.1, r.2.2, r'.2.2) ∈ Rs rels rels' := by
      unfold Rs
      exact List.mem_map.mpr ⟨(r, r'), List.mem_of_getElem? (i := k) (List.getElem?_zip_eq_some.mpr ⟨hr, hr'⟩), rfl⟩
    have := f2 _ ht (row.map fun i => (xs.getD i.toNat 0, ys.getD i.toNat 0)) (by rw [List.length_map]; exact m1) fun p hp => by
      obtain ⟨i, hi, rfl⟩ := List.mem_map.mp hp
      have := m2 i hi
      exact zip_at hl (by omega)
    rw [(tr_pair row).1, (tr_pair row).2] at this
    exact this
  · rintro ⟨f1, f2⟩
    refine ⟨fun p hp q hq => ?_, fun t ht c hc hm => ?_⟩
    · obtain ⟨i, hi, e1, e2⟩ := at_zip hp
      obtain ⟨j, hj, g1, g2⟩ := at_zip hq
      rw [e1, e2, g1, g2]
      exact f1 i hi j hj
    · unfold Rs at ht
      obtain ⟨⟨r, r'⟩, hz, rfl⟩ := List.mem_map.mp ht
      obtain ⟨k, hk⟩ := List.getElem?_of_mem hz
      obtain ⟨h1, h2⟩ := List.getElem?_zip_eq_some.mp hk
      obtain ⟨row, e1, e2, e3, e4⟩ := of_pairs hl c hm
      rw [← e3, ← e4]
      exact f2 k r r' h1 h2 row (rows_all (e1.trans hc) e2)
end
def spLFair (K : PySem.W.Frag) : Sp := fun vs H Q _ => ∃ (ks : List (Str × Nat)) (sv ov pv qv : V) (m n : Nat) (rels rels' : List Rl) (xs ys : List Int), vs = [sv, ov, pv, qv] ∧ StrAt K H sv m rels ∧ StrAt K H ov n rels' ∧ All2 (Fits m) rels ks ∧ All2 (Fits n) rels' ks ∧ ks ∈ Kd ∧
  RowAt K H pv xs ∧ RowAt K H qv ys ∧ xs.length = ys.length ∧ xs.length ≤ 6 ∧ ∀ (r : Bool) (H' : Hp), Same H H' → (r = true ↔ Gm.Fair (Rs rels rels') (xs.zip ys)) → Q (.bl r) H'
def spLAlike (K : PySem.W.Frag) (N : Nat) : Sp := fun vs H Q _ => ∃ (ks : List (Str × Nat)) (sv ov pv qv : V) (m n k : Nat) (rels rels' : List Rl) (xs ys : List Int), vs = [sv, ov, pv, qv, .int (k : Int)] ∧ StrAt K H sv m rels ∧ StrAt K H ov n rels' ∧ All2 (Fits m) rels ks ∧ All2 (Fits n) rels' ks ∧ ks ∈ Kd ∧
  RowAt K H pv xs ∧ RowAt K H qv ys ∧ xs.length = ys.length ∧ xs.length + k ≤ 6 ∧ k < N ∧ m ≤ 4 ∧ n ≤ 4 ∧ ∀ (r : Bool) (H' : Hp), Same H H' → (r = true ↔ Gm.Alike (Rs rels rels') m n k (xs.zip ys)) → Q (.bl r) H'
end Lb
namespace Lb
open PySem L2 Fo
/-- a tuple of ints and one more -/
theorem cat1 {K : PySem.W.Frag} {H : Hp} {a : Addr} {xs : List Int} {x : Int} {Q : VK} (h : SqT K H a (xs.map V.int)) (hl : xs.length ≤ 1000) (q : ∀ (t : Addr) (H' : Hp), Same H H' → SqT K H' t ((xs ++ [x]).map V.int) → Q (.ref t) H') :
    [V.int x].length ≤ sizeLine ∧ ∀ p, H p = none → rCatA K (.ref a) (.ref p) (upd H p (.tup [V.int x])) Q := by
  refine ⟨l1, fun p np => ⟨a, p, _, _, rfl, rfl, tk_new np _ _ _ h, SqT.of upd_same, Nat.le_of_lt (lineOk (by rw [List.length_map, List.length_singleton]; omega)), fun e0 => ?_, fun _ e0 => (nomatch e0), fun _ _ p2 np2 => ?_⟩⟩
  · have er : xs = [] := List.map_eq_nil_iff.mp e0
    subst er
    exact q p _ (same_new np _) (SqT.of upd_same)
  · exact q p2 _ ((same_new np _).trans (same_new np2 _)) (by rw [List.map_append]; exact SqT.of upd_same)
end Lb

set_option Elab.async false
set_option linter.all false
set_option maxRecDepth 100000
set_option maxHeartbeats 4000000
/-! meetings of points, as keys; the object of class Game -/
namespace Lb
open PySem L2 Fo Ndk
abbrev Pr := Int × Int
def pr (p : Pr) : List Int := [p.1, p.2]
theorem pr_inj {p q : Pr} (h : pr p = pr q) : p = q := by
  unfold pr at h
  injection h with h1 h2
  injection h2 with h2
  exact Prod.ext h1 h2
theorem prs_inj : ∀ {ps qs : List Pr}, ps.map pr = qs.map pr → ps = qs
  | [], [], _ => rfl
  | [], _ :: _, h => by cases h
  | _ :: _, [], h => by cases h
  | p :: ps, q :: qs, h => by
    rw [List.map_cons, List.map_cons] at h
    injection h with h1 h2
    rw [pr_inj h1, prs_inj h2]
theorem rows_inj : ∀ {rs ss : List (List Int)}, rs.map nkr = ss.map nkr → rs = ss
  | [], [], _ => rfl
  | [], _ :: _, h => by cases h
  | _ :: _, [], h => by cases h
  | p :: ps, q :: qs, h => by
    rw [List.map_cons, List.map_cons] at h
    injection h with h1 h2
    rw [nkr_inj h1, rows_inj h2]
def kps (ps : List Pr) : Nk := .tp ((ps.map pr).map nkr)
theorem kps_inj {ps qs : List Pr} (h : kps ps = kps qs) : ps = qs := by
  unfold kps at h
  injection h with h
  exact prs_inj (rows_inj h)
def kpr (ps : List Pr) (k : Nat) : Nk := .tp [kps ps, .ak (.inl (k : Int))]
theorem kpr_inj {ps qs : List Pr} {k l : Nat} (h : kpr ps k = kpr qs l) : ps = qs ∧ k = l := by
  unfold kpr at h
  injection h with h
  injection h with h1 h2
  injection h2 with h2
  injection h2 with h2
  injection h2 with h2
  exact ⟨kps_inj h1, by omega⟩
theorem kps_dep (ps : List Pr) : (kps ps).dep ≤ 4 := dep_rows _
theorem kpr_dep (ps : List Pr) (k : Nat) : (kpr ps k).dep ≤ 7 := by
  have := kps_dep ps
  rw [kpr, Nk.dep, Nk.deps, Nk.deps, Nk.deps, Nk.dep]
  omega
/-! how many keys there may be -/
def subs {α : Type} : List α → List (List α)
  | [] => [[]]
  | x :: l => subs l ++ (subs l).map (x :: ·)
theorem subs_len {α : Type} : ∀ l : List α, (subs l).length = 2 ^ l.length
  | [] => rfl
  | x :: l => by
    rw [subs, List.length_append, List.length_map, subs_len l, List.length_cons, Nat.pow_succ]
    omega
theorem mem_subs {α : Type} {l L : List α} (h : l.Sublist L) : l ∈ subs L := by
  induction h with
  | slnil => exact List.mem_singleton.mpr rfl
  | cons a _ ih => rw [subs]; exact List.mem_append_left _ ih
  | cons_cons a _ ih => rw [subs]; exact List.mem_append_right _ (List.mem_map.mpr ⟨_, ih, rfl⟩)
theorem sub_of {α : Type} (c : α → Int) : ∀ {L l : List α}, l.Pairwise (fun a b => c a < c b) → L.Pairwise (fun a b => c a < c b) → (∀ x ∈ l, x ∈ L) → l.Sublist L
  | [], l, _, _, h => by
    cases l with
    | nil => exact .slnil
    | cons x l => exact absurd (h x List.mem_cons_self) (by simp)
  | a :: L, [], _, _, _ => List.nil_sublist _
  | a :: L, x :: l, pl, pL, h => by
    cases pl with
    | cons p1 p2 =>
      cases pL with
      | cons q1 q2 =>
        have tail : ∀ y ∈ l, c a ≤ c x → y ∈ L := fun y hy hax => by
          rcases List.mem_cons.mp (h y (List.mem_cons_of_mem _ hy)) with e | e
          · have := p1 y hy
            rw [e] at this
            omega
          · exact e
        rcases List.mem_cons.mp (h x List.mem_cons_self) with e | e
        · subst e
          exact List.Sublist.cons_cons _ (sub_of c p2 q2 fun y hy => tail y hy (Int.le_refl _))
        · have hax := q1 x e
          refine (sub_of c (.cons p1 p2) q2 fun y hy => ?_).cons _
          rcases List.mem_cons.mp hy with z | z
          · rw [z]; exact e
          · exact tail y z (by omega)
def allPr (m n : Nat) : List Pr := (els m).flatMap fun x => (els n).map fun y => (x, y)
theorem allPr_len (m n : Nat) : (allPr m n).length = m * n := by
  unfold allPr
  have : ∀ l : List Int, (l.flatMap fun x => (els n).map fun y => (x, y)).length = l.length * n := by
    intro l
    induction l with
    | nil => simp
    | cons x l ih => rw [List.flatMap_cons, List.length_append, ih, List.length_map, els_len, List.length_cons, Nat.succ_mul]; omega
  rw [this, els_len]
theorem cd_pr (p : Pr) : cd (pr p) = p.1 * 64 + p.2 := code_pair _ _
theorem els_up (m : Nat) : (els m).Pairwise (· < ·) := by
  unfold els
  rw [List.pairwise_map]
  refine List.Pairwise.imp (fun {a b} h => ?_) List.pairwise_lt_range
  omega
theorem allPr_up {m n : Nat} (hn : n ≤ 64) : (allPr m n).Pairwise fun p q => cd (pr p) < cd (pr q) := by
  unfold allPr
  rw [List.pairwise_flatMap]
  refine ⟨fun x _ => ?_, (els_up m).imp fun {x y} h a ha b hb => ?_⟩
  · rw [List.pairwise_map]
    refine (els_up n).imp fun {a b} h => ?_
    rw [cd_pr, cd_pr]
    show x * 64 + a < x * 64 + b
    omega
  · obtain ⟨u, hu, rfl⟩ := List.mem_map.mp ha
    obtain ⟨v, hv, rfl⟩ := List.mem_map.mp hb
    have h1 := mem_els.mp hu
    have h2 := mem_els.mp hv
    rw [cd_pr, cd_pr]
    show x * 64 + u < y * 64 + v
    omega
structure Meet (m n : Nat) (ps : List Pr) : Prop where
  inr : ∀ p ∈ ps, Gm.El m p.1 ∧ Gm.El n p.2
  up : ps.Pairwise fun p q => cd (pr p) < cd (pr q)
theorem Meet.sub {m n : Nat} {ps : List Pr} (h : Meet m n ps) (hn : n ≤ 64) : ps.Sublist (allPr m n) :=
  sub_of (fun p => cd (pr p)) h.up (allPr_up hn) fun p hp => by
    obtain ⟨h1, h2⟩ := h.inr p hp
    unfold allPr
    rw [List.mem_flatMap]
    exact ⟨p.1, mem_els.mpr h1, List.mem_map.mpr ⟨p.2, mem_els.mpr h2, rfl⟩⟩
theorem Meet.nodup {m n : Nat} {ps : List Pr} (h : Meet m n ps) : ps.Nodup := h.up.imp fun {a b} h e => by rw [e] at h; omega
theorem Meet.few {m n : Nat} {ps : List Pr} (h : Meet m n ps) (hm : m ≤ 4) (hn : n ≤ 4) : ps.length ≤ 16 := by
  have := (h.sub (by omega)).length_le
  rw [allPr_len] at this
  have := Nat.mul_le_mul hm hn
  omega
theorem two16 {m n : Nat} (hm : m ≤ 4) (hn : n ≤ 4) : 2 ^ (m * n) ≤ 65536 := Nat.le_trans (Nat.pow_le_pow_right (by decide) (Nat.mul_le_mul hm hn)) (by decide)
open Classical in
theorem keys_few {m n : Nat} {ks : List Nk} (hm : m ≤ 4) (hn : n ≤ 4) (nd : ks.Nodup) (h : ∀ k ∈ ks, ∃ ps, Meet m n ps ∧ k = kps ps) : ks.length ≤ 65536 := by
  refine Nat.le_trans (len_sub (D := (subs (allPr m n)).map kps) nd fun k hk => ?_) ?_
  · obtain ⟨ps, h1, rfl⟩ := h k hk
    exact List.mem_map.mpr ⟨ps, mem_subs (h1.sub (by omega)), rfl⟩
  · rw [List.length_map, subs_len, allPr_len]
    exact two16 hm hn
open Classical in
theorem keys2_few {m n : Nat} {ks : List Nk} (hm : m ≤ 4) (hn : n ≤ 4) (nd : ks.Nodup) (h : ∀ k ∈ ks, ∃ ps l, Meet m n ps ∧ l ≤ 8 ∧ k = kpr ps l) : ks.length ≤ 9 * 65536 := by
  refine Nat.le_trans (len_sub (D := (List.range 9).flatMap fun l => (subs (allPr m n)).map fun ps => kpr ps l) nd fun k hk => ?_) ?_
  · obtain ⟨ps, l, h1, hl, rfl⟩ := h k hk
    exact List.mem_flatMap.mpr ⟨l, List.mem_range.mpr (by omega), List.mem_map.mpr ⟨ps, mem_subs (h1.sub (by omega)), rfl⟩⟩
  · have := two16 hm hn
    have e : ∀ r : List Nat, (r.flatMap fun l => (subs (allPr m n)).map fun ps => kpr ps l).length = r.length * 2 ^ (m * n) := by
      intro r
      induction r with
      | nil => simp
      | cons x r ih => rw [List.flatMap_cons, List.length_append, ih, List.length_map, subs_len, allPr_len, List.length_cons, Nat.succ_mul]; omega
    rw [e, List.length_range]
    omega
theorem ndV_none {c : List (Nk × Addr × V)} {k : Nk} (h : ndV c k = none) : k ∉ c.map (·.1) := fun z => by
  obtain ⟨x, hx, rfl⟩ := List.mem_map.mp z
  unfold ndV at h
  have := Option.map_eq_none_iff.mp h
  rw [List.find?_eq_none] at this
  exact this x hx (by simp)
theorem nd_snoc {c : List (Nk × Addr × V)} {k : Nk} {a : Addr} {v : V} (n : (c.map (·.1)).Nodup) (h : ndV c k = none) : ((c ++ [(k, a, v)]).map (·.1)).Nodup := by
  rw [List.map_append, List.nodup_append]
  refine ⟨n, by simp, fun x hx y hy e => ndV_none h ?_⟩
  have : y = k := by simpa using hy
  rw [← this, ← e]
  exact hx
theorem ndV_in {c : List (Nk × Addr × V)} {k : Nk} {v : V} (h : ndV c k = some v) : ∃ x ∈ c, x.1 = k ∧ x.2.2 = v := by
  unfold ndV at h
  obtain ⟨x, hx, rfl⟩ := Option.map_eq_some_iff.mp h
  exact ⟨x, List.mem_of_find?_eq_some hx, of_decide_eq_true (List.find?_some (p := fun e : Nk × Addr × V => decide (e.1 = k)) hx), rfl⟩
section
variable {K : PySem.W.Frag} {H H' : Hp}
def MtAt (K : PySem.W.Frag) (H : Hp) (v : V) (ps : List Pr) : Prop := ∃ (a : Addr) (us : List V), v = .ref a ∧ SqT K H a us ∧ All2 (RowAt K H) us (ps.map pr)
theorem MtAt.tk {v : V} {ps : List Pr} (k : Tk K H H') (h : MtAt K H v ps) : MtAt K H' v ps := let ⟨a, us, e, h1, h2⟩ := h; ⟨a, us, e, k _ _ h1, h2.imp fun _ _ z => z.tk k⟩
theorem mt_key {v : V} {ps : List Pr} (h : MtAt K H v ps) : NkAt K H (kps ps) v := by
  obtain ⟨a, us, rfl, h1, h2⟩ := h
  rw [kps, NkAt]
  exact ⟨a, us, rfl, h1, nk_rows h2⟩
theorem mt_key2 {v : V} {ps : List Pr} {k : Nat} {p : Addr} (h : MtAt K H v ps) (hp : SqT K H p [v, .int (k : Int)]) : NkAt K H (kpr ps k) (.ref p) := by
  rw [kpr, NkAt]
  refine ⟨p, _, rfl, hp, ?_⟩
  rw [NksAt]
  refine ⟨_, _, rfl, mt_key h, ?_⟩
  rw [NksAt]
  exact ⟨_, _, rfl, by rw [NkAt]; rfl, by rw [NksAt]⟩
end
end Lb

set_option Elab.async false
set_option linter.all false
set_option maxRecDepth 100000
set_option maxHeartbeats 4000000
/-! the object of class Game -/
namespace Lb
open PySem L2 Fo Ndk
structure Gs where
  g : Addr
  dx : Addr
  sv : V
  ov : V
  tM : Addr
  lR : Addr
  dF : Addr
  dA : Addr
  m : Nat
  n : Nat
  rt : Gm.Rels
def gfl (b : Gs) : List (Str × V) := putF "known_alike" (.ref b.dA) (putF "known_fair" (.ref b.dF) (putF "relations" (.ref b.lR) (putF "many" (.ref b.tM) (putF "other" b.ov (putF "structure" b.sv [])))))
theorem gf_alike (b : Gs) : (gfl b).lookup ("known_alike" : Str) = some (.ref b.dA) := by
  unfold gfl
  rw [lookup_putF, if_pos rfl]
theorem gf_fair (b : Gs) : (gfl b).lookup ("known_fair" : Str) = some (.ref b.dF) := by
  unfold gfl
  rw [lookup_putF, if_neg (by decide +kernel), lookup_putF, if_pos rfl]
theorem gf_rels (b : Gs) : (gfl b).lookup ("relations" : Str) = some (.ref b.lR) := by
  unfold gfl
  rw [lookup_putF, if_neg (by decide +kernel), lookup_putF, if_neg (by decide +kernel), lookup_putF, if_pos rfl]
theorem gf_many (b : Gs) : (gfl b).lookup ("many" : Str) = some (.ref b.tM) := by
  unfold gfl
  rw [lookup_putF, if_neg (by decide +kernel), lookup_putF, if_neg (by decide +kernel), lookup_putF, if_neg (by decide +kernel), lookup_putF, if_pos rfl]
theorem gf_other (b : Gs) : (gfl b).lookup ("other" : Str) = some b.ov := by
  unfold gfl
  rw [lookup_putF, if_neg (by decide +kernel), lookup_putF, if_neg (by decide +kernel), lookup_putF, if_neg (by decide +kernel), lookup_putF, if_neg (by decide +kernel), lookup_putF, if_pos rfl]
theorem gf_struct (b : Gs) : (gfl b).lookup ("structure" : Str) = some b.sv := by
  unfold gfl
  rw [lookup_putF, if_neg (by decide +kernel), lookup_putF, if_neg (by decide +kernel), lookup_putF, if_neg (by decide +kernel), lookup_putF, if_neg (by decide +kernel), lookup_putF, if_neg (by decide +kernel), lookup_putF, if_pos rfl]
theorem gf_no (b : Gs) {x : Str} (h : ¬ x = ("known_alike" : Str) ∧ ¬ x = ("known_fair" : Str) ∧ ¬ x = ("relations" : Str) ∧ ¬ x = ("many" : Str) ∧ ¬ x = ("other" : Str) ∧ ¬ x = ("structure" : Str)) : (gfl b).lookup x = none := by
  unfold gfl
  rw [lookup_putF, if_neg h.1, lookup_putF, if_neg h.2.1, lookup_putF, if_neg h.2.2.1, lookup_putF, if_neg h.2.2.2.1, lookup_putF, if_neg h.2.2.2.2.1, lookup_putF, if_neg h.2.2.2.2.2]
  rfl
structure GmT (K : PySem.W.Frag) (C : Addr) : Prop where
  cl : Cls K C
  ns : NoAttr K C "structure"
  no : NoAttr K C "other"
  nm : NoAttr K C "many"
  nr : NoAttr K C "relations"
  nf : NoAttr K C "known_fair"
  na : NoAttr K C "known_alike"
/-- a dict that has just these rows for its keys -/
def RowD (K : PySem.W.Frag) (P : Program) (w : World) (b : Gs) (H : Hp) (d : Addr) (rows : List (List Int)) : Prop := d ≠ b.dF ∧ d ≠ b.dA ∧ ∃ ents, NdAt K P w H d ents ∧ ∀ r : List Int, (ndV ents (nkr r)).isSome = decide (r ∈ rows)
def GrAt (K : PySem.W.Frag) (P : Program) (w : World) (b : Gs) (H : Hp) (u : V) (t : Nat × List (List Int) × List (List Int)) : Prop := ∃ (a d1 d2 : Addr), u = .ref a ∧ SqT K H a [.int (t.1 : Int), .ref d1, .ref d2] ∧ t.1 ≤ 2 ∧ RowD K P w b H d1 t.2.1 ∧ RowD K P w b H d2 t.2.2
def FOk (b : Gs) (c : List (Nk × Addr × V)) : Prop := (c.map (·.1)).Nodup ∧ ∀ x ∈ c, ∃ (ps : List Pr) (r : Bool), Meet b.m b.n ps ∧ x.1 = kps ps ∧ x.2.2 = .bl r ∧ (r = true ↔ Gm.Fair b.rt ps)
def AOk (b : Gs) (c : List (Nk × Addr × V)) : Prop := (c.map (·.1)).Nodup ∧ ∀ x ∈ c, ∃ (ps : List Pr) (k : Nat) (r : Bool), Meet b.m b.n ps ∧ k ≤ 8 ∧ x.1 = kpr ps k ∧ x.2.2 = .bl r ∧ (r = true ↔ Gm.Alike b.rt b.m b.n k ps)
structure GAt (K : PySem.W.Frag) (P : Program) (w : World) (C : Addr) (b : Gs) (H : Hp) : Prop where
  obj : H b.g = some (.ins C b.dx (gfl b))
  many : SqT K H b.tM [.int (b.m : Int), .int (b.n : Int)]
  rels : ∃ us, H b.lR = some (.lst us) ∧ All2 (GrAt K P w b H) us b.rt
  fair : ∃ c, NdAt K P w H b.dF c ∧ FOk b c
  alike : ∃ c, NdAt K P w H b.dA c ∧ AOk b c
  ne : b.dF ≠ b.dA
  m4 : b.m ≤ 4
  n4 : b.n ≤ 4
  few : b.rt.length ≤ 8
/-- all but what is known is as it was -/
def Gr (b : Gs) (H H' : Hp) : Prop := ∀ a o, a ≠ b.dF → a ≠ b.dA → H a = some o → H' a = some o
theorem Gr.refl (b : Gs) (H : Hp) : Gr b H H := fun _ _ _ _ h => h
theorem Gr.trans {b : Gs} {H H1 H2 : Hp} (x : Gr b H H1) (y : Gr b H1 H2) : Gr b H H2 := fun a o n1 n2 h => y a o n1 n2 (x a o n1 n2 h)
theorem Gr.of_same {b : Gs} {H H' : Hp} (x : Same H H') : Gr b H H' := fun a o _ _ h => x a o h
section
variable {P : Program} {w : World} {K : PySem.W.Frag} {C : Addr} {b : Gs} {H H' : Hp}
theorem GAt.kf (h : GAt K P w C b H) : ∃ xs, H b.dF = some (NdO P w b.dF xs) := let ⟨c, h, _⟩ := h.fair; ⟨c, h.1⟩
theorem GAt.ka (h : GAt K P w C b H) : ∃ xs, H b.dA = some (NdO P w b.dA xs) := let ⟨c, h, _⟩ := h.alike; ⟨c, h.1⟩
theorem GAt.tk (h : GAt K P w C b H) (f : Gr b H H') : Tk K H H' := fun a xs q => by
  obtain ⟨es, h1⟩ := h.kf
  obtain ⟨fs, h2⟩ := h.ka
  rcases q with (q | ⟨o, q⟩) | q
  · exact .inl (.inl (f a _ (fun z => by rw [z, h1] at q; cases q) (fun z => by rw [z, h2] at q; cases q) q))
  · exact .inl (.inr ⟨o, f a _ (fun z => by rw [z, h1] at q; cases q) (fun z => by rw [z, h2] at q; cases q) q⟩)
  · exact .inr q
theorem NdAt.tk {a : Addr} {ents : List (Nk × Addr × V)} (h : NdAt K P w H a ents) (k : Tk K H H') (e : H' a = some (NdO P w a ents)) : NdAt K P w H' a ents := ⟨e, fun x hx => ⟨(h.2 x hx).1, NkAt.tk k (h.2 x hx).2⟩⟩
theorem RowD.fr {d : Addr} {rows : List (List Int)} (h : RowD K P w b H d rows) (f : Gr b H H') (k : Tk K H H') : RowD K P w b H' d rows := by
  obtain ⟨n1, n2, ents, hn, he⟩ := h
  exact ⟨n1, n2, ents, NdAt.tk hn k (f _ _ n1 n2 hn.1), he⟩
/-- what is left to tell behind a change of what is known -/
theorem GAt.put (h : GAt K P w C b H) (f : Gr b H H') (hf : ∃ c, NdAt K P w H' b.dF c ∧ FOk b c) (ha : ∃ c, NdAt K P w H' b.dA c ∧ AOk b c) : GAt K P w C b H' := by
  have k := h.tk f
  obtain ⟨es, z1⟩ := h.kf
  obtain ⟨fs, z2⟩ := h.ka
  obtain ⟨us, h3, h4⟩ := h.rels
  refine ⟨f _ _ (fun z => by have := h.obj; rw [z, z1] at this; cases this) (fun z => by have := h.obj; rw [z, z2] at this; cases this) h.obj, k _ _ h.many, ⟨us, f _ _ (fun z => by rw [z, z1] at h3; cases h3) (fun z => by rw [z, z2] at h3; cases h3) h3, h4.imp fun u t q => ?_⟩, hf, ha, h.ne, h.m4, h.n4, h.few⟩
  obtain ⟨a, d1, d2, e, q1, q2, q3, q4⟩ := q
  exact ⟨a, d1, d2, e, k _ _ q1, q2, q3.fr f k, q4.fr f k⟩
theorem GAt.same (h : GAt K P w C b H) (s : Same H H') : GAt K P w C b H' := by
  obtain ⟨c, h1, h2⟩ := h.fair
  obtain ⟨e, h3, h4⟩ := h.alike
  have k := Tk.of_same (K := K) s
  exact h.put (.of_same s) ⟨c, NdAt.tk h1 k (s _ _ h1.1), h2⟩ ⟨e, NdAt.tk h3 k (s _ _ h3.1), h4⟩
theorem GAt.new (h : GAt K P w C b H) {a : Addr} {o : HO} (n : H a = none) : GAt K P w C b (upd H a o) := h.same (same_new n o)
theorem GAt.nea (h : GAt K P w C b H) {a : Addr} (n : H a = none) : a ≠ b.g ∧ a ≠ b.dF ∧ a ≠ b.dA := by
  obtain ⟨es, z1⟩ := h.kf
  obtain ⟨fs, z2⟩ := h.ka
  have h1 := h.obj
  exact ⟨fun z => (by rw [z, h1] at n; cases n), fun z => (by rw [z, z1] at n; cases n), fun z => (by rw [z, z2] at n; cases n)⟩
theorem Gr.free (f : Gr b H H') {a : Addr} (n : H' a = none) (h1 : a ≠ b.dF) (h2 : a ≠ b.dA) : H a = none := by
  cases e : H a with
  | none => rfl
  | some o => rw [f a o h1 h2 e] at n; cases n
theorem Gr.to {a : Addr} {o : HO} (f : Gr b H H') (n : H a = none) : Gr b H (upd H' a o) := fun x q n1 n2 h => by
  rw [upd_ne (fun z => by rw [z, n] at h; cases h)]
  exact f x q n1 n2 h
/-- a list of ours that was new is written -/
theorem GAt.wr {H0 : Hp} {a : Addr} {o : HO} {xs : List V} (h0 : GAt K P w C b H0) (h : GAt K P w C b H) (n : H0 a = none) (e : H a = some (.lst xs)) : GAt K P w C b (upd H a o) := by
  obtain ⟨n1, n2, n3⟩ := h0.nea n
  obtain ⟨c, h1, h2⟩ := h.fair
  obtain ⟨d, h3, h4⟩ := h.alike
  obtain ⟨us, h5, h6⟩ := h.rels
  have k : Tk K H (upd H a o) := tk_lst e o
  have nR : b.lR ≠ a := by
    obtain ⟨vs, h7, _⟩ := h0.rels
    intro z
    rw [z, n] at h7
    cases h7
  refine ⟨by rw [upd_ne n1.symm]; exact h.obj, k _ _ h.many, ⟨us, by rw [upd_ne nR]; exact h5, h6.imp fun u t q => ?_⟩, ⟨c, NdAt.tk h1 k (by rw [upd_ne n2.symm]; exact h1.1), h2⟩, ⟨d, NdAt.tk h3 k (by rw [upd_ne n3.symm]; exact h3.1), h4⟩, h.ne, h.m4, h.n4, h.few⟩
  obtain ⟨x, d1, d2, e', q1, q2, ⟨q3, q4, ents, q5, q6⟩, ⟨q7, q8, ents', q9, q10⟩⟩ := q
  have ne1 : d1 ≠ a := fun z => by
    have := q5.1
    rw [z, e] at this
    cases this
  have ne2 : d2 ≠ a := fun z => by
    have := q9.1
    rw [z, e] at this
    cases this
  exact ⟨x, d1, d2, e', k _ _ q1, q2, ⟨q3, q4, ents, NdAt.tk q5 k (by rw [upd_ne ne1]; exact q5.1), q6⟩, ⟨q7, q8, ents', NdAt.tk q9 k (by rw [upd_ne ne2]; exact q9.1), q10⟩⟩
end
/-! ### the promises -/
def TuAt (K : PySem.W.Frag) (H : Hp) (u : V) (r : List V) : Prop := ∃ a : Addr, u = .ref a ∧ SqT K H a r
theorem TuAt.tk {K : PySem.W.Frag} {H H' : Hp} {u : V} {r : List V} (k : Tk K H H') (h : TuAt K H u r) : TuAt K H' u r := let ⟨a, e, h1⟩ := h; ⟨a, e, k _ _ h1⟩
def tupsOf {α : Type} (xs : List α) : Nat → List (List α)
  | 0 => [[]]
  | k + 1 => (tupsOf xs k).flatMap fun r => xs.map fun x => r ++ [x]
theorem tups_len {α : Type} (xs : List α) : ∀ k, (tupsOf xs k).length = xs.length ^ k
  | 0 => rfl
  | k + 1 => by
    have e : ∀ l : List (List α), (l.flatMap fun r => xs.map fun x => r ++ [x]).length = l.length * xs.length := by
      intro l
      induction l with
      | nil => simp
      | cons r l ih => rw [List.flatMap_cons, List.length_append, ih, List.length_map, List.length_cons, Nat.succ_mul]; omega
    rw [tupsOf, e, tups_len xs k, Nat.pow_succ]
theorem mem_tups {α : Type} {xs : List α} : ∀ {k : Nat} {r : List α}, r ∈ tupsOf xs k ↔ r.length = k ∧ ∀ x ∈ r, x ∈ xs
  | 0, r => by
    rw [tupsOf, List.mem_singleton]
    constructor
    · rintro rfl; exact ⟨rfl, fun x h => nomatch h⟩
    · rintro ⟨h, _⟩; exact List.length_eq_zero_iff.mp h
  | k + 1, r => by
    rw [tupsOf, List.mem_flatMap]
    constructor
    · rintro ⟨q, hq, hr⟩
      obtain ⟨x, hx, rfl⟩ := List.mem_map.mp hr
      obtain ⟨h1, h2⟩ := mem_tups.mp hq
      refine ⟨by rw [List.length_append, List.length_singleton, h1], fun y hy => ?_⟩
      rcases List.mem_append.mp hy with e | e
      · exact h2 y e
      · rw [List.mem_singleton.mp e]; exact hx
    · rintro ⟨h1, h2⟩
      have ne : r ≠ [] := fun z => by rw [z] at h1; cases h1
      refine ⟨r.dropLast, mem_tups.mpr ⟨by rw [List.length_dropLast]; omega, fun x hx => h2 x ((List.dropLast_sublist r).subset hx)⟩, ?_⟩
      exact List.mem_map.mpr ⟨_, h2 _ (List.getLast_mem ne), List.dropLast_concat_getLast ne⟩
def spRowsOf (K : PySem.W.Frag) : Sp := fun vs H Q _ => ∃ (th : Addr) (us : List V) (k : Nat), vs = [.ref th, .int (k : Int)] ∧ (SqT K H th us ∨ SqL K H th us) ∧ k ≤ 64 ∧ (∀ j, j ≤ k → us.length ^ j ≤ 4096) ∧ us.length ≤ 4096 ∧
  ∀ (l : Addr) (ws : List V) (H' : Hp), Same H H' → H l = none → H' l = some (.lst ws) → All2 (TuAt K H') ws (tupsOf us k) → Q (.ref l) H'
def spMet (K : PySem.W.Frag) : Sp := fun vs H Q _ => ∃ (v u : V) (m n : Nat) (ps : List Pr) (p : Pr), vs = [v, u] ∧ MtAt K H v ps ∧ RowAt K H u (pr p) ∧ Meet m n ps ∧ m ≤ 4 ∧ n ≤ 4 ∧ Gm.El m p.1 ∧ Gm.El n p.2 ∧
  ∀ (r : V) (qs : List Pr) (H' : Hp), Same H H' → MtAt K H' r qs → Meet m n qs → (∀ x, x ∈ qs ↔ x ∈ p :: ps) → qs.length ≤ ps.length + 1 → Q r H'
def spMeeting (K : PySem.W.Frag) : Sp := fun vs H Q _ => ∃ (v u : V) (m n : Nat) (xs ys : List Int), vs = [v, u] ∧ RowAt K H v xs ∧ RowAt K H u ys ∧ xs.length = ys.length ∧ xs.length ≤ 8 ∧ m ≤ 4 ∧ n ≤ 4 ∧ (∀ x ∈ xs, Gm.El m x) ∧ (∀ y ∈ ys, Gm.El n y) ∧
  ∀ (r : V) (qs : List Pr) (H' : Hp), Same H H' → MtAt K H' r qs → Meet m n qs → (∀ x, x ∈ qs ↔ x ∈ xs.zip ys) → qs.length ≤ xs.length → Q r H'
def OneOne (ps : List Pr) : Prop := ∀ p ∈ ps, ∀ q ∈ ps, (p.1 = q.1 ↔ p.2 = q.2)
def spOne (K : PySem.W.Frag) : Sp := fun vs H Q _ => ∃ (v : V) (m n : Nat) (ps : List Pr), vs = [v] ∧ MtAt K H v ps ∧ Meet m n ps ∧ m ≤ 4 ∧ n ≤ 4 ∧ ∀ (r : Bool) (H' : Hp), Same H H' → (r = true ↔ OneOne ps) → Q (.bl r) H'
def RelsFit (R : Gm.Rels) (ps : List Pr) : Prop := ∀ t ∈ R, ∀ c : List Pr, c.length = t.1 → (∀ p ∈ c, p ∈ ps) → (c.map (·.1) ∈ t.2.1 ↔ c.map (·.2) ∈ t.2.2)
theorem fair_two {R : Gm.Rels} {ps : List Pr} : Gm.Fair R ps ↔ OneOne ps ∧ RelsFit R ps := Iff.rfl
def spKeeps (K : PySem.W.Frag) (P : Program) (w : World) (C : Addr) : Sp := fun vs H Q _ => ∃ (b : Gs) (v : V) (ps : List Pr), vs = [.ref b.g, v] ∧ GAt K P w C b H ∧ MtAt K H v ps ∧ Meet b.m b.n ps ∧ ∀ (r : Bool) (H' : Hp), Same H H' → (r = true ↔ RelsFit b.rt ps) → Q (.bl r) H'
/-- all but what is known to be fair is as it was -/
def Gf (b : Gs) (H H' : Hp) : Prop := ∀ a o, a ≠ b.dF → H a = some o → H' a = some o
theorem Gf.gr {b : Gs} {H H' : Hp} (h : Gf b H H') : Gr b H H' := fun a o n _ e => h a o n e
theorem Gf.of_same {b : Gs} {H H' : Hp} (x : Same H H') : Gf b H H' := fun a o _ h => x a o h
theorem Gf.trans {b : Gs} {H H1 H2 : Hp} (x : Gf b H H1) (y : Gf b H1 H2) : Gf b H H2 := fun a o n1 h => y a o n1 (x a o n1 h)
def spFair (K : PySem.W.Frag) (P : Program) (w : World) (C : Addr) : Sp := fun vs H Q _ => ∃ (b : Gs) (v : V) (ps : List Pr), vs = [.ref b.g, v] ∧ GAt K P w C b H ∧ MtAt K H v ps ∧ Meet b.m b.n ps ∧ ∀ (r : Bool) (H' : Hp), Gf b H H' → GAt K P w C b H' → (r = true ↔ Gm.Fair b.rt ps) → Q (.bl r) H'
/-- c is what is known to be alike -/
def GAk (K : PySem.W.Frag) (P : Program) (w : World) (C : Addr) (b : Gs) (c : List (Nk × Addr × V)) (H : Hp) : Prop := GAt K P w C b H ∧ NdAt K P w H b.dA c ∧ AOk b c
/-- nothing came to be known of more rounds than k -/
def Kp (k : Nat) (c c' : List (Nk × Addr × V)) : Prop := ∀ qs l, k < l → ndV c (kpr qs l) = none → ndV c' (kpr qs l) = none
theorem Kp.refl (k : Nat) (c : List (Nk × Addr × V)) : Kp k c c := fun _ _ _ h => h
theorem Kp.trans {k : Nat} {c d e : List (Nk × Addr × V)} (x : Kp k c d) (y : Kp k d e) : Kp k c e := fun q l z h => y q l z (x q l z h)
def spAlike (K : PySem.W.Frag) (P : Program) (w : World) (C : Addr) (N : Nat) : Sp := fun vs H Q _ => ∃ (b : Gs) (c : List (Nk × Addr × V)) (v : V) (ps : List Pr) (k : Nat), vs = [.ref b.g, v, .int (k : Int)] ∧ GAk K P w C b c H ∧ MtAt K H v ps ∧ Meet b.m b.n ps ∧ k < N ∧ k ≤ 8 ∧
  ∀ (r : Bool) (c' : List (Nk × Addr × V)) (H' : Hp), Gr b H H' → GAk K P w C b c' H' → Kp k c c' → (r = true ↔ Gm.Alike b.rt b.m b.n k ps) → Q (.bl r) H'
/-- the pairs that a pick may become, in their order -/
def answers (b : Gs) (side : Nat) (x : Int) : List Pr := if side = 0 then (els b.n).map fun y => (x, y) else (els b.m).map fun y => (y, x)
def picks (b : Gs) : List (Nat × Int) := ((els b.m).map fun x => (0, x)) ++ (els b.n).map fun x => (1, x)
def SidOk (b : Gs) (side : Nat) (x : Int) : Prop := (side = 0 ∧ Gm.El b.m x) ∨ (side = 1 ∧ Gm.El b.n x)
def spPicks (K : PySem.W.Frag) (P : Program) (w : World) (C : Addr) : Sp := fun vs H Q _ => ∃ (b : Gs), vs = [.ref b.g] ∧ GAt K P w C b H ∧
  ∀ (l : Addr) (ws : List V) (H' : Hp), Same H H' → H l = none → H' l = some (.lst ws) → All2 (fun u p => TuAt K H' u [.int (p.1 : Int), .int p.2]) ws (picks b) → Q (.ref l) H'
def spReplies (K : PySem.W.Frag) (P : Program) (w : World) (C : Addr) : Sp := fun vs H Q _ => ∃ (b : Gs) (side : Nat) (x : Int), vs = [.ref b.g, .int (side : Int), .int x] ∧ GAt K P w C b H ∧ SidOk b side x ∧
  ∀ (l : Addr) (ws : List V) (H' : Hp), Same H H' → H l = none → H' l = some (.lst ws) → All2 (fun u p => RowAt K H' u (pr p)) ws (answers b side x) → Q (.ref l) H'
def spReply (K : PySem.W.Frag) (P : Program) (w : World) (C : Addr) (N : Nat) : Sp := fun vs H Q _ => ∃ (b : Gs) (c : List (Nk × Addr × V)) (v : V) (ps : List Pr) (side : Nat) (x : Int) (k : Nat), vs = [.ref b.g, v, .int (side : Int), .int x, .int (k : Int)] ∧ GAk K P w C b c H ∧ MtAt K H v ps ∧ Meet b.m b.n ps ∧ SidOk b side x ∧ k < N ∧ k ≤ 8 ∧
  ∀ (r : V) (c' : List (Nk × Addr × V)) (H' : Hp), Gr b H H' → GAk K P w C b c' H' → Kp k c c' → ((r = .non ∧ ∀ p ∈ answers b side x, ¬ Gm.Alike b.rt b.m b.n k (p :: ps)) ∨ (∃ p, RowAt K H' r (pr p) ∧ p ∈ answers b side x ∧ Gm.Alike b.rt b.m b.n k (p :: ps))) → Q r H'
def spLeast (K : PySem.W.Frag) (P : Program) (w : World) (C : Addr) : Sp := fun vs H Q _ => ∃ (b : Gs) (v : V) (ps : List Pr), vs = [.ref b.g, v] ∧ GAt K P w C b H ∧ MtAt K H v ps ∧ Meet b.m b.n ps ∧
  ∀ (r : V) (H' : Hp), Gr b H H' → GAt K P w C b H' → ((r = .non ∧ ∀ k, Gm.Alike b.rt b.m b.n k ps) ∨ (∃ k : Nat, r = .int (k : Int) ∧ k ≤ 5 ∧ ¬ Gm.Alike b.rt b.m b.n k ps ∧ ∀ j, j < k → Gm.Alike b.rt b.m b.n j ps)) → Q r H'
def spGInit (K : PySem.W.Frag) (P : Program) (w : World) (C : Addr) : Sp := fun vs H Q _ => ∃ (ks : List (Str × Nat)) (g dx : Addr) (sv ov : V) (m n : Nat) (rels rels' : List Rl), vs = [.ref g, sv, ov] ∧ H g = some (.ins C dx []) ∧ StrAt K H sv m rels ∧ StrAt K H ov n rels' ∧ All2 (Fits m) rels ks ∧ All2 (Fits n) rels' ks ∧ ks ∈ Kd ∧ m ≤ 4 ∧ n ≤ 4 ∧
  ∀ (b : Gs) (H' : Hp), b.g = g → b.m = m → b.n = n → b.rt = Rs rels rels' → b.sv = sv → b.ov = ov → But g H H' → H b.dF = none → H b.dA = none → GAt K P w C b H' → Q .non H'
end Lb
namespace Lb
open PySem L2 Fo Ndk
theorem pg_tup_k {X : Cx} {K : PySem.W.Frag} (hK : X.K = K) {es : List Expr} {k : Nat} {t : TGs} {n : Nat} {pos : Pos} (hc : X.calm = true) (h : PGs X es t)
    (hn : (assignEach es X.env).length = n := by rfl) (hst : (assignEach es X.env).findIdx? (·.1) = none := by rfl) : PG X (.Tuple es k pos) (gTup K n t) := by
  subst hK
  exact pg_tup hc h hn hst
theorem hu64 {k : Nat} {A : Around} (h : Room k A) : A.units + 64 < cLine := by
  have := hu65 h
  omega
/-- over whatever walks -/
theorem over_it {J : It} {n : Nat} {G : Hp → Prop} {Y : Nat → Hp → V → Hp → Prop} (wk : Walk J n G Y) {H0 : Hp} {Qd : Hp → Prop} {step : V → Hp → (Hp → Prop) → Prop} (Pv : Nat → Hp → Prop) (h0 : Pv 0 H0) (hl : ∀ i H, i ≤ n → Pv i H → G H)
    (hs : ∀ i x H H', i < n → Pv i H → Y i H x H' → step x H' (Pv (i + 1))) (hd : ∀ H, Pv n H → Qd H) :
    ∃ W : Nat → Nat → Hp → Prop, (∃ m, W 0 m H0) ∧ ∀ i m H, W i m H → (J.stop i H ∧ Qd H) ∨ (J.go i H ∧ ∃ Nx : Hp → Prop, (∀ H', Nx H' → ∃ m', m' < m ∧ W (i + 1) m' H') ∧ ∀ x H', J.yld i H x H' → step x H' Nx) := by
  refine ⟨fun i m H => m = n - i ∧ i ≤ n ∧ Pv i H, ⟨_, rfl, Nat.zero_le _, h0⟩, ?_⟩
  rintro i m H ⟨rfl, hi, p⟩
  rcases Nat.lt_or_ge i n with lt | ge
  · exact .inr ⟨wk.goes i H lt (hl i H hi p), Pv (i + 1), fun H' p' => ⟨_, by omega, rfl, lt, p'⟩, fun x H' y => hs i x H H' lt p (wk.yields i H x H' lt (hl i H hi p) y)⟩
  · obtain rfl : i = n := by omega
    exact .inl ⟨wk.stops H (hl _ H hi p), hd H p⟩
theorem flat_snoc {α : Type} (xs : List α) (rs : List (List α)) (r : List α) : (rs ++ [r]).flatMap (fun r => xs.map fun x => r ++ [x]) = (rs.flatMap fun r => xs.map fun x => r ++ [x]) ++ xs.map fun x => r ++ [x] := by
  rw [List.flatMap_append]; simp
theorem flat_lenA {α : Type} (xs : List α) : ∀ l : List (List α), (l.flatMap fun r => xs.map fun x => r ++ [x]).length = l.length * xs.length
  | [] => by simp
  | r :: l => by rw [List.flatMap_cons, List.length_append, flat_lenA xs l, List.length_map, List.length_cons, Nat.succ_mul]; omega
/-- rows as their addresses -/
theorem rows_ks {K : PySem.W.Frag} {H : Hp} : ∀ {us : List V} {rs : List (List Int)}, All2 (RowAt K H) us rs → ∃ ks : List (Addr × List Int), us = ks.map (fun p => V.ref p.1) ∧ rs = ks.map (·.2) ∧ ∀ p ∈ ks, SqT K H p.1 (p.2.map V.int)
  | _, _, .nil => ⟨[], rfl, rfl, fun p h => nomatch h⟩
  | _, _, .cons (b := r) h t => by
    obtain ⟨ks, e1, e2, h3⟩ := rows_ks t
    obtain ⟨a, rfl, ha⟩ := h
    refine ⟨(a, r) :: ks, by rw [e1]; rfl, by rw [e2]; rfl, fun p hp => ?_⟩
    rcases List.mem_cons.mp hp with e | e
    · rw [e]; exact ha
    · exact h3 p e
/-- sorted of a set of pairs -/
theorem meet_of {m n : Nat} {K : PySem.W.Frag} {H : Hp} {L : List (Addr × List Int)} {cs : List Pr} (hm : m ≤ 4) (hn : n ≤ 4) (hin : ∀ p ∈ cs, Gm.El m p.1 ∧ Gm.El n p.2) (h1 : ∀ p ∈ L, SqT K H p.1 (p.2.map V.int)) (h2 : ∀ p ∈ L, ∃ c ∈ cs, p.2 = pr c) (h3 : ∀ c ∈ cs, pr c ∈ L.map (·.2)) (nd : (L.map (·.2)).Nodup)
    (pw : L.Pairwise fun q r => TS.code 64 q.2 ≤ TS.code 64 r.2) : ∃ qs : List Pr, All2 (RowAt K H) (L.map fun q => V.ref q.1) (qs.map pr) ∧ Meet m n qs ∧ (∀ x, x ∈ qs ↔ x ∈ cs) ∧ qs.length = L.length := by
  have ex : ∀ L : List (Addr × List Int), (∀ p ∈ L, SqT K H p.1 (p.2.map V.int)) → (∀ p ∈ L, ∃ c ∈ cs, p.2 = pr c) → ∃ qs : List Pr, L.map (·.2) = qs.map pr ∧ All2 (RowAt K H) (L.map fun q => V.ref q.1) (qs.map pr) ∧ ∀ q ∈ qs, q ∈ cs := by
    intro L
    induction L with
    | nil => intro _ _; exact ⟨[], rfl, .nil, fun q h => nomatch h⟩
    | cons x L ih =>
      intro g1 g2
      obtain ⟨qs, e1, e2, e3⟩ := ih (fun p hp => g1 p (List.mem_cons_of_mem _ hp)) fun p hp => g2 p (List.mem_cons_of_mem _ hp)
      obtain ⟨c, hc, ec⟩ := g2 x List.mem_cons_self
      refine ⟨c :: qs, by rw [List.map_cons, List.map_cons, e1, ec], .cons ⟨x.1, rfl, by rw [← ec]; exact g1 x List.mem_cons_self⟩ e2, fun q hq => ?_⟩
      rcases List.mem_cons.mp hq with z | z
      · rw [z]; exact hc
      · exact e3 q z
  obtain ⟨qs, e1, e2, e3⟩ := ex L h1 h2
  refine ⟨qs, e2, ⟨fun p hp => hin p (e3 p hp), ?_⟩, fun x => ⟨e3 x, fun hx => ?_⟩, ?_⟩
  · have hle : (qs.map pr).Pairwise fun a b => cd a ≤ cd b := by
      rw [← e1, List.pairwise_map]
      exact pw
    have hnd : (qs.map pr).Nodup := by rw [← e1]; exact nd
    rw [List.pairwise_map] at hle
    have hnd' : qs.Pairwise fun a b => pr a ≠ pr b := List.pairwise_map.mp hnd
    refine List.Pairwise.imp_of_mem (fun {a b} ha hb h => ?_) (List.Pairwise.and hle hnd')
    rcases Int.lt_or_eq_of_le h.1 with c | c
    · exact c
    · obtain ⟨a1, a2⟩ := hin a (e3 a ha)
      obtain ⟨b1, b2⟩ := hin b (e3 b hb)
      have bd : ∀ p : Pr, Gm.El m p.1 → Gm.El n p.2 → TS.Bd 64 (pr p) := fun p h1 h2 x hx => by
        unfold pr at hx
        have h1' := h1.1
        have h1'' := h1.2
        have h2' := h2.1
        have h2'' := h2.2
        rcases List.mem_cons.mp hx with e | e
        · rw [e]; omega
        · rw [List.mem_singleton.mp e]; omega
      exact absurd (cd_inj (r := pr a) (s := pr b) rfl (bd a a1 a2) (bd b b1 b2) c) h.2
  · have := h3 x hx
    rw [e1] at this
    obtain ⟨y, hy, e⟩ := List.mem_map.mp this
    rw [← pr_inj e]
    exact hy
  · have := congrArg List.length e1
    rw [List.length_map, List.length_map] at this
    exact this.symm
end Lb
namespace Lb
open PySem L2 Fo
/-- how many unlike numbers stand ahead of a place -/
def dn (fs : List Int) : Nat → Nat
  | 0 => 0
  | i + 1 => if fs.getD i 0 ∈ fs.take i then dn fs i else dn fs i + 1
theorem dn_le (fs : List Int) : ∀ i, dn fs i ≤ i
  | 0 => Nat.le_refl _
  | i + 1 => by
    have := dn_le fs i
    rw [dn]
    split <;> omega
theorem take_next {fs : List Int} {i : Nat} (h : i < fs.length) : fs.take (i + 1) = fs.take i ++ [fs.getD i 0] := by
  rw [List.take_succ, List.getElem?_eq_getElem h, List.getD_eq_getElem?_getD, List.getElem?_eq_getElem h]
  rfl
theorem dn_iff {fs : List Int} : ∀ {i}, i ≤ fs.length → (dn fs i = i ↔ (fs.take i).Nodup)
  | 0, _ => by rw [List.take_zero]; exact ⟨fun _ => List.nodup_nil, fun _ => rfl⟩
  | i + 1, h => by
    have ih := dn_iff (fs := fs) (i := i) (by omega)
    have le := dn_le fs i
    rw [dn, take_next (by omega), List.nodup_append]
    by_cases e : fs.getD i 0 ∈ fs.take i
    · rw [if_pos e]
      exact ⟨fun z => by omega, fun ⟨_, _, z⟩ => absurd rfl (z _ e _ List.mem_cons_self)⟩
    · rw [if_neg e]
      refine ⟨fun z => ⟨ih.mp (by omega), by simp, fun a ha b hb => ?_⟩, fun ⟨z, _, _⟩ => by have := ih.mpr z; omega⟩
      rw [List.mem_singleton.mp hb]
      rintro rfl
      exact e ha
theorem inj_nodup {α β : Type} {f : α → β} : ∀ {l : List α}, (l.map f).Nodup → ∀ {a b : α}, a ∈ l → b ∈ l → f a = f b → a = b
  | x :: l, n, a, b, ha, hb, e => by
    rw [List.map_cons, List.nodup_cons] at n
    rcases List.mem_cons.mp ha with h1 | h1 <;> rcases List.mem_cons.mp hb with h2 | h2
    · rw [h1, h2]
    · exact absurd (List.mem_map.mpr ⟨b, h2, by rw [← e, h1]⟩) n.1
    · exact absurd (List.mem_map.mpr ⟨a, h1, by rw [e, h2]⟩) n.1
    · exact inj_nodup n.2 h1 h2 e
theorem one_iff {ps : List Pr} (nd : ps.Nodup) : OneOne ps ↔ (ps.map (·.1)).Nodup ∧ (ps.map (·.2)).Nodup := by
  constructor
  · intro h
    exact ⟨nodup_map_on (fun a ha b hb e => Prod.ext e ((h a ha b hb).mp e)) nd, nodup_map_on (fun a ha b hb e => Prod.ext ((h a ha b hb).mpr e) e) nd⟩
  · rintro ⟨h1, h2⟩ p hp q hq
    exact ⟨fun e => by rw [inj_nodup h1 hp hq e], fun e => by rw [inj_nodup h2 hp hq e]⟩
theorem set_next {fs : List Int} {i : Nat} (h : i < fs.length) : (fun j => decide (j ∈ fs.take i) || decide (j = fs.getD i 0)) = fun j => decide (j ∈ fs.take (i + 1)) := by
  funext j
  rw [take_next h]
  by_cases a : j ∈ fs.take i <;> by_cases b : j = fs.getD i 0 <;> simp [a, b]
end Lb
namespace Lb
open PySem L2 Fo
theorem a2_of {α β : Type} {R : α → β → Prop} : ∀ {as : List α} {bs : List β}, as.length = bs.length → (∀ (i : Nat) a b, as[i]? = some a → bs[i]? = some b → R a b) → All2 R as bs
  | [], [], _, _ => .nil
  | [], _ :: _, h, _ => by cases h
  | _ :: _, [], h, _ => by cases h
  | a :: as, b :: bs, h, k => .cons (k 0 a b rfl rfl) (a2_of (Nat.succ.inj h) fun i x y hx hy => k (i + 1) x y hx hy)
end Lb

set_option Elab.async false
set_option linter.all false
set_option maxRecDepth 100000
set_option maxHeartbeats 4000000
/-! range(n) as a value, walked later -/
namespace Rg
open PySem PySem.Spec PyProof.Rows L2
section
variable {X : Cx} {tg : Expr}
def rRg1 : List V → Hp → VK → Prop := fun vs H Q => ∃ j : Int, vs = [V.int j] ∧ ∀ p, H p = none → Q (.ref p) (upd H p (.rng 0 j))
theorem cr_range1 : CallR X (.type "range") rRg1 := by
  intro pins s σ H vs us Q I r h
  obtain ⟨j, rfl, q⟩ := h
  obtain ⟨u, rfl, t, rfl⟩ := vals1 r
  refine call_range_1 ⟨.ref s.heap.objs.size, upd H s.heap.objs.size (.rng 0 j), I.laid (t' := s.toks + 2) (fun b o e => Heap.get?_push_of_some _ e) (Nat.le_refl _) ?_, rfl, q _ (I.hok.fresh (Nat.le_refl _))⟩
  exact ⟨_, _, _, Heap.get?_push_size _ rfl⟩
def iRg (tl : TE) : TI := fun σ H R => tl σ H fun x H1 => ∃ (a : Addr) (lo hi : Int), x = .ref a ∧ H1 a = some (.rng lo hi) ∧ (-(2 ^ 62) ≤ lo ∧ lo < 2 ^ 62 ∧ -(2 ^ 62) ≤ hi ∧ hi < 2 ^ 62) ∧ R (Itr lo (hi - lo).toNat) H1
theorem pi_rg {l : Expr} {tl : TE} (hl : PE X l tl) : PI X tg l (iRg tl) := by
  refine ⟨fun pins s σ H R I h => ?_⟩
  refine thn (hl.run pins s σ H _ I h) fun v s1 ⟨x, H1, I1, r1, q1⟩ => ?_
  obtain ⟨a, lo, hi, e, ha, ⟨h1, h2, h3, h4⟩, q⟩ := q1
  subst e
  cases r1
  obtain ⟨t, u, v, ho⟩ := I1.hok a _ ha
  refine wpAny_pyIter_range (a := lo) (b := hi) (c := 1) (t := t) (u := u) (v := v) ho (small_one h1 h2 h3 h4) ?_
  refine ⟨s1.heap.objs.size, [s1.heap.objs.size], _, _, H1, rfl, I1.kept (t' := s1.toks) fun b o e => Heap.get?_push_of_some _ e, turn_range _ lo (hi - lo).toNat, ?_, fun b hb => ?_, q⟩
  · have e1 : lo + ((0 : Nat) : Int) * 1 = lo := by simp
    have e2 : (((hi - lo).toNat : Nat) : Int) - ((0 : Nat) : Int) = Builtin.Range.rangeSize lo hi 1 := by rw [rangeSize_one]; split <;> omega
    show IsRangeIter _ _ (lo + ((0 : Nat) : Int) * 1) ((((hi - lo).toNat : Nat) : Int) - ((0 : Nat) : Int)) 1
    rw [e1, e2]
    exact Heap.get?_push_size _ rfl
  · have e : b = s1.heap.objs.size := by simpa using hb
    subst e
    exact I1.fpOk (Nat.le_refl _) (I1.hok.fresh (Nat.le_refl _))
end
end Rg

set_option Elab.async false
set_option linter.all false
set_option maxRecDepth 100000
set_option maxHeartbeats 4000000
/-! what is known grows -/
namespace Lb
open PySem L2 Fo Ndk
section
variable {P : Program} {w : World} {K : PySem.W.Frag} {C : Addr} {b : Gs} {H H' : Hp}
theorem FOk.few {c : List (Nk × Addr × V)} (h : FOk b c) (m4 : b.m ≤ 4) (n4 : b.n ≤ 4) : c.length ≤ 65536 := by
  have := keys_few (ks := c.map (·.1)) m4 n4 h.1 fun k hk => by
    obtain ⟨x, hx, rfl⟩ := List.mem_map.mp hk
    obtain ⟨ps, r, h1, h2, _⟩ := h.2 x hx
    exact ⟨ps, h1, h2⟩
  rwa [List.length_map] at this
theorem AOk.few {c : List (Nk × Addr × V)} (h : AOk b c) (m4 : b.m ≤ 4) (n4 : b.n ≤ 4) : c.length ≤ 9 * 65536 := by
  have := keys2_few (ks := c.map (·.1)) m4 n4 h.1 fun k hk => by
    obtain ⟨x, hx, rfl⟩ := List.mem_map.mp hk
    obtain ⟨ps, k, r, h1, h2, h3, _⟩ := h.2 x hx
    exact ⟨ps, k, h1, h2, h3⟩
  rwa [List.length_map] at this
theorem big_line {n : Nat} (h : n ≤ 9 * 65536) : n < sizeLine := Nat.lt_of_le_of_lt h (by decide)
theorem FOk.val {c : List (Nk × Addr × V)} (h : FOk b c) {ps : List Pr} {v : V} (hv : ndV c (kps ps) = some v) : ∃ r : Bool, v = .bl r ∧ (r = true ↔ Gm.Fair b.rt ps) := by
  obtain ⟨x, hx, e1, e2⟩ := ndV_in hv
  obtain ⟨qs, r, _, h2, h3, h4⟩ := h.2 x hx
  have := kps_inj (e1.symm.trans h2)
  exact ⟨r, by rw [← e2, h3], by rw [this]; exact h4⟩
theorem AOk.val {c : List (Nk × Addr × V)} (h : AOk b c) {ps : List Pr} {k : Nat} {v : V} (hv : ndV c (kpr ps k) = some v) : ∃ r : Bool, v = .bl r ∧ (r = true ↔ Gm.Alike b.rt b.m b.n k ps) := by
  obtain ⟨x, hx, e1, e2⟩ := ndV_in hv
  obtain ⟨qs, l, r, _, _, h2, h3, h4⟩ := h.2 x hx
  obtain ⟨e3, e4⟩ := kpr_inj (e1.symm.trans h2)
  exact ⟨r, by rw [← e2, h3], by rw [e3, e4]; exact h4⟩
theorem GAt.putF (h : GAt K P w C b H) {c : List (Nk × Addr × V)} (hN : NdAt K P w H b.dF c) (hK : FOk b c) {ps : List Pr} {r : Bool} {a : Addr} (hps : Meet b.m b.n ps) (key : NkAt K H (kps ps) (.ref a)) (none : ndV c (kps ps) = none) (hr : r = true ↔ Gm.Fair b.rt ps) :
    Gf b H (upd H b.dF (NdO P w b.dF (c ++ [(kps ps, a, .bl r)]))) ∧ GAt K P w C b (upd H b.dF (NdO P w b.dF (c ++ [(kps ps, a, .bl r)]))) ∧ NdAt K P w (upd H b.dF (NdO P w b.dF (c ++ [(kps ps, a, .bl r)]))) b.dF (c ++ [(kps ps, a, .bl r)]) ∧ NkAt K (upd H b.dF (NdO P w b.dF (c ++ [(kps ps, a, .bl r)]))) (kps ps) (.ref a) := by
  have f : Gf b H (upd H b.dF (NdO P w b.dF (c ++ [(kps ps, a, .bl r)]))) := fun x o n1 h => by rw [upd_ne n1]; exact h
  have k := h.tk f.gr
  have hN3 : NdAt K P w (upd H b.dF (NdO P w b.dF (c ++ [(kps ps, a, .bl r)]))) b.dF (c ++ [(kps ps, a, .bl r)]) := by
    refine ⟨upd_same, fun e he => ?_⟩
    rcases List.mem_append.mp he with z | z
    · exact ⟨(hN.2 e z).1, NkAt.tk k (hN.2 e z).2⟩
    · rw [List.mem_singleton.mp z]
      exact ⟨Nat.le_trans (kps_dep ps) (by decide), NkAt.tk k key⟩
  have hK3 : FOk b (c ++ [(kps ps, a, .bl r)]) := ⟨nd_snoc hK.1 none, fun e he => by
    rcases List.mem_append.mp he with z | z
    · exact hK.2 e z
    · rw [List.mem_singleton.mp z]
      exact ⟨ps, r, hps, rfl, rfl, hr⟩⟩
  obtain ⟨d, h3, h4⟩ := h.alike
  exact ⟨f, h.put f.gr ⟨_, hN3, hK3⟩ ⟨d, NdAt.tk h3 k (by rw [upd_ne h.ne.symm]; exact h3.1), h4⟩, hN3, NkAt.tk k key⟩
theorem GAt.putA (h : GAt K P w C b H) {c : List (Nk × Addr × V)} (hN : NdAt K P w H b.dA c) (hK : AOk b c) {ps : List Pr} {k : Nat} {r : Bool} {a : Addr} (hps : Meet b.m b.n ps) (hk8 : k ≤ 8) (key : NkAt K H (kpr ps k) (.ref a)) (none : ndV c (kpr ps k) = none) (hr : r = true ↔ Gm.Alike b.rt b.m b.n k ps) :
    Gr b H (upd H b.dA (NdO P w b.dA (c ++ [(kpr ps k, a, .bl r)]))) ∧ GAt K P w C b (upd H b.dA (NdO P w b.dA (c ++ [(kpr ps k, a, .bl r)]))) ∧ NdAt K P w (upd H b.dA (NdO P w b.dA (c ++ [(kpr ps k, a, .bl r)]))) b.dA (c ++ [(kpr ps k, a, .bl r)]) ∧ NkAt K (upd H b.dA (NdO P w b.dA (c ++ [(kpr ps k, a, .bl r)]))) (kpr ps k) (.ref a) := by
  have f : Gr b H (upd H b.dA (NdO P w b.dA (c ++ [(kpr ps k, a, .bl r)]))) := fun x o _ n1 h => by rw [upd_ne n1]; exact h
  have t := h.tk f
  have hN3 : NdAt K P w (upd H b.dA (NdO P w b.dA (c ++ [(kpr ps k, a, .bl r)]))) b.dA (c ++ [(kpr ps k, a, .bl r)]) := by
    refine ⟨upd_same, fun e he => ?_⟩
    rcases List.mem_append.mp he with z | z
    · exact ⟨(hN.2 e z).1, NkAt.tk t (hN.2 e z).2⟩
    · rw [List.mem_singleton.mp z]
      exact ⟨kpr_dep ps k, NkAt.tk t key⟩
  have hK3 : AOk b (c ++ [(kpr ps k, a, .bl r)]) := ⟨nd_snoc hK.1 none, fun e he => by
    rcases List.mem_append.mp he with z | z
    · exact hK.2 e z
    · rw [List.mem_singleton.mp z]
      exact ⟨ps, k, r, hps, hk8, rfl, rfl, hr⟩⟩
  obtain ⟨d, h3, h4⟩ := h.fair
  exact ⟨f, h.put f ⟨d, NdAt.tk h3 t (by rw [upd_ne h.ne]; exact h3.1), h4⟩ ⟨_, hN3, hK3⟩, hN3, NkAt.tk t key⟩
theorem GAk.same {c : List (Nk × Addr × V)} (h : GAk K P w C b c H) (s : Same H H') : GAk K P w C b c H' := ⟨h.1.same s, NdAt.tk h.2.1 (Tk.of_same s) (s _ _ h.2.1.1), h.2.2⟩
theorem GAk.fair {c : List (Nk × Addr × V)} (h : GAk K P w C b c H) (s : Gf b H H') (g : GAt K P w C b H') : GAk K P w C b c H' := ⟨g, NdAt.tk h.2.1 (h.1.tk s.gr) (s _ _ h.1.ne.symm h.2.1.1), h.2.2⟩
theorem GAk.wr {H0 : Hp} {a : Addr} {o : HO} {xs : List V} {c : List (Nk × Addr × V)} (h0 : GAt K P w C b H0) (h : GAk K P w C b c H) (n : H0 a = none) (e : H a = some (.lst xs)) : GAk K P w C b c (upd H a o) :=
  ⟨GAt.wr h0 h.1 n e, NdAt.tk h.2.1 (tk_lst e o) (by rw [upd_ne (h0.nea n).2.2.symm]; exact h.2.1.1), h.2.2⟩
theorem Kp.put {k : Nat} {c c' : List (Nk × Addr × V)} {ps : List Pr} {a : Addr} {v : V} (h : Kp k c c') (n : ndV c' (kpr ps k) = none) : Kp k c (c' ++ [(kpr ps k, a, v)]) := fun qs l hl e => by
  rw [ndV_snoc n, if_neg (fun z => by have := (kpr_inj z).2; omega)]
  exact h qs l hl e
theorem Kp.up {k l : Nat} {c c' : List (Nk × Addr × V)} (h : Kp k c c') (e : k ≤ l) : Kp l c c' := fun qs j hj z => h qs j (by omega) z
theorem gf_keeps (b : Gs) : (gfl b).lookup ("keeps" : Str) = none := gf_no b (by decide +kernel)
theorem gf_fairM (b : Gs) : (gfl b).lookup ("fair" : Str) = none := gf_no b (by decide +kernel)
theorem gf_picksM (b : Gs) : (gfl b).lookup ("picks" : Str) = none := gf_no b (by decide +kernel)
theorem gf_repliesM (b : Gs) : (gfl b).lookup ("replies" : Str) = none := gf_no b (by decide +kernel)
theorem gf_replyM (b : Gs) : (gfl b).lookup ("reply" : Str) = none := gf_no b (by decide +kernel)
theorem gf_alikeM (b : Gs) : (gfl b).lookup ("alike" : Str) = none := gf_no b (by decide +kernel)
theorem gf_leastM (b : Gs) : (gfl b).lookup ("least_rounds" : Str) = none := gf_no b (by decide +kernel)
theorem els_get {m i : Nat} (h : i < m) : (els m)[i]? = some (i : Int) := by
  unfold els
  rw [List.getElem?_map, List.getElem?_range h]
  rfl
end
end Lb

set_option Elab.async false
set_option linter.all false
set_option maxRecDepth 100000
set_option maxHeartbeats 4000000
/-! min of a tuple; zip of two tuples walked -/
namespace Lb
open PySem PySem.Spec PyProof.Rows L2 Fo
section
variable {X : Cx}
def rMinT (K : PySem.W.Frag) : List V → Hp → VK → Prop := fun vs H Q => ∃ (a : Addr) (n : Int) (ns : List Int), vs = [V.ref a] ∧ SqT K H a ((n :: ns).map V.int) ∧ Q (.int (ns.foldl min n)) H
theorem cr_minT (hc : X.calm = true) (hu : X.A.units + 64 < cLine) : CallR X (.builtin "min") (rMinT X.K) := by
  intro pins s σ H vs us Q I r h
  obtain ⟨a, n, ns, rfl, hs, q⟩ := h
  obtain ⟨its, rv, p, _⟩ := I.tuple hs
  rw [Vals.ref1 r]
  obtain ⟨as, hr⟩ := Dp.readsAll I ((n :: ns).map PyData.int) _ its (Da.dp_ints _) rv
  have hd := Da.dep_ints (n :: ns)
  refine PySem.W.min_tuple_data (I.ok.hd hc) p hr ⟨fun x hx y hy => ?_, fun x hx => ?_⟩ (by rw [← List.map_cons (f := PyData.int)]; omega) fun i v h' tk bs hi rd hk => ?_
  · rw [← List.map_cons (f := PyData.int)] at hx
    obtain ⟨x, _, rfl⟩ := List.mem_map.mp hx
    rw [← List.map_cons (f := PyData.int)] at hy
    obtain ⟨y, _, rfl⟩ := List.mem_map.mp hy
    rfl
  · rw [← List.map_cons (f := PyData.int)] at hx
    obtain ⟨x, _, rfl⟩ := List.mem_map.mp hx
    exact fun z => nomatch z
  · rw [PySem.W.minD_ints] at rd
    cases rd
    exact ⟨.int _, H, I.kept hk, ⟨_, rfl⟩, q⟩
end
theorem walk_zipT {K : PySem.W.Frag} {a b : Addr} {xs ys : List V} (e : xs.length = ys.length) : Walk (RZ.ItzT K a b) xs.length (fun H => SqT K H a xs ∧ SqT K H b ys) (YPair (fun i => xs[i]?) fun i => ys[i]?) where
  goes := fun i H hi q => ⟨xs, ys, xs[i], ys[i]'(e ▸ hi), q.1, q.2, List.getElem?_eq_getElem hi, List.getElem?_eq_getElem (e ▸ hi)⟩
  stops := fun H q => ⟨xs, ys, q.1, q.2, .inl (Nat.le_refl _)⟩
  yields := fun i H v G _ q ⟨T, x, y, e1, e2, e3, f, g⟩ => ⟨T, x, y, e1, e2, e3, f xs q.1, g ys q.2⟩
section
variable {P : Program} {w : World} {K : PySem.W.Frag} {C : Addr} {b : Gs} {H H' : Hp}
open Ndk
theorem nd_none {ents : List (Nk × Addr × V)} {k : Nk} (h : k ∉ ents.map (·.1)) : ndV ents k = none := by
  cases e : ndV ents k with
  | none => rfl
  | some z =>
    obtain ⟨x, hx, e1, _⟩ := ndV_in e
    exact absurd (List.mem_map.mpr ⟨x, hx, e1⟩) h
theorem nd_some {ents : List (Nk × Addr × V)} {k : Nk} : (ndV ents k).isSome = true ↔ k ∈ ents.map (·.1) := by
  constructor
  · intro h
    obtain ⟨z, hz⟩ := Option.isSome_iff_exists.mp h
    obtain ⟨x, hx, e1, _⟩ := ndV_in hz
    exact List.mem_map.mpr ⟨x, hx, e1⟩
  · intro h
    cases e : ndV ents k with
    | none => exact absurd h (ndV_none e)
    | some z => rfl
def RowN (K : PySem.W.Frag) (P : Program) (w : World) (H : Hp) (d : Addr) (rows : List (List Int)) : Prop := ∃ ents, NdAt K P w H d ents ∧ ∀ r : List Int, (ndV ents (nkr r)).isSome = decide (r ∈ rows)
theorem rowN_of {d : Addr} {rows : List (List Int)} {ents : List (Nk × Addr × V)} (hN : NdAt K P w H d ents) (h : ents.map (·.1) = rows.map nkr) : RowN K P w H d rows := by
  refine ⟨ents, hN, fun r => ?_⟩
  rw [Bool.eq_iff_iff, nd_some, h, decide_eq_true_eq]
  constructor
  · intro z
    obtain ⟨x, hx, e⟩ := List.mem_map.mp z
    rw [← nkr_inj e]
    exact hx
  · intro z
    exact List.mem_map.mpr ⟨r, z, rfl⟩
theorem RowN.fr {d : Addr} {rows : List (List Int)} (h : RowN K P w H d rows) (k : Tk K H H') (f : ∀ a ents, H a = some (NdO P w a ents) → H' a = some (NdO P w a ents)) : RowN K P w H' d rows := by
  obtain ⟨ents, hn, he⟩ := h
  exact ⟨ents, NdAt.tk hn k (f _ _ hn.1), he⟩
theorem RowN.at {d : Addr} {rows : List (List Int)} (h : RowN K P w H d rows) (nF : H b.dF = none) (nA : H b.dA = none) : RowD K P w b H d rows := by
  obtain ⟨ents, hn, he⟩ := h
  exact ⟨fun z => (by rw [← z, hn.1] at nF; cases nF), fun z => (by rw [← z, hn.1] at nA; cases nA), ents, hn, he⟩
def GrN (K : PySem.W.Frag) (P : Program) (w : World) (H : Hp) (u : V) (t : Nat × List (List Int) × List (List Int)) : Prop := ∃ (a d1 d2 : Addr), u = .ref a ∧ SqT K H a [.int (t.1 : Int), .ref d1, .ref d2] ∧ t.1 ≤ 2 ∧ RowN K P w H d1 t.2.1 ∧ RowN K P w H d2 t.2.2
theorem GrN.fr {u : V} {t : Nat × List (List Int) × List (List Int)} (h : GrN K P w H u t) (k : Tk K H H') (f : ∀ a ents, H a = some (NdO P w a ents) → H' a = some (NdO P w a ents)) : GrN K P w H' u t := by
  obtain ⟨a, d1, d2, e, h1, h2, h3, h4⟩ := h
  exact ⟨a, d1, d2, e, k _ _ h1, h2, h3.fr k f, h4.fr k f⟩
theorem GrN.at {u : V} {t : Nat × List (List Int) × List (List Int)} (h : GrN K P w H u t) (nF : H b.dF = none) (nA : H b.dA = none) : GrAt K P w b H u t := by
  obtain ⟨a, d1, d2, e, h1, h2, h3, h4⟩ := h
  exact ⟨a, d1, d2, e, h1, h2, h3.at nF nA, h4.at nF nA⟩
theorem tk_but {r : Addr} {dx : Addr} {fs : List (Str × V)} (x : But r H H') (y : H r = some (.ins C dx fs)) : Tk K H H' := fun a xs h => by
  rcases h with (h | ⟨o, h⟩) | h
  · exact .inl (.inl (x a _ (fun z => by rw [z, y] at h; cases h) h))
  · exact .inl (.inr ⟨o, x a _ (fun z => by rw [z, y] at h; cases h) h⟩)
  · exact .inr h
theorem nd_but {r : Addr} {dx : Addr} {fs : List (Str × V)} (x : But r H H') (y : H r = some (.ins C dx fs)) : ∀ a ents, H a = some (NdO P w a ents) → H' a = some (NdO P w a ents) := fun a ents h => x a _ (fun z => by rw [z, y] at h; cases h) h
theorem nd_lst {d : Addr} {xs : List V} {o : HO} (y : H d = some (.lst xs)) : ∀ a ents, H a = some (NdO P w a ents) → upd H d o a = some (NdO P w a ents) := fun a ents h => by rw [upd_ne (fun z => by rw [z, y] at h; cases h)]; exact h
theorem same_but {H0 : Hp} {x : Addr} (s : Same H0 H) (b : But x H H') (n : H0 x = none) : Same H0 H' := fun a o e => b a o (ne_of_none e n) (s a o e)
theorem but_upd {r : Addr} (o : HO) : But r H (upd H r o) := fun a o ne h => by rw [upd_ne ne]; exact h
theorem But.none {r a : Addr} (x : But r H H') (n : H' a = none) (h : a ≠ r) : H a = none := by
  cases e : H a with
  | none => rfl
  | some o => rw [x a o h e] at n; cases n
end
theorem pe_ndnew_k {X : Cx} {P : Program} {w : World} {pos : Pos} (h1 : X.prog = P) (h2 : X.w = w) : PE X (.Dict [] [] pos) (Ndk.tNdNew P w) := by
  subst h1 h2
  exact Ndk.pe_ndnew
section
variable {P : Program} {w : World} {K : PySem.W.Frag} {C : Addr}
/-- two structures and as many points of each -/
structure TwoAt (K : PySem.W.Frag) (H : Hp) (ks : List (Str × Nat)) (sv ov pp qq : V) (m n : Nat) (rels rels' : List Rl) (xs ys : List Int) : Prop where
  s : StrAt K H sv m rels
  o : StrAt K H ov n rels'
  fs : All2 (Fits m) rels ks
  fo : All2 (Fits n) rels' ks
  kd : ks ∈ Kd
  m4 : m ≤ 4
  n4 : n ≤ 4
  p : RowAt K H pp xs
  q : RowAt K H qq ys
  l : xs.length = ys.length
  l8 : xs.length ≤ 8
  px : ∀ x ∈ xs, Gm.El m x
  qy : ∀ y ∈ ys, Gm.El n y
theorem TwoAt.tk {H H' : Hp} {ks : List (Str × Nat)} {sv ov pp qq : V} {m n : Nat} {rels rels' : List Rl} {xs ys : List Int} (t : Tk K H H') (h : TwoAt K H ks sv ov pp qq m n rels rels' xs ys) : TwoAt K H' ks sv ov pp qq m n rels rels' xs ys :=
  ⟨h.s.tk t, h.o.tk t, h.fs, h.fo, h.kd, h.m4, h.n4, h.p.tk t, h.q.tk t, h.l, h.l8, h.px, h.qy⟩
def spFFair (K : PySem.W.Frag) : Sp := fun vs H Q _ => ∃ (ks : List (Str × Nat)) (sv ov pp qq : V) (m n : Nat) (rels rels' : List Rl) (xs ys : List Int), vs = [sv, ov, pp, qq] ∧ TwoAt K H ks sv ov pp qq m n rels rels' xs ys ∧
  ∀ (r : Bool) (H' : Hp), Same H H' → (r = true ↔ Gm.Fair (Rs rels rels') (xs.zip ys)) → Q (.bl r) H'
def spFAlike (K : PySem.W.Frag) : Sp := fun vs H Q _ => ∃ (ks : List (Str × Nat)) (sv ov pp qq : V) (m n k : Nat) (rels rels' : List Rl) (xs ys : List Int), vs = [sv, ov, pp, qq, .int (k : Int)] ∧ TwoAt K H ks sv ov pp qq m n rels rels' xs ys ∧ k ≤ 8 ∧
  ∀ (r : Bool) (H' : Hp), Same H H' → (r = true ↔ Gm.Alike (Rs rels rels') m n k (xs.zip ys)) → Q (.bl r) H'
def spFLeast (K : PySem.W.Frag) : Sp := fun vs H Q _ => ∃ (ks : List (Str × Nat)) (sv ov pp qq : V) (m n : Nat) (rels rels' : List Rl) (xs ys : List Int), vs = [sv, ov, pp, qq] ∧ TwoAt K H ks sv ov pp qq m n rels rels' xs ys ∧
  ∀ (r : V) (H' : Hp), Same H H' → ((r = .non ∧ ∀ k, Gm.Alike (Rs rels rels') m n k (xs.zip ys)) ∨ (∃ k : Nat, r = .int (k : Int) ∧ k ≤ 5 ∧ ¬ Gm.Alike (Rs rels rels') m n k (xs.zip ys) ∧ ∀ j, j < k → Gm.Alike (Rs rels rels') m n j (xs.zip ys))) → Q r H'
theorem same_gr {b : Gs} {H H1 H2 H3 : Hp} {t : Addr} (s1 : Same H H1) (b2 : But t H1 H2) (nt : H t = none) (nF : H1 b.dF = none) (nA : H1 b.dA = none) (f : Gr b H2 H3) : Same H H3 := fun a o e =>
  f a o (ne_of_none (s1 _ _ e) nF) (ne_of_none (s1 _ _ e) nA) (same_but s1 b2 nt a o e)
end
def spLaw (K : PySem.W.Frag) : Sp := fun vs H Q _ => ∃ (a : Addr) (ns : List Int), vs = [.ref a] ∧ SqL K H a (ns.map V.int) ∧ ns.length ≤ 63 ∧ ∀ H', Q (.bl true) H'
open Classical in
noncomputable def aB (R : Gm.Rels) (m n k : Nat) (ps : List Pr) : Bool := decide (Gm.Alike R m n k ps)
open Classical in
theorem aB_iff {R : Gm.Rels} {m n k : Nat} {ps : List Pr} : aB R m n k ps = true ↔ Gm.Alike R m n k ps := by
  unfold aB
  exact decide_eq_true_iff
theorem aB_of {R : Gm.Rels} {m n k : Nat} {ps : List Pr} {r : Bool} (h : r = true ↔ Gm.Alike R m n k ps) : r = aB R m n k ps := by
  rw [Bool.eq_iff_iff, h, aB_iff]
/-- four numbers of rounds tell all, where there are three points at most -/
theorem three_all {R : Gm.Rels} {m n : Nat} {ps : List Pr} (hm : m ≤ 3) (hn : n ≤ 3) (hin : ∀ p ∈ ps, Gm.El m p.1 ∧ Gm.El n p.2) (h : Gm.Alike R m n 3 ps) : ∀ k, k ≤ 5 → Gm.Alike R m n k ps := by
  have l1 := Gm.left_most (m := m) (ps.map (·.1))
  have l2 := Gm.left_most (m := n) (ps.map (·.2))
  have h4 := Gm.alike_up 3 hin (Nat.le_trans l1 hm) (Nat.le_trans l2 hn) h
  have h5 := Gm.alike_up 4 hin (Nat.le_trans l1 (Nat.le_succ_of_le hm)) (Nat.le_trans l2 (Nat.le_succ_of_le hn)) h4
  intro k hk
  rcases (by omega : k = 5 ∨ k = 4 ∨ k = 3 ∨ k = 2 ∨ k = 1 ∨ k = 0) with e | e | e | e | e | e <;> subst e
  · exact h5
  · exact h4
  · exact h
  · exact Gm.alike_down 2 h
  · exact Gm.alike_down 1 (Gm.alike_down 2 h)
  · exact Gm.alike_down 0 (Gm.alike_down 1 (Gm.alike_down 2 h))
end Lb

set_option Elab.async false
set_option linter.all false
set_option maxRecDepth 100000
set_option maxHeartbeats 4000000
/-! to be alike within one structure is an equivalence; parting into classes -/
namespace Gm
variable {R : Rels} {m : Nat}
def Sym (R : Rels) : Prop := ∀ t ∈ R, t.2.1 = t.2.2
theorem fair_id (hR : Sym R) {ps : List Pr} (h : ∀ p ∈ ps, p.1 = p.2) : Fair R ps := by
  refine ⟨fun p hp q hq => by rw [h p hp, h q hq], fun t ht c _ hc => ?_⟩
  have e : c.map (·.1) = c.map (·.2) := List.map_congr_left fun p hp => h p (hc p hp)
  rw [e, hR t ht]
theorem alike_id (hR : Sym R) : ∀ (k : Nat) {ps : List Pr}, (∀ p ∈ ps, p.1 = p.2) → Alike R m m k ps
  | 0, ps, h => fair_id hR h
  | k + 1, ps, h => by
    have nx : ∀ x, ∀ p ∈ ((x, x) : Pr) :: ps, p.1 = p.2 := fun x p hp => by
      rcases List.mem_cons.mp hp with e | e
      · rw [e]
      · exact h p e
    exact ⟨fair_id hR h, fun x hx => ⟨x, hx, alike_id hR k (nx x)⟩, fun y hy => ⟨y, hy, alike_id hR k (nx y)⟩⟩
theorem lift {α β : Type} (f : α → β) {ts : List α} : ∀ c : List β, (∀ p ∈ c, p ∈ ts.map f) → ∃ d : List α, (∀ t ∈ d, t ∈ ts) ∧ d.map f = c
  | [], _ => ⟨[], fun t h => (nomatch h), rfl⟩
  | p :: c, h => by
    obtain ⟨d, h1, h2⟩ := lift f c fun q hq => h q (List.mem_cons_of_mem _ hq)
    obtain ⟨t, ht, e⟩ := List.mem_map.mp (h p List.mem_cons_self)
    refine ⟨t :: d, fun u hu => ?_, by rw [List.map_cons, h2, e]⟩
    rcases List.mem_cons.mp hu with z | z
    · rw [z]; exact ht
    · exact h1 u z
abbrev sw (p : Pr) : Pr := (p.2, p.1)
theorem fair_sw (hR : Sym R) {ps : List Pr} (h : Fair R ps) : Fair R (ps.map sw) := by
  refine ⟨fun p hp q hq => ?_, fun t ht c hl hc => ?_⟩
  · obtain ⟨p', hp', rfl⟩ := List.mem_map.mp hp
    obtain ⟨q', hq', rfl⟩ := List.mem_map.mp hq
    exact (h.1 p' hp' q' hq').symm
  · obtain ⟨d, h1, h2⟩ := lift sw c hc
    have ld : d.length = t.1 := by rw [← hl, ← h2, List.length_map]
    have := h.2 t ht d ld h1
    have e1 : c.map (·.1) = d.map (·.2) := by rw [← h2, List.map_map]; rfl
    have e2 : c.map (·.2) = d.map (·.1) := by rw [← h2, List.map_map]; rfl
    rw [e1, e2]
    rw [hR t ht] at this ⊢
    exact this.symm
theorem alike_sw (hR : Sym R) : ∀ (k : Nat) {ps : List Pr}, Alike R m m k ps → Alike R m m k (ps.map sw)
  | 0, ps, h => fair_sw hR h
  | k + 1, ps, h => ⟨fair_sw hR h.1, fun x hx => let ⟨y, hy, a⟩ := h.2.2 x hx; ⟨y, hy, alike_sw hR k a⟩, fun y hy => let ⟨x, hx, a⟩ := h.2.1 y hy; ⟨x, hx, alike_sw hR k a⟩⟩
abbrev Tr3 := Int × Int × Int
abbrev a12 (t : Tr3) : Pr := (t.1, t.2.1)
abbrev a23 (t : Tr3) : Pr := (t.2.1, t.2.2)
abbrev a13 (t : Tr3) : Pr := (t.1, t.2.2)
theorem fair_tr (hR : Sym R) {ts : List Tr3} (h1 : Fair R (ts.map a12)) (h2 : Fair R (ts.map a23)) : Fair R (ts.map a13) := by
  refine ⟨fun p hp q hq => ?_, fun t ht c hl hc => ?_⟩
  · obtain ⟨t, ht', rfl⟩ := List.mem_map.mp hp
    obtain ⟨u, hu', rfl⟩ := List.mem_map.mp hq
    have e1 := h1.1 (a12 t) (List.mem_map.mpr ⟨t, ht', rfl⟩) (a12 u) (List.mem_map.mpr ⟨u, hu', rfl⟩)
    have e2 := h2.1 (a23 t) (List.mem_map.mpr ⟨t, ht', rfl⟩) (a23 u) (List.mem_map.mpr ⟨u, hu', rfl⟩)
    exact e1.trans e2
  · obtain ⟨d, g1, g2⟩ := lift a13 c hc
    have ld : d.length = t.1 := by rw [← hl, ← g2, List.length_map]
    have e1 := h1.2 t ht (d.map a12) (by rw [List.length_map, ld]) fun p hp => by
      obtain ⟨u, hu, rfl⟩ := List.mem_map.mp hp
      exact List.mem_map.mpr ⟨u, g1 u hu, rfl⟩
    have e2 := h2.2 t ht (d.map a23) (by rw [List.length_map, ld]) fun p hp => by
      obtain ⟨u, hu, rfl⟩ := List.mem_map.mp hp
      exact List.mem_map.mpr ⟨u, g1 u hu, rfl⟩
    have q1 : (d.map a12).map (·.1) = c.map (·.1) := by rw [← g2, List.map_map, List.map_map]; rfl
    have q2 : (d.map a12).map (·.2) = (d.map a23).map (·.1) := by rw [List.map_map, List.map_map]; rfl
    have q3 : (d.map a23).map (·.2) = c.map (·.2) := by rw [← g2, List.map_map, List.map_map]; rfl
    rw [q1, q2] at e1
    rw [q3] at e2
    rw [hR t ht] at e1 e2 ⊢
    exact e1.trans e2
theorem alike_tr (hR : Sym R) : ∀ (k : Nat) {ts : List Tr3}, Alike R m m k (ts.map a12) → Alike R m m k (ts.map a23) → Alike R m m k (ts.map a13)
  | 0, ts, h1, h2 => fair_tr hR h1 h2
  | k + 1, ts, h1, h2 => by
    refine ⟨fair_tr hR h1.1 h2.1, fun x hx => ?_, fun z hz => ?_⟩
    · obtain ⟨y, hy, a⟩ := h1.2.1 x hx
      obtain ⟨z, hz, b⟩ := h2.2.1 y hy
      exact ⟨z, hz, alike_tr hR k (ts := (x, y, z) :: ts) a b⟩
    · obtain ⟨y, hy, b⟩ := h2.2.2 z hz
      obtain ⟨x, hx, a⟩ := h1.2.2 y hy
      exact ⟨x, hx, alike_tr hR k (ts := (x, y, z) :: ts) a b⟩
theorem zip3 : ∀ {xs ys zs : List Int}, xs.length = ys.length → ys.length = zs.length → (xs.zip (ys.zip zs)).map a12 = xs.zip ys ∧ (xs.zip (ys.zip zs)).map a23 = ys.zip zs ∧ (xs.zip (ys.zip zs)).map a13 = xs.zip zs
  | [], [], [], _, _ => ⟨rfl, rfl, rfl⟩
  | x :: xs, y :: ys, z :: zs, h1, h2 => by
    obtain ⟨e1, e2, e3⟩ := zip3 (xs := xs) (ys := ys) (zs := zs) (Nat.succ.inj h1) (Nat.succ.inj h2)
    refine ⟨?_, ?_, ?_⟩
    · exact congrArg ((x, y) :: ·) e1
    · exact congrArg ((y, z) :: ·) e2
    · exact congrArg ((x, z) :: ·) e3
  | [], _ :: _, _, h, _ => by cases h
  | _ :: _, [], _, h, _ => by cases h
  | [], [], _ :: _, _, h => by cases h
  | _ :: _, _ :: _, [], _, h => by cases h
theorem zip_sw : ∀ {xs ys : List Int}, (xs.zip ys).map sw = ys.zip xs
  | [], [] => rfl
  | [], _ :: _ => rfl
  | _ :: _, [] => rfl
  | x :: xs, y :: ys => congrArg ((y, x) :: ·) (zip_sw (xs := xs) (ys := ys))
theorem zip_id : ∀ {xs : List Int}, ∀ p ∈ xs.zip xs, p.1 = p.2
  | [], p, h => by cases h
  | x :: xs, p, h => by
    rcases List.mem_cons.mp h with e | e
    · rw [e]
    · exact zip_id p e
end Gm
namespace Lb
abbrev Rw := List Int
structure Eqv (P : Rw → Prop) (al : Rw → Rw → Bool) : Prop where
  re : ∀ x, P x → al x x = true
  sy : ∀ x y, P x → P y → al x y = true → al y x = true
  tr : ∀ x y z, P x → P y → P z → al x y = true → al y z = true → al x z = true
noncomputable def alk (R : Gm.Rels) (m k : Nat) (x y : Rw) : Bool := aB R m m k (x.zip y)
theorem alk_eqv {R : Gm.Rels} {m k pl : Nat} (hR : Gm.Sym R) : Eqv (fun x => x.length = pl) (alk R m k) where
  re x _ := aB_iff.mpr (Gm.alike_id hR k Gm.zip_id)
  sy x y _ _ h := aB_iff.mpr (by rw [← Gm.zip_sw]; exact Gm.alike_sw hR k (aB_iff.mp h))
  tr x y z hx hy hz h1 h2 := by
    obtain ⟨e1, e2, e3⟩ := Gm.zip3 (xs := x) (ys := y) (zs := z) (by rw [hx, hy]) (by rw [hy, hz])
    refine aB_iff.mpr ?_
    rw [← e3]
    refine Gm.alike_tr hR k ?_ ?_
    · rw [e1]; exact aB_iff.mp h1
    · rw [e2]; exact aB_iff.mp h2
theorem alk_down {R : Gm.Rels} {m k : Nat} {x y : Rw} (h : alk R m (k + 1) x y = true) : alk R m k x y = true := aB_iff.mpr (Gm.alike_down k (aB_iff.mp h))
theorem rs_sym (rels : List Rl) : Gm.Sym (Rs rels rels) := by
  intro t ht
  unfold Rs at ht
  obtain ⟨p, hp, rfl⟩ := List.mem_map.mp ht
  have : ∀ {l : List Rl} {p : Rl × Rl}, p ∈ l.zip l → p.1 = p.2 := by
    intro l
    induction l with
    | nil => intro p h; cases h
    | cons a l ih =>
      intro p h
      rcases List.mem_cons.mp h with e | e
      · rw [e]
      · exact ih e
  show p.1.2.2 = p.2.2.2
  rw [this hp]
/-! ### parting -/
def put (al : Rw → Rw → Bool) : List (List Rw) → Rw → List (List Rw)
  | [], p => [[p]]
  | c :: cs, p => if al (c.headD []) p = true then (c ++ [p]) :: cs else c :: put al cs p
def parts (al : Rw → Rw → Bool) (ps : List Rw) : List (List Rw) := ps.foldl (put al) []
theorem put_cases (al : Rw → Rw → Bool) (p : Rw) : ∀ cs : List (List Rw), ((∀ c ∈ cs, al (c.headD []) p = false) ∧ put al cs p = cs ++ [[p]]) ∨ ∃ l c r, cs = l ++ c :: r ∧ (∀ d ∈ l, al (d.headD []) p = false) ∧ al (c.headD []) p = true ∧ put al cs p = l ++ (c ++ [p]) :: r
  | [] => .inl ⟨fun c h => (nomatch h), rfl⟩
  | c :: cs => by
    rw [put]
    by_cases e : al (c.headD []) p = true
    · rw [if_pos e]
      exact .inr ⟨[], c, cs, rfl, fun d h => (nomatch h), e, rfl⟩
    · rw [if_neg e]
      have e' : al (c.headD []) p = false := by simpa using e
      rcases put_cases al p cs with ⟨h1, h2⟩ | ⟨l, d, r, h1, h2, h3, h4⟩
      · refine .inl ⟨fun d hd => ?_, by rw [h2]; rfl⟩
        rcases List.mem_cons.mp hd with z | z
        · rw [z]; exact e'
        · exact h1 d z
      · refine .inr ⟨c :: l, d, r, by rw [h1]; rfl, fun x hx => ?_, h3, by rw [h4]; rfl⟩
        rcases List.mem_cons.mp hx with z | z
        · rw [z]; exact e'
        · exact h2 x z
structure Parted (al : Rw → Rw → Bool) (ps : List Rw) (cs : List (List Rw)) : Prop where
  ne : ∀ c ∈ cs, c ≠ []
  cov : ∀ p, (∃ c ∈ cs, p ∈ c) ↔ p ∈ ps
  in_ : ∀ c ∈ cs, ∀ x ∈ c, al (c.headD []) x = true
  apart : cs.Pairwise fun c d => al (c.headD []) (d.headD []) = false
  up : ∀ c ∈ cs, c.Pairwise (· < ·)
  heads : cs.Pairwise fun c d => c.headD [] < d.headD []
theorem head_snoc {c : List Rw} {p : Rw} (h : c ≠ []) : (c ++ [p]).headD [] = c.headD [] := by
  cases c with
  | nil => exact absurd rfl h
  | cons _ _ => rfl
theorem head_in {c : List Rw} (h : c ≠ []) : c.headD [] ∈ c := by
  cases c with
  | nil => exact absurd rfl h
  | cons _ _ => exact List.mem_cons_self
theorem Parted.put {al : Rw → Rw → Bool} {ps : List Rw} {cs : List (List Rw)} (h : Parted al ps cs) {p : Rw} (re : al p p = true) (hp : ∀ q ∈ ps, q < p) : Parted al (ps ++ [p]) (put al cs p) := by
  have lt : ∀ c ∈ cs, ∀ x ∈ c, x < p := fun c hc x hx => hp x ((h.cov x).mp ⟨c, hc, hx⟩)
  rcases put_cases al p cs with ⟨h1, h2⟩ | ⟨l, c, r, e, h1, h2, h3⟩
  · rw [h2]
    refine ⟨fun c hc => ?_, fun q => ?_, fun c hc x hx => ?_, ?_, fun c hc => ?_, ?_⟩
    · rcases List.mem_append.mp hc with z | z
      · exact h.ne c z
      · rw [List.mem_singleton.mp z]; simp
    · rw [List.mem_append, List.mem_singleton, ← h.cov q]
      constructor
      · rintro ⟨c, hc, hq⟩
        rcases List.mem_append.mp hc with z | z
        · exact .inl ⟨c, z, hq⟩
        · rw [List.mem_singleton.mp z] at hq
          exact .inr (List.mem_singleton.mp hq)
      · rintro (⟨c, hc, hq⟩ | rfl)
        · exact ⟨c, List.mem_append_left _ hc, hq⟩
        · exact ⟨[q], List.mem_append_right _ List.mem_cons_self, List.mem_cons_self⟩
    · rcases List.mem_append.mp hc with z | z
      · exact h.in_ c z x hx
      · rw [List.mem_singleton.mp z] at hx ⊢
        rw [List.mem_singleton.mp hx]
        exact re
    · rw [List.pairwise_append]
      refine ⟨h.apart, List.pairwise_singleton _ _, fun c hc d hd => ?_⟩
      rw [List.mem_singleton.mp hd]
      exact h1 c hc
    · rcases List.mem_append.mp hc with z | z
      · exact h.up c z
      · rw [List.mem_singleton.mp z]; exact List.pairwise_singleton _ _
    · rw [List.pairwise_append]
      refine ⟨h.heads, List.pairwise_singleton _ _, fun c hc d hd => ?_⟩
      rw [List.mem_singleton.mp hd]
      exact lt c hc _ (head_in (h.ne c hc))
  · rw [h3]
    subst e
    have hc0 : c ∈ l ++ c :: r := List.mem_append_right _ List.mem_cons_self
    have ne := h.ne c hc0
    have same : ∀ {f : List Rw → List Rw → Prop}, (∀ a b c' d', a.headD [] = c'.headD [] → b.headD [] = d'.headD [] → f a b → f c' d') → (l ++ c :: r).Pairwise f → (l ++ (c ++ [p]) :: r).Pairwise f := by
      intro f hf hw
      rw [List.pairwise_append, List.pairwise_cons] at hw ⊢
      obtain ⟨w1, ⟨w2, w3⟩, w4⟩ := hw
      refine ⟨w1, ⟨fun d hd => hf c d _ _ (head_snoc ne).symm rfl (w2 d hd), w3⟩, fun a ha b hb => ?_⟩
      rcases List.mem_cons.mp hb with z | z
      · rw [z]; exact hf a c _ _ rfl (head_snoc ne).symm (w4 a ha c List.mem_cons_self)
      · exact w4 a ha b (List.mem_cons_of_mem _ z)
    have mem : ∀ {d}, d ∈ l ++ (c ++ [p]) :: r → d ∈ l ++ c :: r ∨ d = c ++ [p] := fun {d} hd => by
      rcases List.mem_append.mp hd with z | z
      · exact .inl (List.mem_append_left _ z)
      · rcases List.mem_cons.mp z with z | z
        · exact .inr z
        · exact .inl (List.mem_append_right _ (List.mem_cons_of_mem _ z))
    refine ⟨fun d hd => ?_, fun q => ?_, fun d hd x hx => ?_, same (fun a b c' d' e1 e2 w => by rw [← e1, ← e2]; exact w) h.apart, fun d hd => ?_, same (fun a b c' d' e1 e2 w => by rw [← e1, ← e2]; exact w) h.heads⟩
    · rcases mem hd with z | z
      · exact h.ne d z
      · rw [z]; simp
    · rw [List.mem_append, List.mem_singleton, ← h.cov q]
      constructor
      · rintro ⟨d, hd, hq⟩
        rcases mem hd with z | z
        · exact .inl ⟨d, z, hq⟩
        · rw [z] at hq
          rcases List.mem_append.mp hq with y | y
          · exact .inl ⟨c, hc0, y⟩
          · exact .inr (List.mem_singleton.mp y)
      · rintro (⟨d, hd, hq⟩ | rfl)
        · rcases List.mem_append.mp hd with z | z
          · exact ⟨d, List.mem_append_left _ z, hq⟩
          · rcases List.mem_cons.mp z with z | z
            · rw [z] at hq
              exact ⟨c ++ [p], List.mem_append_right _ List.mem_cons_self, List.mem_append_left _ hq⟩
            · exact ⟨d, List.mem_append_right _ (List.mem_cons_of_mem _ z), hq⟩
        · exact ⟨c ++ [q], List.mem_append_right _ List.mem_cons_self, List.mem_append_right _ List.mem_cons_self⟩
    · rcases mem hd with z | z
      · exact h.in_ d z x hx
      · rw [z] at hx ⊢
        rw [head_snoc ne]
        rcases List.mem_append.mp hx with y | y
        · exact h.in_ c hc0 x y
        · rw [List.mem_singleton.mp y]; exact h2
    · rcases mem hd with z | z
      · exact h.up d z
      · rw [z, List.pairwise_append]
        refine ⟨h.up c hc0, List.pairwise_singleton _ _, fun x hx y hy => ?_⟩
        rw [List.mem_singleton.mp hy]
        exact lt c hc0 x hx
theorem parts_ok {al : Rw → Rw → Bool} {ps : List Rw} (re : ∀ p ∈ ps, al p p = true) (up : ps.Pairwise (· < ·)) : Parted al ps (parts al ps) := by
  have : ∀ (qs rs : List Rw) (cs : List (List Rw)), (∀ p ∈ rs, al p p = true) → (qs ++ rs).Pairwise (· < ·) → Parted al qs cs → Parted al (qs ++ rs) (rs.foldl (Lb.put al) cs) := by
    intro qs rs
    induction rs generalizing qs with
    | nil => intro cs _ _ h; rw [List.append_nil]; exact h
    | cons p rs ih =>
      intro cs re up h
      have e : qs ++ p :: rs = (qs ++ [p]) ++ rs := by rw [List.append_assoc]; rfl
      rw [e] at up ⊢
      refine ih (qs ++ [p]) _ (fun q hq => re q (List.mem_cons_of_mem _ hq)) up ?_
      refine h.put (re p List.mem_cons_self) fun q hq => ?_
      have := (List.pairwise_append.mp up).1
      exact (List.pairwise_append.mp this).2.2 q hq p List.mem_cons_self
  exact this [] ps [] re up ⟨fun c h => (nomatch h), fun p => ⟨fun ⟨c, h, _⟩ => (nomatch h), fun h => (nomatch h)⟩, fun c h => (nomatch h), .nil, fun c h => (nomatch h), .nil⟩
/-- a class of a finer parting lies in just one class of a coarser one -/
theorem one_class {al be : Rw → Rw → Bool} {P : Rw → Prop} {ps : List Rw} {cs ds : List (List Rw)} (E : Eqv P al) (hP : ∀ p ∈ ps, P p) (fine : ∀ x y, be x y = true → al x y = true) (hc : Parted al ps cs) (hd : Parted be ps ds) {row : List Rw} (hr : row ∈ ds) :
    (cs.filter fun old => row.all fun x => decide (x ∈ old)).length = 1 := by
  have ne := hd.ne row hr
  have hh := head_in ne
  have hps : ∀ x ∈ row, x ∈ ps := fun x hx => (hd.cov x).mp ⟨row, hr, hx⟩
  obtain ⟨o, ho, hho⟩ := (hc.cov _).mpr (hps _ hh)
  have inP : ∀ c ∈ cs, ∀ x ∈ c, P x := fun c h x hx => hP x ((hc.cov x).mp ⟨c, h, hx⟩)
  have hdP : ∀ c ∈ cs, P (c.headD []) := fun c h => inP c h _ (head_in (hc.ne c h))
  obtain ⟨l, r, e⟩ := List.append_of_mem ho
  have ap := hc.apart
  rw [e, List.pairwise_append, List.pairwise_cons] at ap
  obtain ⟨_, ⟨a1, _⟩, a2⟩ := ap
  -- heads that are alike are heads of one class
  have one : ∀ c ∈ cs, c ∈ l ∨ c ∈ r → al (o.headD []) (c.headD []) = true → False := fun c hcs h z => by
    rcases h with h | h
    · have := a2 c h o List.mem_cons_self
      rw [E.sy _ _ (hdP o ho) (hdP c hcs) z] at this
      cases this
    · have := a1 c h
      rw [z] at this
      cases this
  have mem : ∀ c, c ∈ l ∨ c ∈ r → c ∈ cs := fun c h => by
    rw [e]
    rcases h with h | h
    · exact List.mem_append_left _ h
    · exact List.mem_append_right _ (List.mem_cons_of_mem _ h)
  have toh : al (o.headD []) (row.headD []) = true := hc.in_ o ho _ hho
  have hPh : P (row.headD []) := hP _ (hps _ hh)
  have no : ∀ c, c ∈ l ∨ c ∈ r → (row.all fun x => decide (x ∈ c)) = false := fun c h => by
    have hcs := mem c h
    rw [Bool.eq_false_iff]
    intro z
    have hx := of_decide_eq_true (List.all_eq_true.mp z _ hh)
    have t2 := hc.in_ c hcs _ hx
    exact one c hcs h (E.tr _ _ _ (hdP o ho) hPh (hdP c hcs) toh (E.sy _ _ (hdP c hcs) hPh t2))
  have yes : (row.all fun x => decide (x ∈ o)) = true := by
    rw [List.all_eq_true]
    intro x hx
    refine decide_eq_true ?_
    have hPx : P x := hP x (hps x hx)
    obtain ⟨c, hcs, hxc⟩ := (hc.cov x).mpr (hps x hx)
    have t1 := fine _ _ (hd.in_ row hr x hx)
    have t2 := hc.in_ c hcs x hxc
    have t3 := E.tr _ _ _ (hdP o ho) hPx (hdP c hcs) (E.tr _ _ _ (hdP o ho) hPh hPx toh t1) (E.sy _ _ (hdP c hcs) hPx t2)
    rw [e] at hcs
    rcases List.mem_append.mp hcs with z | z
    · exact (one c (mem c (.inl z)) (.inl z) t3).elim
    · rcases List.mem_cons.mp z with z | z
      · rw [← z]; exact hxc
      · exact (one c (mem c (.inr z)) (.inr z) t3).elim
  rw [e, List.filter_append, List.filter_cons, if_pos yes, List.filter_eq_nil_iff.mpr fun c h => by rw [no c (.inl h)]; simp, List.filter_eq_nil_iff.mpr fun c h => by rw [no c (.inr h)]; simp]
  rfl
end Lb

set_option Elab.async false
set_option linter.all false
set_option maxRecDepth 100000
set_option maxHeartbeats 4000000
/-! sorted of a list of data that is in order already; in of a tuple of rows -/
namespace Sd
open PySem PySem.Spec PyProof.Rows L2 Lb
open Fo (All2)
section
variable {X : Cx}
def rSortSame (K : PySem.W.Frag) : List V → Hp → VK → Prop := fun vs H Q => ∃ (a : Addr) (us : List V) (ds : List PyData), vs = [.ref a] ∧ SqL K H a us ∧ DpAll K H us ds ∧ PySem.W.AllAlike ds ∧ PySem.W.Sortable ds ∧ (∀ d ∈ ds, d.depth ≤ 60) ∧ ds.Pairwise (fun x y => PySem.W.dataLt y x = false) ∧ ∀ p, H p = none → Q (.ref p) (upd H p (.lst us))
theorem dp_len {K : PySem.W.Frag} {H : Hp} : ∀ {us : List V} {ds : List PyData}, DpAll K H us ds → us.length = ds.length
  | _, _, .nil => rfl
  | _, _, .cons _ t => by rw [List.length_cons, List.length_cons, dp_len t]
theorem each_of {pins : List (Addr × Obj)} {σ : L2.St} {H : Hp} {s : Shared} (I : Inv X pins σ H s) : ∀ {us : List V} {its : List Value} {ds : List PyData}, Vals us its → DpAll X.K H us ds → PySem.W.EachIs (fun v (b : V × PyData) => RelV b.1 v ∧ ∃ as, Reads s.heap v b.2 as) its (us.zip ds)
  | [], _, _, .nil, .nil => .nil
  | u :: us, _, d :: ds, .cons r rs, .cons h hs => .cons ⟨r, Dp.reads I d u _ h r⟩ (each_of I rs hs)
theorem vals_each {us : List V} {ds : List PyData} : us.length = ds.length → ∀ {out : List Value}, PySem.W.EachIs (fun v (b : V × PyData) => RelV b.1 v) out (us.zip ds) → Vals us out := by
  induction us generalizing ds with
  | nil =>
    intro _ out h
    cases ds <;> (cases h; exact .nil)
  | cons u us ih =>
    intro hl out h
    cases ds with
    | nil => cases hl
    | cons d ds =>
      cases h with
      | cons h1 h2 => exact .cons h1 (ih (Nat.succ.inj hl) h2)
theorem zip_snd {α β : Type} : ∀ {us : List α} {ds : List β}, us.length = ds.length → (us.zip ds).map (·.2) = ds
  | [], [], _ => rfl
  | u :: us, d :: ds, h => congrArg (d :: ·) (zip_snd (Nat.succ.inj h))
theorem cr_sortSame (hu : X.A.units + 64 < cLine) : CallR X (.builtin "sorted") (rSortSame X.K) := by
  intro pins s σ H vs us' Q I r h
  obtain ⟨a, us, ds, rfl, hs, hd, hal, hso, hdp, hpw, q⟩ := h
  obtain ⟨its, rv, hl, hz⟩ := I.list hs
  rw [Vals.ref1 r]
  have el := dp_len hd
  have es := zip_snd el
  have ee := each_of I rv hd
  have em : (us.zip ds).mergeSort (PySem.W.dataLe false fun b : V × PyData => b.2) = us.zip ds := by
    refine List.mergeSort_of_pairwise ?_
    have : ((us.zip ds).map (·.2)).Pairwise fun x y => PySem.W.dataLt y x = false := by rw [es]; exact hpw
    rw [List.pairwise_map] at this
    exact this.imp fun {x y} h => by
      show (!PySem.W.dataLt y.2 x.2) = true
      rw [h]
      rfl
  refine PySem.W.sorted_data (β := V × PyData) (enc := fun b => b.2) (R := fun v b => RelV b.1 v) hl.isList (ee.mono fun _ _ h => h.1) (ee.mono fun _ _ h => h.2) (by rw [es]; exact hal) (by rw [es]; exact hso) (by rw [List.length_zip]; omega) (fun b hb => ?_) fun out hlo eo => ?_
  · have : b.2 ∈ ds := by rw [← es]; exact List.mem_map.mpr ⟨b, hb, rfl⟩
    have := hdp _ this
    omega
  · rw [em] at eo
    obtain ⟨ep, he'⟩ := PyProof.Rows.sortedAll_at s.heap its out.toArray
    exact ⟨.ref _, upd H (s.heap.objs.size + 1) (.lst us), I.laid (t' := s.toks) (fun _ _ => PyProof.Rows.sortedAll_old) (Nat.le_succ _) ⟨hz, out, ep, vals_each el eo, he'⟩, rfl, q _ (I.hok.fresh (Nat.le_succ _))⟩
def rNotInDT (K : PySem.W.Frag) : R2 := fun x y H Q => ∃ d ds, Dp K H x d ∧ Dp K H y (.tuple ds) ∧ SeqAt.shaped d = true ∧ SeqAt.shaped (.tuple ds) = true ∧ Q (.bl (!ds.any fun z => PyData.eqv z d)) H
end
/-! ### rows and classes as data -/
theorem alike_dint (r s : List Int) : PySem.W.alike (Da.dint r) (Da.dint s) = true := by
  rw [Da.dint, Da.dint, PySem.W.alike]
  exact PySem.W.alike_ints r s
theorem lt_dint (r s : List Int) : PySem.W.dataLt (Da.dint r) (Da.dint s) = decide (r < s) := by
  rw [Da.dint, Da.dint, PySem.W.dataLt_tuple]
  exact PySem.W.dataLt_ints r s
def dcl (c : List Rw) : PyData := .tuple (c.map Da.dint)
theorem alikes_dint : ∀ c d : List Rw, PySem.W.alikeAll (c.map Da.dint) (d.map Da.dint) = true
  | [], _ => by simp [PySem.W.alikeAll]
  | _ :: _, [] => by simp [PySem.W.alikeAll]
  | x :: xs, y :: ys => by rw [List.map_cons, List.map_cons, PySem.W.alikeAll, alikes_dint xs ys, alike_dint]; rfl
theorem alike_dcl (c d : List Rw) : PySem.W.alike (dcl c) (dcl d) = true := by
  rw [dcl, dcl, PySem.W.alike]
  exact alikes_dint c d
theorem lt_dcl {c d : List Rw} (hc : c ≠ []) (hd : d ≠ []) (h : c.headD [] < d.headD []) : PySem.W.dataLt (dcl d) (dcl c) = false := by
  cases c with
  | nil => exact absurd rfl hc
  | cons x xs =>
    cases d with
    | nil => exact absurd rfl hd
    | cons y ys =>
      have h' : x < y := h
      rw [dcl, dcl, List.map_cons, List.map_cons, PySem.W.dataLt_tuple, PySem.W.dataLt_cons (alike_dint y x), eqv_dint, if_neg, lt_dint]
      · exact decide_eq_false fun z => List.lt_irrefl _ (List.lt_trans z h')
      · intro z
        rw [of_decide_eq_true z] at h'
        exact List.lt_irrefl _ h'
theorem rows_alike (c : List Rw) : PySem.W.AllAlike (c.map Da.dint) := PySem.W.AllAlike.of alike_dint
theorem rows_sortable {c : List Rw} (h : ∀ r ∈ c, r ≠ []) : PySem.W.Sortable (c.map Da.dint) := .inl fun d hd => by
  obtain ⟨r, hr, rfl⟩ := List.mem_map.mp hd
  cases r with
  | nil => exact absurd rfl (h _ hr)
  | cons x xs => exact ⟨.int x, xs.map .int, rfl⟩
theorem rows_up {c : List Rw} (h : c.Pairwise (· < ·)) : (c.map Da.dint).Pairwise fun x y => PySem.W.dataLt y x = false := by
  rw [List.pairwise_map]
  exact h.imp fun {a b} z => by rw [lt_dint]; exact decide_eq_false fun y => List.lt_irrefl _ (List.lt_trans y z)
theorem cls_alike (cs : List (List Rw)) : PySem.W.AllAlike (cs.map dcl) := PySem.W.AllAlike.of alike_dcl
theorem cls_sortable {cs : List (List Rw)} (h : ∀ c ∈ cs, c ≠ []) : PySem.W.Sortable (cs.map dcl) := .inl fun d hd => by
  obtain ⟨c, hc, rfl⟩ := List.mem_map.mp hd
  cases c with
  | nil => exact absurd rfl (h _ hc)
  | cons x xs => exact ⟨Da.dint x, xs.map Da.dint, rfl⟩
theorem cls_up {cs : List (List Rw)} (h : ∀ c ∈ cs, c ≠ []) (w : cs.Pairwise fun c d => c.headD [] < d.headD []) : (cs.map dcl).Pairwise fun x y => PySem.W.dataLt y x = false := by
  rw [List.pairwise_map]
  exact w.imp_of_mem fun {a b} ha hb z => lt_dcl (h a ha) (h b hb) z
theorem dep_dint (r : List Int) : (Da.dint r).depth ≤ 4 := by
  have := Da.dep_ints r
  rw [Da.dint, PyData.depth]
  omega
theorem dep_dcl (c : List Rw) : (dcl c).depth ≤ 60 := by
  have := Da.dep_rows c
  rw [dcl, PyData.depth]
  omega
/-- the rows in their order -/
theorem lex_app : ∀ {r s : List Int} (a b : List Int), r.length = s.length → r < s → r ++ a < s ++ b
  | [], [], _, _, _, h => absurd h (List.lt_irrefl _)
  | [], _ :: _, _, _, h, _ => by cases h
  | _ :: _, [], _, _, h, _ => by cases h
  | x :: r, y :: s, a, b, hl, h => by
    rw [List.cons_append, List.cons_append]
    rw [List.cons_lt_cons_iff] at h ⊢
    rcases h with h | ⟨h1, h2⟩
    · exact .inl h
    · exact .inr ⟨h1, lex_app a b (Nat.succ.inj hl) h2⟩
theorem lex_last : ∀ (r : List Int) {x y : Int}, x < y → r ++ [x] < r ++ [y]
  | [], x, y, h => by
    show [x] < [y]
    rw [List.cons_lt_cons_iff]
    exact .inl h
  | z :: r, x, y, h => by
    rw [List.cons_append, List.cons_append, List.cons_lt_cons_iff]
    exact .inr ⟨rfl, lex_last r h⟩
theorem rowsOf_len {m : Nat} : ∀ {pl : Nat} {r : List Int}, r ∈ Lb.rowsOf m pl → r.length = pl
  | 0, r, h => by
    rw [Lb.rowsOf, List.mem_singleton] at h
    rw [h]; rfl
  | pl + 1, r, h => by
    rw [Lb.rowsOf, List.mem_flatMap] at h
    obtain ⟨q, hq, hr⟩ := h
    unfold ext1 at hr
    obtain ⟨x, _, rfl⟩ := List.mem_map.mp hr
    rw [List.length_append, rowsOf_len hq]
    rfl
theorem rowsOf_up (m : Nat) : ∀ pl, (Lb.rowsOf m pl).Pairwise (· < ·)
  | 0 => by unfold Lb.rowsOf; exact List.pairwise_singleton _ _
  | pl + 1 => by
    rw [Lb.rowsOf, List.pairwise_flatMap]
    refine ⟨fun r _ => ?_, (rowsOf_up m pl).imp_of_mem fun {r s} hr hs h x hx y hy => ?_⟩
    · unfold ext1
      rw [List.pairwise_map]
      exact List.pairwise_lt_range.imp fun {a b} h => lex_last r (by omega)
    · unfold ext1 at hx hy
      obtain ⟨a, _, rfl⟩ := List.mem_map.mp hx
      obtain ⟨b, _, rfl⟩ := List.mem_map.mp hy
      exact lex_app _ _ (by rw [rowsOf_len hr, rowsOf_len hs]) h
end Sd

set_option Elab.async false
set_option linter.all false
set_option maxRecDepth 100000
set_option maxHeartbeats 4000000
/-! classes of rows as lists of lists, and as tuples of tuples -/
namespace Lb
open PySem L2 Fo
def flt (al : Rw → Rw → Bool) (p : Rw) : List V → List (List Rw) → List V
  | l :: ls, c :: cs => if al (c.headD []) p = true then l :: flt al p ls cs else flt al p ls cs
  | _, _ => []
theorem flt_app (al : Rw → Rw → Bool) (p : Rw) : ∀ {a1 : List V} {l : List (List Rw)} (a2 : List V) (r : List (List Rw)), a1.length = l.length → flt al p (a1 ++ a2) (l ++ r) = flt al p a1 l ++ flt al p a2 r
  | [], [], _, _, _ => rfl
  | [], _ :: _, _, _, h => by cases h
  | _ :: _, [], _, _, h => by cases h
  | x :: a1, c :: l, a2, r, h => by
    rw [List.cons_append, List.cons_append, flt, flt]
    by_cases e : al (c.headD []) p = true
    · rw [if_pos e, if_pos e, flt_app al p a2 r (Nat.succ.inj h)]; rfl
    · rw [if_neg e, if_neg e, flt_app al p a2 r (Nat.succ.inj h)]
theorem flt_none {al : Rw → Rw → Bool} {p : Rw} : ∀ {ls : List V} {cs : List (List Rw)}, (∀ c ∈ cs, al (c.headD []) p = false) → flt al p ls cs = []
  | [], [], _ => rfl
  | [], _ :: _, _ => rfl
  | _ :: _, [], _ => rfl
  | x :: ls, c :: cs, h => by
    rw [flt, if_neg (by rw [h c List.mem_cons_self]; decide)]
    exact flt_none fun d hd => h d (List.mem_cons_of_mem _ hd)
theorem flt_some {al : Rw → Rw → Bool} {p : Rw} {a1 a2 : List V} {l r : List (List Rw)} {x : V} {c : List Rw} (hl : a1.length = l.length) (h : ∀ d ∈ l, al (d.headD []) p = false) (hc : al (c.headD []) p = true) : flt al p (a1 ++ x :: a2) (l ++ c :: r) = x :: flt al p a2 r := by
  rw [flt_app al p _ _ hl, flt_none h, flt, if_pos hc]
  rfl
theorem flt_len (al : Rw → Rw → Bool) (p : Rw) : ∀ (ls : List V) (cs : List (List Rw)), (flt al p ls cs).length ≤ ls.length
  | [], [] => Nat.le_refl _
  | [], _ :: _ => Nat.le_refl _
  | _ :: _, [] => Nat.zero_le _
  | x :: ls, c :: cs => by
    have := flt_len al p ls cs
    rw [flt]
    split <;> (simp only [List.length_cons]; omega)
theorem a2_split {α β : Type} {R : α → β → Prop} : ∀ {as : List α} {b1 : List β} {b : β} {b2 : List β}, All2 R as (b1 ++ b :: b2) → ∃ a1 a a2, as = a1 ++ a :: a2 ∧ All2 R a1 b1 ∧ R a b ∧ All2 R a2 b2
  | _, [], _, _, .cons h t => ⟨[], _, _, rfl, .nil, h, t⟩
  | _, _ :: b1, b, b2, .cons h t => by
    obtain ⟨a1, a, a2, e, h1, h2, h3⟩ := a2_split t
    exact ⟨_ :: a1, a, a2, by rw [e]; rfl, .cons h h1, h2, h3⟩
/-- a class as a list of rows, new since H2 -/
def ClL (K : PySem.W.Frag) (H2 : Hp) (F L : Addr) (H : Hp) (l : V) (c : List Rw) : Prop := ∃ (l' : Addr) (us : List V), l = .ref l' ∧ H2 l' = none ∧ l' ≠ F ∧ l' ≠ L ∧ H l' = some (.lst us) ∧ All2 (RowAt K H) us c
theorem ClL.to {K : PySem.W.Frag} {H2 H H' : Hp} {F L : Addr} {l : V} {c : List Rw} (h : ClL K H2 F L H l c) (t : Tk K H H') (f : ∀ a xs, a ≠ F → a ≠ L → H a = some (.lst xs) → H' a = some (.lst xs)) : ClL K H2 F L H' l c := by
  obtain ⟨l', us, e, h1, h2, h3, h4, h5⟩ := h
  exact ⟨l', us, e, h1, h2, h3, f _ _ h2 h3 h4, h5.imp fun _ _ z => z.tk t⟩
theorem ClL.same {K : PySem.W.Frag} {H2 H H' : Hp} {F L : Addr} {l : V} {c : List Rw} (h : ClL K H2 F L H l c) (s : Same H H') : ClL K H2 F L H' l c := h.to (Tk.of_same s) fun a xs _ _ e => s _ _ e
theorem ClL.gr {K : PySem.W.Frag} {P : Program} {w : World} {C : Addr} {b : Gs} {H2 H H' : Hp} {F L : Addr} {l : V} {c : List Rw} (G : GAt K P w C b H) (h : ClL K H2 F L H l c) (f : Gr b H H') : ClL K H2 F L H' l c :=
  h.to (G.tk f) fun a xs _ _ e => by
    obtain ⟨es, z1⟩ := G.kf
    obtain ⟨fs, z2⟩ := G.ka
    exact f a _ (fun z => by rw [z, z1] at e; cases e) (fun z => by rw [z, z2] at e; cases e) e
/-- a new class at the end -/
theorem cls_new {K : PySem.W.Frag} {H2 H : Hp} {F L p : Addr} {ls : List V} {cs : List (List Rw)} {u : V} {r : Rw} (hF : H F = some (.lst ls)) (h : All2 (ClL K H2 F L H) ls cs) (np : H p = none) (n2 : H2 p = none) (hL : p ≠ L) (hr : RowAt K H u r) :
    All2 (ClL K H2 F L (upd (upd H p (.lst [u])) F (.lst (ls ++ [.ref p])))) (ls ++ [.ref p]) (cs ++ [[r]]) := by
  have nF : p ≠ F := fun z => by rw [z, hF] at np; cases np
  have t1 := tk_new (K := K) np (.lst [u])
  have hF1 := same_new np (.lst [u]) _ _ hF
  have t2 := tk_lst (K := K) hF1 (.lst (ls ++ [.ref p]))
  refine (h.imp fun _ _ z => (z.same (same_new np _)).to t2 fun a xs n _ e => by rw [upd_ne n]; exact e).append (.cons ⟨p, [u], rfl, n2, nF, hL, by rw [upd_ne nF]; exact upd_same, .cons (RowAt.tk t2 (RowAt.tk t1 hr)) .nil⟩ .nil)
/-- a row put to a class -/
theorem cls_put {K : PySem.W.Frag} {H2 H : Hp} {F L l' : Addr} {a1 a2 : List V} {l r : List (List Rw)} {c : List Rw} {us : List V} {u : V} {q : Rw} (nd : (a1 ++ .ref l' :: a2).Nodup) (h1 : All2 (ClL K H2 F L H) a1 l) (h2 : H l' = some (.lst us)) (h3 : All2 (RowAt K H) us c) (n2 : H2 l' = none) (nF : l' ≠ F) (nL : l' ≠ L) (h4 : All2 (ClL K H2 F L H) a2 r) (hq : RowAt K H u q) :
    All2 (ClL K H2 F L (upd H l' (.lst (us ++ [u])))) (a1 ++ .ref l' :: a2) (l ++ (c ++ [q]) :: r) := by
  have t := tk_lst (K := K) h2 (.lst (us ++ [u]))
  have oth : ∀ {x : V} {d : List Rw}, x ≠ .ref l' → ClL K H2 F L H x d → ClL K H2 F L (upd H l' (.lst (us ++ [u]))) x d := fun {x d} ne ⟨m, vs, e, g1, g2, g3, g4, g5⟩ => ⟨m, vs, e, g1, g2, g3, by rw [upd_ne (fun z => ne (by rw [e, z]))]; exact g4, g5.imp fun _ _ z => z.tk t⟩
  rw [List.nodup_append, List.nodup_cons] at nd
  obtain ⟨_, ⟨n1, _⟩, n3⟩ := nd
  have map : ∀ {as : List V} {ds : List (List Rw)}, (∀ x ∈ as, x ≠ V.ref l') → All2 (ClL K H2 F L H) as ds → All2 (ClL K H2 F L (upd H l' (.lst (us ++ [u])))) as ds := by
    intro as ds hne hh
    induction hh with
    | nil => exact .nil
    | cons z _ ih => exact .cons (oth (hne _ List.mem_cons_self) z) (ih fun x hx => hne x (List.mem_cons_of_mem _ hx))
  refine (map (fun x hx z => n3 x hx _ List.mem_cons_self z) h1).append (.cons ⟨l', us ++ [u], rfl, n2, nF, nL, upd_same, (h3.imp fun _ _ z => z.tk t).append (.cons (hq.tk t) .nil)⟩ (map (fun x hx z => n1 (by rw [← z]; exact hx)) h4))
/-! ### as tuples -/
def ClT (K : PySem.W.Frag) (H : Hp) (u : V) (c : List Rw) : Prop := ∃ (a : Addr) (us : List V), u = .ref a ∧ SqT K H a us ∧ All2 (RowAt K H) us c
theorem ClT.tk {K : PySem.W.Frag} {H H' : Hp} {u : V} {c : List Rw} (t : Tk K H H') (h : ClT K H u c) : ClT K H' u c := let ⟨a, us, e, h1, h2⟩ := h; ⟨a, us, e, t _ _ h1, h2.imp fun _ _ z => z.tk t⟩
def ClsT (K : PySem.W.Frag) (H : Hp) (v : V) (cs : List (List Rw)) : Prop := ∃ (T : Addr) (us : List V), v = .ref T ∧ SqT K H T us ∧ All2 (ClT K H) us cs
theorem ClsT.tk {K : PySem.W.Frag} {H H' : Hp} {v : V} {cs : List (List Rw)} (t : Tk K H H') (h : ClsT K H v cs) : ClsT K H' v cs := let ⟨a, us, e, h1, h2⟩ := h; ⟨a, us, e, t _ _ h1, h2.imp fun _ _ z => z.tk t⟩
def trow (r : List Int) : Tr := .tp (r.map Tr.it)
def trCls (cs : List (List Rw)) : Tr := .tp (cs.map fun c => .tp (c.map trow))
theorem row_tr {K : PySem.W.Frag} {H : Hp} {u : V} {r : List Int} (h : RowAt K H u r) : TrAt K H u (trow r) := by
  obtain ⟨a, rfl, h⟩ := h
  rw [trow, TrAt]
  refine ⟨a, _, rfl, h, TrsAt.of ?_⟩
  clear h
  induction r with
  | nil => exact .nil
  | cons t ts ih => exact .cons (by rw [TrAt]) ih
theorem a2_map {α β γ : Type} {R : α → γ → Prop} {S : α → β → Prop} (g : β → γ) (h : ∀ a b, S a b → R a (g b)) {as : List α} {bs : List β} (z : All2 S as bs) : All2 R as (bs.map g) := by
  induction z with
  | nil => exact .nil
  | cons x _ ih => exact .cons (h _ _ x) ih
theorem cls_tr {K : PySem.W.Frag} {H : Hp} {v : V} {cs : List (List Rw)} (h : ClsT K H v cs) : TrAt K H v (trCls cs) := by
  obtain ⟨T, us, rfl, h1, h2⟩ := h
  rw [trCls, TrAt]
  refine ⟨T, us, rfl, h1, TrsAt.of (a2_map _ (fun u c hc => ?_) h2)⟩
  obtain ⟨a, vs, rfl, g1, g2⟩ := hc
  rw [TrAt]
  exact ⟨a, vs, rfl, g1, TrsAt.of (a2_map _ (fun _ _ z => row_tr z) g2)⟩
theorem a2_dp {K : PySem.W.Frag} {H : Hp} {β : Type} {S : V → β → Prop} (g : β → PyData) (h : ∀ a b, S a b → Dp K H a (g b)) {as : List V} {bs : List β} (z : All2 S as bs) : DpAll K H as (bs.map g) := by
  induction z with
  | nil => exact .nil
  | cons x _ ih => exact .cons (h _ _ x) ih
theorem row_dp {K : PySem.W.Frag} {H : Hp} {u : V} {r : Rw} (h : RowAt K H u r) : Dp K H u (Da.dint r) := by
  obtain ⟨a, rfl, h⟩ := h
  exact .tup h (Da.dp_ints r)
theorem cl_dp {K : PySem.W.Frag} {H : Hp} {u : V} {c : List Rw} (h : ClT K H u c) : Dp K H u (Sd.dcl c) := by
  obtain ⟨a, us, rfl, h1, h2⟩ := h
  exact .tup h1 (a2_dp Da.dint (fun _ _ z => row_dp z) h2)
theorem tups_rows (m : Nat) : ∀ pl, tupsOf (els m) pl = Lb.rowsOf m pl
  | 0 => rfl
  | pl + 1 => by
    rw [tupsOf, Lb.rowsOf, tups_rows m pl]
    congr 1
    funext r
    unfold els ext1
    rw [List.map_map]
    rfl
def spAllPts (K : PySem.W.Frag) : Sp := fun vs H Q _ => ∃ (m pl : Nat), vs = [.int (m : Int), .int (pl : Int)] ∧ m ≤ 4 ∧ pl ≤ 2 ∧ ∀ (l : Addr) (ws : List V) (H' : Hp), Same H H' → H l = none → H' l = some (.lst ws) → All2 (RowAt K H') ws (Lb.rowsOf m pl) → Q (.ref l) H'
def spClasses (K : PySem.W.Frag) : Sp := fun vs H Q _ => ∃ (ks : List (Str × Nat)) (sv : V) (m pl k : Nat) (rels : List Rl), vs = [sv, .int (pl : Int), .int (k : Int)] ∧ StrAt K H sv m rels ∧ All2 (Fits m) rels ks ∧ ks ∈ Kd ∧ m ≤ 4 ∧ 1 ≤ pl ∧ pl ≤ 2 ∧ k ≤ 8 ∧
  ∀ (v : V) (H' : Hp), Same H H' → ClsT K H' v (parts (alk (Rs rels rels) m k) (Lb.rowsOf m pl)) → Q v H'
theorem rows_few {m pl : Nat} (hm : m ≤ 4) (hp : pl ≤ 2) : (Lb.rowsOf m pl).length ≤ 16 := by
  rw [← tups_rows, tups_len]
  unfold els
  rw [List.length_map, List.length_range]
  exact Nat.le_trans (Nat.pow_le_pow_left hm pl) (Nat.le_trans (Nat.pow_le_pow_right (by decide) hp) (by decide))
theorem put_len {al : Rw → Rw → Bool} {cs : List (List Rw)} {p : Rw} {i : Nat} (h1 : cs.length ≤ i) (h2 : ∀ c ∈ cs, c.length ≤ i) : (put al cs p).length ≤ i + 1 ∧ ∀ c ∈ put al cs p, c.length ≤ i + 1 := by
  rcases put_cases al p cs with ⟨_, e⟩ | ⟨l, c, r, e0, _, _, e⟩
  · rw [e]
    refine ⟨by rw [List.length_append, List.length_singleton]; omega, fun c hc => ?_⟩
    rcases List.mem_append.mp hc with z | z
    · exact Nat.le_succ_of_le (h2 c z)
    · rw [List.mem_singleton.mp z, List.length_singleton]; omega
  · rw [e]
    subst e0
    refine ⟨by rw [List.length_append, List.length_cons] at h1 ⊢; omega, fun d hd => ?_⟩
    rcases List.mem_append.mp hd with z | z
    · exact Nat.le_succ_of_le (h2 d (List.mem_append_left _ z))
    · rcases List.mem_cons.mp z with z | z
      · have := h2 c (List.mem_append_right _ List.mem_cons_self)
        rw [z, List.length_append, List.length_singleton]; omega
      · exact Nat.le_succ_of_le (h2 d (List.mem_append_right _ (List.mem_cons_of_mem _ z)))
theorem parts_snoc (al : Rw → Rw → Bool) (ps : List Rw) (p : Rw) : parts al (ps ++ [p]) = put al (parts al ps) p := by
  unfold parts
  rw [List.foldl_append]
  rfl
end Lb
namespace Sd
open PySem L2
theorem op_notInDT_k {X : Cx} {K : PySem.W.Frag} (h : X.K = K) (hu : X.A.units + 65 < cLine) : OpR X (compareOp .NotIn) (rNotInDT K) := by
  subst h
  intro pins s σ H x y v u Q I rx ry h
  obtain ⟨d, ds, hd, he, sd, se, q⟩ := h
  obtain ⟨as, r1⟩ := Dp.reads I d x v hd rx
  obtain ⟨bs, r2⟩ := Dp.reads I (.tuple ds) y u he ry
  exact SeqAt.notIn_tuple_reads r2 r1 (Da.lay_of se) (SeqAt.canLay_of_shaped sd) (PyProof.Rows.room_in_shaped sd hu) ⟨.bl _, H, I, rfl, q⟩
theorem cr_sortSame_k {X : Cx} {K : PySem.W.Frag} (h : X.K = K) (hu : X.A.units + 64 < cLine) : CallR X (.builtin "sorted") (rSortSame K) := by
  subst h
  exact cr_sortSame hu
end Sd
namespace Lb
open PySem L2 Fo
theorem deps_le {n : Nat} : ∀ {ts : List Tr}, (∀ t ∈ ts, 1 + t.dep ≤ n) → Tr.deps ts ≤ n
  | [], _ => Nat.zero_le _
  | t :: ts, h => by
    rw [Tr.deps]
    exact Nat.max_le.mpr ⟨h t List.mem_cons_self, deps_le fun u hu => h u (List.mem_cons_of_mem _ hu)⟩
theorem wids_le {n : Nat} : ∀ {ts : List Tr}, (∀ t ∈ ts, t.wid ≤ n) → Tr.wids ts ≤ n
  | [], _ => Nat.zero_le _
  | t :: ts, h => by
    rw [Tr.wids]
    exact Nat.max_le.mpr ⟨h t List.mem_cons_self, wids_le fun u hu => h u (List.mem_cons_of_mem _ hu)⟩
theorem trow_dep (r : List Int) : (trow r).dep ≤ 1 := by
  rw [trow, Tr.dep]
  refine deps_le fun t ht => ?_
  obtain ⟨x, _, rfl⟩ := List.mem_map.mp ht
  rw [Tr.dep]
  decide
theorem trow_wid {r : List Int} {n : Nat} (h : r.length ≤ n) : (trow r).wid ≤ n := by
  rw [trow, Tr.wid, List.length_map]
  refine Nat.max_le.mpr ⟨h, wids_le fun t ht => ?_⟩
  obtain ⟨x, _, rfl⟩ := List.mem_map.mp ht
  rw [Tr.wid]
  exact Nat.zero_le _
theorem trCls_dep (cs : List (List Rw)) : (trCls cs).dep ≤ 3 := by
  rw [trCls, Tr.dep]
  refine deps_le fun t ht => ?_
  obtain ⟨c, _, rfl⟩ := List.mem_map.mp ht
  rw [Tr.dep]
  have : Tr.deps (c.map trow) ≤ 2 := deps_le fun t ht => by
    obtain ⟨r, _, rfl⟩ := List.mem_map.mp ht
    have := trow_dep r
    omega
  omega
theorem trCls_wid {cs : List (List Rw)} {n : Nat} (h1 : cs.length ≤ n) (h2 : ∀ c ∈ cs, c.length ≤ n) (h3 : ∀ c ∈ cs, ∀ r ∈ c, r.length ≤ n) : (trCls cs).wid ≤ n := by
  rw [trCls, Tr.wid, List.length_map]
  refine Nat.max_le.mpr ⟨h1, wids_le fun t ht => ?_⟩
  obtain ⟨c, hc, rfl⟩ := List.mem_map.mp ht
  rw [Tr.wid, List.length_map]
  refine Nat.max_le.mpr ⟨h2 c hc, wids_le fun t ht => ?_⟩
  obtain ⟨r, hr, rfl⟩ := List.mem_map.mp ht
  exact trow_wid (h3 c hc r hr)
theorem all_in (o c : List Rw) : decide ((c.filter fun r => !decide (r ∈ o)).length = 0) = c.all fun r => decide (r ∈ o) := by
  rw [Bool.eq_iff_iff, decide_eq_true_eq, List.length_eq_zero_iff, List.filter_eq_nil_iff, List.all_eq_true]
  constructor
  · intro h r hr
    have := h r hr
    simpa using this
  · intro h r hr
    rw [h r hr]
    simp
end Lb
namespace Lb
theorem parts_len (al : Rw → Rw → Bool) (ps : List Rw) : (parts al ps).length ≤ ps.length ∧ ∀ c ∈ parts al ps, c.length ≤ ps.length := by
  have : ∀ i, i ≤ ps.length → (parts al (ps.take i)).length ≤ i ∧ ∀ c ∈ parts al (ps.take i), c.length ≤ i := by
    intro i
    induction i with
    | zero => intro _; exact ⟨Nat.le_refl _, fun c h => nomatch h⟩
    | succ i ih =>
      intro hi
      obtain ⟨h1, h2⟩ := ih (by omega)
      rw [List.take_succ, List.getElem?_eq_getElem (show i < ps.length by omega)]
      show (parts al (ps.take i ++ [_])).length ≤ i + 1 ∧ ∀ c ∈ parts al (ps.take i ++ [_]), c.length ≤ i + 1
      rw [parts_snoc]
      exact put_len h1 h2
  have h := this ps.length (Nat.le_refl _)
  rw [List.take_length] at h
  exact h
end Lb

set_option Elab.async false
set_option linter.all false
set_option maxRecDepth 100000
set_option maxHeartbeats 4000000
/-! the defs of the text, their slots -/
namespace J23
open PySem L2 Lb
def top (i : Nat) : Stmt := PySem.Challenge.pw_finitestructures_k23_classes_of_points.main.body.getD i (.Pass ⟨0, 0, 0, 0⟩)
abbrev s_wall : Stmt := top 0
abbrev n_wall : List Str := ["k"]
abbrev p_wall : List Str := ["k"]
theorem sc_wall : FnScope n_wall p_wall (defScope s_wall) := ⟨rfl, rfl, rfl, by decide +kernel, rfl, by decide +kernel, by decide +kernel⟩
abbrev s_rows_of : Stmt := top 2
abbrev n_rows_of : List Str := ["things", "places", "rows", "_", "row", "thing"]
abbrev p_rows_of : List Str := ["things", "places"]
theorem sc_rows_of : FnScope n_rows_of p_rows_of (defScope s_rows_of) := ⟨rfl, rfl, rfl, by decide +kernel, rfl, by decide +kernel, by decide +kernel⟩
abbrev s_all_points : Stmt := top 3
abbrev n_all_points : List Str := ["many", "places"]
abbrev p_all_points : List Str := ["many", "places"]
theorem sc_all_points : FnScope n_all_points p_all_points (defScope s_all_points) := ⟨rfl, rfl, rfl, by decide +kernel, rfl, by decide +kernel, by decide +kernel⟩
abbrev s_meeting : Stmt := top 5
abbrev n_meeting : List Str := ["points", "others"]
abbrev p_meeting : List Str := ["points", "others"]
theorem sc_meeting : FnScope n_meeting p_meeting (defScope s_meeting) := ⟨rfl, rfl, rfl, by decide +kernel, rfl, by decide +kernel, by decide +kernel⟩
abbrev s_met : Stmt := top 6
abbrev n_met : List Str := ["pairs", "pair"]
abbrev p_met : List Str := ["pairs", "pair"]
theorem sc_met : FnScope n_met p_met (defScope s_met) := ⟨rfl, rfl, rfl, by decide +kernel, rfl, by decide +kernel, by decide +kernel⟩
abbrev s_is_one_to_one : Stmt := top 7
abbrev n_is_one_to_one : List Str := ["pairs", "x", "_", "y"]
abbrev p_is_one_to_one : List Str := ["pairs"]
theorem sc_is_one_to_one : FnScope n_is_one_to_one p_is_one_to_one (defScope s_is_one_to_one) := ⟨rfl, rfl, rfl, by decide +kernel, rfl, by decide +kernel, by decide +kernel⟩
abbrev s_Game_init_ : Stmt := inClass (top 8) 0
abbrev n_Game_init_ : List Str := ["self", "structure", "other", "_", "places", "rows", "opposite", "row"]
abbrev p_Game_init_ : List Str := ["self", "structure", "other"]
theorem sc_Game_init_ : FnScope n_Game_init_ p_Game_init_ (defScope s_Game_init_) := ⟨rfl, rfl, rfl, by decide +kernel, rfl, by decide +kernel, by decide +kernel⟩
abbrev s_Game_fair : Stmt := inClass (top 8) 1
abbrev n_Game_fair : List Str := ["self", "pairs"]
abbrev p_Game_fair : List Str := ["self", "pairs"]
theorem sc_Game_fair : FnScope n_Game_fair p_Game_fair (defScope s_Game_fair) := ⟨rfl, rfl, rfl, by decide +kernel, rfl, by decide +kernel, by decide +kernel⟩
abbrev s_Game_keeps : Stmt := inClass (top 8) 2
abbrev n_Game_keeps : List Str := ["self", "pairs", "places", "rows", "others", "chosen", "one", "two", "x", "_", "y"]
abbrev p_Game_keeps : List Str := ["self", "pairs"]
theorem sc_Game_keeps : FnScope n_Game_keeps p_Game_keeps (defScope s_Game_keeps) := ⟨rfl, rfl, rfl, by decide +kernel, rfl, by decide +kernel, by decide +kernel⟩
abbrev s_Game_alike : Stmt := inClass (top 8) 3
abbrev n_Game_alike : List Str := ["self", "pairs", "rounds", "key", "found", "side", "picked"]
abbrev p_Game_alike : List Str := ["self", "pairs", "rounds"]
theorem sc_Game_alike : FnScope n_Game_alike p_Game_alike (defScope s_Game_alike) := ⟨rfl, rfl, rfl, by decide +kernel, rfl, by decide +kernel, by decide +kernel⟩
abbrev s_Game_picks : Stmt := inClass (top 8) 4
abbrev n_Game_picks : List Str := ["self", "side", "picked"]
abbrev p_Game_picks : List Str := ["self"]
theorem sc_Game_picks : FnScope n_Game_picks p_Game_picks (defScope s_Game_picks) := ⟨rfl, rfl, rfl, by decide +kernel, rfl, by decide +kernel, by decide +kernel⟩
abbrev s_Game_replies : Stmt := inClass (top 8) 5
abbrev n_Game_replies : List Str := ["self", "side", "picked", "answers", "answer"]
abbrev p_Game_replies : List Str := ["self", "side", "picked"]
theorem sc_Game_replies : FnScope n_Game_replies p_Game_replies (defScope s_Game_replies) := ⟨rfl, rfl, rfl, by decide +kernel, rfl, by decide +kernel, by decide +kernel⟩
abbrev s_Game_reply : Stmt := inClass (top 8) 6
abbrev n_Game_reply : List Str := ["self", "pairs", "side", "picked", "rounds", "pair"]
abbrev p_Game_reply : List Str := ["self", "pairs", "side", "picked", "rounds"]
theorem sc_Game_reply : FnScope n_Game_reply p_Game_reply (defScope s_Game_reply) := ⟨rfl, rfl, rfl, by decide +kernel, rfl, by decide +kernel, by decide +kernel⟩
abbrev s_Game_least_rounds : Stmt := inClass (top 8) 7
abbrev n_Game_least_rounds : List Str := ["self", "pairs"]
abbrev p_Game_least_rounds : List Str := ["self", "pairs"]
theorem sc_Game_least_rounds : FnScope n_Game_least_rounds p_Game_least_rounds (defScope s_Game_least_rounds) := ⟨rfl, rfl, rfl, by decide +kernel, rfl, by decide +kernel, by decide +kernel⟩
abbrev s_classes : Stmt := top 10
abbrev n_classes : List Str := ["structure", "many", "rounds", "game", "found", "points", "like", "rows"]
abbrev p_classes : List Str := ["structure", "many", "rounds"]
theorem sc_classes : FnScope n_classes p_classes (defScope s_classes) := ⟨rfl, rfl, rfl, by decide +kernel, rfl, by decide +kernel, by decide +kernel⟩
abbrev s_law_cell : Stmt := top 12
abbrev n_law_cell : List Str := ["script", "k"]
abbrev p_law_cell : List Str := ["script", "k"]
theorem sc_law_cell : FnScope n_law_cell p_law_cell (defScope s_law_cell) := ⟨rfl, rfl, rfl, by decide +kernel, rfl, by decide +kernel, by decide +kernel⟩
abbrev s_law_digits : Stmt := top 13
abbrev n_law_digits : List Str := ["script", "first", "last", "digits", "k", "cell", "turn", "seed"]
abbrev p_law_digits : List Str := ["script", "first", "last"]
theorem sc_law_digits : FnScope n_law_digits p_law_digits (defScope s_law_digits) := ⟨rfl, rfl, rfl, by decide +kernel, rfl, by decide +kernel, by decide +kernel⟩
abbrev s_law_draw : Stmt := top 14
abbrev n_law_draw : List Str := ["box", "many", "at"]
abbrev p_law_draw : List Str := ["box", "many"]
theorem sc_law_draw : FnScope n_law_draw p_law_draw (defScope s_law_draw) := ⟨rfl, rfl, rfl, by decide +kernel, rfl, by decide +kernel, by decide +kernel⟩
abbrev s_law_same : Stmt := top 15
abbrev n_law_same : List Str := ["actual", "expected", "k"]
abbrev p_law_same : List Str := ["actual", "expected"]
theorem sc_law_same : FnScope n_law_same p_law_same (defScope s_law_same) := ⟨rfl, rfl, rfl, by decide +kernel, rfl, by decide +kernel, by decide +kernel⟩
abbrev s_law_box : Stmt := top 16
abbrev n_law_box : List Str := ["script", "first", "last"]
abbrev p_law_box : List Str := ["script", "first", "last"]
theorem sc_law_box : FnScope n_law_box p_law_box (defScope s_law_box) := ⟨rfl, rfl, rfl, by decide +kernel, rfl, by decide +kernel, by decide +kernel⟩
abbrev s_law_kinds : Stmt := top 17
abbrev n_law_kinds : List Str := ["box"]
abbrev p_law_kinds : List Str := ["box"]
theorem sc_law_kinds : FnScope n_law_kinds p_law_kinds (defScope s_law_kinds) := ⟨rfl, rfl, rfl, by decide +kernel, rfl, by decide +kernel, by decide +kernel⟩
abbrev s_law_tuples : Stmt := top 18
abbrev n_law_tuples : List Str := ["many", "places", "rows", "k", "longer", "row", "x"]
abbrev p_law_tuples : List Str := ["many", "places"]
theorem sc_law_tuples : FnScope n_law_tuples p_law_tuples (defScope s_law_tuples) := ⟨rfl, rfl, rfl, by decide +kernel, rfl, by decide +kernel, by decide +kernel⟩
abbrev s_law_structure : Stmt := top 19
abbrev n_law_structure : List Str := ["box", "kinds", "many", "relations", "name", "places", "often", "rows", "row"]
abbrev p_law_structure : List Str := ["box", "kinds", "many"]
theorem sc_law_structure : FnScope n_law_structure p_law_structure (defScope s_law_structure) := ⟨rfl, rfl, rfl, by decide +kernel, rfl, by decide +kernel, by decide +kernel⟩
abbrev s_law_fair : Stmt := top 20
abbrev n_law_fair : List Str := ["structure", "other", "points", "others", "many", "i", "j", "k", "row", "one", "two"]
abbrev p_law_fair : List Str := ["structure", "other", "points", "others"]
theorem sc_law_fair : FnScope n_law_fair p_law_fair (defScope s_law_fair) := ⟨rfl, rfl, rfl, by decide +kernel, rfl, by decide +kernel, by decide +kernel⟩
abbrev s_law_alike : Stmt := top 21
abbrev n_law_alike : List Str := ["structure", "other", "points", "others", "rounds", "fits", "x", "row", "y"]
abbrev p_law_alike : List Str := ["structure", "other", "points", "others", "rounds"]
theorem sc_law_alike : FnScope n_law_alike p_law_alike (defScope s_law_alike) := ⟨rfl, rfl, rfl, by decide +kernel, rfl, by decide +kernel, by decide +kernel⟩
abbrev s_law : Stmt := top 22
abbrev n_law : List Str := ["script", "box", "structure", "many", "before", "rounds", "rows", "points", "near", "due", "row", "old"]
abbrev p_law : List Str := ["script"]
theorem sc_law : FnScope n_law p_law (defScope s_law) := ⟨rfl, rfl, rfl, by decide +kernel, rfl, by decide +kernel, by decide +kernel⟩
end J23

set_option Elab.async false
set_option linter.all false
set_option maxRecDepth 100000
set_option maxHeartbeats 4000000
namespace J23
open PySem L2 Fo Lb Ndk
open C8 (Cal pe_c pss_cut)
section
variable {P : Program} {w : World} {K : PySem.W.Frag} {mg : Str → Option Value} {base : Heap}
theorem ok_cell {f : Addr} {fd : FuncData} (B : Bt mg) (F : Fun K "_law_cell" "_law_cell" s_law_cell f fd) : FnOk P w K mg base CX0 1 f fd ["script", "k"] (spLCell K) := by
  refine F.ok sc_law_cell (fun vs H Q E h => ?_) (fun cdv A outer s H vs Q E hr h => ?_)
  · obtain ⟨a, ns, k, rfl, _⟩ := h
    rfl
  obtain ⟨a, ns, k, rfl, hS, h0, q⟩ := h
  refine ⟨_, pss_cons (ps_if (pt_cmpR op_lt (pv 1) (pe_callB call_len_seq rfl B.len PySem.boot_len (pa_cons (pv 0) pa_nil)) (nomark _)) (pss_one (ps_ret (pe_ix ix_list (pv 0) (pv 1) (fun _ _ => rfl)))) pss_nil)
    (pss_one (ps_ret pe_int)), ?_⟩
  refine ⟨_, rfl, _, rfl, a, _, rfl, .inl hS, _, _, rfl, rfl, _, rfl, ?_⟩
  refine ite2 (fun c => ?_) (fun c => ?_)
  · have c' : k < (((ns.map V.int).length : Nat) : Int) := of_decide_eq_true c
    rw [List.length_map] at c'
    obtain ⟨v, hv⟩ := at_int h0 c'
    exact ⟨_, rfl, _, rfl, a, _, _, _, rfl, rfl, hS, hv, q _⟩
  · exact q _
theorem ok_draw {f : Addr} {fd : FuncData} (B : Bt mg) (F : Fun K "_law_draw" "_law_draw" s_law_draw f fd) : FnOk P w K mg base CX0 1 f fd ["box", "many"] spDraw := by
  refine F.ok sc_law_draw (fun vs H Q E h => ?_) (fun cdv A outer s H vs Q E hr h => ?_)
  · obtain ⟨b, d, m, rfl, _⟩ := h
    rfl
  obtain ⟨b, d, m, rfl, ⟨ns, i, h1, h2, h3, h4⟩, hm, q⟩ := h
  refine ⟨_, pss_cons (ps_set (i := 2) sc_law_draw.nd rfl (.inl rfl) (pe_ix ix_list (pv 0) pe_int (fun _ _ => rfl)))
    (pss_cons (ps_asg (pe_op op_add (pv 2) pe_int) (pg_sub (pv 0) pe_int set_list))
    (pss_cons (ps_if (pt_cmpR op_lt (pv 2) (pe_callB call_len_seq rfl B.len PySem.boot_len (pa_cons (pe_ix ix_list (pv 0) pe_int (fun _ _ => rfl)) pa_nil)) (nomark _))
      (pss_one (ps_ret (pe_op op_mod (pe_callTy call_int1 rfl B.int (by decide +kernel) (pa_cons (pe_ix ix_list (pe_ix ix_list (pv 0) pe_int (fun _ _ => rfl)) (pv 2) (fun _ _ => rfl)) pa_nil)) (pv 1)))) pss_nil)
    (pss_one (ps_ret pe_int)))), ?_⟩
  refine ⟨_, rfl, b, _, _, _, rfl, rfl, SqL.of h1, at_of (j := 1) rfl rfl, ?_⟩
  refine ⟨_, rfl, _, _, rfl, rfl, _, rfl, b, _, 1, 1, rfl, rfl, h1, rfl, ?_⟩
  have g1 : upd H b (.lst ([V.ref d, V.int i].set 1 (.int (i + 1)))) b = some (.lst [.ref d, .int (i + 1)]) := upd_same
  have g2 : upd H b (.lst ([V.ref d, V.int i].set 1 (.int (i + 1)))) d = some (.lst (ns.map V.int)) := by rw [upd_ne h4]; exact h2
  have g3 : But b H (upd H b (.lst ([V.ref d, V.int i].set 1 (.int (i + 1))))) := fun a o n e => by rw [upd_ne n]; exact e
  have g4 : BoxAt (upd H b (.lst ([V.ref d, V.int i].set 1 (.int (i + 1))))) b d := ⟨ns, i + 1, g1, g2, by omega, h4⟩
  refine ⟨_, rfl, _, rfl, b, _, _, _, rfl, rfl, SqL.of g1, at_of (j := 0) rfl rfl, d, _, rfl, .inl (SqL.of g2), _, _, rfl, rfl, _, rfl, ?_⟩
  refine ite2 (fun c => ?_) (fun c => ?_)
  · have c' : i < (((ns.map V.int).length : Nat) : Int) := of_decide_eq_true c
    rw [List.length_map] at c'
    obtain ⟨v, hv⟩ := at_int h3 c'
    refine ⟨_, rfl, b, _, _, _, rfl, rfl, SqL.of g1, at_of (j := 0) rfl rfl, _, rfl, d, _, _, _, rfl, rfl, SqL.of g2, hv, .inl ⟨_, rfl, _, rfl, _, _, rfl, rfl, hm, ?_⟩⟩
    exact q _ _ (Int.emod_nonneg _ (by omega)) (Int.emod_lt_of_pos _ hm) g3 g4
  · exact q _ _ (Int.le_refl 0) hm g3 g4
theorem ok_digits {f : Addr} {fd : FuncData} (B : Bt mg) (c_law_cell : Cal P w K mg base 1 "_law_cell" (spLCell K) []) (F : Fun K "_law_digits" "_law_digits" s_law_digits f fd) : FnOk P w K mg base CX0 2 f fd ["script", "first", "last"] (spDigits K) := by
  refine F.ok sc_law_digits (fun vs H Q E h => ?_) (fun cdv A outer s H vs Q E hr h => ?_)
  · obtain ⟨a, ns, L, rfl, _⟩ := h
    rfl
  obtain ⟨a, ns, L, rfl, hL, hS, q⟩ := h
  have nd := sc_law_digits.nd
  refine ⟨_, pss_cons (ps_set (i := 3) nd rfl (.inl rfl) (pe_lst pa_nil))
    (pss_cons (ps_for PassesOwn.never rfl (pi_range2 (by rfl) B.range (pa_cons (pv 1) (pa_cons (pv 2) pa_nil))) (pg_name (i := 4) nd rfl (.inl rfl))
      (pss_cons (ps_set (i := 5) nd rfl (.inl rfl) (pe_c c_law_cell hr (by decide) rfl (pa_cons (pv 0) (pa_cons (pv 4) pa_nil))))
      (pss_cut (ps_if (pt_cmpR op_lt (pv 5) pe_int (nomark _)) (pss_one (ps_set (i := 5) nd rfl (.inl rfl) (pe_op op_sub pe_int (pe_op op_mul pe_int (pv 5))))) pss_nil)
      (pss_one (ps_if (pt_cmpR op_ge (pv 5) (pe_op op_pow pe_int pe_int) (nomark _))
        (pss_one (ps_for PassesOwn.never rfl (pi_range1 rfl B.range (pa_cons pe_int pa_nil)) (pg_name (i := 6) nd rfl (.inl rfl))
          (pss_one (ps_if (pt_cmpR op_gt (pv 5) pe_int (nomark _))
            (pss_cons (ps_expr (pe_bm PySem.F.plainAttrs_list PySem.F.slot_list_append PySem.F.type_list_append mt_append (pv 3) (pa_cons (pe_op op_mod (pe_callTy call_int1 rfl B.int (by decide +kernel) (pa_cons (pv 5) pa_nil)) pe_int) pa_nil)))
            (pss_one (ps_set (i := 5) nd rfl (.inl rfl) (pe_op op_fdiv (pv 5) pe_int)))) pss_nil))))
        (pss_cons (ps_set (i := 7) nd rfl (.inl rfl) (pe_op op_mod (pe_callTy call_int1 rfl B.int (by decide +kernel) (pa_cons (pe_op op_add (pe_op op_add (pe_op op_mul (pv 5) pe_int) (pe_op op_mul (pv 4) pe_int)) pe_int) pa_nil)) pe_int))
        (pss_one (ps_for PassesOwn.never rfl (pi_range1 rfl B.range (pa_cons pe_int pa_nil)) (pg_name (i := 6) nd rfl (.inl rfl))
          (pss_cons (ps_set (i := 7) nd rfl (.inl rfl) (pe_op op_mod (pe_callTy call_int1 rfl B.int (by decide +kernel) (pa_cons (pe_op op_add (pe_op op_add (pe_op op_mul (pv 7) pe_int) (pe_op op_mul pe_int (pv 6))) pe_int) pa_nil)) pe_int))
          (pss_one (ps_expr (pe_bm PySem.F.plainAttrs_list PySem.F.slot_list_append PySem.F.type_list_append mt_append (pv 3) (pa_cons (pe_op op_mod (pe_callTy call_int1 rfl B.int (by decide +kernel) (pa_cons (pe_op op_fdiv (pv 7) pe_int) pa_nil)) pe_int) pa_nil)))))))))))))
    (pss_one (ps_ret (pv 3)))), ?_⟩
  refine ⟨Nat.zero_le _, fun D nD => ?_⟩
  refine ⟨_, rfl, _, rfl, 0, (L : Int), rfl, ⟨by decide, by decide, by omega, by omega⟩, for_range (lo := 0) (n := ((L : Int) - 0).toNat) (fun i σ H' => ∃ (ms : List Int) (k c t sd : Option V), σ = [some (.ref a), some (.int 0), some (.int (L : Int)), some (.ref D), k, c, t, sd] ∧ Same H H' ∧ H' D = some (.lst (ms.map V.int)) ∧ ms.length ≤ 60 * i)
    ⟨[], none, none, none, none, rfl, same_new nD _, upd_same, Nat.zero_le _⟩ ?_ ?_⟩
  · rintro i σ H1 hi ⟨ms, k, c, t, sd, rfl, s1, hD, hl⟩
    refine ⟨_, rfl, _, rfl, a, ns, 0 + (i : Int), rfl, s1.seq hS, by omega, fun z => ?_⟩
    refine ⟨fun σ' H' => ∃ y : Int, H' = H1 ∧ σ' = [some (.ref a), some (.int 0), some (.int (L : Int)), some (.ref D), some (.int (0 + (i : Int))), some (.int y), t, sd], ⟨_, rfl, _, _, rfl, rfl, _, rfl, ite2 (fun _ => ?_) (fun _ => ?_)⟩, ?_⟩
    · exact ⟨_, rfl, _, _, rfl, rfl, .inl ⟨by decide, by decide⟩, _, _, rfl, rfl, _, rfl, rfl⟩
    · exact ⟨z, rfl, rfl⟩
    rintro σ' H' ⟨y, rfl, rfl⟩
    refine ⟨_, rfl, _, _, rfl, rfl, ⟨by decide, by decide, by decide⟩, _, _, rfl, rfl, _, rfl, ite2 (fun _ => ?_) (fun _ => ?_)⟩
    · refine ⟨60, rfl, by decide, by decide, for_range (lo := 0) (n := 60) (fun j σ H2 => ∃ (ms2 : List Int) (y t : Int) (t' : Option V), σ = [some (.ref a), some (.int 0), some (.int (L : Int)), some (.ref D), some (.int (0 + (i : Int))), some (.int y), t', sd] ∧ Same H H2 ∧ H2 D = some (.lst (ms2.map V.int)) ∧ ms2.length ≤ 60 * i + j)
        ⟨ms, y, 0, t, rfl, s1, hD, by omega⟩ ?_ ?_⟩
      · rintro j σ H2 hj ⟨ms2, y2, _, t', rfl, s2, hD2, hl2⟩
        refine ⟨_, rfl, _, _, rfl, rfl, _, rfl, ite2 (fun _ => ?_) (fun _ => ?_)⟩
        · refine ⟨_, rfl, .inl ⟨rfl, _, SqL.of hD2⟩, _, rfl, .inl ⟨_, rfl, _, _, rfl, rfl, (by show (0 : Int) < 1000; decide), D, _, _, rfl, rfl, hD2, lineOk (by rw [List.length_map]; omega), _, rfl, _, _, rfl, rfl, ⟨by decide, by decide⟩, ?_⟩⟩
          exact ⟨ms2 ++ [y2 % 1000], _, 0, _, rfl, same_to s2 nD, by rw [upd_same, ints_snoc], by rw [List.length_append, List.length_singleton]; omega⟩
        · exact ⟨ms2, y2, 0, _, rfl, s2, hD2, by omega⟩
      · rintro σ H2 ⟨ms2, y2, _, t', rfl, s2, hD2, hl2⟩
        exact ⟨ms2, _, _, _, _, rfl, s2, hD2, by omega⟩
    · refine ⟨_, rfl, _, _, rfl, rfl, .inr ⟨by decide, by decide⟩, _, rfl, _, _, rfl, rfl, .inr ⟨by decide, by decide⟩, _, _, rfl, rfl, _, _, rfl, rfl, .inl ⟨_, rfl, _, _, rfl, rfl, (by show (0 : Int) < 2147483647; decide), ?_⟩⟩
      refine ⟨12, rfl, by decide, by decide, for_range (lo := 0) (n := 12) (fun j σ H2 => ∃ (ms2 : List Int) (u : Int) (t' : Option V), σ = [some (.ref a), some (.int 0), some (.int (L : Int)), some (.ref D), some (.int (0 + (i : Int))), some (.int y), t', some (.int u)] ∧ Same H H2 ∧ H2 D = some (.lst (ms2.map V.int)) ∧ ms2.length ≤ 60 * i + j)
        ⟨ms, _, t, rfl, s1, hD, by omega⟩ ?_ ?_⟩
      · rintro j σ H2 hj ⟨ms2, u2, t', rfl, s2, hD2, hl2⟩
        refine ⟨_, rfl, _, _, rfl, rfl, .inr ⟨by decide, by decide⟩, _, rfl, _, _, rfl, rfl, .inl ⟨by decide, by decide⟩, _, _, rfl, rfl, _, _, rfl, rfl, .inl ⟨_, rfl, _, _, rfl, rfl, (by show (0 : Int) < 2147483647; decide), ?_⟩⟩
        refine ⟨_, rfl, .inl ⟨rfl, _, SqL.of hD2⟩, _, rfl, _, _, rfl, rfl, ⟨by decide, by decide⟩, .inl ⟨_, rfl, _, _, rfl, rfl, (by show (0 : Int) < 1000; decide), D, _, _, rfl, rfl, hD2, lineOk (by rw [List.length_map]; omega), ?_⟩⟩
        exact ⟨ms2 ++ [_], _, _, rfl, same_to s2 nD, by rw [upd_same, ints_snoc], by rw [List.length_append, List.length_singleton]; omega⟩
      · rintro σ H2 ⟨ms2, u2, t', rfl, s2, hD2, hl2⟩
        exact ⟨ms2, _, _, _, _, rfl, s2, hD2, by omega⟩
  · rintro σ H1 ⟨ms, k, c, t, sd, rfl, s1, hD, hl⟩
    exact ⟨_, rfl, q D ms _ s1 nD hD⟩

theorem ok_box {f : Addr} {fd : FuncData} (c_law_digits : Cal P w K mg base 2 "_law_digits" (spDigits K) []) (F : Fun K "_law_box" "_law_box" s_law_box f fd) : FnOk P w K mg base CX0 3 f fd ["script", "first", "last"] (spBox K) := by
  refine F.ok sc_law_box (fun vs H Q E h => ?_) (fun cdv A outer s H vs Q E hr h => ?_)
  · obtain ⟨a, ns, L, rfl, _⟩ := h
    rfl
  obtain ⟨a, ns, L, rfl, hL, hS, q⟩ := h
  refine ⟨_, pss_one (ps_ret (pe_lst (pa_cons (pe_c c_law_digits hr (by decide) rfl (pa_cons (pv 0) (pa_cons (pv 1) (pa_cons (pv 2) pa_nil)))) (pa_cons pe_int pa_nil)))), ?_⟩
  refine ⟨_, rfl, _, rfl, _, rfl, a, ns, L, rfl, hL, hS, fun d ms H1 s1 n1 h1 => ⟨by show 2 ≤ sizeLine; decide, fun b nb => ?_⟩⟩
  have ne : d ≠ b := ne_of_none h1 nb
  exact q b d _ (s1.trans (same_new nb _)) (s1.free nb) ⟨ms, 0, upd_same, by rw [upd_ne ne]; exact h1, Int.le_refl 0, ne⟩
theorem ok_kinds {f : Addr} {fd : FuncData} (c_law_draw : Cal P w K mg base 1 "_law_draw" spDraw []) (F : Fun K "_law_kinds" "_law_kinds" s_law_kinds f fd) : FnOk P w K mg base CX0 2 f fd ["box"] (spKinds K) := by
  refine F.ok sc_law_kinds (fun vs H Q E h => ?_) (fun cdv A outer s H vs Q E hr h => ?_)
  · obtain ⟨b, d, rfl, _⟩ := h
    rfl
  obtain ⟨b, d, rfl, hB, q⟩ := h
  refine ⟨_, pss_one (ps_ret (pe_ix ix_list (pe_lst
      (pa_cons (pe_tup (pa_cons (pe_tup (pa_cons pe_str (pa_cons pe_int pa_nil))) pa_nil))
      (pa_cons (pe_tup (pa_cons (pe_tup (pa_cons pe_str (pa_cons pe_int pa_nil))) (pa_cons (pe_tup (pa_cons pe_str (pa_cons pe_int pa_nil))) pa_nil)))
      (pa_cons (pe_tup (pa_cons (pe_tup (pa_cons pe_str (pa_cons pe_int pa_nil))) (pa_cons (pe_tup (pa_cons pe_str (pa_cons pe_int pa_nil))) pa_nil)))
      (pa_cons (pe_tup (pa_cons (pe_tup (pa_cons pe_str (pa_cons pe_int pa_nil))) (pa_cons (pe_tup (pa_cons pe_str (pa_cons pe_int pa_nil))) pa_nil)))
      (pa_cons (pe_tup pa_nil) pa_nil))))))
    (pe_c c_law_draw hr (by decide) rfl (pa_cons (pv 0) (pa_cons pe_int pa_nil))) (fun _ _ => rfl))), ?_⟩
  refine ⟨l2, fun p1 n1 => ⟨l1, fun a1 m1 => ?_⟩⟩
  have k1 := kinds_new (K := K) (ks := [("E", 2)]) m1 (us := [.ref p1]) (by decide +kernel) (.cons (pair_new "E" 2) .nil)
  have s1 := (same_new n1 (.tup [.str "E", .int 2])).trans (same_new m1 (.tup [.ref p1]))
  refine ⟨l2, fun p2 n2 => ⟨l2, fun p3 n3 => ⟨l2, fun a2 m2 => ?_⟩⟩⟩
  have t2 := (same_new n2 (.tup [.str "E", .int 2])).trans ((same_new n3 (.tup [.str "P", .int 1])).trans (same_new m2 (.tup [.ref p2, .ref p3])))
  have k2 := kinds_new (K := K) (ks := [("E", 2), ("P", 1)]) m2 (us := [.ref p2, .ref p3]) (by decide +kernel) (.cons ((pair_new "E" 2).tk (tk_new n3 _)) (.cons (pair_new "P" 1) .nil))
  refine ⟨l2, fun p4 n4 => ⟨l2, fun p5 n5 => ⟨l2, fun a3 m3 => ?_⟩⟩⟩
  have t3 := (same_new n4 (.tup [.str "P", .int 1])).trans ((same_new n5 (.tup [.str "Q", .int 1])).trans (same_new m3 (.tup [.ref p4, .ref p5])))
  have k3 := kinds_new (K := K) (ks := [("P", 1), ("Q", 1)]) m3 (us := [.ref p4, .ref p5]) (by decide +kernel) (.cons ((pair_new "P" 1).tk (tk_new n5 _)) (.cons (pair_new "Q" 1) .nil))
  refine ⟨l2, fun p6 n6 => ⟨l2, fun p7 n7 => ⟨l2, fun a4 m4 => ?_⟩⟩⟩
  have t4 := (same_new n6 (.tup [.str "E", .int 2])).trans ((same_new n7 (.tup [.str "F", .int 2])).trans (same_new m4 (.tup [.ref p6, .ref p7])))
  have k4 := kinds_new (K := K) (ks := [("E", 2), ("F", 2)]) m4 (us := [.ref p6, .ref p7]) (by decide +kernel) (.cons ((pair_new "E" 2).tk (tk_new n7 _)) (.cons (pair_new "F" 2) .nil))
  refine ⟨Nat.zero_le _, fun a5 m5 => ⟨by show 5 ≤ sizeLine; decide, fun L nL => ?_⟩⟩
  have k5 := kinds_new (K := K) (ks := []) m5 (us := []) (by decide +kernel) .nil
  have t5 := same_new m5 (.tup [])
  have tL := same_new nL (.lst [.ref a1, .ref a2, .ref a3, .ref a4, .ref a5])
  have all := s1.trans (t2.trans (t3.trans (t4.trans (t5.trans tL))))
  have k5' := k5.tk (.of_same tL)
  have k4' := k4.tk (.of_same (t5.trans tL))
  have k3' := k3.tk (.of_same (t4.trans (t5.trans tL)))
  have k2' := k2.tk (.of_same (t3.trans (t4.trans (t5.trans tL))))
  have k1' := k1.tk (.of_same (t2.trans (t3.trans (t4.trans (t5.trans tL)))))
  have hB' := hB.same all
  refine ⟨_, rfl, b, d, 5, rfl, hB', by decide, fun r H1 r0 r1 b1 x1 => ?_⟩
  have nLb : L ≠ b := fun e => by
    obtain ⟨ns, i, h1, _⟩ := hB
    have z := (s1.trans (t2.trans (t3.trans (t4.trans t5)))) _ _ h1
    rw [e, z] at nL
    cases nL
  obtain ⟨v, hv, ha⟩ := item_lt (xs := [.ref a1, .ref a2, .ref a3, .ref a4, .ref a5]) (n := 5) r0 r1 rfl
  refine ⟨L, _, _, v, rfl, rfl, SqL.of (b1 _ _ nLb upd_same), ha, ?fin⟩
  have T := b1.tk (K := K) hB'
  simp only [List.mem_cons, List.not_mem_nil, or_false] at hv
  rcases hv with rfl | rfl | rfl | rfl | rfl
  · exact q _ _ H1 ((But.of_same all).trans b1) x1 (k1'.tk T)
  · exact q _ _ H1 ((But.of_same all).trans b1) x1 (k2'.tk T)
  · exact q _ _ H1 ((But.of_same all).trans b1) x1 (k3'.tk T)
  · exact q _ _ H1 ((But.of_same all).trans b1) x1 (k4'.tk T)
  · exact q _ _ H1 ((But.of_same all).trans b1) x1 (k5'.tk T)
theorem ok_same {n : Nat} {f : Addr} {fd : FuncData} (B : Bt mg) (c_law_same : Cal P w K mg base n "_law_same" (spSame K n) []) (F : Fun K "_law_same" "_law_same" s_law_same f fd) : FnOk P w K mg base CX0 (n + 1) f fd ["actual", "expected"] (spSame K (n + 1)) := by
  refine F.ok sc_law_same (fun vs H Q E h => ?_) (fun cdv A outer s H vs Q E hr h => ?_)
  · obtain ⟨x, y, t, rfl, _⟩ := h
    rfl
  obtain ⟨x, y, t, rfl, hx, hy, hd, hw, q⟩ := h
  have nd := sc_law_same.nd
  refine ⟨_, (pss_cons (ps_if (pt_val (pe_callB call_isi rfl B.isinstance (by decide +kernel) (pa_cons (pv 1) (pa_cons (pe_bltn (v := .ty "tuple") rfl B.tuple (by decide +kernel) rfl) pa_nil)))) (pss_cons (ps_if (PW.pt (pw_or (pt_not (pt_val (pe_callB call_isi rfl B.isinstance (by decide +kernel) (pa_cons (pv 0) (pa_cons (pe_bltn (v := .ty "tuple") rfl B.tuple (by decide +kernel) rfl) pa_nil))))) (pw_or1 (pt_cmpR op_ne (pe_callB call_len_seq rfl B.len PySem.boot_len (pa_cons (pv 0) pa_nil)) (pe_callB call_len_seq rfl B.len PySem.boot_len (pa_cons (pv 1) pa_nil)) (nomark _))))) (pss_one (ps_ret pe_bl)) pss_nil)
    (pss_cons (ps_for PassesOwn.never rfl (pi_range1 rfl B.range (pa_cons (pe_callB call_len_seq rfl B.len PySem.boot_len (pa_cons (pv 1) pa_nil)) pa_nil)) (pg_name (i := 2) nd rfl (.inl rfl)) (pss_one (ps_if (pt_not (pt_val (pe_c c_law_same hr (Nat.le_refl _) rfl (pa_cons (pe_ix ix_tup (pv 0) (pv 2) (fun _ _ => rfl)) (pa_cons (pe_ix ix_tup (pv 1) (pv 2) (fun _ _ => rfl)) pa_nil))))) (pss_one (ps_ret pe_bl)) pss_nil)))
    (pss_one (ps_ret pe_bl)))) pss_nil)
    (pss_cons (ps_if (pt_cmpR op_isN (pv 1) pe_non (nomark _)) (pss_one (ps_ret (pe_cmpR op_isN (pv 0) pe_non (nomark _)))) pss_nil)
    (pss_cons (ps_if (pt_val (pe_callB call_isi rfl B.isinstance (by decide +kernel) (pa_cons (pv 1) (pa_cons (pe_bltn (v := .ty "bool") rfl B.bool (by decide +kernel) rfl) pa_nil)))) (pss_one (ps_ret (pe_and (pe_callB call_isi rfl B.isinstance (by decide +kernel) (pa_cons (pv 0) (pa_cons (pe_bltn (v := .ty "bool") rfl B.bool (by decide +kernel) rfl) pa_nil))) (pe_one (pe_cmpR op_eq (pv 0) (pv 1) (nomark _)))))) pss_nil)
    (pss_cons (ps_if (pt_val (pe_callB call_isi rfl B.isinstance (by decide +kernel) (pa_cons (pv 1) (pa_cons (pe_bltn (v := .ty "int") rfl B.int (by decide +kernel) rfl) pa_nil)))) (pss_one (ps_ret (pe_and (pe_callB call_isi rfl B.isinstance (by decide +kernel) (pa_cons (pv 0) (pa_cons (pe_bltn (v := .ty "int") rfl B.int (by decide +kernel) rfl) pa_nil))) (pe_and (pe_not (pe_callB call_isi rfl B.isinstance (by decide +kernel) (pa_cons (pv 0) (pa_cons (pe_bltn (v := .ty "bool") rfl B.bool (by decide +kernel) rfl) pa_nil)))) (pe_one (pe_cmpR op_eq (pv 0) (pv 1) (nomark _))))))) pss_nil)
    (pss_one (ps_ret (pe_and (pe_callB call_isi rfl B.isinstance (by decide +kernel) (pa_cons (pv 0) (pa_cons (pe_bltn (v := .ty "str") rfl B.str (by decide +kernel) rfl) pa_nil))) (pe_one (pe_cmpR op_eq (pv 0) (pv 1) (nomark _)))))))))), ?_⟩
  cases t with
  | it i =>
    rw [TrAt] at hx hy
    subst hx
    subst hy
    refine ⟨_, rfl, _, _, _, _, false, rfl, .ty "tuple", .base (.int i), kit_ty (by decide +kernel), false, rfl, ?_⟩
    refine ⟨_, rfl, rfl, false, congrArg V.bl (decide_eq_false fun z => nomatch z), ?_⟩
    refine ⟨_, rfl, _, _, _, _, false, rfl, .ty "bool", .base (.int i), kit_ty (by decide +kernel), false, rfl, ?_⟩
    refine ⟨_, rfl, _, _, _, _, true, rfl, .ty "int", .base (.int i), kit_ty (by decide +kernel), true, rfl, ?_⟩
    refine ⟨_, rfl, _, _, _, _, true, rfl, .ty "int", .base (.int i), kit_ty (by decide +kernel), true, rfl, ?_⟩
    refine ⟨_, rfl, _, _, _, _, false, rfl, .ty "bool", .base (.int i), kit_ty (by decide +kernel), false, rfl, true, rfl, ?_⟩
    refine ⟨_, rfl, _, rfl, rfl, ?_⟩
    show Q (V.bl (decide (V.int i = V.int i))) H
    rw [decide_eq_true rfl]
    exact q H (Same.refl _)
  | bo i =>
    rw [TrAt] at hx hy
    subst hx
    subst hy
    refine ⟨_, rfl, _, _, _, _, false, rfl, .ty "tuple", .base (.bl i), kit_ty (by decide +kernel), false, rfl, ?_⟩
    refine ⟨_, rfl, rfl, false, congrArg V.bl (decide_eq_false fun z => nomatch z), ?_⟩
    refine ⟨_, rfl, _, _, _, _, true, rfl, .ty "bool", .base (.bl i), kit_ty (by decide +kernel), true, rfl, ?_⟩
    refine ⟨_, rfl, _, _, _, _, true, rfl, .ty "bool", .base (.bl i), kit_ty (by decide +kernel), true, rfl, ?_⟩
    refine ⟨_, rfl, _, rfl, rfl, ?_⟩
    show Q (V.bl (decide (V.bl i = V.bl i))) H
    rw [decide_eq_true rfl]
    exact q H (Same.refl _)
  | no =>
    rw [TrAt] at hx hy
    subst hx
    subst hy
    refine ⟨_, rfl, _, _, _, _, false, rfl, .ty "tuple", .base .non, kit_ty (by decide +kernel), false, rfl, ?_⟩
    refine ⟨_, rfl, rfl, true, rfl, ?_⟩
    refine ⟨_, rfl, rfl, ?_⟩
    show Q (V.bl (decide (V.non = V.non))) H
    rw [decide_eq_true rfl]
    exact q H (Same.refl _)
  | tx x =>
    rw [TrAt] at hx hy
    subst hx
    subst hy
    refine ⟨_, rfl, _, _, _, _, false, rfl, .ty "tuple", .base (.str x), kit_ty (by decide +kernel), false, rfl, ?_⟩
    refine ⟨_, rfl, rfl, false, congrArg V.bl (decide_eq_false fun z => nomatch z), ?_⟩
    refine ⟨_, rfl, _, _, _, _, false, rfl, .ty "bool", .base (.str x), kit_ty (by decide +kernel), false, rfl, ?_⟩
    refine ⟨_, rfl, _, _, _, _, false, rfl, .ty "int", .base (.str x), kit_ty (by decide +kernel), false, rfl, ?_⟩
    refine ⟨_, rfl, _, _, _, _, true, rfl, .ty "str", .base (.str x), kit_ty (by decide +kernel), true, rfl, ?_⟩
    refine ⟨_, rfl, _, rfl, rfl, ?_⟩
    show Q (V.bl (decide (V.str x = V.str x))) H
    rw [decide_eq_true rfl]
    exact q H (Same.refl _)
  | tp ts =>
    rw [TrAt] at hx hy
    obtain ⟨a, us, rfl, ha, hus⟩ := hx
    obtain ⟨b, ws, rfl, hb, hws⟩ := hy
    have l1' := hus.all2.length
    have l2' := hws.all2.length
    rw [Tr.wid] at hw
    have hd' : Tr.deps ts < n + 1 := hd
    refine ⟨_, rfl, _, _, _, _, true, rfl, .ty "tuple", ty_tup hb, kit_ty (by decide +kernel), true, rfl, ?_⟩
    refine ⟨_, rfl, _, _, _, _, true, rfl, .ty "tuple", ty_tup ha, kit_ty (by decide +kernel), true, rfl, ?_⟩
    refine ⟨_, rfl, a, _, rfl, .inr ha, _, rfl, b, _, rfl, .inr hb, rfl, false, ?_, ?_⟩
    · rw [l1', l2']; simp
    refine ⟨_, rfl, b, _, rfl, .inr hb, _, rfl, by omega, by omega, for_range (lo := 0) (fun i σ H' => ∃ k, σ = [some (.ref a), some (.ref b), k] ∧ Same H H') ⟨none, rfl, Same.refl _⟩ ?_ ?_⟩
    · rintro i σ H1 hi ⟨k, rfl, s1⟩
      have hi1 : i < us.length := by omega
      have hi2 : i < ws.length := by omega
      have g1 : us[i]? = some us[i] := List.getElem?_eq_getElem hi1
      have g2 : ws[i]? = some ws[i] := List.getElem?_eq_getElem hi2
      obtain ⟨t1, e1, h1⟩ := (hus.tk (Tk.of_same s1)).all2.get g1
      obtain ⟨t2, e2, h2⟩ := (hws.tk (Tk.of_same s1)).all2.get g2
      rw [e1] at e2
      cases e2
      have hm := List.mem_of_getElem? e1
      have d1 := Tr.deps_mem hm
      have d2 := Tr.wids_mem hm
      have e0 : (0 : Int) + (i : Int) = ((i : Nat) : Int) := by omega
      refine ⟨_, rfl, _, rfl, a, _, _, _, rfl, rfl, Tk.of_same s1 _ _ ha, at_of e0 g1, _, rfl, _, rfl, b, _, _, _, rfl, rfl, Tk.of_same s1 _ _ hb, at_of e0 g2, us[i], ws[i], t1, rfl, h1, h2, by omega, by omega, fun H2 s2 => ⟨true, rfl, ?_⟩⟩
      exact ⟨_, rfl, s1.trans s2⟩
    · rintro σ H1 ⟨k, rfl, s1⟩
      exact q H1 s1
end
end J23

set_option Elab.async false
set_option linter.all false
set_option maxRecDepth 100000
set_option maxHeartbeats 4000000
namespace J23
open PySem L2 Fo Lb Ndk
open C8 (Cal pe_c pss_cut)
section
variable {P : Program} {w : World} {K : PySem.W.Frag} {mg : Str → Option Value} {base : Heap}
theorem ok_tuples {f : Addr} {fd : FuncData} (B : Bt mg) (F : Fun K "_law_tuples" "_law_tuples" s_law_tuples f fd) : FnOk P w K mg base CX0 1 f fd ["many", "places"] (spTuples K) := by
  refine F.ok sc_law_tuples (fun vs H Q E h => ?_) (fun cdv A outer s H vs Q E hr h => ?_)
  · obtain ⟨m, pl, rfl, _⟩ := h
    rfl
  obtain ⟨m, pl, rfl, hm, hp, hpw, q⟩ := h
  have nd := sc_law_tuples.nd
  refine ⟨_, (pss_cons (ps_set (i := 2) nd rfl (.inl rfl) (pe_lst (pa_cons (pe_tup pa_nil) pa_nil)))
    (pss_cons (ps_for PassesOwn.never rfl (pi_range1 rfl B.range (pa_cons (pv 1) pa_nil)) (pg_name (i := 3) nd rfl (.inl rfl)) (pss_cons (ps_set (i := 4) nd rfl (.inl rfl) (pe_lst pa_nil))
    (pss_cons (ps_for PassesOwn.never rfl (pi_list (pv 2)) (pg_name (i := 5) nd rfl (.inr rfl)) (pss_one (ps_set (i := 4) nd rfl (.inl rfl) (pe_op op_cat (pv 4) (pe_lc (own := [("x", 6)]) (g := gName 6) (tt := tYes) rfl nd (pi_range1 rfl B.range (pa_cons (pv 0) pa_nil)) (blkOk_by (own := [("x", 6)]) (N := n_law_tuples) (sc := defScope s_law_tuples) (by decide +kernel)) (fun _ _ _ _ _ => (pg_name (i := 6) nd rfl (Or.inl rfl))) (fun _ _ _ _ _ => pts_nil) (fun _ _ _ _ _ => (pe_op (catA_k rfl) (pv 5) (pe_tup (pa_cons (pv 6) pa_nil)))))))))
    (pss_one (ps_set (i := 2) nd rfl (.inl rfl) (pv 4))))))
    (pss_one (ps_ret (pv 2))))), ?_⟩
  refine ⟨Nat.zero_le _, fun e ne => ⟨l1, fun R nR => ?_⟩⟩
  refine ⟨_, rfl, pl, rfl, by omega, by omega, for_range (lo := 0) (n := pl) (fun i σ H' => ∃ (L : Addr) (us : List V) (k lo ro x : Option V), σ = [some (.int (m : Int)), some (.int (pl : Int)), some (.ref L), k, lo, ro, x] ∧ Same H H' ∧ H L = none ∧ H' L = some (.lst us) ∧ All2 (RowAt K H') us (rowsOf m i)) ⟨R, [.ref e], none, none, none, none, rfl, (same_new ne _).trans (same_new nR _), (same_new ne _).free nR, upd_same, .cons ⟨e, rfl, ?_⟩ .nil⟩ ?_ ?_⟩
  · exact SqT.of (same_new nR _ _ _ upd_same)
  · rintro i σ H1 hi ⟨L, us, k, lo, ro, x, rfl, s1, nL, hL, hR⟩
    have lu := hR.length
    have hl9 : us.length ≤ 1024 := by
      rw [lu, rows_len]
      exact hpw i (by omega)
    have hl10 : us.length * m ≤ 1024 := by
      rw [lu, rows_len]
      have := hpw (i + 1) (by omega)
      rw [Nat.pow_succ] at this
      exact this
    refine ⟨Nat.zero_le _, fun G nG => ⟨_, rfl, L, rfl, ⟨_, SqL.of (same_new nG _ _ _ hL)⟩, ?_⟩⟩
    refine for_list (xs := us) (fun j σ H' => ∃ (G : Addr) (ws : List V) (ro x : Option V), σ = [some (.int (m : Int)), some (.int (pl : Int)), some (.ref L), some (.int (0 + (i : Int))), some (.ref G), ro, x] ∧ Same H H' ∧ H G = none ∧ H' L = some (.lst us) ∧ Tk K H1 H' ∧ H' G = some (.lst ws) ∧ All2 (RowAt K H') ws (((rowsOf m i).take j).flatMap (ext1 m)))
      ⟨G, [], ro, x, rfl, s1.trans (same_new nG _), s1.free nG, same_new nG _ _ _ hL, tk_new nG _, upd_same, .nil⟩ (fun j σ H' _ ⟨_, _, _, _, _, _, _, h, _⟩ => SqL.of h) ?_ ?_
    · rintro j u σ H2 hj ⟨G, ws, ro, x, rfl, s2, nG, hL2, t2, hG, hW⟩
      obtain ⟨r, hr0, a, rfl, hr1⟩ := (hR.imp fun _ _ h => RowAt.tk t2 h).get hj
      have lj := (List.getElem?_eq_some_iff.mp hj).1
      have hwl : ws.length ≤ 1024 := by
        rw [hW.length, flat_len]
        have : ((rowsOf m i).take j).length ≤ us.length := by rw [List.length_take]; omega
        have := Nat.mul_le_mul_right m this
        omega
      refine ⟨_, rfl, _, rfl, m, rfl, by omega, by omega, fun D nD => lc_range (lo := 0) (n := m) (fun c H' => ∃ xs : List V, H' D = some (.lst xs) ∧ All2 (RowAt K H') xs ((List.range c).map fun (x : Nat) => r ++ [(x : Int)]) ∧ Same H2 H') ⟨[], upd_same, .nil, same_new nD _⟩ ?_ ?_⟩
      · rintro c H3 hc ⟨xs, hD, hX, s3⟩
        have hl' : xs.length = c := by rw [hX.length, List.length_map, List.length_range]
        have hr3 := Tk.of_same s3 _ _ hr1
        have e0c : (0 : Int) + (c : Int) = (c : Int) := Int.zero_add _
        refine ⟨rfl, _, rfl, _, rfl, l1, fun p np => ⟨a, p, _, _, rfl, rfl, tk_new np _ _ _ hr3, SqT.of upd_same, Nat.le_of_lt (lineOk (by rw [List.length_map, List.length_singleton]; have := (rows_mem (List.mem_of_getElem? hr0)).1; omega)), fun e0 => ?_, fun _ e0 => (nomatch e0), fun _ _ p2 np2 => ?_⟩⟩
        · have hD4 := same_new np (.tup [V.int (0 + (c : Int))]) _ _ hD
          have t4 := (tk_new (K := K) np (.tup [V.int (0 + (c : Int))])).trans (tk_lst hD4 (.lst (xs ++ [.ref p])))
          have er : r = [] := List.map_eq_nil_iff.mp e0
          refine ⟨xs, hD4, lineOk (by omega), xs ++ [.ref p], upd_same, ?_, same_to (s3.trans (same_new np _)) nD⟩
          rw [List.range_succ, List.map_append]
          refine (hX.imp fun _ _ h => RowAt.tk t4 h).append (.cons (RowAt.tk (tk_lst hD4 _) ⟨p, rfl, ?_⟩) .nil)
          rw [er, e0c]
          exact SqT.of upd_same
        · have s5 := (same_new np (.tup [V.int (0 + (c : Int))])).trans (same_new np2 (.tup (r.map V.int ++ [V.int (0 + (c : Int))])))
          have hD4 := s5 _ _ hD
          have t4 := (Tk.of_same (K := K) s5).trans (tk_lst hD4 (.lst (xs ++ [.ref p2])))
          refine ⟨xs, hD4, lineOk (by omega), xs ++ [.ref p2], upd_same, ?_, same_to (s3.trans s5) nD⟩
          rw [List.range_succ, List.map_append]
          refine (hX.imp fun _ _ h => RowAt.tk t4 h).append (.cons (RowAt.tk (tk_lst hD4 _) ⟨p2, rfl, ?_⟩) .nil)
          rw [List.map_append, e0c]
          exact SqT.of upd_same
      · rintro H3 ⟨xs, hD, hX, s3⟩
        have hl' : xs.length = m := by rw [hX.length, List.length_map, List.length_range]
        have hG3 := s3 _ _ hG
        refine ⟨G, D, ws, xs, rfl, rfl, hG3, hD, Nat.le_of_lt (lineOk (by omega)), fun p np => ?_⟩
        have sp := s3.trans (same_new np (.lst (ws ++ xs)))
        refine ⟨p, ws ++ xs, _, _, rfl, s2.trans sp, (s2.trans s3).free np, sp _ _ hL2, t2.trans (.of_same sp), upd_same, ?_⟩
        rw [flat_take hr0]
        exact (hW.imp fun _ _ h => RowAt.tk (.of_same sp) h).append (hX.imp fun _ _ h => RowAt.tk (tk_new np _) h)
    · rintro σ H2 ⟨G, ws, ro, x, rfl, s2, nG, hL2, t2, hG, hW⟩
      rw [lu, List.take_length] at hW
      exact ⟨_, rfl, G, ws, _, _, _, x, rfl, s2, nG, hG, hW⟩
  · rintro σ H1 ⟨L, us, k, lo, ro, x, rfl, s1, nL, hL, hR⟩
    exact ⟨_, rfl, q L us H1 s1 nL hL hR⟩
theorem ok_struct {f : Addr} {fd : FuncData} (B : Bt mg) (c_law_draw : Cal P w K mg base 1 "_law_draw" spDraw []) (c_law_tuples : Cal P w K mg base 1 "_law_tuples" (spTuples K) []) (F : Fun K "_law_structure" "_law_structure" s_law_structure f fd) : FnOk P w K mg base CX0 2 f fd ["box", "kinds", "many"] (spStruct K) := by
  refine F.ok sc_law_structure (fun vs H Q E h => ?_) (fun cdv A outer s H vs Q E hr h => ?_)
  · obtain ⟨ks, b, d, kv, m, rfl, _⟩ := h
    rfl
  obtain ⟨ks, b, d, kv, m, rfl, hB, hK, hm, q⟩ := h
  have nd := sc_law_structure.nd
  have hr1 := hr
  refine ⟨_, (pss_cons (ps_set (i := 3) nd rfl (.inl rfl) (pe_lst pa_nil))
    (pss_cons (ps_for PassesOwn.never rfl (pi_tup (pv 1)) (pg_tup rfl (pgs_cons (pg_name (i := 4) nd rfl (.inl rfl)) (pgs_cons (pg_name (i := 5) nd rfl (.inl rfl)) pgs_nil))) (pss_cons (ps_set (i := 6) nd rfl (.inr rfl) (pe_op op_add pe_int (pe_c c_law_draw hr (by decide) rfl (pa_cons (pv 0) (pa_cons pe_int pa_nil)))))
    (pss_cons (ps_set (i := 7) nd rfl (.inl rfl) (pe_callTy call_tuple_of rfl B.tuple (by decide +kernel) (pa_cons (pe_lc (own := [("row", 8)]) (g := gName 8) (tt := _) rfl nd (pi_list (pe_c c_law_tuples hr (by decide) rfl (pa_cons (pv 2) (pa_cons (pv 5) pa_nil)))) (blkOk_by (own := [("row", 8)]) (N := n_law_structure) (sc := defScope s_law_structure) (by decide +kernel)) (fun _ _ _ _ _ => (pg_name (i := 8) nd rfl (Or.inl rfl))) (fun _ _ _ _ _ => pts_one (pt_cmpR op_lt (pe_c c_law_draw hr (by decide) rfl (pa_cons (pv 0) (pa_cons pe_int pa_nil))) (pv 6) (nomark _))) (fun _ _ _ _ _ => (pv 8))) pa_nil)))
    (pss_one (ps_expr (pe_bm PySem.F.plainAttrs_list PySem.F.slot_list_append PySem.F.type_list_append mt_append (pv 3) (pa_cons (pe_tup (pa_cons (pv 4) (pa_cons (pv 5) (pa_cons (pv 7) pa_nil)))) pa_nil)))))))
    (pss_one (ps_ret (pe_tup (pa_cons pe_str (pa_cons (pv 2) (pa_cons (pe_callTy call_tuple_of rfl B.tuple (by decide +kernel) (pa_cons (pv 3) pa_nil)) pa_nil)))))))), ?_⟩
  obtain ⟨ka, us, rfl, hS, hkd, hP⟩ := hK
  obtain ⟨hl2', hpl⟩ := kd_len ks hkd
  have hl2 : us.length ≤ 2 := by rw [hP.length]; exact hl2'
  refine ⟨Nat.zero_le _, fun R nR => ⟨_, rfl, ka, rfl, ⟨_, tk_new nR _ _ _ hS⟩, ?_⟩⟩
  have nRb := (box_ne hB nR).1
  refine for_tup (xs := us) (fun i σ H' => ∃ (ws : List V) (rels : List Rl) (na pl of ro rw : Option V), σ = [some (.ref b), some (.ref ka), some (.int (m : Int)), some (.ref R), na, pl, of, ro, rw] ∧
    H' R = some (.lst ws) ∧ All2 (RelAt K H') ws rels ∧ ws.length = i ∧ All2 (Fits m) rels (ks.take i) ∧ But b H H' ∧ BoxAt H' b d) ⟨[], [], none, none, none, none, none, rfl, upd_same, .nil, rfl, .nil, .new _ nR, hB.new nR⟩ (fun i σ H' _ ⟨_, _, _, _, _, _, _, _, _, _, _, _, h, _⟩ => h.tk hB _ _ hS) ?_ ?_
  · rintro i u σ H1 hi ⟨ws, rels, na, pl, of, ro, rw, rfl, hR, hW, hl, hko, b1, x1⟩
    have li := (List.getElem?_eq_some_iff.mp hi).1
    obtain ⟨⟨nn, pn⟩, hkp, pr, rfl, hp⟩ := (hP.imp fun _ _ h => PrAt.tk h (b1.tk hB)).get hi
    obtain ⟨p1, p2⟩ := hpl _ (List.mem_of_getElem? hkp)
    simp only at p1 p2
    refine ⟨pr, _, rfl, hp, rfl, _, _, rfl, _, _, rfl, rfl, ?_⟩
    refine ⟨_, rfl, b, d, 4, rfl, x1, by decide, fun r H2 r0 r1 b2 x2 => ⟨_, _, rfl, rfl, ?_⟩⟩
    refine ⟨_, rfl, _, rfl, m, pn, rfl, by omega, by omega, pow_le_small (by omega) (by omega), fun l ts H3 s3 nl3 hl3 hT => ⟨l, rfl, ⟨_, SqL.of hl3⟩, fun D nD => ?_⟩⟩
    have x3 := x2.same s3
    have nlb : l ≠ b := by
      rintro rfl
      obtain ⟨ns, i', h1, _⟩ := x2
      rw [h1] at nl3
      cases nl3
    have hlen : ts.length ≤ 16 := by
      rw [hT.length, rows_len]
      have h : pn = 1 ∨ pn = 2 := by omega
      rcases h with h | h <;> subst h
      · rw [Nat.pow_one]; omega
      · rw [Nat.pow_two]; have := Nat.mul_le_mul hm hm; omega
    refine lc_list (xs := ts) (fun c H' => ∃ (xs : List V) (rs : List (List Int)), H' D = some (.lst xs) ∧ All2 (RowAt K H') xs rs ∧ rs.Sublist ((rowsOf m pn).take c) ∧ xs.length ≤ c ∧ But b H3 H' ∧ BoxAt H' b d) ⟨[], [], upd_same, .nil, List.nil_sublist _, Nat.le_refl 0, .new _ nD, x3.new nD⟩ (fun c H' _ ⟨_, _, _, _, _, _, h, _⟩ => SqL.of (h _ _ nlb hl3)) ?_ ?_
    · rintro c y H4 hc ⟨xs, rs, hD, hX, hrm, hlx, b4, x4⟩
      have lc := (List.getElem?_eq_some_iff.mp hc).1
      obtain ⟨ry, hry, hy⟩ := (hT.imp fun _ _ h => RowAt.tk (b4.tk (K := K) x3) h).get hc
      refine ⟨rfl, _, rfl, b, d, 5, rfl, x4, by decide, fun r H5 _ _ b5 x5 => ⟨_, rfl, _, _, rfl, rfl, _, rfl, ite2 (fun _ => ?_) (fun _ => ?_)⟩⟩
      · have hD5 := b5 _ _ (box_ne x3 nD).1 hD
        have t5 := b5.tk (K := K) x4
        refine ⟨_, rfl, xs, hD5, lineOk (by omega), xs ++ [y], rs ++ [ry], upd_same, ?_, (by rw [List.take_succ, hry]; exact hrm.append (List.Sublist.refl _)), by rw [List.length_append, List.length_singleton]; omega, (b4.trans b5).put _ nD, x3.put nD x5⟩
        exact (hX.imp fun _ _ h => RowAt.tk (tk_lst hD5 _) (RowAt.tk t5 h)).append (.cons (RowAt.tk (tk_lst hD5 _) (RowAt.tk t5 hy)) .nil)
      · exact ⟨xs, rs, b5 _ _ (box_ne x3 nD).1 hD, hX.imp fun _ _ h => RowAt.tk (b5.tk x4) h, hrm.trans (by rw [List.take_succ]; exact List.sublist_append_left _ _), by omega, b4.trans b5, x5⟩
    · rintro H4 ⟨xs, rs, hD, hX, hrm, hlx, b4, x4⟩
      refine ⟨D, _, rfl, .inl ⟨SqL.of hD, fun t nt => ?_⟩⟩
      have bb := (b2.trans ((But.of_same s3).trans b4)).trans (.new (.tup xs) nt)
      have hR5 := bb _ _ nRb hR
      refine ⟨_, rfl, .inl ⟨rfl, _, SqL.of hR5⟩, _, rfl, _, rfl, _, rfl, l3, fun p np => ⟨R, _, _, rfl, rfl, same_new np _ _ _ hR5, lineOk (by omega), ?_⟩⟩
      have hR6 := same_new np (.tup [.str nn, .int (pn : Int), .ref t]) _ _ hR5
      have hrs := hX
      have b6 := (b1.trans bb).trans (.new (.tup [.str nn, .int (pn : Int), .ref t]) np)
      have x6 := (x4.new nt (o := .tup xs)).new np (o := .tup [.str nn, .int (pn : Int), .ref t])
      have t6 := (bb.trans (.new (.tup [.str nn, .int (pn : Int), .ref t]) np)).tk (K := K) x1
      have tL := tk_lst (K := K) hR6 (.lst (ws ++ [.ref p]))
      refine ⟨ws ++ [.ref p], rels ++ [(nn, pn, rs)], _, _, _, _, _, rfl, upd_same, (hW.imp fun _ _ h => (h.tk t6).tk tL).append (.cons (RelAt.tk tL ⟨p, t, xs, rfl, SqT.of upd_same, tk_new np _ _ _ (SqT.of upd_same), hrs.imp fun _ _ h => (h.tk (tk_new nt _)).tk (tk_new np _)⟩) .nil), by simp [hl], ?_, b6.put _ nR, hB.put nR x6⟩
      rw [List.take_succ, hkp]
      have sub := hrm.trans (List.take_sublist _ _)
      exact hko.append (.cons ⟨rfl, rfl, fun t ht => rows_mem (sub.subset ht), (rows_up (by omega) pn).sublist sub⟩ .nil)
  · rintro σ H1 ⟨ws, rels, na, pl, of, ro, rw, rfl, hR, hW, hl, hko, b1, x1⟩
    refine ⟨_, rfl, _, rfl, R, _, rfl, .inl ⟨SqL.of hR, fun t nt => ⟨l3, fun p np => ?_⟩⟩⟩
    refine q _ rels _ (b1.trans ((But.new _ nt).trans (.new _ np))) ((x1.new nt).new np) ⟨p, t, ws, rfl, SqT.of upd_same, tk_new np _ _ _ (SqT.of upd_same), hW.imp fun _ _ h => (h.tk (tk_new nt _)).tk (tk_new np _)⟩ ?_
    rw [hP.length, List.take_length] at hko
    exact hko
end
end J23

set_option Elab.async false
set_option linter.all false
set_option maxRecDepth 100000
set_option maxHeartbeats 4000000
namespace J23
open PySem L2 Fo Lb Ndk
open C8 (Cal pe_c pss_cut)
section
variable {P : Program} {w : World} {K : PySem.W.Frag} {mg : Str → Option Value} {base : Heap}
theorem getD_at {xs : List Int} {i : Nat} (h : i < xs.length) : (xs.map V.int)[i]? = some (V.int (xs.getD i 0)) := by
  rw [List.getElem?_map, List.getD_eq_getElem?_getD, List.getElem?_eq_getElem h]
  rfl
theorem dec_in (a b : Int) : decide (V.int a = V.int b) = decide (a = b) := by
  by_cases e : a = b <;> simp [e]
theorem ok_lfair {f : Addr} {fd : FuncData} (B : Bt mg) (c_law_tuples : Cal P w K mg base 1 "_law_tuples" (spTuples K) []) (F : Fun K "_law_fair" "_law_fair" s_law_fair f fd) : FnOk P w K mg base CX0 2 f fd p_law_fair (spLFair K) := by
  refine F.ok sc_law_fair (fun vs H Q E h => ?_) (fun cdv A outer s H vs Q E hr h => ?_)
  · obtain ⟨ks, sv, ov, pv, qv, m, n, rels, rels', xs, ys, rfl, _⟩ := h
    rfl
  obtain ⟨ks, sv, ov, pv, qv, m, n, rels, rels', xs, ys, rfl, hS, hO, hF, hF', hk, ⟨pa, rfl, hpa⟩, ⟨qa, rfl, hqa⟩, hl, hl6, q⟩ := h
  have nd := sc_law_fair.nd
  refine ⟨_, (pss_cons (ps_set (i := 4) nd rfl (.inl rfl) (pe_listRg rfl rfl B.list (prg_1 rfl B.range (pe_callB call_len_seq rfl B.len PySem.boot_len (pa_cons (pv 2) pa_nil)))))
    (pss_cons (ps_for PassesOwn.never rfl (pi_list (pv 4)) (pg_name (i := 5) nd rfl (.inl rfl)) (pss_one (ps_for PassesOwn.never rfl (pi_list (pv 4)) (pg_name (i := 6) nd rfl (.inl rfl)) (pss_one (ps_if (pt_cmpR op_ne (pe_cmpR op_eq (pe_ix ix_tup (pv 2) (pv 5) (fun _ _ => rfl)) (pe_ix ix_tup (pv 2) (pv 6) (fun _ _ => rfl)) (nomark _)) (pe_cmpR op_eq (pe_ix ix_tup (pv 3) (pv 5) (fun _ _ => rfl)) (pe_ix ix_tup (pv 3) (pv 6) (fun _ _ => rfl)) (nomark _)) (nomark _)) (pss_one (ps_ret pe_bl)) pss_nil)))))
    (pss_cons (ps_for PassesOwn.never rfl (pi_range1 rfl B.range (pa_cons (pe_callB call_len_seq rfl B.len PySem.boot_len (pa_cons (pe_ix ix_tup (pv 0) pe_int (fun _ _ => rfl)) pa_nil)) pa_nil)) (pg_name (i := 7) nd rfl (.inl rfl)) (pss_one (ps_for PassesOwn.never rfl (pi_list (pe_c c_law_tuples hr (by decide) rfl (pa_cons (pe_callB call_len_seq rfl B.len PySem.boot_len (pa_cons (pv 2) pa_nil)) (pa_cons (pe_ix ix_tup (pe_ix ix_tup (pe_ix ix_tup (pv 0) pe_int (fun _ _ => rfl)) (pv 7) (fun _ _ => rfl)) pe_int (fun _ _ => rfl)) pa_nil)))) (pg_name (i := 8) nd rfl (.inl rfl)) (pss_cons (ps_set (i := 9) nd rfl (.inl rfl) (pe_callTy call_tuple_of rfl B.tuple (by decide +kernel) (pa_cons (pe_lc (own := [("i", 5)]) (g := gName 5) (tt := tYes) rfl nd (pi_tup (pv 8)) (blkOk_by (own := [("i", 5)]) (N := n_law_fair) (sc := defScope s_law_fair) (by decide +kernel)) (fun _ _ _ _ _ => (pg_name (i := 5) nd rfl (Or.inl rfl))) (fun _ _ _ _ _ => pts_nil) (fun _ _ _ _ _ => (pe_ix (Kf.ixT_k (K := K) rfl) (pv 2) (pv 5) (fun _ _ => rfl)))) pa_nil)))
    (pss_cons (ps_set (i := 10) nd rfl (.inl rfl) (pe_callTy call_tuple_of rfl B.tuple (by decide +kernel) (pa_cons (pe_lc (own := [("i", 5)]) (g := gName 5) (tt := tYes) rfl nd (pi_tup (pv 8)) (blkOk_by (own := [("i", 5)]) (N := n_law_fair) (sc := defScope s_law_fair) (by decide +kernel)) (fun _ _ _ _ _ => (pg_name (i := 5) nd rfl (Or.inl rfl))) (fun _ _ _ _ _ => pts_nil) (fun _ _ _ _ _ => (pe_ix (Kf.ixT_k (K := K) rfl) (pv 3) (pv 5) (fun _ _ => rfl)))) pa_nil)))
    (pss_one (ps_if (pt_cmpR op_ne (pe_cmpR (Da.op_inDT (hu65 hr)) (pv 9) (pe_ix ix_tup (pe_ix ix_tup (pe_ix ix_tup (pv 0) pe_int (fun _ _ => rfl)) (pv 7) (fun _ _ => rfl)) pe_int (fun _ _ => rfl)) rfl) (pe_cmpR (Da.op_inDT (hu65 hr)) (pv 10) (pe_ix ix_tup (pe_ix ix_tup (pe_ix ix_tup (pv 1) pe_int (fun _ _ => rfl)) (pv 7) (fun _ _ => rfl)) pe_int (fun _ _ => rfl)) rfl) (nomark _)) (pss_one (ps_ret pe_bl)) pss_nil)))))))
    (pss_one (ps_ret pe_bl))))), ?_⟩
  obtain ⟨sa, st, sus, rfl, hs1, hs2, hs3⟩ := hS
  obtain ⟨oa, ot, ous, rfl, ho1, ho2, ho3⟩ := hO
  have hsl : sus.length = ks.length := hs3.length.trans hF.length
  have hol : ous.length = ks.length := ho3.length.trans hF'.length
  have hk2 := (kd_len ks hk).1
  have lx : (xs.map V.int).length = xs.length := List.length_map ..
  refine ⟨_, rfl, pa, _, rfl, .inr hpa, ((xs.map V.int).length : Int), rfl, by unfold RgOk; omega, fun M nM => ?_⟩
  have sM := same_new nM (.lst (rgV 0 ((xs.map V.int).length : Int)))
  have eM : rgV 0 ((xs.map V.int).length : Int) = (els xs.length).map V.int := by
    unfold rgV els
    rw [List.map_map, lx, show ((xs.length : Int) - 0).toNat = xs.length by omega]
    exact List.map_congr_left fun i _ => by rw [Int.zero_add]; rfl
  have hM : upd H M (.lst (rgV 0 ((xs.map V.int).length : Int))) M = some (.lst ((els xs.length).map V.int)) := by rw [upd_same, eM]
  generalize upd H M (.lst (rgV 0 ((xs.map V.int).length : Int))) = H1 at sM hM ⊢
  have kM := Tk.of_same (K := K) sM
  have lM : ((els xs.length).map V.int).length = xs.length := by rw [List.length_map, els_len]
  have atM : ∀ {i : Nat} {u : V}, ((els xs.length).map V.int)[i]? = some u → i < xs.length ∧ u = .int (i : Int) := fun {i u} h => by
    have li := (List.getElem?_eq_some_iff.mp h).1
    rw [lM] at li
    unfold els at h
    rw [List.getElem?_map, List.getElem?_map, List.getElem?_range li] at h
    exact ⟨li, (Option.some.inj h).symm⟩
  refine ⟨_, rfl, M, rfl, ⟨_, SqL.of hM⟩, ?_⟩
  refine for_list (xs := (els xs.length).map V.int) (fun i σ H' => ∃ (io jo : Option V), σ = [some (.ref sa), some (.ref oa), some (.ref pa), some (.ref qa), some (.ref M), io, jo, none, none, none, none] ∧ Same H1 H' ∧ ∀ a, a < i → ∀ j, j < xs.length → (xs.getD a 0 = xs.getD j 0 ↔ ys.getD a 0 = ys.getD j 0))
    ⟨none, none, rfl, Same.refl _, fun a ha => absurd ha (Nat.not_lt_zero _)⟩ (fun i σ H' _ ⟨_, _, _, s1, _⟩ => s1.seq (SqL.of hM)) ?_ ?_
  · rintro i u σ H2 hi ⟨io, jo, rfl, s2, hA⟩
    obtain ⟨li, rfl⟩ := atM hi
    refine ⟨_, rfl, M, rfl, ⟨_, s2.seq (SqL.of hM)⟩, ?_⟩
    refine for_list (xs := (els xs.length).map V.int) (fun j σ H' => ∃ (jo : Option V), σ = [some (.ref sa), some (.ref oa), some (.ref pa), some (.ref qa), some (.ref M), some (.int (i : Int)), jo, none, none, none, none] ∧ Same H1 H' ∧ ∀ a, a < j → (xs.getD i 0 = xs.getD a 0 ↔ ys.getD i 0 = ys.getD a 0))
      ⟨jo, rfl, s2, fun a ha => absurd ha (Nat.not_lt_zero _)⟩ (fun i σ H' _ ⟨_, _, s1, _⟩ => s1.seq (SqL.of hM)) ?_ ?_
    · rintro j v σ H3 hj ⟨jo, rfl, s3, hB⟩
      obtain ⟨lj, rfl⟩ := atM hj
      have k3 := kM.trans (Tk.of_same s3)
      have hp3 := k3 _ _ hpa
      have hq3 := k3 _ _ hqa
      refine ⟨_, rfl, _, rfl, pa, _, _, _, rfl, rfl, hp3, at_of rfl (getD_at li), _, rfl, _, rfl, pa, _, _, _, rfl, rfl, hp3, at_of rfl (getD_at lj), rfl, ?_⟩
      refine ⟨_, rfl, _, rfl, qa, _, _, _, rfl, rfl, hq3, at_of rfl (getD_at (show i < ys.length by omega)), _, rfl, _, rfl, qa, _, _, _, rfl, rfl, hq3, at_of rfl (getD_at (show j < ys.length by omega)), rfl, ?_⟩
      refine ⟨rfl, (decide (xs.getD i 0 = xs.getD j 0) != decide (ys.getD i 0 = ys.getD j 0)), ?_, ite2 (fun c => ?_) (fun c => ?_)⟩
      · show V.bl (!decide (V.bl (decide (V.int (xs.getD i 0) = V.int (xs.getD j 0))) = V.bl (decide (V.int (ys.getD i 0) = V.int (ys.getD j 0))))) = _
        rw [dec_in, dec_in]
        exact bl_ne rfl
      · refine q false H3 (sM.trans s3) ⟨(fun z => nomatch z), fun z => ?_⟩
        have := (fair_iff hl).mp z
        have := this.1 i li j lj
        exfalso
        by_cases e : xs.getD i 0 = xs.getD j 0
        · rw [decide_eq_true e, decide_eq_true (this.mp e)] at c
          cases c
        · rw [decide_eq_false e, decide_eq_false (fun z => e (this.mpr z))] at c
          cases c
      · refine ⟨_, rfl, s3, fun a ha => ?_⟩
        rcases Nat.lt_or_ge a j with h | h
        · exact hB a h
        · have : a = j := by omega
          subst this
          by_cases e : xs.getD i 0 = xs.getD a 0
          · by_cases g : ys.getD i 0 = ys.getD a 0
            · exact ⟨fun _ => g, fun _ => e⟩
            · exact absurd (by rw [decide_eq_true e, decide_eq_false g]; rfl) c
          · by_cases g : ys.getD i 0 = ys.getD a 0
            · exact absurd (by rw [decide_eq_false e, decide_eq_true g]; rfl) c
            · exact ⟨fun z => absurd z e, fun z => absurd z g⟩
    · rintro σ H3 ⟨jo, rfl, s3, hB⟩
      rw [lM] at hB
      refine ⟨_, _, rfl, s3, fun a ha => ?_⟩
      rcases Nat.lt_or_ge a i with h | h
      · exact hA a h
      · have : a = i := by omega
        subst this
        exact hB
  · rintro σ H2 ⟨io, jo, rfl, s2, hA⟩
    rw [lM] at hA
    have k2 := kM.trans (Tk.of_same s2)
    refine ⟨_, rfl, sa, _, _, _, rfl, rfl, k2 _ _ hs1, at_of (j := 2) rfl rfl, st, _, rfl, .inr (k2 _ _ hs2), sus.length, rfl, by omega, by omega, ?_⟩
    refine for_range (lo := 0) (n := sus.length) (fun i σ H' => ∃ (io ko ro oo to : Option V), σ = [some (.ref sa), some (.ref oa), some (.ref pa), some (.ref qa), some (.ref M), io, jo, ko, ro, oo, to] ∧ Same H1 H' ∧
      ∀ (k : Nat) (r r' : Rl), k < i → rels[k]? = some r → rels'[k]? = some r' → ∀ row ∈ Lb.rowsOf xs.length r.2.1, (tr xs row ∈ r.2.2 ↔ tr ys row ∈ r'.2.2)) ⟨io, none, none, none, none, rfl, s2, fun k r r' h => absurd h (Nat.not_lt_zero _)⟩ ?_ ?_
    · rintro i σ H3 hi ⟨io, ko, ro, oo, to, rfl, s3, hR⟩
      have k3 := kM.trans (Tk.of_same s3)
      have hu : sus[i]? = some sus[i] := List.getElem?_eq_getElem hi
      have hi' : i < ous.length := by omega
      have hu' : ous[i]? = some ous[i] := List.getElem?_eq_getElem hi'
      obtain ⟨⟨rn, rp, rr⟩, hg, ra, rt, rus, era, hra, hrt, hrr⟩ := (hs3.imp fun _ _ h => h.tk k3).get hu
      obtain ⟨⟨rn', rp', rr'⟩, hg', ra', rt', rus', era', hra', hrt', hrr'⟩ := (ho3.imp fun _ _ h => h.tk k3).get hu'
      obtain ⟨⟨kn, kp⟩, hkp, f1, f2, f3⟩ := hF.get hg
      obtain ⟨⟨kn', kp'⟩, hkp', g1, g2, g3⟩ := hF'.get hg'
      rw [hkp] at hkp'
      cases hkp'
      simp only at f1 f2 f3 g1 g2 g3 hra hra' hrr hrr'
      subst f1 f2
      have g1 := g1.symm
      have g2 := g2.symm
      subst g1 g2
      have hpl := (kd_len ks hk).2 _ (List.mem_of_getElem? hkp)
      simp only at hpl
      have ei : (0 : Int) + (i : Int) = ((i : Nat) : Int) := Int.zero_add _
      refine ⟨_, rfl, pa, _, rfl, .inr (k3 _ _ hpa), _, rfl, sa, _, _, _, rfl, rfl, k3 _ _ hs1, at_of (j := 2) rfl rfl, _, rfl, st, _, _, _, rfl, rfl, k3 _ _ hs2, at_of ei hu, ra, _, _, _, era, rfl, hra, at_of (j := 1) rfl rfl, ?_⟩
      refine ⟨xs.length, rp, by rw [lx]; rfl, by omega, by omega, pow_le_small (by omega) (by omega), fun L lus H4 s4 nL hL hLr => ⟨L, rfl, ⟨_, SqL.of hL⟩, ?_⟩⟩
      have s4' := s3.trans s4
      refine for_list (xs := lus) (fun j σ H' => ∃ (io ro oo to : Option V), σ = [some (.ref sa), some (.ref oa), some (.ref pa), some (.ref qa), some (.ref M), io, jo, some (.int (0 + (i : Int))), ro, oo, to] ∧ Same H4 H' ∧
        ∀ (c : Nat) (row : List Int), c < j → (Lb.rowsOf xs.length rp)[c]? = some row → (tr xs row ∈ rr ↔ tr ys row ∈ rr')) ⟨io, ro, oo, to, rfl, Same.refl _, fun c row h => absurd h (Nat.not_lt_zero _)⟩ (fun i σ H' _ ⟨_, _, _, _, _, s, _⟩ => s.seq (SqL.of hL)) ?_ ?_
      · rintro j u σ H5 hj ⟨io, ro, oo, to, rfl, s5, hC⟩
        have k5 := k3.trans ((Tk.of_same (K := K) s4).trans (Tk.of_same s5))
        obtain ⟨row, hrow, w0, rfl, hw⟩ := (hLr.imp fun _ _ h => h.tk (Tk.of_same (K := K) s5)).get hj
        obtain ⟨wl, wx⟩ := rows_mem (List.mem_of_getElem? hrow)
        have one : ∀ (zs : List Int) (za : Addr) (Hh : Hp) (D : Addr), zs.length = xs.length → SqT K Hh za (zs.map V.int) → SqT K Hh w0 (row.map V.int) → Hh D = none → ∀ (c : Nat) (y : V) (Hc : Hp), (row.map V.int)[c]? = some y → Same Hh Hc → Hc D = some (.lst ((tr zs (row.take c)).map V.int)) →
            ∃ (x : Int) (z : Int), y = .int x ∧ atI (zs.map V.int) x = some (V.int z) ∧ (tr zs (row.take c)).length < sizeLine ∧ (tr zs (row.take (c + 1))).map V.int = (tr zs (row.take c)).map V.int ++ [V.int z] := fun zs za Hh D hz hza hw0 nD c y Hc hc sc hD => by
          rw [List.getElem?_map] at hc
          obtain ⟨x, hx, rfl⟩ := Option.map_eq_some_iff.mp hc
          have bx := wx x (List.mem_of_getElem? hx)
          refine ⟨x, zs.getD x.toNat 0, rfl, at_of (j := x.toNat) (by omega) (getD_at (by omega)), lineOk (by rw [tr, List.length_map, List.length_take]; omega), ?_⟩
          rw [List.take_succ, hx, tr, tr, List.map_append, List.map_append]
          rfl
        refine ⟨_, rfl, w0, rfl, ⟨_, hw⟩, fun D nD => ?_⟩
        refine lc_tup (xs := row.map V.int) (fun c H' => H' D = some (.lst ((tr xs (row.take c)).map V.int)) ∧ Same H5 H') ⟨upd_same, same_new nD _⟩ (fun c H' _ h => Tk.of_same h.2 _ _ hw) ?_ ?_
        · rintro c y H6 hc ⟨hD, s6⟩
          obtain ⟨x, z, rfl, e1, e2, e3⟩ := one xs pa H5 D rfl (k5 _ _ hpa) hw nD c y H6 hc s6 hD
          exact ⟨rfl, _, rfl, _, rfl, pa, _, _, _, rfl, rfl, Tk.of_same (K := K) s6 _ _ (k5 _ _ hpa), e1, _, hD, by rw [List.length_map]; exact e2, by rw [upd_same, e3], same_to s6 nD⟩
        rintro H6 ⟨hD, s6⟩
        rw [List.length_map, List.take_length] at hD
        refine ⟨D, _, rfl, .inl ⟨SqL.of hD, fun O1 nO1 => ?_⟩⟩
        have s7 := s6.trans (same_new nO1 (.tup ((tr xs row).map V.int)))
        have h1 : SqT K (upd H6 O1 (.tup ((tr xs row).map V.int))) O1 ((tr xs row).map V.int) := SqT.of upd_same
        generalize upd H6 O1 (.tup ((tr xs row).map V.int)) = H7 at s7 h1 ⊢
        have k7 := k5.trans (Tk.of_same s7)
        have hw7 := Tk.of_same (K := K) s7 _ _ hw
        refine ⟨_, rfl, w0, rfl, ⟨_, hw7⟩, fun D2 nD2 => ?_⟩
        refine lc_tup (xs := row.map V.int) (fun c H' => H' D2 = some (.lst ((tr ys (row.take c)).map V.int)) ∧ Same H7 H') ⟨upd_same, same_new nD2 _⟩ (fun c H' _ h => Tk.of_same h.2 _ _ hw7) ?_ ?_
        · rintro c y H8 hc ⟨hD2, s8⟩
          obtain ⟨x, z, rfl, e1, e2, e3⟩ := one ys qa H7 D2 hl.symm (k7 _ _ hqa) hw7 nD2 c y H8 hc s8 hD2
          exact ⟨rfl, _, rfl, _, rfl, qa, _, _, _, rfl, rfl, Tk.of_same (K := K) s8 _ _ (k7 _ _ hqa), e1, _, hD2, by rw [List.length_map]; exact e2, by rw [upd_same, e3], same_to s8 nD2⟩
        rintro H8 ⟨hD2, s8⟩
        rw [List.length_map, List.take_length] at hD2
        refine ⟨D2, _, rfl, .inl ⟨SqL.of hD2, fun O2 nO2 => ?_⟩⟩
        have s9 := s8.trans (same_new nO2 (.tup ((tr ys row).map V.int)))
        have h2 : SqT K (upd H8 O2 (.tup ((tr ys row).map V.int))) O2 ((tr ys row).map V.int) := SqT.of upd_same
        generalize upd H8 O2 (.tup ((tr ys row).map V.int)) = H9 at s9 h2 ⊢
        have k9 := k7.trans (Tk.of_same s9)
        have k39 : Tk K H3 H9 := (Tk.of_same (K := K) s4).trans ((Tk.of_same s5).trans ((Tk.of_same s7).trans (Tk.of_same s9)))
        have h1' := Tk.of_same (K := K) s9 _ _ h1
        have hrt9 := k39 _ _ hrt
        have hrr9 := hrr.imp fun _ _ h => RowAt.tk k39 h
        have hrt9' := k39 _ _ hrt'
        have hrr9' := hrr'.imp fun _ _ h => RowAt.tk k39 h
        refine ⟨_, rfl, _, rfl, sa, _, _, _, rfl, rfl, k9 _ _ hs1, at_of (j := 2) rfl rfl, _, rfl, st, _, _, _, rfl, rfl, k9 _ _ hs2, at_of ei hu, ra, _, _, _, era, rfl, k39 _ _ hra, at_of (j := 2) rfl rfl, _, _, .tup h1' (Da.dp_ints _), .tup hrt9 (dp_rows hrr9), Da.shaped_ints _, Da.shaped_rows _, ?_⟩
        refine ⟨_, rfl, _, rfl, oa, _, _, _, rfl, rfl, k9 _ _ ho1, at_of (j := 2) rfl rfl, _, rfl, ot, _, _, _, rfl, rfl, k9 _ _ ho2, at_of ei hu', ra', _, _, _, era', rfl, k39 _ _ hra', at_of (j := 2) rfl rfl, _, _, .tup h2 (Da.dp_ints _), .tup hrt9' (dp_rows hrr9'), Da.shaped_ints _, Da.shaped_rows _, ?_⟩
        refine ⟨rfl, (decide (tr xs row ∈ rr) != decide (tr ys row ∈ rr')), ?_, ite2 (fun c => ?_) (fun c => ?_)⟩
        · have e1 := any_dint rr (tr xs row)
          have e2 := any_dint rr' (tr ys row)
          show V.bl (!decide (V.bl ((rr.map Da.dint).any fun z => PyData.eqv z (Da.dint (tr xs row))) = V.bl ((rr'.map Da.dint).any fun z => PyData.eqv z (Da.dint (tr ys row))))) = _
          rw [e1, e2]
          exact bl_ne rfl
        · refine q false H9 (sM.trans (s4'.trans (s5.trans (s7.trans s9)))) ⟨(fun z => nomatch z), fun z => ?_⟩
          have := ((fair_iff hl).mp z).2 i _ _ hg hg' row (List.mem_of_getElem? hrow)
          exfalso
          simp only at this
          by_cases e : tr xs row ∈ rr
          · rw [decide_eq_true e, decide_eq_true (this.mp e)] at c
            cases c
          · rw [decide_eq_false e, decide_eq_false (fun z => e (this.mpr z))] at c
            cases c
        · refine ⟨_, _, _, _, rfl, s5.trans (s7.trans s9), fun a row2 ha hr2 => ?_⟩
          rcases Nat.lt_or_ge a j with h | h
          · exact hC a row2 h hr2
          · have : a = j := by omega
            subst this
            rw [hrow] at hr2
            cases hr2
            by_cases e : tr xs row ∈ rr
            · by_cases g : tr ys row ∈ rr'
              · exact ⟨fun _ => g, fun _ => e⟩
              · exact absurd (by rw [decide_eq_true e, decide_eq_false g]; rfl) c
            · by_cases g : tr ys row ∈ rr'
              · exact absurd (by rw [decide_eq_false e, decide_eq_true g]; rfl) c
              · exact ⟨fun z => absurd z e, fun z => absurd z g⟩
      · rintro σ H5 ⟨io, ro, oo, to, rfl, s5, hC⟩
        refine ⟨_, _, _, _, _, rfl, s4'.trans s5, fun k r r' hk' hr hr' row hrow => ?_⟩
        rcases Nat.lt_or_ge k i with h | h
        · exact hR k r r' h hr hr' row hrow
        · have : k = i := by omega
          subst this
          rw [hg] at hr
          rw [hg'] at hr'
          cases hr
          cases hr'
          obtain ⟨c, hc⟩ := List.getElem?_of_mem hrow
          refine hC c row ?_ hc
          rw [hLr.length]
          exact (List.getElem?_eq_some_iff.mp hc).1
    · rintro σ H3 ⟨io, ko, ro, oo, to, rfl, s3, hR⟩
      refine q true H3 (sM.trans s3) ⟨fun _ => (fair_iff hl).mpr ⟨fun i hi j hj => hA i hi j hj, fun k r r' hr hr' => hR k r r' ?_ hr hr'⟩, fun _ => rfl⟩
      have := (List.getElem?_eq_some_iff.mp hr).1
      rw [← hs3.length] at this
      exact this
end
end J23

set_option Elab.async false
set_option linter.all false
set_option maxRecDepth 100000
set_option maxHeartbeats 4000000
namespace J23
open PySem L2 Fo Lb Ndk
open C8 (Cal pe_c pss_cut)
theorem any_bl (bs : List Bool) : inV (.bl true) (bs.map V.bl) = bs.any id := by
  induction bs with
  | nil => rfl
  | cons b bs ih =>
    rw [List.map_cons, List.any_cons, ← ih]
    cases b <;> rfl
theorem flat_bl (bs : List Bool) : (bs.map V.bl).all flatV = true := by
  rw [List.all_map, List.all_eq_true]
  intro b _
  rfl
open Classical in
/-- whether points are alike, one more pair behind -/
noncomputable def gB (R : Gm.Rels) (m n k : Nat) (ps : List (Int × Int)) (x y : Nat) : Bool := decide (Gm.Alike R m n k (((x : Int), (y : Int)) :: ps))
open Classical in
theorem gB_iff {R : Gm.Rels} {m n k : Nat} {ps : List (Int × Int)} {x y : Nat} : gB R m n k ps x y = true ↔ Gm.Alike R m n k (((x : Int), (y : Int)) :: ps) := by
  unfold gB
  exact decide_eq_true_iff
theorem any_range {f : Nat → Bool} {n : Nat} : ((List.range n).map f).any id = true ↔ ∃ y, y < n ∧ f y = true := by
  rw [List.any_eq_true]
  constructor
  · rintro ⟨b, hb, e⟩
    obtain ⟨y, hy, rfl⟩ := List.mem_map.mp hb
    exact ⟨y, List.mem_range.mp hy, e⟩
  · rintro ⟨y, hy, e⟩
    exact ⟨_, List.mem_map.mpr ⟨y, List.mem_range.mpr hy, rfl⟩, e⟩
theorem zip_snoc {xs ys : List Int} {x y : Int} (h : xs.length = ys.length) : ∀ p, p ∈ (xs ++ [x]).zip (ys ++ [y]) ↔ p ∈ (x, y) :: xs.zip ys := fun p => by
  rw [List.zip_append h, List.mem_append, List.mem_cons]
  simp [or_comm]
section
variable {P : Program} {w : World} {K : PySem.W.Frag} {mg : Str → Option Value} {base : Heap}
def FitAt (H : Hp) (F : Addr) (u : V) (r : List Bool) : Prop := ∃ a : Addr, u = .ref a ∧ a ≠ F ∧ H a = some (.lst (r.map V.bl))
theorem ok_lalike {N : Nat} {f : Addr} {fd : FuncData} (B : Bt mg) (c_law_fair : Cal P w K mg base 2 "_law_fair" (spLFair K) []) (c_law_alike : Cal P w K mg base (N + 2) "_law_alike" (spLAlike K N) []) (F : Fun K "_law_alike" "_law_alike" s_law_alike f fd) :
    FnOk P w K mg base CX0 (N + 3) f fd p_law_alike (spLAlike K (N + 1)) := by
  refine F.ok sc_law_alike (fun vs H Q E h => ?_) (fun cdv A outer s H vs Q E hr h => ?_)
  · obtain ⟨ks, sv, ov, pp, qq, m, n, k, rels, rels', xs, ys, rfl, _⟩ := h
    rfl
  obtain ⟨ks, sv, ov, pp, qq, m, n, k, rels, rels', xs, ys, rfl, hS, hO, hF, hF', hk, hP, hQ, hl, hl6, hkN, hm, hn, q⟩ := h
  have nd := sc_law_alike.nd
  refine ⟨_, (pss_cons (ps_if (pt_not (pt_val (pe_c c_law_fair hr (by omega) rfl (pa_cons (pv 0) (pa_cons (pv 1) (pa_cons (pv 2) (pa_cons (pv 3) pa_nil))))))) (pss_one (ps_ret pe_bl)) pss_nil)
    (pss_cons (ps_if (pt_cmpR op_eq (pv 4) pe_int (nomark _)) (pss_one (ps_ret pe_bl)) pss_nil)
    (pss_cons (ps_set (i := 5) nd rfl (.inl rfl) (pe_lst pa_nil))
    (pss_cons (ps_for PassesOwn.never rfl (pi_range1 rfl B.range (pa_cons (pe_ix ix_tup (pv 0) pe_int (fun _ _ => rfl)) pa_nil)) (pg_name (i := 6) nd rfl (.inr rfl)) (pss_one (ps_expr (pe_bm PySem.F.plainAttrs_list PySem.F.slot_list_append PySem.F.type_list_append mt_append (pv 5) (pa_cons (pe_lc (own := [("y", 8)]) (g := gName 8) (tt := tYes) rfl nd (pi_range1 rfl B.range (pa_cons (pe_ix ix_tup (pv 1) pe_int (fun _ _ => rfl)) pa_nil)) (blkOk_by (own := [("y", 8)]) (N := n_law_alike) (sc := defScope s_law_alike) (by decide +kernel)) (fun _ _ _ _ _ => (pg_name (i := 8) nd rfl (Or.inl rfl))) (fun _ _ _ _ _ => pts_nil) (fun _ _ _ _ _ => (pe_c c_law_alike hr (Nat.le_refl _) rfl (pa_cons (pv 0) (pa_cons (pv 1) (pa_cons (pe_op (Lb.catA_k rfl) (pv 2) (pe_tup (pa_cons (pv 6) pa_nil))) (pa_cons (pe_op (Lb.catA_k rfl) (pv 3) (pe_tup (pa_cons (pv 8) pa_nil))) (pa_cons (pe_op op_sub (pv 4) pe_int) pa_nil)))))))) pa_nil)))))
    (pss_cons (ps_for PassesOwn.never rfl (pi_list (pv 5)) (pg_name (i := 7) nd rfl (.inl rfl)) (pss_one (ps_if (pt_cmpR op_notIn_seq pe_bl (pv 7) rfl) (pss_one (ps_ret pe_bl)) pss_nil)))
    (pss_cons (ps_for PassesOwn.never rfl (pi_range1 rfl B.range (pa_cons (pe_ix ix_tup (pv 1) pe_int (fun _ _ => rfl)) pa_nil)) (pg_name (i := 8) nd rfl (.inr rfl)) (pss_one (ps_if (pt_cmpR op_notIn_seq pe_bl (pe_lc (own := [("row", 7)]) (g := gName 7) (tt := tYes) rfl nd (pi_list (pv 5)) (blkOk_by (own := [("row", 7)]) (N := n_law_alike) (sc := defScope s_law_alike) (by decide +kernel)) (fun _ _ _ _ _ => (pg_name (i := 7) nd rfl (Or.inl rfl))) (fun _ _ _ _ _ => pts_nil) (fun _ _ _ _ _ => (pe_ix (Kf.ixL_k (K := K) rfl) (pv 7) (pv 8) (fun _ _ => rfl)))) rfl) (pss_one (ps_ret pe_bl)) pss_nil)))
    (pss_one (ps_ret pe_bl)))))))), ?_⟩
  refine ⟨_, rfl, _, rfl, _, rfl, _, rfl, ks, sv, ov, pp, qq, m, n, rels, rels', xs, ys, rfl, hS, hO, hF, hF', hk, hP, hQ, hl, by omega, fun r H1 s1 hr1 => ⟨r, rfl, ite2 (fun c => ?_) (fun c => ?_)⟩⟩
  · have : r = false := by simpa using c
    exact q false H1 s1 ⟨(fun z => nomatch z), fun z => by rw [this] at hr1; exact absurd (hr1.mpr (Gm.alike_fair z)) (by simp)⟩
  have hfair : Gm.Fair (Rs rels rels') (xs.zip ys) := hr1.mp (by simpa using c)
  refine ⟨_, rfl, rfl, _, rfl, ?_⟩
  cases k with
  | zero => exact q true H1 s1 ⟨fun _ => hfair, fun _ => rfl⟩
  | succ k =>
    refine ite2 (fun c => ?_) (fun _ => ?_)
    · have := of_decide_eq_true c
      injection this with this
      omega
    have k1 := Tk.of_same (K := K) s1
    obtain ⟨sa, st, sus, rfl, hs1, hs2, hs3⟩ := hS
    obtain ⟨oa, ot, ous, rfl, ho1, ho2, ho3⟩ := hO
    obtain ⟨pa, rfl, hpa⟩ := hP
    obtain ⟨qa, rfl, hqa⟩ := hQ
    have hSt : ∀ {H'}, Same H1 H' → StrAt K H' (.ref sa) m rels := fun s => StrAt.tk (k1.trans (.of_same s)) ⟨sa, st, sus, rfl, hs1, hs2, hs3⟩
    have hOt : ∀ {H'}, Same H1 H' → StrAt K H' (.ref oa) n rels' := fun s => StrAt.tk (k1.trans (.of_same s)) ⟨oa, ot, ous, rfl, ho1, ho2, ho3⟩
    let g := gB (Rs rels rels') m n k (xs.zip ys)
    let rowg : Nat → List Bool := fun x => (List.range n).map (g x)
    refine ⟨Nat.zero_le _, fun L nL => ?_⟩
    have sL := same_new nL (.lst [])
    refine ⟨_, rfl, sa, _, _, _, rfl, rfl, k1.trans (.of_same sL) _ _ hs1, at_of (j := 1) rfl rfl, m, rfl, by omega, by omega, ?_⟩
    refine for_range (lo := 0) (n := m) (fun i σ H' => ∃ (us : List V) (xo yo : Option V), σ = [some (.ref sa), some (.ref oa), some (.ref pa), some (.ref qa), some (.int ((k + 1 : Nat) : Int)), some (.ref L), xo, none, yo] ∧ Same H1 H' ∧ H' L = some (.lst us) ∧ All2 (FitAt H' L) us ((List.range i).map rowg))
      ⟨[], none, none, rfl, sL, upd_same, .nil⟩ ?_ ?_
    · rintro i σ H2 hi ⟨us, xo, yo, rfl, s2, hL, hU⟩
      have hul : us.length = i := by rw [hU.length, List.length_map, List.length_range]
      have k2 := k1.trans (Tk.of_same (K := K) s2)
      refine ⟨_, rfl, .inl ⟨rfl, _, SqL.of hL⟩, _, rfl, oa, _, _, _, rfl, rfl, k2 _ _ ho1, at_of (j := 1) rfl rfl, n, rfl, by omega, by omega, fun D nD => ?_⟩
      have neLD : L ≠ D := ne_of_none hL nD
      refine lc_range (lo := 0) (n := n) (fun j H' => H' D = some (.lst (((List.range j).map (g i)).map V.bl)) ∧ Same H2 H') ⟨upd_same, same_new nD _⟩ ?_ ?_
      · rintro j H3 hj ⟨hD, s3⟩
        have k3 := k2.trans (Tk.of_same (K := K) s3)
        have s13 := s2.trans s3
        have ei : (0 : Int) + (i : Int) = (i : Int) := Int.zero_add _
        have ej : (0 : Int) + (j : Int) = (j : Int) := Int.zero_add _
        refine ⟨rfl, _, rfl, _, rfl, _, rfl, _, rfl, cat1 (k3 _ _ hpa) (by omega) fun t1 H4 s4 ht1 => ⟨_, rfl, _, rfl, cat1 (k3.trans (Tk.of_same (K := K) s4) _ _ hqa) (by omega) fun t2 H5 s5 ht2 => ?_⟩⟩
        have s15 := s13.trans (s4.trans s5)
        refine ⟨_, rfl, _, _, rfl, rfl, ks, .ref sa, .ref oa, .ref t1, .ref t2, m, n, k, rels, rels', xs ++ [(i : Int)], ys ++ [(j : Int)], ?_, hSt s15, hOt s15, hF, hF', hk, ⟨t1, rfl, by rw [← ei]; exact Tk.of_same (K := K) s5 _ _ ht1⟩, ⟨t2, rfl, by rw [← ej]; exact ht2⟩, by rw [List.length_append, List.length_append, hl]; rfl, by rw [List.length_append, List.length_singleton]; omega, by omega, hm, hn, fun r H6 s6 hr6 => ?_⟩
        · show [V.ref sa, V.ref oa, V.ref t1, V.ref t2, V.int (((k + 1 : Nat) : Int) - 1)] = _
          rw [show ((k + 1 : Nat) : Int) - 1 = (k : Int) by omega]
        · have er : r = g i j := by
            rw [Bool.eq_iff_iff, hr6]
            show _ ↔ gB _ _ _ _ _ _ _ = true
            rw [gB_iff]
            exact ⟨Gm.alike_set k (zip_snoc hl), Gm.alike_set k fun p => (zip_snoc hl p).symm⟩
          have s36 := s4.trans (s5.trans s6)
          refine ⟨_, s36 _ _ hD, lineOk (by rw [List.length_map, List.length_map, List.length_range]; omega), ?_, same_to (s3.trans s36) nD⟩
          rw [upd_same, List.range_succ, List.map_append, List.map_append, er]
          rfl
      · rintro H3 ⟨hD, s3⟩
        have hL3 := s3 _ _ hL
        refine ⟨L, us, _, rfl, rfl, hL3, lineOk (by omega), us ++ [.ref D], _, _, rfl, same_to (s2.trans s3) nL, upd_same, ?_⟩
        rw [List.range_succ, List.map_append]
        refine (hU.imp fun u r h => ?_).append (.cons ⟨D, rfl, neLD.symm, by rw [upd_ne neLD.symm]; exact hD⟩ .nil)
        obtain ⟨a, e, ne, ha⟩ := h
        exact ⟨a, e, ne, by rw [upd_ne ne]; exact s3 _ _ ha⟩
    · rintro σ H2 ⟨us, xo, yo, rfl, s2, hL, hU⟩
      have hul : us.length = m := by rw [hU.length, List.length_map, List.length_range]
      have k2 := k1.trans (Tk.of_same (K := K) s2)
      have getU : ∀ {x : Nat} {u : V}, us[x]? = some u → x < m ∧ ∃ a, u = .ref a ∧ H2 a = some (.lst ((rowg x).map V.bl)) := fun {x u} hx => by
        have lx := (List.getElem?_eq_some_iff.mp hx).1
        rw [hul] at lx
        obtain ⟨r, hr, a, e, ne, ha⟩ := hU.get hx
        rw [List.getElem?_map, List.getElem?_range lx] at hr
        cases hr
        exact ⟨lx, a, e, ha⟩
      refine ⟨_, rfl, L, rfl, ⟨_, SqL.of hL⟩, ?_⟩
      refine for_list (xs := us) (fun i σ H' => ∃ (xo ro yo : Option V), σ = [some (.ref sa), some (.ref oa), some (.ref pa), some (.ref qa), some (.int ((k + 1 : Nat) : Int)), some (.ref L), xo, ro, yo] ∧ H' = H2 ∧ ∀ x, x < i → x < m → ∃ y, y < n ∧ g x y = true)
        ⟨xo, none, yo, rfl, rfl, fun x hx => absurd hx (Nat.not_lt_zero _)⟩ (fun i σ H' _ ⟨_, _, _, _, e, _⟩ => e ▸ SqL.of hL) ?_ ?_
      · rintro i u σ H' hi ⟨xo, ro, yo, rfl, rfl, hx⟩
        obtain ⟨li, a, rfl, ha⟩ := getU hi
        refine ⟨_, rfl, a, _, rfl, .inl (SqL.of ha), rfl, flat_bl _, !((rowg i).any id), ?_, ite2 (fun c => ?_) (fun c => ?_)⟩
        · show V.bl (!inV (.bl true) ((rowg i).map V.bl)) = _
          rw [any_bl]
        · refine q false H' (s1.trans s2) ⟨(fun z => nomatch z), fun z => ?_⟩
          exfalso
          obtain ⟨y, hy, z2⟩ := z.2.1 (i : Int) ⟨by omega, by omega⟩
          have e : ((rowg i).any id) = true := any_range.mpr ⟨y.toNat, by have := hy.1; have := hy.2; omega, gB_iff.mpr (by rw [Int.toNat_of_nonneg hy.1]; exact z2)⟩
          rw [e] at c
          cases c
        · refine ⟨_, _, _, rfl, rfl, fun x h1 h2 => ?_⟩
          rcases Nat.lt_or_ge x i with h | h
          · exact hx x h h2
          · have : x = i := by omega
            subst this
            refine any_range.mp ?_
            cases e : ((List.range n).map (g x)).any id with
            | true => rfl
            | false => exact absurd (by rw [show (rowg x).any id = false from e]; rfl) c
      · rintro σ H' ⟨xo, ro, yo, rfl, rfl, hx⟩
        rw [hul] at hx
        refine ⟨_, rfl, oa, _, _, _, rfl, rfl, k2 _ _ ho1, at_of (j := 1) rfl rfl, n, rfl, by omega, by omega, ?_⟩
        refine for_range (lo := 0) (n := n) (fun i σ H3 => ∃ (xo ro yo : Option V), σ = [some (.ref sa), some (.ref oa), some (.ref pa), some (.ref qa), some (.int ((k + 1 : Nat) : Int)), some (.ref L), xo, ro, yo] ∧ Same H' H3 ∧ ∀ y, y < i → ∃ x, x < m ∧ g x y = true)
          ⟨xo, ro, yo, rfl, Same.refl _, fun x hx => absurd hx (Nat.not_lt_zero _)⟩ ?_ ?_
        · rintro j σ H3 hj ⟨xo, ro, yo, rfl, s3, hy⟩
          refine ⟨_, rfl, L, rfl, ⟨_, s3.seq (SqL.of hL)⟩, fun D nD => ?_⟩
          refine lc_list (xs := us) (fun i H4 => H4 D = some (.lst (((List.range i).map fun x => g x j).map V.bl)) ∧ Same H3 H4) ⟨upd_same, same_new nD _⟩ (fun i H4 _ h => (s3.trans h.2).seq (SqL.of hL)) ?_ ?_
          · rintro i u H4 hi ⟨hD, s4⟩
            obtain ⟨li, a, rfl, ha⟩ := getU hi
            have ha4 := s4 _ _ (s3 _ _ ha)
            refine ⟨rfl, _, rfl, _, rfl, a, _, (j : Int), V.bl (g i j), rfl, congrArg V.int (Int.zero_add _), SqL.of ha4, at_of rfl ?_, _, hD, lineOk (by rw [List.length_map, List.length_map, List.length_range]; omega), ?_, same_to s4 nD⟩
            · rw [List.getElem?_map, List.getElem?_map, List.getElem?_range hj]
              rfl
            · rw [upd_same, List.range_succ, List.map_append, List.map_append]
              rfl
          · rintro H4 ⟨hD, s4⟩
            rw [hul] at hD
            refine ⟨D, _, rfl, .inl (SqL.of hD), rfl, flat_bl _, !(((List.range m).map fun x => g x j).any id), ?_, ite2 (fun c => ?_) (fun c => ?_)⟩
            · show V.bl (!inV (.bl true) (((List.range m).map fun x => g x j).map V.bl)) = _
              rw [any_bl]
            · refine q false H4 (s1.trans (s2.trans (s3.trans s4))) ⟨(fun z => nomatch z), fun z => ?_⟩
              exfalso
              obtain ⟨x, hx, z2⟩ := z.2.2 (j : Int) ⟨by omega, by omega⟩
              have e : (((List.range m).map fun x => g x j).any id) = true := any_range.mpr ⟨x.toNat, by have := hx.1; have := hx.2; omega, gB_iff.mpr (by rw [Int.toNat_of_nonneg hx.1]; exact z2)⟩
              rw [e] at c
              cases c
            · refine ⟨_, _, _, rfl, s3.trans s4, fun y h1 => ?_⟩
              rcases Nat.lt_or_ge y j with h | h
              · exact hy y h
              · have : y = j := by omega
                subst this
                refine any_range.mp ?_
                cases e : ((List.range m).map fun x => g x y).any id with
                | true => rfl
                | false => exact absurd (by rw [e]; rfl) c
        · rintro σ H3 ⟨xo, ro, yo, rfl, s3, hy⟩
          refine q true H3 (s1.trans (s2.trans s3)) ⟨fun _ => ⟨hfair, fun x hx' => ?_, fun y hy' => ?_⟩, fun _ => rfl⟩
          · obtain ⟨y, h1, h2⟩ := hx x.toNat (by have := hx'.1; have := hx'.2; omega) (by have := hx'.1; have := hx'.2; omega)
            have := gB_iff.mp h2
            rw [Int.toNat_of_nonneg hx'.1] at this
            exact ⟨(y : Int), ⟨by omega, by omega⟩, this⟩
          · obtain ⟨x, h1, h2⟩ := hy y.toNat (by have := hy'.1; have := hy'.2; omega)
            have := gB_iff.mp h2
            rw [Int.toNat_of_nonneg hy'.1] at this
            exact ⟨(x : Int), ⟨by omega, by omega⟩, this⟩
end
end J23

set_option Elab.async false
set_option linter.all false
set_option maxRecDepth 100000
set_option maxHeartbeats 4000000
namespace J23
open PySem L2 Fo Lb Ndk
open C8 (Cal pe_c pss_cut)
section
variable {P : Program} {w : World} {K : PySem.W.Frag} {mg : Str → Option Value} {base : Heap}
theorem ok_rowsof {f : Addr} {fd : FuncData} (B : Bt mg) (F : Fun K "rows_of" "rows_of" s_rows_of f fd) : FnOk P w K mg base CX0 1 f fd p_rows_of (spRowsOf K) := by
  refine F.ok sc_rows_of (fun vs H Q E h => ?_) (fun cdv A outer s H vs Q E hr h => ?_)
  · obtain ⟨th, xs, k, rfl, _⟩ := h
    rfl
  obtain ⟨th, xs, k, rfl, hth, hk, hp, hxl, q⟩ := h
  have nd := sc_rows_of.nd
  rcases hth with hth | hth
  · refine ⟨_, (pss_cons (ps_set (i := 2) nd rfl (.inl rfl) (pe_lst (pa_cons (pe_tup pa_nil) pa_nil)))
    (pss_cons (ps_for PassesOwn.never rfl (pi_range1 rfl B.range (pa_cons (pv 1) pa_nil)) (pg_name (i := 3) nd rfl (.inl rfl)) (pss_one (ps_setLc2 (i := 2) (own := [("row", 4), ("thing", 5)]) (vs1 := [5]) (g := gName 4) (g1 := gName 5) (tt := tYes) (tt1 := tYes) rfl nd rfl rfl (sw_true rfl rfl rfl (by decide +kernel)) (pi_list (pv 2)) (blkOk_by (own := [("row", 4), ("thing", 5)]) (N := n_rows_of) (sc := defScope s_rows_of) (by decide +kernel)) (by decide) (fun _ _ _ _ _ => (pg_name (i := 4) nd rfl (Or.inl rfl))) (fun _ _ _ _ _ => pts_nil) (fun _ _ _ _ _ => ((Kf.pi_tup_k (K := K) rfl) (pv 0))) (fun _ _ _ _ _ => (pg_name (i := 5) nd rfl (Or.inl rfl))) (fun _ _ _ _ _ => pts_nil) (fun _ _ _ _ _ => (pe_tup (Kf.pa_star_k (K := K) rfl (pv 4) (pa_cons (pv 5) pa_nil)))))))
    (pss_one (ps_ret (pv 2))))), ?_⟩
    refine ⟨Nat.zero_le _, fun T nT => ⟨l1, fun L nL => ?_⟩⟩
    have s0 := (same_new nT (.tup [])).trans (same_new nL (.lst [V.ref T]))
    have nL0 : H L = none := (same_new nT (.tup [])).free nL
    refine ⟨_, rfl, (k : Int), rfl, by omega, by omega, ?_⟩
    refine for_range (lo := 0) (n := k) (fun i σ H' => ∃ (A1 : Addr) (us : List V) (z : Option V), σ = [some (.ref th), some (.int (k : Int)), some (.ref A1), z, none, none] ∧ Same H H' ∧ H A1 = none ∧ H' A1 = some (.lst us) ∧ All2 (TuAt K H') us (tupsOf xs i)) ⟨L, [.ref T], none, rfl, s0, nL0, upd_same, .cons ⟨T, rfl, tk_new nL _ _ _ (SqT.of upd_same)⟩ .nil⟩ ?_ ?_
    · rintro i σ H1 hi ⟨A1, us, z, rfl, s1, nA, hA, hus⟩
      have lus := hus.length
      rw [tups_len] at lus
      have lb : us.length ≤ 4096 := by rw [lus]; exact hp i (by omega)
      have lb2 : us.length * xs.length ≤ 4096 := by
        rw [lus, ← Nat.pow_succ]
        exact hp (i + 1) (by omega)
      refine ⟨_, rfl, A1, rfl, ⟨_, SqL.of hA⟩, fun D nD => ?_⟩
      have nDA : A1 ≠ D := ne_of_none hA nD
      refine over_list (K := K) (xs := us) (fun j H' => ∃ acc, H' D = some (.lst acc) ∧ All2 (TuAt K H') acc (((tupsOf xs i).take j).flatMap fun r => xs.map fun x => r ++ [x]) ∧ Same H1 H') ⟨[], upd_same, .nil, same_new nD _⟩ (fun j H' _ ⟨_, _, _, h⟩ => SqL.of (h _ _ hA)) ?_ ?_
      · rintro j u H2 hj ⟨acc, hD, hacc, s2⟩
        obtain ⟨r, hr, R, rfl, hR⟩ := hus.get hj
        have lj := (List.getElem?_eq_some_iff.mp hj).1
        have hth2 : SqT K H2 th xs := Tk.of_same (s1.trans s2) _ _ hth
        have lacc := hacc.length
        rw [flat_lenA, List.length_take] at lacc
        have lj2 : min j (tupsOf xs i).length ≤ us.length := by omega
        have la : acc.length ≤ 4096 := by rw [lacc]; exact Nat.le_trans (Nat.mul_le_mul_right _ lj2) lb2
        have lr := (mem_tups.mp (List.mem_of_getElem? hr)).1
        refine ⟨rfl, _, rfl, th, rfl, ⟨_, hth2⟩, ?_⟩
        refine over_tup (K := K) (xs := xs) (fun c H' => ∃ acc, H' D = some (.lst acc) ∧ All2 (TuAt K H') acc ((((tupsOf xs i).take j).flatMap fun r => xs.map fun x => r ++ [x]) ++ (xs.take c).map fun x => r ++ [x]) ∧ Same H1 H' ∧ acc.length ≤ 4096 + c) ⟨acc, hD, by rw [List.take_zero, List.map_nil, List.append_nil]; exact hacc, s2, by omega⟩ (fun c H' _ ⟨_, _, _, h, _⟩ => Tk.of_same (s1.trans h) _ _ hth) ?_ ?_
        · rintro c x H3 hc ⟨acc, hD, hacc, s3, la⟩
          have lc := (List.getElem?_eq_some_iff.mp hc).1
          have hR' := Tk.of_same (K := K) s3 _ _ hR
          refine ⟨rfl, _, rfl, R, _, rfl, .inl hR', _, rfl, ?_, fun p np => ⟨acc, same_new np _ _ _ hD, lineOk (by omega), acc ++ [.ref p], upd_same, ?_, same_to (s3.trans (same_new np _)) nD, by simp; omega⟩⟩
          · have : (r ++ [x]).length ≤ sizeLine := by
              rw [List.length_append, lr, List.length_singleton]
              exact Nat.le_of_lt (lineOk (by omega))
            exact this
          · have t4 := (tk_new (K := K) np (.tup (r ++ [x]))).trans (tk_lst (same_new np (.tup (r ++ [x])) _ _ hD) (.lst (acc ++ [.ref p])))
            rw [List.take_succ, hc, List.map_append, ← List.append_assoc]
            exact (hacc.imp fun _ _ h => TuAt.tk t4 h).append (.cons (TuAt.tk (tk_lst (same_new np (.tup (r ++ [x])) _ _ hD) _) ⟨p, rfl, SqT.of upd_same⟩) .nil)
        · rintro H3 ⟨acc, hD, hacc, s3, la⟩
          refine ⟨acc, hD, ?_, s3⟩
          rw [List.take_length] at hacc
          rw [List.take_succ, hr]
          show All2 _ _ (((tupsOf xs i).take j ++ [r]).flatMap _)
          rw [flat_snoc]
          exact hacc
      · rintro H2 ⟨acc, hD, hacc, s2⟩
        rw [hus.length, List.take_length] at hacc
        exact ⟨D, acc, _, rfl, s1.trans s2, s1.free nD, hD, hacc⟩
    · rintro σ H1 ⟨A1, us, z, rfl, s1, nA, hA, hus⟩
      exact ⟨_, rfl, q A1 us H1 s1 nA hA hus⟩
  · refine ⟨_, (pss_cons (ps_set (i := 2) nd rfl (.inl rfl) (pe_lst (pa_cons (pe_tup pa_nil) pa_nil)))
    (pss_cons (ps_for PassesOwn.never rfl (pi_range1 rfl B.range (pa_cons (pv 1) pa_nil)) (pg_name (i := 3) nd rfl (.inl rfl)) (pss_one (ps_setLc2 (i := 2) (own := [("row", 4), ("thing", 5)]) (vs1 := [5]) (g := gName 4) (g1 := gName 5) (tt := tYes) (tt1 := tYes) rfl nd rfl rfl (sw_true rfl rfl rfl (by decide +kernel)) (pi_list (pv 2)) (blkOk_by (own := [("row", 4), ("thing", 5)]) (N := n_rows_of) (sc := defScope s_rows_of) (by decide +kernel)) (by decide) (fun _ _ _ _ _ => (pg_name (i := 4) nd rfl (Or.inl rfl))) (fun _ _ _ _ _ => pts_nil) (fun _ _ _ _ _ => ((Kf.pi_list_k (K := K) rfl) (pv 0))) (fun _ _ _ _ _ => (pg_name (i := 5) nd rfl (Or.inl rfl))) (fun _ _ _ _ _ => pts_nil) (fun _ _ _ _ _ => (pe_tup (Kf.pa_star_k (K := K) rfl (pv 4) (pa_cons (pv 5) pa_nil)))))))
    (pss_one (ps_ret (pv 2))))), ?_⟩
    refine ⟨Nat.zero_le _, fun T nT => ⟨l1, fun L nL => ?_⟩⟩
    have s0 := (same_new nT (.tup [])).trans (same_new nL (.lst [V.ref T]))
    have nL0 : H L = none := (same_new nT (.tup [])).free nL
    refine ⟨_, rfl, (k : Int), rfl, by omega, by omega, ?_⟩
    refine for_range (lo := 0) (n := k) (fun i σ H' => ∃ (A1 : Addr) (us : List V) (z : Option V), σ = [some (.ref th), some (.int (k : Int)), some (.ref A1), z, none, none] ∧ Same H H' ∧ H A1 = none ∧ H' A1 = some (.lst us) ∧ All2 (TuAt K H') us (tupsOf xs i)) ⟨L, [.ref T], none, rfl, s0, nL0, upd_same, .cons ⟨T, rfl, tk_new nL _ _ _ (SqT.of upd_same)⟩ .nil⟩ ?_ ?_
    · rintro i σ H1 hi ⟨A1, us, z, rfl, s1, nA, hA, hus⟩
      have lus := hus.length
      rw [tups_len] at lus
      have lb : us.length ≤ 4096 := by rw [lus]; exact hp i (by omega)
      have lb2 : us.length * xs.length ≤ 4096 := by
        rw [lus, ← Nat.pow_succ]
        exact hp (i + 1) (by omega)
      refine ⟨_, rfl, A1, rfl, ⟨_, SqL.of hA⟩, fun D nD => ?_⟩
      have nDA : A1 ≠ D := ne_of_none hA nD
      refine over_list (K := K) (xs := us) (fun j H' => ∃ acc, H' D = some (.lst acc) ∧ All2 (TuAt K H') acc (((tupsOf xs i).take j).flatMap fun r => xs.map fun x => r ++ [x]) ∧ Same H1 H') ⟨[], upd_same, .nil, same_new nD _⟩ (fun j H' _ ⟨_, _, _, h⟩ => SqL.of (h _ _ hA)) ?_ ?_
      · rintro j u H2 hj ⟨acc, hD, hacc, s2⟩
        obtain ⟨r, hr, R, rfl, hR⟩ := hus.get hj
        have lj := (List.getElem?_eq_some_iff.mp hj).1
        have hth2 : SqL K H2 th xs := (s1.trans s2).seq hth
        have lacc := hacc.length
        rw [flat_lenA, List.length_take] at lacc
        have lj2 : min j (tupsOf xs i).length ≤ us.length := by omega
        have la : acc.length ≤ 4096 := by rw [lacc]; exact Nat.le_trans (Nat.mul_le_mul_right _ lj2) lb2
        have lr := (mem_tups.mp (List.mem_of_getElem? hr)).1
        refine ⟨rfl, _, rfl, th, rfl, ⟨_, hth2⟩, ?_⟩
        refine over_list (K := K) (xs := xs) (fun c H' => ∃ acc, H' D = some (.lst acc) ∧ All2 (TuAt K H') acc ((((tupsOf xs i).take j).flatMap fun r => xs.map fun x => r ++ [x]) ++ (xs.take c).map fun x => r ++ [x]) ∧ Same H1 H' ∧ acc.length ≤ 4096 + c) ⟨acc, hD, by rw [List.take_zero, List.map_nil, List.append_nil]; exact hacc, s2, by omega⟩ (fun c H' _ ⟨_, _, _, h, _⟩ => (s1.trans h).seq hth) ?_ ?_
        · rintro c x H3 hc ⟨acc, hD, hacc, s3, la⟩
          have lc := (List.getElem?_eq_some_iff.mp hc).1
          have hR' := Tk.of_same (K := K) s3 _ _ hR
          refine ⟨rfl, _, rfl, R, _, rfl, .inl hR', _, rfl, ?_, fun p np => ⟨acc, same_new np _ _ _ hD, lineOk (by omega), acc ++ [.ref p], upd_same, ?_, same_to (s3.trans (same_new np _)) nD, by simp; omega⟩⟩
          · have : (r ++ [x]).length ≤ sizeLine := by
              rw [List.length_append, lr, List.length_singleton]
              exact Nat.le_of_lt (lineOk (by omega))
            exact this
          · have t4 := (tk_new (K := K) np (.tup (r ++ [x]))).trans (tk_lst (same_new np (.tup (r ++ [x])) _ _ hD) (.lst (acc ++ [.ref p])))
            rw [List.take_succ, hc, List.map_append, ← List.append_assoc]
            exact (hacc.imp fun _ _ h => TuAt.tk t4 h).append (.cons (TuAt.tk (tk_lst (same_new np (.tup (r ++ [x])) _ _ hD) _) ⟨p, rfl, SqT.of upd_same⟩) .nil)
        · rintro H3 ⟨acc, hD, hacc, s3, la⟩
          refine ⟨acc, hD, ?_, s3⟩
          rw [List.take_length] at hacc
          rw [List.take_succ, hr]
          show All2 _ _ (((tupsOf xs i).take j ++ [r]).flatMap _)
          rw [flat_snoc]
          exact hacc
      · rintro H2 ⟨acc, hD, hacc, s2⟩
        rw [hus.length, List.take_length] at hacc
        exact ⟨D, acc, _, rfl, s1.trans s2, s1.free nD, hD, hacc⟩
    · rintro σ H1 ⟨A1, us, z, rfl, s1, nA, hA, hus⟩
      exact ⟨_, rfl, q A1 us H1 s1 nA hA hus⟩
end
end J23

set_option Elab.async false
set_option linter.all false
set_option maxRecDepth 100000
set_option maxHeartbeats 4000000
namespace J23
open PySem L2 Fo Lb Ndk
open C8 (Cal pe_c pss_cut)
section
variable {P : Program} {w : World} {K : PySem.W.Frag} {mg : Str → Option Value} {base : Heap}
theorem ok_met {f : Addr} {fd : FuncData} (B : Bt mg) (F : Fun K "met" "met" s_met f fd) : FnOk P w K mg base CX0 1 f fd p_met (spMet K) := by
  refine F.ok sc_met (fun vs H Q E h => ?_) (fun cdv A outer s H vs Q E hr h => ?_)
  · obtain ⟨v, u, m, n, ps, p, rfl, _⟩ := h
    rfl
  obtain ⟨v, u, m, n, ps, p, rfl, hv, hu, hM, hm, hn, e1, e2, q⟩ := h
  have nd := sc_met.nd
  refine ⟨_, (pss_one (ps_ret (pe_callTy call_tuple_of rfl B.tuple (by decide +kernel) (pa_cons (pe_callB (cr_sortedT rfl) rfl B.sorted (by decide +kernel) (pa_cons (pe_callTy (cr_setOfT rfl (hu64 hr)) rfl B.set (by decide +kernel) (pa_cons (pe_lst (StX.pa_star (pv 0) (pa_cons (pv 1) pa_nil))) pa_nil)) pa_nil)) pa_nil)))), ?_⟩
  obtain ⟨a, us, rfl, ha, hus⟩ := hv
  have few := hM.few hm hn
  have lus := hus.length
  rw [List.length_map] at lus
  have all : All2 (RowAt K H) (us ++ [u]) ((ps ++ [p]).map pr) := by rw [List.map_append]; exact hus.append (.cons hu .nil)
  obtain ⟨ks, k1, k2, k3⟩ := rows_ks all
  have lks : ks.length = ps.length + 1 := by
    have := congrArg List.length k2
    rw [List.length_map, List.length_map, List.length_append, List.length_singleton] at this
    exact this.symm
  refine ⟨_, rfl, a, us, rfl, .inl ha, _, rfl, ?_, fun D nD => ?_⟩
  · have : (us ++ [u]).length ≤ sizeLine := by
      rw [List.length_append, List.length_singleton]
      exact Nat.le_of_lt (lineOk (by omega))
    exact this
  have sD := same_new nD (.lst (us ++ [u]))
  refine ⟨D, ks, rfl, SqL.of (by rw [← k1]; exact upd_same), fun x hx => Tk.of_same (K := K) sD _ _ (k3 x hx), by omega, fun S L nS hsub hcov => ?_⟩
  have sS := sD.trans (same_new nS (SetTO P w S L))
  have kS := Tk.of_same (K := K) sS
  have inC : ∀ x ∈ ks, ∃ c ∈ ps ++ [p], x.2 = pr c := fun x hx => by
    have : x.2 ∈ (ps ++ [p]).map pr := by rw [k2]; exact List.mem_map.mpr ⟨x, hx, rfl⟩
    obtain ⟨c, hc, e⟩ := List.mem_map.mp this
    exact ⟨c, hc, e.symm⟩
  have bd : ∀ c ∈ ps ++ [p], Gm.El m c.1 ∧ Gm.El n c.2 := fun c hc => by
    rcases List.mem_append.mp hc with h | h
    · exact hM.inr c h
    · rw [List.mem_singleton.mp h]; exact ⟨e1, e2⟩
  refine ⟨S, L, 2, 64, rfl, upd_same, fun x hx => kS _ _ (k3 x (hsub x hx)), by decide, fun x hx => ?_, fun L' G pm ndL l64 pw nG => ⟨G, _, rfl, .inl ⟨SqL.of upd_same, fun T nT => ?_⟩⟩⟩
  · obtain ⟨c, hc, e⟩ := inC x (hsub x hx)
    obtain ⟨b1, b2⟩ := bd c hc
    have h1 := b1.1
    have h2 := b1.2
    have h3 := b2.1
    have h4 := b2.2
    rw [e]
    refine ⟨rfl, fun y hy => ?_⟩
    unfold pr at hy
    rcases List.mem_cons.mp hy with z | z
    · rw [z]; omega
    · rw [List.mem_singleton.mp z]; omega
  · have sT := sS.trans ((same_new nG (.lst (L'.map fun q => V.ref q.1))).trans (same_new nT (.tup (L'.map fun q => V.ref q.1))))
    have kT := Tk.of_same (K := K) sT
    have hcv : ∀ c ∈ ps ++ [p], pr c ∈ L'.map (·.2) := fun c hc => by
      have : pr c ∈ ks.map (·.2) := by rw [← k2]; exact List.mem_map.mpr ⟨c, hc, rfl⟩
      obtain ⟨x, hx, e⟩ := List.mem_map.mp this
      have := hcov x hx
      rw [e] at this
      exact (pm.map (·.2)).mem_iff.mpr this
    obtain ⟨qs, h1, h2, h3, h4⟩ := meet_of (K := K) (H := upd (upd (upd (upd H D (.lst (us ++ [u]))) S (SetTO P w S L)) G (.lst (L'.map fun q => V.ref q.1))) T (.tup (L'.map fun q => V.ref q.1))) (L := L') (cs := ps ++ [p]) hm hn bd (fun x hx => kT _ _ (k3 x (hsub x (pm.mem_iff.mp hx)))) (fun x hx => inC x (hsub x (pm.mem_iff.mp hx))) hcv ndL pw
    · refine q (.ref T) qs _ sT ⟨T, _, rfl, SqT.of upd_same, h1⟩ h2 (fun x => by rw [h3, List.mem_append, List.mem_singleton, List.mem_cons, or_comm]) ?_
      rw [h4, pm.length_eq]
      have : (L.map (·.2)).length ≤ (ks.map (·.2)).length := len_sub ((pm.map (·.2)).nodup_iff.mp ndL) fun z hz => by
        obtain ⟨x, hx, rfl⟩ := List.mem_map.mp hz
        exact List.mem_map.mpr ⟨x, hsub x hx, rfl⟩
      rw [List.length_map, List.length_map] at this
      omega
theorem ok_meeting {f : Addr} {fd : FuncData} (B : Bt mg) (F : Fun K "meeting" "meeting" s_meeting f fd) : FnOk P w K mg base CX0 1 f fd p_meeting (spMeeting K) := by
  refine F.ok sc_meeting (fun vs H Q E h => ?_) (fun cdv A outer s H vs Q E hr h => ?_)
  · obtain ⟨v, u, m, n, xs, ys, rfl, _⟩ := h
    rfl
  obtain ⟨v, u, m, n, xs, ys, rfl, ⟨a, rfl, ha⟩, ⟨b, rfl, hb⟩, hl, hl8, hm, hn, hx, hy, q⟩ := h
  have nd := sc_meeting.nd
  refine ⟨_, (pss_one (ps_ret (pe_callTy call_tuple_of rfl B.tuple (by decide +kernel) (pa_cons (pe_callB (cr_sortedT rfl) rfl B.sorted (by decide +kernel) (pa_cons (pe_callTy (cr_setOfT rfl (hu64 hr)) rfl B.set (by decide +kernel) (pa_cons (Zl.pe_listZip rfl rfl B.list rfl B.zip (pa_cons (pv 0) (pa_cons (pv 1) pa_nil))) pa_nil)) pa_nil)) pa_nil)))), ?_⟩
  refine ⟨_, rfl, _, rfl, a, b, _, _, rfl, ha, hb, by rw [List.length_map, List.length_map, hl], fun H1 D ts s1 nD nts hD lts hts => ?_⟩
  rw [List.length_map] at lts
  have all : All2 (RowAt K H1) (ts.map V.ref) ((xs.zip ys).map pr) := by
    refine a2_of (by rw [List.length_map, List.length_map, List.length_zip]; omega) fun i u r hu hr' => ?_
    rw [List.getElem?_map] at hu hr'
    obtain ⟨t, ht, rfl⟩ := Option.map_eq_some_iff.mp hu
    obtain ⟨p, hp, rfl⟩ := Option.map_eq_some_iff.mp hr'
    obtain ⟨g1, g2⟩ := List.getElem?_zip_eq_some.mp hp
    exact ⟨t, rfl, SqT.of (hts i t (.int p.1) (.int p.2) ht (by rw [List.getElem?_map, g1]; rfl) (by rw [List.getElem?_map, g2]; rfl))⟩
  obtain ⟨ks, k1, k2, k3⟩ := rows_ks all
  have lz : (xs.zip ys).length = xs.length := by rw [List.length_zip]; omega
  have lks : ks.length = xs.length := by
    have := congrArg List.length k2
    rw [List.length_map, List.length_map, lz] at this
    exact this.symm
  refine ⟨D, ks, rfl, SqL.of (by rw [← k1]; exact hD), k3, by omega, fun S L nS hsub hcov => ?_⟩
  have sS := same_new nS (SetTO P w S L)
  have kS := Tk.of_same (K := K) sS
  have inC : ∀ x ∈ ks, ∃ c ∈ xs.zip ys, x.2 = pr c := fun x hx => by
    have : x.2 ∈ (xs.zip ys).map pr := by rw [k2]; exact List.mem_map.mpr ⟨x, hx, rfl⟩
    obtain ⟨c, hc, e⟩ := List.mem_map.mp this
    exact ⟨c, hc, e.symm⟩
  have bd : ∀ c ∈ xs.zip ys, Gm.El m c.1 ∧ Gm.El n c.2 := fun c hc => ⟨hx _ (List.of_mem_zip (a := c.1) (b := c.2) hc).1, hy _ (List.of_mem_zip (a := c.1) (b := c.2) hc).2⟩
  refine ⟨S, L, 2, 64, rfl, upd_same, fun x hx => kS _ _ (k3 x (hsub x hx)), by decide, fun x hx => ?_, fun L' G pm ndL l64 pw nG => ⟨G, _, rfl, .inl ⟨SqL.of upd_same, fun T nT => ?_⟩⟩⟩
  · obtain ⟨c, hc, e⟩ := inC x (hsub x hx)
    obtain ⟨b1, b2⟩ := bd c hc
    have h1 := b1.1
    have h2 := b1.2
    have h3 := b2.1
    have h4 := b2.2
    rw [e]
    refine ⟨rfl, fun y hy => ?_⟩
    unfold pr at hy
    rcases List.mem_cons.mp hy with z | z
    · rw [z]; omega
    · rw [List.mem_singleton.mp z]; omega
  · have nG : upd H1 S (SetTO P w S L) G = none := nG
    have nT : upd (upd H1 S (SetTO P w S L)) G (.lst (L'.map fun q => V.ref q.1)) T = none := nT
    have sT := sS.trans ((same_new nG (.lst (L'.map fun q => V.ref q.1))).trans (same_new nT (.tup (L'.map fun q => V.ref q.1))))
    have kT := Tk.of_same (K := K) sT
    have hcv : ∀ c ∈ xs.zip ys, pr c ∈ L'.map (·.2) := fun c hc => by
      have : pr c ∈ ks.map (·.2) := by rw [← k2]; exact List.mem_map.mpr ⟨c, hc, rfl⟩
      obtain ⟨x, hx, e⟩ := List.mem_map.mp this
      have := hcov x hx
      rw [e] at this
      exact (pm.map (·.2)).mem_iff.mpr this
    obtain ⟨qs, h1, h2, h3, h4⟩ := meet_of (K := K) (H := upd (upd (upd H1 S (SetTO P w S L)) G (.lst (L'.map fun q => V.ref q.1))) T (.tup (L'.map fun q => V.ref q.1))) (L := L') (cs := xs.zip ys) hm hn bd (fun x hx => kT _ _ (k3 x (hsub x (pm.mem_iff.mp hx)))) (fun x hx => inC x (hsub x (pm.mem_iff.mp hx))) hcv ndL pw
    · refine q (.ref T) qs _ (Same.trans s1 sT) ⟨T, _, rfl, SqT.of upd_same, h1⟩ h2 h3 ?_
      rw [h4, pm.length_eq]
      have : (L.map (·.2)).length ≤ (ks.map (·.2)).length := len_sub ((pm.map (·.2)).nodup_iff.mp ndL) fun z hz => by
        obtain ⟨x, hx, rfl⟩ := List.mem_map.mp hz
        exact List.mem_map.mpr ⟨x, hsub x hx, rfl⟩
      rw [List.length_map, List.length_map] at this
      omega
theorem ok_one {f : Addr} {fd : FuncData} (B : Bt mg) (F : Fun K "is_one_to_one" "is_one_to_one" s_is_one_to_one f fd) : FnOk P w K mg base CX0 1 f fd p_is_one_to_one (spOne K) := by
  refine F.ok sc_is_one_to_one (fun vs H Q E h => ?_) (fun cdv A outer s H vs Q E hr h => ?_)
  · obtain ⟨v, m, n, ps, rfl, _⟩ := h
    rfl
  obtain ⟨v, m, n, ps, rfl, ⟨a, us, rfl, ha, hus⟩, hM, hm, hn, q⟩ := h
  have nd := sc_is_one_to_one.nd
  refine ⟨_, (pss_one (ps_ret (pe_chain op_eq op_eq (pe_callB Si.call_lenSi rfl B.len PySem.boot_len (pa_cons (Cg.pe_scG (own := [("x", 1), ("_", 2)]) (emp := fun a => SetO w a (fun _ => false) 0) (r := rSAdd w) (g := gTup K 2 (gCons (gName 1) (gCons (gName 2) (gNil)))) (tt := tYes) rfl nd (pi_tup (pv 0)) (blkOk_by (own := [("x", 1), ("_", 2)]) (N := n_is_one_to_one) (sc := defScope s_is_one_to_one) (by decide +kernel)) (fun H h hb => Si.emp_si H h hb) (fun _ _ _ _ _ => mt_sadd) (fun _ _ _ _ _ => (pg_tup_k (K := K) rfl rfl (pgs_cons (pg_name (i := 1) nd rfl (Or.inl rfl)) (pgs_cons (pg_name (i := 2) nd rfl (Or.inl rfl)) pgs_nil)))) (fun _ _ _ _ _ => pts_nil) (fun _ _ _ _ _ => (pv 1))) pa_nil)) (pe_callB call_len_seq rfl B.len PySem.boot_len (pa_cons (pv 0) pa_nil)) (pe_callB Si.call_lenSi rfl B.len PySem.boot_len (pa_cons (Cg.pe_scG (own := [("_", 2), ("y", 3)]) (emp := fun a => SetO w a (fun _ => false) 0) (r := rSAdd w) (g := gTup K 2 (gCons (gName 2) (gCons (gName 3) (gNil)))) (tt := tYes) rfl nd (pi_tup (pv 0)) (blkOk_by (own := [("_", 2), ("y", 3)]) (N := n_is_one_to_one) (sc := defScope s_is_one_to_one) (by decide +kernel)) (fun H h hb => Si.emp_si H h hb) (fun _ _ _ _ _ => mt_sadd) (fun _ _ _ _ _ => (pg_tup_k (K := K) rfl rfl (pgs_cons (pg_name (i := 2) nd rfl (Or.inl rfl)) (pgs_cons (pg_name (i := 3) nd rfl (Or.inl rfl)) pgs_nil)))) (fun _ _ _ _ _ => pts_nil) (fun _ _ _ _ _ => (pv 3))) pa_nil))))), ?_⟩
  have few := hM.few hm hn
  have lus := hus.length
  rw [List.length_map] at lus
  have at1 : ∀ {g : Pr → Int} {i : Nat} {p : Pr}, ps[i]? = some p → (ps.map g).getD i 0 = g p := fun {g i p} h => by rw [List.getD_eq_getElem?_getD, List.getElem?_map, h]; rfl
  refine ⟨_, rfl, a, rfl, ⟨_, ha⟩, fun D nD => ?_⟩
  refine over_tup (K := K) (xs := us) (fun i H' => H' D = some (SetO w D (fun k => decide (k ∈ (ps.map (·.1)).take i)) (dn (ps.map (·.1)) i)) ∧ Same H H') ⟨upd_same.trans (congrArg some (congrArg (fun z => SetO w D z 0) (by funext k; simp))), same_new nD _⟩ (fun i H' _ h => Tk.of_same h.2 _ _ ha) ?_ ?_
  · rintro i u H1 hi ⟨hD, s1⟩
    obtain ⟨r, hr', t, rfl, ht⟩ := (hus.imp fun _ _ h => h.tk (Tk.of_same (K := K) s1)).get hi
    rw [List.getElem?_map] at hr'
    obtain ⟨p, hp, rfl⟩ := Option.map_eq_some_iff.mp hr'
    have li := (List.getElem?_eq_some_iff.mp hp).1
    have le := dn_le (ps.map (·.1)) i
    refine ⟨t, _, rfl, ht, rfl, _, _, rfl, _, _, rfl, rfl, rfl, _, rfl, D, p.1, _, _, rfl, rfl, hD, Nat.lt_of_le_of_lt (show dn (ps.map (·.1)) i + 1 ≤ 100 by omega) (by decide), ?_, same_to s1 nD⟩
    rw [upd_same]
    have e1 : (ps.map (·.1)).getD i 0 = p.1 := at1 hp
    have e2 := set_next (fs := ps.map (·.1)) (i := i) (by rw [List.length_map]; exact li)
    rw [e1] at e2
    refine congrArg some ?_
    rw [e2, dn, e1]
    simp only [decide_eq_true_eq]
  rintro H1 ⟨hD, s1⟩
  refine ⟨D, _, _, rfl, hD, _, rfl, a, _, rfl, .inr (Tk.of_same (K := K) s1 _ _ ha), rfl, _, rfl, ?_⟩
  have e1 : decide (V.int ((dn (ps.map (·.1)) us.length : Nat) : Int) = V.int ((us.length : Nat) : Int)) = decide ((ps.map (·.1)).Nodup) := by
    have := dn_iff (fs := ps.map (·.1)) (i := us.length) (by rw [List.length_map]; omega)
    rw [List.take_of_length_le (by rw [List.length_map]; omega)] at this
    by_cases z : (ps.map (·.1)).Nodup
    · rw [decide_eq_true z, decide_eq_true (by rw [this.mpr z])]
    · rw [decide_eq_false z, decide_eq_false fun y => z (this.mp (by injection y with y; omega))]
  obtain ⟨bb, hbb⟩ : ∃ bb, decide ((ps.map (·.1)).Nodup) = bb := ⟨_, rfl⟩
  rw [hbb] at e1
  rw [e1]
  cases bb
  · refine q false _ s1 ⟨fun z => absurd z (by decide), fun z => ?_⟩
    exact absurd ((one_iff hM.nodup).mp z).1 (of_decide_eq_false hbb)
  refine ⟨_, rfl, a, rfl, ⟨_, Tk.of_same (K := K) s1 _ _ ha⟩, fun D2 nD2 => ?_⟩
  refine over_tup (K := K) (xs := us) (fun i H' => H' D2 = some (SetO w D2 (fun k => decide (k ∈ (ps.map (·.2)).take i)) (dn (ps.map (·.2)) i)) ∧ Same H1 H') ⟨upd_same.trans (congrArg some (congrArg (fun z => SetO w D2 z 0) (by funext k; simp))), same_new nD2 _⟩ (fun i H' _ h => Tk.of_same (s1.trans h.2) _ _ ha) ?_ ?_
  · rintro i u H2 hi ⟨hD2, s2⟩
    obtain ⟨r, hr', t, rfl, ht⟩ := (hus.imp fun _ _ h => h.tk (Tk.of_same (K := K) (s1.trans s2))).get hi
    rw [List.getElem?_map] at hr'
    obtain ⟨p, hp, rfl⟩ := Option.map_eq_some_iff.mp hr'
    have li := (List.getElem?_eq_some_iff.mp hp).1
    have le := dn_le (ps.map (·.2)) i
    refine ⟨t, _, rfl, ht, rfl, _, _, rfl, _, _, rfl, rfl, rfl, _, rfl, D2, p.2, _, _, rfl, rfl, hD2, Nat.lt_of_le_of_lt (show dn (ps.map (·.2)) i + 1 ≤ 100 by omega) (by decide), ?_, same_to s2 nD2⟩
    rw [upd_same]
    have e1 : (ps.map (·.2)).getD i 0 = p.2 := at1 hp
    have e2 := set_next (fs := ps.map (·.2)) (i := i) (by rw [List.length_map]; exact li)
    rw [e1] at e2
    refine congrArg some ?_
    rw [e2, dn, e1]
    simp only [decide_eq_true_eq]
  rintro H2 ⟨hD2, s2⟩
  refine ⟨D2, _, _, rfl, hD2, ?_⟩
  have e3 : decide (V.int ((us.length : Nat) : Int) = V.int ((dn (ps.map (·.2)) us.length : Nat) : Int)) = decide ((ps.map (·.2)).Nodup) := by
    have := dn_iff (fs := ps.map (·.2)) (i := us.length) (by rw [List.length_map]; omega)
    rw [List.take_of_length_le (by rw [List.length_map]; omega)] at this
    by_cases z : (ps.map (·.2)).Nodup
    · rw [decide_eq_true z, decide_eq_true (by rw [this.mpr z])]
    · rw [decide_eq_false z, decide_eq_false fun y => z (this.mp (by injection y with y; omega))]
  have q2 := q (decide ((ps.map (·.2)).Nodup)) _ (s1.trans s2) (by rw [one_iff hM.nodup, decide_eq_true_eq]; exact ⟨fun z => ⟨of_decide_eq_true hbb, z⟩, fun z => z.2⟩)
  rw [← e3] at q2
  first | exact ⟨rfl, q2⟩ | exact q2
end
end J23

set_option Elab.async false
set_option linter.all false
set_option maxRecDepth 100000
set_option maxHeartbeats 4000000
namespace J23
open PySem L2 Fo Lb Ndk
open C8 (Cal pe_c pss_cut Met Mak pe_mt pe_mt0 pe_mk)
section
variable {P : Program} {w : World} {K : PySem.W.Frag} {mg : Str → Option Value} {base : Heap} {C : Addr}
theorem ok_fair {f : Addr} {fd : FuncData} (B : Bt mg) (T : GmT K C) (c_is_one_to_one : Cal P w K mg base 1 "is_one_to_one" (spOne K) []) (M_keeps : Met P w K mg base 2 C "keeps" (spKeeps K P w C) []) (F : Fun K "fair" "Game.fair" s_Game_fair f fd) : FnOk P w K mg base CX0 3 f fd p_Game_fair (spFair K P w C) := by
  refine F.ok sc_Game_fair (fun vs H Q E h => ?_) (fun cdv A outer s H vs Q E hr h => ?_)
  · obtain ⟨b, v, ps, rfl, _⟩ := h
    rfl
  obtain ⟨b, v, ps, rfl, hG, hM, hps, q⟩ := h
  have nd := sc_Game_fair.nd
  refine ⟨_, (pss_cons (ps_if (pt_cmpR (Ndk.op_ndnot (hu65 hr)) (pv 1) (pe_fld (pv 0) rfl) rfl) (pss_one (Ndk.ps_ndput (hu65 hr) (pe_fld (pv 0) rfl) (pv 1) (pe_and (pe_c c_is_one_to_one hr (by decide) rfl (pa_cons (pv 1) pa_nil)) (pe_one (pe_mt M_keeps hr (by decide) (pv 0) (pa_cons (pv 1) pa_nil)))) rfl)) pss_nil)
    (pss_one (ps_ret (Ndk.pe_ndget (hu65 hr) (pe_fld (pv 0) rfl) (pv 1) (fun _ _ => rfl))))), ?_⟩
  obtain ⟨c, hN, hK⟩ := id hG.fair
  obtain ⟨a, us, rfl, ha, hus⟩ := id hM
  have key := mt_key hM
  refine ⟨_, rfl, _, rfl, b.g, C, b.dx, _, _, rfl, hG.obj, T.cl, T.nf, gf_fair b, b.dF, a, c, kps ps, rfl, rfl, hN, key, Nat.le_trans (kps_dep ps) (by decide), _, rfl, ite2 (fun cc => ?_) (fun cc => ?_)⟩
  · have none : ndV c (kps ps) = none := by
      cases e : ndV c (kps ps) with
      | none => rfl
      | some z => rw [e] at cc; cases cc
    refine ⟨_, rfl, .ref a, b.m, b.n, ps, rfl, ⟨a, us, rfl, ha, hus⟩, hps, hG.m4, hG.n4, fun r H1 s1 hr1 => ⟨r, rfl, ite2 (fun c1 => ?_) (fun c1 => ?_)⟩⟩
    · have G1 := hG.same s1
      refine ⟨_, rfl, b.g, b.dx, _, rfl, G1.obj, gf_keeps b, _, rfl, b, .ref a, ps, rfl, G1, MtAt.tk (Tk.of_same s1) ⟨a, us, rfl, ha, hus⟩, hps, fun r2 H2 s2 hr2 => ?_⟩
      have s12 := s1.trans s2
      have h12 : r2 = true ↔ Gm.Fair b.rt ps := by rw [fair_two, hr2]; exact ⟨fun z => ⟨hr1.mp c1, z⟩, fun z => z.2⟩
      have k2 := Tk.of_same (K := K) s12
      have hN2 := NdAt.tk hN k2 (s12 _ _ hN.1)
      have G2 := hG.same s12
      obtain ⟨f3, G3, hN3, key3⟩ := G2.putF hN2 hK hps (NkAt.tk k2 key) none h12
      exact ⟨_, rfl, b.g, C, b.dx, _, _, rfl, G2.obj, T.cl, T.nf, gf_fair b, _, rfl, b.dF, a, c, kps ps, rfl, rfl, hN2, NkAt.tk k2 key, Nat.le_trans (kps_dep ps) (by decide), none, big_line (Nat.le_trans (hK.few hG.m4 hG.n4) (by decide)),
        _, rfl, b.g, C, b.dx, _, _, rfl, G3.obj, T.cl, T.nf, gf_fair b, _, rfl, b.dF, a, _, kps ps, _, rfl, rfl, hN3, key3, Nat.le_trans (kps_dep ps) (by decide), by rw [ndV_snoc none, if_pos rfl], q _ _ (Gf.trans (Gf.of_same s12) f3) G3 h12⟩
    · have h12 : false = true ↔ Gm.Fair b.rt ps := ⟨(fun z => nomatch z), fun z => absurd (hr1.mpr (fair_two.mp z).1) c1⟩
      have k2 := Tk.of_same (K := K) s1
      have hN2 := NdAt.tk hN k2 (s1 _ _ hN.1)
      have G2 := hG.same s1
      obtain ⟨f3, G3, hN3, key3⟩ := G2.putF hN2 hK hps (NkAt.tk k2 key) none h12
      exact ⟨_, rfl, b.g, C, b.dx, _, _, rfl, G2.obj, T.cl, T.nf, gf_fair b, _, rfl, b.dF, a, c, kps ps, rfl, rfl, hN2, NkAt.tk k2 key, Nat.le_trans (kps_dep ps) (by decide), none, big_line (Nat.le_trans (hK.few hG.m4 hG.n4) (by decide)),
        _, rfl, b.g, C, b.dx, _, _, rfl, G3.obj, T.cl, T.nf, gf_fair b, _, rfl, b.dF, a, _, kps ps, _, rfl, rfl, hN3, key3, Nat.le_trans (kps_dep ps) (by decide), by rw [ndV_snoc none, if_pos rfl], q _ _ (Gf.trans (Gf.of_same s1) f3) G3 h12⟩
  · obtain ⟨z, hz⟩ : ∃ z, ndV c (kps ps) = some z := by
      cases e : ndV c (kps ps) with
      | none => rw [e] at cc; exact absurd rfl cc
      | some z => exact ⟨z, rfl⟩
    obtain ⟨r, rfl, hr1⟩ := hK.val hz
    exact ⟨_, rfl, b.g, C, b.dx, _, _, rfl, hG.obj, T.cl, T.nf, gf_fair b, _, rfl, b.dF, a, c, kps ps, _, rfl, rfl, hN, key, Nat.le_trans (kps_dep ps) (by decide), hz, q r _ (fun _ _ _ h => h) hG hr1⟩
def cnt (b : Gs) (s : Nat) : Nat := if s = 0 then b.m else b.n
def pkTo (b : Gs) : Nat → List (Nat × Int)
  | 0 => []
  | s + 1 => pkTo b s ++ (els (cnt b s)).map fun x => (s, x)
theorem pkTo2 (b : Gs) : pkTo b 2 = picks b := rfl
theorem cnt4 {b : Gs} (hm : b.m ≤ 4) (hn : b.n ≤ 4) (s : Nat) : cnt b s ≤ 4 := by unfold cnt; split <;> assumption
theorem cnt_at {b : Gs} {s : Nat} (h : s < 2) : [V.int (b.m : Int), V.int (b.n : Int)][s]? = some (.int (cnt b s : Int)) := by
  rcases (by omega : s = 0 ∨ s = 1) with rfl | rfl <;> rfl
theorem els_len (m : Nat) : (els m).length = m := by unfold els; rw [List.length_map, List.length_range]
theorem ok_picks {f : Addr} {fd : FuncData} (B : Bt mg) (T : GmT K C) (F : Fun K "picks" "Game.picks" s_Game_picks f fd) : FnOk P w K mg base CX0 1 f fd p_Game_picks (spPicks K P w C) := by
  refine F.ok sc_Game_picks (fun vs H Q E h => ?_) (fun cdv A outer s H vs Q E hr h => ?_)
  · obtain ⟨b, rfl, _⟩ := h
    rfl
  obtain ⟨b, rfl, hG, q⟩ := h
  have nd := sc_Game_picks.nd
  refine ⟨_, (pss_one (ps_ret (pe_lc2 (own := [("side", 1), ("picked", 2)]) (vs1 := [2]) (g := gName 1) (g1 := gName 2) (tt := tYes) (tt1 := tYes) rfl nd (pi_tup (pe_tup (pa_cons pe_int (pa_cons pe_int pa_nil)))) (blkOk_by (own := [("side", 1), ("picked", 2)]) (N := n_Game_picks) (sc := defScope s_Game_picks) (by decide +kernel)) (by decide) (fun _ _ _ _ _ => (pg_name (i := 1) nd rfl (Or.inl rfl))) (fun _ _ _ _ _ => pts_nil) (fun _ _ _ _ _ => (pi_range1 rfl B.range (pa_cons (pe_ix (Kf.ixT_k (K := K) rfl) (Kf.fld_k (K := K) rfl (pv 0) rfl) (pv 1) (fun _ _ => rfl)) pa_nil))) (fun _ _ _ _ _ => (pg_name (i := 2) nd rfl (Or.inl rfl))) (fun _ _ _ _ _ => pts_nil) (fun _ _ _ _ _ => (pe_tup (pa_cons (pv 1) (pa_cons (pv 2) pa_nil))))))), ?_⟩
  refine ⟨l2, fun t nt => ⟨t, rfl, ⟨[.int 0, .int 1], SqT.of upd_same⟩, fun D nD => ?_⟩⟩
  have s0 := (same_new nt (.tup [V.int 0, V.int 1])).trans (same_new nD (.lst []))
  have ht : SqT K (upd (upd H t (.tup [V.int 0, V.int 1])) D (.lst [])) t [.int 0, .int 1] := tk_new (K := K) nD _ _ _ (SqT.of upd_same)
  have nD0 : H D = none := (same_new nt (.tup [V.int 0, V.int 1])).free nD
  refine over_it (walk_tup (K := K) (a := t) (xs := [.int 0, .int 1])) (fun s H' => ∃ acc, H' D = some (.lst acc) ∧ All2 (fun u p => TuAt K H' u [.int (p.1 : Int), .int p.2]) acc (pkTo b s) ∧ Same H H' ∧ SqT K H' t [.int 0, .int 1]  ∧ acc.length ≤ 4 * s) ⟨[], upd_same, .nil, s0, ht, Nat.le_refl _⟩ (fun s H' _ ⟨_, _, _, _, h, _⟩ => h) ?_ ?_
  · rintro s u H1 H2 hs ⟨acc, hD, hacc, s1, ht1, la⟩ ⟨rfl, hu⟩
    have hs2 : s < 2 := hs
    have hu2 : u = .int (s : Int) := by
      rcases (by omega : s = 0 ∨ s = 1) with rfl | rfl <;> (injection hu with hu; exact hu.symm)
    subst hu2
    have G1 := hG.same s1
    have c4 := cnt4 hG.m4 hG.n4 s
    refine ⟨rfl, _, rfl, b.g, C, b.dx, _, _, rfl, G1.obj, T.cl, T.nm, gf_many b, _, rfl, b.tM, _, _, _, rfl, rfl, G1.many, at_of (j := s) rfl (cnt_at hs2), cnt b s, rfl, by omega, by omega, ?_⟩
    refine over_it (walk_range (lo := 0) (n := cnt b s)) (fun j H' => ∃ acc, H' D = some (.lst acc) ∧ All2 (fun u p => TuAt K H' u [.int (p.1 : Int), .int p.2]) acc (pkTo b s ++ ((els (cnt b s)).take j).map fun x => (s, x)) ∧ Same H H' ∧ SqT K H' t [.int 0, .int 1] ∧ acc.length ≤ 4 * s + j) ⟨acc, hD, by rw [List.take_zero, List.map_nil, List.append_nil]; exact hacc, s1, ht1, by omega⟩ (fun _ _ _ _ => trivial) ?_ ?_
    · rintro j v H3 H4 hj ⟨acc, hD, hacc, s3, ht3, la⟩ ⟨rfl, rfl⟩
      refine ⟨rfl, _, rfl, _, rfl, l2, fun p np => ⟨acc, same_new np _ _ _ hD, lineOk (by omega), acc ++ [.ref p], upd_same, ?_, same_to (s3.trans (same_new np _)) nD0, ?_, by simp; omega⟩⟩
      · have t4 := (tk_new (K := K) np (.tup [V.int (s : Int), V.int (0 + (j : Int))])).trans (tk_lst (same_new np (.tup [V.int (s : Int), V.int (0 + (j : Int))]) _ _ hD) (.lst (acc ++ [.ref p])))
        rw [List.take_succ, els_get hj, List.map_append, ← List.append_assoc]
        refine (hacc.imp fun _ _ h => TuAt.tk t4 h).append (.cons ?_ .nil)
        refine TuAt.tk (tk_lst (same_new np (.tup [V.int (s : Int), V.int (0 + (j : Int))]) _ _ hD) _) ⟨p, rfl, ?_⟩
        have e0 : (0 : Int) + (j : Int) = j := Int.zero_add _
        rw [e0]
        exact SqT.of upd_same
      · exact (tk_new (K := K) np (.tup [V.int (s : Int), V.int (0 + (j : Int))])).trans (tk_lst (same_new np (.tup [V.int (s : Int), V.int (0 + (j : Int))]) _ _ hD) (.lst (acc ++ [.ref p]))) _ _ ht3
    · rintro H3 ⟨acc, hD, hacc, s3, ht3, la⟩
      refine ⟨acc, hD, ?_, s3, ht3, by omega⟩
      rw [List.take_of_length_le (by rw [els_len]; omega)] at hacc
      exact hacc
  · rintro H1 ⟨acc, hD, hacc, s1, _, _⟩
    exact q D acc H1 s1 nD0 hD hacc
theorem ok_replies {f : Addr} {fd : FuncData} (B : Bt mg) (T : GmT K C) (F : Fun K "replies" "Game.replies" s_Game_replies f fd) : FnOk P w K mg base CX0 1 f fd p_Game_replies (spReplies K P w C) := by
  refine F.ok sc_Game_replies (fun vs H Q E h => ?_) (fun cdv A outer s H vs Q E hr h => ?_)
  · obtain ⟨b, side, x, rfl, _⟩ := h
    rfl
  obtain ⟨b, side, x, rfl, hG, hS, q⟩ := h
  have nd := sc_Game_replies.nd
  refine ⟨_, (pss_cons (ps_set (i := 3) nd rfl (.inl rfl) (pe_callTy Rg.cr_range1 rfl B.range (by decide +kernel) (pa_cons (pe_ix ix_tup (pe_fld (pv 0) rfl) (pe_op op_sub pe_int (pv 1)) (fun _ _ => rfl)) pa_nil)))
    (pss_cons (ps_if (pt_cmpR op_eq (pv 1) pe_int (nomark _)) (pss_one (ps_ret (pe_lc (own := [("answer", 4)]) (g := gName 4) (tt := tYes) rfl nd (Rg.pi_rg (pv 3)) (blkOk_by (own := [("answer", 4)]) (N := n_Game_replies) (sc := defScope s_Game_replies) (by decide +kernel)) (fun _ _ _ _ _ => (pg_name (i := 4) nd rfl (Or.inl rfl))) (fun _ _ _ _ _ => pts_nil) (fun _ _ _ _ _ => (pe_tup (pa_cons (pv 2) (pa_cons (pv 4) pa_nil))))))) pss_nil)
    (pss_one (ps_ret (pe_lc (own := [("answer", 4)]) (g := gName 4) (tt := tYes) rfl nd (Rg.pi_rg (pv 3)) (blkOk_by (own := [("answer", 4)]) (N := n_Game_replies) (sc := defScope s_Game_replies) (by decide +kernel)) (fun _ _ _ _ _ => (pg_name (i := 4) nd rfl (Or.inl rfl))) (fun _ _ _ _ _ => pts_nil) (fun _ _ _ _ _ => (pe_tup (pa_cons (pv 4) (pa_cons (pv 2) pa_nil))))))))), ?_⟩
  rcases hS with ⟨rfl, hx⟩ | ⟨rfl, hx⟩
  · have n4 := hG.n4
    refine ⟨_, rfl, b.g, C, b.dx, _, _, rfl, hG.obj, T.cl, T.nm, gf_many b, _, rfl, _, _, rfl, rfl, b.tM, _, _, _, rfl, rfl, hG.many, at_of (j := 1) rfl rfl, _, rfl, fun p np => ⟨_, rfl, rfl, true, congrArg V.bl (decide_eq_true rfl), ite2 (fun _ => ?_) (fun c => absurd rfl c)⟩⟩
    refine ⟨_, rfl, p, _, _, rfl, upd_same, by omega, fun D nD => ?_⟩
    have sD := (same_new np (.rng 0 (b.n : Int))).trans (same_new nD (.lst []))
    have nD0 : H D = none := (same_new np (.rng 0 (b.n : Int))).free nD
    have e0 : ((b.n : Int) - 0).toNat = b.n := by omega
    rw [e0]
    refine lc_range (fun i H' => ∃ acc, H' D = some (.lst acc) ∧ All2 (fun u p => RowAt K H' u (pr p)) acc (((els b.n).take i).map fun y => (x, y)) ∧ Same H H' ∧ acc.length ≤ i) ⟨[], upd_same, .nil, sD, Nat.le_refl _⟩ ?_ ?_
    · rintro i H1 hi ⟨acc, hD, hacc, s1, la⟩
      refine ⟨rfl, _, rfl, _, rfl, l2, fun t nt => ⟨acc, same_new nt _ _ _ hD, lineOk (by omega), acc ++ [.ref t], upd_same, ?_, same_to (s1.trans (same_new nt _)) nD0, by simp; omega⟩⟩
      have t4 := (tk_new (K := K) nt (.tup [V.int x, V.int (0 + (i : Int))])).trans (tk_lst (same_new nt (.tup [V.int x, V.int (0 + (i : Int))]) _ _ hD) (.lst (acc ++ [.ref t])))
      rw [List.take_succ, els_get hi, List.map_append]
      refine (hacc.imp fun _ _ h => RowAt.tk t4 h).append (.cons ?_ .nil)
      refine RowAt.tk (tk_lst (same_new nt (.tup [V.int x, V.int (0 + (i : Int))]) _ _ hD) _) ?_
      refine ⟨t, rfl, SqT.of ?_⟩
      rw [upd_same, Int.zero_add]
      rfl
    · rintro H1 ⟨acc, hD, hacc, s1, la⟩
      rw [List.take_of_length_le (by rw [els_len]; omega)] at hacc
      exact q D acc H1 s1 nD0 hD hacc
  · have n4 := hG.m4
    refine ⟨_, rfl, b.g, C, b.dx, _, _, rfl, hG.obj, T.cl, T.nm, gf_many b, _, rfl, _, _, rfl, rfl, b.tM, _, _, _, rfl, rfl, hG.many, at_of (j := 0) rfl rfl, _, rfl, fun p np => ⟨_, rfl, rfl, false, congrArg V.bl (decide_eq_false fun z => by injection z with z; exact absurd z (by decide)), ite2 (fun c => absurd c (by decide)) (fun _ => ?_)⟩⟩
    refine ⟨_, rfl, p, _, _, rfl, upd_same, by omega, fun D nD => ?_⟩
    have sD := (same_new np (.rng 0 (b.m : Int))).trans (same_new nD (.lst []))
    have nD0 : H D = none := (same_new np (.rng 0 (b.m : Int))).free nD
    have e0 : ((b.m : Int) - 0).toNat = b.m := by omega
    rw [e0]
    refine lc_range (fun i H' => ∃ acc, H' D = some (.lst acc) ∧ All2 (fun u p => RowAt K H' u (pr p)) acc (((els b.m).take i).map fun y => (y, x)) ∧ Same H H' ∧ acc.length ≤ i) ⟨[], upd_same, .nil, sD, Nat.le_refl _⟩ ?_ ?_
    · rintro i H1 hi ⟨acc, hD, hacc, s1, la⟩
      refine ⟨rfl, _, rfl, _, rfl, l2, fun t nt => ⟨acc, same_new nt _ _ _ hD, lineOk (by omega), acc ++ [.ref t], upd_same, ?_, same_to (s1.trans (same_new nt _)) nD0, by simp; omega⟩⟩
      have t4 := (tk_new (K := K) nt (.tup [V.int (0 + (i : Int)), V.int x])).trans (tk_lst (same_new nt (.tup [V.int (0 + (i : Int)), V.int x]) _ _ hD) (.lst (acc ++ [.ref t])))
      rw [List.take_succ, els_get hi, List.map_append]
      refine (hacc.imp fun _ _ h => RowAt.tk t4 h).append (.cons ?_ .nil)
      refine RowAt.tk (tk_lst (same_new nt (.tup [V.int (0 + (i : Int)), V.int x]) _ _ hD) _) ?_
      refine ⟨t, rfl, SqT.of ?_⟩
      rw [upd_same, Int.zero_add]
      rfl
    · rintro H1 ⟨acc, hD, hacc, s1, la⟩
      rw [List.take_of_length_le (by rw [els_len]; omega)] at hacc
      exact q D acc H1 s1 nD0 hD hacc
end
end J23

set_option Elab.async false
set_option linter.all false
set_option maxRecDepth 100000
set_option maxHeartbeats 4000000
namespace J23
open PySem L2 Fo Lb Ndk
open C8 (Cal pe_c pss_cut Met Mak pe_mt pe_mt0 pe_mk)
section
variable {P : Program} {w : World} {K : PySem.W.Frag} {mg : Str → Option Value} {base : Heap} {C : Addr}
theorem tups_a2 {α β : Type} {R : α → β → Prop} {us : List α} {ps : List β} (h : All2 R us ps) : ∀ k, All2 (All2 R) (tupsOf us k) (tupsOf ps k)
  | 0 => .cons .nil .nil
  | k + 1 => by
    have e : ∀ {xs : List α} {ys : List β}, All2 R xs ys → ∀ {r : List α} {c : List β}, All2 R r c → All2 (All2 R) (xs.map fun x => r ++ [x]) (ys.map fun y => c ++ [y]) := by
      intro xs ys hx
      induction hx with
      | nil => intro r c _; exact .nil
      | cons a _ ih => intro r c hr; exact .cons (hr.append (.cons a .nil)) (ih hr)
    have g : ∀ {rs : List (List α)} {cs : List (List β)}, All2 (All2 R) rs cs → All2 (All2 R) (rs.flatMap fun r => us.map fun x => r ++ [x]) (cs.flatMap fun r => ps.map fun x => r ++ [x]) := by
      intro rs cs hc
      induction hc with
      | nil => exact .nil
      | cons a _ ih =>
        rw [List.flatMap_cons, List.flatMap_cons]
        exact (e h a).append ih
    exact g (tups_a2 h k)
theorem tups_map {α β : Type} (g : α → β) (xs : List α) : ∀ k, tupsOf (xs.map g) k = (tupsOf xs k).map fun r => r.map g
  | 0 => rfl
  | k + 1 => by
    rw [tupsOf, tupsOf, tups_map g xs k]
    induction tupsOf xs k with
    | nil => rfl
    | cons r l ih =>
      rw [List.map_cons, List.flatMap_cons, List.flatMap_cons, List.map_append, ih, List.map_map, List.map_map]
      congr 1
      refine List.map_congr_left fun x _ => ?_
      show r.map g ++ [g x] = (r ++ [x]).map g
      rw [List.map_append]
      rfl
theorem pow_two_small {n k : Nat} (hn : n ≤ 16) (hk : k ≤ 2) : ∀ j, j ≤ k → n ^ j ≤ 4096 := fun j hj => Nat.le_trans (Nat.pow_le_pow_left hn j) (Nat.le_trans (Nat.pow_le_pow_right (by decide) (show j ≤ 2 by omega)) (by decide))
theorem fit_snoc {R : Gm.Rels} {t : Nat × List (List Int) × List (List Int)} {ps : List Pr} : RelsFit (R ++ [t]) ps ↔ RelsFit R ps ∧ ∀ c ∈ tupsOf ps t.1, (c.map (·.1) ∈ t.2.1 ↔ c.map (·.2) ∈ t.2.2) := by
  constructor
  · intro h
    exact ⟨fun x hx => h x (List.mem_append_left _ hx), fun c hc => h t (List.mem_append_right _ List.mem_cons_self) c (mem_tups.mp hc).1 (mem_tups.mp hc).2⟩
  · rintro ⟨h1, h2⟩ x hx c e1 e2
    rcases List.mem_append.mp hx with z | z
    · exact h1 x z c e1 e2
    · obtain rfl := List.mem_singleton.mp z
      exact h2 c (mem_tups.mpr ⟨e1, e2⟩)
theorem bl_neG {x y : Bool} : V.bl (!decide (V.bl x = V.bl y)) = V.bl (x != y) := by
  cases x <;> cases y <;> decide
theorem ok_keeps {f : Addr} {fd : FuncData} (B : Bt mg) (T : GmT K C) (c_rows_of : Cal P w K mg base 1 "rows_of" (spRowsOf K) []) (F : Fun K "keeps" "Game.keeps" s_Game_keeps f fd) : FnOk P w K mg base CX0 2 f fd p_Game_keeps (spKeeps K P w C) := by
  refine F.ok sc_Game_keeps (fun vs H Q E h => ?_) (fun cdv A outer s H vs Q E hr h => ?_)
  · obtain ⟨b, v, ps, rfl, _⟩ := h
    rfl
  obtain ⟨b, v, ps, rfl, hG, hM, hps, q⟩ := h
  have nd := sc_Game_keeps.nd
  refine ⟨_, (pss_cons (ps_for PassesOwn.never rfl (pi_list (pe_fld (pv 0) rfl)) (pg_tup rfl (pgs_cons (pg_name (i := 2) nd rfl (.inl rfl)) (pgs_cons (pg_name (i := 3) nd rfl (.inl rfl)) (pgs_cons (pg_name (i := 4) nd rfl (.inl rfl)) pgs_nil)))) (pss_one (ps_for PassesOwn.never rfl (pi_list (pe_c c_rows_of hr (by decide) rfl (pa_cons (pv 1) (pa_cons (pv 2) pa_nil)))) (pg_name (i := 5) nd rfl (.inl rfl)) (pss_cons (ps_set (i := 6) nd rfl (.inl rfl) (pe_callTy call_tuple_of rfl B.tuple (by decide +kernel) (pa_cons (pe_lc (own := [("x", 8), ("_", 9)]) (g := gTup K 2 (gCons (gName 8) (gCons (gName 9) (gNil)))) (tt := tYes) rfl nd (pi_tup (pv 5)) (blkOk_by (own := [("x", 8), ("_", 9)]) (N := n_Game_keeps) (sc := defScope s_Game_keeps) (by decide +kernel)) (fun _ _ _ _ _ => (pg_tup_k (K := K) rfl rfl (pgs_cons (pg_name (i := 8) nd rfl (Or.inl rfl)) (pgs_cons (pg_name (i := 9) nd rfl (Or.inl rfl)) pgs_nil)))) (fun _ _ _ _ _ => pts_nil) (fun _ _ _ _ _ => (pv 8))) pa_nil)))
    (pss_cons (ps_set (i := 7) nd rfl (.inl rfl) (pe_callTy call_tuple_of rfl B.tuple (by decide +kernel) (pa_cons (pe_lc (own := [("_", 9), ("y", 10)]) (g := gTup K 2 (gCons (gName 9) (gCons (gName 10) (gNil)))) (tt := tYes) rfl nd (pi_tup (pv 5)) (blkOk_by (own := [("_", 9), ("y", 10)]) (N := n_Game_keeps) (sc := defScope s_Game_keeps) (by decide +kernel)) (fun _ _ _ _ _ => (pg_tup_k (K := K) rfl rfl (pgs_cons (pg_name (i := 9) nd rfl (Or.inl rfl)) (pgs_cons (pg_name (i := 10) nd rfl (Or.inl rfl)) pgs_nil)))) (fun _ _ _ _ _ => pts_nil) (fun _ _ _ _ _ => (pv 10))) pa_nil)))
    (pss_one (ps_if (pt_cmpR op_ne (pe_cmpR (Ndk.op_ndin (hu65 hr)) (pv 6) (pv 3) rfl) (pe_cmpR (Ndk.op_ndin (hu65 hr)) (pv 7) (pv 4) rfl) (nomark _)) (pss_one (ps_ret pe_bl)) pss_nil)))))))
    (pss_one (ps_ret pe_bl))), ?_⟩
  obtain ⟨a, us, rfl, ha, hus⟩ := id hM
  obtain ⟨rs, hR, hrs⟩ := id hG.rels
  refine ⟨_, rfl, b.g, C, b.dx, _, _, rfl, hG.obj, T.cl, T.nr, gf_rels b, b.lR, rfl, ⟨rs, SqL.of hR⟩, ?_⟩
  refine for_list (xs := rs) (fun i σ H' => ∃ (po ro oo co no to : Option V), σ = [some (.ref b.g), some (.ref a), po, ro, oo, co, no, to, none, none, none] ∧ Same H H' ∧ RelsFit (b.rt.take i) ps) ⟨none, none, none, none, none, none, rfl, (fun _ _ h => h), fun t ht => nomatch ht⟩ (fun i σ H' _ ⟨_, _, _, _, _, _, _, h, _⟩ => (SqL.of (h _ _ hR))) ?_ ?_
  · rintro i u σ H1 hi ⟨po, ro, oo, co, no, to, rfl, s1, hfit⟩
    have G1 := hG.same s1
    have k1 := Tk.of_same (K := K) s1
    obtain ⟨rs', hR', hrs'⟩ := id G1.rels
    obtain rfl : rs' = rs := by
      have := s1 _ _ hR
      rw [hR'] at this
      injection this with this
      injection this
    obtain ⟨⟨pl, R1, R2⟩, hg, t, d1, d2, rfl, ht, hpl, hd1, hd2⟩ := hrs'.get hi
    refine ⟨t, _, rfl, ht, rfl, _, _, rfl, _, _, rfl, _, _, rfl, rfl, _, rfl, _, rfl, a, us, pl, rfl, .inl (k1 _ _ ha), by omega, ?_, ?_, fun l ws H2 s2 nl hl hws => ⟨l, rfl, ⟨ws, SqL.of hl⟩, ?_⟩⟩
    · exact pow_two_small (by have := hps.few hG.m4 hG.n4; have := hus.length; rw [List.length_map] at this; omega) hpl
    · have := hps.few hG.m4 hG.n4
      have := hus.length
      rw [List.length_map] at this
      omega
    have s12 := s1.trans s2
    have k12 := Tk.of_same (K := K) s12
    refine for_list (xs := ws) (fun j σ H' => ∃ (co no to : Option V), σ = [some (.ref b.g), some (.ref a), some (.int (pl : Int)), some (.ref d1), some (.ref d2), co, no, to, none, none, none] ∧ Same H2 H' ∧ ∀ (i : Nat) (c : List Pr), i < j → (tupsOf ps pl)[i]? = some c → (c.map (·.1) ∈ R1 ↔ c.map (·.2) ∈ R2)) ⟨co, no, to, rfl, Same.refl _, fun i c h => absurd h (Nat.not_lt_zero _)⟩ (fun i σ H' _ ⟨_, _, _, _, s, _⟩ => s.seq (SqL.of hl)) ?_ ?_
    · rintro j u σ H3 hj ⟨co, no, to, rfl, s3, hC⟩
      have s13 := s12.trans s3
      have k13 := Tk.of_same (K := K) s13
      obtain ⟨r, hr', w0, rfl, hw⟩ := (hws.imp fun _ _ h => TuAt.tk (Tk.of_same (K := K) s3) h).get hj
      obtain ⟨cs', hcs', hcs0⟩ := (tups_a2 (hus.imp fun _ _ h => RowAt.tk k13 h) pl).get hr'
      obtain ⟨cs, hcs1, rfl⟩ : ∃ cs, (tupsOf ps pl)[j]? = some cs ∧ cs' = cs.map pr := by
        rw [tups_map, List.getElem?_map] at hcs'
        obtain ⟨cs, h1, h2⟩ := Option.map_eq_some_iff.mp hcs'
        exact ⟨cs, h1, h2.symm⟩
      have hcs := hcs0
      have lcs := (mem_tups.mp (List.mem_of_getElem? hcs1)).1
      refine ⟨_, rfl, w0, rfl, ⟨_, hw⟩, fun D nD => ?_⟩
      refine lc_tup (xs := r) (fun c H' => H' D = some (.lst (((cs.take c).map (·.1)).map V.int)) ∧ Same H3 H') ⟨upd_same, same_new nD _⟩ (fun c H' _ h => Tk.of_same (K := K) h.2 _ _ hw) ?_ ?_
      · rintro c y Hc hc ⟨hD, sc⟩
        obtain ⟨p0, hp0, t2, rfl, ht2⟩ := (hcs.imp fun _ _ h => RowAt.tk (Tk.of_same (K := K) sc) h).get hc
        rw [List.getElem?_map] at hp0
        obtain ⟨p, hp, rfl⟩ := Option.map_eq_some_iff.mp hp0
        have lc := (List.getElem?_eq_some_iff.mp hp).1
        refine ⟨t2, _, rfl, ht2, rfl, _, _, rfl, _, _, rfl, rfl, rfl, _, rfl, _, hD, lineOk (by rw [List.length_map, List.length_map, List.length_take]; omega), ?_, same_to sc nD⟩
        rw [upd_same, List.take_succ, hp, List.map_append, List.map_append]
        rfl
      rintro H4 ⟨hD, s4⟩
      rw [hcs.length, List.length_map, List.take_length] at hD
      refine ⟨D, _, rfl, .inl ⟨SqL.of hD, fun O1 nO1 => ?_⟩⟩
      have s5 := s4.trans (same_new nO1 (.tup ((cs.map (·.1)).map V.int)))
      have h1 : SqT K (upd H4 O1 (.tup ((cs.map (·.1)).map V.int))) O1 ((cs.map (·.1)).map V.int) := SqT.of upd_same
      generalize upd H4 O1 (.tup ((cs.map (·.1)).map V.int)) = H5 at s5 h1 ⊢
      have k5 := Tk.of_same (K := K) s5
      have hw5 := k5 _ _ hw
      have hcs5 := hcs.imp fun _ _ h => RowAt.tk k5 h
      refine ⟨_, rfl, w0, rfl, ⟨_, hw5⟩, fun D2 nD2 => ?_⟩
      refine lc_tup (xs := r) (fun c H' => H' D2 = some (.lst (((cs.take c).map (·.2)).map V.int)) ∧ Same H5 H') ⟨upd_same, same_new nD2 _⟩ (fun c H' _ h => Tk.of_same (K := K) h.2 _ _ hw5) ?_ ?_
      · rintro c y Hc hc ⟨hD, sc⟩
        obtain ⟨p0, hp0, t2, rfl, ht2⟩ := (hcs5.imp fun _ _ h => RowAt.tk (Tk.of_same (K := K) sc) h).get hc
        rw [List.getElem?_map] at hp0
        obtain ⟨p, hp, rfl⟩ := Option.map_eq_some_iff.mp hp0
        have lc := (List.getElem?_eq_some_iff.mp hp).1
        refine ⟨t2, _, rfl, ht2, rfl, _, _, rfl, _, _, rfl, rfl, rfl, _, rfl, _, hD, lineOk (by rw [List.length_map, List.length_map, List.length_take]; omega), ?_, same_to sc nD2⟩
        rw [upd_same, List.take_succ, hp, List.map_append, List.map_append]
        rfl
      rintro H6 ⟨hD, s6⟩
      rw [hcs.length, List.length_map, List.take_length] at hD
      refine ⟨D2, _, rfl, .inl ⟨SqL.of hD, fun O2 nO2 => ?_⟩⟩
      have s7 := s6.trans (same_new nO2 (.tup ((cs.map (·.2)).map V.int)))
      have h2 : SqT K (upd H6 O2 (.tup ((cs.map (·.2)).map V.int))) O2 ((cs.map (·.2)).map V.int) := SqT.of upd_same
      generalize upd H6 O2 (.tup ((cs.map (·.2)).map V.int)) = H7 at s7 h2 ⊢
      have s27 := s2.trans (s3.trans (s5.trans s7))
      have h1' := Tk.of_same (K := K) s7 _ _ h1
      obtain ⟨_, _, e1, hn1, he1⟩ := hd1.fr (Gr.of_same s27) (Tk.of_same (K := K) s27)
      obtain ⟨_, _, e2, hn2, he2⟩ := hd2.fr (Gr.of_same s27) (Tk.of_same (K := K) s27)
      refine ⟨_, rfl, _, rfl, d1, O1, e1, _, rfl, rfl, hn1, nk_row ⟨O1, rfl, h1'⟩, Nat.le_trans (dep_row _) (by decide), ?_⟩
      refine ⟨_, rfl, _, rfl, d2, O2, e2, _, rfl, rfl, hn2, nk_row ⟨O2, rfl, h2⟩, Nat.le_trans (dep_row _) (by decide), ?_⟩
      rw [he1, he2]
      refine ⟨rfl, _, bl_neG, ite2 (fun c => ?_) (fun c => ?_)⟩
      · refine q false H7 (s1.trans s27) ⟨(fun z => nomatch z), fun z => ?_⟩
        exfalso
        have := z _ (List.mem_of_getElem? hg) cs lcs (mem_tups.mp (List.mem_of_getElem? hcs1)).2
        simp only at this
        by_cases e : cs.map (·.1) ∈ R1
        · rw [decide_eq_true e, decide_eq_true (this.mp e)] at c
          cases c
        · rw [decide_eq_false e, decide_eq_false (fun z => e (this.mpr z))] at c
          cases c
      · refine ⟨_, _, _, rfl, s3.trans (s5.trans s7), fun i c' hi' hc' => ?_⟩
        rcases Nat.lt_or_ge i j with h | h
        · exact hC i c' h hc'
        · have : i = j := by omega
          subst this
          rw [hcs1] at hc'
          cases hc'
          by_cases e : cs.map (·.1) ∈ R1
          · by_cases g : cs.map (·.2) ∈ R2
            · exact ⟨fun _ => g, fun _ => e⟩
            · exact absurd (by rw [decide_eq_true e, decide_eq_false g]; rfl) c
          · by_cases g : cs.map (·.2) ∈ R2
            · exact absurd (by rw [decide_eq_false e, decide_eq_true g]; rfl) c
            · exact ⟨fun z => absurd z e, fun z => absurd z g⟩
    · rintro σ H3 ⟨co, no, to, rfl, s3, hC⟩
      refine ⟨_, _, _, _, _, _, rfl, s12.trans s3, ?_⟩
      rw [List.take_succ, hg]
      refine fit_snoc.mpr ⟨hfit, fun c hc => ?_⟩
      obtain ⟨j, hj⟩ := List.getElem?_of_mem hc
      refine hC j c ?_ hj
      rw [hws.length, (tups_a2 hus pl).length, tups_len, List.length_map, ← tups_len ps pl]
      exact (List.getElem?_eq_some_iff.mp hj).1
  · rintro σ H1 ⟨po, ro, oo, co, no, to, rfl, s1, hfit⟩
    rw [hrs.length, List.take_length] at hfit
    exact q true H1 s1 ⟨fun _ => hfit, fun _ => rfl⟩
end
end J23

set_option Elab.async false
set_option linter.all false
set_option maxRecDepth 100000
set_option maxHeartbeats 4000000
namespace J23
open PySem L2 Fo Lb Ndk
open C8 (Cal pe_c pss_cut Met Mak pe_mt pe_mt0 pe_mk)
theorem alike_iff {R : Gm.Rels} {m n k : Nat} {ps qs : List Pr} (h : ∀ p, p ∈ ps ↔ p ∈ qs) : Gm.Alike R m n k ps ↔ Gm.Alike R m n k qs := ⟨Gm.alike_set k h, Gm.alike_set k fun p => (h p).symm⟩
theorem el_mem {m : Nat} {x : Int} : x ∈ els m ↔ Gm.El m x := mem_els
theorem alike_picks {b : Gs} {k : Nat} {ps : List Pr} : Gm.Alike b.rt b.m b.n (k + 1) ps ↔ Gm.Fair b.rt ps ∧ ∀ q ∈ picks b, ∃ p ∈ answers b q.1 q.2, Gm.Alike b.rt b.m b.n k (p :: ps) := by
  rw [Gm.Alike]
  refine and_congr_right fun _ => ?_
  constructor
  · rintro ⟨h1, h2⟩ q hq
    rcases List.mem_append.mp hq with z | z
    · obtain ⟨x, hx, rfl⟩ := List.mem_map.mp z
      obtain ⟨y, hy, hA⟩ := h1 x (el_mem.mp hx)
      exact ⟨(x, y), List.mem_map.mpr ⟨y, el_mem.mpr hy, rfl⟩, hA⟩
    · obtain ⟨y, hy, rfl⟩ := List.mem_map.mp z
      obtain ⟨x, hx, hA⟩ := h2 y (el_mem.mp hy)
      exact ⟨(x, y), List.mem_map.mpr ⟨x, el_mem.mpr hx, rfl⟩, hA⟩
  · intro h
    refine ⟨fun x hx => ?_, fun y hy => ?_⟩
    · obtain ⟨p, hp, hA⟩ := h (0, x) (List.mem_append_left _ (List.mem_map.mpr ⟨x, el_mem.mpr hx, rfl⟩))
      obtain ⟨y, hy, rfl⟩ := List.mem_map.mp hp
      exact ⟨y, el_mem.mp hy, hA⟩
    · obtain ⟨p, hp, hA⟩ := h (1, y) (List.mem_append_right _ (List.mem_map.mpr ⟨y, el_mem.mpr hy, rfl⟩))
      obtain ⟨x, hx, rfl⟩ := List.mem_map.mp hp
      exact ⟨x, el_mem.mp hx, hA⟩
theorem answers_el {b : Gs} {side : Nat} {x : Int} (h : SidOk b side x) : ∀ p ∈ answers b side x, Gm.El b.m p.1 ∧ Gm.El b.n p.2 := fun p hp => by
  rcases h with ⟨rfl, hx⟩ | ⟨rfl, hx⟩
  · obtain ⟨y, hy, rfl⟩ := List.mem_map.mp hp
    exact ⟨hx, el_mem.mp hy⟩
  · obtain ⟨y, hy, rfl⟩ := List.mem_map.mp hp
    exact ⟨el_mem.mp hy, hx⟩
theorem picks_ok {b : Gs} : ∀ q ∈ picks b, SidOk b q.1 q.2 := fun q hq => by
  rcases List.mem_append.mp hq with z | z
  · obtain ⟨x, hx, rfl⟩ := List.mem_map.mp z
    exact .inl ⟨rfl, el_mem.mp hx⟩
  · obtain ⟨y, hy, rfl⟩ := List.mem_map.mp z
    exact .inr ⟨rfl, el_mem.mp hy⟩
section
variable {P : Program} {w : World} {K : PySem.W.Frag} {mg : Str → Option Value} {base : Heap} {C : Addr}
theorem ok_reply {N : Nat} {f : Addr} {fd : FuncData} (B : Bt mg) (T : GmT K C) (c_met : Cal P w K mg base 1 "met" (spMet K) []) (M_replies : Met P w K mg base 1 C "replies" (spReplies K P w C) []) (M_alike : Met P w K mg base (2 * N + 4) C "alike" (spAlike K P w C N) []) (F : Fun K "reply" "Game.reply" s_Game_reply f fd) : FnOk P w K mg base CX0 (2 * N + 5) f fd p_Game_reply (spReply K P w C N) := by
  refine F.ok sc_Game_reply (fun vs H Q E h => ?_) (fun cdv A outer s H vs Q E hr h => ?_)
  · obtain ⟨b, c, v, ps, side, x, k, rfl, _⟩ := h
    rfl
  obtain ⟨b, c, v, ps, side, x, k, rfl, hG, hM, hps, hS, hk, hk8, q⟩ := h
  have nd := sc_Game_reply.nd
  refine ⟨_, (pss_cons (ps_for PassesOwn.never rfl (pi_list (pe_mt M_replies hr (by omega) (pv 0) (pa_cons (pv 2) (pa_cons (pv 3) pa_nil)))) (pg_name (i := 5) nd rfl (.inl rfl)) (pss_one (ps_if (pt_val (pe_mt M_alike hr (by omega) (pv 0) (pa_cons (pe_c c_met hr (by omega) rfl (pa_cons (pv 1) (pa_cons (pv 5) pa_nil))) (pa_cons (pv 4) pa_nil)))) (pss_one (ps_ret (pv 5))) pss_nil)))
    (pss_one (ps_ret pe_non))), ?_⟩
  refine ⟨_, rfl, b.g, b.dx, _, rfl, hG.1.obj, gf_repliesM b, _, rfl, _, rfl, b, side, x, rfl, hG.1, hS, fun L ws H1 s1 nL hL hws => ⟨L, rfl, ⟨ws, SqL.of hL⟩, ?_⟩⟩
  have f1 : Gr b H H1 := Gr.of_same s1
  obtain ⟨nLg, nLF, nLA⟩ := hG.1.nea nL
  have G1 := hG.same s1
  have M1 := MtAt.tk (Tk.of_same (K := K) s1) hM
  refine for_list (xs := ws) (fun i σ H' => ∃ (po : Option V) (c1 : List (Nk × Addr × V)), σ = [some (.ref b.g), some v, some (.int (side : Int)), some (.int x), some (.int (k : Int)), po] ∧ Gr b H1 H' ∧ GAk K P w C b c1 H' ∧ Kp k c c1 ∧ ∀ (j : Nat) (p : Pr), j < i → (answers b side x)[j]? = some p → ¬ Gm.Alike b.rt b.m b.n k (p :: ps)) ⟨none, c, rfl, Gr.refl b H1, G1, Kp.refl k c, fun j p h => absurd h (Nat.not_lt_zero _)⟩ (fun i σ H' _ ⟨_, _, _, h, _⟩ => SqL.of (h _ _ nLF nLA hL)) ?_ ?_
  · rintro i u σ H2 hi ⟨po, c1, rfl, f2, G2, kp2, hno⟩
    have k2 := G1.1.tk f2
    obtain ⟨p, hp, hu⟩ := (hws.imp fun _ _ h => RowAt.tk k2 h).get hi
    obtain ⟨e1, e2⟩ := answers_el hS p (List.mem_of_getElem? hp)
    refine ⟨_, rfl, b.g, b.dx, _, rfl, G2.1.obj, gf_alikeM b, _, rfl, _, rfl, v, u, b.m, b.n, ps, p, rfl, MtAt.tk k2 M1, hu, hps, G2.1.m4, G2.1.n4, e1, e2, fun r qs H3 s3 hq hqs hin _ => ⟨_, rfl, b, c1, r, qs, k, rfl, G2.same s3, hq, hqs, hk, hk8, fun r2 c2 H4 f4 G4 kp4 hr2 => ⟨r2, rfl, ite2 (fun cc => ?_) (fun cc => ?_)⟩⟩⟩
    · have f24 : Gr b H2 H4 := (Gr.of_same s3).trans f4
      exact ⟨_, rfl, q u c2 H4 (f1.trans (f2.trans f24)) G4 (kp2.trans kp4) (.inr ⟨p, RowAt.tk (G2.1.tk f24) hu, List.mem_of_getElem? hp, (alike_iff hin).mp (hr2.mp cc)⟩)⟩
    · have f24 : Gr b H2 H4 := (Gr.of_same s3).trans f4
      refine ⟨_, c2, rfl, f2.trans f24, G4, kp2.trans kp4, fun j p' hj hp' => ?_⟩
      rcases Nat.lt_or_ge j i with h | h
      · exact hno j p' h hp'
      · have : j = i := by omega
        subst this
        rw [hp] at hp'
        cases hp'
        exact fun z => cc (hr2.mpr ((alike_iff hin).mpr z))
  · rintro σ H2 ⟨po, c1, rfl, f2, G2, kp2, hno⟩
    refine q .non c1 H2 (f1.trans f2) G2 kp2 (.inl ⟨rfl, fun p hp => ?_⟩)
    obtain ⟨j, hj⟩ := List.getElem?_of_mem hp
    refine hno j p ?_ hj
    rw [hws.length]
    exact (List.getElem?_eq_some_iff.mp hj).1
/-- what a reply was found to be -/
def Fd (K : PySem.W.Frag) (H : Hp) (b : Gs) (k : Nat) (ps : List Pr) (u : V) (q : Nat × Int) : Prop := (u = .non ∧ ∀ p ∈ answers b q.1 q.2, ¬ Gm.Alike b.rt b.m b.n k (p :: ps)) ∨ ∃ p, RowAt K H u (pr p) ∧ p ∈ answers b q.1 q.2 ∧ Gm.Alike b.rt b.m b.n k (p :: ps)
theorem Fd.tk {H H' : Hp} {b : Gs} {k : Nat} {ps : List Pr} {u : V} {q : Nat × Int} (t : Tk K H H') (h : Fd K H b k ps u q) : Fd K H' b k ps u q := h.imp id fun ⟨p, h1, h2⟩ => ⟨p, RowAt.tk t h1, h2⟩
theorem fd_data {H : Hp} {b : Gs} {k : Nat} {ps : List Pr} {us : List V} {qs : List (Nat × Int)} (h : All2 (Fd K H b k ps) us qs) : ∃ ds, DpAll K H us ds ∧ PyData.canLayAll0 ds = true ∧ PyData.depthAll ds ≤ 4 ∧ ((ds.any fun z => PyData.eqv z .none) = true ↔ ∃ q ∈ qs, ∀ p ∈ answers b q.1 q.2, ¬ Gm.Alike b.rt b.m b.n k (p :: ps)) := by
  induction h with
  | nil => exact ⟨[], .nil, rfl, by decide, by simp⟩
  | @cons u q us qs a t ih =>
    obtain ⟨ds, h1, h2, h3, h4⟩ := ih
    rcases a with ⟨rfl, hno⟩ | ⟨p, ⟨ad, rfl, had⟩, hp, hA⟩
    · refine ⟨.none :: ds, .cons .non h1, ?_, ?_, ?_⟩
      · rw [PyData.canLayAll0, h2]; rfl
      · rw [PyData.depthAll, PyData.depth]; omega
      · rw [List.any_cons, show PyData.eqv .none .none = true from by simp [PyData.eqv], Bool.true_or]
        exact ⟨fun _ => ⟨q, List.mem_cons_self, hno⟩, fun _ => rfl⟩
    · refine ⟨Da.dint (pr p) :: ds, .cons (.tup had (Da.dp_ints _)) h1, ?_, ?_, ?_⟩
      · rw [PyData.canLayAll0, h2, SeqAt.canLay_of_shaped (Da.shaped_ints _)]; rfl
      · have := Da.dep_ints (pr p)
        rw [PyData.depthAll, Da.dint, PyData.depth]; omega
      · rw [List.any_cons, show PyData.eqv (Da.dint (pr p)) .none = false from by simp [PyData.eqv, Da.dint], Bool.false_or, h4]
        constructor
        · rintro ⟨z, hz, e⟩; exact ⟨z, List.mem_cons_of_mem _ hz, e⟩
        · rintro ⟨z, hz, e⟩
          rcases List.mem_cons.mp hz with rfl | hz
          · exact absurd hA (e p hp)
          · exact ⟨z, hz, e⟩
theorem ok_alike {N : Nat} {f : Addr} {fd : FuncData} (B : Bt mg) (T : GmT K C) (M_fair : Met P w K mg base 3 C "fair" (spFair K P w C) []) (M_picks : Met P w K mg base 1 C "picks" (spPicks K P w C) []) (M_reply : Met P w K mg base (2 * N + 5) C "reply" (spReply K P w C N) []) (F : Fun K "alike" "Game.alike" s_Game_alike f fd) : FnOk P w K mg base CX0 (2 * N + 6) f fd p_Game_alike (spAlike K P w C (N + 1)) := by
  refine F.ok sc_Game_alike (fun vs H Q E h => ?_) (fun cdv A outer s H vs Q E hr h => ?_)
  · obtain ⟨b, c, v, ps, k, rfl, _⟩ := h
    rfl
  obtain ⟨b, c, v, ps, k, rfl, hG, hM, hps, hk, hk8, q⟩ := h
  have nd := sc_Game_alike.nd
  refine ⟨_, (pss_cons (ps_if (pt_not (pt_val (pe_mt M_fair hr (by omega) (pv 0) (pa_cons (pv 1) pa_nil)))) (pss_one (ps_ret pe_bl)) pss_nil)
    (pss_cons (ps_if (pt_cmpR op_eq (pv 2) pe_int (nomark _)) (pss_one (ps_ret pe_bl)) pss_nil)
    (pss_cons (ps_set (i := 3) nd rfl (.inl rfl) (pe_tup (pa_cons (pv 1) (pa_cons (pv 2) pa_nil))))
    (pss_cons (ps_if (pt_cmpR (Ndk.op_ndnot (hu65 hr)) (pv 3) (pe_fld (pv 0) rfl) rfl) (pss_cons (ps_setLc (i := 4) (own := [("side", 5), ("picked", 6)]) (g := gTup K 2 (gCons (gName 5) (gCons (gName 6) (gNil)))) (tt := tYes) rfl nd rfl rfl (sw_true rfl rfl rfl (by decide +kernel)) (pi_list (pe_mt0 M_picks hr (by omega) (pv 0))) (blkOk_by (own := [("side", 5), ("picked", 6)]) (N := n_Game_alike) (sc := defScope s_Game_alike) (by decide +kernel)) (fun _ _ _ _ _ => (pg_tup_k (K := K) rfl rfl (pgs_cons (pg_name (i := 5) nd rfl (Or.inl rfl)) (pgs_cons (pg_name (i := 6) nd rfl (Or.inl rfl)) pgs_nil)))) (fun _ _ _ _ _ => pts_nil) (fun _ _ _ _ _ => (pe_mt M_reply hr (by omega) (pv 0) (pa_cons (pv 1) (pa_cons (pv 5) (pa_cons (pv 6) (pa_cons (pe_op op_sub (pv 2) pe_int) pa_nil)))))))
    (pss_one (Ndk.ps_ndput (hu65 hr) (pe_fld (pv 0) rfl) (pv 3) (pe_cmpR (op_notInD (hu65 hr)) pe_non (pv 4) rfl) rfl))) pss_nil)
    (pss_one (ps_ret (Ndk.pe_ndget (hu65 hr) (pe_fld (pv 0) rfl) (pv 3) (fun _ _ => rfl)))))))), ?_⟩
  refine ⟨_, rfl, b.g, b.dx, _, rfl, hG.1.obj, gf_fairM b, _, rfl, b, v, ps, rfl, hG.1, hM, hps, fun r H1 f1 g1 hr1 => ⟨r, rfl, ite2 (fun cc => ?_) (fun cc => ?_)⟩⟩
  · have : r = false := by simpa using cc
    exact q false c H1 f1.gr (hG.fair f1 g1) (Kp.refl k c) ⟨(fun z => nomatch z), fun z => by rw [this] at hr1; exact absurd (hr1.mpr (Gm.alike_fair z)) (by simp)⟩
  have hfair : Gm.Fair b.rt ps := hr1.mp (by simpa using cc)
  have G1 := hG.fair f1 g1
  have k1 := hG.1.tk f1.gr
  have M1 := MtAt.tk k1 hM
  refine ⟨_, rfl, rfl, _, rfl, ?_⟩
  cases k with
  | zero => exact q true c H1 f1.gr G1 (Kp.refl 0 c) ⟨fun _ => hfair, fun _ => rfl⟩
  | succ k =>
    refine ite2 (fun c => ?_) (fun _ => ?_)
    · have := of_decide_eq_true c
      injection this with this
      omega
    refine ⟨_, rfl, _, rfl, l2, fun p np => ?_⟩
    have s2 := same_new np (.tup [v, .int ((k + 1 : Nat) : Int)])
    have hp2 : SqT K (upd H1 p (.tup [v, .int ((k + 1 : Nat) : Int)])) p [v, .int ((k + 1 : Nat) : Int)] := SqT.of upd_same
    generalize upd H1 p (.tup [v, .int ((k + 1 : Nat) : Int)]) = H2 at s2 hp2 ⊢
    have G2 := G1.same s2
    have M2 := MtAt.tk (Tk.of_same (K := K) s2) M1
    have key := mt_key2 M2 hp2
    have f2 : Gr b H H2 := f1.gr.trans (.of_same s2)
    refine ⟨_, rfl, _, rfl, b.g, C, b.dx, _, _, rfl, G2.1.obj, T.cl, T.na, gf_alike b, b.dA, p, c, kpr ps (k + 1), rfl, rfl, G2.2.1, key, kpr_dep _ _, _, rfl, ite2 (fun cc => ?_) (fun cc => ?_)⟩
    · have none : ndV c (kpr ps (k + 1)) = none := by
        cases e : ndV c (kpr ps (k + 1)) with
        | none => rfl
        | some z => rw [e] at cc; cases cc
      refine ⟨_, rfl, b.g, b.dx, _, rfl, G2.1.obj, gf_picksM b, b, rfl, G2.1, fun L ws H3 s3 nL hL hws => ⟨L, rfl, ⟨ws, SqL.of hL⟩, fun D nD => ?_⟩⟩
      obtain ⟨_, nLF, nLA⟩ := G2.1.nea nL
      have G3 := G2.same s3
      obtain ⟨_, nDF, nDA⟩ := G3.1.nea nD
      have hL4 := same_new nD (.lst []) _ _ hL
      have nDL : L ≠ D := fun z => by rw [z, nD] at hL; cases hL
      have lws : ws.length ≤ 8 := by
        have := hws.length
        unfold picks at this
        rw [List.length_append, List.length_map, List.length_map, els_len, els_len] at this
        have := G3.1.m4
        have := G3.1.n4
        omega
      have ek : ((k + 1 : Nat) : Int) - 1 = (k : Int) := by omega
      refine lc_list (xs := ws) (fun i H' => ∃ (acc : List V) (c1 : List (Nk × Addr × V)), H' D = some (.lst acc) ∧ All2 (Fd K H' b k ps) acc ((picks b).take i) ∧ Gr b H3 H' ∧ GAk K P w C b c1 H' ∧ Kp k c c1) ⟨[], c, upd_same, .nil, Gr.of_same (same_new nD _), G3.same (same_new nD _), Kp.refl k c⟩ (fun i H' _ ⟨_, _, _, _, h, _⟩ => SqL.of (h _ _ nLF nLA hL)) ?_ ?_
      · rintro i u H4 hi ⟨acc, c1, hD, hacc, f4, G4, kp4⟩
        have k4 := G3.1.tk f4
        obtain ⟨⟨sd, x⟩, hq, t, rfl, ht⟩ := (hws.imp fun _ _ h => TuAt.tk k4 h).get hi
        have hSid := picks_ok _ (List.mem_of_getElem? hq)
        have li := (List.getElem?_eq_some_iff.mp hi).1
        have M4 := MtAt.tk k4 (MtAt.tk (Tk.of_same (K := K) s3) M2)
        refine ⟨t, _, rfl, ht, rfl, _, _, rfl, _, _, rfl, rfl, rfl, _, rfl, b.g, b.dx, _, rfl, G4.1.obj, gf_replyM b, _, rfl, _, rfl, _, rfl, _, rfl, _, _, rfl, rfl, b, c1, v, ps, sd, x, k, by rw [← ek]; rfl, G4, M4, hps, hSid, by omega, by omega, fun r c2 H5 f5 G5 kp5 hr5 => ?_⟩
        have hD5 := f5 _ _ nDF nDA hD
        have lacc := hacc.length
        rw [List.length_take] at lacc
        have k5 := G4.1.tk f5
        have k6 : Tk K H5 (upd H5 D (.lst (acc ++ [r]))) := tk_lst hD5 _
        refine ⟨acc, hD5, lineOk (by omega), acc ++ [r], c2, upd_same, ?_, Gr.to (f4.trans f5) nD, GAk.wr G3.1 G5 nD hD5, kp4.trans kp5⟩
        rw [List.take_succ, hq]
        refine (hacc.imp fun _ _ h => Fd.tk k6 (Fd.tk k5 h)).append (.cons ?_ .nil)
        exact Fd.tk k6 hr5
      rintro H4 ⟨acc, c1, hD, hacc, f4, G4, kp4⟩
      rw [hws.length, List.take_length] at hacc
      obtain ⟨ds, d1, d2, d3, d4⟩ := fd_data hacc
      have sh : SeqAt.shaped (.list ds) = true := by
        unfold SeqAt.shaped
        rw [Bool.and_eq_true, decide_eq_true_eq, PyData.canLay0, PyData.depth]
        exact ⟨d2, by omega⟩
      have hA : (!ds.any fun z => PyData.eqv z .none) = true ↔ Gm.Alike b.rt b.m b.n (k + 1) ps := by
        rw [alike_picks, Bool.not_eq_true']
        constructor
        · intro z
          refine ⟨hfair, fun q hq => ?_⟩
          by_cases e : ∃ p ∈ answers b q.1 q.2, Gm.Alike b.rt b.m b.n k (p :: ps)
          · exact e
          · have := d4.mpr ⟨q, hq, fun p hp hA => e ⟨p, hp, hA⟩⟩
            rw [z] at this
            cases this
        · rintro ⟨_, z⟩
          cases e : ds.any fun z => PyData.eqv z .none with
          | false => rfl
          | true =>
            obtain ⟨q, hq, hn⟩ := d4.mp e
            obtain ⟨p, hp, hA⟩ := z q hq
            exact absurd hA (hn p hp)
      have none4 := kp4 ps (k + 1) (by omega) none
      have k34 := G3.1.tk f4
      have key4 := NkAt.tk k34 (NkAt.tk (Tk.of_same (K := K) s3) key)
      obtain ⟨f5, G5, hN5, key5⟩ := G4.1.putA G4.2.1 G4.2.2 hps hk8 key4 none4 hA
      refine ⟨_, rfl, .none, ds, .non, .lst (SqL.of hD) d1, by decide, sh, _, rfl, b.g, C, b.dx, _, _, rfl, G4.1.obj, T.cl, T.na, gf_alike b, _, rfl, b.dA, p, c1, kpr ps (k + 1), rfl, rfl, G4.2.1, key4, kpr_dep _ _, none4, big_line (G4.2.2.few hG.1.m4 hG.1.n4), ?_⟩
      refine ⟨_, rfl, b.g, C, b.dx, _, _, rfl, G5.obj, T.cl, T.na, gf_alike b, _, rfl, b.dA, p, _, kpr ps (k + 1), _, rfl, rfl, hN5, key5, kpr_dep _ _, by rw [ndV_snoc none4, if_pos rfl], ?_⟩
      refine q _ _ _ (((f2.trans (.of_same s3)).trans f4).trans f5) ⟨G5, hN5, ?_⟩ (Kp.put (kp4.up (by omega)) none4) hA
      exact ⟨nd_snoc G4.2.2.1 none4, fun e he => by
        rcases List.mem_append.mp he with z | z
        · exact G4.2.2.2 e z
        · rw [List.mem_singleton.mp z]
          exact ⟨ps, k + 1, _, hps, hk8, rfl, rfl, hA⟩⟩
    · obtain ⟨z, hz⟩ : ∃ z, ndV c (kpr ps (k + 1)) = some z := by
        cases e : ndV c (kpr ps (k + 1)) with
        | none => rw [e] at cc; exact absurd rfl cc
        | some z => exact ⟨z, rfl⟩
      obtain ⟨r, rfl, hr⟩ := G2.2.2.val hz
      exact ⟨_, rfl, b.g, C, b.dx, _, _, rfl, G2.1.obj, T.cl, T.na, gf_alike b, _, rfl, b.dA, p, c, kpr ps (k + 1), _, rfl, rfl, G2.2.1, key, kpr_dep _ _, hz, q r c H2 f2 G2 (Kp.refl _ c) hr⟩
end
end J23

set_option Elab.async false
set_option linter.all false
set_option maxRecDepth 100000
set_option maxHeartbeats 4000000
namespace J23
open PySem L2 Fo Lb Ndk
open C8 (Cal pe_c pss_cut Met Mak pe_mt pe_mt0 pe_mk)
section
variable {P : Program} {w : World} {K : PySem.W.Frag} {mg : Str → Option Value} {base : Heap} {C : Addr}
theorem ok_ginit {f : Addr} {fd : FuncData} (B : Bt mg) (T : GmT K C) (F : Fun K "__init__" "Game.__init__" s_Game_init_ f fd) : FnOk P w K mg base CX0 1 f fd p_Game_init_ (spGInit K P w C) := by
  refine F.ok sc_Game_init_ (fun vs H Q E h => ?_) (fun cdv A outer s H vs Q E hr h => ?_)
  · obtain ⟨ks, g, dx, sv, ov, m, n, rels, rels', rfl, _⟩ := h
    rfl
  obtain ⟨ks, g, dx, sv, ov, m, n, rels, rels', rfl, hg, hS, hO, hF, hF', hk, hm, hn, q⟩ := h
  have nd := sc_Game_init_.nd
  refine ⟨_, (pss_cons (ps_fld (pv 0) (pv 1) rfl)
    (pss_cons (ps_fld (pv 0) (pv 2) rfl)
    (pss_cons (ps_fld (pv 0) (pe_tup (pa_cons (pe_ix ix_tup (pv 1) pe_int (fun _ _ => rfl)) (pa_cons (pe_ix ix_tup (pv 2) pe_int (fun _ _ => rfl)) pa_nil))) rfl)
    (pss_cons (ps_fld (pv 0) (pe_lc (own := [("_", 3), ("places", 4), ("rows", 5), ("opposite", 6)]) (g := gTup K 2 (gCons (gTup K 3 (gCons (gName 3) (gCons (gName 4) (gCons (gName 5) (gNil))))) (gCons (gName 6) (gNil)))) (tt := tYes) rfl nd (RZ.pi_zipA rfl B.zip (pa_cons (pe_ix ix_tup (pv 1) pe_int (fun _ _ => rfl)) (pa_cons (pe_ix ix_tup (pv 2) pe_int (fun _ _ => rfl)) pa_nil))) (blkOk_by (own := [("_", 3), ("places", 4), ("rows", 5), ("opposite", 6)]) (N := n_Game_init_) (sc := defScope s_Game_init_) (by decide +kernel)) (fun _ _ _ _ _ => (pg_tup_k (K := K) rfl rfl (pgs_cons (pg_tup_k (K := K) rfl rfl (pgs_cons (pg_name (i := 3) nd rfl (Or.inl rfl)) (pgs_cons (pg_name (i := 4) nd rfl (Or.inl rfl)) (pgs_cons (pg_name (i := 5) nd rfl (Or.inl rfl)) pgs_nil)))) (pgs_cons (pg_name (i := 6) nd rfl (Or.inl rfl)) pgs_nil)))) (fun _ _ _ _ _ => pts_nil) (fun _ _ _ _ _ => (pe_tup (pa_cons (pv 4) (pa_cons (Cg.pe_dcG (own := [("row", 7)]) (emp := fun a => Ndk.NdO P w a []) (r := Ndk.rNdPut K P w) (g := gName 7) (tt := tYes) rfl nd ((Kf.pi_tup_k (K := K) rfl) (pv 5)) (Kf.blk_in (blkOk_by (own := [("row", 7)]) (N := n_Game_init_) (by decide +kernel))) (fun H h hb => Ndk.emp_nd H h hb) (fun _ _ _ _ _ => Ndk.put_nd_k (K := K) (P := P) (w := w) rfl rfl rfl (hu65 hr)) (fun _ _ _ _ _ => (pg_name (i := 7) nd rfl (Or.inl rfl))) (fun _ _ _ _ _ => pts_nil) (fun _ _ _ _ _ => (pv 7)) (fun _ _ _ _ _ => pe_bl)) (pa_cons (Cg.pe_dcG (own := [("row", 7)]) (emp := fun a => Ndk.NdO P w a []) (r := Ndk.rNdPut K P w) (g := gName 7) (tt := tYes) rfl nd ((Kf.pi_tup_k (K := K) rfl) (pe_ix (Kf.ixT_k (K := K) rfl) (pv 6) pe_int (fun _ _ => rfl))) (Kf.blk_in (blkOk_by (own := [("row", 7)]) (N := n_Game_init_) (by decide +kernel))) (fun H h hb => Ndk.emp_nd H h hb) (fun _ _ _ _ _ => Ndk.put_nd_k (K := K) (P := P) (w := w) rfl rfl rfl (hu65 hr)) (fun _ _ _ _ _ => (pg_name (i := 7) nd rfl (Or.inl rfl))) (fun _ _ _ _ _ => pts_nil) (fun _ _ _ _ _ => (pv 7)) (fun _ _ _ _ _ => pe_bl)) pa_nil)))))) rfl)
    (pss_cons (ps_fld (pv 0) (Lb.pe_ndnew_k (P := P) (w := w) rfl rfl) rfl)
    (pss_one (ps_fld (pv 0) (Lb.pe_ndnew_k (P := P) (w := w) rfl rfl) rfl))))))), ?_⟩
  obtain ⟨sa, st, sus, rfl, hs1, hs2, hs3⟩ := hS
  obtain ⟨oa, ot, ous, rfl, ho1, ho2, ho3⟩ := hO
  refine ⟨_, rfl, _, rfl, g, C, dx, [], rfl, hg, T.cl, T.ns, (by show 0 < 1000; decide), ?_⟩
  have b1 : But g H (upd H g (.ins C dx (putF "structure" (.ref sa) []))) := but_upd _
  have o1 : upd H g (.ins C dx (putF "structure" (.ref sa) [])) g = some (.ins C dx (putF "structure" (.ref sa) [])) := upd_same
  generalize upd H g (.ins C dx (putF "structure" (.ref sa) [])) = H1 at b1 o1 ⊢
  refine ⟨_, rfl, _, rfl, g, C, dx, _, rfl, o1, T.cl, T.no, (by show 1 < 1000; decide), ?_⟩
  have b2 : But g H (upd H1 g (.ins C dx (putF "other" (.ref oa) (putF "structure" (.ref sa) [])))) := b1.trans (but_upd _)
  have o2 : upd H1 g (.ins C dx (putF "other" (.ref oa) (putF "structure" (.ref sa) []))) g = some (.ins C dx (putF "other" (.ref oa) (putF "structure" (.ref sa) []))) := upd_same
  generalize upd H1 g (.ins C dx (putF "other" (.ref oa) (putF "structure" (.ref sa) []))) = H2 at b2 o2 ⊢
  have k2 : Tk K H H2 := tk_but b2 hg
  refine ⟨_, rfl, sa, _, _, _, rfl, rfl, k2 _ _ hs1, at_of (j := 1) rfl rfl, _, rfl, oa, _, _, _, rfl, rfl, k2 _ _ ho1, at_of (j := 1) rfl rfl, l2, fun tM nM => ?_⟩
  have nMg : tM ≠ g := fun z => by rw [z, o2] at nM; cases nM
  have b3 : But g H (upd H2 tM (.tup [.int (m : Int), .int (n : Int)])) := b2.trans (.of_same (same_new nM _))
  have o3 := same_new nM (.tup [V.int (m : Int), V.int (n : Int)]) _ _ o2
  have hM3 : SqT K (upd H2 tM (.tup [.int (m : Int), .int (n : Int)])) tM [.int (m : Int), .int (n : Int)] := SqT.of upd_same
  generalize upd H2 tM (.tup [.int (m : Int), .int (n : Int)]) = H3 at b3 o3 hM3 ⊢
  refine ⟨_, rfl, g, C, dx, _, rfl, o3, T.cl, T.nm, (by show 2 < 1000; decide), ?_⟩
  have b4 : But g H (upd H3 g (.ins C dx (putF "many" (.ref tM) (putF "other" (.ref oa) (putF "structure" (.ref sa) []))))) := b3.trans (but_upd _)
  have k34 : Tk K H3 (upd H3 g (.ins C dx (putF "many" (.ref tM) (putF "other" (.ref oa) (putF "structure" (.ref sa) []))))) := tk_but (but_upd _) o3
  have o4 : upd H3 g (.ins C dx (putF "many" (.ref tM) (putF "other" (.ref oa) (putF "structure" (.ref sa) [])))) g = some (.ins C dx (putF "many" (.ref tM) (putF "other" (.ref oa) (putF "structure" (.ref sa) [])))) := upd_same
  have hM4 := k34 _ _ hM3
  generalize upd H3 g (.ins C dx (putF "many" (.ref tM) (putF "other" (.ref oa) (putF "structure" (.ref sa) [])))) = H4 at b4 o4 hM4 ⊢
  have k4 : Tk K H H4 := tk_but b4 hg
  have hs4 := k4 _ _ hs2
  have ho4 := k4 _ _ ho2
  have hs34 := hs3.imp fun _ _ h => RelAt.tk k4 h
  have ho34 := ho3.imp fun _ _ h => RelAt.tk k4 h
  have lk : ks.length ≤ 2 := (kd_len ks hk).1
  have l1 := hs3.length
  have l2' := ho3.length
  have l3 := hF.length
  have l4 := hF'.length
  have ll : sus.length = ous.length := by omega
  refine ⟨_, rfl, sa, _, _, _, rfl, rfl, k4 _ _ hs1, at_of (j := 2) rfl rfl, _, rfl, oa, _, _, _, rfl, rfl, k4 _ _ ho1, at_of (j := 2) rfl rfl, st, ot, sus, ous, rfl, .inr ⟨hs4, ho4, fun D nD => ?_⟩⟩
  have nDg : D ≠ g := fun z => by rw [z, o4] at nD; cases nD
  refine lc_it (walk_zipT (K := K) ll) (fun i H' => ∃ acc, H' D = some (.lst acc) ∧ All2 (GrN K P w H') acc ((Rs rels rels').take i) ∧ Same H4 H') ⟨[], upd_same, .nil, same_new nD _⟩ (fun i H' _ ⟨_, _, _, h⟩ => ⟨Tk.of_same h _ _ hs4, Tk.of_same h _ _ ho4⟩) ?_ ?_
  · rintro i u H5 H6 hi ⟨acc, hD, hacc, s5⟩ ⟨T1, x, y, rfl, nT, rfl, hx, hy⟩
    have s6 := s5.trans (same_new nT (.tup [x, y]))
    have hT1 : SqT K (upd H5 T1 (.tup [x, y])) T1 [x, y] := SqT.of upd_same
    have hD6 := same_new nT (.tup [x, y]) _ _ hD
    have hacc6 := hacc.imp fun _ _ h => GrN.fr h (tk_new (K := K) nT (.tup [x, y])) fun a ents e => same_new nT _ _ _ e
    generalize upd H5 T1 (.tup [x, y]) = H6 at s6 hT1 hD6 hacc6 ⊢
    have k6 := Tk.of_same (K := K) s6
    obtain ⟨⟨rn, pl, rr⟩, hg1, a1, t1, us1, rfl, ha1, ht1, hu1⟩ := (hs34.imp fun _ _ h => RelAt.tk k6 h).get hx
    obtain ⟨⟨rn', pl', rr'⟩, hg2, a2, t2, us2, rfl, ha2, ht2, hu2⟩ := (ho34.imp fun _ _ h => RelAt.tk k6 h).get hy
    obtain ⟨⟨kn, kp⟩, hkp, f1, f2, f3⟩ := hF.get hg1
    obtain ⟨⟨kn', kp'⟩, hkp', g1, g2, g3⟩ := hF'.get hg2
    rw [hkp] at hkp'
    cases hkp'
    simp only at f1 f2 f3 g1 g2 g3 ha1 ha2 ht1 ht2 hu1 hu2
    have hpl := (kd_len ks hk).2 _ (List.mem_of_getElem? hkp)
    simp only at hpl
    have lr : rr.length ≤ 64 := Nat.le_trans f3.few (by rw [f2]; exact Nat.le_trans (Nat.pow_le_pow_left hm kp) (Nat.le_trans (Nat.pow_le_pow_right (by decide) (show kp ≤ 2 by omega)) (by decide)))
    have lr' : rr'.length ≤ 64 := Nat.le_trans g3.few (by rw [g2]; exact Nat.le_trans (Nat.pow_le_pow_left hn kp) (Nat.le_trans (Nat.pow_le_pow_right (by decide) (show kp ≤ 2 by omega)) (by decide)))
    refine ⟨T1, _, rfl, hT1, rfl, _, _, rfl, a1, _, rfl, ha1, rfl, _, _, rfl, _, _, rfl, _, _, rfl, rfl, _, _, rfl, rfl, rfl, _, rfl, _, rfl, t1, rfl, ⟨_, ht1⟩, fun D1 nD1 => ?_⟩
    have walk : ∀ {H6 : Hp} {t1 D1 : Addr} {us1 : List V} {rr : List (List Int)} {Qd : Hp → Prop} {step : V → Hp → (Hp → Prop) → Prop}, H6 D1 = none → SqT K H6 t1 us1 → All2 (RowAt K H6) us1 rr → rr.Nodup → rr.length ≤ 64 →
        (∀ (u : V) (Hc : Hp) (Nx : Hp → Prop), rNdPut K P w (.ref D1) u (.bl true) Hc Nx → step u Hc Nx) → (∀ H7, Same H6 H7 → RowN K P w H7 D1 rr → Qd H7) →
        ∃ W : Nat → Nat → Hp → Prop, (∃ m, W 0 m (upd H6 D1 (NdO P w D1 []))) ∧ ∀ i m H, W i m H → ((Itt K t1).stop i H ∧ Qd H) ∨ ((Itt K t1).go i H ∧ ∃ Nx : Hp → Prop, (∀ H', Nx H' → ∃ m', m' < m ∧ W (i + 1) m' H') ∧ ∀ x H', (Itt K t1).yld i H x H' → step x H' Nx) := by
      intro H6 t1 D1 us1 rr Qd step nD1 ht1 hu1 hnd lr hst hq
      refine over_tup (K := K) (xs := us1) (fun c H' => ∃ ents, NdAt K P w H' D1 ents ∧ ents.map (·.1) = (rr.take c).map nkr ∧ Same H6 H') ⟨[], ⟨upd_same, fun e he => nomatch he⟩, rfl, same_new nD1 _⟩ (fun c H' _ ⟨_, _, _, h⟩ => Tk.of_same h _ _ ht1) ?_ ?_
      · rintro c u Hc hc ⟨ents, hN, hE, sc⟩
        obtain ⟨r, hr', row, rfl, hrow⟩ := (hu1.imp fun _ _ h => RowAt.tk (Tk.of_same (K := K) sc) h).get hc
        have lc := (List.getElem?_eq_some_iff.mp hr').1
        have len := congrArg List.length hE
        rw [List.length_map, List.length_map, List.length_take] at len
        have none : ndV ents (nkr r) = none := nd_none fun z => by
          rw [hE] at z
          obtain ⟨r', hr1, e⟩ := List.mem_map.mp z
          rw [nkr_inj e] at hr1
          obtain ⟨j, hj⟩ := List.getElem?_of_mem hr1
          rw [List.getElem?_take] at hj
          split at hj
          · next h => exact absurd (nd_ix hnd hj hr') (by omega)
          · cases hj
        have key := nk_row (K := K) (H := Hc) ⟨row, rfl, hrow⟩
        refine hst _ _ _ ⟨D1, row, ents, nkr r, rfl, rfl, hN, key, Nat.le_trans (dep_row r) (by decide), none, lineOk (by omega), ents ++ [(nkr r, row, .bl true)], ⟨upd_same, fun e he => ?_⟩, ?_, same_to sc nD1⟩
        · have kk : Tk K Hc (upd Hc D1 (NdO P w D1 (ents ++ [(nkr r, row, .bl true)]))) := fun a xs h => by
            rcases h with (h | ⟨o, h⟩) | h
            · exact .inl (.inl (by rw [upd_ne (fun z => by rw [z, hN.1] at h; cases h)]; exact h))
            · exact .inl (.inr ⟨o, by rw [upd_ne (fun z => by rw [z, hN.1] at h; cases h)]; exact h⟩)
            · exact .inr h
          rcases List.mem_append.mp he with z | z
          · exact ⟨(hN.2 e z).1, NkAt.tk kk (hN.2 e z).2⟩
          · rw [List.mem_singleton.mp z]
            exact ⟨Nat.le_trans (dep_row r) (by decide), NkAt.tk kk key⟩
        · rw [List.map_append, hE, List.take_succ, hr', List.map_append]
          rfl
      · rintro H7 ⟨ents, hN, hE, s7⟩
        rw [hu1.length, List.take_length] at hE
        exact hq H7 s7 (rowN_of hN hE)
    refine walk nD1 ht1 hu1 (up_nodup f3.up) lr (fun u Hc Nx h => ?_) fun H7 s7 hR1 => ?_
    · exact ⟨rfl, _, rfl, h⟩
    have k7 := Tk.of_same (K := K) s7
    refine ⟨_, rfl, a2, _, _, _, rfl, rfl, k7 _ _ ha2, at_of (j := 2) rfl rfl, t2, rfl, ⟨_, k7 _ _ ht2⟩, fun D2 nD2 => ?_⟩
    refine walk nD2 (k7 _ _ ht2) (hu2.imp fun _ _ h => RowAt.tk k7 h) (up_nodup g3.up) lr' (fun u Hc Nx h => ?_) fun H8 s8 hR2 => ?_
    · exact ⟨rfl, _, rfl, h⟩
    have s68 := s7.trans s8
    refine ⟨(by show 3 ≤ sizeLine; decide), fun p np => ⟨acc, same_new np _ _ _ (s68 _ _ hD6), lineOk ?_, acc ++ [.ref p], upd_same, ?_, same_to ((s6.trans s68).trans (same_new np _)) nD⟩⟩
    · have := hacc.length
      rw [List.length_take] at this
      omega
    · have k9 : Tk K H8 (upd H8 p (.tup [.int (pl : Int), .ref D1, .ref D2])) := tk_new (K := K) np _
      have hp9 : SqT K (upd H8 p (.tup [.int (pl : Int), .ref D1, .ref D2])) p [.int (pl : Int), .ref D1, .ref D2] := SqT.of upd_same
      have d9 : ∀ a ents, H8 a = some (NdO P w a ents) → upd H8 p (.tup [.int (pl : Int), .ref D1, .ref D2]) a = some (NdO P w a ents) := fun a ents e => same_new np _ _ _ e
      have hD9 := same_new np (.tup [V.int (pl : Int), .ref D1, .ref D2]) _ _ (s68 _ _ hD6)
      have kL : ∀ o, Tk K (upd H8 p (.tup [.int (pl : Int), .ref D1, .ref D2])) (upd (upd H8 p (.tup [.int (pl : Int), .ref D1, .ref D2])) D o) := fun o => tk_lst hD9 o
      have eR : (Rs rels rels')[i]? = some (pl, rr, rr') := by
        unfold Rs
        rw [List.getElem?_map, (List.getElem?_zip_eq_some (z := ((rn, pl, rr), (rn', pl', rr')))).mpr ⟨hg1, hg2⟩]
        rfl
      rw [List.take_succ, eR]
      refine (hacc6.imp fun _ _ h => GrN.fr (GrN.fr (GrN.fr h (Tk.of_same s68) fun a ents e => s68 _ _ e) k9 d9) (kL _) (nd_lst hD9)).append (.cons ?_ .nil)
      refine GrN.fr ⟨p, D1, D2, rfl, hp9, by show pl ≤ 2; omega, ?_, ?_⟩ (kL _) (nd_lst hD9)
      · exact RowN.fr (RowN.fr hR1 (Tk.of_same s8) fun a ents e => s8 _ _ e) k9 d9
      · exact RowN.fr hR2 k9 d9
  rintro H5 ⟨acc, hD, hacc, s5⟩
  have lR : (Rs rels rels').length = sus.length := by
    unfold Rs
    rw [List.length_map, List.length_zip]
    omega
  rw [← lR, List.take_length] at hacc
  have o5 := s5 _ _ o4
  have b5 : But g H4 H5 := .of_same s5
  refine ⟨_, rfl, g, C, dx, _, rfl, o5, T.cl, T.nr, (by show 3 < 1000; decide), ?_⟩
  have hD6 : upd H5 g (.ins C dx (putF "relations" (.ref D) (putF "many" (.ref tM) (putF "other" (.ref oa) (putF "structure" (.ref sa) []))))) D = some (.lst acc) := by rw [upd_ne nDg]; exact hD
  have b6 : But g H4 (upd H5 g (.ins C dx (putF "relations" (.ref D) (putF "many" (.ref tM) (putF "other" (.ref oa) (putF "structure" (.ref sa) [])))))) := b5.trans (but_upd _)
  have o6 : upd H5 g (.ins C dx (putF "relations" (.ref D) (putF "many" (.ref tM) (putF "other" (.ref oa) (putF "structure" (.ref sa) []))))) g = some (.ins C dx (putF "relations" (.ref D) (putF "many" (.ref tM) (putF "other" (.ref oa) (putF "structure" (.ref sa) []))))) := upd_same
  have hacc6 := hacc.imp fun _ _ h => GrN.fr h (tk_but (K := K) (but_upd (.ins C dx (putF "relations" (.ref D) (putF "many" (.ref tM) (putF "other" (.ref oa) (putF "structure" (.ref sa) [])))))) o5) (nd_but (but_upd _) o5)
  generalize upd H5 g (.ins C dx (putF "relations" (.ref D) (putF "many" (.ref tM) (putF "other" (.ref oa) (putF "structure" (.ref sa) []))))) = H6 at hD6 b6 o6 hacc6 ⊢
  refine fun dF nF => ⟨_, rfl, g, C, dx, _, rfl, same_new nF _ _ _ o6, T.cl, T.nf, (by show 4 < 1000; decide), ?_⟩
  have nFg : dF ≠ g := fun z => by rw [z, o6] at nF; cases nF
  have nF4 : H4 dF = none := b6.none nF nFg
  have b7 : But g H4 (upd (upd H6 dF (NdO P w dF [])) g (.ins C dx (putF "known_fair" (.ref dF) (putF "relations" (.ref D) (putF "many" (.ref tM) (putF "other" (.ref oa) (putF "structure" (.ref sa) []))))))) := (b6.trans (.of_same (same_new nF _))).trans (but_upd _)
  have b67 : But g H6 (upd (upd H6 dF (NdO P w dF [])) g (.ins C dx (putF "known_fair" (.ref dF) (putF "relations" (.ref D) (putF "many" (.ref tM) (putF "other" (.ref oa) (putF "structure" (.ref sa) []))))))) := (But.of_same (same_new nF _)).trans (but_upd _)
  have o7 : upd (upd H6 dF (NdO P w dF [])) g (.ins C dx (putF "known_fair" (.ref dF) (putF "relations" (.ref D) (putF "many" (.ref tM) (putF "other" (.ref oa) (putF "structure" (.ref sa) [])))))) g = some (.ins C dx (putF "known_fair" (.ref dF) (putF "relations" (.ref D) (putF "many" (.ref tM) (putF "other" (.ref oa) (putF "structure" (.ref sa) [])))))) := upd_same
  have hF7 : upd (upd H6 dF (NdO P w dF [])) g (.ins C dx (putF "known_fair" (.ref dF) (putF "relations" (.ref D) (putF "many" (.ref tM) (putF "other" (.ref oa) (putF "structure" (.ref sa) [])))))) dF = some (NdO P w dF []) := by rw [upd_ne nFg]; exact upd_same
  generalize upd (upd H6 dF (NdO P w dF [])) g (.ins C dx (putF "known_fair" (.ref dF) (putF "relations" (.ref D) (putF "many" (.ref tM) (putF "other" (.ref oa) (putF "structure" (.ref sa) [])))))) = H7 at b7 b67 o7 hF7 ⊢
  refine fun dA nA => ⟨_, rfl, g, C, dx, _, rfl, same_new nA _ _ _ o7, T.cl, T.na, (by show 5 < 1000; decide), ?_⟩
  have nAg : dA ≠ g := fun z => by rw [z, o7] at nA; cases nA
  have nAF : dF ≠ dA := fun z => by rw [← z, hF7] at nA; cases nA
  have nA6 : H6 dA = none := b67.none nA nAg
  have nA4 : H4 dA = none := b6.none nA6 nAg
  have b8 : But g H4 (upd (upd H7 dA (NdO P w dA [])) g (.ins C dx (putF "known_alike" (.ref dA) (putF "known_fair" (.ref dF) (putF "relations" (.ref D) (putF "many" (.ref tM) (putF "other" (.ref oa) (putF "structure" (.ref sa) [])))))))) := (b7.trans (.of_same (same_new nA _))).trans (but_upd _)
  have b68 : But g H6 (upd (upd H7 dA (NdO P w dA [])) g (.ins C dx (putF "known_alike" (.ref dA) (putF "known_fair" (.ref dF) (putF "relations" (.ref D) (putF "many" (.ref tM) (putF "other" (.ref oa) (putF "structure" (.ref sa) [])))))))) := (b67.trans (.of_same (same_new nA _))).trans (but_upd _)
  have o8 : upd (upd H7 dA (NdO P w dA [])) g (.ins C dx (putF "known_alike" (.ref dA) (putF "known_fair" (.ref dF) (putF "relations" (.ref D) (putF "many" (.ref tM) (putF "other" (.ref oa) (putF "structure" (.ref sa) []))))))) g = some (.ins C dx (putF "known_alike" (.ref dA) (putF "known_fair" (.ref dF) (putF "relations" (.ref D) (putF "many" (.ref tM) (putF "other" (.ref oa) (putF "structure" (.ref sa) []))))))) := upd_same
  have hA8 : upd (upd H7 dA (NdO P w dA [])) g (.ins C dx (putF "known_alike" (.ref dA) (putF "known_fair" (.ref dF) (putF "relations" (.ref D) (putF "many" (.ref tM) (putF "other" (.ref oa) (putF "structure" (.ref sa) []))))))) dA = some (NdO P w dA []) := by rw [upd_ne nAg]; exact upd_same
  have hF8 : upd (upd H7 dA (NdO P w dA [])) g (.ins C dx (putF "known_alike" (.ref dA) (putF "known_fair" (.ref dF) (putF "relations" (.ref D) (putF "many" (.ref tM) (putF "other" (.ref oa) (putF "structure" (.ref sa) []))))))) dF = some (NdO P w dF []) := by rw [upd_ne nFg, upd_ne nAF]; exact hF7
  have k68 : Tk K H6 (upd (upd H7 dA (NdO P w dA [])) g (.ins C dx (putF "known_alike" (.ref dA) (putF "known_fair" (.ref dF) (putF "relations" (.ref D) (putF "many" (.ref tM) (putF "other" (.ref oa) (putF "structure" (.ref sa) [])))))))) := tk_but b68 o6
  have k48 : Tk K H4 (upd (upd H7 dA (NdO P w dA [])) g (.ins C dx (putF "known_alike" (.ref dA) (putF "known_fair" (.ref dF) (putF "relations" (.ref D) (putF "many" (.ref tM) (putF "other" (.ref oa) (putF "structure" (.ref sa) [])))))))) := tk_but b8 o4
  have nd68 := nd_but (P := P) (w := w) b68 o6
  have bb := b4.trans b8
  have e8 : ∀ H8 : Hp, H8 = upd (upd H7 dA (NdO P w dA [])) g (.ins C dx (putF "known_alike" (.ref dA) (putF "known_fair" (.ref dF) (putF "relations" (.ref D) (putF "many" (.ref tM) (putF "other" (.ref oa) (putF "structure" (.ref sa) []))))))) → Q .non H8 := by
    intro H8 e8
    rw [← e8] at b8 b68 o8 hA8 hF8 k68 k48 nd68 bb
    refine q ⟨g, dx, .ref sa, .ref oa, tM, D, dF, dA, m, n, Rs rels rels'⟩ H8 rfl rfl rfl rfl rfl rfl bb (b4.none nF4 nFg) (b4.none nA4 nAg) ?_
    refine ⟨o8, k48 _ _ hM4, ⟨acc, b68 _ _ nDg hD6, hacc6.imp fun u t h => ?_⟩, ⟨[], ⟨hF8, fun e he => nomatch he⟩, List.nodup_nil, fun x hx => nomatch hx⟩, ⟨[], ⟨hA8, fun e he => nomatch he⟩, List.nodup_nil, fun x hx => nomatch hx⟩, nAF, hm, hn, by show (Rs rels rels').length ≤ 8; omega⟩
    obtain ⟨a, d1, d2, e, h1, h2, ⟨e1, h3, h4⟩, ⟨e2, h5, h6⟩⟩ := h
    have ne : ∀ {d : Addr} {ents : List (Nk × Addr × V)}, NdAt K P w H6 d ents → d ≠ dF ∧ d ≠ dA := fun {d ents} hN => ⟨fun z => (by have := hN.1; rw [z, nF] at this; cases this), fun z => (by have := hN.1; rw [z, nA6] at this; cases this)⟩
    exact ⟨a, d1, d2, e, k68 _ _ h1, h2, ⟨(ne h3).1, (ne h3).2, e1, NdAt.tk h3 k68 (nd68 _ _ h3.1), h4⟩, ⟨(ne h5).1, (ne h5).2, e2, NdAt.tk h5 k68 (nd68 _ _ h5.1), h6⟩⟩
  exact e8 _ rfl
end
end J23

set_option Elab.async false
set_option linter.all false
set_option maxRecDepth 100000
set_option maxHeartbeats 4000000
namespace J23
open PySem L2 Fo Lb Ndk
open C8 (Cal pe_c pss_cut Met Mak pe_mt pe_mt0 pe_mk)
section
variable {P : Program} {w : World} {K : PySem.W.Frag} {mg : Str → Option Value} {base : Heap} {C : Addr}
theorem ok_allp {f : Addr} {fd : FuncData} (B : Bt mg) (c_rows_of : Cal P w K mg base 1 "rows_of" (spRowsOf K) []) (F : Fun K "all_points" "all_points" s_all_points f fd) : FnOk P w K mg base CX0 2 f fd p_all_points (spAllPts K) := by
  refine F.ok sc_all_points (fun vs H Q E h => ?_) (fun cdv A outer s H vs Q E hr h => ?_)
  · obtain ⟨m, pl, rfl, _⟩ := h
    rfl
  obtain ⟨m, pl, rfl, hm, hp, q⟩ := h
  have nd := sc_all_points.nd
  refine ⟨_, (pss_one (ps_ret (pe_c c_rows_of hr (by decide) rfl (pa_cons (pe_listRg rfl rfl B.list (prg_1 rfl B.range (pv 0))) (pa_cons (pv 1) pa_nil))))), ?_⟩
  refine ⟨_, rfl, (m : Int), rfl, by unfold RgOk; omega, fun M nM => ⟨_, rfl, ?_⟩⟩
  have eM : rgV 0 (m : Int) = (els m).map V.int := by
    unfold rgV els
    rw [List.map_map, show ((m : Int) - 0).toNat = m by omega]
    exact List.map_congr_left fun i _ => by rw [Int.zero_add]; rfl
  have sM := same_new nM (.lst (rgV 0 (m : Int)))
  have lM : ((els m).map V.int).length = m := by rw [List.length_map, els_len]
  refine ⟨M, (els m).map V.int, pl, rfl, .inr (SqL.of (by rw [upd_same, eM])), by omega, ?_, by omega, fun l ws H' s' nl hl hws => ?_⟩
  · rw [lM]
    exact pow_two_small (by omega) hp
  · refine q l ws H' (sM.trans s') (sM.free nl) hl ?_
    rw [tups_map, tups_rows] at hws
    have : ∀ {us : List V} {rs : List (List Int)}, All2 (TuAt K H') us (rs.map fun r => r.map V.int) → All2 (RowAt K H') us rs := by
      intro us rs
      induction rs generalizing us with
      | nil => intro h; cases h; exact .nil
      | cons r rs ih =>
        intro h
        cases h with
        | cons h1 h2 => exact .cons h1 (ih h2)
    exact this hws
theorem ok_classes {f : Addr} {fd : FuncData} (B : Bt mg) (T : GmT K C) (c_meeting : Cal P w K mg base 1 "meeting" (spMeeting K) []) (c_all_points : Cal P w K mg base 2 "all_points" (spAllPts K) []) (mGame : Mak P w K mg base 1 "Game" C (spGInit K P w C) []) (M_alike : Met P w K mg base 22 C "alike" (spAlike K P w C 9) []) (F : Fun K "classes" "classes" s_classes f fd) : FnOk P w K mg base CX0 23 f fd p_classes (spClasses K) := by
  refine F.ok sc_classes (fun vs H Q E h => ?_) (fun cdv A outer s H vs Q E hr h => ?_)
  · obtain ⟨ks, sv, m, pl, k, rels, rfl, _⟩ := h
    rfl
  obtain ⟨ks, sv, m, pl, k, rels, rfl, hS, hF, hk, hm, hp1, hp2, hk8, q⟩ := h
  have nd := sc_classes.nd
  refine ⟨_, (pss_cons (ps_set (i := 3) nd rfl (.inr rfl) (pe_mk mGame hr (by decide) rfl (pa_cons (pv 0) (pa_cons (pv 0) pa_nil))))
    (pss_cons (ps_set (i := 4) nd rfl (.inl rfl) (pe_lst pa_nil))
    (pss_cons (ps_for PassesOwn.never rfl (pi_list (pe_c c_all_points hr (by decide) rfl (pa_cons (pe_ix ix_tup (pv 0) pe_int (fun _ _ => rfl)) (pa_cons (pv 1) pa_nil)))) (pg_name (i := 5) nd rfl (.inr rfl)) (pss_cons (ps_setLc (i := 6) (own := [("rows", 7)]) (g := gName 7) (tt := _) rfl nd rfl rfl (sw_true rfl rfl rfl (by decide +kernel)) (pi_list (pv 4)) (blkOk_by (own := [("rows", 7)]) (N := n_classes) (sc := defScope s_classes) (by decide +kernel)) (fun _ _ _ _ _ => (pg_name (i := 7) nd rfl (Or.inl rfl))) (fun _ _ _ _ _ => pts_one (pt_val (pe_mt M_alike hr (by decide) (pv 3) (pa_cons (pe_c c_meeting hr (by decide) rfl (pa_cons (pe_ix (Kf.ixL_k (K := K) rfl) (pv 7) pe_int (fun _ _ => rfl)) (pa_cons (pv 5) pa_nil))) (pa_cons (pv 2) pa_nil))))) (fun _ _ _ _ _ => (pv 7)))
    (pss_one (ps_if (pt_truth (pv 6) (by intro _; rfl)) (pss_one (ps_expr (pe_bm PySem.F.plainAttrs_list PySem.F.slot_list_append PySem.F.type_list_append mt_append (pe_ix ix_list (pv 6) pe_int (fun _ _ => rfl)) (pa_cons (pv 5) pa_nil)))) (pss_one (ps_expr (pe_bm PySem.F.plainAttrs_list PySem.F.slot_list_append PySem.F.type_list_append mt_append (pv 4) (pa_cons (pe_lst (pa_cons (pv 5) pa_nil)) pa_nil))))))))
    (pss_one (ps_ret (pe_callTy call_tuple_of rfl B.tuple (by decide +kernel) (pa_cons (pe_lc (own := [("rows", 7)]) (g := gName 7) (tt := tYes) rfl nd (pi_list (pv 4)) (blkOk_by (own := [("rows", 7)]) (N := n_classes) (sc := defScope s_classes) (by decide +kernel)) (fun _ _ _ _ _ => (pg_name (i := 7) nd rfl (Or.inl rfl))) (fun _ _ _ _ _ => pts_nil) (fun _ _ _ _ _ => (pe_callTy (Kf.tupOf_k (K := K) rfl) rfl B.tuple (by decide +kernel) (pa_cons (pv 7) pa_nil)))) pa_nil))))))), ?_⟩
  refine ⟨_, rfl, _, rfl, fun t dx nt ndx ne => ?_⟩
  have s1 := (same_new ndx (.own t)).trans (same_new (by rw [upd_ne ne.symm]; exact nt) (.ins C dx []))
  have ht1 : upd (upd H dx (.own t)) t (.ins C dx []) t = some (.ins C dx []) := upd_same
  generalize upd (upd H dx (.own t)) t (.ins C dx []) = H1 at s1 ht1 ⊢
  have S1 := hS.tk (Tk.of_same s1)
  refine ⟨ks, t, dx, sv, sv, m, m, rels, rels, rfl, ht1, S1, S1, hF, hF, hk, hm, hm, fun b H2 e1 e2 e3 e4 e5 e6 b2 nF nA G2 => ?_⟩
  subst e1
  have S2 := S1.tk (tk_but (K := K) b2 ht1)
  have R2 : Rs rels rels = b.rt := e4.symm
  refine ⟨rfl, Nat.zero_le _, fun F nF2 => ?_⟩
  obtain ⟨nFg, nFF, nFA⟩ := G2.nea nF2
  obtain ⟨sa, st, sus, rfl, hs1, hs2, hs3⟩ := S2
  have G3 := G2.same (same_new nF2 (.lst []))
  have hF3 : upd H2 F (.lst []) F = some (.lst []) := upd_same
  have s23 := same_new nF2 (.lst [])
  generalize upd H2 F (.lst []) = H3 at G3 hF3 s23 ⊢
  have k23 := Tk.of_same (K := K) s23
  refine ⟨_, rfl, sa, _, _, _, rfl, rfl, k23 _ _ hs1, at_of (j := 1) rfl rfl, _, rfl, m, pl, rfl, hm, hp2, fun L ws H4 s34 nL hL hws => ⟨L, rfl, ⟨ws, SqL.of hL⟩, ?_⟩⟩
  have nLF : L ≠ F := fun z => by rw [z, hF3] at nL; cases nL
  obtain ⟨_, nLdF, nLdA⟩ := G3.nea nL
  have G4 := G3.same s34
  have hF4 := s34 _ _ hF3
  have s24 := s23.trans s34
  have few := rows_few hm hp2
  have lws := hws.length
  have lrow : ∀ r ∈ Lb.rowsOf m pl, r.length = pl := fun r hr => Sd.rowsOf_len hr
  have elrow : ∀ r ∈ Lb.rowsOf m pl, ∀ x ∈ r, Gm.El m x := fun r hr x hx => (rows_mem hr).2 x hx
  have ok : ∀ i, Parted (alk (Rs rels rels) m k) ((Lb.rowsOf m pl).take i) (parts (alk (Rs rels rels) m k) ((Lb.rowsOf m pl).take i)) := fun i => by
    have E := alk_eqv (R := Rs rels rels) (m := m) (k := k) (pl := pl) (rs_sym rels)
    exact parts_ok (fun p hp => E.re p (lrow p (List.mem_of_mem_take hp))) ((Sd.rowsOf_up m pl).sublist (List.take_sublist _ _))
  have bm : b.m ≤ 4 := G2.m4
  refine for_list (xs := ws) (fun i σ H' => ∃ (po li : Option V) (ls : List V), σ = [some (.ref sa), some (.int (pl : Int)), some (.int (k : Int)), some (.ref b.g), some (.ref F), po, li, none] ∧ Gr b H2 H' ∧ Tk K H4 H' ∧ GAt K P w C b H' ∧ H' L = some (.lst ws) ∧ H' F = some (.lst ls) ∧ ls.Nodup ∧ ls.length ≤ i ∧ (∀ c ∈ parts (alk (Rs rels rels) m k) ((Lb.rowsOf m pl).take i), c.length ≤ i) ∧
    All2 (ClL K H2 F L H') ls (parts (alk (Rs rels rels) m k) ((Lb.rowsOf m pl).take i)))
    ⟨none, none, [], rfl, Gr.of_same s24, (fun _ _ h => h), G4, hL, hF4, List.nodup_nil, Nat.le_refl _, fun c h => (nomatch h), .nil⟩ (fun i σ H' _ ⟨_, _, _, _, _, _, _, h, _⟩ => SqL.of h) ?_ ?_
  · rintro i u σ H5 hi ⟨po, li, ls, rfl, f5, k45, G5, hL5, hF5, ndl, lls, lcs, hcl⟩
    obtain ⟨p, hp, hu⟩ := (hws.imp fun _ _ h => RowAt.tk k45 h).get hi
    have hpm := List.mem_of_getElem? hp
    have li := (List.getElem?_eq_some_iff.mp hp).1
    have oki := ok i
    have oks := ok (i + 1)
    have hce : parts (alk (Rs rels rels) m k) ((Lb.rowsOf m pl).take (i + 1)) = put (alk (Rs rels rels) m k) (parts (alk (Rs rels rels) m k) ((Lb.rowsOf m pl).take i)) p := by
      rw [List.take_succ, hp]
      exact parts_snoc _ _ _
    generalize hcs : parts (alk (Rs rels rels) m k) ((Lb.rowsOf m pl).take i) = cs at *
    generalize hal : alk (Rs rels rels) m k = al at *
    have l16 : ls.length = cs.length := hcl.length
    have sz : i < 16 := by
      have := hws.length
      omega
    refine ⟨_, rfl, F, rfl, ⟨ls, SqL.of hF5⟩, fun D nD => ?_⟩
    obtain ⟨_, nDF, nDA⟩ := G5.nea nD
    refine lc_list (xs := ls) (fun j H' => H' D = some (.lst (flt al p (ls.take j) (cs.take j))) ∧ Gr b H5 H' ∧ GAt K P w C b H') ⟨upd_same, Gr.of_same (same_new nD _), G5.new nD⟩ (fun j H' _ ⟨_, h, _⟩ => SqL.of (h _ _ (fun z => nFF z) (fun z => nFA z) hF5)) ?_ ?_
    · rintro j l H6 hj ⟨hD, f6, G6⟩
      obtain ⟨c, hcj, l', us, rfl, n2, nF', nL', hl', hus⟩ := (hcl.imp fun _ _ h => ClL.gr G5 h f6).get hj
      have hcm := List.mem_of_getElem? hcj
      have lj := (List.getElem?_eq_some_iff.mp hj).1
      obtain ⟨r0, c', rfl⟩ : ∃ r c', c = r :: c' := by
        cases c with
        | nil => exact absurd rfl (oki.ne _ hcm)
        | cons r c' => exact ⟨r, c', rfl⟩
      obtain ⟨u0, us', rfl, hu0⟩ : ∃ u0 us', us = u0 :: us' ∧ RowAt K H6 u0 r0 := by
        cases hus with
        | cons h _ => exact ⟨_, _, rfl, h⟩
      have hr0 : r0 ∈ Lb.rowsOf m pl := List.mem_of_mem_take ((oki.cov r0).mp ⟨_, hcm, List.mem_cons_self⟩)
      have hu6 := RowAt.tk (G5.tk f6) hu
      have lr0 := lrow r0 hr0
      have lp := lrow p hpm
      refine ⟨rfl, _, rfl, b.g, b.dx, _, rfl, G6.obj, gf_alikeM b, _, rfl, l', _, _, _, rfl, rfl, SqL.of hl', at_of (j := 0) rfl rfl, _, rfl, u0, u, m, m, r0, p, rfl, hu0, hu6, by omega, by omega, hm, hm, elrow r0 hr0, elrow p hpm, fun r qs H7 s7 hq hqs hin _ => ?_⟩
      have G7 := G6.same s7
      obtain ⟨ck, hN, hK⟩ := id G7.alike
      refine ⟨_, rfl, b, ck, r, qs, k, rfl, ⟨G7, hN, hK⟩, hq, by rw [e2, e3]; exact hqs, by omega, hk8, fun r2 c2 H8 f8 G8 _ hr2 => ⟨r2, rfl, ?_⟩⟩
      have er : r2 = al r0 p := by
        rw [← hal]
        refine aB_of ?_
        rw [hr2, e2, e3, ← R2]
        exact alike_iff hin
      have hD8 := f8 _ _ nDF nDA (s7 _ _ hD)
      have f58 : Gr b H5 H8 := f6.trans ((Gr.of_same s7).trans f8)
      have en : flt al p (ls.take (j + 1)) (cs.take (j + 1)) = flt al p (ls.take j) (cs.take j) ++ if al r0 p = true then [.ref l'] else [] := by
        rw [List.take_succ, List.take_succ, hj, hcj, flt_app al p _ _ (by rw [List.length_take, List.length_take]; omega)]
        show _ ++ flt al p [.ref l'] [r0 :: c'] = _
        congr 1
      refine ite2 (fun cc => ⟨_, rfl, _, hD8, lineOk ?_, ?_, Gr.to f58 nD, GAt.wr G5 G8.1 nD hD8⟩) (fun cc => ⟨?_, f58, G8.1⟩)
      · have := flt_len al p (ls.take j) (cs.take j)
        rw [List.length_take] at this
        omega
      · rw [upd_same, en, if_pos (by rw [← er]; exact cc)]
      · rw [en, if_neg (by rw [← er]; exact cc), List.append_nil]
        exact hD8
    rintro H6 ⟨hD, f6, G6⟩
    rw [List.take_length, l16, List.take_length] at hD
    have u6 := RowAt.tk (G5.tk f6) hu
    have hF6 := f6 _ _ nFF nFA hF5
    have hcl6 := hcl.imp fun _ _ h => ClL.gr G5 h f6
    have f26 : Gr b H2 H6 := f5.trans f6
    have k46 := k45.trans (G5.tk f6)
    have hL6 := f6 _ _ nLdF nLdA hL5
    have plen := put_len (al := al) (p := p) (by rw [← l16]; exact lls) lcs
    refine ⟨_, rfl, _, .inl ⟨_, SqL.of hD, rfl⟩, ite2 (fun cc => ?_) (fun cc => ?_)⟩
    · rcases put_cases al p cs with ⟨h1, _⟩ | ⟨a, c, r, e, h1, h2, h3⟩
      · rw [flt_none h1] at cc
        cases cc
      · subst e
        obtain ⟨a1, x, a2, rfl, g1, ⟨l', us, rfl, n2, nF', nL', hl', hus⟩, g2⟩ := a2_split hcl6
        rw [flt_some g1.length h1 h2] at hD
        have lus : us.length ≤ 16 := by
          have := lcs c (List.mem_append_right _ List.mem_cons_self)
          rw [hus.length]
          omega
        refine ⟨_, rfl, D, _, _, _, rfl, rfl, SqL.of hD, at_of (j := 0) rfl rfl, .inl ⟨rfl, _, SqL.of hl'⟩, _, rfl, l', us, _, rfl, rfl, hl', lineOk (by omega), ?_⟩
        have t := tk_lst (K := K) hl' (.lst (us ++ [u]))
        refine ⟨_, _, _, rfl, Gr.to f26 n2, k46.trans t, GAt.wr G2 G6 n2 hl', by rw [upd_ne nL'.symm]; exact hL6, by rw [upd_ne nF'.symm]; exact hF6, ndl, by omega, ?_, ?_⟩
        · rw [hce]; exact plen.2
        · rw [hce, h3]
          exact cls_put ndl g1 hl' hus n2 nF' nL' g2 u6
    · have e0 : flt al p ls cs = [] := by
        cases e : flt al p ls cs with
        | nil => rfl
        | cons x y => rw [e] at cc; exact absurd rfl cc
      rcases put_cases al p cs with ⟨h1, h2⟩ | ⟨a, c, r, e, h1, h2, h3⟩
      · refine ⟨_, rfl, .inl ⟨rfl, _, SqL.of hF6⟩, _, rfl, l1, fun q nq => ⟨F, ls, _, rfl, rfl, same_new nq _ _ _ hF6, lineOk (by omega), ?_⟩⟩
        have n2 : H2 q = none := by
          obtain ⟨_, y1, y2⟩ := G6.nea nq
          exact f26.free nq y1 y2
        have nqL : q ≠ L := fun z => by rw [z, hL6] at nq; cases nq
        have hF7 := same_new nq (.lst [u]) _ _ hF6
        have t := (tk_new (K := K) nq (.lst [u])).trans (tk_lst hF7 (.lst (ls ++ [.ref q])))
        have G7 := G6.new (o := .lst [u]) nq
        refine ⟨_, _, _, rfl, Gr.to (f26.trans (Gr.of_same (same_new nq _))) nF2, k46.trans t, GAt.wr G2 G7 nF2 hF7, by rw [upd_ne nLF]; exact same_new nq _ _ _ hL6, upd_same, ?_, by rw [List.length_append, List.length_singleton]; omega, ?_, ?_⟩
        · rw [List.nodup_append]
          refine ⟨ndl, by simp, fun x hx y hy => ?_⟩
          rw [List.mem_singleton.mp hy]
          rintro rfl
          obtain ⟨j, hj⟩ := List.getElem?_of_mem hx
          obtain ⟨c, _, l', us, e, _, _, _, hl', _⟩ := hcl6.get hj
          cases e
          rw [hl'] at nq
          cases nq
        · rw [hce]; exact plen.2
        · rw [hce, h2]
          exact cls_new hF6 hcl6 nq n2 nqL u6
      · subst e
        obtain ⟨a1, x, a2, rfl, g1, _⟩ := a2_split hcl6
        rw [flt_some g1.length h1 h2] at e0
        cases e0
  · rintro σ H5 ⟨po, li, ls, rfl, f5, k45, G5, hL5, hF5, ndl, lls, lcs, hcl⟩
    rw [lws, List.take_length] at hcl lcs
    refine ⟨_, rfl, F, rfl, ⟨ls, SqL.of hF5⟩, fun D nD => ?_⟩
    refine lc_list (xs := ls) (fun j H' => ∃ acc, H' D = some (.lst acc) ∧ All2 (ClT K H') acc ((parts (alk (Rs rels rels) m k) (Lb.rowsOf m pl)).take j) ∧ Same H5 H') ⟨[], upd_same, .nil, same_new nD _⟩ (fun j H' _ ⟨_, _, _, h⟩ => SqL.of (h _ _ hF5)) ?_ ?_
    · rintro j l H6 hj ⟨acc, hD, hacc, s6⟩
      obtain ⟨c, hcj, l', us, rfl, _, _, _, hl', hus⟩ := (hcl.imp fun _ _ h => ClL.same h s6).get hj
      have lj := (List.getElem?_eq_some_iff.mp hj).1
      refine ⟨rfl, _, rfl, l', us, rfl, .inl ⟨SqL.of hl', fun q nq => ⟨acc, same_new nq _ _ _ hD, lineOk ?_, acc ++ [.ref q], upd_same, ?_, same_to (s6.trans (same_new nq _)) nD⟩⟩⟩
      · have := hacc.length
        rw [List.length_take] at this
        omega
      · have t1 := tk_new (K := K) nq (.tup us)
        have t2 := tk_lst (K := K) (same_new nq (.tup us) _ _ hD) (.lst (acc ++ [.ref q]))
        rw [List.take_succ, hcj]
        exact (hacc.imp fun _ _ h => ClT.tk t2 (ClT.tk t1 h)).append (.cons (ClT.tk t2 ⟨q, us, rfl, SqT.of upd_same, hus.imp fun _ _ h => RowAt.tk t1 h⟩) .nil)
    rintro H6 ⟨acc, hD, hacc, s6⟩
    rw [hcl.length, List.take_length] at hacc
    refine ⟨D, acc, rfl, .inl ⟨SqL.of hD, fun q' nq => ?_⟩⟩
    have s56 : Same H5 (upd H6 q' (.tup acc)) := s6.trans (same_new nq _)
    refine q (.ref q') _ ?_ ⟨q', acc, rfl, SqT.of upd_same, hacc.imp fun _ _ h => ClT.tk (tk_new (K := K) nq _) h⟩
    exact same_gr s1 b2 nt nF nA (f5.trans (Gr.of_same s56))
end
end J23

set_option Elab.async false
set_option linter.all false
set_option maxRecDepth 100000
set_option maxHeartbeats 4000000
namespace J23
open PySem L2 Fo Lb Ndk
open C8 (Cal pe_c pss_cut Met Mak pe_mt pe_mt0 pe_mk)
section
variable {P : Program} {w : World} {K : PySem.W.Frag} {mg : Str → Option Value} {base : Heap} {C : Addr}
theorem ok_law {f : Addr} {fd : FuncData} (B : Bt mg) (c_law_box : Cal P w K mg base 3 "_law_box" (spBox K) []) (c_law_kinds : Cal P w K mg base 2 "_law_kinds" (spKinds K) []) (c_law_structure : Cal P w K mg base 2 "_law_structure" (spStruct K) []) (c_law_draw : Cal P w K mg base 1 "_law_draw" spDraw []) (c_law_tuples : Cal P w K mg base 1 "_law_tuples" (spTuples K) [])
    (c_law_same : Cal P w K mg base 4 "_law_same" (spSame K 4) []) (c_law_alike : Cal P w K mg base 6 "_law_alike" (spLAlike K 4) []) (c_classes : Cal P w K mg base 23 "classes" (spClasses K) [])
    (F : Fun K "law" "law" s_law f fd) : FnOk P w K mg base CX0 24 f fd p_law (spLaw K) := by
  refine F.ok sc_law (fun vs H Q E h => ?_) (fun cdv A outer s H vs Q E hr h => ?_)
  · obtain ⟨a, ns, rfl, _⟩ := h
    rfl
  obtain ⟨a, ns, rfl, hS, _, q⟩ := h
  have nd := sc_law.nd
  refine ⟨_, (pss_cons (ps_set (i := 1) nd rfl (.inl rfl) (pe_c c_law_box hr (by decide) rfl (pa_cons (pv 0) (pa_cons pe_int (pa_cons pe_int pa_nil)))))
    (pss_cons (ps_set (i := 2) nd rfl (.inr rfl) (pe_c c_law_structure hr (by decide) rfl (pa_cons (pv 1) (pa_cons (pe_c c_law_kinds hr (by decide) rfl (pa_cons (pv 1) pa_nil)) (pa_cons (pe_op op_add pe_int (pe_c c_law_draw hr (by decide) rfl (pa_cons (pv 1) (pa_cons pe_int pa_nil)))) pa_nil)))))
    (pss_cons (ps_set (i := 3) nd rfl (.inl rfl) (pe_op op_add pe_int (pe_c c_law_draw hr (by decide) rfl (pa_cons (pv 1) (pa_cons pe_int pa_nil)))))
    (pss_cut (ps_if (pt_cmpR op_gt (pe_ix ix_tup (pv 2) pe_int (fun _ _ => rfl)) pe_int (nomark _)) (pss_one (ps_set (i := 3) nd rfl (.inl rfl) pe_int)) pss_nil)
    (pss_cons (ps_set (i := 4) nd rfl (.inl rfl) pe_non)
    (pss_cons (ps_for PassesOwn.never rfl (pi_range1 rfl B.range (pa_cons pe_int pa_nil)) (pg_name (i := 5) nd rfl (.inr rfl)) (pss_cons (ps_set (i := 6) nd rfl (.inl rfl) (pe_lst pa_nil))
    (pss_cons (ps_for PassesOwn.never rfl (pi_list (pe_c c_law_tuples hr (by decide) rfl (pa_cons (pe_ix ix_tup (pv 2) pe_int (fun _ _ => rfl)) (pa_cons (pv 3) pa_nil)))) (pg_name (i := 7) nd rfl (.inr rfl)) (pss_cons (ps_setLc (i := 8) (own := [("row", 10)]) (g := gName 10) (tt := _) rfl nd rfl rfl (sw_true rfl rfl rfl (by decide +kernel)) (pi_list (pv 6)) (blkOk_by (own := [("row", 10)]) (N := n_law) (sc := defScope s_law) (by decide +kernel)) (fun _ _ _ _ _ => (pg_name (i := 10) nd rfl (Or.inl rfl))) (fun _ _ _ _ _ => pts_one (pt_val (pe_c c_law_alike hr (by decide) rfl (pa_cons (pv 2) (pa_cons (pv 2) (pa_cons (pe_ix (Kf.ixL_k (K := K) rfl) (pv 10) pe_int (fun _ _ => rfl)) (pa_cons (pv 7) (pa_cons (pv 5) pa_nil)))))))) (fun _ _ _ _ _ => (pv 10)))
    (pss_one (ps_if (pt_cmpR op_gt (pe_callB call_len_seq rfl B.len PySem.boot_len (pa_cons (pv 8) pa_nil)) pe_int (nomark _)) (pss_one (ps_expr (pe_bm PySem.F.plainAttrs_list PySem.F.slot_list_append PySem.F.type_list_append mt_append (pe_ix ix_list (pv 8) pe_int (fun _ _ => rfl)) (pa_cons (pv 7) pa_nil)))) (pss_one (ps_expr (pe_bm PySem.F.plainAttrs_list PySem.F.slot_list_append PySem.F.type_list_append mt_append (pv 6) (pa_cons (pe_lst (pa_cons (pv 7) pa_nil)) pa_nil))))))))
    (pss_cons (ps_set (i := 9) nd rfl (.inl rfl) (pe_callTy call_tuple_of rfl B.tuple (by decide +kernel) (pa_cons (pe_callB (Sd.cr_sortSame (hu64 hr)) rfl B.sorted (by decide +kernel) (pa_cons (pe_lc (own := [("row", 10)]) (g := gName 10) (tt := tYes) rfl nd (pi_list (pv 6)) (blkOk_by (own := [("row", 10)]) (N := n_law) (sc := defScope s_law) (by decide +kernel)) (fun _ _ _ _ _ => (pg_name (i := 10) nd rfl (Or.inl rfl))) (fun _ _ _ _ _ => pts_nil) (fun _ _ _ _ _ => (pe_callTy (Kf.tupOf_k (K := K) rfl) rfl B.tuple (by decide +kernel) (pa_cons (pe_callB (Sd.cr_sortSame_k (K := K) rfl (hu64 hr)) rfl B.sorted (by decide +kernel) (pa_cons (pv 10) pa_nil)) pa_nil)))) pa_nil)) pa_nil)))
    (pss_cons (ps_if (pt_not (pt_val (pe_c c_law_same hr (by decide) rfl (pa_cons (pe_c c_classes hr (by decide) rfl (pa_cons (pv 2) (pa_cons (pv 3) (pa_cons (pv 5) pa_nil)))) (pa_cons (pv 9) pa_nil))))) (pss_one (ps_ret pe_bl)) pss_nil)
    (pss_cons (ps_if (pt_cmpR op_notN (pv 4) pe_non (nomark _)) (pss_one (ps_for PassesOwn.never rfl (pi_tup (pv 9)) (pg_name (i := 10) nd rfl (.inr rfl)) (pss_one (ps_if (pt_cmpR op_ne (pe_callB call_len_seq rfl B.len PySem.boot_len (pa_cons (pe_lc (own := [("old", 11)]) (g := gName 11) (tt := _) rfl nd (pi_tup (pv 4)) (blkOk_by (own := [("old", 11)]) (N := n_law) (sc := defScope s_law) (by decide +kernel)) (fun _ _ _ _ _ => (pg_name (i := 11) nd rfl (Or.inr rfl))) (fun _ _ _ _ _ => pts_one (pt_cmpR op_eq (pe_callB (Kf.len_k (K := K) rfl) rfl B.len PySem.boot_len (pa_cons (pe_lc (own := [("points", 7)]) (g := gName 7) (tt := _) rfl nd ((Kf.pi_tup_k (K := K) rfl) (pv 10)) (Kf.blk_in (blkOk_by (own := [("points", 7)]) (N := n_law) (by decide +kernel))) (fun _ _ _ _ _ => (pg_name (i := 7) nd rfl (Or.inl rfl))) (fun _ _ _ _ _ => pts_one (pt_cmpR (Sd.op_notInDT_k (K := K) rfl (hu65 hr)) (pv 7) (pv 11) rfl)) (fun _ _ _ _ _ => (pv 7))) pa_nil)) pe_int (nomark _))) (fun _ _ _ _ _ => (pv 11))) pa_nil)) pe_int (nomark _)) (pss_one (ps_ret pe_bl)) pss_nil)))) pss_nil)
    (pss_one (ps_set (i := 4) nd rfl (.inl rfl) (pv 9)))))))))
    (pss_one (ps_ret pe_bl)))))))), ?_⟩
  refine ⟨_, rfl, a, ns, 62, rfl, by decide, hS, fun b d H1 s1 nb xb => ?_⟩
  refine ⟨_, rfl, _, rfl, b, d, rfl, xb, fun kv ks H3 b3 x3 k3 => ⟨_, rfl, b, d, 4, rfl, x3, by decide, fun r H4 r0 r1 b4 x4 => ⟨_, _, rfl, rfl, ks, b, d, kv, (1 + r).toNat, ?_, x4, k3.tk (b4.tk x3), by omega, fun sv rels H5 b5 x5 hs hf => ?_⟩⟩⟩
  · show [V.ref b, kv, V.int (1 + r)] = _
    rw [show ((1 + r).toNat : Int) = 1 + r by omega]
  have hm4 : (1 + r).toNat ≤ 4 := by omega
  have hm1 : 1 ≤ (1 + r).toNat := by omega
  generalize (1 + r).toNat = m at *
  have hkd : ks ∈ Kd := by obtain ⟨_, _, _, _, h, _⟩ := k3; exact h
  obtain ⟨sa, st, sus, rfl, hs1, hs2, hs3⟩ := id hs
  refine ⟨_, rfl, b, d, 2, rfl, x5, by decide, fun u H6 u0 u1 b6 x6 => ?_⟩
  obtain ⟨u, rfl⟩ := Int.eq_ofNat_of_zero_le u0
  have t56 : Tk K H5 H6 := b6.tk x5
  have S6 := hs.tk t56
  have hs16 := t56 _ _ hs1
  refine ⟨_, _, rfl, rfl, fun σ' H' => ∃ pl : Nat, σ' = [some (.ref a), some (.ref b), some (.ref sa), some (.int (pl : Int)), none, none, none, none, none, none, none, none] ∧ H' = H6 ∧ 1 ≤ pl ∧ pl ≤ 2, ?_, ?_⟩
  · refine ⟨_, rfl, sa, _, _, _, rfl, rfl, hs16, at_of (j := 1) rfl rfl, _, _, rfl, rfl, _, rfl, ite2 (fun _ => ⟨1, rfl, rfl, by decide, by decide⟩) (fun _ => ⟨1 + u, ?_, rfl, by omega, by omega⟩)⟩
    have e : (1 : Int) + (u : Int) = ((1 + u : Nat) : Int) := by omega
    show [some (V.ref a), some (.ref b), some (.ref sa), some (.int ((1 : Int) + (u : Int))), none, none, none, none, none, none, none, none] = _
    rw [e]
  rintro σ H7 ⟨pl, rfl, rfl, pl1, pl2⟩
  have few := rows_few (m := m) (pl := pl) hm4 pl2
  have lrow : ∀ r ∈ Lb.rowsOf m pl, r.length = pl := fun r hr => Sd.rowsOf_len hr
  have elrow : ∀ r ∈ Lb.rowsOf m pl, ∀ x ∈ r, Gm.El m x := fun r hr x hx => (Lb.rows_mem hr).2 x hx
  have E : ∀ k, Eqv (fun x => x.length = pl) (alk (Rs rels rels) m k) := fun k => alk_eqv (rs_sym rels)
  have ok : ∀ k i, Parted (alk (Rs rels rels) m k) ((Lb.rowsOf m pl).take i) (parts (alk (Rs rels rels) m k) ((Lb.rowsOf m pl).take i)) := fun k i =>
    parts_ok (fun p hp => (E k).re p (lrow p (List.mem_of_mem_take hp))) ((Sd.rowsOf_up m pl).sublist (List.take_sublist _ _))
  have okA : ∀ k, Parted (alk (Rs rels rels) m k) (Lb.rowsOf m pl) (parts (alk (Rs rels rels) m k) (Lb.rowsOf m pl)) := fun k => by
    have := ok k (Lb.rowsOf m pl).length
    rw [List.take_length] at this
    exact this
  refine ⟨3, rfl, by decide, by decide, for_range (lo := 0) (n := 3) (fun i σ H' => ∃ (be : V) (ro rw po ne du rr : Option V), σ = [some (.ref a), some (.ref b), some (.ref sa), some (.int (pl : Int)), some be, ro, rw, po, ne, du, rr, none] ∧ Same H7 H' ∧ ((i = 0 ∧ be = .non) ∨ ∃ j, i = j + 1 ∧ ClsT K H' be (parts (alk (Rs rels rels) m j) (Lb.rowsOf m pl)))) ⟨.non, none, none, none, none, none, none, rfl, Same.refl _, .inl ⟨rfl, rfl⟩⟩ ?_ ?_⟩
  · rintro k σ H8 hk3 ⟨be, ro, rw0, po, ne, du, rr, rfl, s8, hbe⟩
    have ek : (0 : Int) + (k : Int) = (k : Int) := Int.zero_add _
    refine ⟨Nat.zero_le _, fun F nF8 => ?_⟩
    have s89 := same_new nF8 (.lst [])
    have hF9 : upd H8 F (.lst []) F = some (.lst []) := upd_same
    generalize upd H8 F (.lst []) = H9 at s89 hF9 ⊢
    have s79 := s8.trans s89
    refine ⟨_, rfl, sa, _, _, _, rfl, rfl, Tk.of_same s79 _ _ hs16, at_of (j := 1) rfl rfl, _, rfl, m, pl, rfl, by omega, by omega, pow_le_small (by omega) (by omega), fun L ws H10 s910 nL hL hws => ⟨L, rfl, ⟨ws, SqL.of hL⟩, ?_⟩⟩
    have nLF : L ≠ F := fun z => by rw [z, hF9] at nL; cases nL
    have hF10 := s910 _ _ hF9
    have s810 := s89.trans s910
    have lws := hws.length
    refine for_list (xs := ws) (fun i σ H' => ∃ (po ne : Option V) (ls : List V), σ = [some (.ref a), some (.ref b), some (.ref sa), some (.int (pl : Int)), some be, some (.int (0 + (k : Int))), some (.ref F), po, ne, du, rr, none] ∧ Same H8 H' ∧ Tk K H10 H' ∧ H' L = some (.lst ws) ∧ H' F = some (.lst ls) ∧ ls.Nodup ∧ ls.length ≤ i ∧ (∀ c ∈ parts (alk (Rs rels rels) m k) ((Lb.rowsOf m pl).take i), c.length ≤ i) ∧
      All2 (ClL K H8 F L H') ls (parts (alk (Rs rels rels) m k) ((Lb.rowsOf m pl).take i))) ⟨_, _, [], rfl, s810, (fun _ _ h => h), hL, hF10, List.nodup_nil, Nat.le_refl _, fun c h => (nomatch h), .nil⟩ (fun i σ H' _ ⟨_, _, _, _, _, _, h, _⟩ => SqL.of h) ?_ ?_
    · rintro i u σ H11 hi ⟨po, ne, ls, rfl, s11, k1011, hL11, hF11, ndl, lls, lcs, hcl⟩
      obtain ⟨p, hp, hu⟩ := (hws.imp fun _ _ h => RowAt.tk k1011 h).get hi
      have hpm := List.mem_of_getElem? hp
      have li := (List.getElem?_eq_some_iff.mp hi).1
      have oki := ok k i
      have hce : parts (alk (Rs rels rels) m k) ((Lb.rowsOf m pl).take (i + 1)) = put (alk (Rs rels rels) m k) (parts (alk (Rs rels rels) m k) ((Lb.rowsOf m pl).take i)) p := by
        rw [List.take_succ, hp]
        exact parts_snoc _ _ _
      have S11 := S6.tk (Tk.of_same (s8.trans s11))
      generalize hcs : parts (alk (Rs rels rels) m k) ((Lb.rowsOf m pl).take i) = cs at *
      generalize hal : alk (Rs rels rels) m k = al at *
      have l16 : ls.length = cs.length := hcl.length
      have sz : i < 16 := by omega
      refine ⟨_, rfl, F, rfl, ⟨ls, SqL.of hF11⟩, fun D nD => ?_⟩
      refine lc_list (xs := ls) (fun j H' => H' D = some (.lst (flt al p (ls.take j) (cs.take j))) ∧ Same H11 H') ⟨upd_same, same_new nD _⟩ (fun j H' _ ⟨_, h⟩ => SqL.of (h _ _ hF11)) ?_ ?_
      · rintro j l H12 hj ⟨hD, s12⟩
        obtain ⟨c, hcj, l', us, rfl, n2, nF', nL', hl', hus⟩ := (hcl.imp fun _ _ h => ClL.same h s12).get hj
        have hcm := List.mem_of_getElem? hcj
        have lj := (List.getElem?_eq_some_iff.mp hj).1
        obtain ⟨r0, c', rfl⟩ : ∃ r c', c = r :: c' := by
          cases c with
          | nil => exact absurd rfl (oki.ne _ hcm)
          | cons r c' => exact ⟨r, c', rfl⟩
        obtain ⟨u0, us', rfl, hu0⟩ : ∃ u0 us', us = u0 :: us' ∧ RowAt K H12 u0 r0 := by
          cases hus with
          | cons h _ => exact ⟨_, _, rfl, h⟩
        have hr0 : r0 ∈ Lb.rowsOf m pl := List.mem_of_mem_take ((oki.cov r0).mp ⟨_, hcm, List.mem_cons_self⟩)
        have hu6 := RowAt.tk (Tk.of_same s12) hu
        have lr0 := lrow r0 hr0
        have lp := lrow p hpm
        have S12 := S11.tk (Tk.of_same s12)
        refine ⟨rfl, _, rfl, _, rfl, _, rfl, l', _, _, _, rfl, rfl, SqL.of hl', at_of (j := 0) rfl rfl, _, rfl, _, rfl, ks, .ref sa, .ref sa, u0, u, m, m, k, rels, rels, r0, p, by rw [ek]; rfl, S12, S12, hf, hf, hkd, hu0, hu6, by omega, by omega, by omega, hm4, hm4, fun r2 H13 s13 hr2 => ⟨r2, rfl, ?_⟩⟩
        have er : r2 = al r0 p := by
          rw [← hal]
          exact aB_of hr2
        have hD8 := s13 _ _ hD
        have s113 := s12.trans s13
        have en : flt al p (ls.take (j + 1)) (cs.take (j + 1)) = flt al p (ls.take j) (cs.take j) ++ if al r0 p = true then [.ref l'] else [] := by
          rw [List.take_succ, List.take_succ, hj, hcj, flt_app al p _ _ (by rw [List.length_take, List.length_take]; omega)]
          show _ ++ flt al p [.ref l'] [r0 :: c'] = _
          congr 1
        refine ite2 (fun cc => ⟨_, rfl, _, hD8, lineOk ?_, ?_, same_to s113 nD⟩) (fun cc => ⟨?_, s113⟩)
        · have := flt_len al p (ls.take j) (cs.take j)
          rw [List.length_take] at this
          omega
        · rw [upd_same, en, if_pos (by rw [← er]; exact cc)]
        · rw [en, if_neg (by rw [← er]; exact cc), List.append_nil]
          exact hD8
      rintro H12 ⟨hD, s12⟩
      rw [List.take_length, l16, List.take_length] at hD
      have u6 := RowAt.tk (Tk.of_same (K := K) s12) hu
      have hF6 := s12 _ _ hF11
      have hcl6 := hcl.imp fun _ _ h => ClL.same h s12
      have s812 := s11.trans s12
      have k46 := k1011.trans (Tk.of_same (K := K) s12)
      have hL6 := s12 _ _ hL11
      have plen := put_len (al := al) (p := p) (by rw [← l16]; exact lls) lcs
      refine ⟨_, rfl, D, _, rfl, .inl (SqL.of hD), _, _, rfl, rfl, _, rfl, ite2 (fun cc => ?_) (fun cc => ?_)⟩
      · rcases put_cases al p cs with ⟨h1, _⟩ | ⟨a0, c, r, e, h1, h2, h3⟩
        · rw [flt_none h1] at cc
          cases cc
        · subst e
          obtain ⟨a1, x, a2, rfl, g1, ⟨l', us, rfl, n2, nF', nL', hl', hus⟩, g2⟩ := a2_split hcl6
          rw [flt_some g1.length h1 h2] at hD
          have lus : us.length ≤ 16 := by
            have := lcs c (List.mem_append_right _ List.mem_cons_self)
            rw [hus.length]
            omega
          refine ⟨_, rfl, D, _, _, _, rfl, rfl, SqL.of hD, at_of (j := 0) rfl rfl, .inl ⟨rfl, _, SqL.of hl'⟩, _, rfl, l', us, _, rfl, rfl, hl', lineOk (by omega), ?_⟩
          have t := tk_lst (K := K) hl' (.lst (us ++ [u]))
          refine ⟨_, _, _, rfl, same_to s812 n2, k46.trans t, by rw [upd_ne nL'.symm]; exact hL6, by rw [upd_ne nF'.symm]; exact hF6, ndl, by omega, ?_, ?_⟩
          · rw [hce]; exact plen.2
          · rw [hce, h3]
            exact cls_put ndl g1 hl' hus n2 nF' nL' g2 u6
      · have e0 : flt al p ls cs = [] := by
          cases e : flt al p ls cs with
          | nil => rfl
          | cons x y =>
            refine absurd ?_ cc
            rw [e]
            exact decide_eq_true (by rw [List.length_cons]; omega)
        rcases put_cases al p cs with ⟨h1, h2⟩ | ⟨a0, c, r, e, h1, h2, h3⟩
        · refine ⟨_, rfl, .inl ⟨rfl, _, SqL.of hF6⟩, _, rfl, l1, fun q nq => ⟨F, ls, _, rfl, rfl, same_new nq _ _ _ hF6, lineOk (by omega), ?_⟩⟩
          have n2 : H8 q = none := s812.free nq
          have nqL : q ≠ L := fun z => by rw [z, hL6] at nq; cases nq
          have hF7 := same_new nq (.lst [u]) _ _ hF6
          have t := (tk_new (K := K) nq (.lst [u])).trans (tk_lst hF7 (.lst (ls ++ [.ref q])))
          refine ⟨_, _, _, rfl, same_to (s812.trans (same_new nq _)) nF8, k46.trans t, by rw [upd_ne nLF]; exact same_new nq _ _ _ hL6, upd_same, ?_, by rw [List.length_append, List.length_singleton]; omega, ?_, ?_⟩
          · rw [List.nodup_append]
            refine ⟨ndl, by simp, fun x hx y hy => ?_⟩
            rw [List.mem_singleton.mp hy]
            rintro rfl
            obtain ⟨j, hj⟩ := List.getElem?_of_mem hx
            obtain ⟨c, _, l', us, e, _, _, _, hl', _⟩ := hcl6.get hj
            cases e
            rw [hl'] at nq
            cases nq
          · rw [hce]; exact plen.2
          · rw [hce, h2]
            exact cls_new hF6 hcl6 nq n2 nqL u6
        · subst e
          obtain ⟨a1, x, a2, rfl, g1, _⟩ := a2_split hcl6
          rw [flt_some g1.length h1 h2] at e0
          cases e0
    · rintro σ H11 ⟨po, ne, ls, rfl, s11, k1011, hL11, hF11, ndl, lls, lcs, hcl⟩
      rw [lws, List.take_length] at hcl lcs
      have okk := okA k
      have ndr : ∀ c ∈ parts (alk (Rs rels rels) m k) (Lb.rowsOf m pl), ∀ r ∈ c, r ∈ Lb.rowsOf m pl := fun c hc r hr => (okk.cov r).mp ⟨c, hc, hr⟩
      generalize hcs : parts (alk (Rs rels rels) m k) (Lb.rowsOf m pl) = cs at *
      have l16 : ls.length = cs.length := hcl.length
      have lsn : ls.length ≤ 16 := by omega
      refine ⟨_, rfl, F, rfl, ⟨ls, SqL.of hF11⟩, fun D nD => ?_⟩
      refine lc_list (xs := ls) (fun j H' => ∃ acc, H' D = some (.lst acc) ∧ All2 (ClT K H') acc (cs.take j) ∧ Same H11 H') ⟨[], upd_same, .nil, same_new nD _⟩ (fun j H' _ ⟨_, _, _, h⟩ => SqL.of (h _ _ hF11)) ?_ ?_
      · rintro j l H12 hj ⟨acc, hD, hacc, s12⟩
        obtain ⟨c, hcj, l', us, rfl, _, _, _, hl', hus⟩ := (hcl.imp fun _ _ h => ClL.same h s12).get hj
        have lj := (List.getElem?_eq_some_iff.mp hj).1
        have hcm := List.mem_of_getElem? hcj
        refine ⟨rfl, _, rfl, l', us, c.map Da.dint, rfl, SqL.of hl', a2_dp Da.dint (fun _ _ z => row_dp z) hus, Sd.rows_alike c, Sd.rows_sortable (fun r hr z => ?_), fun d hd => ?_, Sd.rows_up (okk.up c hcm), fun p np => ⟨p, us, rfl, .inl ⟨SqL.of upd_same, fun q nq => ⟨acc, same_new nq _ _ _ (same_new np _ _ _ hD), lineOk ?_, acc ++ [.ref q], upd_same, ?_, same_to ((s12.trans (same_new np _)).trans (same_new nq _)) nD⟩⟩⟩⟩
        · have := lrow r (ndr c hcm r hr)
          rw [z, List.length_nil] at this
          omega
        · obtain ⟨r, _, rfl⟩ := List.mem_map.mp hd
          exact Nat.le_trans (Sd.dep_dint r) (by decide)
        · have := hacc.length
          rw [List.length_take] at this
          omega
        · have t1 := (tk_new (K := K) np (.lst us)).trans (tk_new (K := K) nq (.tup us))
          have t2 := tk_lst (K := K) (same_new nq (.tup us) _ _ (same_new np (.lst us) _ _ hD)) (.lst (acc ++ [.ref q]))
          rw [List.take_succ, hcj]
          exact (hacc.imp fun _ _ h => ClT.tk t2 (ClT.tk t1 h)).append (.cons (ClT.tk t2 ⟨q, us, rfl, SqT.of upd_same, hus.imp fun _ _ h => RowAt.tk t1 h⟩) .nil)
      rintro H12 ⟨acc, hD, hacc, s12⟩
      rw [l16, List.take_length] at hacc
      refine ⟨D, acc, cs.map Sd.dcl, rfl, SqL.of hD, a2_dp Sd.dcl (fun _ _ z => cl_dp z) hacc, Sd.cls_alike cs, Sd.cls_sortable okk.ne, fun d hd => ?_, Sd.cls_up okk.ne okk.heads, fun p np => ⟨p, acc, rfl, .inl ⟨SqL.of upd_same, fun q' nq => ?_⟩⟩⟩
      · obtain ⟨c, _, rfl⟩ := List.mem_map.mp hd
        exact Sd.dep_dcl c
      have s1213 : Same H12 (upd (upd H12 p (.lst acc)) q' (.tup acc)) := (same_new np _).trans (same_new nq _)
      have hdue : ClsT K (upd (upd H12 p (.lst acc)) q' (.tup acc)) (.ref q') cs := ⟨q', acc, rfl, SqT.of upd_same, hacc.imp fun _ _ h => ClT.tk (Tk.of_same s1213) h⟩
      generalize upd (upd H12 p (.lst acc)) q' (.tup acc) = H13 at s1213 hdue ⊢
      have s813 := s11.trans (s12.trans s1213)
      have S13 := S6.tk (Tk.of_same (s8.trans s813))
      refine ⟨_, rfl, _, rfl, _, rfl, ks, .ref sa, m, pl, k, rels, by rw [ek]; rfl, S13, hf, hkd, hm4, pl1, pl2, by omega, fun v H14 s14 hv => ?_⟩
      rw [hcs] at hv
      have hdue14 := hdue.tk (Tk.of_same s14)
      have hd3 := trCls_dep cs
      refine ⟨_, rfl, v, .ref q', trCls cs, rfl, cls_tr hv, cls_tr hdue14, by omega, trCls_wid (by omega) (fun c hc => ?_) (fun c hc r hr => ?_), fun H15 s15 => ⟨true, rfl, ite2 (fun c => absurd c (by decide)) (fun _ => ?_)⟩⟩
      · have := lcs c hc
        omega
      · have := lrow r (ndr c hc r hr)
        omega
      have s815 := s813.trans (s14.trans s15)
      have hdue15 := hdue14.tk (Tk.of_same s15)
      have s715 := s8.trans s815
      rcases hbe with ⟨rfl, rfl⟩ | ⟨j, rfl, hbe⟩
      · refine ⟨_, rfl, rfl, false, rfl, ite2 (fun c => absurd c (by decide)) (fun _ => ?_)⟩
        exact ⟨_, rfl, _, _, _, _, _, _, _, rfl, s715, .inr ⟨0, rfl, by rw [hcs]; exact hdue15⟩⟩
      · obtain ⟨Tb, bs, rfl, hTb, hbs⟩ := hbe.tk (Tk.of_same s815)
        obtain ⟨Td, dus, hTe, hTd, hds⟩ := id hdue15
        cases hTe
        refine ⟨_, rfl, rfl, true, rfl, ite2 (fun _ => ?_) (fun c => absurd rfl c)⟩
        refine ⟨_, rfl, q', rfl, ⟨dus, hTd⟩, ?_⟩
        have okj := okA j
        refine for_tup (xs := dus) (fun e σ H' => ∃ (rr1 : Option V), σ = [some (.ref a), some (.ref b), some (.ref sa), some (.int (pl : Int)), some (.ref Tb), some (.int (0 + ((j + 1 : Nat) : Int))), some (.ref F), po, ne, some (.ref q'), rr1, none] ∧ Same H15 H') ⟨_, rfl, Same.refl _⟩ (fun e σ H' _ ⟨_, _, h⟩ => Tk.of_same h _ _ hTd) ?_ ?_
        · rintro e u σ H16 he ⟨rr1, rfl, s16⟩
          obtain ⟨c, hcj, ca, cus, rfl, hca, hcus⟩ := (hds.imp fun _ _ h => ClT.tk (Tk.of_same (K := K) s16) h).get he
          have hcm := List.mem_of_getElem? hcj
          have hTb16 := Tk.of_same (K := K) s16 _ _ hTb
          have hbs16 := hbs.imp fun _ _ h => ClT.tk (Tk.of_same (K := K) s16) h
          have lbs : bs.length ≤ 16 := by
            have := (parts_len (alk (Rs rels rels) m j) (Lb.rowsOf m pl)).1
            rw [hbs.length]
            omega
          have lc16 : c.length ≤ 16 := by
            have := lcs c hcm
            omega
          refine ⟨_, rfl, Tb, rfl, ⟨bs, hTb16⟩, fun D2 nD2 => ?_⟩
          refine lc_tup (xs := bs) (fun g H' => ∃ acc, H' D2 = some (.lst acc) ∧ acc.length = (((parts (alk (Rs rels rels) m j) (Lb.rowsOf m pl)).take g).filter fun old => c.all fun x => decide (x ∈ old)).length ∧ Same H16 H') ⟨[], upd_same, rfl, same_new nD2 _⟩ (fun g H' _ ⟨_, _, _, h⟩ => Tk.of_same h _ _ hTb16) ?_ ?_
          · rintro g w0 H17 hg ⟨acc, hD2, hacc, s17⟩
            obtain ⟨o, hoj, oa, ous, rfl, hoa, hous⟩ := (hbs16.imp fun _ _ h => ClT.tk (Tk.of_same (K := K) s17) h).get hg
            have lg := (List.getElem?_eq_some_iff.mp hg).1
            have hca17 := Tk.of_same (K := K) s17 _ _ hca
            have hcus17 := hcus.imp fun _ _ h => RowAt.tk (Tk.of_same (K := K) s17) h
            refine ⟨rfl, _, rfl, ca, rfl, ⟨cus, hca17⟩, fun D3 nD3 => ?_⟩
            refine lc_tup (xs := cus) (fun x H' => ∃ acc3, H' D3 = some (.lst acc3) ∧ acc3.length = ((c.take x).filter fun r => !decide (r ∈ o)).length ∧ Same H17 H') ⟨[], upd_same, rfl, same_new nD3 _⟩ (fun x H' _ ⟨_, _, _, h⟩ => Tk.of_same h _ _ hca17) ?_ ?_
            · rintro x pv0 H18 hx ⟨acc3, hD3, hacc3, s18⟩
              obtain ⟨r, hrx, hr0⟩ := (hcus17.imp fun _ _ h => RowAt.tk (Tk.of_same (K := K) s18) h).get hx
              have lx := (List.getElem?_eq_some_iff.mp hrx).1
              have hou := hous.imp fun _ _ h => RowAt.tk (Tk.of_same (K := K) s18) h
              have ef : ((c.take (x + 1)).filter fun r => !decide (r ∈ o)).length = ((c.take x).filter fun r => !decide (r ∈ o)).length + if (!decide (r ∈ o)) = true then 1 else 0 := by
                rw [List.take_succ, hrx, List.filter_append, List.length_append]
                show _ + (List.filter _ [r]).length = _
                rw [List.filter_cons]
                split <;> rfl
              refine ⟨rfl, _, rfl, _, rfl, Da.dint r, o.map Da.dint, row_dp hr0, .tup (Tk.of_same (K := K) s18 _ _ hoa) (a2_dp Da.dint (fun _ _ z => row_dp z) hou), Da.shaped_ints r, Da.shaped_rows o, !decide (r ∈ o), congrArg V.bl (congrArg Bool.not (any_dint o r)), ite2 (fun cc => ⟨_, rfl, acc3, hD3, lineOk ?_, acc3 ++ [_], upd_same, ?_, same_to s18 nD3⟩) (fun cc => ⟨acc3, hD3, ?_, s18⟩)⟩
              · rw [hacc3]
                exact Nat.le_trans (List.length_filter_le _ _) (by rw [List.length_take]; omega)
              · rw [ef, if_pos cc, List.length_append, hacc3]
                rfl
              · rw [ef, if_neg cc, hacc3]
                rfl
            rintro H18 ⟨acc3, hD3, hacc3, s18⟩
            rw [hcus.length, List.take_length] at hacc3
            have ef : ((((parts (alk (Rs rels rels) m j) (Lb.rowsOf m pl)).take (g + 1)).filter fun old => c.all fun x => decide (x ∈ old))).length = (((parts (alk (Rs rels rels) m j) (Lb.rowsOf m pl)).take g).filter fun old => c.all fun x => decide (x ∈ old)).length + if (c.all fun x => decide (x ∈ o)) = true then 1 else 0 := by
              rw [List.take_succ, hoj, List.filter_append, List.length_append]
              show _ + (List.filter _ [o]).length = _
              rw [List.filter_cons]
              split <;> rfl
            have eb : decide (V.int ((acc3.length : Nat) : Int) = V.int 0) = c.all fun x => decide (x ∈ o) := by
              rw [← all_in, ← hacc3]
              by_cases z : acc3.length = 0
              · rw [decide_eq_true z, decide_eq_true (by rw [z]; rfl)]
              · rw [decide_eq_false z, decide_eq_false (fun y => z (by injection y with y; omega))]
            refine ⟨D3, acc3, rfl, .inl (SqL.of hD3), rfl, (c.all fun x => decide (x ∈ o)), congrArg V.bl eb, ite2 (fun cc => ⟨_, rfl, acc, s18 _ _ hD2, lineOk ?_, acc ++ [_], upd_same, ?_, same_to (s17.trans s18) nD2⟩) (fun cc => ⟨acc, s18 _ _ hD2, ?_, s17.trans s18⟩)⟩
            · rw [hacc]
              exact Nat.le_trans (List.length_filter_le _ _) (by rw [List.length_take]; omega)
            · rw [ef, if_pos cc, List.length_append, hacc]
              rfl
            · rw [ef, if_neg cc, hacc]
              rfl
          · rintro H17 ⟨acc, hD2, hacc, s17⟩
            rw [hbs.length, List.take_length] at hacc
            have e1 := one_class (E j) (fun p hp => lrow p hp) (fun x y h => alk_down h) okj okk hcm
            rw [e1] at hacc
            refine ⟨D2, acc, rfl, .inl (SqL.of hD2), rfl, false, by rw [hacc]; rfl, ite2 (fun c => absurd c (by decide)) (fun _ => ⟨_, rfl, s16.trans s17⟩)⟩
        · rintro σ H16 ⟨rr1, rfl, s16⟩
          exact ⟨_, rfl, _, _, _, _, _, _, _, rfl, s715.trans s16, .inr ⟨j + 1, rfl, by rw [hcs]; exact hdue15.tk (Tk.of_same s16)⟩⟩
  · rintro σ H8 ⟨be, ro, rw0, po, ne, du, rr, rfl, s8, hbe⟩
    exact q H8
end
end J23

set_option Elab.async false
set_option linter.all false
set_option maxRecDepth 100000
set_option maxHeartbeats 4000000
namespace J23
open PySem L2 Fo Lb Ndk
open C8 (Cal pe_c pss_cut Met Mak pe_mt pe_mt0 pe_mk)
section
variable {P : Program} {w : World} {K : PySem.W.Frag} {mg : Str → Option Value} {base : Heap} {C : Addr}
theorem vac {k : Nat} {f : Addr} {fd : FuncData} {ps : List Str} {sp : Sp} (no : ∀ vs H Q E, ¬ sp vs H Q E) : FnOk P w K mg base CX0 k f fd ps sp :=
  ⟨fun vs H Q E h => absurd h (no vs H Q E), fun A outer s H args us vs Q E _ _ _ _ h => absurd h (no vs H Q E)⟩
section
variable {f : Addr} {fd : FuncData}
theorem cal_same (B : Bt mg) (F : Fun K "_law_same" "_law_same" s_law_same f fd) (m : mg "_law_same" = some (.ref f)) (b : Binds K fd ["actual", "expected"] []) : ∀ n, Cal P w K mg base n "_law_same" (spSame K n) []
  | 0 => cal_of (vac fun vs H Q E ⟨_, _, _, _, _, _, h, _⟩ => Nat.not_lt_zero _ h) m F.kp b
  | n + 1 => cal_of (ok_same B (cal_same B F m b n) F) m F.kp b
theorem cal_lalike (B : Bt mg) (c : Cal P w K mg base 2 "_law_fair" (spLFair K) []) (F : Fun K "_law_alike" "_law_alike" s_law_alike f fd) (m : mg "_law_alike" = some (.ref f)) (b : Binds K fd p_law_alike []) : ∀ n, Cal P w K mg base (n + 2) "_law_alike" (spLAlike K n) []
  | 0 => cal_of (vac fun vs H Q E ⟨_, _, _, _, _, _, _, _, _, _, _, _, _, _, _, _, _, _, _, _, _, _, h, _⟩ => Nat.not_lt_zero _ h) m F.kp b
  | n + 1 => cal_of (ok_lalike B c (cal_lalike B c F m b n) F) m F.kp b
theorem met_alike {g : Addr} {gd : FuncData} (B : Bt mg) (T : GmT K C) (c_met : Cal P w K mg base 1 "met" (spMet K) []) (M_replies : Met P w K mg base 1 C "replies" (spReplies K P w C) []) (M_fair : Met P w K mg base 3 C "fair" (spFair K P w C) []) (M_picks : Met P w K mg base 1 C "picks" (spPicks K P w C) [])
    (F : Fun K "alike" "Game.alike" s_Game_alike f fd) (me : Meth K C "alike" f) (b : Binds K fd p_Game_alike []) (G : Fun K "reply" "Game.reply" s_Game_reply g gd) (me' : Meth K C "reply" g) (b' : Binds K gd p_Game_reply []) : ∀ N, Met P w K mg base (2 * N + 4) C "alike" (spAlike K P w C N) []
  | 0 => ⟨⟨f, fd, _, [], T.cl, me, vac fun vs H Q E ⟨_, _, _, _, _, _, _, _, _, h, _⟩ => Nat.not_lt_zero _ h, b, .nil⟩⟩
  | N + 1 =>
    have M_reply : Met P w K mg base (2 * N + 5) C "reply" (spReply K P w C N) [] := ⟨⟨g, gd, _, [], T.cl, me', ok_reply B T c_met M_replies (met_alike B T c_met M_replies M_fair M_picks F me b G me' b' N) G, b', .nil⟩⟩
    ⟨⟨f, fd, _, [], T.cl, me, ok_alike B T M_fair M_picks M_reply F, b, .nil⟩⟩
end
end
end J23

set_option Elab.async false
set_option linter.all false
set_option maxRecDepth 100000
set_option maxHeartbeats 4000000
namespace J23
open PySem L2 Fo Lb
open C8 (Cal pe_c pss_cut)
theorem all_mk {l : PySem.W.OpenLaw} {w : World} {K : PySem.W.Frag} {h : Heap} {mg : Str → Option Value} {fa f0 f1 f2 f3 f4 f5 f6 f7 f8 f9 f10 f11 f12 f13 f14 f15 f16 f17 : Addr} (X : K.In h) (G : h.Ns mainGlobals mg) (hfa : mg "law" = some (.ref fa))
    {od0 an0 od1 an1 od2 an2 od3 an3 od4 an4 od5 an5 od6 an6 od7 an7 od8 an8 od9 an9 od10 an10 od11 an11 od12 an12 od13 an13 od14 an14 od15 an15 od16 an16 od17 an17 : Option Addr} {sl0 sl1 sl2 sl3 sl4 sl5 sl6 sl7 sl8 sl9 sl10 sl11 sl12 sl13 sl14 sl15 sl16 sl17 : Array (Option Value)} {oc0 kV0 dc0 pm0 cd0 ct0 oc1 kV1 dc1 pm1 cd1 ct1 oc2 kV2 dc2 pm2 cd2 ct2 oc3 kV3 dc3 pm3 cd3 ct3 oc4 kV4 dc4 pm4 cd4 ct4 oc5 kV5 dc5 pm5 cd5 ct5 oc6 kV6 dc6 pm6 cd6 ct6 oc7 kV7 dc7 pm7 cd7 ct7 oc8 kV8 dc8 pm8 cd8 ct8 oc9 kV9 dc9 pm9 cd9 ct9 oc10 kV10 dc10 pm10 cd10 ct10 oc11 kV11 dc11 pm11 cd11 ct11 oc12 kV12 dc12 pm12 cd12 ct12 oc13 kV13 dc13 pm13 cd13 ct13 oc14 kV14 dc14 pm14 cd14 ct14 oc15 kV15 dc15 pm15 cd15 ct15 oc16 kV16 dc16 pm16 cd16 ct16 oc17 kV17 dc17 pm17 cd17 ct17 : Value}
    (a0 : PySem.W.nsIn K mainGlobals "_wall" = some (some (.ref f0))) (l0 : K.lookup f0 = some ⟨oc0, od0, .func (PySem.W.fnOf "_wall" "_wall" (defArgs s_wall) (defBody s_wall) (defScope s_wall) .none kV0 dc0 pm0 an0 cd0 ct0), sl0⟩) (c0 : PySem.W.codeIn K cd0 "_wall" = true) (k0 : PySem.W.keepIn K (.ref f0) = true)
    (a1 : PySem.W.nsIn K mainGlobals "rows_of" = some (some (.ref f1))) (l1 : K.lookup f1 = some ⟨oc1, od1, .func (PySem.W.fnOf "rows_of" "rows_of" (defArgs s_rows_of) (defBody s_rows_of) (defScope s_rows_of) .none kV1 dc1 pm1 an1 cd1 ct1), sl1⟩) (c1 : PySem.W.codeIn K cd1 "rows_of" = true) (k1 : PySem.W.keepIn K (.ref f1) = true)
    (a2 : PySem.W.nsIn K mainGlobals "all_points" = some (some (.ref f2))) (l2 : K.lookup f2 = some ⟨oc2, od2, .func (PySem.W.fnOf "all_points" "all_points" (defArgs s_all_points) (defBody s_all_points) (defScope s_all_points) .none kV2 dc2 pm2 an2 cd2 ct2), sl2⟩) (c2 : PySem.W.codeIn K cd2 "all_points" = true) (k2 : PySem.W.keepIn K (.ref f2) = true)
    (a3 : PySem.W.nsIn K mainGlobals "meeting" = some (some (.ref f3))) (l3 : K.lookup f3 = some ⟨oc3, od3, .func (PySem.W.fnOf "meeting" "meeting" (defArgs s_meeting) (defBody s_meeting) (defScope s_meeting) .none kV3 dc3 pm3 an3 cd3 ct3), sl3⟩) (c3 : PySem.W.codeIn K cd3 "meeting" = true) (k3 : PySem.W.keepIn K (.ref f3) = true)
    (a4 : PySem.W.nsIn K mainGlobals "met" = some (some (.ref f4))) (l4 : K.lookup f4 = some ⟨oc4, od4, .func (PySem.W.fnOf "met" "met" (defArgs s_met) (defBody s_met) (defScope s_met) .none kV4 dc4 pm4 an4 cd4 ct4), sl4⟩) (c4 : PySem.W.codeIn K cd4 "met" = true) (k4 : PySem.W.keepIn K (.ref f4) = true)
    (a5 : PySem.W.nsIn K mainGlobals "is_one_to_one" = some (some (.ref f5))) (l5 : K.lookup f5 = some ⟨oc5, od5, .func (PySem.W.fnOf "is_one_to_one" "is_one_to_one" (defArgs s_is_one_to_one) (defBody s_is_one_to_one) (defScope s_is_one_to_one) .none kV5 dc5 pm5 an5 cd5 ct5), sl5⟩) (c5 : PySem.W.codeIn K cd5 "is_one_to_one" = true) (k5 : PySem.W.keepIn K (.ref f5) = true)
    (a6 : PySem.W.nsIn K mainGlobals "classes" = some (some (.ref f6))) (l6 : K.lookup f6 = some ⟨oc6, od6, .func (PySem.W.fnOf "classes" "classes" (defArgs s_classes) (defBody s_classes) (defScope s_classes) .none kV6 dc6 pm6 an6 cd6 ct6), sl6⟩) (c6 : PySem.W.codeIn K cd6 "classes" = true) (k6 : PySem.W.keepIn K (.ref f6) = true)
    (a7 : PySem.W.nsIn K mainGlobals "_law_cell" = some (some (.ref f7))) (l7 : K.lookup f7 = some ⟨oc7, od7, .func (PySem.W.fnOf "_law_cell" "_law_cell" (defArgs s_law_cell) (defBody s_law_cell) (defScope s_law_cell) .none kV7 dc7 pm7 an7 cd7 ct7), sl7⟩) (c7 : PySem.W.codeIn K cd7 "_law_cell" = true) (k7 : PySem.W.keepIn K (.ref f7) = true)
    (a8 : PySem.W.nsIn K mainGlobals "_law_digits" = some (some (.ref f8))) (l8 : K.lookup f8 = some ⟨oc8, od8, .func (PySem.W.fnOf "_law_digits" "_law_digits" (defArgs s_law_digits) (defBody s_law_digits) (defScope s_law_digits) .none kV8 dc8 pm8 an8 cd8 ct8), sl8⟩) (c8 : PySem.W.codeIn K cd8 "_law_digits" = true) (k8 : PySem.W.keepIn K (.ref f8) = true)
    (a9 : PySem.W.nsIn K mainGlobals "_law_draw" = some (some (.ref f9))) (l9 : K.lookup f9 = some ⟨oc9, od9, .func (PySem.W.fnOf "_law_draw" "_law_draw" (defArgs s_law_draw) (defBody s_law_draw) (defScope s_law_draw) .none kV9 dc9 pm9 an9 cd9 ct9), sl9⟩) (c9 : PySem.W.codeIn K cd9 "_law_draw" = true) (k9 : PySem.W.keepIn K (.ref f9) = true)
    (a10 : PySem.W.nsIn K mainGlobals "_law_same" = some (some (.ref f10))) (l10 : K.lookup f10 = some ⟨oc10, od10, .func (PySem.W.fnOf "_law_same" "_law_same" (defArgs s_law_same) (defBody s_law_same) (defScope s_law_same) .none kV10 dc10 pm10 an10 cd10 ct10), sl10⟩) (c10 : PySem.W.codeIn K cd10 "_law_same" = true) (k10 : PySem.W.keepIn K (.ref f10) = true)
    (a11 : PySem.W.nsIn K mainGlobals "_law_box" = some (some (.ref f11))) (l11 : K.lookup f11 = some ⟨oc11, od11, .func (PySem.W.fnOf "_law_box" "_law_box" (defArgs s_law_box) (defBody s_law_box) (defScope s_law_box) .none kV11 dc11 pm11 an11 cd11 ct11), sl11⟩) (c11 : PySem.W.codeIn K cd11 "_law_box" = true) (k11 : PySem.W.keepIn K (.ref f11) = true)
    (a12 : PySem.W.nsIn K mainGlobals "_law_kinds" = some (some (.ref f12))) (l12 : K.lookup f12 = some ⟨oc12, od12, .func (PySem.W.fnOf "_law_kinds" "_law_kinds" (defArgs s_law_kinds) (defBody s_law_kinds) (defScope s_law_kinds) .none kV12 dc12 pm12 an12 cd12 ct12), sl12⟩) (c12 : PySem.W.codeIn K cd12 "_law_kinds" = true) (k12 : PySem.W.keepIn K (.ref f12) = true)
    (a13 : PySem.W.nsIn K mainGlobals "_law_tuples" = some (some (.ref f13))) (l13 : K.lookup f13 = some ⟨oc13, od13, .func (PySem.W.fnOf "_law_tuples" "_law_tuples" (defArgs s_law_tuples) (defBody s_law_tuples) (defScope s_law_tuples) .none kV13 dc13 pm13 an13 cd13 ct13), sl13⟩) (c13 : PySem.W.codeIn K cd13 "_law_tuples" = true) (k13 : PySem.W.keepIn K (.ref f13) = true)
    (a14 : PySem.W.nsIn K mainGlobals "_law_structure" = some (some (.ref f14))) (l14 : K.lookup f14 = some ⟨oc14, od14, .func (PySem.W.fnOf "_law_structure" "_law_structure" (defArgs s_law_structure) (defBody s_law_structure) (defScope s_law_structure) .none kV14 dc14 pm14 an14 cd14 ct14), sl14⟩) (c14 : PySem.W.codeIn K cd14 "_law_structure" = true) (k14 : PySem.W.keepIn K (.ref f14) = true)
    (a15 : PySem.W.nsIn K mainGlobals "_law_fair" = some (some (.ref f15))) (l15 : K.lookup f15 = some ⟨oc15, od15, .func (PySem.W.fnOf "_law_fair" "_law_fair" (defArgs s_law_fair) (defBody s_law_fair) (defScope s_law_fair) .none kV15 dc15 pm15 an15 cd15 ct15), sl15⟩) (c15 : PySem.W.codeIn K cd15 "_law_fair" = true) (k15 : PySem.W.keepIn K (.ref f15) = true)
    (a16 : PySem.W.nsIn K mainGlobals "_law_alike" = some (some (.ref f16))) (l16 : K.lookup f16 = some ⟨oc16, od16, .func (PySem.W.fnOf "_law_alike" "_law_alike" (defArgs s_law_alike) (defBody s_law_alike) (defScope s_law_alike) .none kV16 dc16 pm16 an16 cd16 ct16), sl16⟩) (c16 : PySem.W.codeIn K cd16 "_law_alike" = true) (k16 : PySem.W.keepIn K (.ref f16) = true)
    (a17 : PySem.W.nsIn K mainGlobals "law" = some (some (.ref f17))) (l17 : K.lookup f17 = some ⟨oc17, od17, .func (PySem.W.fnOf "law" "law" (defArgs s_law) (defBody s_law) (defScope s_law) .none kV17 dc17 pm17 an17 cd17 ct17), sl17⟩) (c17 : PySem.W.codeIn K cd17 "law" = true) (k17 : PySem.W.keepIn K (.ref f17) = true)
    {CGame fGame0 fGame1 fGame2 fGame3 fGame4 fGame5 fGame6 fGame7 : Addr} {odGame0 anGame0 odGame1 anGame1 odGame2 anGame2 odGame3 anGame3 odGame4 anGame4 odGame5 anGame5 odGame6 anGame6 odGame7 anGame7 : Option Addr} {slGame0 slGame1 slGame2 slGame3 slGame4 slGame5 slGame6 slGame7 : Array (Option Value)} {ocGame0 kVGame0 dcGame0 pmGame0 cdGame0 ctGame0 ocGame1 kVGame1 dcGame1 pmGame1 cdGame1 ctGame1 ocGame2 kVGame2 dcGame2 pmGame2 cdGame2 ctGame2 ocGame3 kVGame3 dcGame3 pmGame3 cdGame3 ctGame3 ocGame4 kVGame4 dcGame4 pmGame4 cdGame4 ctGame4 ocGame5 kVGame5 dcGame5 pmGame5 cdGame5 ctGame5 ocGame6 kVGame6 dcGame6 pmGame6 cdGame6 ctGame6 ocGame7 kVGame7 dcGame7 pmGame7 cdGame7 ctGame7 : Value}
    (aCGame : PySem.W.nsIn K mainGlobals "Game" = some (some (.ref CGame)))
    (aGame0 : PySem.W.findIn K (.ref CGame) "__init__" = some (some (.ref fGame0)))
    (iGame0 : PySem.W.isFn K (.ref fGame0) = true)
    (lGame0 : K.lookup fGame0 = some ⟨ocGame0, odGame0, .func (PySem.W.fnOf "__init__" "Game.__init__" (defArgs s_Game_init_) (defBody s_Game_init_) (defScope s_Game_init_) .none kVGame0 dcGame0 pmGame0 anGame0 cdGame0 ctGame0), slGame0⟩)
    (cGame0 : PySem.W.codeIn K cdGame0 "Game.__init__" = true)
    (kGame0 : PySem.W.keepIn K (.ref fGame0) = true)
    (aGame1 : PySem.W.findIn K (.ref CGame) "fair" = some (some (.ref fGame1)))
    (iGame1 : PySem.W.isFn K (.ref fGame1) = true)
    (lGame1 : K.lookup fGame1 = some ⟨ocGame1, odGame1, .func (PySem.W.fnOf "fair" "Game.fair" (defArgs s_Game_fair) (defBody s_Game_fair) (defScope s_Game_fair) .none kVGame1 dcGame1 pmGame1 anGame1 cdGame1 ctGame1), slGame1⟩)
    (cGame1 : PySem.W.codeIn K cdGame1 "Game.fair" = true)
    (kGame1 : PySem.W.keepIn K (.ref fGame1) = true)
    (aGame2 : PySem.W.findIn K (.ref CGame) "keeps" = some (some (.ref fGame2)))
    (iGame2 : PySem.W.isFn K (.ref fGame2) = true)
    (lGame2 : K.lookup fGame2 = some ⟨ocGame2, odGame2, .func (PySem.W.fnOf "keeps" "Game.keeps" (defArgs s_Game_keeps) (defBody s_Game_keeps) (defScope s_Game_keeps) .none kVGame2 dcGame2 pmGame2 anGame2 cdGame2 ctGame2), slGame2⟩)
    (cGame2 : PySem.W.codeIn K cdGame2 "Game.keeps" = true)
    (kGame2 : PySem.W.keepIn K (.ref fGame2) = true)
    (aGame3 : PySem.W.findIn K (.ref CGame) "alike" = some (some (.ref fGame3)))
    (iGame3 : PySem.W.isFn K (.ref fGame3) = true)
    (lGame3 : K.lookup fGame3 = some ⟨ocGame3, odGame3, .func (PySem.W.fnOf "alike" "Game.alike" (defArgs s_Game_alike) (defBody s_Game_alike) (defScope s_Game_alike) .none kVGame3 dcGame3 pmGame3 anGame3 cdGame3 ctGame3), slGame3⟩)
    (cGame3 : PySem.W.codeIn K cdGame3 "Game.alike" = true)
    (kGame3 : PySem.W.keepIn K (.ref fGame3) = true)
    (aGame4 : PySem.W.findIn K (.ref CGame) "picks" = some (some (.ref fGame4)))
    (iGame4 : PySem.W.isFn K (.ref fGame4) = true)
    (lGame4 : K.lookup fGame4 = some ⟨ocGame4, odGame4, .func (PySem.W.fnOf "picks" "Game.picks" (defArgs s_Game_picks) (defBody s_Game_picks) (defScope s_Game_picks) .none kVGame4 dcGame4 pmGame4 anGame4 cdGame4 ctGame4), slGame4⟩)
    (cGame4 : PySem.W.codeIn K cdGame4 "Game.picks" = true)
    (kGame4 : PySem.W.keepIn K (.ref fGame4) = true)
    (aGame5 : PySem.W.findIn K (.ref CGame) "replies" = some (some (.ref fGame5)))
    (iGame5 : PySem.W.isFn K (.ref fGame5) = true)
    (lGame5 : K.lookup fGame5 = some ⟨ocGame5, odGame5, .func (PySem.W.fnOf "replies" "Game.replies" (defArgs s_Game_replies) (defBody s_Game_replies) (defScope s_Game_replies) .none kVGame5 dcGame5 pmGame5 anGame5 cdGame5 ctGame5), slGame5⟩)
    (cGame5 : PySem.W.codeIn K cdGame5 "Game.replies" = true)
    (kGame5 : PySem.W.keepIn K (.ref fGame5) = true)
    (aGame6 : PySem.W.findIn K (.ref CGame) "reply" = some (some (.ref fGame6)))
    (iGame6 : PySem.W.isFn K (.ref fGame6) = true)
    (lGame6 : K.lookup fGame6 = some ⟨ocGame6, odGame6, .func (PySem.W.fnOf "reply" "Game.reply" (defArgs s_Game_reply) (defBody s_Game_reply) (defScope s_Game_reply) .none kVGame6 dcGame6 pmGame6 anGame6 cdGame6 ctGame6), slGame6⟩)
    (cGame6 : PySem.W.codeIn K cdGame6 "Game.reply" = true)
    (kGame6 : PySem.W.keepIn K (.ref fGame6) = true)
    (aGame7 : PySem.W.findIn K (.ref CGame) "least_rounds" = some (some (.ref fGame7)))
    (iGame7 : PySem.W.isFn K (.ref fGame7) = true)
    (lGame7 : K.lookup fGame7 = some ⟨ocGame7, odGame7, .func (PySem.W.fnOf "least_rounds" "Game.least_rounds" (defArgs s_Game_least_rounds) (defBody s_Game_least_rounds) (defScope s_Game_least_rounds) .none kVGame7 dcGame7 pmGame7 anGame7 cdGame7 ctGame7), slGame7⟩)
    (cGame7 : PySem.W.codeIn K cdGame7 "Game.least_rounds" = true)
    (kGame7 : PySem.W.keepIn K (.ref fGame7) = true)
    (pgGame : PySem.W.plainGet K CGame Str.empty = true)
    (hdGame : PySem.W.hasDictIn K CGame = true)
    (poGame : PySem.W.plainOver K CGame = true)
    (saGame : PySem.W.findIn K (.ref CGame) "__setattr__" = some (some (.builtin "object.__setattr__")))
    (mkGame : PySem.W.makesIn K CGame = true)
    (kcGame : PySem.W.keepIn K (.ref CGame) = true)
    (nGame_0 : PySem.W.findIn K (.ref CGame) "structure" = some none)
    (nGame_1 : PySem.W.findIn K (.ref CGame) "other" = some none)
    (nGame_2 : PySem.W.findIn K (.ref CGame) "many" = some none)
    (nGame_3 : PySem.W.findIn K (.ref CGame) "relations" = some none)
    (nGame_4 : PySem.W.findIn K (.ref CGame) "known_fair" = some none)
    (nGame_5 : PySem.W.findIn K (.ref CGame) "known_alike" = some none)
    (z_len : PySem.W.nsIn K mainGlobals "len" = some none)
    (z_max : PySem.W.nsIn K mainGlobals "max" = some none)
    (z_int : PySem.W.nsIn K mainGlobals "int" = some none)
    (z_tuple : PySem.W.nsIn K mainGlobals "tuple" = some none)
    (z_list : PySem.W.nsIn K mainGlobals "list" = some none)
    (z_set : PySem.W.nsIn K mainGlobals "set" = some none)
    (z_sorted : PySem.W.nsIn K mainGlobals "sorted" = some none)
    (z_range : PySem.W.nsIn K mainGlobals "range" = some none)
    (z_isinstance : PySem.W.nsIn K mainGlobals "isinstance" = some none)
    (z_dict : PySem.W.nsIn K mainGlobals "dict" = some none)
    (z_str : PySem.W.nsIn K mainGlobals "str" = some none)
    (z_bool : PySem.W.nsIn K mainGlobals "bool" = some none)
    (z_sum : PySem.W.nsIn K mainGlobals "sum" = some none)
    (z_enumerate : PySem.W.nsIn K mainGlobals "enumerate" = some none)
    (z_min : PySem.W.nsIn K mainGlobals "min" = some none)
    (z_all : PySem.W.nsIn K mainGlobals "all" = some none)
    (z_any : PySem.W.nsIn K mainGlobals "any" = some none)
    (z_type : PySem.W.nsIn K mainGlobals "type" = some none)
    (z_zip : PySem.W.nsIn K mainGlobals "zip" = some none)
    : ∃ fd : FuncData, (∀ (s : Shared) (v : Value), BindsTo s fd ⟨[v], []⟩ [("script", v)]) ∧ ∀ base : Heap, K.In base → base.Ns mainGlobals mg → FnOk l.prog w K mg base CX0 24 fa fd ["script"] (spLaw K) := by
  have e := hfa.symm.trans (PySem.W.mg_of X G a17)
  cases e
  have B : Bt mg := ⟨PySem.W.mg_none_of X G z_len, PySem.W.mg_none_of X G z_max, PySem.W.mg_none_of X G z_int, PySem.W.mg_none_of X G z_tuple, PySem.W.mg_none_of X G z_list, PySem.W.mg_none_of X G z_set, PySem.W.mg_none_of X G z_sorted, PySem.W.mg_none_of X G z_range, PySem.W.mg_none_of X G z_isinstance, PySem.W.mg_none_of X G z_dict, PySem.W.mg_none_of X G z_str, PySem.W.mg_none_of X G z_bool, PySem.W.mg_none_of X G z_sum, PySem.W.mg_none_of X G z_enumerate, PySem.W.mg_none_of X G z_min, PySem.W.mg_none_of X G z_all, PySem.W.mg_none_of X G z_any, PySem.W.mg_none_of X G z_type, PySem.W.mg_none_of X G z_zip⟩
  have F0 := fun_mk (st := s_wall) l0 c0 k0
  have b0 := F0.binds (ps := ["k"]) fun _ _ _ _ _ _ us hl => match us, hl with | [_], _ => rfl
  have m0 := PySem.W.mg_of X G a0
  have F1 := fun_mk (st := s_rows_of) l1 c1 k1
  have b1 := F1.binds (ps := ["things", "places"]) fun _ _ _ _ _ _ us hl => match us, hl with | [_, _], _ => rfl
  have m1 := PySem.W.mg_of X G a1
  have F2 := fun_mk (st := s_all_points) l2 c2 k2
  have b2 := F2.binds (ps := ["many", "places"]) fun _ _ _ _ _ _ us hl => match us, hl with | [_, _], _ => rfl
  have m2 := PySem.W.mg_of X G a2
  have F3 := fun_mk (st := s_meeting) l3 c3 k3
  have b3 := F3.binds (ps := ["points", "others"]) fun _ _ _ _ _ _ us hl => match us, hl with | [_, _], _ => rfl
  have m3 := PySem.W.mg_of X G a3
  have F4 := fun_mk (st := s_met) l4 c4 k4
  have b4 := F4.binds (ps := ["pairs", "pair"]) fun _ _ _ _ _ _ us hl => match us, hl with | [_, _], _ => rfl
  have m4 := PySem.W.mg_of X G a4
  have F5 := fun_mk (st := s_is_one_to_one) l5 c5 k5
  have b5 := F5.binds (ps := ["pairs"]) fun _ _ _ _ _ _ us hl => match us, hl with | [_], _ => rfl
  have m5 := PySem.W.mg_of X G a5
  have F6 := fun_mk (st := s_classes) l6 c6 k6
  have b6 := F6.binds (ps := ["structure", "many", "rounds"]) fun _ _ _ _ _ _ us hl => match us, hl with | [_, _, _], _ => rfl
  have m6 := PySem.W.mg_of X G a6
  have F7 := fun_mk (st := s_law_cell) l7 c7 k7
  have b7 := F7.binds (ps := ["script", "k"]) fun _ _ _ _ _ _ us hl => match us, hl with | [_, _], _ => rfl
  have m7 := PySem.W.mg_of X G a7
  have F8 := fun_mk (st := s_law_digits) l8 c8 k8
  have b8 := F8.binds (ps := ["script", "first", "last"]) fun _ _ _ _ _ _ us hl => match us, hl with | [_, _, _], _ => rfl
  have m8 := PySem.W.mg_of X G a8
  have F9 := fun_mk (st := s_law_draw) l9 c9 k9
  have b9 := F9.binds (ps := ["box", "many"]) fun _ _ _ _ _ _ us hl => match us, hl with | [_, _], _ => rfl
  have m9 := PySem.W.mg_of X G a9
  have F10 := fun_mk (st := s_law_same) l10 c10 k10
  have b10 := F10.binds (ps := ["actual", "expected"]) fun _ _ _ _ _ _ us hl => match us, hl with | [_, _], _ => rfl
  have m10 := PySem.W.mg_of X G a10
  have F11 := fun_mk (st := s_law_box) l11 c11 k11
  have b11 := F11.binds (ps := ["script", "first", "last"]) fun _ _ _ _ _ _ us hl => match us, hl with | [_, _, _], _ => rfl
  have m11 := PySem.W.mg_of X G a11
  have F12 := fun_mk (st := s_law_kinds) l12 c12 k12
  have b12 := F12.binds (ps := ["box"]) fun _ _ _ _ _ _ us hl => match us, hl with | [_], _ => rfl
  have m12 := PySem.W.mg_of X G a12
  have F13 := fun_mk (st := s_law_tuples) l13 c13 k13
  have b13 := F13.binds (ps := ["many", "places"]) fun _ _ _ _ _ _ us hl => match us, hl with | [_, _], _ => rfl
  have m13 := PySem.W.mg_of X G a13
  have F14 := fun_mk (st := s_law_structure) l14 c14 k14
  have b14 := F14.binds (ps := ["box", "kinds", "many"]) fun _ _ _ _ _ _ us hl => match us, hl with | [_, _, _], _ => rfl
  have m14 := PySem.W.mg_of X G a14
  have F15 := fun_mk (st := s_law_fair) l15 c15 k15
  have b15 := F15.binds (ps := ["structure", "other", "points", "others"]) fun _ _ _ _ _ _ us hl => match us, hl with | [_, _, _, _], _ => rfl
  have m15 := PySem.W.mg_of X G a15
  have F16 := fun_mk (st := s_law_alike) l16 c16 k16
  have b16 := F16.binds (ps := ["structure", "other", "points", "others", "rounds"]) fun _ _ _ _ _ _ us hl => match us, hl with | [_, _, _, _, _], _ => rfl
  have m16 := PySem.W.mg_of X G a16
  have F17 := fun_mk (st := s_law) l17 c17 k17
  refine ⟨PySem.W.fnOf "law" "law" (defArgs s_law) (defBody s_law) (defScope s_law) .none kV17 dc17 pm17 an17 cd17 ct17, fun s v => .of_eq rfl, fun base _ _ => ?_⟩
  have GGame0 := fun_mk (st := s_Game_init_) lGame0 cGame0 kGame0
  have bGame0 := GGame0.binds (ps := ["self", "structure", "other"]) fun _ _ _ _ _ _ us hl => match us, hl with | [_, _, _], _ => rfl
  have meGame0 : Meth K CGame "__init__" fGame0 := ⟨aGame0, iGame0, kGame0⟩
  have GGame1 := fun_mk (st := s_Game_fair) lGame1 cGame1 kGame1
  have bGame1 := GGame1.binds (ps := ["self", "pairs"]) fun _ _ _ _ _ _ us hl => match us, hl with | [_, _], _ => rfl
  have meGame1 : Meth K CGame "fair" fGame1 := ⟨aGame1, iGame1, kGame1⟩
  have GGame2 := fun_mk (st := s_Game_keeps) lGame2 cGame2 kGame2
  have bGame2 := GGame2.binds (ps := ["self", "pairs"]) fun _ _ _ _ _ _ us hl => match us, hl with | [_, _], _ => rfl
  have meGame2 : Meth K CGame "keeps" fGame2 := ⟨aGame2, iGame2, kGame2⟩
  have GGame3 := fun_mk (st := s_Game_alike) lGame3 cGame3 kGame3
  have bGame3 := GGame3.binds (ps := ["self", "pairs", "rounds"]) fun _ _ _ _ _ _ us hl => match us, hl with | [_, _, _], _ => rfl
  have meGame3 : Meth K CGame "alike" fGame3 := ⟨aGame3, iGame3, kGame3⟩
  have GGame4 := fun_mk (st := s_Game_picks) lGame4 cGame4 kGame4
  have bGame4 := GGame4.binds (ps := ["self"]) fun _ _ _ _ _ _ us hl => match us, hl with | [_], _ => rfl
  have meGame4 : Meth K CGame "picks" fGame4 := ⟨aGame4, iGame4, kGame4⟩
  have GGame5 := fun_mk (st := s_Game_replies) lGame5 cGame5 kGame5
  have bGame5 := GGame5.binds (ps := ["self", "side", "picked"]) fun _ _ _ _ _ _ us hl => match us, hl with | [_, _, _], _ => rfl
  have meGame5 : Meth K CGame "replies" fGame5 := ⟨aGame5, iGame5, kGame5⟩
  have GGame6 := fun_mk (st := s_Game_reply) lGame6 cGame6 kGame6
  have bGame6 := GGame6.binds (ps := ["self", "pairs", "side", "picked", "rounds"]) fun _ _ _ _ _ _ us hl => match us, hl with | [_, _, _, _, _], _ => rfl
  have meGame6 : Meth K CGame "reply" fGame6 := ⟨aGame6, iGame6, kGame6⟩
  have GGame7 := fun_mk (st := s_Game_least_rounds) lGame7 cGame7 kGame7
  have bGame7 := GGame7.binds (ps := ["self", "pairs"]) fun _ _ _ _ _ _ us hl => match us, hl with | [_, _], _ => rfl
  have meGame7 : Meth K CGame "least_rounds" fGame7 := ⟨aGame7, iGame7, kGame7⟩
  have TGame : GmT K CGame := ⟨⟨pgGame, hdGame, poGame, saGame⟩, nGame_0, nGame_1, nGame_2, nGame_3, nGame_4, nGame_5⟩
  have c_law_cell := cal_of (ok_cell (P := l.prog) (w := w) (base := base) B F7) m7 F7.kp b7
  have c_law_digits := cal_of (ok_digits B c_law_cell F8) m8 F8.kp b8
  have c_law_box := cal_of (ok_box c_law_digits F11) m11 F11.kp b11
  have c_law_draw := cal_of (ok_draw (P := l.prog) (w := w) (base := base) B F9) m9 F9.kp b9
  have c_law_kinds := cal_of (ok_kinds c_law_draw F12) m12 F12.kp b12
  have c_law_tuples := cal_of (ok_tuples (P := l.prog) (w := w) (base := base) B F13) m13 F13.kp b13
  have c_law_structure := cal_of (ok_struct B c_law_draw c_law_tuples F14) m14 F14.kp b14
  have c_law_same := cal_same (P := l.prog) (w := w) (base := base) B F10 m10 b10 4
  have c_law_fair := cal_of (ok_lfair B c_law_tuples F15) m15 F15.kp b15
  have c_law_alike := cal_lalike (P := l.prog) (w := w) (base := base) B c_law_fair F16 m16 b16 4
  have c_rows_of := cal_of (ok_rowsof (P := l.prog) (w := w) (base := base) B F1) m1 F1.kp b1
  have c_met := cal_of (ok_met (P := l.prog) (w := w) (base := base) B F4) m4 F4.kp b4
  have c_meeting := cal_of (ok_meeting (P := l.prog) (w := w) (base := base) B F3) m3 F3.kp b3
  have c_is_one_to_one := cal_of (ok_one (P := l.prog) (w := w) (base := base) B F5) m5 F5.kp b5
  have M_keeps : C8.Met l.prog w K mg base 2 CGame "keeps" (spKeeps K l.prog w CGame) [] := ⟨⟨_, _, _, [], TGame.cl, meGame2, ok_keeps B TGame c_rows_of GGame2, bGame2, .nil⟩⟩
  have M_fair : C8.Met l.prog w K mg base 3 CGame "fair" (spFair K l.prog w CGame) [] := ⟨⟨_, _, _, [], TGame.cl, meGame1, ok_fair B TGame c_is_one_to_one M_keeps GGame1, bGame1, .nil⟩⟩
  have M_picks : C8.Met l.prog w K mg base 1 CGame "picks" (spPicks K l.prog w CGame) [] := ⟨⟨_, _, _, [], TGame.cl, meGame4, ok_picks B TGame GGame4, bGame4, .nil⟩⟩
  have M_replies : C8.Met l.prog w K mg base 1 CGame "replies" (spReplies K l.prog w CGame) [] := ⟨⟨_, _, _, [], TGame.cl, meGame5, ok_replies B TGame GGame5, bGame5, .nil⟩⟩
  have M_alikeN := met_alike B TGame c_met M_replies M_fair M_picks GGame3 meGame3 bGame3 GGame6 meGame6 bGame6
  have mGame : C8.Mak l.prog w K mg base 1 "Game" CGame (spGInit K l.prog w CGame) [] := ⟨⟨_, _, _, [], ⟨mkGame, aGame0, iGame0, kcGame⟩, ok_ginit B TGame GGame0, PySem.W.mg_of X G aCGame, bGame0, .nil⟩⟩
  have c_all_points := cal_of (ok_allp B c_rows_of F2) m2 F2.kp b2
  have c_classes := cal_of (ok_classes B TGame c_meeting c_all_points mGame (M_alikeN 9) F6) m6 F6.kp b6
  exact ok_law B c_law_box c_law_kinds c_law_structure c_law_draw c_law_tuples c_law_same c_law_alike c_classes F17
theorem walk {l : PySem.W.OpenLaw} {q : Program} {loose : List Str} {XP : (Str → Option Value) → Heap → Prop} {YP : World → Heap → Prop} {d : DefRec} {K : Params → PySem.W.Frag} (hn : l.most = some 63) (hdf : d.params.defaults = [])
    (hY : ∀ (w : World) (h : Heap), YP w h → (K w.params).In h)
    (F : ∀ (w : World) (mg : Str → Option Value) (fa : Addr) (h : Heap), (K w.params).In h → h.Ns mainGlobals mg → mg d.name = some (.ref fa) →
      ∃ fd : FuncData, (∀ (s : Shared) (u : Value), BindsTo s fd ⟨[u], []⟩ [("script", u)]) ∧ ∀ base : Heap, (K w.params).In base → base.Ns mainGlobals mg → FnOk l.prog w (K w.params) mg base CX0 24 fa fd ["script"] (spLaw (K w.params))) :
    PySem.W.WalkO q loose XP YP l.row.toRowW d [] (fun f vs => PySem.call f vs) :=
  L2.walk_of (n := 63) (k := 24) (x := "script") (CX := fun _ => CX0) (sp := fun w => spLaw (K w.params)) hn (by decide) hdf ⟨rfl, by decide, by decide⟩ hY F (fun _ _ a ns hl _ hS => ⟨a, ns, rfl, hS, hl, fun _ => rfl⟩) fun _ _ _ _ _ z => z
end J23

open PySem PySem.W PyProof.Rows in
set_option maxRecDepth 100000 in
set_option maxHeartbeats 0 in
theorem PySem.Challenge.cw_finitestructures_k23_classes_of_points_holds : PySem.Challenge.rw_finitestructures_k23_classes_of_points.Holds := by
  w_on; o_law; k_head; (case hw => w_witness2)
  k_fill
  refine J23.walk (l := PySem.Challenge.rw_finitestructures_k23_classes_of_points) rfl rfl (fun w h Y => PySem.W.kIn_of Y) ?F
  case F =>
    intro w mg fa h KX G hmg
    refine' J23.all_mk (w := w) KX G hmg ?a0 ?l0 ?c0 ?k0 ?a1 ?l1 ?c1 ?k1 ?a2 ?l2 ?c2 ?k2 ?a3 ?l3 ?c3 ?k3 ?a4 ?l4 ?c4 ?k4 ?a5 ?l5 ?c5 ?k5 ?a6 ?l6 ?c6 ?k6 ?a7 ?l7 ?c7 ?k7 ?a8 ?l8 ?c8 ?k8 ?a9 ?l9 ?c9 ?k9 ?a10 ?l10 ?c10 ?k10 ?a11 ?l11 ?c11 ?k11 ?a12 ?l12 ?c12 ?k12 ?a13 ?l13 ?c13 ?k13 ?a14 ?l14 ?c14 ?k14 ?a15 ?l15 ?c15 ?k15 ?a16 ?l16 ?c16 ?k16 ?a17 ?l17 ?c17 ?k17 ?aCGame ?aGame0 ?iGame0 ?lGame0 ?cGame0 ?kGame0 ?aGame1 ?iGame1 ?lGame1 ?cGame1 ?kGame1 ?aGame2 ?iGame2 ?lGame2 ?cGame2 ?kGame2 ?aGame3 ?iGame3 ?lGame3 ?cGame3 ?kGame3 ?aGame4 ?iGame4 ?lGame4 ?cGame4 ?kGame4 ?aGame5 ?iGame5 ?lGame5 ?cGame5 ?kGame5 ?aGame6 ?iGame6 ?lGame6 ?cGame6 ?kGame6 ?aGame7 ?iGame7 ?lGame7 ?cGame7 ?kGame7 ?pgGame ?hdGame ?poGame ?saGame ?mkGame ?kcGame ?nGame_0 ?nGame_1 ?nGame_2 ?nGame_3 ?nGame_4 ?nGame_5 ?z_len ?z_max ?z_int ?z_tuple ?z_list ?z_set ?z_sorted ?z_range ?z_isinstance ?z_dict ?z_str ?z_bool ?z_sum ?z_enumerate ?z_min ?z_all ?z_any ?z_type ?z_zip
    (case a0 => k_is)
    (case l0 => k_is)
    (case c0 => k_is)
    (case k0 => k_is)
    (case a1 => k_is)
    (case l1 => k_is)
    (case c1 => k_is)
    (case k1 => k_is)
    (case a2 => k_is)
    (case l2 => k_is)
    (case c2 => k_is)
    (case k2 => k_is)
    (case a3 => k_is)
    (case l3 => k_is)
    (case c3 => k_is)
    (case k3 => k_is)
    (case a4 => k_is)
    (case l4 => k_is)
    (case c4 => k_is)
    (case k4 => k_is)
    (case a5 => k_is)
    (case l5 => k_is)
    (case c5 => k_is)
    (case k5 => k_is)
    (case a6 => k_is)
    (case l6 => k_is)
    (case c6 => k_is)
    (case k6 => k_is)
    (case a7 => k_is)
    (case l7 => k_is)
    (case c7 => k_is)
    (case k7 => k_is)
    (case a8 => k_is)
    (case l8 => k_is)
    (case c8 => k_is)
    (case k8 => k_is)
    (case a9 => k_is)
    (case l9 => k_is)
    (case c9 => k_is)
    (case k9 => k_is)
    (case a10 => k_is)
    (case l10 => k_is)
    (case c10 => k_is)
    (case k10 => k_is)
    (case a11 => k_is)
    (case l11 => k_is)
    (case c11 => k_is)
    (case k11 => k_is)
    (case a12 => k_is)
    (case l12 => k_is)
    (case c12 => k_is)
    (case k12 => k_is)
    (case a13 => k_is)
    (case l13 => k_is)
    (case c13 => k_is)
    (case k13 => k_is)
    (case a14 => k_is)
    (case l14 => k_is)
    (case c14 => k_is)
    (case k14 => k_is)
    (case a15 => k_is)
    (case l15 => k_is)
    (case c15 => k_is)
    (case k15 => k_is)
    (case a16 => k_is)
    (case l16 => k_is)
    (case c16 => k_is)
    (case k16 => k_is)
    (case a17 => k_is)
    (case l17 => k_is)
    (case c17 => k_is)
    (case k17 => k_is)
    (case aCGame => k_is)
    (case aGame0 => k_is)
    (case iGame0 => k_is)
    (case lGame0 => k_is)
    (case cGame0 => k_is)
    (case kGame0 => k_is)
    (case aGame1 => k_is)
    (case iGame1 => k_is)
    (case lGame1 => k_is)
    (case cGame1 => k_is)
    (case kGame1 => k_is)
    (case aGame2 => k_is)
    (case iGame2 => k_is)
    (case lGame2 => k_is)
    (case cGame2 => k_is)
    (case kGame2 => k_is)
    (case aGame3 => k_is)
    (case iGame3 => k_is)
    (case lGame3 => k_is)
    (case cGame3 => k_is)
    (case kGame3 => k_is)
    (case aGame4 => k_is)
    (case iGame4 => k_is)
    (case lGame4 => k_is)
    (case cGame4 => k_is)
    (case kGame4 => k_is)
    (case aGame5 => k_is)
    (case iGame5 => k_is)
    (case lGame5 => k_is)
    (case cGame5 => k_is)
    (case kGame5 => k_is)
    (case aGame6 => k_is)
    (case iGame6 => k_is)
    (case lGame6 => k_is)
    (case cGame6 => k_is)
    (case kGame6 => k_is)
    (case aGame7 => k_is)
    (case iGame7 => k_is)
    (case lGame7 => k_is)
    (case cGame7 => k_is)
    (case kGame7 => k_is)
    (case pgGame => k_is)
    (case hdGame => k_is)
    (case poGame => k_is)
    (case saGame => k_is)
    (case mkGame => k_is)
    (case kcGame => k_is)
    (case nGame_0 => k_is)
    (case nGame_1 => k_is)
    (case nGame_2 => k_is)
    (case nGame_3 => k_is)
    (case nGame_4 => k_is)
    (case nGame_5 => k_is)
    (case z_len => k_is)
    (case z_max => k_is)
    (case z_int => k_is)
    (case z_tuple => k_is)
    (case z_list => k_is)
    (case z_set => k_is)
    (case z_sorted => k_is)
    (case z_range => k_is)
    (case z_isinstance => k_is)
    (case z_dict => k_is)
    (case z_str => k_is)
    (case z_bool => k_is)
    (case z_sum => k_is)
    (case z_enumerate => k_is)
    (case z_min => k_is)
    (case z_all => k_is)
    (case z_any => k_is)
    (case z_type => k_is)
    (case z_zip => k_is)
