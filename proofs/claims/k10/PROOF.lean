import PyProof.Rows.All
import Wide.All
import OpenK.AllK
import Wide.FinOn
import PyProof.Rows.SortShellAny
import HandS.Base
import HandS.Call
import HandS.List
import HandS.Comp
import HandS.Set
import HandS.SetFor
import HandS.SetBool
import HandS.ForMost
import HandS.Star
import HandS.Conv
import HandS.Codes
import HandS.IsInst
import HandS.TupAny
import HandS.Style
import HandS.Dict
import HandS.Deep
import HandS.Iter
import HandS.Walk
import KE.GoesEnum
import KE.GoesMore
import HandS.Strs
import HandS.Words
import HandS.WideBits
import HandS.Text
import HandS.DictComp
import PySem.Challenge.RW_finitestructures_k10_truth
set_option Elab.async false
set_option linter.all false
set_option maxRecDepth 100000
set_option maxHeartbeats 4000000
/-! Sets of texts: what one is, put in, made of a sequence, sorted. -/
namespace Tx
open PySem PySem.Spec PyProof.Rows L2

/-- the object of a fresh set -/
abbrev s0 (w : World) : Obj := { cls := .type "set", dict := none, data := .set #[] 0 (.fresh 0 0 (!w.params.followText "set-order")) }
def txt (e : Int × Value) : Str := match e.2 with | .str x _ => x | _ => Str.empty
def GoodT (w : World) (e : Int × Value) : Prop := ∃ x u, e.2 = Value.str x u ∧ e.1 = hashStr w x
/-- at a stands a set whose members are those of l -/
structure TS0 (w : World) (l : List Str) (o : Obj) (es : Array (Int × Value)) (ep : Nat) (t : SetTable) : Prop where
  exact_ : o.ExactSet
  data : o.data = .set es ep t
  good : ∀ e ∈ es.toList, GoodT w e
  once : (es.toList.map txt).Nodup
  mem : ∀ x, x ∈ l ↔ x ∈ es.toList.map txt
  few : es.size ≤ l.length
  size : es.size < scanBound
  fits : t.fits es.size = true
  ris : Ris t.place.toList
  led : w.params.followText "set-order" = true ∨ t.led = true
def TSet (w : World) (h : Heap) (a : Addr) (l : List Str) : Prop := ∃ o es ep t, h.get? a = some o ∧ TS0 w l o es ep t
theorem TSet.at {w : World} {h h' : Heap} {a : Addr} {l : List Str} (R : TSet w h a l) (k : ∀ o, h.get? a = some o → h'.get? a = some o) : TSet w h' a l :=
  let ⟨o, es, ep, t, ho, r⟩ := R; ⟨o, es, ep, t, k o ho, r⟩
theorem TSet.same {w : World} {h : Heap} {a : Addr} {l l' : List Str} (R : TSet w h a l) (m : ∀ x, x ∈ l' ↔ x ∈ l) (n : l.length ≤ l'.length) : TSet w h a l' :=
  let ⟨o, es, ep, t, ho, r⟩ := R
  ⟨o, es, ep, t, ho, { r with mem := fun x => (m x).trans (r.mem x), few := Nat.le_trans r.few n }⟩

section
variable {P : Program} {w : World}
theorem kind_is (x : Str) (u : Tok) : (PySem.strKind P w).is x (.str x u) = true := by
  show Value.isStrOf x (.str x u) = true
  simp [Value.isStrOf]
theorem elems {l : List (Int × Value)} (g : ∀ e ∈ l, GoodT w e) : ElemsOf (PySem.strKind P w) l := fun e he => by
  obtain ⟨x, u, e1, e2⟩ := g e he
  refine ⟨⟨x, ?_, e2⟩, ?_⟩
  · rw [e1]; exact kind_is x u
  · rw [e1]; rfl
theorem is_txt {e : Int × Value} (g : GoodT w e) (x : Str) : (PySem.strKind P w).is x e.2 = true ↔ txt e = x := by
  obtain ⟨y, u, e1, _⟩ := g
  unfold txt
  rw [e1]
  constructor
  · intro q
    exact (PySem.strKind P w).inj (.str y u) y x (kind_is y u) q
  · intro q
    have q' : y = x := q
    rw [← q']; exact kind_is y u
theorem mem_txt {l : List (Int × Value)} (g : ∀ e ∈ l, GoodT w e) (x : Str) : x ∈ l.map txt ↔ ∃ e ∈ l, (PySem.strKind P w).is x e.2 = true := by
  rw [List.mem_map]
  exact ⟨fun ⟨e, he, q⟩ => ⟨e, he, (is_txt (g e he) x).mpr q⟩, fun ⟨e, he, q⟩ => ⟨e, he, (is_txt (g e he) x).mp q⟩⟩
end

section
variable {P : Program} {w : World} {A : Around} {E : Value → Shared → Prop} {s : Shared} {a : Addr}
/-- the set is stored, and laid anew where it has grown full -/
theorem add_end {gv : Bool → Sem Unit} (hg : ∀ (b : Bool) (s1 : Shared) (Z : Unit → Shared → Prop), Z () s1 → wpAny (model P w) A (gv b) Z E s1) {l : List Str}
    {o : Obj} {es : Array (Int × Value)} {ep : Nat} {t : SetTable} (ho : s.heap.get? a = some o) (hd : o.data = .set es ep t) {es1 : Array (Int × Value)} {t1 : SetTable} {dummy : Bool}
    (R1 : ∀ ep1, TS0 w l { o with data := .set es1 ep1 t1 } es1 ep1 t1) {Z : Option Bool → Shared → Prop}
    (hZ : ∀ h', Heap.SameBut a s.heap h' → TSet w h' a l → Z (some true) { s with heap := h' }) :
    wpAny (model P w) A (do
        storeSet a es1 t1
        if (!dummy && t1.tooFull) = true then do
            gv (relayAll t1 es1 (SetTable.grown es1.size)).2.2
            storeSet a (relayAll t1 es1 (SetTable.grown es1.size)).1 (relayAll t1 es1 (SetTable.grown es1.size)).2.1
            pure (some true)
          else pure (some true)) Z E s := by
  have r1 := R1 (ep + 1)
  refine wpAny_bind (wpAny_storeSet_of ho hd ?_ (fits_of_scanBound r1.size))
  have ho1 := store_at (es' := es1) (t' := t1) ho hd
  have sb := Heap.SameBut.update s.heap a (Obj.putSet es1 t1)
  by_cases full : (!dummy && t1.tooFull) = true
  · rw [if_pos full]
    have e1 := relayAll_perm t1 es1 (SetTable.grown es1.size)
    have e2 := relayAll_fits t1 es1 (SetTable.grown es1.size)
    have e3 := relayAll_ris t1 es1 (SetTable.grown es1.size)
    have e4 := relayAll_led t1 es1 (SetTable.grown es1.size)
    generalize relayAll t1 es1 (SetTable.grown es1.size) = N at e1 e2 e3 e4 ⊢
    obtain ⟨es2, t2, gave⟩ := N
    dsimp only at e1 e2 e3 e4 ⊢
    have n2 : es2.size = es1.size := by
      have q := e1.length_eq
      rwa [Array.length_toList, Array.length_toList] at q
    refine wpAny_bind (hg _ _ _ (wpAny_bind (wpAny_storeSet_of ho1 rfl ?_ (fits_of_scanBound (by rw [n2]; exact r1.size)))))
    have ho2 := store_at (es' := es2) (t' := t2) ho1 rfl
    refine wpAny_pure (hZ _ (sb.trans (Heap.SameBut.update _ a _)) ⟨_, es2, ep + 1 + 1, t2, ho2, ?_⟩)
    exact { exact_ := r1.exact_, data := rfl, good := fun e he => r1.good e (e1.mem_iff.mp he), once := (e1.map txt).nodup_iff.mpr r1.once, mem := fun x => (r1.mem x).trans (e1.map txt).mem_iff.symm,
            few := by rw [n2]; exact r1.few, size := by rw [n2]; exact r1.size, fits := e2, ris := e3, led := r1.led.imp id fun z => by rw [e4]; exact z }
  · rw [if_neg full]
    exact wpAny_pure (hZ _ sb ⟨_, es1, ep + 1, t1, ho1, r1⟩)
/-- the hashed text is put in -/
theorem add_hashed {x : Str} {u : Tok} {l : List Str} {Z : Bool → Shared → Prop} (R : TSet w s.heap a l) (room : l.length + 1 < scanBound)
    (hZ : ∀ b h', Heap.SameBut a s.heap h' → TSet w h' a (l ++ [x]) → Z b { s with heap := h' }) : wpAny (model P w) A (setAddHashed a (.str x u) (hashStr w x)) Z E s := by
  obtain ⟨o, es, ep, t, ho, r⟩ := R
  have hkey : (PySem.strKind P w).is x (.str x u) = true := kind_is x u
  have hsc : (Value.str x u).scannable = true := rfl
  have hel : ElemsOf (PySem.strKind P w) es.toList := elems r.good
  unfold setAddHashed setAddHashedIn
  refine wpAny_holding (wpAny_bind (wpAny_setState_of ho r.data r.fits ?_))
  dsimp only
  rw [byScan_of hsc r.size hel]
  simp only [↓reduceIte]
  unfold setAddByScan
  refine wpAny_bind (wpAny_bind (wpAny_rule (wpAny_bind (wpAny_setScan_of hkey ho r.data r.fits hel ?_))))
  cases found : List.findIdx? (fun e => (PySem.strKind P w).is x e.2) es.toList with
  | some j =>
    dsimp only
    obtain ⟨hj, pj, _⟩ := List.findIdx?_eq_some_iff_getElem.mp found
    have hx : x ∈ l := (r.mem x).mpr ((mem_txt (P := P) r.good x).mpr ⟨es.toList[j], List.getElem_mem hj, pj⟩)
    refine wpAny_pure (wpAny_pure (hZ false s.heap (Heap.SameBut.refl a s.heap) ?_))
    refine TSet.same (l := l) ⟨o, es, ep, t, ho, r⟩ (fun y => ?_) (by rw [List.length_append]; exact Nat.le_add_right _ _)
    rw [List.mem_append, List.mem_singleton]
    exact ⟨fun z => z.elim id fun e => e ▸ hx, .inl⟩
  | none =>
    dsimp only
    have hx : x ∉ es.toList.map txt := fun z => by
      obtain ⟨e, he, q⟩ := (mem_txt (P := P) r.good x).mp z
      have no := List.findIdx?_eq_none_iff.mp found e he
      rw [q] at no
      cases no
    have e1 := layNew_perm t es (hashStr w x) (.str x u)
    have e2 := layNew_fits t es (hashStr w x) (.str x u)
    have e3 := layNew_ris t es (hashStr w x) (.str x u) r.ris
    have e4 := layNew_led t es (hashStr w x) (.str x u)
    show wpAny _ _ (_ >>= _) _ _ _
    generalize hN : layNew t es (hashStr w x) (.str x u) = N at e1 e2 e3 e4 ⊢
    have hN' : layNew t es ((PySem.strKind P w).hash x) (.str x u) = N := hN
    try rw [hN']
    obtain ⟨es1, t1, dummy, gave⟩ := N
    dsimp only at e1 e2 e3 e4 ⊢
    rw [Array.toList_push] at e1
    have pc := e1.trans (List.perm_append_singleton _ _)
    have pk := pc.map txt
    have n1 : es1.size = es.size + 1 := by
      have q := pc.length_eq
      rwa [Array.length_toList, List.length_cons, Array.length_toList] at q
    have hn : es1.size < scanBound := by have := r.few; omega
    have mk : ∀ (t2 : SetTable), t2.fits es1.size = true → Ris t2.place.toList → t2.led = t1.led → ∀ ep1, TS0 w (l ++ [x]) { o with data := .set es1 ep1 t2 } es1 ep1 t2 := fun t2 f2 i2 d2 ep1 =>
      { exact_ := r.exact_, data := rfl
        good := fun e he => (List.mem_cons.mp (pc.mem_iff.mp he)).elim (fun z => by rw [z]; exact ⟨x, u, rfl, rfl⟩) (r.good e)
        once := pk.nodup_iff.mpr (List.nodup_cons.mpr ⟨hx, r.once⟩)
        mem := fun y => by
          rw [pk.mem_iff, List.map_cons, List.mem_cons, List.mem_append, List.mem_singleton, r.mem y]
          exact or_comm
        few := by rw [n1, List.length_append]; exact Nat.succ_le_succ r.few
        size := hn, fits := f2, ris := i2
        led := r.led.imp id fun z => by rw [d2, e4]; exact z }
    have gw : ∀ (b : Bool) (s1 : Shared) (Z' : Unit → Shared → Prop), Z' () s1 → wpAny (model P w) A (match b with | true => rule "set.scan.the-table-gave-way" | false => pure ()) Z' E s1 :=
      fun b s1 Z' q => by cases b <;> first | exact wpAny_pure q | exact wpAny_rule q
    refine wpAny_bind ((gw _ _ _ ?_))
    split
    · refine wpAny_bind ?_
      rw [hashByValue_scannable 8 hsc]
      refine wpAny_pure ?_
      refine add_end (l := l ++ [x]) ?_ ho r.data ?_ ?_
      · intro b s1 Z' q
        cases b <;> first | exact wpAny_pure q | exact wpAny_rule q
      · intro ep1
        first
          | (split <;> first | exact mk _ e2 e3 rfl ep1 | exact mk _ (SetTable.fits_plain_off e2) e3 rfl ep1)
          | exact mk _ (SetTable.fits_plain_off e2) e3 rfl ep1
      · intro h' sb q
        dsimp only
        exact wpAny_pure (hZ true h' sb q)
    · refine wpAny_bind (wpAny_pure ?_)
      simp only [↓reduceIte]
      refine add_end (l := l ++ [x]) ?_ ho r.data (mk _ e2 e3 rfl) ?_
      · intro b s1 Z' q
        cases b <;> first | exact wpAny_pure q | exact wpAny_rule q
      · intro h' sb q
        dsimp only
        exact wpAny_pure (hZ true h' sb q)

/-! ### made, put in, walked -/
theorem fresh_at {h : Heap} (ho : h.get? a = some (s0 w)) : TSet w h a [] := by
  refine ⟨_, #[], 0, .fresh 0 0 (!w.params.followText "set-order"), ho, ?_⟩
  refine { exact_ := ⟨rfl, rfl, rfl⟩, data := rfl, good := fun e he => ?_, once := ?_, mem := fun x => ?_, few := ?_, size := ?_, fits := ?_, ris := ?_, led := ?_ }
  · simp at he
  · simp
  · simp
  · simp
  · show 0 < scanBound
    decide
  · rfl
  · exact List.Pairwise.nil
  · show _ ∨ (!w.params.followText "set-order") = true
    cases w.params.followText "set-order" with
    | false => exact .inr rfl
    | true => exact .inl rfl
theorem put_in {x : Str} {u : Tok} {l : List Str} {Z : Bool → Shared → Prop} (R : TSet w s.heap a l) (room : l.length + 1 < scanBound)
    (hZ : ∀ b h', Heap.SameBut a s.heap h' → TSet w h' a (l ++ [x]) → Z b { s with heap := h', toks := s.toks + 1 }) : wpAny (model P w) A (setAdd a (.str x u)) Z E s := by
  unfold setAdd
  exact wpAny_holding (wpAny_bind ((PySem.strKind P w).pyHash (kind_is x u) (add_hashed (s := { s with toks := s.toks + 1 }) R room hZ)))
/-- found.add(x) -/
theorem call_add {x : Str} {u : Tok} {l : List Str} {Q : Value → Shared → Prop} (R : TSet w s.heap a l) (room : l.length + 1 < scanBound)
    (hQ : ∀ h', Heap.SameBut a s.heap h' → TSet w h' a (l ++ [x]) → Q .none { s with heap := h', toks := s.toks + 1 }) : wpAny (model P w) A (call (.builtin "set.add") [.ref a, .str x u]) Q E s := by
  have hT : s.TypeIs (.ref a) "set" := let ⟨o, _, _, _, ho, r⟩ := R; ⟨o, ho, r.exact_.1⟩
  refine wpAny_call_entry PySem.F.slot_set_add hT PySem.F.entry_set_add ?_ (PySem.F.args_set_add_2 _ _)
  unfold Builtin.«set.add» Builtin.Frozenset.oneOther
  simp only [List.isEmpty_nil, bind_assoc]
  unfold Builtin.Frozenset.addrOf
  refine wpAny_bind (wpAny_pure ?_)
  try dsimp only
  refine wpAny_bind (wpAny_pure ?_)
  try dsimp only
  refine wpAny_bind (put_in R room fun b h' sb q => ?_)
  show wpAny _ _ (ret Value.none) _ _ _
  exact wpAny_pure ⟨_, rfl, hQ h' sb q⟩
/-- the loop of set.update over what yields the texts xs -/
theorem update_loop {I : Addr} {fp wr : List Addr} {G : Array GenState → Array GenState → Prop} {n : Nat} {Pv : Nat → Value → Prop} {St : Nat → Shared → Prop} {R : Result → Shared → Prop}
    (W : WalksS P w A.in1 I fp wr G n Pv St) (S : Addr) (hS : S ∉ fp) (xs : List Str) (hn : n = xs.length) (hb : xs.length + 1 < scanBound) (hv : ∀ i v, Pv i v → ∃ x u, xs[i]? = some x ∧ v = .str x u) :
    ∀ (k i : Nat) (s : Shared), n = i + k → St i s → TSet w s.heap S (xs.take i) →
      (∀ s', Moved (S :: wr) G s s' → TSet w s'.heap S xs → R (.ok (.ret .none)) s') →
      codeAny (model P w) A (.builtin "set.update.loop" ⟨[.ref S, .ref I], []⟩) R s := by
  have nS : S ∉ wr := fun h => hS (W.sub _ h)
  have wide : ∀ b ∈ wr, b ∈ S :: wr := fun b hb => List.mem_cons_of_mem _ hb
  intro k
  induction k with
  | zero =>
    intro i s hi st hT hR
    have e : i = n := by omega
    subst e
    refine codeAny_builtin PyProof.Rows.F.entry_set_update_loop ?_
    rw [Around.under_plainId PyProof.Rows.F.plain_set_update_loop _]
    show wpAny _ A.in1 (pyNext (.ref I) >>= _) _ _ s
    refine wpAny_bind (W.done s _ _ st fun s' hm => ?_)
    show wpAny _ A.in1 (ret Value.none) _ _ s'
    rw [hn, List.take_length] at hT
    exact wpAny_pure (hR s' (hm.mono wide) (hT.at fun o e => hm.heap S o nS e))
  | succ k ih =>
    intro i s hi st hT hR
    have lt : i < n := by omega
    refine codeAny_builtin PyProof.Rows.F.entry_set_update_loop ?_
    rw [Around.under_plainId PyProof.Rows.F.plain_set_update_loop _]
    show wpAny _ A.in1 (pyNext (.ref I) >>= _) _ _ s
    refine wpAny_bind (W.item i s _ _ lt st fun v s' hP st' hm => ?_)
    obtain ⟨x, u, hx, rfl⟩ := hv i v hP
    have hT' : TSet w s'.heap S (xs.take i) := hT.at fun o e => hm.heap S o nS e
    show wpAny _ A.in1 (holding [Value.str x u] (setAdd S (.str x u)) >>= _) _ _ s'
    refine wpAny_bind (wpAny_holding (put_in hT' (by rw [List.length_take]; omega) fun b h' sb q => ?_))
    have q' : TSet w h' S (xs.take (i + 1)) := by
      rw [List.take_succ, hx]
      exact q
    refine wpAny_pure ⟨plainId_quiet PyProof.Rows.F.plain_set_update_loop _, ih (i + 1) _ (by omega) (W.frame _ s' _ _ st' (Nat.le_succ _) fun b hb o e => ?_) q' fun s2 hm2 hT2 => ?_⟩
    · rw [sb.2 b (fun z => hS (z ▸ hb))]
      exact e
    · refine hR s2 (Moved.trans W.gtrans ((hm.mono wide).then_heap (Nat.le_succ _) fun b o hb e => ?_) hm2) hT2
      rw [sb.2 b (fun z => hb (z ▸ List.mem_cons_self))]
      exact e
end
end Tx

set_option Elab.async false
set_option linter.all false
set_option maxRecDepth 100000
set_option maxHeartbeats 4000000
namespace Tx
open PySem PySem.Spec PyProof.Rows L2
section
variable {P : Program} {w : World} {A : Around} {E : Value → Shared → Prop} {s : Shared} {a : Addr}
/-- what a new set of the texts xs leaves -/
def Made (w : World) (s : Shared) (xs : List Str) (s' : Shared) : Prop :=
  ∃ h' tk, s' = { s with heap := h', toks := tk } ∧ TSet w h' s.heap.objs.size xs ∧ ∀ b o, s.heap.get? b = some o → h'.get? b = some o
/-- set(xs), by what its __init__ does -/
theorem call_set {l : Addr} {xs : List Str} {Q : Value → Shared → Prop} (hl : ∃ o, s.heap.get? l = some o)
    (init : ∀ (Z : PySem.Fin → Shared → Prop), (∀ s', Made w s xs s' → Z (.done (.ret .none)) s') →
      wpAny (model P w) A.in1.in1 (Builtin.«set.__init__» ⟨[.ref s.heap.objs.size, .ref l], []⟩) Z E { s with heap := s.heap.push (s0 w) })
    (hQ : ∀ s', Made w s xs s' → Q (.ref s.heap.objs.size) s') : wpAny (model P w) A (call (.type "set") [.ref l]) Q E s := by
  obtain ⟨mroC, mroT, mroE⟩ := PySem.F.called_set.mro
  have made := PySem.F.called_set.made
  have below := PySem.F.called_set.sub
  refine wpAny_call (codeAny_of_tree ?_)
  show wpAny _ _ (callAny (.type "set") _) _ _ _
  refine wpAny_pure ⟨Code.quiet_builtin _ (by decide +kernel), codeAny_builtin PySem.F.entry_type_call ?_⟩
  rw [Around.under_plain (weight_type_call_type "set" [.ref l] []) rfl]
  have f1 := PySem.F.called_set.notType
  have f2 := PySem.F.called_set.canCreate
  have f3 := PySem.F.typeCall_set_1 (.ref l)
  repeat (any_goals (first | assumption | wp_step))

  refine codeAny_mono (code_set_led1 (.ref l) (E := E) (Q₁ := fun r s1 => r = .ref s.heap.objs.size ∧ s1 = { s with heap := s.heap.push (s0 w) }) ⟨rfl, rfl⟩) fun r s1 hr => ?_
  cases r with
  | error e => exact hr
  | ok f =>
    cases f with
    | ret v =>
      obtain ⟨rfl, rfl⟩ := hr
      have hT : Shared.TypeIs { s with heap := s.heap.push (s0 w) } (.ref s.heap.objs.size) "set" := ⟨_, Heap.get?_push_size _ rfl, rfl⟩
      have g1 := PySem.F.called_set.init.lookup
      have g2 := PySem.F.called_set.init.bind (.ref s.heap.objs.size)
      repeat (any_goals (first | assumption | wp_step))

      refine codeAny_mono (codeAny_call_builtin (R := wants (fun r s2 => r = .none ∧ Made w s xs s2) E) PySem.F.called_set.init.plain PySem.F.entry_set_init (check_set_init_1 hT ?_)) fun r s2 hr => ?_
      · exact init _ fun s' m => ⟨rfl, m⟩
      · cases r with
        | error e => exact hr
        | ok f2 =>
          cases f2 with
          | ret v =>
            obtain ⟨rfl, m⟩ := hr
            repeat (any_goals (first | assumption | wp_step))
            exact hQ _ m
          | _ => exact hr.elim
    | _ => exact hr.elim
end
end Tx

set_option Elab.async false
set_option linter.all false
set_option maxRecDepth 100000
set_option maxHeartbeats 4000000
namespace Tx
open PySem PySem.Spec PyProof.Rows L2
section
variable {P : Program} {w : World} {A : Around} {E : Value → Shared → Prop} {s : Shared} {a : Addr}
theorem strs_at : ∀ {us : List Value} {xs : List Str}, StrsAre us xs → ∀ (i : Nat) (v : Value), us[i]? = some v → ∃ x u, xs[i]? = some x ∧ v = .str x u
  | _, _, .nil, i, v, h => by simp at h
  | _, _, .cons x u r, 0, v, h => ⟨x, u, rfl, by simpa using h.symm⟩
  | _, _, .cons x u r, i + 1, v, h => strs_at r i v (by simpa using h)
theorem strs_len : ∀ {us : List Value} {xs : List Str}, StrsAre us xs → us.length = xs.length
  | _, _, .nil => rfl
  | _, _, .cons x u r => congrArg Nat.succ (strs_len r)
/-- behind the loop -/
theorem ends {xs : List Str} {Z : PySem.Fin → Shared → Prop} {I : Addr} (hI : s.heap.objs.size + 1 ≤ I) {h1 : Heap} (k1 : ∀ b o, s.heap.get? b = some o → h1.get? b = some o) {s' : Shared} (hm : Moved [s.heap.objs.size, I] (fun a b => b = a) { s with heap := h1 } s') (hT : TSet w s'.heap s.heap.objs.size xs)
    (hZ : ∀ s', Made w s xs s' → Z (.done (.ret .none)) s') : Z (.done (.ret .none)) s' := by
  refine hZ s' ⟨s'.heap, s'.toks, ?_, hT, fun b o e => hm.heap b o (fun z => ?_) (k1 b o e)⟩
  · obtain ⟨h', g, d, tk, os⟩ := s'
    have e1 : g = s.gens := hm.gens
    have e2 : d = s.drawn := hm.drawn
    have e3 : os = s.os := hm.os
    subst e1 e2 e3
    rfl
  · have lt := Heap.lt_size e
    rcases List.mem_cons.mp z with z | z
    · exact absurd lt (z ▸ Nat.lt_irrefl _)
    · rw [List.mem_singleton.mp z] at lt
      exact absurd (Nat.lt_of_lt_of_le lt (Nat.le_of_succ_le hI)) (Nat.lt_irrefl _)
theorem init_list {l : Addr} {its : Array Value} {xs : List Str} (hh : A.handled = none) (hl : s.heap.IsList l its) (hi : StrsAre its.toList xs) (hb : xs.length + 1 < scanBound) (Z : PySem.Fin → Shared → Prop) (hZ : ∀ s', Made w s xs s' → Z (.done (.ret .none)) s') :
    wpAny (model P w) A (Builtin.«set.__init__» ⟨[.ref s.heap.objs.size, .ref l], []⟩) Z E { s with heap := s.heap.push (s0 w) } := by
  have hlen : its.size = xs.length := by rw [← strs_len hi, Array.length_toList]
  obtain ⟨ol, hol, hcl, nl, hdl⟩ := hl
  obtain ⟨ocls, odict, odata, oslots⟩ := ol
  simp only at hcl hdl
  subst hcl; subst hdl
  have hT : Shared.TypeIs { s with heap := s.heap.push (s0 w) } (.ref s.heap.objs.size) "set" := ⟨_, Heap.get?_push_size _ rfl, rfl⟩
  have hS : (s.heap.push (s0 w)).get? s.heap.objs.size = some (s0 w) := Heap.get?_push_size _ rfl
  have hol' : (s.heap.push (s0 w)).get? l = some { cls := .type "list", dict := odict, data := .seq its nl, slots := oslots } := Heap.get?_push_of_some _ hol
  have f1 := PySem.F.sub_list_set
  have f2 := PySem.F.sub_list_frozenset
  have f3 : (Value.type "list" == Value.type "dict") = false := by decide
  have hl1 : (s.heap.push (s0 w)).IsList l its := ⟨_, hol', rfl, nl, rfl⟩
  have lt : l < s.heap.objs.size := Heap.lt_size hol
  have sz : (s.heap.push (s0 w)).objs.size = s.heap.objs.size + 1 := Heap.size_push ..
  unfold Builtin.«set.__init__» noKeywords Builtin.Frozenset.updateFrom
  generalize hPI : pyIter = PI
  wp_walk
  subst hPI
  refine wpAny_pyIter_list hl1 ?_
  refine wpAny_bind (wpAny_runValue ?_)
  have hne : l ≠ (s.heap.push (s0 w)).objs.size := by rw [sz]; exact Nat.ne_of_lt (Nat.lt_succ_of_lt lt)
  have hSf : s.heap.objs.size ∉ [(s.heap.push (s0 w)).objs.size, l] := by
    rw [sz]
    simp only [List.mem_cons, List.mem_singleton, List.not_mem_nil, or_false, not_or]
    exact ⟨Nat.ne_of_lt (Nat.lt_succ_self _), Nat.ne_of_gt lt⟩
  refine update_loop ((Walks.list (A := A.in1) (by simp [hh]) _ l hne its).toS) s.heap.objs.size hSf xs hlen hb (fun i v hv => strs_at hi i v (by rw [Array.getElem?_toList]; exact hv)) its.size 0 _ (by omega)
    ⟨⟨_, Heap.get?_push_size _ rfl, rfl, rfl⟩, hl1.push _⟩ (fresh_at (Heap.get?_push_of_some _ hS)) fun s' hm q => ?_
  refine wpAny_pure ?_
  show wpAny _ _ (ret Value.none) _ _ _
  exact wpAny_pure (ends (Nat.le_of_eq sz.symm) (fun b o e => Heap.get?_push_of_some _ (Heap.get?_push_of_some _ e)) hm q hZ)
theorem init_tuple {l : Addr} {its : Array Value} {xs : List Str} (hh : A.handled = none) (hl : s.heap.IsTuple l its) (hi : StrsAre its.toList xs) (hb : xs.length + 1 < scanBound) (Z : PySem.Fin → Shared → Prop) (hZ : ∀ s', Made w s xs s' → Z (.done (.ret .none)) s') :
    wpAny (model P w) A (Builtin.«set.__init__» ⟨[.ref s.heap.objs.size, .ref l], []⟩) Z E { s with heap := s.heap.push (s0 w) } := by
  have hlen : its.size = xs.length := by rw [← strs_len hi, Array.length_toList]
  obtain ⟨ol, hol, hcl, nl, hdl⟩ := hl
  obtain ⟨ocls, odict, odata, oslots⟩ := ol
  simp only at hcl hdl
  subst hcl; subst hdl
  have hT : Shared.TypeIs { s with heap := s.heap.push (s0 w) } (.ref s.heap.objs.size) "set" := ⟨_, Heap.get?_push_size _ rfl, rfl⟩
  have hS : (s.heap.push (s0 w)).get? s.heap.objs.size = some (s0 w) := Heap.get?_push_size _ rfl
  have hol' : (s.heap.push (s0 w)).get? l = some { cls := .type "tuple", dict := odict, data := .seq its nl, slots := oslots } := Heap.get?_push_of_some _ hol
  have f1 := F.sub_tuple_set
  have f2 := F.sub_tuple_frozenset
  have f3 : (Value.type "tuple" == Value.type "dict") = false := by decide
  have hl1 : (s.heap.push (s0 w)).IsTuple l its := ⟨_, hol', rfl, nl, rfl⟩
  have lt : l < s.heap.objs.size := Heap.lt_size hol
  have sz : (s.heap.push (s0 w)).objs.size = s.heap.objs.size + 1 := Heap.size_push ..
  unfold Builtin.«set.__init__» noKeywords Builtin.Frozenset.updateFrom
  generalize hPI : pyIter = PI
  wp_walk
  subst hPI
  refine wpAny_pyIter_tuple hl1 ?_
  refine wpAny_bind (wpAny_runValue ?_)
  have hne : l ≠ (s.heap.push (s0 w)).objs.size := by rw [sz]; exact Nat.ne_of_lt (Nat.lt_succ_of_lt lt)
  have hSf : s.heap.objs.size ∉ [(s.heap.push (s0 w)).objs.size, l] := by
    rw [sz]
    simp only [List.mem_cons, List.mem_singleton, List.not_mem_nil, or_false, not_or]
    exact ⟨Nat.ne_of_lt (Nat.lt_succ_self _), Nat.ne_of_gt lt⟩
  refine update_loop ((Walks.tuple (A := A.in1) (by simp [hh]) _ l hne its).toS) s.heap.objs.size hSf xs hlen hb (fun i v hv => strs_at hi i v (by rw [Array.getElem?_toList]; exact hv)) its.size 0 _ (by omega)
    ⟨⟨_, Heap.get?_push_size _ rfl, rfl, rfl⟩, hl1.push _⟩ (fresh_at (Heap.get?_push_of_some _ hS)) fun s' hm q => ?_
  refine wpAny_pure ?_
  show wpAny _ _ (ret Value.none) _ _ _
  exact wpAny_pure (ends (Nat.le_of_eq sz.symm) (fun b o e => Heap.get?_push_of_some _ (Heap.get?_push_of_some _ e)) hm q hZ)
end
end Tx

set_option Elab.async false
set_option linter.all false
set_option maxRecDepth 100000
set_option maxHeartbeats 4000000
namespace Tx
open PySem PySem.Spec PyProof.Rows L2
/-! ### the order of texts -/
def Lt (x y : Str) : Prop := x.cps.toList < y.cps.toList
def Le (x y : Str) : Prop := ¬ y.cps.toList < x.cps.toList
theorem le_trans {x y z : Str} (h : Le x y) (k : Le y z) : Le x z := fun q => by
  have h' : x.cps.toList ≤ y.cps.toList := List.not_lt.mp h
  rcases List.le_iff_lt_or_eq.mp h' with e | e
  · exact k (List.lt_trans q e)
  · exact k (e ▸ q)
theorem rising_all : ∀ (l : List Str) (p : Str), risingS p l = true → (∀ y ∈ l, Le p y) ∧ l.Pairwise Le
  | [], _, _ => ⟨fun y hy => (by cases hy), .nil⟩
  | x :: r, p, h => by
    have h' : (!ltCps x.cps.toList p.cps.toList && risingS x r) = true := h
    rw [Bool.and_eq_true] at h'
    obtain ⟨h1, h2⟩ := h'
    obtain ⟨h3, h4⟩ := rising_all r x h2
    have h5 : Le p x := fun q => by
      rw [ltCps_eq, decide_eq_true q] at h1
      cases h1
    exact ⟨fun y hy => (List.mem_cons.mp hy).elim (fun z => z ▸ h5) fun z => le_trans h5 (h3 y z), List.pairwise_cons.mpr ⟨h3, h4⟩⟩
theorem sorted_all : ∀ (l : List Str), sortedS l = true → l.Pairwise Le
  | [], _ => .nil
  | x :: r, h => List.pairwise_cons.mpr (rising_all r x h)
theorem str_ext {x y : Str} (h : x.cps.toList = y.cps.toList) : x = y := by
  cases x; cases y
  simp only at h
  exact congrArg Str.mk (Array.ext' h)
theorem up_of : ∀ {l : List Str}, l.Pairwise Le → l.Nodup → l.Pairwise Lt
  | [], _, _ => .nil
  | x :: r, h, d => by
    obtain ⟨h1, h2⟩ := List.pairwise_cons.mp h
    obtain ⟨d1, d2⟩ := List.nodup_cons.mp d
    refine List.pairwise_cons.mpr ⟨fun y hy => ?_, up_of h2 d2⟩
    have q : x.cps.toList ≤ y.cps.toList := List.not_lt.mp (h1 y hy)
    rcases List.le_iff_lt_or_eq.mp q with z | z
    · exact z
    · exact absurd (str_ext z ▸ hy) d1
/-- rising lists of the same members are one -/
theorem up_one : ∀ {l m : List Str}, l.Pairwise Lt → m.Pairwise Lt → (∀ x, x ∈ l ↔ x ∈ m) → l = m
  | [], [], _, _, _ => rfl
  | [], y :: m, _, _, h => by simpa using (h y).mpr List.mem_cons_self
  | x :: l, [], _, _, h => by simpa using (h x).mp List.mem_cons_self
  | x :: l, y :: m, a, b, h => by
    obtain ⟨a1, a2⟩ := List.pairwise_cons.mp a
    obtain ⟨b1, b2⟩ := List.pairwise_cons.mp b
    have irr : ∀ z : Str, ¬ Lt z z := fun z q => List.lt_irrefl _ q
    have asy : ∀ z u : Str, Lt z u → Lt u z → False := fun z u p q => irr z (List.lt_trans p q)
    have e : x = y := by
      rcases List.mem_cons.mp ((h x).mp List.mem_cons_self) with p | p
      · exact p
      · rcases List.mem_cons.mp ((h y).mpr List.mem_cons_self) with q | q
        · exact q.symm
        · exact (asy _ _ (a1 y q) (b1 x p)).elim
    subst e
    refine congrArg _ (up_one a2 b2 fun z => ⟨fun hz => ?_, fun hz => ?_⟩)
    · rcases List.mem_cons.mp ((h z).mp (List.mem_cons_of_mem _ hz)) with p | p
      · exact absurd (p ▸ a1 z hz) (irr _)
      · exact p
    · rcases List.mem_cons.mp ((h z).mpr (List.mem_cons_of_mem _ hz)) with p | p
      · exact absurd (p ▸ b1 z hz) (irr _)
      · exact p

section
variable {P : Program} {w : World} {A : Around} {E : Value → Shared → Prop} {s : Shared} {a : Addr}
theorem strs_map : ∀ (l : List (Int × Value)), (∀ e ∈ l, GoodT w e) → StrsAre (l.map (·.2)) (l.map txt)
  | [], _ => .nil
  | e :: l, h => by
    obtain ⟨x, u, e1, _⟩ := h e List.mem_cons_self
    have q : txt e = x := by unfold txt; rw [e1]
    show StrsAre (e.2 :: l.map (·.2)) (txt e :: l.map txt)
    rw [e1, q]
    exact .cons x u (strs_map l fun b hb => h b (List.mem_cons_of_mem _ hb))
theorem strs_perm {vs us : List Value} {xs : List Str} (p : vs.Perm us) (h : StrsAre us xs) : ∃ ys, StrsAre vs ys ∧ ys.Perm xs := by
  have m := p.map strOf
  refine ⟨vs.map strOf, ?_, ?_⟩
  · exact strsAre_map vs fun v hv => h.all v (p.mem_iff.mp hv)
  · rw [h.strs] at m
    exact m
/-- sorted(a set of texts) -/
theorem call_sorted {l : List Str} {Q : Value → Shared → Prop} (R : TSet w s.heap a l) (hh : A.handled = none)
    (hQ : ∀ s' p (out : Array Value) (c : Nat) (ys : List Str), (∀ b o, s.heap.get? b = some o → s'.heap.get? b = some o) → s'.gens = s.gens → s'.os = s.os → s.heap.objs.size ≤ p →
      s'.heap.get? p = some (seqObj "list" out c) → StrsAre out.toList ys → ys.Pairwise Lt → (∀ x, x ∈ ys ↔ x ∈ l) → ys.length < scanBound → ys.length ≤ l.length → Q (.ref p) s') :
    wpAny (model P w) A (call (.builtin "sorted") [.ref a]) Q E s := by
  obtain ⟨o, es, ep, t, ho, r⟩ := R
  refine Calls.call_function_entry kind_sorted plain_sorted entry_sorted (args_sorted1 _) ?_
  unfold Builtin.«sorted»
  refine wpAny_bind (m := checkCount "sorted" 1 1 _) (wpAny_pure ?_)
  refine wpAny_bind (collect_set (A := A.in1) hh ⟨o, ho, r.exact_.1, r.data⟩ r.fits r.size r.ris r.led fun s1 vs k1 hz g1 o1 pm => ?_)
  obtain ⟨xs, hx, px⟩ := strs_perm pm (strs_map es.toList r.good)
  have hvl : vs.length = es.size := by rw [pm.length_eq, List.length_map, Array.length_toList]
  have few : vs.length ≤ sizeLine := by rw [hvl]; exact fits_of_scanBound r.size
  refine wpAny_bind (wpAny_newList ?_ few)
  have hoL : (s1.heap.push (seqObj "list" vs.toArray 0)).get? s1.heap.objs.size = some (seqObj "list" vs.toArray 0) := Heap.get?_push_size _ rfl
  refine wpAny_bind (wpAny_holding (wpAny_call_entry slot_list_sort ⟨_, hoL, rfl⟩ entry_list_sort
    (list_sort_treeKAny strKind_oneLt hoL hx.keysOf (fun v1 v2 rest e => keyKind_strs (by rw [← e]; exact hx)) few fun st hp hs => ⟨_, rfl, ?_⟩) (args_list_sort _)))
  obtain ⟨ys, b1, b2, b3⟩ := sorted_out_str hx hp hs
  obtain ⟨c, hc⟩ := sortedHeap_at (vs := vs) (out := (arrOf st).map (·.2)) hoL
  have pk : ys.Perm (es.toList.map txt) := b2.trans px
  refine wpAny_pure ⟨_, rfl, hQ _ s1.heap.objs.size _ c ys (fun b u e => ?_) g1 o1 hz hc b1 (up_of (sorted_all ys b3) (pk.nodup_iff.mpr r.once)) (fun x => by rw [pk.mem_iff, ← r.mem x]) ?_ ?_⟩
  · have q := k1 b u e
    have lt := Heap.lt_size q
    show (sortedHeap (s1.heap.push (seqObj "list" vs.toArray 0)) s1.heap.objs.size vs _).get? b = some u
    rw [sortedHeap_old (Nat.ne_of_lt lt) (by rw [size_push']; exact Nat.lt_succ_of_lt lt)]
    exact Heap.get?_push_of_some _ q
  · rw [pk.length_eq, List.length_map, Array.length_toList]
    exact r.size
  · rw [pk.length_eq, List.length_map, Array.length_toList]
    exact r.few
end
end Tx

set_option Elab.async false
set_option linter.all false
set_option maxRecDepth 100000
set_option maxHeartbeats 4000000
namespace Tx
open PySem PySem.Spec PyProof.Rows L2
/-- the set of the texts l, as a tracked thing -/
def TSO (w : World) (a : Addr) (l : List Str) : HO := .ext fun h => TSet w h a l
theorem tso_ok {w : World} {P : Program} {H : Hp} {h : Heap} {a : Addr} {l : List Str} (R : TSet w h a l) : ObjOk P w H h a (TSO w a l) :=
  ⟨R, (let ⟨o, _, _, _, ho, _⟩ := R; ⟨o, ho⟩), fun _ _ p k => TSet.at p k⟩
section
variable {X : Cx}
theorem tso_get {pins : List (Addr × Obj)} {σ : L2.St} {H : Hp} {s : Shared} {a : Addr} {l : List Str} (I : Inv X pins σ H s) (ha : H a = some (TSO X.w a l)) : TSet X.w s.heap a l := (I.hok a _ ha).1
/-- set(a list or a tuple of texts) -/
def rSetTx (K : PySem.W.Frag) (w : World) : List V → Hp → VK → Prop := fun vs H Q => ∃ (p : Addr) (xs : List Str), vs = [.ref p] ∧ (SqL K H p (xs.map V.str) ∨ SqT K H p (xs.map V.str)) ∧ xs.length + 1 < scanBound ∧
  ∀ a, H a = none → Q (.ref a) (upd H a (TSO w a xs))
theorem cr_setTx (hc : X.calm = true) : CallR X (.type "set") (rSetTx X.K X.w) := by
  intro pins s σ H vs us Q I r h
  obtain ⟨p, xs, rfl, hp, hb, q⟩ := h
  rw [Vals.ref1 r]
  have fin : ∀ s', Made X.w s xs s' → EP X pins σ Q (.ref s.heap.objs.size) s' := fun s' ⟨h', tk, e, hT, k⟩ => by
    subst e
    exact ⟨.ref _, _, I.laid (t' := tk) k (Nat.le_refl _) (tso_ok hT), rfl, q _ (I.hok.fresh (Nat.le_refl _))⟩
  have hh := I.ok.hd hc
  rcases hp with hp | hp
  · obtain ⟨its, rv, pl, hz⟩ := I.list hp
    have st := rv.strs
    obtain ⟨o, ho, hq⟩ := pl.isList
    exact call_set ⟨o, ho⟩ (fun Z hZ => init_list (by simpa using hh) pl.isList (by simpa using st) hb Z hZ) fin
  · obtain ⟨its, rv, pl, hz⟩ := I.tuple hp
    have st := rv.strs
    obtain ⟨o, ho, hq⟩ := id pl
    exact call_set ⟨o, ho⟩ (fun Z hZ => init_tuple (by simpa using hh) pl (by simpa using st) hb Z hZ) fin
/-- sorted(a set of texts) -/
def rSortTx (w : World) : List V → Hp → VK → Prop := fun vs H Q => ∃ (a : Addr) (l : List Str), vs = [.ref a] ∧ H a = some (TSO w a l) ∧
  ∀ (ys : List Str) (p : Addr), ys.Pairwise Lt → (∀ x, x ∈ ys ↔ x ∈ l) → ys.length ≤ l.length → H p = none → Q (.ref p) (upd H p (.lst (ys.map V.str)))
theorem cr_sortTx (hc : X.calm = true) : CallR X (.builtin "sorted") (rSortTx X.w) := by
  intro pins s σ H vs us Q I r h
  obtain ⟨a, l, rfl, ha, q⟩ := h
  rw [Vals.ref1 r]
  refine call_sorted (tso_get I ha) (I.ok.hd hc) fun s' p out c ys k g o hp hg hi hs hm hn hn' => ?_
  have hz : (ys.map V.str).length ≤ sizeLine := by
    rw [List.length_map]
    exact fits_of_scanBound hn
  have no : H p = none := I.hok.fresh hp
  have J : Inv X pins σ (upd H p (.lst (ys.map V.str))) { s with heap := s'.heap, gens := s'.gens, drawn := s'.drawn, toks := s'.toks } :=
    I.call (ch := []) (Un.laid k hp no) (I.hok.laid k hp ⟨hz, out.toList, c, vals_of_strs hi, hg⟩) (by rw [g]; exact I.bare) (fun _ z => nomatch z)
  have e : s' = { s with heap := s'.heap, gens := s'.gens, drawn := s'.drawn, toks := s'.toks } := by
    cases s'
    cases s
    cases o
    rfl
  rw [e]
  exact ⟨.ref p, _, J, rfl, q ys p hs hm hn' no⟩
/-- xs.extend(a list or a tuple) -/
def rExt (K : PySem.W.Frag) : V → List V → Hp → VK → Prop := fun x vs H Q => ∃ l b xs zs, x = .ref l ∧ vs = [.ref b] ∧ H l = some (.lst xs) ∧ (SqL K H b zs ∨ SqT K H b zs) ∧ xs.length + zs.length ≤ sizeLine ∧ Q .non (upd H l (.lst (xs ++ zs)))
theorem mt_ext : MtM X "list.extend" (rExt X.K) := by
  intro pins s σ H x vs v us Q I rx rv h
  obtain ⟨l, b, xs, zs, rfl, rfl, hH, hB, hz, q⟩ := h
  cases rx
  obtain ⟨u, rfl, ru⟩ := rv.one
  cases ru
  obtain ⟨z, its, n, r, hl, e⟩ := I.lstM hH
  have main : ∀ (T : String) (its2 : List Value) (o : Obj) (n2 : Nat), (T = "list" ∨ T = "tuple") → Vals zs its2 → s.heap.get? b = some o → o.cls = .type T → o.data = .seq its2.toArray n2 →
      wpAny (model X.prog X.w) X.A (call (.builtin "list.extend") [.ref l, .ref b]) (EP X pins σ Q) X.xe s := fun T its2 o n2 hT r2 ho hcl hd => by
    have hl2 := r2.length
    have few : its.toArray.size + its2.toArray.size ≤ sizeLine := by rw [List.size_toArray, List.size_toArray]; omega
    have long : ¬ (!its.toArray.isEmpty && Builtin.List.listTooLong (its.toArray.size + its2.toArray.size)) = true := by
      rw [notLongL few, Bool.and_false]
      exact Bool.false_ne_true
    refine wpAny_call_entry PySem.F.slot_list_extend ⟨_, e, rfl⟩ PySem.F.entry_list_extend ?_ (PySem.F.args_list_extend_2 _ _)
    show wpAny _ _ (Builtin.List.listExtendWith (.ref l) (.ref b) .none) _ _ s
    unfold Builtin.List.listExtendWith
    refine wpAny_bind (wpAny_typeOf ⟨o, ho, hcl⟩ ?_)
    have h1 : (Builtin.List.listSameRef (.ref l) (.ref b) || Value.type T == Value.type "list" || Value.type T == Value.type "tuple") = true := by
      rcases hT with rfl | rfl <;> simp
    simp only [h1, if_true]
    unfold Builtin.List.listItems
    refine wpAny_bind (wpAny_bind (wpAny_seqItems ho hd (wpAny_pure ?_)))
    refine wpAny_bind (wpAny_bind (wpAny_seqItems e rfl (wpAny_pure ?_)))
    rw [if_neg long]
    show wpAny _ _ (updateSeq l (· ++ its2.toArray) >>= fun _ => ret Value.none) _ _ s
    refine wpAny_bind (wpAny_updateSeq e rfl ?_ (hz := by rw [List.size_toArray]; omega) (_hz' := by rw [Array.size_append]; omega))
    refine wpAny_pure ⟨_, rfl, .non, _, I.lset (t' := s.toks) (its' := its ++ its2) hH e (by simp) (r.append r2) (by rw [List.length_append]; exact hz), rfl, q⟩
  rcases hB with hB | hB
  · obtain ⟨its2, r2, pl, _⟩ := I.list hB
    obtain ⟨o, ho, hcl, n2, hd⟩ := pl.isList
    exact main "list" its2 o n2 (.inl rfl) r2 ho hcl hd
  · obtain ⟨its2, r2, ⟨o, ho, hcl, n2, hd⟩, _⟩ := I.tuple hB
    exact main "tuple" its2 o n2 (.inr rfl) r2 ho hcl hd
end
end Tx

set_option Elab.async false
set_option linter.all false
set_option maxRecDepth 100000
set_option maxHeartbeats 4000000
/-! {elt for a in .. for b in ..}, elt a text -/
namespace Tx
open PySem PySem.Spec PyProof.Rows L2
abbrev two (elt t0 i0 t1 i1 : Expr) (sc : Scope) (pos : Pos) : Expr := .SetComp elt [⟨t0, i0, [], 0⟩, ⟨t1, i1, [], 0⟩] sc pos
theorem turn_out (elt t0 i0 t1 i1 : Expr) (sc : Scope) (pos : Pos) (it acc : Value) (env : Env) :
    compTurn (two elt t0 i0 t1 i1 sc pos) 0 it acc env = (do
      standAt i0.pos
      match ← pyNext it with
      | none => pure (.done .next)
      | some v =>
        letOwnedTupleGo t0 it v
        assign t0 env v
        let x ← eval i1 env
        standAt i1.pos
        let x ← foldedSetIterable i1 env x
        let _ ← runOwn (.compStart (two elt t0 i0 t1 i1 sc pos) 1 (← holding [x] (pyIter x)) acc env) env
        again (.compLoop (two elt t0 i0 t1 i1 sc pos) 0 it acc env)) := by rfl
theorem turn_in (elt t0 i0 t1 i1 : Expr) (sc : Scope) (pos : Pos) (it acc : Value) (env : Env) :
    compTurn (two elt t0 i0 t1 i1 sc pos) 1 it acc env = (do
      standAt i1.pos
      match ← pyNext it with
      | none => pure (.done .next)
      | some v =>
        letOwnedTupleGo t1 it v
        assign t1 env v
        (do let v ← eval elt env; standAt elt.pos; let _ ← call (.builtin "set.add") [acc, v])
        again (.compLoop (two elt t0 i0 t1 i1 sc pos) 1 it acc env)) := by rfl
section
variable {prog : Program} {w : World} {A : Around} {R : Result → Shared → Prop} {s : Shared} {elt t0 i0 t1 i1 : Expr} {sc : Scope} {pos : Pos} {it acc : Value} {env : Env}
/-- the first clause's loop -/
theorem loop_out (hs : ∀ x, foldedSetIterable i1 env x = pure x) (I : Nat → Shared → Prop)
    (turn : ∀ n s, I n s → wpAny (model prog w) A (pyNext it) (fun r s1 => match r with
      | none => R (.ok .next) s1
      | some v => wpAny (model prog w) A (letOwnedTupleGo t0 it v) (fun _ s2 => wpAny (model prog w) A (assign t0 env v) (fun _ s3 =>
          wpAny (model prog w) A (eval i1 env) (fun x s4 => wpAny (model prog w) A (pyIter x) (fun j s5 =>
              codeAny (model prog w) A (.compStart (two elt t0 i0 t1 i1 sc pos) 1 j acc env) (fun r s' => match r with
                | .ok _ => ∃ m, m < n ∧ I m s'
                | .error _ => False) s5) (notedBy (model prog w) A env fun e s' => R (.error e) s') s4) (notedBy (model prog w) A env fun e s' => R (.error e) s') s3)
            (notedBy (model prog w) A env fun e s' => R (.error e) s') s2) (notedBy (model prog w) A env fun e s' => R (.error e) s') s1) (notedBy (model prog w) A env fun e s' => R (.error e) s') s)
    (n : Nat) (h : I n s) : codeAny (model prog w) A (.compLoop (two elt t0 i0 t1 i1 sc pos) 0 it acc env) R s := by
  refine codeAny_loop rfl I (fun n s hI => ?_) n h
  show wpAny _ A ((compTurn (two elt t0 i0 t1 i1 sc pos) 0 it acc env).onRaise (fun x => do noteFrame x env; theTreesLotGoes x)) _ _ s
  refine wpAny_noted ?_
  rw [turn_out]
  refine wpAny_bind (wpAny_standAt (wpAny_bind (wpAny_mono (turn n s hI) (fun r s1 h1 => ?_) fun _ _ z => z)))
  cases r with
  | none => exact wpAny_pure h1
  | some v =>
    refine wpAny_bind (wpAny_mono h1 (fun _ s2 h2 => ?_) fun _ _ z => z)
    refine wpAny_bind (wpAny_mono h2 (fun _ s3 h3 => ?_) fun _ _ z => z)
    refine wpAny_bind (wpAny_mono h3 (fun x s4 h4 => ?_) fun _ _ z => z)
    refine wpAny_bind (wpAny_standAt (wpAny_bind (wpAny_of_eq (hs x) (wpAny_bind (wpAny_holding (wpAny_mono h4 (fun j s5 h5 => ?_) fun _ _ z => z))))))
    refine wpAny_bind (wpAny_runOwn ?_)
    rw [Around.mark_none]
    refine codeAny_mono h5 fun r s' hr => ?_
    cases r with
    | error e => exact hr.elim
    | ok f =>
      first
        | exact wpAny_pure ⟨rfl, hr⟩
        | exact wpAny_bind (wpAny_pure (wpAny_pure ⟨rfl, hr⟩))
/-- the second clause's loop -/
theorem loop_in (I : Nat → Shared → Prop)
    (turn : ∀ n s, I n s → wpAny (model prog w) A (pyNext it) (fun r s1 => match r with
      | none => R (.ok .next) s1
      | some v => wpAny (model prog w) A (letOwnedTupleGo t1 it v) (fun _ s2 => wpAny (model prog w) A (assign t1 env v) (fun _ s3 =>
          wpAny (model prog w) A (eval elt env) (fun x s4 => wpAny (model prog w) A (call (.builtin "set.add") [acc, x]) (fun _ s5 => ∃ m, m < n ∧ I m s5) (notedBy (model prog w) A env fun e s' => R (.error e) s') s4)
            (notedBy (model prog w) A env fun e s' => R (.error e) s') s3) (notedBy (model prog w) A env fun e s' => R (.error e) s') s2) (notedBy (model prog w) A env fun e s' => R (.error e) s') s1)
        (notedBy (model prog w) A env fun e s' => R (.error e) s') s)
    (n : Nat) (h : I n s) : codeAny (model prog w) A (.compLoop (two elt t0 i0 t1 i1 sc pos) 1 it acc env) R s := by
  refine codeAny_loop rfl I (fun n s hI => ?_) n h
  show wpAny _ A ((compTurn (two elt t0 i0 t1 i1 sc pos) 1 it acc env).onRaise (fun x => do noteFrame x env; theTreesLotGoes x)) _ _ s
  refine wpAny_noted ?_
  rw [turn_in]
  refine wpAny_bind (wpAny_standAt (wpAny_bind (wpAny_mono (turn n s hI) (fun r s1 h1 => ?_) fun _ _ z => z)))
  cases r with
  | none => exact wpAny_pure h1
  | some v =>
    refine wpAny_bind (wpAny_mono h1 (fun _ s2 h2 => ?_) fun _ _ z => z)
    refine wpAny_bind (wpAny_mono h2 (fun _ s3 h3 => ?_) fun _ _ z => z)
    exact wpAny_bind (wpAny_bind (wpAny_mono h3 (fun x s4 h4 => wpAny_bind (wpAny_standAt (wpAny_bind (wpAny_mono h4 (fun _ s5 h5 => wpAny_pure (wpAny_pure ⟨rfl, h5⟩)) fun _ _ z => z)))) fun _ _ z => z))
theorem start_in (h0 : codeAny (model prog w) A (.compLoop (two elt t0 i0 t1 i1 sc pos) 1 it acc env) R s)
    (h : wpAny (model prog w) A (pyIter it) (fun j s' => codeAny (model prog w) A (.compLoop (two elt t0 i0 t1 i1 sc pos) 1 j acc env) R s') (notedBy (model prog w) A env fun x s' => R (.error x) s') s) :
    codeAny (model prog w) A (.compStart (two elt t0 i0 t1 i1 sc pos) 1 it acc env) R s := by
  refine codeAny_of_tree ?_
  show wpAny _ _ ((compStart (two elt t0 i0 t1 i1 sc pos) 1 it acc env).onRaise (fun x => do noteFrame x env; standAt theWindowsPlace)) _ _ s
  refine wpAny_notedAt ?_
  unfold compStart
  show wpAny _ _ (ask >>= _) _ _ s
  refine wpAny_bind (wpAny_askSetting (wpAny_ite ?_))
  split
  · first
      | exact wpAny_bind (wpAny_pure (wpAny_pure (And.intro rfl h0)))
      | exact wpAny_pure (And.intro rfl h0)
  · first
      | exact wpAny_bind (wpAny_rule (wpAny_bind (wpAny_standAt (wpAny_bind (wpAny_mono h (fun _ _ z => wpAny_pure (And.intro rfl z)) fun _ _ x => x)))))
      | (refine wpAny_bind (wpAny_rule ?_); show wpAny _ _ (standAt i1.pos >>= _) _ _ s; exact wpAny_bind (wpAny_standAt (wpAny_bind (wpAny_mono h (fun _ _ z => wpAny_pure (And.intro rfl z)) fun _ _ x => x))))
end
end Tx

set_option Elab.async false
set_option linter.all false
set_option maxRecDepth 100000
set_option maxHeartbeats 4000000
namespace Tx
open PySem PySem.Spec PyProof.Rows L2
section
variable {X : Cx}
/-- a text put into a tracked set -/
theorem put_ok {pins : List (Addr × Obj)} {σ : L2.St} {H : Hp} {s : Shared} {E : Value → Shared → Prop} {D : Addr} {l : List Str} {x : Str} {u : Tok} {Q : Value → Shared → Prop} (I : Inv X pins σ H s) (hD : H D = some (TSO X.w D l)) (room : l.length + 1 < scanBound)
    (h : ∀ s', Inv X pins σ (upd H D (TSO X.w D (l ++ [x]))) s' → Q .none s') : wpAny (model X.prog X.w) X.A (call (.builtin "set.add") [.ref D, .str x u]) Q E s := by
  refine call_add (tso_get I hD) room fun h' sb q => ?_
  have he : ∃ u, h'.get? D = some u := let ⟨o, _, _, _, ho, _⟩ := q; ⟨o, ho⟩
  exact h _ (I.write (e := D) (t' := s.toks + 1) (by rw [hD]; trivial) (.inl rfl) (fun b u hb hu => (sb.2 b hb).trans hu) he (tso_ok q))
/-- what {elt for g in wi for g1 in wi1} asks: vs the block's slots, vs1 those of the second target -/
def tSc2 (w : World) (wi : TI) (g : TG) (wi1 : TI) (g1 : TG) (te : TE) (vs vs1 : List Nat) : TE := fun σ H Q => wi σ H fun J H1 => ∀ D, H1 D = none → ∃ W : Nat → Nat → Hp → Prop, (∃ m, W 0 m (upd H1 D (TSO w D []))) ∧ ∀ i m H, W i m H →
  (J.stop i H ∧ Q (.ref D) H) ∨ (J.go i H ∧ ∃ Nx : Hp → Prop, (∀ H', Nx H' → ∃ m', m' < m ∧ W (i + 1) m' H') ∧ ∀ x H', J.yld i H x H' → g x (wipe σ vs) H' fun σ2 H2 => wipe σ2 vs = wipe σ vs ∧
    wi1 σ2 H2 fun J1 H4 => ∃ W1 : Nat → Nat → Hp → Prop, (∃ m, W1 0 m H4) ∧ ∀ j k H, W1 j k H →
      (J1.stop j H ∧ Nx H) ∨ (J1.go j H ∧ ∃ Nx1 : Hp → Prop, (∀ H', Nx1 H' → ∃ k', k' < k ∧ W1 (j + 1) k' H') ∧ ∀ x H', J1.yld j H x H' → g1 x (wipe σ2 vs1) H' fun σ3 H5 => wipe σ3 vs1 = wipe σ2 vs1 ∧
        te σ3 H5 fun y H7 => ∃ t l, y = .str t ∧ H7 D = some (TSO w D l) ∧ l.length + 1 < scanBound ∧ Nx1 (upd H7 D (TSO w D (l ++ [t])))))
theorem pe_sc2 {elt t0 i0 t1 i1 : Expr} {sc : Scope} {own : List (Str × Nat)} {vs1 : List Nat} {pos : Pos} {wi wi1 : TI} {g g1 : TG} {te : TE} (hc : X.calm = true) (hN : X.N.Nodup) (hi : PI X t0 i0 wi) (ok : BlkOk X.N X.env.scope sc own) (hv : ∀ i ∈ vs1, i ∈ own.map (·.2))
    (hg : ∀ (s : Shared) (H : Hp) (C : Addr) (cl : List (Str × Addr)) (fp : List Addr), PG (X.blk s H sc (compEnvC sc cl C X.env) fp) t0 g)
    (hi1 : ∀ (s : Shared) (H : Hp) (C : Addr) (cl : List (Str × Addr)) (fp : List Addr), PI (X.blk s H sc (compEnvC sc cl C X.env) fp) t1 i1 wi1)
    (hg1 : ∀ (s : Shared) (H : Hp) (C : Addr) (cl : List (Str × Addr)) (fp : List Addr), PG (X.blk s H sc (compEnvC sc cl C X.env) fp) t1 g1)
    (he : ∀ (s : Shared) (H : Hp) (C : Addr) (cl : List (Str × Addr)) (fp : List Addr), PE (X.blk s H sc (compEnvC sc cl C X.env) fp) elt te)
    (hs : ∀ x, foldedSetIterable i0 X.env x = pure x := by intro _; rfl) (hs1 : ∀ env x, foldedSetIterable i1 env x = pure x := by intro _ _; rfl) :
    PE X (two elt t0 i0 t1 i1 sc pos) (tSc2 X.w wi g wi1 g1 te (own.map (·.2)) vs1) := by
  refine ⟨fun pins s σ H Q I h => ?_⟩
  rw [show eval (two elt t0 i0 t1 i1 sc pos) X.env = comprehension (two elt t0 i0 t1 i1 sc pos) sc X.env (firstIterPos [⟨t0, i0, [], 0⟩, ⟨t1, i1, [], 0⟩] pos) (newSet (.type "set")) false (eval i0 X.env) none from rfl]
  have frees : ∀ y ∈ sc.names, y.2 = .free → ∃ c, X.env.cells.lookup y.1 = some c := fun y hy e => I.ok.has _ (ok.free y hy e)
  refine wpAny_comprehension_free (use := none) rfl hs (closure_ok frees) ok.kind (fun y hy e => by rw [ok.uniq y hy, e]) (thn (hi.run pins s σ H _ I h) fun _ s1 hx => thn hx fun _ s2 h2 => ?_)
  obtain ⟨it, fp, tn, J, H2, rfl, I2, T, st2, f2, q⟩ := h2
  refine PpSet.newSet_ok (newEnv_comp ?_)
  obtain ⟨D, hD⟩ : ∃ D, s2.heap.objs.size = D := ⟨_, rfl⟩
  rw [hD]
  have hDn : H2 D = none := I2.hok.fresh (Nat.le_of_eq hD)
  obtain ⟨W, ⟨m0, w0⟩, turn⟩ := q D hDn
  obtain ⟨s3, hs3⟩ : ∃ s3 : Shared, ({ s2 with heap := s2.heap.push (s0 X.w) } : Shared) = s3 := ⟨_, rfl⟩
  have h3 : s3.heap = s2.heap.push (s0 X.w) := by rw [← hs3]
  have I3 : Inv X pins σ (upd H2 D (TSO X.w D [])) s3 := by
    rw [← hs3]
    refine I2.laid (t' := s2.toks) (fun b o e => Heap.get?_push_of_some _ e) (Nat.le_of_eq hD) (tso_ok (fresh_at ?_))
    rw [← hD]
    exact Heap.get?_push_size _ rfl
  have f3 : ∀ b ∈ fp, FpOk X pins (upd H2 D (TSO X.w D [])) b ∧ b < s3.heap.objs.size := fun b hb => by
    obtain ⟨o, eo, _⟩ := T.obj _ _ st2 b hb
    have lt : b < s2.heap.objs.size := Heap.lt_size eo
    refine ⟨⟨?_, (f2 b hb).2⟩, by rw [h3, Heap.size_push]; exact Nat.lt_succ_of_lt lt⟩
    rw [upd_ne (by rw [← hD]; exact Nat.ne_of_lt lt)]
    exact (f2 b hb).1
  have st3 : tn 0 s3.heap := T.keep _ _ _ st2 fun b _ o e => by rw [h3]; exact Heap.get?_push_of_some _ e
  have I4 := block_start I3 ok hN f3
  show codeAny _ _ (.compStart (two elt t0 i0 t1 i1 sc pos) 0 (.ref it) (.ref D) _) (compPost (model X.prog X.w) X.A X.xe none (EP X pins σ Q) (.ref D) _) _
  rw [hs3]
  have pg := hg s3 (upd H2 D (TSO X.w D [])) s3.heap.objs.size (cellsFrom (s3.heap.objs.size + 1) sc.names (cloFrom X.env.cells sc.names [])) fp
  have pe := he s3 (upd H2 D (TSO X.w D [])) s3.heap.objs.size (cellsFrom (s3.heap.objs.size + 1) sc.names (cloFrom X.env.cells sc.names [])) fp
  have pi1 := hi1 s3 (upd H2 D (TSO X.w D [])) s3.heap.objs.size (cellsFrom (s3.heap.objs.size + 1) sc.names (cloFrom X.env.cells sc.names [])) fp
  have pg1 := hg1 s3 (upd H2 D (TSO X.w D [])) s3.heap.objs.size (cellsFrom (s3.heap.objs.size + 1) sc.names (cloFrom X.env.cells sc.names [])) fp
  have none3 : ∀ b ∈ fp, (upd H2 D (TSO X.w D [])) b = none := fun b hb => (f3 b hb).1.1
  show codeAny _ _ (.compStart (two elt t0 i0 t1 i1 sc pos) 0 (.ref it) (.ref D) (compEnvC sc (cellsFrom (s3.heap.objs.size + 1) sc.names (cloFrom X.env.cells sc.names [])) s3.heap.objs.size X.env))
    (compPost (model X.prog X.w) X.A X.xe none (EP X pins σ Q) (.ref D) s3.heap.objs.size) { s3 with heap := pushCells (s3.heap.push { cls := .type "dict", data := .dict #[] }) sc.names }
  generalize hce : compEnvC sc (cellsFrom (s3.heap.objs.size + 1) sc.names (cloFrom X.env.cells sc.names [])) s3.heap.objs.size X.env = ce at I4 pg pe pi1 pg1 ⊢
  have cL : ce.locals = s3.heap.objs.size := by subst hce; rfl
  generalize hH3 : upd H2 D (TSO X.w D []) = H3 at I3 I4 pg pe pi1 pg1 w0 none3 f3
  generalize hs4 : ({ s3 with heap := pushCells (s3.heap.push { cls := .type "dict", data := .dict #[] }) sc.names } : Shared) = s4 at I4 ⊢
  have st4 : tn 0 s4.heap := T.keep _ _ _ st3 fun b _ o e => by rw [← hs4]; exact pushCells_keeps _ _ _ _ (Heap.get?_push_of_some _ e)
  let B := X.blk s3 H3 sc ce fp
  let σ0 := wipe σ (own.map (·.2))
  let Goal : Nat → Shared → Prop := fun n s' => ∃ i H', Inv B [] σ0 H' s' ∧ tn i s'.heap ∧ (∀ b ∈ fp, H' b = none) ∧ W i n H'
  have stat : ∀ {σ' : L2.St} {H' : Hp} {s' : Shared}, Inv B [] σ' H' s' → (∀ b ∈ fp, H' b = none) → ∀ b ∈ fp, FpOk B [] H' b := fun {σ' H' s'} I' hn b hb =>
    ⟨hn b hb, (I'.ok.exf b hb).1, I'.ok.exfs b hb, .inl hb, fun x c e => (I'.ok.exf b hb).2 x c e, fun p hp => absurd (show p ∈ ([] : List (Addr × Obj)) ++ [] from hp) (by simp)⟩
  have loop : codeAny (model X.prog X.w) X.A (.compLoop (two elt t0 i0 t1 i1 sc pos) 0 (.ref it) (.ref D) ce) (compPost (model X.prog X.w) X.A X.xe none (EP X pins σ Q) (.ref D) s3.heap.objs.size) s4 := by
    refine loop_out (hs1 ce) Goal ?_ m0 ⟨0, H3, I4, st4, none3, w0⟩
    rintro n s5 ⟨i, H5, I5, st5, n5, w5⟩
    rcases turn i n H5 w5 with ⟨stop, qq⟩ | ⟨go, Nx, hNx, step⟩
    · refine thnF (T.done B rfl rfl rfl hc i [] s5 _ H5 (fun _ _ => False) I5 (stat I5 n5) st5 stop) fun r s6 ⟨hr, I6⟩ => ?_
      subst hr
      have I7 : Inv X pins σ H5 s6 := I3.call' (ch := fp) I6.os I6.base I6.hok I6.bare fun b hb => ⟨(f3 b hb).1.2.2.2.1, (f3 b hb).1.2.1, (f3 b hb).1.2.2.2.2.1, (f3 b hb).1.2.2.2.2.2⟩
      have noC : H5 s3.heap.objs.size = none := by
        have z : H5 ce.locals = none := I6.free
        rwa [cL] at z
      obtain ⟨mm, hn, _⟩ := I6.loc
      have hn : s6.heap.Ns ce.locals mm := hn
      rw [cL] at hn
      obtain ⟨g0, g1', g2, g3, g4, g5⟩ := I3.fpOk (Nat.le_refl _) noC
      exact ⟨mm, hn, fun h'' sb => ⟨.ref D, H5, I7.turned (t' := s6.toks) (fun b o hb e => (sb.2 b hb).trans e) g0 g1' g3 g4 g5, rfl, qq⟩⟩
    · refine thnF (T.item B rfl rfl rfl hc i [] s5 _ H5 (fun _ _ => False) I5 (stat I5 n5) st5 go) fun r s6 ⟨u, hr, h6⟩ => ?_
      subst hr
      refine thnF h6 fun _ s7 ⟨x, H7, I7, r7, y7, st7, n7⟩ => ?_
      refine thnF (pg.run _ s7 _ H7 x u _ (I7.pinned (stat I7 n7) (T.obj _ _ st7)) r7 (step x H7 y7)) fun _ s8 ⟨σ8, H8, I8, hw8, q8⟩ => ?_
      have back : ∀ {σ9 : L2.St} {s' : Shared} {H' : Hp}, Inv B ([] ++ pinsAt fp s7.heap) σ9 H' s' → σ0.length = σ9.length → (∀ (j : Nat) v, σ0[j]? = some (some v) → σ9[j]? = some (some v)) → Nx H' → ∃ m, m < n ∧ Goal m s' := fun {σ9 s' H'} I' hl hk nx => by
        obtain ⟨m', hm, w'⟩ := hNx H' nx
        have still : ∀ b ∈ fp, ∀ o, s7.heap.get? b = some o → s'.heap.get? b = some o ∧ H' b = none := fun b hb o e =>
          let z := I'.pin (b, o) (List.mem_append_right _ (List.mem_append_right _ (mem_pinsAt hb e)))
          ⟨z.1, z.2.1⟩
        refine ⟨m', hm, i + 1, H', (I'.unpinned (pins := [])).weak hl hk, T.keep _ _ _ st7 fun b hb o e => (still b hb o e).1, fun b hb => ?_, w'⟩
        obtain ⟨o, e, _⟩ := T.obj _ _ st7 b hb
        exact (still b hb o e).2
      have l8 : σ0.length = σ8.length := by rw [← wipe_length σ8 (own.map (·.2)), hw8]
      have k9 : ∀ (j : Nat) v, σ0[j]? = some (some v) → (wipe σ8 vs1)[j]? = some (some v) := fun j v e => by
        have e' : (wipe σ8 (own.map (·.2)))[j]? = some (some v) := by rw [hw8]; exact e
        obtain ⟨e1, e2⟩ := wipe_some e'
        rw [wipe_out fun z => e2 (hv j z)]
        exact e1
      refine thnF (pi1.run _ s8 σ8 H8 _ I8 q8) fun _ s10 hx => thnF hx fun _ s11 h11 => ?_
      obtain ⟨it1, fp1, tn1, J1, H11, rfl, I11, T1, st11, f11, W1, ⟨m1, w1⟩, turn1⟩ := h11
      have stat1 : ∀ {H' : Hp}, (∀ b ∈ fp1, H' b = none) → ∀ b ∈ fp1, FpOk B ([] ++ pinsAt fp s7.heap) H' b := fun hn b hb => ⟨hn b hb, (f11 b hb).2⟩
      let Inner : Nat → Shared → Prop := fun k s' => ∃ j H', Inv B ([] ++ pinsAt fp s7.heap) (wipe σ8 vs1) H' s' ∧ tn1 j s'.heap ∧ (∀ b ∈ fp1, H' b = none) ∧ W1 j k H'
      have loop1 : codeAny (model X.prog X.w) X.A (.compLoop (two elt t0 i0 t1 i1 sc pos) 1 (.ref it1) (.ref D) ce) (fun r s' => match r with
          | .ok _ => ∃ m, m < n ∧ Goal m s'
          | .error _ => False) s11 := by
        refine loop_in Inner ?_ m1 ⟨0, H11, I11.weak (wipe_length _ _) (fun j v e => (wipe_some e).1), st11, fun b hb => (f11 b hb).1, w1⟩
        rintro k s12 ⟨j, H12, I12, st12, n12, w12⟩
        rcases turn1 j k H12 w12 with ⟨stop1, nx1⟩ | ⟨go1, Nx1, hNx1, step1⟩
        · refine thnF (T1.done B rfl rfl rfl hc j _ s12 (wipe σ8 vs1) H12 (fun _ _ => False) I12 (stat1 n12) st12 stop1) fun r s13 ⟨hr, I13⟩ => ?_
          subst hr
          exact back I13 (l8.trans (wipe_length σ8 vs1).symm) k9 nx1
        · refine thnF (T1.item B rfl rfl rfl hc j _ s12 (wipe σ8 vs1) H12 (fun _ _ => False) I12 (stat1 n12) st12 go1) fun r s13 ⟨u1, hr, h13⟩ => ?_
          subst hr
          refine thnF h13 fun _ s14 ⟨x1, H14, I14, r14, y14, st14, n14⟩ => ?_
          refine thnF (pg1.run _ s14 (wipe σ8 vs1) H14 x1 u1 _ (I14.pinned (stat1 n14) (T1.obj _ _ st14)) r14 (step1 x1 H14 y14)) fun _ s15 ⟨σ15, H15, I15, hw15, q15⟩ => ?_
          refine thnF (pe.run _ s15 σ15 H15 _ I15 q15) fun z s17 ⟨yv, H17, I17, r17, tx, l, ey, hD17, hz17, nx⟩ => ?_
          subst ey
          obtain ⟨tk, rfl⟩ := (show ∃ tk, z = Value.str tx tk from r17)
          refine put_ok (X := B) I17 hD17 hz17 fun s18 I18 => ?_
          obtain ⟨m', hm, w'⟩ := hNx1 _ nx
          have still1 : ∀ b ∈ fp1, ∀ o, s14.heap.get? b = some o → s18.heap.get? b = some o ∧ (upd H17 D (TSO X.w D (l ++ [tx]))) b = none := fun b hb o e =>
            let z := I18.pin (b, o) (List.mem_append_right _ (List.mem_append_right _ (mem_pinsAt hb e)))
            ⟨z.1, z.2.1⟩
          refine ⟨m', hm, j + 1, _, I18.unpinned.weak (by rw [← wipe_length σ15 vs1, hw15]) (fun i v e => by rw [← hw15] at e; exact (wipe_some e).1), T1.keep _ _ _ st14 fun b hb o e => (still1 b hb o e).1, fun b hb => ?_, w'⟩
          obtain ⟨o, e, _⟩ := T1.obj _ _ st14 b hb
          exact (still1 b hb o e).2
      exact start_in loop1 (T1.self X.A 0 _ _ _ st11 loop1)
  exact PpSet.codeAny_compStart_set loop (T.self X.A 0 _ _ _ st4 loop)
end
end Tx

set_option Elab.async false
set_option linter.all false
set_option maxRecDepth 100000
set_option maxHeartbeats 4000000
/-! Formulas as data, and as tuples of tuples in the heap. -/
namespace Fo
open PySem L2
/-- a formula: con true: and; con false: or; qu true: some; qu false: all -/
inductive Fm where
  | rel (n : Str) (xs : List Str)
  | same (x y : Str)
  | neg (f : Fm)
  | con (b : Bool) (fs : List Fm)
  | qu (b : Bool) (x : Str) (f : Fm)
namespace Fm
def kids : Fm → List Fm
  | .rel _ _ => []
  | .same _ _ => []
  | .neg f => [f]
  | .con _ fs => fs
  | .qu _ _ f => [f]
/-- the names that it tells itself -/
def own : Fm → List Str
  | .rel _ xs => xs
  | .same x y => [x, y]
  | .neg _ => []
  | .con _ _ => []
  | .qu _ x _ => [x]
mutual
/-- how many formulas stand in it -/
def ct : Fm → Nat
  | .rel _ _ => 1
  | .same _ _ => 1
  | .neg f => 1 + ct f
  | .con _ fs => 1 + cts fs
  | .qu _ _ f => 1 + ct f
def cts : List Fm → Nat
  | [] => 0
  | f :: fs => ct f + cts fs
end
mutual
def dp : Fm → Nat
  | .rel _ _ => 0
  | .same _ _ => 0
  | .neg f => 1 + dp f
  | .con _ fs => dps fs
  | .qu _ _ f => 1 + dp f
/-- one more than the greatest depth of these, 0 if there is none -/
def dps : List Fm → Nat
  | [] => 0
  | f :: fs => max (1 + dp f) (dps fs)
end
mutual
/-- all names that stand in it -/
def nm : Fm → List Str
  | .rel _ xs => xs
  | .same x y => [x, y]
  | .neg f => nm f
  | .con _ fs => nms fs
  | .qu _ x f => x :: nm f
def nms : List Fm → List Str
  | [] => []
  | f :: fs => nm f ++ nms fs
end
mutual
def fr : Fm → List Str
  | .rel _ xs => xs
  | .same x y => [x, y]
  | .neg f => fr f
  | .con _ fs => frs fs
  | .qu _ x f => (fr f).filter (fun y => decide (y ≠ x))
def frs : List Fm → List Str
  | [] => []
  | f :: fs => fr f ++ frs fs
end
mutual
def rk : Fm → Nat
  | .rel _ _ => 0
  | .same _ _ => 0
  | .neg f => rk f
  | .con _ fs => rks fs
  | .qu _ _ f => 1 + rk f
def rks : List Fm → Nat
  | [] => 0
  | f :: fs => max (rk f) (rks fs)
end
theorem ct_pos : ∀ f : Fm, 1 ≤ ct f
  | .rel _ _ => by rw [ct]; omega
  | .same _ _ => by rw [ct]; omega
  | .neg f => by rw [ct]; omega
  | .con _ fs => by rw [ct]; omega
  | .qu _ _ f => by rw [ct]; omega
theorem ct_kids (f : Fm) : ct f = 1 + cts f.kids := by
  cases f <;> simp only [ct, kids, cts] <;> omega
theorem cts_append : ∀ (a b : List Fm), cts (a ++ b) = cts a + cts b
  | [], b => by simp [cts]
  | f :: a, b => by rw [List.cons_append, cts, cts, cts_append a b]; omega
theorem cts_mem : ∀ {fs : List Fm} {f : Fm}, f ∈ fs → ct f ≤ cts fs
  | g :: fs, f, h => by
    rw [cts]
    rcases List.mem_cons.mp h with e | e
    · rw [e]; omega
    · have := cts_mem e; omega
theorem len_cts : ∀ (fs : List Fm), fs.length ≤ cts fs
  | [] => Nat.le_refl _
  | f :: fs => by rw [cts, List.length_cons]; have := len_cts fs; have := ct_pos f; omega
theorem nms_append : ∀ (a b : List Fm), nms (a ++ b) = nms a ++ nms b
  | [], b => by simp [nms]
  | f :: a, b => by rw [List.cons_append, nms, nms, nms_append a b, List.append_assoc]
theorem mem_nms : ∀ {fs : List Fm} {x : Str}, x ∈ nms fs ↔ ∃ f ∈ fs, x ∈ nm f
  | [], x => by simp [nms]
  | f :: fs, x => by
    rw [nms, List.mem_append, mem_nms]
    simp only [List.mem_cons, exists_eq_or_imp]
theorem nm_kids (f : Fm) (x : Str) : x ∈ nm f ↔ x ∈ f.own ∨ x ∈ nms f.kids := by
  cases f <;> simp [nm, own, kids, nms]
theorem mem_frs : ∀ {fs : List Fm} {x : Str}, x ∈ frs fs ↔ ∃ f ∈ fs, x ∈ fr f
  | [], x => by simp [frs]
  | f :: fs, x => by
    rw [frs, List.mem_append, mem_frs]
    simp only [List.mem_cons, exists_eq_or_imp]
theorem nm_len (f : Fm) : (nm f).length = f.own.length + (nms f.kids).length := by
  cases f <;> simp [nm, own, kids, nms] <;> omega
theorem nms_len_mem : ∀ {fs : List Fm} {f : Fm}, f ∈ fs → (nm f).length ≤ (nms fs).length
  | g :: fs, f, h => by
    rw [nms, List.length_append]
    rcases List.mem_cons.mp h with e | e
    · rw [e]; omega
    · have := nms_len_mem e; omega
mutual
theorem fr_nm : ∀ (f : Fm), (fr f).length ≤ (nm f).length
  | .rel _ xs => Nat.le_refl _
  | .same _ _ => Nat.le_refl _
  | .neg f => fr_nm f
  | .con _ fs => frs_nms fs
  | .qu _ x f => by
    rw [fr, nm, List.length_cons]
    exact Nat.le_succ_of_le (Nat.le_trans (List.length_filter_le _ _) (fr_nm f))
theorem frs_nms : ∀ (fs : List Fm), (frs fs).length ≤ (nms fs).length
  | [] => Nat.le_refl _
  | f :: fs => by
    rw [frs, nms, List.length_append, List.length_append]
    exact Nat.add_le_add (fr_nm f) (frs_nms fs)
end
theorem dps_mem : ∀ {fs : List Fm} {f : Fm}, f ∈ fs → 1 + dp f ≤ dps fs
  | g :: fs, f, h => by
    rw [dps]
    rcases List.mem_cons.mp h with e | e
    · rw [e]; exact Nat.le_max_left _ _
    · exact Nat.le_trans (dps_mem e) (Nat.le_max_right _ _)
theorem dps_le : ∀ {fs : List Fm} {n : Nat}, (∀ f ∈ fs, 1 + dp f ≤ n) → dps fs ≤ n
  | [], n, _ => Nat.zero_le _
  | f :: fs, n, h => by
    rw [dps]
    exact Nat.max_le.mpr ⟨h f List.mem_cons_self, dps_le fun g hg => h g (List.mem_cons_of_mem _ hg)⟩
theorem dp_kids {f g : Fm} (h : g ∈ f.kids) : dp g < dp f := by
  cases f with
  | rel n xs => cases h
  | same x y => cases h
  | neg k => rw [List.mem_singleton.mp h, dp]; omega
  | con b fs =>
    have q := dps_mem (fs := fs) h
    rw [dp]; omega
  | qu b x k => rw [List.mem_singleton.mp h, dp]; omega
theorem rks_mem : ∀ {fs : List Fm} {f : Fm}, f ∈ fs → rk f ≤ rks fs
  | g :: fs, f, h => by
    rw [rks]
    rcases List.mem_cons.mp h with e | e
    · rw [e]; exact Nat.le_max_left _ _
    · exact Nat.le_trans (rks_mem e) (Nat.le_max_right _ _)
theorem rks_is : ∀ {fs : List Fm} {m : Nat}, (∀ f ∈ fs, rk f ≤ m) → (m = 0 ∨ ∃ f ∈ fs, rk f = m) → rks fs = m
  | [], m, _, h => by
    rcases h with e | ⟨f, hf, _⟩
    · rw [e]; rfl
    · cases hf
  | f :: fs, m, h, k => by
    have up : rks (f :: fs) ≤ m := by
      rw [rks]
      refine Nat.max_le.mpr ⟨h f List.mem_cons_self, ?_⟩
      have : ∀ gs : List Fm, (∀ g ∈ gs, rk g ≤ m) → rks gs ≤ m := fun gs => by
        induction gs with
        | nil => intro _; exact Nat.zero_le _
        | cons g gs ih => intro hh; rw [rks]; exact Nat.max_le.mpr ⟨hh g List.mem_cons_self, ih fun a ha => hh a (List.mem_cons_of_mem _ ha)⟩
      exact this fs fun g hg => h g (List.mem_cons_of_mem _ hg)
    refine Nat.le_antisymm up ?_
    rcases k with e | ⟨g, hg, e⟩
    · omega
    · rw [← e]; exact rks_mem hg
end Fm

/-! ### in the heap -/
def cn (b : Bool) : Str := if b = true then "and" else "or"
def qn (b : Bool) : Str := if b = true then "some" else "all"
mutual
def FmAt (K : PySem.W.Frag) (H : Hp) : V → Fm → Prop
  | v, .rel n xs => ∃ a t, v = .ref a ∧ SqT K H a [.str "rel", .str n, .ref t] ∧ SqT K H t (xs.map V.str)
  | v, .same x y => ∃ a, v = .ref a ∧ SqT K H a [.str "same", .str x, .str y]
  | v, .neg f => ∃ a u, v = .ref a ∧ SqT K H a [.str "not", u] ∧ FmAt K H u f
  | v, .con b fs => ∃ a t us, v = .ref a ∧ SqT K H a [.str (cn b), .ref t] ∧ SqT K H t us ∧ FmsAt K H us fs
  | v, .qu b x f => ∃ a u, v = .ref a ∧ SqT K H a [.str (qn b), .str x, u] ∧ FmAt K H u f
def FmsAt (K : PySem.W.Frag) (H : Hp) : List V → List Fm → Prop
  | us, [] => us = []
  | us, f :: fs => ∃ u r, us = u :: r ∧ FmAt K H u f ∧ FmsAt K H r fs
end
/-- the tuples stay -/
def Tk (K : PySem.W.Frag) (H H' : Hp) : Prop := ∀ a xs, SqT K H a xs → SqT K H' a xs
theorem Tk.refl {K : PySem.W.Frag} (H : Hp) : Tk K H H := fun _ _ h => h
theorem Tk.trans {K : PySem.W.Frag} {H H1 H2 : Hp} (a : Tk K H H1) (b : Tk K H1 H2) : Tk K H H2 := fun p xs h => b p xs (a p xs h)
theorem Tk.of_same {K : PySem.W.Frag} {H H' : Hp} (e : Same H H') : Tk K H H' := fun a xs h => by
  rcases h with (h | ⟨o, h⟩) | h
  · exact .inl (.inl (e _ _ h))
  · exact .inl (.inr ⟨o, e _ _ h⟩)
  · exact .inr h
mutual
theorem FmAt.tk {K : PySem.W.Frag} {H H' : Hp} (k : Tk K H H') : ∀ {v : V} {f : Fm}, FmAt K H v f → FmAt K H' v f
  | v, .rel n xs, h => by
    rw [FmAt] at h ⊢
    obtain ⟨a, t, e, h1, h2⟩ := h
    exact ⟨a, t, e, k _ _ h1, k _ _ h2⟩
  | v, .same x y, h => by
    rw [FmAt] at h ⊢
    obtain ⟨a, e, h1⟩ := h
    exact ⟨a, e, k _ _ h1⟩
  | v, .neg f, h => by
    rw [FmAt] at h ⊢
    obtain ⟨a, u, e, h1, h2⟩ := h
    exact ⟨a, u, e, k _ _ h1, FmAt.tk k h2⟩
  | v, .con b fs, h => by
    rw [FmAt] at h ⊢
    obtain ⟨a, t, us, e, h1, h2, h3⟩ := h
    exact ⟨a, t, us, e, k _ _ h1, k _ _ h2, FmsAt.tk k h3⟩
  | v, .qu b x f, h => by
    rw [FmAt] at h ⊢
    obtain ⟨a, u, e, h1, h2⟩ := h
    exact ⟨a, u, e, k _ _ h1, FmAt.tk k h2⟩
theorem FmsAt.tk {K : PySem.W.Frag} {H H' : Hp} (k : Tk K H H') : ∀ {us : List V} {fs : List Fm}, FmsAt K H us fs → FmsAt K H' us fs
  | us, [], h => by
    rw [FmsAt] at h ⊢
    exact h
  | us, f :: fs, h => by
    rw [FmsAt] at h ⊢
    obtain ⟨u, r, e, h1, h2⟩ := h
    exact ⟨u, r, e, FmAt.tk k h1, FmsAt.tk k h2⟩
end
theorem FmsAt.nil {K : PySem.W.Frag} {H : Hp} : FmsAt K H [] [] := by rw [FmsAt]
theorem FmsAt.cons {K : PySem.W.Frag} {H : Hp} {u : V} {us : List V} {f : Fm} {fs : List Fm} (h : FmAt K H u f) (t : FmsAt K H us fs) : FmsAt K H (u :: us) (f :: fs) := by
  rw [FmsAt]
  exact ⟨u, us, rfl, h, t⟩
theorem FmsAt.uncons {K : PySem.W.Frag} {H : Hp} {us : List V} {f : Fm} {fs : List Fm} (h : FmsAt K H us (f :: fs)) : ∃ u r, us = u :: r ∧ FmAt K H u f ∧ FmsAt K H r fs := by
  rw [FmsAt] at h
  exact h
theorem FmsAt.unnil {K : PySem.W.Frag} {H : Hp} {us : List V} (h : FmsAt K H us []) : us = [] := by
  rw [FmsAt] at h
  exact h
theorem FmsAt.length {K : PySem.W.Frag} {H : Hp} : ∀ {us : List V} {fs : List Fm}, FmsAt K H us fs → us.length = fs.length
  | us, [], h => by rw [h.unnil]; rfl
  | us, f :: fs, h => by
    obtain ⟨u, r, rfl, _, h2⟩ := h.uncons
    exact congrArg Nat.succ h2.length
theorem FmsAt.append {K : PySem.W.Frag} {H : Hp} {ws : List V} {gs : List Fm} (k : FmsAt K H ws gs) : ∀ {us : List V} {fs : List Fm}, FmsAt K H us fs → FmsAt K H (us ++ ws) (fs ++ gs)
  | us, [], h => by rw [h.unnil]; exact k
  | us, f :: fs, h => by
    obtain ⟨u, r, rfl, h1, h2⟩ := h.uncons
    exact .cons h1 (FmsAt.append k h2)
theorem FmsAt.get {K : PySem.W.Frag} {H : Hp} : ∀ {us : List V} {fs : List Fm}, FmsAt K H us fs → ∀ {i : Nat} {u : V}, us[i]? = some u → ∃ f, fs[i]? = some f ∧ FmAt K H u f
  | us, [], h, i, u, e => by rw [h.unnil] at e; simp at e
  | us, f :: fs, h, i, u, e => by
    obtain ⟨v, r, rfl, h1, h2⟩ := h.uncons
    cases i with
    | zero =>
      have e' : v = u := Option.some.inj e
      exact ⟨f, rfl, e' ▸ h1⟩
    | succ i => exact h2.get (i := i) e
/-- the last of a list -/
theorem FmsAt.unsnoc {K : PySem.W.Frag} {H : Hp} {us : List V} {fs : List Fm} (h : FmsAt K H us fs) (n : fs ≠ []) : ∃ vs u gs f, us = vs ++ [u] ∧ fs = gs ++ [f] ∧ FmsAt K H vs gs ∧ FmAt K H u f := by
  induction fs generalizing us with
  | nil => exact absurd rfl n
  | cons f fs ih =>
    obtain ⟨u, r, rfl, h1, h2⟩ := h.uncons
    cases fs with
    | nil =>
      rw [h2.unnil]
      exact ⟨[], u, [], f, rfl, rfl, .nil, h1⟩
    | cons g fs =>
      obtain ⟨vs, w, gs, k, e1, e2, h3, h4⟩ := ih h2 (by simp)
      exact ⟨u :: vs, w, f :: gs, k, by rw [e1]; rfl, by rw [e2]; rfl, .cons h1 h3, h4⟩
/-- a new object, and a list written, leave the tuples -/
theorem same_new {H : Hp} {p : Addr} (h : H p = none) (o : HO) : Same H (upd H p o) := fun b u q => by rw [upd_ne (ne_of_none q h)]; exact q
theorem tk_new {K : PySem.W.Frag} {H : Hp} {p : Addr} (h : H p = none) (o : HO) : Tk K H (upd H p o) := .of_same (same_new h o)
theorem tk_lst {K : PySem.W.Frag} {H : Hp} {p : Addr} {xs : List V} (h : H p = some (.lst xs)) (o : HO) : Tk K H (upd H p o) := fun a ys q => by
  rcases q with (q | ⟨u, q⟩) | q
  · exact .inl (.inl (by rw [upd_ne (ne_of q h (by intro z; cases z))]; exact q))
  · exact .inl (.inr ⟨u, by rw [upd_ne (ne_of q h (by intro z; cases z))]; exact q⟩)
  · exact .inr q
end Fo

set_option Elab.async false
set_option linter.all false
set_option maxRecDepth 100000
set_option maxHeartbeats 4000000
/-! Lists item by item; formulas turned, and what is true of them. -/
namespace Fo
open PySem L2
inductive All2 {α β : Type} (R : α → β → Prop) : List α → List β → Prop where
  | nil : All2 R [] []
  | cons {a : α} {b : β} {as : List α} {bs : List β} : R a b → All2 R as bs → All2 R (a :: as) (b :: bs)
namespace All2
variable {α β : Type} {R S : α → β → Prop}
theorem length {as : List α} {bs : List β} (h : All2 R as bs) : as.length = bs.length := by
  induction h with
  | nil => rfl
  | cons _ _ ih => exact congrArg Nat.succ ih
theorem imp {as : List α} {bs : List β} (h : All2 R as bs) (k : ∀ a b, R a b → S a b) : All2 S as bs := by
  induction h with
  | nil => exact .nil
  | cons r _ ih => exact .cons (k _ _ r) ih
theorem append {as cs : List α} {bs ds : List β} (h : All2 R as bs) (k : All2 R cs ds) : All2 R (as ++ cs) (bs ++ ds) := by
  induction h with
  | nil => exact k
  | cons r _ ih => exact .cons r ih
theorem snoc {as : List α} {bs : List β} {a : α} {b : β} (h : All2 R as bs) (r : R a b) : All2 R (as ++ [a]) (bs ++ [b]) := h.append (.cons r .nil)
theorem unsnoc {as : List α} {bs : List β} (h : All2 R as bs) (n : as ≠ []) : ∃ cs a ds b, as = cs ++ [a] ∧ bs = ds ++ [b] ∧ All2 R cs ds ∧ R a b := by
  induction h with
  | nil => exact absurd rfl n
  | @cons a b as bs r t ih =>
    cases t with
    | nil => exact ⟨[], a, [], b, rfl, rfl, .nil, r⟩
    | @cons a' b' as bs r' t' =>
      obtain ⟨cs, x, ds, y, e1, e2, h1, h2⟩ := ih (by simp)
      exact ⟨a :: cs, x, b :: ds, y, by rw [e1]; rfl, by rw [e2]; rfl, .cons r h1, h2⟩
theorem get {as : List α} {bs : List β} (h : All2 R as bs) : ∀ {i : Nat} {a : α}, as[i]? = some a → ∃ b, bs[i]? = some b ∧ R a b := by
  induction h with
  | nil => intro i a e; simp at e
  | @cons x y as bs r t ih =>
    intro i a e
    cases i with
    | zero => exact ⟨y, rfl, (Option.some.inj e) ▸ r⟩
    | succ i => exact ih (i := i) e
end All2
theorem Fm.cts_single (f : Fm) : Fm.cts [f] = f.ct := by simp [Fm.cts]
theorem Fm.nms_single (f : Fm) : Fm.nms [f] = f.nm := by simp [Fm.nms]
/-- the last item is popped -/
theorem drop_last {α : Type} (xs : List α) (x : α) : (xs ++ [x]).dropLast = xs := by simp
theorem at_last {α : Type} (xs : List α) (x : α) : (xs ++ [x])[(xs ++ [x]).length - 1]? = some x := by simp
theorem over_list {K : PySem.W.Frag} {a : Addr} {xs : List V} {H0 : Hp} {Qd : Hp → Prop} {step : V → Hp → (Hp → Prop) → Prop} (Pv : Nat → Hp → Prop) (h0 : Pv 0 H0) (hl : ∀ i H, i ≤ xs.length → Pv i H → SqL K H a xs)
    (hs : ∀ i x H, xs[i]? = some x → Pv i H → step x H (Pv (i + 1))) (hd : ∀ H, Pv xs.length H → Qd H) :
    ∃ W : Nat → Nat → Hp → Prop, (∃ m, W 0 m H0) ∧ ∀ i m H, W i m H → ((Itl K a).stop i H ∧ Qd H) ∨ ((Itl K a).go i H ∧ ∃ Nx : Hp → Prop, (∀ H', Nx H' → ∃ m', m' < m ∧ W (i + 1) m' H') ∧ ∀ x H', (Itl K a).yld i H x H' → step x H' Nx) := by
  refine ⟨fun i m H => m = xs.length - i ∧ i ≤ xs.length ∧ Pv i H, ⟨_, rfl, Nat.zero_le _, h0⟩, ?_⟩
  rintro i m H ⟨rfl, hi, p⟩
  rcases Nat.lt_or_ge i xs.length with lt | ge
  · refine .inr ⟨⟨xs, xs[i], hl i H hi p, List.getElem?_eq_getElem lt⟩, Pv (i + 1), fun H' p' => ⟨_, by omega, rfl, lt, p'⟩, fun x H' y => ?_⟩
    obtain ⟨rfl, y⟩ := y
    exact hs i x _ (y xs (hl i _ hi p)) p
  · obtain rfl : i = xs.length := by omega
    exact .inl ⟨⟨xs, hl _ H hi p, Nat.le_refl _⟩, hd H p⟩
theorem over_tup {K : PySem.W.Frag} {a : Addr} {xs : List V} {H0 : Hp} {Qd : Hp → Prop} {step : V → Hp → (Hp → Prop) → Prop} (Pv : Nat → Hp → Prop) (h0 : Pv 0 H0) (hl : ∀ i H, i ≤ xs.length → Pv i H → SqT K H a xs)
    (hs : ∀ i x H, xs[i]? = some x → Pv i H → step x H (Pv (i + 1))) (hd : ∀ H, Pv xs.length H → Qd H) :
    ∃ W : Nat → Nat → Hp → Prop, (∃ m, W 0 m H0) ∧ ∀ i m H, W i m H → ((Itt K a).stop i H ∧ Qd H) ∨ ((Itt K a).go i H ∧ ∃ Nx : Hp → Prop, (∀ H', Nx H' → ∃ m', m' < m ∧ W (i + 1) m' H') ∧ ∀ x H', (Itt K a).yld i H x H' → step x H' Nx) := by
  refine ⟨fun i m H => m = xs.length - i ∧ i ≤ xs.length ∧ Pv i H, ⟨_, rfl, Nat.zero_le _, h0⟩, ?_⟩
  rintro i m H ⟨rfl, hi, p⟩
  rcases Nat.lt_or_ge i xs.length with lt | ge
  · refine .inr ⟨⟨xs, xs[i], hl i H hi p, List.getElem?_eq_getElem lt⟩, Pv (i + 1), fun H' p' => ⟨_, by omega, rfl, lt, p'⟩, fun x H' y => ?_⟩
    obtain ⟨rfl, y⟩ := y
    exact hs i x _ (y xs (hl i _ hi p)) p
  · obtain rfl : i = xs.length := by omega
    exact .inl ⟨⟨xs, hl _ H hi p, Nat.le_refl _⟩, hd H p⟩
theorem inV_strs (x : Str) : ∀ (bs : List Str), inV (.str x) (bs.map V.str) = decide (x ∈ bs)
  | [] => by simp [inV]
  | b :: bs => by
    have ih := inV_strs x bs
    unfold inV at ih ⊢
    rw [List.map_cons, List.any_cons, ih]
    show ((b == x) || decide (x ∈ bs)) = decide (x ∈ b :: bs)
    by_cases e : b = x
    · subst e; simp
    · have e' : ¬ x = b := fun q => e q.symm
      simp [e, e']
theorem flat_strs : ∀ (bs : List Str), (bs.map V.str).all flatV = true
  | [] => rfl
  | b :: bs => by rw [List.map_cons, List.all_cons, flat_strs bs]; rfl
namespace Fm
/-- parts of these -/
def pct {α : Type} : List (Fm × α) → Nat
  | [] => 0
  | p :: ps => p.1.ct + pct ps
theorem pct_append {α : Type} : ∀ (a b : List (Fm × α)), pct (a ++ b) = pct a + pct b
  | [], b => by simp [pct]
  | p :: a, b => by rw [List.cons_append, pct, pct, pct_append a b]; omega
theorem pct_map {α : Type} (d : α) : ∀ (fs : List Fm), pct (fs.map fun k => (k, d)) = cts fs
  | [] => rfl
  | f :: fs => by rw [List.map_cons, pct, cts, pct_map d fs]
theorem len_pct {α : Type} : ∀ (ps : List (Fm × α)), ps.length ≤ pct ps
  | [] => Nat.le_refl _
  | p :: ps => by rw [pct, List.length_cons]; have := len_pct ps; have := ct_pos p.1; omega
end Fm

theorem cts_take {fs : List Fm} {i : Nat} {g : Fm} (h : fs[i]? = some g) : Fm.cts (fs.take (i + 1)) = Fm.cts (fs.take i) + g.ct := by
  rw [List.take_succ, h]
  show Fm.cts (fs.take i ++ [g]) = _
  rw [Fm.cts_append, Fm.cts_single]
namespace Fm
mutual
def tr : Fm → Bool → Fm
  | .rel n xs, d => if d = true then .neg (.rel n xs) else .rel n xs
  | .same x y, d => if d = true then .neg (.same x y) else .same x y
  | .neg f, d => tr f (!d)
  | .con b fs, d => .con (b != d) (trs fs d)
  | .qu b x f, d => .qu (b != d) x (tr f d)
def trs : List Fm → Bool → List Fm
  | [], _ => []
  | f :: fs, d => tr f d :: trs fs d
end
def bel (f : Fm) (d : Bool) : Bool := match f with | .neg _ => !d | _ => d
mutual
def pre : Fm → Bool → List (Fm × Bool)
  | .rel n xs, d => [(.rel n xs, d)]
  | .same x y, d => [(.same x y, d)]
  | .neg f, d => (.neg f, d) :: pre f (!d)
  | .con b fs, d => (.con b fs, d) :: pres fs d
  | .qu b x f, d => (.qu b x f, d) :: pre f d
def pres : List Fm → Bool → List (Fm × Bool)
  | [], _ => []
  | f :: fs, d => pre f d ++ pres fs d
end
def flat (ps : List (Fm × Bool)) : List (Fm × Bool) := (ps.map fun p => pre p.1 p.2).flatten
theorem flat_nil : flat [] = [] := rfl
theorem flat_cons (p : Fm × Bool) (ps : List (Fm × Bool)) : flat (p :: ps) = pre p.1 p.2 ++ flat ps := rfl
theorem flat_append (a b : List (Fm × Bool)) : flat (a ++ b) = flat a ++ flat b := by
  unfold flat
  rw [List.map_append, List.flatten_append]
theorem pres_flat (d : Bool) : ∀ fs : List Fm, pres fs d = flat (fs.map fun k => (k, d))
  | [] => rfl
  | f :: fs => by rw [pres, pres_flat d fs]; rfl
theorem pre_kids (f : Fm) (d : Bool) : pre f d = (f, d) :: flat (f.kids.map fun k => (k, bel f d)) := by
  cases f with
  | rel n xs => rfl
  | same x y => rfl
  | neg f => rw [pre]; show _ = (Fm.neg f, d) :: (pre f (!d) ++ []); rw [List.append_nil]
  | con b fs => rw [pre, pres_flat]; rfl
  | qu b x f => rw [pre]; show _ = (Fm.qu b x f, d) :: (pre f d ++ []); rw [List.append_nil]
theorem flat_head (p : Fm × Bool) (ps : List (Fm × Bool)) : flat (p :: ps) = p :: flat ((p.1.kids.map fun k => (k, bel p.1 p.2)) ++ ps) := by
  rw [flat_cons, pre_kids, flat_append]
  rfl
theorem pct_kids (p : Fm × Bool) : p.1.ct = 1 + pct (p.1.kids.map fun k => (k, bel p.1 p.2)) := by rw [pct_map, ct_kids]
/-- behind a formula stand its parts -/
theorem flat_mid (g : Fm) (d : Bool) (X : List (Fm × Bool)) : ∀ (n : Nat) (A ps : List (Fm × Bool)), pct ps ≤ n → flat ps = A ++ (g, d) :: X → ∃ Y, X = flat (g.kids.map fun k => (k, bel g d)) ++ Y
  | n, A, [], _, h => by simp [flat] at h
  | 0, A, p :: ps, hn, _ => by
    have := ct_pos p.1
    rw [pct] at hn
    omega
  | n + 1, A, p :: ps, hn, h => by
    rw [flat_head] at h
    have ck := pct_kids p
    rw [pct] at hn
    cases A with
    | nil =>
      rw [List.nil_append] at h
      injection h with e1 e2
      subst e1
      exact ⟨flat ps, by rw [← e2, flat_append]⟩
    | cons a A =>
      rw [List.cons_append] at h
      injection h with e1 e2
      exact flat_mid g d X n A _ (by rw [pct_append]; omega) e2
theorem flat_cut : ∀ (ks ts Y : List (Fm × Bool)), flat ts = flat ks ++ Y → ∃ ts2, ts = ks ++ ts2 ∧ flat ts2 = Y
  | [], ts, Y, h => ⟨ts, rfl, h⟩
  | k :: ks, [], Y, h => by rw [flat_head] at h; simp [flat] at h
  | k :: ks, t :: ts, Y, h => by
    have h' := h
    rw [flat_head, flat_head, List.cons_append] at h
    injection h with e1 e2
    subst e1
    rw [flat_cons, flat_cons, List.append_assoc] at h'
    obtain ⟨ts2, e3, e4⟩ := flat_cut ks ts Y (List.append_cancel_left h')
    exact ⟨ts2, by rw [e3]; rfl, e4⟩
mutual
theorem pre_len : ∀ (f : Fm) (d : Bool), (pre f d).length = f.ct
  | .rel n xs, d => rfl
  | .same x y, d => rfl
  | .neg f, d => by rw [pre, List.length_cons, pre_len f, ct]; omega
  | .con b fs, d => by rw [pre, List.length_cons, pres_len fs, ct]; omega
  | .qu b x f, d => by rw [pre, List.length_cons, pre_len f, ct]; omega
theorem pres_len : ∀ (fs : List Fm) (d : Bool), (pres fs d).length = cts fs
  | [], d => rfl
  | f :: fs, d => by rw [pres, List.length_append, pre_len f, pres_len fs, cts]
end
theorem trs_map (d : Bool) : ∀ fs : List Fm, trs fs d = fs.map fun k => tr k d
  | [] => rfl
  | f :: fs => by rw [trs, trs_map d fs]; rfl
/-- a formula turned, from its parts turned -/
def one (g : Fm) (d : Bool) (rs : List Fm) : Option Fm := match g, rs with
  | .rel n xs, _ => some (if d = true then .neg (.rel n xs) else .rel n xs)
  | .same x y, _ => some (if d = true then .neg (.same x y) else .same x y)
  | .neg _, [r] => some r
  | .con b _, rs => some (.con (b != d) rs)
  | .qu b x _, [r] => some (.qu (b != d) x r)
  | _, _ => none
theorem one_tr (g : Fm) (d : Bool) : one g d (g.kids.map fun k => tr k (bel g d)) = some (tr g d) := by
  cases g with
  | rel n xs => rfl
  | same x y => rfl
  | neg f => rfl
  | con b fs => rw [tr, trs_map]; rfl
  | qu b x f => rfl
/-- truth -/
def rows : List (Str × List (List Int)) → Str → Option (List (List Int))
  | [], _ => none
  | r :: rs, n => if r.1 = n then some r.2 else rows rs n
def holds (rs : List (Str × List (List Int))) (n : Str) (t : List Int) : Bool := match rows rs n with | none => false | some ts => (ts.map fun z : List Int => PyData.tuple (z.map PyData.int)).any fun z => PyData.eqv z (.tuple (t.map PyData.int))
def set1 (e : Str → Int) (x : Str) (i : Int) : Str → Int := fun y => if y = x then i else e y
mutual
def tv (m : Nat) (rs : List (Str × List (List Int))) : Fm → (Str → Int) → Bool
  | .rel n xs, e => holds rs n (xs.map e)
  | .same x y, e => decide (e x = e y)
  | .neg f, e => !tv m rs f e
  | .con b fs, e => tvs m rs b fs e
  | .qu b x f, e => if (List.range m).any (fun i => tv m rs f (set1 e x i) != !b) = true then b else !b
def tvs (m : Nat) (rs : List (Str × List (List Int))) (b : Bool) : List Fm → (Str → Int) → Bool
  | [], _ => b
  | f :: fs, e => if (tv m rs f e != b) = true then !b else tvs m rs b fs e
end
mutual
theorem tv_tr (m : Nat) (rs : List (Str × List (List Int))) : ∀ (f : Fm) (d : Bool) (e : Str → Int), tv m rs (tr f d) e = (tv m rs f e != d)
  | .rel n xs, d, e => by cases d <;> simp [tr, tv]
  | .same x y, d, e => by cases d <;> simp [tr, tv]
  | .neg f, d, e => by rw [tr, tv_tr m rs f, tv]; cases tv m rs f e <;> cases d <;> rfl
  | .con b fs, d, e => by rw [tr, tv, tv]; exact tvs_tr m rs b fs d e
  | .qu b x f, d, e => by
    rw [tr, tv, tv]
    have z : (fun i : Nat => tv m rs (tr f d) (set1 e x i) != !(b != d)) = (fun i : Nat => tv m rs f (set1 e x i) != !b) := by
      funext i
      rw [tv_tr m rs f]
      cases tv m rs f (set1 e x i) <;> cases b <;> cases d <;> rfl
    rw [z]
    split <;> cases b <;> cases d <;> rfl
theorem tvs_tr (m : Nat) (rs : List (Str × List (List Int))) (b : Bool) : ∀ (fs : List Fm) (d : Bool) (e : Str → Int), tvs m rs (b != d) (trs fs d) e = (tvs m rs b fs e != d)
  | [], d, e => by rw [trs, tvs, tvs]
  | f :: fs, d, e => by
    rw [trs, tvs, tvs, tv_tr m rs f, tvs_tr m rs b fs]
    cases tv m rs f e <;> cases b <;> cases d <;> simp
end
mutual
def bd : Fm → Nat
  | .rel _ _ => 0
  | .same _ _ => 0
  | .neg f => bd f
  | .con _ fs => bds fs
  | .qu _ _ f => 1 + bd f
def bds : List Fm → Nat
  | [] => 0
  | f :: fs => bd f + bds fs
end
mutual
theorem bd_tr : ∀ (f : Fm) (d : Bool), bd (tr f d) = bd f
  | .rel n xs, d => by cases d <;> rfl
  | .same x y, d => by cases d <;> rfl
  | .neg f, d => by rw [tr, bd_tr f, bd]
  | .con b fs, d => by rw [tr, bd, bd, bds_tr fs]
  | .qu b x f, d => by rw [tr, bd, bd, bd_tr f]
theorem bds_tr : ∀ (fs : List Fm) (d : Bool), bds (trs fs d) = bds fs
  | [], d => rfl
  | f :: fs, d => by rw [trs, bds, bds, bd_tr f, bds_tr fs]
end
theorem bds_append : ∀ (a b : List Fm), bds (a ++ b) = bds a + bds b
  | [], b => by simp [bds]
  | f :: a, b => by rw [List.cons_append, bds, bds, bds_append a b]; omega
mutual
def nnf : Fm → Bool
  | .rel _ _ => true
  | .same _ _ => true
  | .neg (.rel _ _) => true
  | .neg (.same _ _) => true
  | .neg _ => false
  | .con _ fs => nnfs fs
  | .qu _ _ f => nnf f
def nnfs : List Fm → Bool
  | [] => true
  | f :: fs => nnf f && nnfs fs
end
mutual
theorem nnf_tr : ∀ (f : Fm) (d : Bool), nnf (tr f d) = true
  | .rel n xs, d => by cases d <;> rfl
  | .same x y, d => by cases d <;> rfl
  | .neg f, d => by rw [tr]; exact nnf_tr f _
  | .con b fs, d => by rw [tr, nnf]; exact nnfs_tr fs d
  | .qu b x f, d => by rw [tr, nnf]; exact nnf_tr f d
theorem nnfs_tr : ∀ (fs : List Fm) (d : Bool), nnfs (trs fs d) = true
  | [], d => rfl
  | f :: fs, d => by rw [trs, nnfs, nnf_tr f, nnfs_tr fs]; rfl
end
theorem nnfs_mem : ∀ {fs : List Fm} {f : Fm}, nnfs fs = true → f ∈ fs → nnf f = true
  | g :: fs, f, h, hm => by
    rw [nnfs, Bool.and_eq_true] at h
    rcases List.mem_cons.mp hm with e | e
    · rw [e]; exact h.1
    · exact nnfs_mem h.2 e
mutual
theorem fr_tr : ∀ (f : Fm) (d : Bool), fr (tr f d) = fr f
  | .rel n xs, d => by cases d <;> rfl
  | .same x y, d => by cases d <;> rfl
  | .neg f, d => by rw [tr, fr_tr f, fr]
  | .con b fs, d => by rw [tr, fr, fr, frs_tr fs]
  | .qu b x f, d => by rw [tr, fr, fr, fr_tr f]
theorem frs_tr : ∀ (fs : List Fm) (d : Bool), frs (trs fs d) = frs fs
  | [], d => rfl
  | f :: fs, d => by rw [trs, frs, frs, fr_tr f, frs_tr fs]
end
mutual
theorem nm_tr : ∀ (f : Fm) (d : Bool), nm (tr f d) = nm f
  | .rel n xs, d => by cases d <;> rfl
  | .same x y, d => by cases d <;> rfl
  | .neg f, d => by rw [tr, nm_tr f, nm]
  | .con b fs, d => by rw [tr, nm, nm, nms_tr fs]
  | .qu b x f, d => by rw [tr, nm, nm, nm_tr f]
theorem nms_tr : ∀ (fs : List Fm) (d : Bool), nms (trs fs d) = nms fs
  | [], d => rfl
  | f :: fs, d => by rw [trs, nms, nms, nm_tr f, nms_tr fs]
end
mutual
theorem ct_tr : ∀ (f : Fm) (d : Bool), ct (tr f d) ≤ 2 * ct f
  | .rel n xs, d => by cases d <;> simp [tr, ct]
  | .same x y, d => by cases d <;> simp [tr, ct]
  | .neg f, d => by rw [tr, ct]; have := ct_tr f (!d); omega
  | .con b fs, d => by rw [tr, ct, ct]; have := cts_tr fs d; omega
  | .qu b x f, d => by rw [tr, ct, ct]; have := ct_tr f d; omega
theorem cts_tr : ∀ (fs : List Fm) (d : Bool), cts (trs fs d) ≤ 2 * cts fs
  | [], d => Nat.le_refl _
  | f :: fs, d => by rw [trs, cts, cts]; have := ct_tr f d; have := cts_tr fs d; omega
end
mutual
theorem dp_tr : ∀ (f : Fm) (d : Bool), dp (tr f d) ≤ dp f + 1
  | .rel n xs, d => by cases d <;> simp [tr, dp]
  | .same x y, d => by cases d <;> simp [tr, dp]
  | .neg f, d => by rw [tr, dp]; have := dp_tr f (!d); omega
  | .con b fs, d => by rw [tr, dp, dp]; exact dps_tr fs d
  | .qu b x f, d => by rw [tr, dp, dp]; have := dp_tr f d; omega
theorem dps_tr : ∀ (fs : List Fm) (d : Bool), dps (trs fs d) ≤ dps fs + 1
  | [], d => Nat.zero_le _
  | f :: fs, d => by
    rw [trs, dps, dps]
    have := dp_tr f d
    have := dps_tr fs d
    omega
end
end Fm
end Fo

set_option Elab.async false
set_option linter.all false
set_option maxRecDepth 100000
set_option maxHeartbeats 4000000
/-! Formulas from left to right, each with what is handed down to it. -/
namespace Fo
open PySem L2
namespace Hd
open Fm
variable {β : Type}
mutual
def hd (st : Fm → β → β) : Fm → β → List (Fm × β)
  | .rel n xs, b => [(.rel n xs, b)]
  | .same x y, b => [(.same x y, b)]
  | .neg f, b => (.neg f, b) :: hd st f (st (.neg f) b)
  | .con c fs, b => (.con c fs, b) :: hds st fs (st (.con c fs) b)
  | .qu c x f, b => (.qu c x f, b) :: hd st f (st (.qu c x f) b)
def hds (st : Fm → β → β) : List Fm → β → List (Fm × β)
  | [], _ => []
  | f :: fs, b => hd st f b ++ hds st fs b
end
variable {st : Fm → β → β}
def flat (st : Fm → β → β) (ps : List (Fm × β)) : List (Fm × β) := (ps.map fun p => hd st p.1 p.2).flatten
theorem flat_nil : flat st [] = [] := rfl
theorem flat_cons (p : Fm × β) (ps : List (Fm × β)) : flat st (p :: ps) = hd st p.1 p.2 ++ flat st ps := rfl
theorem flat_append (a b : List (Fm × β)) : flat st (a ++ b) = flat st a ++ flat st b := by
  unfold flat
  rw [List.map_append, List.flatten_append]
theorem hds_flat (d : β) : ∀ fs : List Fm, hds st fs d = flat st (fs.map fun k => (k, d))
  | [] => by rw [hds]; rfl
  | f :: fs => by rw [hds, hds_flat d fs]; rfl
theorem hd_kids (f : Fm) (d : β) : hd st f d = (f, d) :: flat st (f.kids.map fun k => (k, st f d)) := by
  cases f with
  | rel n xs => rw [hd]; rfl
  | same x y => rw [hd]; rfl
  | neg f => rw [hd]; show _ = (Fm.neg f, d) :: (hd st f (st (.neg f) d) ++ []); rw [List.append_nil]
  | con b fs => rw [hd, hds_flat]; rfl
  | qu b x f => rw [hd]; show _ = (Fm.qu b x f, d) :: (hd st f (st (.qu b x f) d) ++ []); rw [List.append_nil]
theorem flat_head (p : Fm × β) (ps : List (Fm × β)) : flat st (p :: ps) = p :: flat st ((p.1.kids.map fun k => (k, st p.1 p.2)) ++ ps) := by
  rw [flat_cons, hd_kids, flat_append]
  rfl
theorem pct_kids (p : Fm × β) : p.1.ct = 1 + pct (p.1.kids.map fun k => (k, st p.1 p.2)) := by rw [pct_map, ct_kids]
theorem flat_mid (g : Fm) (d : β) (X : List (Fm × β)) : ∀ (n : Nat) (A ps : List (Fm × β)), pct ps ≤ n → flat st ps = A ++ (g, d) :: X → ∃ Y, X = flat st (g.kids.map fun k => (k, st g d)) ++ Y
  | n, A, [], _, h => by simp [flat] at h
  | 0, A, p :: ps, hn, _ => by
    have := ct_pos p.1
    rw [pct] at hn
    omega
  | n + 1, A, p :: ps, hn, h => by
    rw [flat_head] at h
    have ck := pct_kids (st := st) p
    rw [pct] at hn
    cases A with
    | nil =>
      rw [List.nil_append] at h
      injection h with e1 e2
      subst e1
      exact ⟨flat st ps, by rw [← e2, flat_append]⟩
    | cons a A =>
      rw [List.cons_append] at h
      injection h with e1 e2
      exact flat_mid g d X n A _ (by rw [pct_append]; omega) e2
theorem flat_cut : ∀ (ks ts Y : List (Fm × β)), flat st ts = flat st ks ++ Y → ∃ ts2, ts = ks ++ ts2 ∧ flat st ts2 = Y
  | [], ts, Y, h => ⟨ts, rfl, h⟩
  | k :: ks, [], Y, h => by rw [flat_head] at h; simp [flat] at h
  | k :: ks, t :: ts, Y, h => by
    have h' := h
    rw [flat_head, flat_head, List.cons_append] at h
    injection h with e1 e2
    subst e1
    rw [flat_cons, flat_cons, List.append_assoc] at h'
    obtain ⟨ts2, e3, e4⟩ := flat_cut ks ts Y (List.append_cancel_left h')
    exact ⟨ts2, by rw [e3]; rfl, e4⟩
mutual
theorem hd_len : ∀ (f : Fm) (d : β), (hd st f d).length = f.ct
  | .rel n xs, d => by rw [hd]; rfl
  | .same x y, d => by rw [hd]; rfl
  | .neg f, d => by rw [hd, List.length_cons, hd_len f, ct]; omega
  | .con b fs, d => by rw [hd, List.length_cons, hds_len fs, ct]; omega
  | .qu b x f, d => by rw [hd, List.length_cons, hd_len f, ct]; omega
theorem hds_len : ∀ (fs : List Fm) (d : β), (hds st fs d).length = cts fs
  | [], d => by rw [hds]; rfl
  | f :: fs, d => by rw [hds, List.length_append, hd_len f, hds_len fs, cts]
end
theorem len_flat : ∀ ps : List (Fm × β), ps.length ≤ (flat st ps).length
  | [] => Nat.le_refl _
  | p :: ps => by
    rw [flat_head, List.length_cons, List.length_cons, flat_append, List.length_append]
    have := len_flat ps
    omega
/-- something true of each formula with what it has, if it goes on to what is within -/
theorem hd_all {R : Fm → β → Prop} (hs : ∀ g b, R g b → ∀ k ∈ g.kids, R k (st g b)) : ∀ (n : Nat) (ps : List (Fm × β)), pct ps ≤ n → (∀ p ∈ ps, R p.1 p.2) → ∀ p ∈ flat st ps, R p.1 p.2
  | n, [], _, _ => by simp [flat]
  | 0, p :: ps, hn, _ => by
    have := ct_pos p.1
    rw [pct] at hn
    omega
  | n + 1, p :: ps, hn, h => by
    rw [flat_head]
    have ck := pct_kids (st := st) p
    rw [pct] at hn
    intro q hq
    rcases List.mem_cons.mp hq with rfl | hq
    · exact h _ List.mem_cons_self
    refine hd_all hs n _ (by rw [pct_append]; omega) ?_ q hq
    intro r hr
    rcases List.mem_append.mp hr with e | e
    · obtain ⟨k, hk, rfl⟩ := List.mem_map.mp e
      exact hs _ _ (h _ List.mem_cons_self) k hk
    · exact h _ (List.mem_cons_of_mem _ e)
/-! what is handed down, in the heap -/
def PrAt (K : PySem.W.Frag) (At : Hp → V → β → Prop) (H : Hp) (u : V) (p : Fm × β) : Prop := ∃ (a : Addr) (v x : V), u = .ref a ∧ SqT K H a [v, x] ∧ FmAt K H v p.1 ∧ At H x p.2
structure Stay (K : PySem.W.Frag) (At : Hp → V → β → Prop) : Prop where
  go : ∀ {H H' : Hp} {u : V} {b : β}, Tk K H H' → At H u b → At H' u b
theorem PrAt.tk {K : PySem.W.Frag} {At : Hp → V → β → Prop} (sa : Stay K At) {H H' : Hp} {u : V} {p : Fm × β} (k : Tk K H H') (h : PrAt K At H u p) : PrAt K At H' u p :=
  let ⟨a, v, x, e, h1, h2, h3⟩ := h; ⟨a, v, x, e, k _ _ h1, h2.tk k, sa.go k h3⟩
theorem pr_new {K : PySem.W.Frag} {At : Hp → V → β → Prop} (sa : Stay K At) {H : Hp} {p : Addr} {v x : V} {f : Fm} {d : β} (np : H p = none) (h : FmAt K H v f) (hx : At H x d) : PrAt K At (upd H p (.tup [v, x])) (.ref p) (f, d) :=
  ⟨p, v, x, rfl, SqT.of upd_same, h.tk (tk_new np _), sa.go (tk_new np _) hx⟩
/-- what the function that tells what is handed down does -/
def spBelow (K : PySem.W.Frag) (At : Hp → V → β → Prop) (st : Fm → β → β) (Ok : Fm → β → Prop) : Sp := fun vs H Q _ => ∃ (v u : V) (g : Fm) (b : β), vs = [v, u] ∧ FmAt K H v g ∧ At H u b ∧ Ok g b ∧ ∀ (u' : V) (H' : Hp), Same H H' → At H' u' (st g b) → Q u' H'
def spHanded (K : PySem.W.Frag) (At : Hp → V → β → Prop) (st : Fm → β → β) (Ok : Fm → β → Prop) (fb : Addr) : Sp := fun vs H Q _ => ∃ (v u : V) (g : Fm) (b : β), vs = [v, u, .ref fb] ∧ FmAt K H v g ∧ At H u b ∧ Ok g b ∧ g.ct ≤ 1000 ∧
  ∀ (F : Addr) (us : List V) (H' : Hp), Same H H' → H F = none → H' F = some (.lst us) → All2 (PrAt K At H') us (hd st g b) → Q (.ref F) H'
end Hd
theorem all2_rev {α β : Type} {R : α → β → Prop} {as : List α} {bs : List β} (h : All2 R as bs) : All2 R as.reverse bs.reverse := by
  induction h with
  | nil => exact .nil
  | cons r _ ih => rw [List.reverse_cons, List.reverse_cons]; exact ih.snoc r
theorem fms_all2 {K : PySem.W.Frag} {H : Hp} : ∀ {us : List V} {fs : List Fm}, FmsAt K H us fs → All2 (FmAt K H) us fs
  | us, [], h => by rw [h.unnil]; exact .nil
  | us, f :: fs, h => by
    obtain ⟨u, r, rfl, h1, h2⟩ := h.uncons
    exact .cons h1 (fms_all2 h2)
theorem all2_fms {K : PySem.W.Frag} {H : Hp} {us : List V} {fs : List Fm} (h : All2 (FmAt K H) us fs) : FmsAt K H us fs := by
  induction h with
  | nil => exact .nil
  | cons r _ ih => exact .cons r ih
theorem cts_rev (fs : List Fm) : Fm.cts fs.reverse = Fm.cts fs := by
  induction fs with
  | nil => rfl
  | cons f fs ih => rw [List.reverse_cons, Fm.cts_append, ih, Fm.cts_single, Fm.cts]; omega
end Fo

set_option Elab.async false
set_option linter.all false
set_option maxRecDepth 100000
set_option maxHeartbeats 4000000
/-! t[::-1] of a tuple -/
namespace Rv
open PySem PySem.Spec PyProof.Rows L2
section
variable {P : Program} {w : World} {A : Around} {E : Value → Shared → Prop} {s : Shared}
theorem applied {sl : Addr} {a b c : Value} {n : Nat} {Q : Int × Int × Nat → Shared → Prop} (hs : s.heap.IsSliceOf sl a b c) (pa : IsPart a none) (pb : IsPart b none) (pc : IsPart c (some (-1))) (h : Q ((n : Int) - 1, -1, n) s) :
    wpAny (model P w) A (Builtin.Slice.sliceApplied (.ref sl) (pure (n : Int))) Q E s := by
  obtain ⟨os, hos, hcs, hds⟩ := id hs
  unfold Builtin.Slice.sliceApplied Builtin.Slice.sliceFields
  refine wpAny_bind (wpAny_bind (wpAny_field hos hds (x := a) rfl (wpAny_bind (wpAny_field hos hds (x := b) rfl (wpAny_bind (wpAny_field hos hds (x := c) rfl (wpAny_pure ?_)))))))
  refine wpAny_bind (HT.slicePart_ pc ?_)
  show wpAny _ _ (if ((-1 : Int) == 0) = true then _ else _) _ _ s
  rw [if_neg (by decide)]
  refine wpAny_bind (HT.slicePart_ pa (wpAny_bind (HT.slicePart_ pb (wpAny_bind (wpAny_pure ?_)))))
  have e1 : Builtin.Slice.sliceAdjust none none (-1) (n : Int) = ((n : Int) - 1, -1) := rfl
  have e2 : Builtin.Slice.slicePlaces ((n : Int) - 1) (-1) (-1) = n := by
    unfold Builtin.Slice.slicePlaces
    rw [if_neg (by decide)]
    by_cases z : (n : Int) - 1 > -1
    · rw [if_pos z, show (-(-1 : Int)) = 1 by decide, Int.ediv_one]
      omega
    · rw [if_neg z]
      omega
  show wpAny _ _ (pure ((n : Int) - 1, (-1 : Int), Builtin.Slice.slicePlaces ((n : Int) - 1) (-1) (-1))) _ _ s
  rw [e2]
  exact wpAny_pure h
theorem fm_congr {α β : Type} {f g : α → Option β} : ∀ (l : List α), (∀ a ∈ l, f a = g a) → l.filterMap f = l.filterMap g
  | [], _ => rfl
  | a :: l, h => by
    rw [List.filterMap_cons, List.filterMap_cons, h a List.mem_cons_self, fm_congr l fun b hb => h b (List.mem_cons_of_mem _ hb)]
theorem picked (xs : Array Value) : ((List.range xs.size).filterMap fun (k : Nat) => xs[((xs.size : Int) - 1 + (k : Int) * (-1)).toNat]?) = xs.toList.reverse := by
  have e : (List.range xs.size).filterMap (fun (k : Nat) => xs[((xs.size : Int) - 1 + (k : Int) * (-1)).toNat]?) = (List.range xs.size).filterMap (fun k => xs[xs.size - 1 - k]?) := by
    refine fm_congr _ fun k hk => ?_
    have lt := List.mem_range.mp hk
    have z : ((xs.size : Int) - 1 + (k : Int) * (-1)).toNat = xs.size - 1 - k := by omega
    rw [z]
  have m : (List.range xs.size).filterMap (fun k => xs[xs.size - 1 - k]?) = ((List.range xs.size).map (fun k => xs.size - 1 - k)).filterMap (xs[·]?) := by
    rw [List.filterMap_map]
    rfl
  rw [e, m, PySem.W.krv_range, List.filterMap_reverse, PySem.W.krv_all]
theorem tup_rev {t sl : Addr} {its : Array Value} {a b c : Value} {Q : Value → Shared → Prop} (ht : IsTup s.heap t its) (hs : s.heap.IsSliceOf sl a b c) (pa : IsPart a none) (pb : IsPart b none) (pc : IsPart c (some (-1)))
    (h : Q (.ref s.heap.objs.size) { s with heap := s.heap.push { cls := .type "tuple", data := .seq its.toList.reverse.toArray } }) (hz : its.size ≤ sizeLine) : wpAny (model P w) A (getItem (.ref t) (.ref sl)) Q E s := by
  have ok : sizeOk (.seq its.toList.reverse.toArray) := by
    show its.toList.reverse.toArray.size ≤ sizeLine
    rw [List.size_toArray, List.length_reverse, Array.length_toList]
    exact hz
  obtain ⟨os, hos, hcs, hds⟩ := id hs
  have hT : s.TypeIs (.ref sl) "slice" := ⟨os, hos, hcs⟩
  unfold getItem
  try with_reducible refine wpAny_holding ?_
  first | refine wpAny_bind (wpAny_pure ?_) | skip
  refine wpAny_bind (wpAny_sequenceKey ht.typeIs (by decide) ?_)
  refine wpAny_bind (wpAny_callSpecial?_slot (name := Str.ofString "__getitem__") ht.typeIs PyProof.Rows.slot_tuple_getitem
    (wpAny_call_entry PyProof.Rows.slot_tuple_getitem ht.typeIs entry_tuple_getitem ?_ (args_tuple_getitem _ _)))
  show wpAny _ _ (Builtin.Tuple.tupleItemsOf (.ref t) >>= _) _ _ s
  refine wpAny_bind (tupleItemsOf_ ht (wpAny_bind (wpAny_typeOf hT ?_)))
  rw [if_pos (by decide)]
  refine wpAny_bind (applied hs pa pb pc ?_)
  have no : ¬ (((its.size : Int) - 1 == 0 && (-1 : Int) == 1 && its.size == its.size) = true) := by
    intro q
    rw [Bool.and_eq_true, Bool.and_eq_true] at q
    exact absurd q.1.2 (by decide)
  show wpAny _ _ (if ((its.size : Int) - 1 == 0 && (-1 : Int) == 1 && its.size == its.size) = true then _ else _) _ _ s
  rw [if_neg no, picked]
  first
    | exact wpAny_bind (m := Builtin.Tuple.tupleExact _) (wpAny_newObj_type (wpAny_pure ⟨_, rfl, wpAny_pure h⟩) ok)
    | exact wpAny_bind (m := Builtin.Tuple.tupleExact _) (wpAny_newObj_type (wpAny_bind (wpAny_pure (wpAny_pure ⟨_, rfl, wpAny_pure h⟩))) ok)
    | exact wpAny_bind (wpAny_bind (m := Builtin.Tuple.tupleExact _) (wpAny_newObj_type (wpAny_pure (wpAny_pure ⟨_, rfl, wpAny_pure h⟩)) ok))
    | exact wpAny_bind (wpAny_bind (m := Builtin.Tuple.tupleExact _) (wpAny_newObj_type (wpAny_pure ⟨_, rfl, wpAny_pure h⟩) ok))
end
def tRevT (K : PySem.W.Frag) (te : TE) : TE := fun σ H Q => te σ H fun x H1 => ∃ a xs, x = .ref a ∧ SqT K H1 a xs ∧ ∀ p, H1 p = none → Q (.ref p) (upd H1 p (.tup xs.reverse))
theorem pe_revT {X : Cx} {e : Expr} {te : TE} {k : Nat} {p1 p2 p3 pos : Pos} (he : PE X e te) : PE X (.Subscript e (.Slice none none (some (.UnaryOp .USub (.Constant (.int 1) k p1) p2)) p3) pos) (tRevT X.K te) := by
  refine ⟨fun pins s σ H Q I h => ?_⟩
  refine Subscript_ (thn (he.run pins s σ H _ I h) fun v s1 ⟨x, H1, I1, r1, a, xs, ex, hx, q⟩ => ?_)
  subst ex
  cases r1
  have third : PO X (some (.UnaryOp .USub (.Constant (.int 1) k p1) p2)) (tPart (tUn (rU fun i => .int (-i)) (tC (.int 1)))) := po_some (pe_un un_neg pe_int)
  refine wpAny_Slice (thn (po_none.run pins s1 σ H1 (fun o G => o = none ∧ G = H1) I1 ⟨rfl, rfl⟩) fun va s2 ⟨oa, G, I2, qa, ea, eG⟩ => ?_)
  subst ea eG
  refine thn (po_none.run pins s2 σ G (fun o G' => o = none ∧ G' = G) I2 ⟨rfl, rfl⟩) fun vb s3 ⟨ob, G', I3, qb, eb, eG'⟩ => ?_
  subst eb eG'
  refine thn (third.run pins s3 σ G' (fun o G2 => o = some (-1) ∧ G2 = G') I3 ⟨1, rfl, -1, rfl, rfl, rfl⟩) fun vc s4 ⟨oc, G2, I4, qc, ec, eG2⟩ => ?_
  subst ec eG2
  have I5 : Inv X pins σ G2 { s4 with heap := s4.heap.push { cls := .type "slice", data := .fields #[va, vb, vc] } } := I4.kept (t' := s4.toks) fun b ob q => Heap.get?_push_of_some _ q
  obtain ⟨its, r, ht, hz⟩ := I5.tuple hx
  have hlen := r.length
  show wpAny (model X.prog X.w) X.A (subscriptTail e (.Slice none none (some (.UnaryOp .USub (.Constant (.int 1) k p1) p2)) p3) (.ref a) (.ref s4.heap.objs.size)) (EP X pins σ Q) X.xe { s4 with heap := s4.heap.push { cls := .type "slice", data := .fields #[va, vb, vc] } }
  refine tail_any (ops := [.ref a, .ref s4.heap.objs.size]) ht.typeIs PyProof.Rows.slot_tuple_getitem.lookup ?_ (by with_unfolding_all rfl)
  refine tup_rev ht (Heap.IsSliceOf.new _ va vb vc) qa qb qc ?_ (by rw [List.size_toArray]; omega)
  refine ⟨.ref _, _, I5.laid (t' := s4.toks) (o := .tup xs.reverse) (fun b ob q => Heap.get?_push_of_some _ q) (Nat.le_refl _) ?_, rfl, q _ (I5.hok.fresh (Nat.le_refl _))⟩
  exact ⟨by rw [List.length_reverse]; exact hz, _, r.reverse, IsTup.new _ _⟩
end Rv

set_option Elab.async false
set_option linter.all false
set_option maxRecDepth 100000
set_option maxHeartbeats 4000000
/-! Dicts whose keys are tuples of any depth, of ints and texts: what the object level asks. -/
namespace Ndk
open PySem PySem.Spec PyProof.Rows
open L2 (Key kV keyH mixKind)
inductive Nk where
  | ak (k : Key)
  | tp (ks : List Nk)
noncomputable instance : DecidableEq Nk := fun a b => Classical.propDecidable (a = b)
namespace Nk
mutual
def dep : Nk → Nat
  | .ak _ => 0
  | .tp ks => deps ks + 1
def deps : List Nk → Nat
  | [] => 0
  | k :: ks => max (dep k) (deps ks)
end
mutual
def hash (w : World) : Nk → Int
  | .ak k => keyH w k
  | .tp ks => reduceHash (Builtin.Tuple.tupleHashOf (hashes w ks))
def hashes (w : World) : List Nk → List Int
  | [] => []
  | k :: ks => hash w k :: hashes w ks
end
mutual
def draws : Nk → Nat
  | .ak _ => 1
  | .tp ks => drawsL ks + 1
def drawsL : List Nk → Nat
  | [] => 0
  | k :: ks => draws k + drawsL ks
end
end Nk
/-- v holds the key k -/
def IsAt (k : Key) (v : Value) : Prop := (∃ i t, k = .inl i ∧ v = .int i t) ∨ ∃ x t, k = .inr x ∧ v = .str x t
mutual
def IsNk (h : Heap) : Nk → Value → Prop
  | .ak k, v => IsAt k v
  | .tp ks, v => ∃ a items, v = .ref a ∧ h.IsTuple a items ∧ IsNks h ks items.toList
def IsNks (h : Heap) : List Nk → List Value → Prop
  | [], vs => vs = []
  | k :: ks, vs => ∃ v r, vs = v :: r ∧ IsNk h k v ∧ IsNks h ks r
end
theorem IsAt.inj {j k : Key} {v : Value} (a : IsAt j v) (b : IsAt k v) : j = k := by
  rcases a with ⟨i, t, rfl, rfl⟩ | ⟨x, t, rfl, rfl⟩ <;> rcases b with ⟨i', t', rfl, e⟩ | ⟨x', t', rfl, e⟩ <;> cases e <;> rfl
theorem tup_inj {h : Heap} {a : Addr} {is js : Array Value} (x : h.IsTuple a is) (y : h.IsTuple a js) : is = js := by
  obtain ⟨o, ho, _, n, hd⟩ := x
  obtain ⟨o', ho', _, n', hd'⟩ := y
  rw [ho] at ho'
  cases ho'
  rw [hd] at hd'
  injection hd'
mutual
theorem IsNk.inj {h : Heap} : ∀ {x y : Nk} {v : Value}, IsNk h x v → IsNk h y v → x = y
  | .ak j, .ak k, v, a, b => by rw [IsNk] at a; rw [IsNk] at b; rw [a.inj b]
  | .ak j, .tp ks, v, a, b => by
    rw [IsNk] at a; rw [IsNk] at b
    obtain ⟨c, is, rfl, _⟩ := b
    rcases a with ⟨_, _, _, e⟩ | ⟨_, _, _, e⟩ <;> cases e
  | .tp ks, .ak j, v, b, a => by
    rw [IsNk] at a; rw [IsNk] at b
    obtain ⟨c, is, rfl, _⟩ := b
    rcases a with ⟨_, _, _, e⟩ | ⟨_, _, _, e⟩ <;> cases e
  | .tp ks, .tp js, v, a, b => by
    rw [IsNk] at a; rw [IsNk] at b
    obtain ⟨c, is, rfl, h1, h2⟩ := a
    obtain ⟨c', is', e, h1', h2'⟩ := b
    cases e
    rw [tup_inj h1' h1] at h2'
    rw [IsNks.inj h2 h2']
theorem IsNks.inj {h : Heap} : ∀ {x y : List Nk} {vs : List Value}, IsNks h x vs → IsNks h y vs → x = y
  | [], [], vs, a, b => rfl
  | [], k :: ks, vs, a, b => by
    rw [IsNks] at a; rw [IsNks] at b
    obtain ⟨v, r, e, _⟩ := b
    rw [a] at e; cases e
  | k :: ks, [], vs, b, a => by
    rw [IsNks] at a; rw [IsNks] at b
    obtain ⟨v, r, e, _⟩ := b
    rw [a] at e; cases e
  | k :: ks, j :: js, vs, a, b => by
    rw [IsNks] at a; rw [IsNks] at b
    obtain ⟨v, r, rfl, h1, h2⟩ := a
    obtain ⟨v', r', e, h1', h2'⟩ := b
    cases e
    rw [IsNk.inj h1 h1', IsNks.inj h2 h2']
end
theorem IsNks.length {h : Heap} : ∀ {ks : List Nk} {vs : List Value}, IsNks h ks vs → vs.length = ks.length
  | [], vs, a => by rw [IsNks] at a; rw [a]; rfl
  | k :: ks, vs, a => by
    rw [IsNks] at a
    obtain ⟨v, r, rfl, _, h2⟩ := a
    rw [List.length_cons, List.length_cons, h2.length]
theorem IsNks.get {h : Heap} : ∀ {ks : List Nk} {vs : List Value}, IsNks h ks vs → ∀ {i : Nat} (h1 : i < vs.length) (h2 : i < ks.length), IsNk h ks[i] vs[i]
  | [], vs, a, i, h1, h2 => by simp at h2
  | k :: ks, vs, a, i, h1, h2 => by
    rw [IsNks] at a
    obtain ⟨v, r, rfl, hv, hr⟩ := a
    cases i with
    | zero => exact hv
    | succ i => exact hr.get (by simpa using h1) (by simpa using h2)
/-- the tuples stay -/
def Stays (h h' : Heap) : Prop := ∀ a is, h.IsTuple a is → h'.IsTuple a is
mutual
theorem IsNk.stay {h h' : Heap} (s : Stays h h') : ∀ {x : Nk} {v : Value}, IsNk h x v → IsNk h' x v
  | .ak j, v, a => by rw [IsNk] at a ⊢; exact a
  | .tp ks, v, a => by
    rw [IsNk] at a ⊢
    obtain ⟨c, is, e, h1, h2⟩ := a
    exact ⟨c, is, e, s _ _ h1, IsNks.stay s h2⟩
theorem IsNks.stay {h h' : Heap} (s : Stays h h') : ∀ {x : List Nk} {vs : List Value}, IsNks h x vs → IsNks h' x vs
  | [], vs, a => by rw [IsNks] at a ⊢; exact a
  | k :: ks, vs, a => by
    rw [IsNks] at a ⊢
    obtain ⟨v, r, e, h1, h2⟩ := a
    exact ⟨v, r, e, IsNk.stay s h1, IsNks.stay s h2⟩
end
theorem deps_get : ∀ {ks : List Nk} {i : Nat} (h : i < ks.length), ks[i].dep ≤ Nk.deps ks
  | k :: ks, 0, h => by rw [Nk.deps]; exact Nat.le_max_left _ _
  | k :: ks, i + 1, h => by
    rw [Nk.deps]
    have := deps_get (ks := ks) (i := i) (by simpa using h)
    exact Nat.le_trans this (Nat.le_max_right _ _)
theorem deps_mem {ks : List Nk} {k : Nk} (h : k ∈ ks) : k.dep ≤ Nk.deps ks := by
  obtain ⟨i, hi, e⟩ := List.getElem_of_mem h
  rw [← e]
  exact deps_get hi
/-! ### equality -/
open PySem.SeqAt in
theorem eq_at {A : Around} {s : Shared} {j k : Key} {u v : Value} (a : IsAt j u) (b : IsAt k v) : EqAt A s u v (decide (Nk.ak j = Nk.ak k)) := by
  rcases a with ⟨i, t, rfl, rfl⟩ | ⟨x, t, rfl, rfl⟩ <;> rcases b with ⟨i', t', rfl, rfl⟩ | ⟨x', t', rfl, rfl⟩
  · have e : decide (Nk.ak (.inl i) = Nk.ak (.inl i')) = (i == i') := by
      by_cases z : i = i'
      · subst z; simp
      · rw [decide_eq_false (fun q => z (by injection q with q; injection q)), beq_eq_false_iff_ne.mpr z]
    rw [e]; exact .int_int _ _ _ _
  · rw [decide_eq_false (fun q => by injection q with q; cases q)]; exact .int_str _ _ _ _
  · rw [decide_eq_false (fun q => by injection q with q; cases q)]; exact .str_int _ _ _ _
  · have e : decide (Nk.ak (.inr x) = Nk.ak (.inr x')) = (x == x') := by
      by_cases z : x = x'
      · subst z; simp
      · rw [decide_eq_false (fun q => z (by injection q with q; injection q)), beq_eq_false_iff_ne.mpr z]
    rw [e]; exact .str_str _ _ _ _
end Ndk

set_option Elab.async false
set_option linter.all false
set_option maxRecDepth 100000
set_option maxHeartbeats 4000000
namespace Ndk
open PySem PySem.Spec PyProof.Rows PySem.SeqAt
open L2 (Key kV keyH mixKind)
def EqOk (x : Nk) : Prop := ∀ (y : Nk) (A : Around) (s : Shared) (u v : Value), A.units + x.dep < cLine → IsNk s.heap x u → IsNk s.heap y v → EqAt A s u v (decide (x = y))
theorem all_eq {ks js : List Nk} : ((List.range (min ks.length js.length)).all (fun j => if h : j < ks.length ∧ j < js.length then decide (ks[j] = js[j]) else true) && ks.length == js.length) = decide (Nk.tp ks = Nk.tp js) := by
  by_cases e : ks = js
  · subst e
    rw [decide_eq_true rfl]
    simp
  · rw [decide_eq_false (fun z => e (by injection z))]
    rw [Bool.eq_false_iff]
    intro q
    rw [Bool.and_eq_true, beq_iff_eq, List.all_eq_true] at q
    apply e
    refine List.ext_getElem q.2 fun i h1 h2 => ?_
    have := q.1 i (List.mem_range.mpr (by omega))
    rw [dif_pos ⟨h1, h2⟩] at this
    exact of_decide_eq_true this
mutual
theorem eq_nk : ∀ x : Nk, EqOk x
  | .ak j => fun y A s u v hu a b => by
    rw [IsNk] at a
    cases y with
    | ak k => rw [IsNk] at b; exact eq_at a b
    | tp ks =>
      rw [IsNk] at b
      obtain ⟨c, is, rfl, ht, _⟩ := b
      rw [decide_eq_false (fun z => nomatch z)]
      have hu' : A.units < cLine := by omega
      rcases a with ⟨i, t, rfl, rfl⟩ | ⟨x, t, rfl, rfl⟩
      · exact .int_tuple _ _ ht hu'
      · exact .str_tuple _ _ ht hu'
  | .tp ks => fun y A s u v hu a b => by
    have hu' : A.units < cLine := by omega
    rw [IsNk] at a
    obtain ⟨c, is, rfl, ht, hs⟩ := a
    cases y with
    | ak k =>
      rw [IsNk] at b
      rw [decide_eq_false (fun z => nomatch z)]
      rcases b with ⟨i, t, rfl, rfl⟩ | ⟨x, t, rfl, rfl⟩
      · exact .tuple_int _ _ ht hu'
      · exact .tuple_str _ _ ht hu'
    | tp js =>
      rw [IsNk] at b
      obtain ⟨c', is', rfl, ht', hs'⟩ := b
      by_cases hne : c = c'
      · subst hne
        rw [tup_inj ht' ht] at hs'
        rw [IsNks.inj hs hs', decide_eq_true rfl]
        exact EqAt.same _
      · refine EqAt.of_refs hne ?_
        have l1 := hs.length
        have l2 := hs'.length
        have l1' : is.size = ks.length := l1
        have l2' : is'.size = js.length := l2
        have q := RcAt.tuples (A := A) (s := s) (e := fun j => if h : j < ks.length ∧ j < js.length then decide (ks[j] = js[j]) else true) ht ht' hu' (fun j h1 h2 => by
          have k1 : j < ks.length := by omega
          have k2 : j < js.length := by omega
          show EqAt A.in1 s is[j] is'[j] (if h : j < ks.length ∧ j < js.length then decide (ks[j] = js[j]) else true)
          rw [dif_pos ⟨k1, k2⟩]
          have ok := eqs_nk ks ks[j] (List.getElem_mem k1)
          refine ok js[j] A.in1 s is[j] is'[j] ?_ (hs.get (i := j) h1 k1) (hs'.get (i := j) h2 k2)
          have dg := deps_get k1
          have : (Nk.tp ks).dep = Nk.deps ks + 1 := by rw [Nk.dep]
          show A.units + 1 + ks[j].dep < cLine
          omega)
        rw [l1', l2', all_eq] at q
        exact q
theorem eqs_nk : ∀ ks : List Nk, ∀ x ∈ ks, EqOk x
  | [], x, h => by cases h
  | k :: ks, x, h => by
    rcases List.mem_cons.mp h with e | h
    · rw [e]; exact eq_nk k
    · exact eqs_nk ks x h
end
/-! ### hash -/
section
variable {prog : Program} {w : World}
def HashOk (prog : Program) (w : World) (x : Nk) : Prop := ∀ (A : Around) (E : Value → Shared → Prop) (s : Shared) (v : Value) (Q : Int → Shared → Prop), A.units + x.dep < cLine → IsNk s.heap x v → Q (x.hash w) { s with toks := s.toks + x.draws } → wpAny (model prog w) A (pyHash v) Q E s
theorem key_is {k : Key} {v : Value} (a : IsAt k v) : (mixKind prog w).is k v = true := by
  rcases a with ⟨i, t, rfl, rfl⟩ | ⟨x, t, rfl, rfl⟩
  · exact L2.kV_is (k := .inl i) ⟨t, rfl⟩
  · exact L2.kV_is (k := .inr x) ⟨t, rfl⟩
theorem hashes_app : ∀ (a b : List Nk), Nk.hashes w (a ++ b) = Nk.hashes w a ++ Nk.hashes w b
  | [], b => by rw [Nk.hashes]; rfl
  | x :: a, b => by rw [List.cons_append, Nk.hashes, Nk.hashes, hashes_app a b]; rfl
theorem draws_app : ∀ (a b : List Nk), Nk.drawsL (a ++ b) = Nk.drawsL a + Nk.drawsL b
  | [], b => by rw [Nk.drawsL]; simp
  | x :: a, b => by rw [List.cons_append, Nk.drawsL, Nk.drawsL, draws_app a b]; omega
theorem tup_type {s : Shared} {a : Addr} {is : Array Value} (x : s.heap.IsTuple a is) : s.TypeIs (.ref a) "tuple" := let ⟨o, ho, hc, _⟩ := x; ⟨o, ho, hc⟩
theorem hash_tup {ks : List Nk} (ih : ∀ x ∈ ks, HashOk prog w x) : HashOk prog w (.tp ks) := by
  intro A E s v Q hu a h
  rw [IsNk] at a
  obtain ⟨c, items, rfl, ht, hi⟩ := a
  have hT := tup_type ht
  obtain ⟨o, ho, _, n, hd⟩ := ht
  have hdep : (Nk.tp ks).dep = Nk.deps ks + 1 := by rw [Nk.dep]
  unfold pyHash
  first | unfold pyHashByItsType | skip
  first | refine wpAny_bind (wpAny_cRoomFor_or (.inr (by omega)) ?_) | skip
  refine wpAny_bind (wpAny_specialOf hT F.slot_tuple_hash.lookup ?_)
  show wpAny _ _ (if (some (Value.builtin "tuple.__hash__") == some Value.none) = true then _ else _) Q E s
  rw [if_neg (by rw [beq_builtin_none]; exact Bool.false_ne_true)]
  refine wpAny_bind (wpAny_specialOf hT F.slot_tuple_hash.lookup ?_)
  show wpAny _ _ (callSpecialIfBoundUnlessNone? (.ref c) "__hash__" _ >>= _) Q E s
  refine wpAny_bind (wpAny_callSpecialIfBoundUnlessNone?_slot hT F.slot_tuple_hash (wpAny_call_entry F.slot_tuple_hash hT F.entry_tuple_hash ?_ (F.args_tuple_hash_1 _)))
  show wpAny _ _ (Builtin.Tuple.tupleItemsOf (.ref c) >>= _) _ _ s
  refine wpAny_bind (wpAny_tupleItemsOf ho hd ?_)
  refine wpAny_bind ?_
  rw [← Array.forIn_toList]
  refine wpAny_forIn_list _
    (fun rest (b : Array Int) s' => ∃ done left, ks = done ++ left ∧ IsNks s.heap left rest ∧ b.toList = Nk.hashes w done ∧ s' = { s with toks := s.toks + Nk.drawsL done })
    _ ?_ ?_ _ _ ⟨[], ks, rfl, hi, by rw [Nk.hashes], by rw [Nk.drawsL]; rfl⟩
  · rintro x rest b s' ⟨done, left, rfl, hl, hb, rfl⟩
    cases left with
    | nil => rw [IsNks] at hl; cases hl
    | cons k left =>
      rw [IsNks] at hl
      obtain ⟨v, r, e, h1, h2⟩ := hl
      cases e
      have km : k ∈ done ++ k :: left := by simp
      have dk : k.dep ≤ Nk.deps (done ++ k :: left) := deps_mem km
      refine wpAny_bind (ih k km _ _ _ _ _ (by show A.units + 1 + k.dep < cLine; omega) h1 ?_)
      first
        | exact wpAny_pure ⟨done ++ [k], left, by simp, h2, by rw [Array.toList_push, hb, hashes_app, Nk.hashes, Nk.hashes], by rw [draws_app, Nk.drawsL, Nk.drawsL, Nat.add_zero, Nat.add_assoc]⟩
        | exact wpAny_bind (wpAny_pure (wpAny_pure ⟨done ++ [k], left, by simp, h2, by rw [Array.toList_push, hb, hashes_app, Nk.hashes, Nk.hashes], by rw [draws_app, Nk.drawsL, Nk.drawsL, Nat.add_zero, Nat.add_assoc]⟩))
  · rintro b s' ⟨done, left, rfl, hl, hb, rfl⟩
    cases left with
    | cons k left => rw [IsNks] at hl; obtain ⟨v, r, e, _⟩ := hl; cases e
    | nil =>
      rw [List.append_nil] at h
      have e1 : (Nk.tp done).hash w = reduceHash (Builtin.Tuple.tupleHashOf (Nk.hashes w done)) := by rw [Nk.hash]
      have e2 : (Nk.tp done).draws = Nk.drawsL done + 1 := by rw [Nk.draws]
      rw [e1, e2] at h
      show wpAny _ _ (retInt (Builtin.Tuple.tupleHashOf b.toList)) _ _ _
      rw [hb]
      refine wpAny_ret_mkInt ?_
      show wpAny _ _ (if (decide (-(2 : Int) ^ 63 ≤ Builtin.Tuple.tupleHashOf (Nk.hashes w done)) && decide (Builtin.Tuple.tupleHashOf (Nk.hashes w done) < 2 ^ 63)) = true then _ else _) Q E _
      unfold reduceHash at h
      by_cases hr : (decide (-(2 : Int) ^ 63 ≤ Builtin.Tuple.tupleHashOf (Nk.hashes w done)) && decide (Builtin.Tuple.tupleHashOf (Nk.hashes w done) < 2 ^ 63)) = true
      · rw [if_pos hr]
        rw [if_pos hr] at h
        exact wpAny_pure (by simpa [Nat.add_assoc] using h)
      · rw [if_neg hr]
        rw [if_neg hr] at h
        exact wpAny_bind (wpAny_rule (wpAny_pure (by simpa [Nat.add_assoc] using h)))
mutual
theorem hash_nk : ∀ x : Nk, HashOk prog w x
  | .ak k => fun A E s v Q hu a h => by
    rw [IsNk] at a
    have e1 : (Nk.ak k).hash w = keyH w k := by rw [Nk.hash]
    have e2 : (Nk.ak k).draws = 1 := by rw [Nk.draws]
    rw [e1, e2] at h
    exact (mixKind prog w).pyHash (key_is a) h
  | .tp ks => hash_tup (hashes_nk ks)
theorem hashes_nk : ∀ ks : List Nk, ∀ x ∈ ks, HashOk prog w x
  | [], x, h => by cases h
  | k :: ks, x, h => by
    rcases List.mem_cons.mp h with e | h
    · rw [e]; exact hash_nk k
    · exact hashes_nk ks x h
end
/-! ### what equality asks ahead -/
def QuietOk (prog : Program) (w : World) (x : Nk) : Prop := ∀ (n : Nat) (A : Around) (E : Value → Shared → Prop) (s : Shared) (v : Value) (Q : Bool → Shared → Prop), x.dep ≤ n → IsNk s.heap x v → Q true s → wpAny (model prog w) A (eqIsQuiet n v) Q E s
theorem quiet_tup {ks : List Nk} (ih : ∀ x ∈ ks, QuietOk prog w x) : QuietOk prog w (.tp ks) := by
  intro n A E s v Q hn a h
  rw [IsNk] at a
  obtain ⟨c, items, rfl, ht, hi⟩ := a
  have hT := tup_type ht
  obtain ⟨o, ho, _, m, hd⟩ := ht
  have hdep : (Nk.tp ks).dep = Nk.deps ks + 1 := by rw [Nk.dep]
  cases n with
  | zero => omega
  | succ n =>
    unfold eqIsQuiet
    refine wpAny_bind (wpAny_specialOf hT F.slot_tuple_eq.lookup ?_)
    show wpAny _ _ (isInstance (.ref c) (.type "tuple") >>= _) _ _ s
    refine wpAny_bind (wpAny_isInstance hT isSubtype_tuple_tuple ?_)
    simp only [Bool.not_true, Bool.false_eq_true, if_false]
    refine wpAny_bind (wpAny_seqItems ho hd ?_)
    refine wpAny_bind ?_
    show wpAny _ _ (forIn items _ _) _ _ s
    rw [← Array.forIn_toList]
    refine wpAny_forIn_list _ (fun rest r s' => r.1 = none ∧ s' = s ∧ ∃ left, (∀ x ∈ left, x ∈ ks) ∧ IsNks s.heap left rest) _ ?_ ?_ _ _ ⟨rfl, rfl, ks, fun x hx => hx, hi⟩
    · rintro v rest r s' ⟨hr, rfl, left, hm, hl⟩
      cases left with
      | nil => rw [IsNks] at hl; cases hl
      | cons k left =>
        rw [IsNks] at hl
        obtain ⟨v', r', e, h1, h2⟩ := hl
        cases e
        have km := hm k List.mem_cons_self
        have dk : k.dep ≤ Nk.deps ks := deps_mem km
        refine wpAny_bind (ih k km n _ _ _ _ _ (by omega) h1 ?_)
        simp only [Bool.not_true, Bool.false_eq_true, if_false]
        exact wpAny_pure ⟨rfl, rfl, left, fun x hx => hm x (List.mem_cons_of_mem _ hx), h2⟩
    · rintro ⟨r1, r2⟩ s' ⟨hr, rfl, _⟩
      simp only at hr
      subst hr
      exact wpAny_pure h
mutual
theorem quiet_nk : ∀ x : Nk, QuietOk prog w x
  | .ak k => fun n A E s v Q hn a h => by
    rw [IsNk] at a
    have : carriedByValue v = true := by rcases a with ⟨i, t, rfl, rfl⟩ | ⟨x, t, rfl, rfl⟩ <;> rfl
    rw [eqIsQuiet_byValue _ this]
    exact wpAny_pure h
  | .tp ks => quiet_tup (quiets_nk ks)
theorem quiets_nk : ∀ ks : List Nk, ∀ x ∈ ks, QuietOk prog w x
  | [], x, h => by cases h
  | k :: ks, x, h => by
    rcases List.mem_cons.mp h with e | h
    · rw [e]; exact quiet_nk k
    · exact quiets_nk ks x h
end
end
end Ndk

set_option Elab.async false
set_option linter.all false
set_option maxRecDepth 100000
set_option maxHeartbeats 4000000
namespace Ndk
open PySem PySem.Spec PyProof.Rows PySem.SeqAt
open Fo (All2)
/-- the kind of such keys -/
noncomputable def nestKind (P : Program) (w : World) : HeapKind P w Nk where
  is := fun h k a => IsNk h k (.ref a) ∧ k.dep ≤ 7
  hash := Nk.hash w
  draws := Nk.draws
  room := fun A => A.units + 8 < cLine
  inj := fun x y => x.1.inj y.1
  keeps := fun {h h' k a d o es ep} x ho hd hs => ⟨x.1.stay fun b is ht => by
    obtain ⟨ob, h1, h2, n, h3⟩ := ht
    have ne : b ≠ d := by
      rintro rfl
      rw [ho] at h1
      cases h1
      rw [hd] at h3
      cases h3
    exact ⟨ob, (hs.2 b ne).trans h1, h2, n, h3⟩, x.2⟩
  pyHash := fun {A E s k a Q} hu x h => hash_nk k A E s (.ref a) Q (by have := x.2; omega) x.1 h
  eqBool := fun {A E s x y a b Q} hu hx hy h => eq_nk x y A s (.ref a) (.ref b) (by have := hx.2; omega) hx.1 hy.1 _ _ _ _ h
  quiet := fun {A E s k a Q} x h => quiet_nk k 8 A E s (.ref a) Q (by have := x.2; omega) x.1 h
open L2
def EVR (e : Nk × Addr × V) (x : Nk × Addr × Value) : Prop := e.1 = x.1 ∧ e.2.1 = x.2.1 ∧ RelV e.2.2 x.2.2
def NdO (P : Program) (w : World) (a : Addr) (ents : List (Nk × Addr × V)) : HO := .ext fun h => (a == sysModules) = false ∧ ents.length ≤ sizeLine ∧ (ents.map (·.1)).Nodup ∧
  ∃ (o : Obj) (es : Array DictEntry) (ep : Nat) (xs : List (Nk × Addr × Value)), h.get? a = some o ∧ o.ExactDict ∧ o.data = .dict es ep ∧ es.toList = xs.map (entryOfKey (nestKind P w)) ∧ All2 EVR ents xs
mutual
def NkAt (K : PySem.W.Frag) (H : Hp) : Nk → V → Prop
  | .ak k, v => v = kV k
  | .tp ks, v => ∃ a us, v = .ref a ∧ SqT K H a us ∧ NksAt K H ks us
def NksAt (K : PySem.W.Frag) (H : Hp) : List Nk → List V → Prop
  | [], us => us = []
  | k :: ks, us => ∃ u r, us = u :: r ∧ NkAt K H k u ∧ NksAt K H ks r
end
mutual
theorem NkAt.tk {K : PySem.W.Frag} {H H' : Hp} (t : ∀ a xs, SqT K H a xs → SqT K H' a xs) : ∀ {k : Nk} {v : V}, NkAt K H k v → NkAt K H' k v
  | .ak k, v, h => by rw [NkAt] at h ⊢; exact h
  | .tp ks, v, h => by
    rw [NkAt] at h ⊢
    obtain ⟨a, us, e, h1, h2⟩ := h
    exact ⟨a, us, e, t _ _ h1, NksAt.tk t h2⟩
theorem NksAt.tk {K : PySem.W.Frag} {H H' : Hp} (t : ∀ a xs, SqT K H a xs → SqT K H' a xs) : ∀ {ks : List Nk} {us : List V}, NksAt K H ks us → NksAt K H' ks us
  | [], us, h => by rw [NksAt] at h ⊢; exact h
  | k :: ks, us, h => by
    rw [NksAt] at h ⊢
    obtain ⟨u, r, e, h1, h2⟩ := h
    exact ⟨u, r, e, NkAt.tk t h1, NksAt.tk t h2⟩
end
def NdAt (K : PySem.W.Frag) (P : Program) (w : World) (H : Hp) (a : Addr) (ents : List (Nk × Addr × V)) : Prop := H a = some (NdO P w a ents) ∧ ∀ e ∈ ents, e.1.dep ≤ 7 ∧ NkAt K H e.1 (.ref e.2.1)
noncomputable def ndV (ents : List (Nk × Addr × V)) (k : Nk) : Option V := (ents.find? fun e => decide (e.1 = k)).map (·.2.2)
theorem ndV_nil (k : Nk) : ndV [] k = none := rfl
theorem ndV_snoc {ents : List (Nk × Addr × V)} {k j : Nk} {b : Addr} {v : V} (h : ndV ents k = none) : ndV (ents ++ [(k, b, v)]) j = if j = k then some v else ndV ents j := by
  have e0 : ents.find? (fun e => decide (e.1 = k)) = none := by
    unfold ndV at h
    cases e : ents.find? (fun e => decide (e.1 = k)) with
    | none => rfl
    | some x => rw [e] at h; cases h
  unfold ndV
  rw [List.find?_append]
  by_cases z : j = k
  · subst z
    rw [e0, if_pos rfl]
    simp
  · rw [if_neg z]
    have : (if decide (k = j) = true then some ((k, b, v) : Nk × Addr × V) else none) = none := by rw [if_neg]; intro q; exact z (of_decide_eq_true q).symm
    simp only [List.find?_cons, List.find?_nil]
    rw [decide_eq_false (fun q => z q.symm)]
    simp
theorem ndV_rel {ents : List (Nk × Addr × V)} {xs : List (Nk × Addr × Value)} (h : All2 EVR ents xs) (k : Nk) : RelO (ndV ents k) ((atKey xs k).map (·.2)) := by
  induction h with
  | nil => exact True.intro
  | @cons e x ents xs r _ ih =>
    unfold ndV atKey at ih ⊢
    rw [List.find?_cons, List.find?_cons]
    obtain ⟨r1, r2, r3⟩ := r
    rw [← r1]
    by_cases z : e.1 = k
    · rw [decide_eq_true z]; exact r3
    · rw [decide_eq_false z]; exact ih
section
variable {X : Cx} {pins : List (Addr × Obj)} {σ : L2.St} {H : Hp} {s : Shared}
mutual
theorem nk_is (I : Inv X pins σ H s) : ∀ {k : Nk} {v : V} {u : Value}, NkAt X.K H k v → RelV v u → IsNk s.heap k u
  | .ak (.inl i), v, u, h, r => by
    rw [NkAt] at h; subst h
    obtain ⟨t, rfl⟩ := r
    rw [IsNk]; exact .inl ⟨i, t, rfl, rfl⟩
  | .ak (.inr x), v, u, h, r => by
    rw [NkAt] at h; subst h
    obtain ⟨t, rfl⟩ := r
    rw [IsNk]; exact .inr ⟨x, t, rfl, rfl⟩
  | .tp ks, v, u, h, r => by
    rw [NkAt] at h
    obtain ⟨a, us, rfl, h1, h2⟩ := h
    obtain ⟨its, rv, ht, _⟩ := I.tuple h1
    cases (show u = Value.ref a from r)
    rw [IsNk]
    exact ⟨a, its.toArray, rfl, ht, by simpa using nks_is I h2 rv⟩
theorem nks_is (I : Inv X pins σ H s) : ∀ {ks : List Nk} {us : List V} {vs : List Value}, NksAt X.K H ks us → Vals us vs → IsNks s.heap ks vs
  | [], us, vs, h, r => by
    rw [NksAt] at h; subst h
    cases r
    rw [IsNks]
  | k :: ks, us, vs, h, r => by
    rw [NksAt] at h
    obtain ⟨u, q, rfl, h1, h2⟩ := h
    cases r with
    | cons ru rq =>
      rw [IsNks]
      exact ⟨_, _, rfl, nk_is I h1 ru, nks_is I h2 rq⟩
end
theorem nd_open {a : Addr} {ents : List (Nk × Addr × V)} (I : Inv X pins σ H s) (h : NdAt X.K X.prog X.w H a ents) : (a == sysModules) = false ∧ ents.length ≤ sizeLine ∧ ∃ xs, All2 EVR ents xs ∧ s.heap.DictOfH (nestKind X.prog X.w) a xs := by
  obtain ⟨h1, h2⟩ := h
  obtain ⟨⟨lo, sz, ndp, o, es, ep, xs, e1, e2, e3, e4, pr⟩, _, _⟩ := (show ObjOk X.prog X.w H s.heap a (NdO X.prog X.w a ents) from I.hok a _ h1)
  refine ⟨lo, sz, xs, pr, o, es, ep, e1, e2, e3, e4, ?_, ?_⟩
  · have all : ∀ {l : List (Nk × Addr × V)} {m : List (Nk × Addr × Value)}, All2 EVR l m → (∀ e ∈ l, e.1.dep ≤ 7 ∧ NkAt X.K H e.1 (.ref e.2.1)) → ∀ x ∈ m, (nestKind X.prog X.w).is s.heap x.1 x.2.1 := by
      intro l m q
      induction q with
      | nil => intro _ x hx; cases hx
      | @cons p q ps qs hq t ih =>
        intro hl x hx
        rcases List.mem_cons.mp hx with e | hx
        · subst e
          obtain ⟨d1, d2⟩ := hl p List.mem_cons_self
          rw [hq.1] at d1 d2
          rw [hq.2.1] at d2
          exact ⟨nk_is I d2 rfl, d1⟩
        · exact ih (fun e he => hl e (List.mem_cons_of_mem _ he)) x hx
    exact all pr h2
  · have em : ∀ {l : List (Nk × Addr × V)} {m : List (Nk × Addr × Value)}, All2 EVR l m → m.map (·.1) = l.map (·.1) := by
      intro l m q
      induction q with
      | nil => rfl
      | cons hq _ ih => rw [List.map_cons, List.map_cons, ih, hq.1]
    rw [em pr]; exact ndp
end
/-! ### the rules -/
section
variable {X : Cx} {o i value : Expr} {pos pos' : Pos} {td ty tv : TE}
def tNdNew (P : Program) (w : World) : TE := fun _ H Q => ∀ p, H p = none → Q (.ref p) (upd H p (NdO P w p []))
theorem nd_empty {P : Program} {w : World} {H : Hp} (h : Heap) (hb : sysModules < h.objs.size) : ObjOk P w H (h.push { cls := .type "dict", data := .dict #[] }) h.objs.size (NdO P w h.objs.size []) := by
  refine ⟨⟨beq_eq_false_iff_ne.mpr (Ne.symm (Nat.ne_of_lt hb)), Nat.zero_le _, List.nodup_nil, _, #[], 0, [], Heap.get?_push_size _ rfl, ⟨rfl, rfl, rfl⟩, rfl, rfl, .nil⟩, ⟨_, Heap.get?_push_size _ rfl⟩, ?_⟩
  rintro h1 h2 ⟨a1, a2, a3, o, es, ep, xs, e1, e2⟩ k
  exact ⟨a1, a2, a3, o, es, ep, xs, k o e1, e2⟩
theorem pe_ndnew : PE X (.Dict [] [] pos) (tNdNew X.prog X.w) := ⟨fun pins s σ H Q I h =>
  wpAny_Dict_empty ⟨.ref s.heap.objs.size, _, I.laid (a := s.heap.objs.size) (o := NdO X.prog X.w s.heap.objs.size []) (t' := s.toks) (fun _ _ q => Heap.get?_push_of_some _ q) (Nat.le_refl _) (nd_empty s.heap I.big), rfl, h _ (I.hok.fresh (Nat.le_refl _))⟩⟩
def rNdNot (K : PySem.W.Frag) (P : Program) (w : World) : R2 := fun x y H Q => ∃ (a b : Addr) (ents : List (Nk × Addr × V)) (k : Nk), x = .ref b ∧ y = .ref a ∧ NdAt K P w H a ents ∧ NkAt K H k (.ref b) ∧ k.dep ≤ 7 ∧ Q (.bl (!(ndV ents k).isSome)) H
theorem room_nd {P : Program} {w : World} {A : Around} (hu : A.units + 65 < cLine) : (nestKind P w).room A.in1 := by
  show A.units + 1 + 8 < cLine
  omega
theorem op_ndnot (hu : X.A.units + 65 < cLine) : OpR X (compareOp .NotIn) (rNdNot X.K X.prog X.w) := by
  intro pins s σ H x y v u Q I rx ry h
  obtain ⟨a, b, ents, k, rfl, rfl, hd, hk, hdep, q⟩ := h
  cases (show v = Value.ref b from rx)
  cases (show u = Value.ref a from ry)
  obtain ⟨lo, sz, xs, pr, dd⟩ := nd_open I hd
  refine wpAny_notIn_heap (room_nd hu) ⟨nk_is I hk rfl, hdep⟩ lo dd ?_
  have e := (ndV_rel pr k).isSome_eq
  rw [Option.isSome_map] at e
  rw [← e]
  exact ⟨.bl _, H, I.tok _, rfl, q⟩
def tNdGet (K : PySem.W.Frag) (P : Program) (w : World) (td ty : TE) : TE := fun σ H Q => td σ H fun x H1 => ty σ H1 fun y H2 => ∃ (a b : Addr) (ents : List (Nk × Addr × V)) (k : Nk) (v : V), x = .ref a ∧ y = .ref b ∧ NdAt K P w H2 a ents ∧ NkAt K H2 k (.ref b) ∧ k.dep ≤ 7 ∧ ndV ents k = some v ∧ Q v H2
theorem pe_ndget (hu : X.A.units + 65 < cLine) (ho : PE X o td) (hi : PE X i ty) (hs : NoSl i) : PE X (.Subscript o i pos) (tNdGet X.K X.prog X.w td ty) := by
  refine ⟨fun pins s σ H Q I h => ?_⟩
  refine subD_of PySem.F.slot_dict_getitem.lookup hs (thn (ho.run pins s σ H _ I h) fun u s1 ⟨x, H1, I1, rx, q1⟩ => thn (hi.run pins s1 σ H1 _ I1 q1) fun iv s2 ⟨y, H2, I2, ry, a, b, ents, k, v, ex, ey, hd, hk, hdep, hv, q2⟩ => ?_)
  subst ex ey
  obtain rfl : u = Value.ref a := rx
  obtain rfl : iv = Value.ref b := ry
  obtain ⟨lo, sz, xs, pr, dd⟩ := nd_open I2 hd
  refine ⟨dd.typeIs, ?_⟩
  obtain ⟨w', hw, rw'⟩ := RelO.some_of (v := v) (o := (atKey xs k).map (·.2)) (by rw [← hv]; exact ndV_rel pr k)
  obtain ⟨p, hp, hp2⟩ := Option.map_eq_some_iff.mp hw
  refine wpAny_getItem_heap (room_nd hu) ⟨nk_is I2 hk rfl, hdep⟩ dd hp ?_
  rw [hp2]
  exact ⟨v, H2, I2.tok _, rw', q2⟩
def sNdPut (K : PySem.W.Frag) (P : Program) (w : World) (td ty tv : TE) : TS := fun D σ H => tv σ H fun v H1 => td σ H1 fun x H2 => ty σ H2 fun y H3 => ∃ (a b : Addr) (ents : List (Nk × Addr × V)) (k : Nk), x = .ref a ∧ y = .ref b ∧ NdAt K P w H3 a ents ∧ NkAt K H3 k (.ref b) ∧ k.dep ≤ 7 ∧ ndV ents k = none ∧ ents.length < sizeLine ∧ D.nx σ (upd H3 a (NdO P w a (ents ++ [(k, b, v)])))
theorem ps_ndput (hu : X.A.units + 65 < cLine) (ho : PE X o td) (hi : PE X i ty) (hv : PE X value tv) (hs : swapsWith value (some (.Subscript o i pos')) pos.line X.env = pure false) :
    PS X (.Assign [.Subscript o i pos'] value pos) (sNdPut X.K X.prog X.w td ty tv) := by
  refine ⟨fun pins s σ H D I h => ?_⟩
  refine wpAny_Assign_Subscript (thn (hv.run pins s σ H _ I h) fun r s1 ⟨v, H1, I1, rv, q1⟩ => thn (ho.run pins s1 σ H1 _ I1 q1) fun u s2 ⟨x, H2, I2, rx, q2⟩ => thn (hi.run pins s2 σ H2 _ I2 q2) fun iv s3 ⟨y, H3, I3, ry, a, b, ents, k, ex, ey, hd, hk, hdep, hn, hl, q3⟩ => ?_) hs
  subst ex ey
  obtain rfl : u = Value.ref a := rx
  obtain rfl : iv = Value.ref b := ry
  obtain ⟨lo, sz, xs, pr, dd⟩ := nd_open I3 hd
  have hz : xs.length ≤ sizeLine := by rw [← pr.length]; exact sz
  have ha : atKey xs k = none := by
    have := ndV_rel pr k
    rw [hn] at this
    cases e : atKey xs k with
    | none => rfl
    | some p => rw [e] at this; exact this.elim
  refine wpAny_setItem_heap (hsz := hz) (room_nd hu) ⟨nk_is I3 hk rfl, hdep⟩ dd fun h' dd' hs => ⟨σ, _, ?_, q3⟩
  rw [storedH_new ha] at dd'
  obtain ⟨q, es, ep, hq, h2, h3, h4, h6, h5⟩ := dd'
  have em : ∀ {l : List (Nk × Addr × V)} {m : List (Nk × Addr × Value)}, All2 EVR l m → m.map (·.1) = l.map (·.1) := by
    intro l m q
    induction q with
    | nil => rfl
    | cons hq _ ih => rw [List.map_cons, List.map_cons, ih, hq.1]
  have pr' : All2 EVR (ents ++ [(k, b, v)]) (xs ++ [(k, b, r)]) := pr.append (.cons ⟨rfl, rfl, rv⟩ .nil)
  refine d_write I3 (by rw [hd.1]; exact True.intro) hs ⟨q, hq⟩ ⟨⟨lo, by rw [List.length_append, List.length_singleton]; omega, by rw [← em pr']; exact h5, q, es, ep, _, hq, h2, h3, h4, pr'⟩, ⟨q, hq⟩, ?_⟩
  rintro h1 h2 ⟨a1, a2, a3, o, es, ep, xs, e1, e2⟩ k
  exact ⟨a1, a2, a3, o, es, ep, xs, k o e1, e2⟩
end
end Ndk

set_option Elab.async false
set_option linter.all false
set_option maxRecDepth 100000
set_option maxHeartbeats 4000000
/-! Tables of bits: whole numbers each bit of which tells of one choice of values. -/
namespace Bts
open PySem L2 Fo
def bits : Nat → (Nat → Bool) → Nat
  | 0, _ => 0
  | n + 1, φ => bits n φ + if φ n = true then 2 ^ n else 0
theorem bits_lt (φ : Nat → Bool) : ∀ n, bits n φ < 2 ^ n
  | 0 => by simp [bits]
  | n + 1 => by
    have := bits_lt φ n
    rw [bits, Nat.pow_succ]
    split <;> omega
theorem bit_at (φ : Nat → Bool) : ∀ (n i : Nat), (bits n φ).testBit i = (decide (i < n) && φ i)
  | 0, i => by simp [bits]
  | n + 1, i => by
    have lt := bits_lt φ n
    have ih := bit_at φ n i
    rw [bits]
    by_cases h : φ n = true
    · rw [if_pos h, Nat.add_comm]
      rcases Nat.lt_trichotomy i n with l | l | l
      · rw [Nat.testBit_two_pow_add_gt l, ih]
        simp [l, Nat.lt_succ_of_lt l]
      · subst l
        rw [Nat.testBit_two_pow_add_eq]
        rw [ih]
        simp [h]
      · have : 2 ^ n + bits n φ < 2 ^ i := by
          have : 2 ^ (n + 1) ≤ 2 ^ i := Nat.pow_le_pow_right (by decide) l
          rw [Nat.pow_succ] at this
          omega
        rw [Nat.testBit_lt_two_pow this]
        simp; intro z; omega
    · have hf : φ n = false := by simpa using h
      rw [if_neg h, Nat.add_zero, ih]
      rcases Nat.lt_trichotomy i n with l | l | l
      · simp [l, Nat.lt_succ_of_lt l]
      · subst l; simp [hf]
      · have h1 : ¬ i < n := by omega
        have h2 : ¬ i < n + 1 := by omega
        simp [h1, h2]
theorem bits_ext {n : Nat} {φ : Nat → Bool} {T : Nat} (h : ∀ i, T.testBit i = (decide (i < n) && φ i)) : T = bits n φ :=
  Nat.eq_of_testBit_eq fun i => by rw [h, bit_at]
theorem bits_congr {n : Nat} {φ ψ : Nat → Bool} (h : ∀ i, i < n → φ i = ψ i) : bits n φ = bits n ψ := bits_ext fun i => by
  rw [bit_at]
  by_cases l : i < n
  · rw [h i l]
  · simp [l]
theorem bits_full (n : Nat) : 2 ^ n - 1 = bits n fun _ => true := bits_ext fun i => by rw [Nat.testBit_two_pow_sub_one]; simp
theorem bits_none (n : Nat) : 0 = bits n fun _ => false := bits_ext fun i => by simp
theorem bits_and (n : Nat) (φ ψ : Nat → Bool) : bits n φ &&& bits n ψ = bits n fun i => φ i && ψ i := bits_ext fun i => by
  rw [Nat.testBit_and, bit_at, bit_at]
  cases decide (i < n) <;> simp
theorem bits_or (n : Nat) (φ ψ : Nat → Bool) : bits n φ ||| bits n ψ = bits n fun i => φ i || ψ i := bits_ext fun i => by
  rw [Nat.testBit_or, bit_at, bit_at]
  cases decide (i < n) <;> simp
theorem bits_not (n : Nat) (φ : Nat → Bool) : bits n (fun _ => true) ^^^ bits n φ = bits n fun i => !φ i := bits_ext fun i => by
  rw [Nat.testBit_xor, bit_at, bit_at]
  cases decide (i < n) <;> simp
/-- the upper part -/
theorem bits_part (n k : Nat) (φ : Nat → Bool) (N : Nat) (h : k + n ≤ N) : (bits N φ >>> k) &&& bits n (fun _ => true) = bits n fun i => φ (k + i) := bits_ext fun i => by
  rw [Nat.testBit_and, Nat.testBit_shiftRight, bit_at, bit_at]
  by_cases l : i < n
  · have : k + i < N := by omega
    simp [l, this]
  · simp [l]
theorem bits_shl (n k : Nat) (φ : Nat → Bool) (N : Nat) (h : k + n ≤ N) : bits n φ * 2 ^ k = bits N fun i => decide (k ≤ i) && decide (i < k + n) && φ (i - k) := bits_ext fun i => by
  rw [← Nat.shiftLeft_eq, Nat.testBit_shiftLeft, bit_at]
  by_cases l : k ≤ i
  · by_cases l2 : i < k + n
    · have : i - k < n := by omega
      have : i < N := by omega
      simp [*]
    · have : ¬ i - k < n := by omega
      simp [l, l2, this]
  · simp [l]
/-- one after the other -/
theorem bits_sum (n : Nat) (φ : Nat → Bool) : ∀ m : Nat, ((List.range m).map fun e => bits n φ * 2 ^ (e * n)).sum = bits (m * n) fun i => φ (i % n)
  | 0 => by simp [bits]
  | m + 1 => by
    rw [List.range_succ, List.map_append, List.sum_append, bits_sum n φ m]
    simp only [List.map_cons, List.map_nil, List.sum_cons, List.sum_nil, Nat.add_zero]
    have hd : bits (m * n) (fun i => φ (i % n)) < 2 ^ (m * n) := bits_lt _ _
    refine bits_ext fun i => ?_
    rw [Nat.add_comm, Nat.mul_comm (bits n φ), Nat.testBit_two_pow_mul_add _ hd]
    by_cases l : i < m * n
    · rw [if_pos l, bit_at]
      have : i < (m + 1) * n := by rw [Nat.succ_mul]; omega
      simp [l, this]
    · rw [if_neg l, bit_at]
      by_cases l2 : i - m * n < n
      · have h3 : i < (m + 1) * n := by rw [Nat.succ_mul]; omega
        have h4 : i % n = i - m * n := by
          have e : i = (i - m * n) + n * m := by rw [Nat.mul_comm n m]; omega
          rw [e, Nat.add_mul_mod_self_left, Nat.mod_eq_of_lt l2]
          rw [Nat.mul_comm n m]; omega
        simp [l2, h3, h4]
      · have h3 : ¬ i < (m + 1) * n := by rw [Nat.succ_mul]; omega
        simp [l2, h3]
/-! ### the values that a place stands for -/
def envI (m : Nat) : (Str → Int) → List Str → Nat → (Str → Int)
  | e, [], _ => e
  | e, x :: xs, i => envI m (Fm.set1 e x ((i % m : Nat) : Int)) xs (i / m)
theorem env_snoc (m : Nat) : ∀ (xs : List Str) (e : Str → Int) (y : Str) (i : Nat), envI m e (xs ++ [y]) i = Fm.set1 (envI m e xs i) y ((i / m ^ xs.length % m : Nat) : Int)
  | [], e, y, i => by simp [envI]
  | x :: xs, e, y, i => by
    rw [List.cons_append, envI, env_snoc m xs, envI, List.length_cons, Nat.pow_succ, Nat.mul_comm, Nat.div_div_eq_div_mul]
theorem env_mod (m : Nat) : ∀ (xs : List Str) (e : Str → Int) (i : Nat), envI m e xs (i % m ^ xs.length) = envI m e xs i
  | [], e, i => rfl
  | x :: xs, e, i => by
    rw [envI, envI, List.length_cons, Nat.pow_succ]
    have h1 : i % (m ^ xs.length * m) % m = i % m := by rw [Nat.mul_comm]; exact Nat.mod_mul_right_mod i m (m ^ xs.length)
    have h2 : i % (m ^ xs.length * m) / m = i / m % m ^ xs.length := by rw [Nat.mul_comm]; exact Nat.mod_mul_right_div_self i m (m ^ xs.length)
    rw [h1, h2, env_mod m xs]
theorem env_out (m : Nat) : ∀ (xs : List Str) (e : Str → Int) (i : Nat) (y : Str), y ∉ xs → envI m e xs i y = e y
  | [], e, i, y, _ => rfl
  | x :: xs, e, i, y, h => by
    rw [envI, env_out m xs _ _ y (fun z => h (List.mem_cons_of_mem _ z))]
    unfold Fm.set1
    rw [if_neg (fun z => h (by rw [z]; exact List.mem_cons_self))]
theorem env_at (m : Nat) (xs zs : List Str) (y : Str) (e : Str → Int) (i : Nat) (h : y ∉ zs) : envI m e (xs ++ y :: zs) i y = ((i / m ^ xs.length % m : Nat) : Int) := by
  have main : ∀ (zs : List Str), y ∉ zs → ∀ (e : Str → Int) (xs : List Str) (i : Nat), envI m e (xs ++ y :: zs) i y = ((i / m ^ xs.length % m : Nat) : Int) := by
    intro zs hz e xs
    induction xs generalizing e with
    | nil =>
      intro i
      rw [List.nil_append, envI, env_out m zs _ _ y hz]
      simp [Fm.set1]
    | cons x xs ih =>
      intro i
      rw [List.cons_append, envI, ih, List.length_cons, Nat.pow_succ, Nat.mul_comm, Nat.div_div_eq_div_mul]
  exact main zs h e xs i
/-- the table of a formula within the names xs -/
def tab (m : Nat) (rs : List (Str × List (List Int))) (e : Str → Int) (f : Fm) (xs : List Str) : Nat := bits (m ^ xs.length) fun i => Fm.tv m rs f (envI m e xs i)
theorem tab_lt (m : Nat) (rs : List (Str × List (List Int))) (e : Str → Int) (f : Fm) (xs : List Str) : tab m rs e f xs < 2 ^ (m ^ xs.length) := bits_lt _ _
end Bts

set_option Elab.async false
set_option linter.all false
set_option maxRecDepth 100000
set_option maxHeartbeats 4000000
namespace Bts
open PySem L2 Fo
/-- the names have these values, one by one -/
def mt (g : Str → Int) : List Str → List Int → Bool
  | [], [] => true
  | z :: zs, t :: ts => decide (g z = t) && mt g zs ts
  | _, _ => false
theorem mt_eqv (g : Str → Int) : ∀ (zs : List Str) (r : List Int), PyData.eqvAll (r.map PyData.int) ((zs.map g).map PyData.int) = mt g zs r
  | [], [] => by simp [PyData.eqvAll, mt]
  | [], t :: ts => by simp [PyData.eqvAll, mt]
  | z :: zs, [] => by simp [PyData.eqvAll, mt]
  | z :: zs, t :: ts => by
    rw [List.map_cons, List.map_cons, List.map_cons, PyData.eqvAll, mt_eqv g zs ts, mt, PyData.eqv]
    congr 1
    by_cases e : g z = t
    · subst e; simp
    · rw [decide_eq_false e]
      simp
      exact fun q => e q.symm
theorem tv_rel {m : Nat} {rs : List (Str × List (List Int))} {n : Str} {ts : List (List Int)} (h : Fm.rows rs n = some ts) (zs : List Str) (g : Str → Int) : Fm.tv m rs (.rel n zs) g = ts.any fun r => mt g zs r := by
  rw [Fm.tv, Fm.holds, h]
  show (ts.map fun z : List Int => PyData.tuple (z.map PyData.int)).any _ = _
  rw [List.any_map]
  congr 1
  funext r
  show PyData.eqv (.tuple (r.map PyData.int)) (.tuple ((zs.map g).map PyData.int)) = _
  rw [PyData.eqv, mt_eqv]
theorem tv_same {m : Nat} (rs : List (Str × List (List Int))) (y z : Str) (g : Str → Int) (h : 0 ≤ g y ∧ g y < (m : Int)) : Fm.tv m rs (.same y z) g = ((List.range m).map fun j : Nat => [(j : Int), (j : Int)]).any fun r => mt g [y, z] r := by
  rw [Fm.tv, List.any_map]
  by_cases e : g y = g z
  · rw [decide_eq_true e]
    refine (List.any_eq_true.mpr ⟨(g y).toNat, List.mem_range.mpr (by omega), ?_⟩).symm
    show mt g [y, z] [(((g y).toNat : Nat) : Int), (((g y).toNat : Nat) : Int)] = true
    have h1 : g y = (((g y).toNat : Nat) : Int) := by omega
    have h2 : g z = (((g y).toNat : Nat) : Int) := by rw [← e]; exact h1
    rw [mt, mt, mt, decide_eq_true h1, decide_eq_true h2]
    rfl
  · rw [decide_eq_false e]
    refine Eq.symm ?_
    rw [List.any_eq_false]
    intro j _ q
    have q' : mt g [y, z] [(j : Int), (j : Int)] = true := q
    rw [mt, mt, mt, Bool.and_eq_true, Bool.and_eq_true] at q'
    have h1 := of_decide_eq_true q'.1
    have h2 := of_decide_eq_true q'.2.1
    exact e (h1.trans h2.symm)
theorem and_fold (n : Nat) (g : Nat → Str → Int) : ∀ (zs : List Str) (r : List Int) (ψ : Nat → Bool), zs.length = r.length → ((zs.zip r).map fun p => bits n fun i => decide (g i p.1 = p.2)).foldl (fun x y => x &&& y) (bits n ψ) = bits n fun i => ψ i && mt (g i) zs r
  | [], [], ψ, _ => by
    show bits n ψ = _
    exact bits_congr fun i _ => by simp [mt]
  | z :: zs, t :: ts, ψ, h => by
    rw [List.zip_cons_cons, List.map_cons, List.foldl_cons, bits_and, and_fold n g zs ts _ (by simpa using h)]
    exact bits_congr fun i _ => by rw [mt, Bool.and_assoc]
theorem or_snoc (n : Nat) (p : List Int → Nat → Bool) (rs : List (List Int)) (r : List Int) : (bits n fun i => rs.any fun r => p r i) ||| (bits n fun i => p r i) = bits n fun i => (rs ++ [r]).any fun r => p r i := by
  rw [bits_or]
  exact bits_congr fun i _ => by rw [List.any_append]; simp
theorem env_rng {m : Nat} (hm : 0 < m) : ∀ (xs : List Str) (e : Str → Int) (i : Nat) (y : Str), (y ∉ xs → 0 ≤ e y ∧ e y < (m : Int)) → 0 ≤ envI m e xs i y ∧ envI m e xs i y < (m : Int)
  | [], e, i, y, h => h (by simp)
  | x :: xs, e, i, y, h => by
    rw [envI]
    refine env_rng hm xs _ _ y fun hy => ?_
    unfold Fm.set1
    by_cases z : y = x
    · rw [if_pos z]
      have := Nat.mod_lt i hm
      omega
    · rw [if_neg z]
      exact h (by simp [z, hy])
end Bts

set_option Elab.async false
set_option linter.all false
set_option maxRecDepth 100000
set_option maxHeartbeats 4000000
namespace Bts
open PySem L2 Fo
theorem fold_and (n : Nat) : ∀ (ts : List (Nat → Bool)) (ψ : Nat → Bool), (ts.map (bits n)).foldl (fun x y => x &&& y) (bits n ψ) = bits n fun i => ψ i && ts.all fun t => t i
  | [], ψ => bits_congr fun i _ => by simp
  | t :: ts, ψ => by
    rw [List.map_cons, List.foldl_cons, bits_and, fold_and n ts]
    exact bits_congr fun i _ => by rw [List.all_cons, Bool.and_assoc]
theorem fold_or (n : Nat) : ∀ (ts : List (Nat → Bool)) (ψ : Nat → Bool), (ts.map (bits n)).foldl (fun x y => x ||| y) (bits n ψ) = bits n fun i => ψ i || ts.any fun t => t i
  | [], ψ => bits_congr fun i _ => by simp
  | t :: ts, ψ => by
    rw [List.map_cons, List.foldl_cons, bits_or, fold_or n ts]
    exact bits_congr fun i _ => by rw [List.any_cons, Bool.or_assoc]
theorem tvs_and (m : Nat) (rs : List (Str × List (List Int))) (e : Str → Int) : ∀ fs : List Fm, Fm.tvs m rs true fs e = fs.all fun f => Fm.tv m rs f e
  | [] => by rw [Fm.tvs]; rfl
  | f :: fs => by
    rw [Fm.tvs, tvs_and m rs e fs, List.all_cons]
    cases Fm.tv m rs f e <;> simp
theorem tvs_or (m : Nat) (rs : List (Str × List (List Int))) (e : Str → Int) : ∀ fs : List Fm, Fm.tvs m rs false fs e = fs.any fun f => Fm.tv m rs f e
  | [] => by rw [Fm.tvs]; rfl
  | f :: fs => by
    rw [Fm.tvs, tvs_or m rs e fs, List.any_cons]
    cases Fm.tv m rs f e <;> simp
variable (m : Nat) (rs : List (Str × List (List Int))) (e : Str → Int)
theorem tab_neg (f : Fm) (xs : List Str) : bits (m ^ xs.length) (fun _ => true) ^^^ tab m rs e f xs = tab m rs e (.neg f) xs := by
  rw [tab, bits_not, tab]
  exact bits_congr fun i _ => by rw [Fm.tv]
theorem tab_and (fs : List Fm) (xs : List Str) : (fs.map fun f => tab m rs e f xs).foldl (fun x y => x &&& y) (bits (m ^ xs.length) fun _ => true) = tab m rs e (.con true fs) xs := by
  have := fold_and (m ^ xs.length) (fs.map fun f i => Fm.tv m rs f (envI m e xs i)) fun _ => true
  rw [List.map_map] at this
  refine Eq.trans this ?_
  rw [tab]
  exact bits_congr fun i _ => by rw [Fm.tv, tvs_and, List.all_map, Bool.true_and]; rfl
theorem tab_or (fs : List Fm) (xs : List Str) : (fs.map fun f => tab m rs e f xs).foldl (fun x y => x ||| y) 0 = tab m rs e (.con false fs) xs := by
  have := fold_or (m ^ xs.length) (fs.map fun f i => Fm.tv m rs f (envI m e xs i)) fun _ => false
  rw [← bits_none, List.map_map] at this
  refine Eq.trans this ?_
  rw [tab]
  exact bits_congr fun i _ => by rw [Fm.tv, tvs_or, List.any_map, Bool.false_or]; rfl
/-- what parting gives -/
theorem tab_part (f : Fm) (xs : List Str) (y : Str) : ((List.range m).map fun j => bits (m ^ xs.length) fun i => Fm.tv m rs f (envI m e (xs ++ [y]) (j * m ^ xs.length + i))) = ((List.range m).map fun (j : Nat) (i : Nat) => Fm.tv m rs f (Fm.set1 (envI m e xs i) y (j : Int))).map (bits (m ^ xs.length)) := by
  rw [List.map_map]
  refine List.map_congr_left fun j hj => ?_
  have hjm := List.mem_range.mp hj
  refine bits_congr fun i hi => ?_
  have hp : 0 < m ^ xs.length := by omega
  have e1 : (j * m ^ xs.length + i) / m ^ xs.length = j := by
    rw [Nat.add_comm, Nat.add_mul_div_right _ _ hp, Nat.div_eq_of_lt hi, Nat.zero_add]
  have e2 : envI m e xs (j * m ^ xs.length + i) = envI m e xs i := by
    rw [← env_mod m xs e (j * m ^ xs.length + i), Nat.add_comm, Nat.add_mul_mod_self_right, Nat.mod_eq_of_lt hi]
  rw [env_snoc, e1, e2, Nat.mod_eq_of_lt hjm]
theorem tab_some (f : Fm) (xs : List Str) (y : Str) : (((List.range m).map fun (j : Nat) (i : Nat) => Fm.tv m rs f (Fm.set1 (envI m e xs i) y (j : Int))).map (bits (m ^ xs.length))).foldl (fun x y => x ||| y) 0 = tab m rs e (.qu true y f) xs := by
  have := fold_or (m ^ xs.length) ((List.range m).map fun (j : Nat) (i : Nat) => Fm.tv m rs f (Fm.set1 (envI m e xs i) y (j : Int))) fun _ => false
  rw [← bits_none] at this
  rw [this, tab]
  refine bits_congr fun i _ => ?_
  rw [Fm.tv, List.any_map, Bool.false_or]
  show (List.range m).any (fun j => Fm.tv m rs f (Fm.set1 (envI m e xs i) y (j : Int))) = _
  have z : (fun j : Nat => Fm.tv m rs f (Fm.set1 (envI m e xs i) y (j : Int)) != !true) = fun j : Nat => Fm.tv m rs f (Fm.set1 (envI m e xs i) y (j : Int)) := by funext j; simp
  rw [z]
  cases (List.range m).any (fun j => Fm.tv m rs f (Fm.set1 (envI m e xs i) y (j : Int))) <;> rfl
theorem tab_all (f : Fm) (xs : List Str) (y : Str) : (((List.range m).map fun (j : Nat) (i : Nat) => Fm.tv m rs f (Fm.set1 (envI m e xs i) y (j : Int))).map (bits (m ^ xs.length))).foldl (fun x y => x &&& y) (bits (m ^ xs.length) fun _ => true) = tab m rs e (.qu false y f) xs := by
  rw [fold_and, tab]
  refine bits_congr fun i _ => ?_
  rw [Fm.tv, List.all_map, Bool.true_and]
  show (List.range m).all (fun j => Fm.tv m rs f (Fm.set1 (envI m e xs i) y (j : Int))) = _
  have z : (fun j : Nat => Fm.tv m rs f (Fm.set1 (envI m e xs i) y (j : Int)) != !false) = fun j : Nat => !Fm.tv m rs f (Fm.set1 (envI m e xs i) y (j : Int)) := by funext j; cases Fm.tv m rs f (Fm.set1 (envI m e xs i) y (j : Int)) <;> rfl
  rw [z, List.all_eq_not_any_not]
  cases (List.range m).any (fun j => !Fm.tv m rs f (Fm.set1 (envI m e xs i) y (j : Int))) <;> rfl
end Bts

set_option Elab.async false
set_option linter.all false
set_option maxRecDepth 100000
set_option maxHeartbeats 4000000
/-! enumerate of a tuple, zip of a list and a tuple: what the hand layer walks, out of the walks that are there (WalksT). -/
namespace Enu
open PySem PySem.Spec PyProof.Rows L2
/-- a walk that gives new tuples, as turns of the hand layer -/
theorem turn_of {P : Program} {w : World} {K : PySem.W.Frag} {elts : List Expr} {kk : Nat} {tpos : Pos} {J : It} {fp : List Addr} {it : Addr} {tn : Nat → Heap → Prop} (mem : it ∈ fp)
    (obj : ∀ i h, tn i h → ∀ b ∈ fp, ∃ o, h.get? b = some o ∧ ∀ v, o.data ≠ .cell v)
    (keep : ∀ i h h', tn i h → (∀ b ∈ fp, ∀ o, h.get? b = some o → h'.get? b = some o) → tn i h')
    (self : ∀ (A : Around) (i : Nat) (s : Shared) (Q E : Value → Shared → Prop), tn i s.heap → Q (.ref it) s → wpAny (model P w) A (pyIter (.ref it)) Q E s)
    (walks : ∀ X : Cx, X.prog = P → X.w = w → X.K = K → X.calm = true → ∀ pins s σ H i, Inv X pins σ H s → tn i s.heap → (J.go i H ∨ J.stop i H) →
      ∃ (n : Nat) (Pt : Nat → Array Value → Prop) (St : Nat → Heap → Prop) (Mid : Nat → Addr → Heap → Prop) (fp' wr : List Addr), WalksT P w X.A it fp' wr n Pt St Mid ∧ (∀ b ∈ wr, b ∈ fp) ∧ St i s.heap ∧ (∀ h, St (i + 1) h → tn (i + 1) h) ∧
        (J.go i H → i < n ∧ ∀ vals, Pt i vals → ∃ xs : List V, Vals xs vals.toList ∧ xs.length ≤ sizeLine ∧ ∀ T, H T = none → J.yld i H (.ref T) (upd H T (.tup xs))) ∧ (J.stop i H → i = n)) :
    Turn P w K (.Tuple elts kk tpos) J fp it tn where
  mem := mem
  obj := obj
  keep := keep
  self := self
  item := by
    intro X hP hw hK hc i pins s σ H E I hf st hg
    obtain ⟨n, Pt, St, Mid, fp', wr, W, sub, hSt, back, give, _⟩ := walks X hP hw hK hc pins s σ H i I st (.inl hg)
    obtain ⟨hi, hv⟩ := give hg
    subst hP hw hK
    refine W.item i s _ _ hi hSt fun T vals h1 tk hPt hT hIs hMid k1 => ⟨.ref T, rfl, ?_⟩
    refine W.go elts kk tpos i T { s with heap := h1, toks := tk } _ _ hMid fun h2 hS2 k2 => ?_
    obtain ⟨xs, rv, hlen, hy⟩ := hv vals hPt
    have apart := W.apart i T h1 hMid
    have hIs2 : h2.IsTuple T vals := hIs.at fun o q => k2 T o apart q
    have fresh : H T = none := I.hok.fresh hT
    have ok : ObjOk X.prog X.w (upd H T (.tup xs)) h2 T (.tup xs) := ⟨hlen, vals.toList, rv, by rw [Array.toArray_toList]; exact hIs2⟩
    refine ⟨.ref T, _, I.turnedNew (t' := tk) (ch := wr) (fun b o hb q => k2 b o hb (k1 b o hb q)) (fun b hb => hf b (sub b hb)) hT ok, rfl, hy T fresh, back h2 hS2, fun b hb => ?_⟩
    obtain ⟨o, ho, _⟩ := obj i s.heap st b hb
    have lt : b < s.heap.objs.size := Heap.lt_size ho
    rw [upd_ne (Nat.ne_of_lt (Nat.lt_of_lt_of_le lt hT))]
    exact (hf b hb).1
  done := by
    intro X hP hw hK hc i pins s σ H E I hf st hg
    obtain ⟨n, Pt, St, Mid, fp', wr, W, sub, hSt, _, _, stop⟩ := walks X hP hw hK hc pins s σ H i I st (.inr hg)
    have e := stop hg
    subst hP hw hK e
    exact W.done s _ _ hSt fun h1 tk k1 => ⟨rfl, I.turnedL (t' := tk) (ch := wr) k1 fun b hb => hf b (sub b hb)⟩
/-- a tuple at a, its members with their numbers in new pairs -/
def IteT (K : PySem.W.Frag) (a : Addr) : It where
  go := fun i H => ∃ (xs : List V) (x : V), SqT K H a xs ∧ xs[i]? = some x
  yld := fun i H v G => ∃ T x, v = .ref T ∧ H T = none ∧ G = upd H T (.tup [.int (i : Nat), x]) ∧ ∀ xs, SqT K H a xs → xs[i]? = some x
  stop := fun i H => ∃ xs : List V, SqT K H a xs ∧ xs.length = i
/-- where an enumerate of the tuple stands -/
def AtE (a e it : Addr) (i : Nat) (h : Heap) : Prop := (∃ old, IsEnum h e it ((i : Nat) : Int) old) ∧ h.IsTupleIter it a i ∧ e ≠ it ∧ e ≠ a ∧ a ≠ it
theorem turn_enumT {P : Program} {w : World} {K : PySem.W.Frag} {elts : List Expr} {kk : Nat} {tpos : Pos} (a e it : Addr) : Turn P w K (.Tuple elts kk tpos) (IteT K a) [e, it] e (AtE a e it) := by
  refine turn_of List.mem_cons_self (fun i h st b hb => ?_) (fun i h h' st k => ?_) (fun A i s Q E st q => ?_) (fun X hP hw hK hc pins s σ H i I st hJ => ?_)
  · obtain ⟨⟨old, he⟩, ⟨o, ho, _, hd⟩, _⟩ := st
    simp only [List.mem_cons, List.not_mem_nil, or_false] at hb
    rcases hb with rfl | rfl
    · exact ⟨_, he, nofun⟩
    · exact ⟨o, ho, by rw [hd]; nofun⟩
  · obtain ⟨⟨old, he⟩, hi, r⟩ := st
    exact ⟨⟨old, k e (by simp) _ he⟩, hi.at (k it (by simp)), r⟩
  · obtain ⟨⟨old, he⟩, _⟩ := st
    exact wpAny_pyIter_enum he q
  · subst hP hw hK
    obtain ⟨he, hit, hne, hea, hai⟩ := st
    have hJ' : ∃ xs, SqT X.K H a xs := by
      rcases hJ with ⟨xs, _, h, _⟩ | ⟨xs, h, _⟩ <;> exact ⟨xs, h⟩
    obtain ⟨xs, hxs⟩ := hJ'
    obtain ⟨its, rv, p, _⟩ := I.tuple hxs
    have hh : X.A.in1.handled = none := I.ok.hd hc
    refine ⟨_, _, _, _, _, _, WalksT.enumerateD (A := X.A) (Draws.tuple hh it a hai its.toArray) e hne (by simp [hne, hea]) (by simp), fun b hb => hb, ⟨he, hit, p⟩, fun h st => ⟨st.1, st.2.1, hne, hea, hai⟩, fun hg => ?_, fun hs => ?_⟩
    · obtain ⟨ys, y, hys, hy⟩ := hg
      obtain rfl := I.tuple_inj hys hxs
      obtain ⟨u, hu, ru⟩ := rv.get hy
      refine ⟨by have := (List.getElem?_eq_some_iff.mp hu).1; simpa using this, fun vals hv => ?_⟩
      obtain ⟨t, x, hx, rfl⟩ := hv
      have ex : x = u := by
        have : its[i]? = some x := by simpa using hx
        rw [this] at hu
        injection hu
      subst ex
      exact ⟨[.int (i : Nat), y], .cons ⟨t, rfl⟩ (.cons ru .nil), (by show 2 ≤ sizeLine; decide), fun T nT => ⟨T, y, rfl, nT, rfl, fun zs hz => by rw [I.tuple_inj hz hxs]; exact hy⟩⟩
    · obtain ⟨ys, hys, hl⟩ := hs
      obtain rfl := I.tuple_inj hys hxs
      have := rv.length
      simp
      omega
/-- enumerate of what begins to be walked as B tells -/
theorem meets_new {v : Value} {o : Obj} {H : Heap → Prop} (B : Begins v o H) : Meets (Builtin.«enumerate.__new__» ⟨[.type "enumerate", v], []⟩) (fun _ R s => H s.heap ∧ R (.ok (.ret (.ref (s.heap.push o).objs.size))) { s with heap := (s.heap.push o).push { cls := .type "enumerate", data := .fields #[.none, .bool false, .ref s.heap.objs.size, rawInt 0, .none, .none] } }) := by
  refine .of_wp fun prog w A R s h => ?_
  obtain ⟨hp, g, d, tk, os⟩ := s
  have sub := sub_enumerate
  have walk : ∀ {A' : Around} {E Q : Value → Shared → Prop}, Q (.ref hp.objs.size) ⟨hp.push o, g, d, tk, os⟩ → wpAny (model prog w) A' (pyIter v) Q E ⟨hp, g, d, tk, os⟩ := fun q => B.iter prog w _ _ ⟨hp, g, d, tk, os⟩ _ h.1 q
  wp_walk using walk
  refine wpAny_stack_any fun st => wpAny_pure ?_
  split
  · rename_i c _ _ _ _ _
    cases (c == Value.type "enumerate") <;> (wp_walk using walk; exact ⟨_, rfl, h.2⟩)
  · wp_walk using walk
    exact ⟨_, rfl, h.2⟩
theorem call_new {prog : Program} {w : World} {A : Around} {E Q : Value → Shared → Prop} {s : Shared} {v : Value} {o : Obj} {H : Heap → Prop} (B : Begins v o H) (h1 : H s.heap)
    (h : ∀ G, IsEnum G (s.heap.objs.size + 1) s.heap.objs.size 0 .none → G.get? s.heap.objs.size = some o → (∀ b u, s.heap.get? b = some u → G.get? b = some u) → Q (.ref (s.heap.objs.size + 1)) { s with heap := G }) : wpAny (model prog w) A (call (.type "enumerate") [v]) Q E s := by
  have size : (s.heap.push o).objs.size = s.heap.objs.size + 1 := Heap.size_push ..
  have last := Heap.get?_push_size (s.heap.push o) (o := { cls := .type "enumerate", data := .fields #[.none, .bool false, .ref s.heap.objs.size, rawInt 0, .none, .none] }) rfl
  have go := h _ (by rw [size] at last; exact last) (Heap.get?_push_of_some _ (Heap.get?_push_size _ B.free)) fun b u q => Heap.get?_push_of_some _ (Heap.get?_push_of_some _ q)
  rw [← size] at go
  exact callType_new F.called_enumerate (by decide) (F.typeCall_enumerate_1 _) (F.newCall_enumerate_1 _) (fun obj => F.args_object_init_2 obj _) F.entry_enumerate_new (meets_new B) ⟨h1, ⟨_, last, rfl⟩, go⟩
def iEnumT (K : PySem.W.Frag) (ta : TA) : TI := fun σ H R => ta σ H fun vs G => ∃ a xs, vs = [.ref a] ∧ SqT K G a xs ∧ R (IteT K a) G
theorem pi_enumT {X : Cx} {e : Expr} {ta : TA} {p pos tpos : Pos} {elts : List Expr} {kk : Nat} (hg : Gl X "enumerate") (hm : X.mg "enumerate" = none) (ha : PA X [e] ta) (one : starEach [e] X.env = [(false, eval e X.env)] := by rfl) : PI X (.Tuple elts kk tpos) (.Call (.Name "enumerate" p) [e] [] pos) (iEnumT X.K ta) := ⟨fun pins s σ H R I h => by
  refine Call_ (ld_blt I hg hm boot_enumerate (PyProof.Rows.callWith_type1 (thn (ha.run pos pins s σ H _ I h) fun us s1 ⟨vs, G, J, r, a, xs, ex, hq, q⟩ => ?_) one rfl))
  subst ex
  obtain ⟨u, rfl, rfl⟩ := vals1 r
  obtain ⟨its, _, tup, _⟩ := J.tuple hq
  have lt : a < s1.heap.objs.size := by obtain ⟨_, z, _⟩ := id tup; exact Heap.lt_size z
  refine call_new (begins_tuple a its.toArray) tup fun h2 he hit k => wpAny_pyIter_enum he ⟨_, [_, _], _, _, G, rfl, J.kept (t' := s1.toks) k, turn_enumT a (s1.heap.objs.size + 1) s1.heap.objs.size, ⟨⟨.none, he⟩, ⟨_, hit, rfl, rfl⟩, Nat.succ_ne_self _, Ne.symm (Nat.ne_of_lt (Nat.lt_succ_of_lt lt)), Nat.ne_of_lt lt⟩, fun b hb => ?_, q⟩
  have le : s1.heap.objs.size ≤ b := by
    simp only [List.mem_cons, List.not_mem_nil, or_false] at hb
    rcases hb with rfl | rfl
    · exact Nat.le_succ _
    · exact Nat.le_refl _
  exact J.fpOk le (J.hok.fresh le)⟩
/-! zip of a list and a tuple of one length -/
def ItzM (K : PySem.W.Frag) (a b : Addr) : It where
  go := fun i H => ∃ (xs ys : List V) (x y : V), SqL K H a xs ∧ SqT K H b ys ∧ xs[i]? = some x ∧ ys[i]? = some y
  yld := fun i H v G => ∃ T x y, v = .ref T ∧ H T = none ∧ G = upd H T (.tup [x, y]) ∧ (∀ xs, SqL K H a xs → xs[i]? = some x) ∧ ∀ ys, SqT K H b ys → ys[i]? = some y
  stop := fun i H => ∃ xs ys : List V, SqL K H a xs ∧ SqT K H b ys ∧ xs.length = i ∧ ys.length = i
/-- where such a zip stands -/
def AtZ (a b z TI TO i1 i2 : Addr) (i : Nat) (h : Heap) : Prop := IsZip h z TI TO .none ∧ IsTupOf2 h TI (.ref i1) (.ref i2) ∧ (∃ x y, IsTupOf2 h TO x y) ∧ h.IsListIter i1 a i ∧ h.IsTupleIter i2 b i
theorem turn_zipM {P : Program} {w : World} {K : PySem.W.Frag} {elts : List Expr} {kk : Nat} {tpos : Pos} {a b z TI TO i1 i2 : Addr} (S : ZipSep2 z TI TO i1 i2 [i1, a] [i2, b]) (na : a ≠ i1) (nb : b ≠ i2) : Turn P w K (.Tuple elts kk tpos) (ItzM K a b) [z, TI, TO, i1, i2] z (AtZ a b z TI TO i1 i2) := by
  refine turn_of List.mem_cons_self (fun i h st c hc => ?_) (fun i h h' st k => ?_) (fun A i s Q E st q => wpAny_pyIter_zip st.1 q) (fun X hP hw hK hc pins s σ H i I st hJ => ?_)
  · obtain ⟨h1, h2, ⟨x, y, h3⟩, ⟨o1, g1, _, d1⟩, o2, g2, _, d2⟩ := st
    simp only [List.mem_cons, List.not_mem_nil, or_false] at hc
    rcases hc with rfl | rfl | rfl | rfl | rfl
    · exact ⟨_, h1, nofun⟩
    · exact ⟨_, h2, nofun⟩
    · exact ⟨_, h3, nofun⟩
    · exact ⟨o1, g1, by rw [d1]; nofun⟩
    · exact ⟨o2, g2, by rw [d2]; nofun⟩
  · obtain ⟨h1, h2, ⟨x, y, h3⟩, g1, g2⟩ := st
    exact ⟨k _ (by simp) _ h1, k _ (by simp) _ h2, ⟨x, y, k _ (by simp) _ h3⟩, g1.at (k _ (by simp)), g2.at (k _ (by simp))⟩
  · subst hP hw hK
    obtain ⟨h1, h2, h3, g1, g2⟩ := st
    have hJ' : ∃ xs ys, SqL X.K H a xs ∧ SqT X.K H b ys := by
      rcases hJ with ⟨xs, ys, _, _, p, q, _⟩ | ⟨xs, ys, p, q, _⟩ <;> exact ⟨xs, ys, p, q⟩
    obtain ⟨xs, ys, hxs, hys⟩ := hJ'
    obtain ⟨its, rv, p, _⟩ := I.list hxs
    obtain ⟨jts, rw', q, _⟩ := I.tuple hys
    have hh : X.A.in1.handled = none := I.ok.hd hc
    refine ⟨_, _, _, _, _, _, WalksT.zipD2 (A := X.A) S (Draws.list hh i1 a na its.toArray) (Draws.tuple hh i2 b nb jts.toArray), fun c hc => ?_, ⟨h1, h2, h3, ⟨g1, p.isList⟩, g2, q⟩, fun h st => ⟨st.1, st.2.1, st.2.2.1, st.2.2.2.1.1, st.2.2.2.2.1⟩, fun hg => ?_, fun hs => ?_⟩
    · simp only [List.mem_cons, List.not_mem_nil, or_false] at hc ⊢
      rcases hc with e | e | e | e <;> simp [e]
    · obtain ⟨us, vs, x, y, hus, hvs, hx, hy⟩ := hg
      obtain rfl := I.list_inj hus hxs
      obtain rfl := I.tuple_inj hvs hys
      obtain ⟨u, hu, ru⟩ := rv.get hx
      obtain ⟨v, hv, rvv⟩ := rw'.get hy
      have l1 := (List.getElem?_eq_some_iff.mp hu).1
      have l2 := (List.getElem?_eq_some_iff.mp hv).1
      refine ⟨by simp; omega, fun vals hvals => ?_⟩
      obtain ⟨x1, x2, hx1, hx2, rfl⟩ := hvals
      have e1 : x1 = u := by
        have : its[i]? = some x1 := by simpa using hx1
        rw [this] at hu
        injection hu
      have e2 : x2 = v := by
        have : jts[i]? = some x2 := by simpa using hx2
        rw [this] at hv
        injection hv
      subst e1 e2
      exact ⟨[x, y], .cons ru (.cons rvv .nil), (by show 2 ≤ sizeLine; decide), fun T nT => ⟨T, x, y, rfl, nT, rfl, fun zs hz => by rw [I.list_inj hz hxs]; exact hx, fun zs hz => by rw [I.tuple_inj hz hys]; exact hy⟩⟩
    · obtain ⟨us, vs, hus, hvs, l1, l2⟩ := hs
      obtain rfl := I.list_inj hus hxs
      obtain rfl := I.tuple_inj hvs hys
      have := rv.length
      have := rw'.length
      simp
      omega
theorem sep_new {n a b : Nat} (ha : a < n) (hb : b < n) : ZipSep2 (n + 4) (n + 2) (n + 3) n (n + 1) [n, a] [n + 1, b] := by
  have ne : ∀ {x y : Nat}, (x < y ∨ y < x) → x ≠ y := fun h => by omega
  have nm : ∀ {x y z : Nat}, (x < y ∨ y < x) → (x < z ∨ z < x) → x ∉ [y, z] := fun h1 h2 h => by
    rcases List.mem_cons.mp h with e | h
    · omega
    · have := List.mem_singleton.mp h; omega
  exact ⟨ne (.inl (by omega)), ne (.inl (by omega)), ne (.inl (by omega)), ne (.inr (by omega)), List.mem_cons_self, nm (.inr (by omega)) (.inr (by omega)), nm (.inr (by omega)) (.inr (by omega)), ne (.inr (by omega)), List.mem_cons_self, nm (.inr (by omega)) (.inr (by omega)), nm (.inr (by omega)) (.inr (by omega)), nm (.inl (by omega)) (.inr (by omega)), nm (.inr (by omega)) (.inr (by omega))⟩
def iZipM (K : PySem.W.Frag) (ta : TA) : TI := fun σ H R => ta σ H fun vs G => ∃ a b xs ys, vs = [.ref a, .ref b] ∧ SqL K G a xs ∧ SqT K G b ys ∧ R (ItzM K a b) G
theorem pi_zipM {X : Cx} {e e2 : Expr} {ta : TA} {p pos tpos : Pos} {elts : List Expr} {kk : Nat} (hg : Gl X "zip") (hm : X.mg "zip" = none) (ha : PA X [e, e2] ta) (two : starEach [e, e2] X.env = (false, eval e X.env) :: starEach [e2] X.env := by rfl) (plain : (backTo pos (starEach [e2] X.env)).any (·.1) = false := by rfl) :
    PI X (.Tuple elts kk tpos) (.Call (.Name "zip" p) [e, e2] [] pos) (iZipM X.K ta) := ⟨fun pins s σ H R I h => by
  refine Call_ (ld_blt I hg hm PyProof.Rows.boot_zip (PyProof.Rows.callWith_type1 (thn (ha.run pos pins s σ H _ I h) fun us s1 ⟨vs, G, J, r, a, b, xs, ys, ex, hx, hy, q⟩ => ?_) two plain))
  subst ex
  obtain ⟨u, v, rfl, rfl, rfl⟩ := vals2 r
  obtain ⟨its, _, lst, _⟩ := J.list hx
  obtain ⟨jts, _, tup, _⟩ := J.tuple hy
  have la := lst.lt
  have lb : b < s1.heap.objs.size := by obtain ⟨_, z, _⟩ := id tup; exact Heap.lt_size z
  refine zip_begins2 (begins_list a its.toArray) (begins_tuple b jts.toArray) lst.isList tup fun h2 hz h3 h4 g1 g2 _ k => wpAny_pyIter_zip hz ⟨_, [_, _, _, _, _], _, _, G, rfl, J.kept (t' := s1.toks) k, turn_zipM (sep_new la lb) (Nat.ne_of_lt la) (Nat.ne_of_lt (Nat.lt_succ_of_lt lb)), ⟨hz, h3, ⟨_, _, h4⟩, ⟨_, g1, rfl, rfl⟩, _, g2, rfl, rfl⟩, fun c hc => ?_, q⟩
  have le : s1.heap.objs.size ≤ c := by
    simp only [List.mem_cons, List.not_mem_nil, or_false] at hc
    rcases hc with rfl | rfl | rfl | rfl | rfl <;> first | exact Nat.le_refl _ | exact Nat.le_add_right _ _
  exact J.fpOk le (J.hok.fresh le)⟩
/-! what they give -/
theorem walk_enumT {K : PySem.W.Frag} {a : Addr} {xs : List V} : Walk (IteT K a) xs.length (fun H => SqT K H a xs) (YPair (fun i => some (.int (i : Nat))) fun i => xs[i]?) where
  goes := fun i H hi q => ⟨xs, xs[i], q, List.getElem?_eq_getElem hi⟩
  stops := fun H q => ⟨xs, q, rfl⟩
  yields := fun i H v G _ q ⟨T, x, e1, e2, e3, f⟩ => ⟨T, _, x, e1, e2, e3, rfl, f xs q⟩
theorem walk_zipM {K : PySem.W.Frag} {a b : Addr} {xs ys : List V} (e : xs.length = ys.length) : Walk (ItzM K a b) xs.length (fun H => SqL K H a xs ∧ SqT K H b ys) (YPair (fun i => xs[i]?) fun i => ys[i]?) where
  goes := fun i H hi q => ⟨xs, ys, xs[i], ys[i]'(e ▸ hi), q.1, q.2, List.getElem?_eq_getElem hi, List.getElem?_eq_getElem (e ▸ hi)⟩
  stops := fun H q => ⟨xs, ys, q.1, q.2, rfl, e.symm⟩
  yields := fun i H v G _ q ⟨T, x, y, e1, e2, e3, f, g⟩ => ⟨T, x, y, e1, e2, e3, f xs q.1, g ys q.2⟩
end Enu

set_option Elab.async false
set_option linter.all false
set_option maxRecDepth 100000
set_option maxHeartbeats 4000000
/-! xs[::-1].index(x): a tuple that has just been made, and is known to have no dict. -/
namespace Tix
open PySem PySem.Spec PyProof.Rows L2
/-- a plain tuple -/
def TO (p : Addr) (xs : List V) : HO := .ext fun h => xs.length ≤ sizeLine ∧ ∃ (o : Obj) (its : List Value) (n : Nat), h.get? p = some o ∧ o.cls = .type "tuple" ∧ o.dict = none ∧ o.data = .seq its.toArray n ∧ Vals xs its
def tRevX (K : PySem.W.Frag) (te : TE) : TE := fun σ H Q => te σ H fun x H1 => ∃ a xs, x = .ref a ∧ SqT K H1 a xs ∧ ∀ p, H1 p = none → Q (.ref p) (upd H1 p (TO p xs.reverse))
theorem pe_revX {X : Cx} {e : Expr} {te : TE} {k : Nat} {p1 p2 p3 pos : Pos} (he : PE X e te) : PE X (.Subscript e (.Slice none none (some (.UnaryOp .USub (.Constant (.int 1) k p1) p2)) p3) pos) (tRevX X.K te) := by
  refine ⟨fun pins s σ H Q I h => ?_⟩
  refine Subscript_ (thn (he.run pins s σ H _ I h) fun v s1 ⟨x, H1, I1, r1, a, xs, ex, hx, q⟩ => ?_)
  subst ex
  cases r1
  have third : PO X (some (.UnaryOp .USub (.Constant (.int 1) k p1) p2)) (tPart (tUn (rU fun i => .int (-i)) (tC (.int 1)))) := po_some (pe_un un_neg pe_int)
  refine wpAny_Slice (thn (po_none.run pins s1 σ H1 (fun o G => o = none ∧ G = H1) I1 ⟨rfl, rfl⟩) fun va s2 ⟨oa, G, I2, qa, ea, eG⟩ => ?_)
  subst ea eG
  refine thn (po_none.run pins s2 σ G (fun o G' => o = none ∧ G' = G) I2 ⟨rfl, rfl⟩) fun vb s3 ⟨ob, G', I3, qb, eb, eG'⟩ => ?_
  subst eb eG'
  refine thn (third.run pins s3 σ G' (fun o G2 => o = some (-1) ∧ G2 = G') I3 ⟨1, rfl, -1, rfl, rfl, rfl⟩) fun vc s4 ⟨oc, G2, I4, qc, ec, eG2⟩ => ?_
  subst ec eG2
  have I5 : Inv X pins σ G2 { s4 with heap := s4.heap.push { cls := .type "slice", data := .fields #[va, vb, vc] } } := I4.kept (t' := s4.toks) fun b ob q => Heap.get?_push_of_some _ q
  obtain ⟨its, r, ht, hz⟩ := I5.tuple hx
  have hlen := r.length
  show wpAny (model X.prog X.w) X.A (subscriptTail e (.Slice none none (some (.UnaryOp .USub (.Constant (.int 1) k p1) p2)) p3) (.ref a) (.ref s4.heap.objs.size)) (EP X pins σ Q) X.xe { s4 with heap := s4.heap.push { cls := .type "slice", data := .fields #[va, vb, vc] } }
  refine tail_any (ops := [.ref a, .ref s4.heap.objs.size]) ht.typeIs PyProof.Rows.slot_tuple_getitem.lookup ?_ (by with_unfolding_all rfl)
  refine Rv.tup_rev ht (Heap.IsSliceOf.new _ va vb vc) qa qb qc ?_ (by rw [List.size_toArray]; omega)
  refine ⟨.ref _, _, I5.laid (t' := s4.toks) (o := TO _ xs.reverse) (fun b ob q => Heap.get?_push_of_some _ q) (Nat.le_refl _) ?_, rfl, q _ (I5.hok.fresh (Nat.le_refl _))⟩
  have g := Heap.get?_push_size (s4.heap.push { cls := .type "slice", data := .fields #[va, vb, vc] }) (o := { cls := .type "tuple", data := .seq its.reverse.toArray }) rfl
  refine ⟨⟨by rw [List.length_reverse]; exact hz, _, its.reverse, _, g, rfl, rfl, rfl, r.reverse⟩, ⟨_, g⟩, ?_⟩
  rintro h1 h2 ⟨a1, o, its, n, b1, b2, b3, b4, b5⟩ k
  exact ⟨a1, o, its, n, k o b1, b2, b3, b4, b5⟩
section
variable {X : Cx} {o e : Expr} {es : List Expr} {to : TE} {t : TA} {apos cpos : Pos}
def tTix (to : TE) (t : TA) : TE := fun σ H Q => to σ H fun x H1 => ∃ (p : Addr) (ys : List Str), x = .ref p ∧ H1 p = some (TO p (ys.map V.str)) ∧ t σ H1 fun vs H2 => ∃ (z : Str) (j : Nat), vs = [.str z] ∧ H2 p = some (TO p (ys.map V.str)) ∧ ys[j]? = some z ∧ (∀ m, m < j → ys[m]? ≠ some z) ∧ Q (.int (j : Nat)) H2
theorem pe_tix (ha : PA X (e :: es) t) (ho : PE X o to)
    (hbase : attributeBase o "index" X.env (eval o X.env) = eval o X.env := by rfl)
    (hfew : ((backTo cpos (starEach (e :: es) X.env)).all (fun x => !x.1) && (backToKw cpos (keywordEach [] X.env)).all (fun x => x.1.isSome)
      && decide ((e :: es).length + ([] : List Keyword).length + (if ([] : List Keyword).isEmpty then 0 else 1) < 30)) = true := by rfl)
    (hline : (apos.endLine == cpos.line) = true := by rfl) (hs : starEach (e :: es) X.env = (false, eval e X.env) :: starEach es X.env := by rfl) (hplain : (backTo cpos (starEach es X.env)).any (·.1) = false := by rfl) :
    PE X (.Call (.Attribute o "index" apos) (e :: es) [] cpos) (tTix to t) := by
  refine ⟨fun pins s σ H Q I h => ?_⟩
  refine wpAny_Call_method_late hbase hfew hline rfl (thn (ho.run pins s σ H _ I h) fun v s1 ⟨x, H1, I1, r1, p, ys, ex, hp, q1⟩ => ?_)
  subst ex
  obtain rfl : v = Value.ref p := r1
  obtain ⟨⟨_, ob, its, n, g1, g2, g3, g4, g5⟩, _, _⟩ := (show ObjOk X.prog X.w H1 s1.heap p (TO p (ys.map V.str)) from I1.hok p _ hp)
  refine ⟨"tuple", _, PySem.F.plainAttrs_tuple, PySem.F.slot_tuple_index, PySem.F.type_tuple_index, ⟨ob, g1, g2⟩, fun a ea => ?_, ?_⟩
  · cases ea
    exact ⟨ob, g1, g3⟩
  have hA := ha.run cpos pins s1 σ H1 _ I1 q1
  rw [hs] at hA ⊢
  refine Calls.callWith_builtin (by show (false || (backTo cpos (starEach es X.env)).any (·.1)) = false; rw [hplain] <;> rfl) (Calls.evalArgs_plain ?_)
  refine thn hA fun us s2 ⟨vs, H2, I2, r2, q2⟩ => ?_
  obtain ⟨z, j, rfl, hp2, hy, hno, q⟩ := q2
  obtain ⟨u, rfl, tk, rfl⟩ := vals1 r2
  obtain ⟨⟨_, ob2, its2, n2, g1', g2', g3', g4', r⟩, _, _⟩ := (show ObjOk X.prog X.w H2 s2.heap p (TO p (ys.map V.str)) from I2.hok p _ hp2)
  obtain ⟨cls, dd, dt, sl⟩ := ob2
  simp only at g2' g4'
  subst g2'
  subst g4'
  have hl : its2.toArray.size = ys.length := by rw [List.size_toArray, ← r.length, List.length_map]
  have hj : j < its2.toArray.size := by rw [hl]; exact (List.getElem?_eq_some_iff.mp hy).1
  have at' : ∀ (m : Nat) (hm : m < its2.toArray.size), ∃ y t', ys[m]? = some y ∧ its2.toArray[m] = Value.str y t' := fun m hm => by
    have hm' : m < ys.length := by rw [← hl]; exact hm
    obtain ⟨w, hw, t', hw'⟩ := r.get (i := m) (x := .str ys[m]) (by simp [hm'])
    refine ⟨ys[m], t', List.getElem?_eq_getElem hm', ?_⟩
    have e := (List.getElem?_eq_some_iff.mp hw).2
    rw [← hw', ← e]
    simp
  refine call_meets PySem.F.slot_tuple_index ⟨_, g1', rfl⟩ PySem.F.entry_tuple_index (PySem.F.args_tuple_index_2 _ _) (TI.tuple_indexAt p its2.toArray n2 dd sl (.str z tk) (eqU (.str z)) j hj ?_ ?_)
    ⟨g1', fun w hw => mem_eqAt (x := .str z) ⟨tk, rfl⟩ rfl r (flat_strs ys) w (by simpa using hw), ⟨.int (j : Nat), H2, I2.tok _, ⟨_, rfl⟩, q⟩⟩
  · obtain ⟨y, t', h1, h2⟩ := at' j hj
    rw [hy] at h1
    cases h1
    rw [h2]
    show (z == z) = true
    exact beq_self_eq_true z
  · intro m hm hmj
    obtain ⟨y, t', h1, h2⟩ := at' m hm
    rw [h2]
    show (y == z) = false
    rw [beq_eq_false_iff_ne]
    rintro rfl
    exact hno m hmj h1
end
end Tix

set_option Elab.async false
set_option linter.all false
set_option maxRecDepth 100000
set_option maxHeartbeats 4000000
/-! law k01: the draws -/
namespace K3
open PySem L2 Fo
def top (i : Nat) : Stmt := PySem.Challenge.pw_finitestructures_k10_truth.main.body.getD i (.Pass ⟨0, 0, 0, 0⟩)
abbrev sInner : Stmt := top 1
abbrev sHanded : Stmt := top 2
abbrev sRowsOf : Stmt := top 4
abbrev sPoints : Stmt := top 5
abbrev sWithin : Stmt := top 8
abbrev sBoth : Stmt := top 9
abbrev sEither : Stmt := top 10
abbrev sIsTrue : Stmt := top 11
abbrev sAllV : Stmt := top 12
abbrev sCell : Stmt := top 14
abbrev sDigits : Stmt := top 15
abbrev sBox : Stmt := top 16
abbrev sDraw : Stmt := top 17
abbrev sKinds : Stmt := top 18
abbrev sName : Stmt := top 19
abbrev sFormula : Stmt := top 20
abbrev sBelow : Stmt := top 21
abbrev sTuples : Stmt := top 22
abbrev sStruct : Stmt := top 23
abbrev sLRank : Stmt := top 24
abbrev sValues : Stmt := top 25
abbrev sSame : Stmt := top 26
abbrev sTrue : Stmt := top 27
abbrev sLFree : Stmt := top 28
abbrev sLaw : Stmt := top 29
abbrev cTab : Stmt := top 7
/-- which built-ins no name of the module hides -/
structure Bt (mg : Str → Option Value) : Prop where
  len : mg "len" = none
  max : mg "max" = none
  int : mg "int" = none
  tuple : mg "tuple" = none
  list : mg "list" = none
  set : mg "set" = none
  sorted : mg "sorted" = none
  range : mg "range" = none
  isinstance : mg "isinstance" = none
  dict : mg "dict" = none
  str : mg "str" = none
  bool : mg "bool" = none
  sum : mg "sum" = none
  enumerate : mg "enumerate" = none
  zip : mg "zip" = none
def N8 : List Str := ["x", "y", "z", "v0", "v1", "s", "t1", "a"]
section
variable {P : Program} {w : World} {K : PySem.W.Frag} {mg : Str → Option Value} {base : Heap}
/-! ### cell -/
theorem at_int {ns : List Int} {k : Int} (h0 : 0 ≤ k) (h : k < (ns.length : Int)) : ∃ v : Int, atI (ns.map V.int) k = some (.int v) := by
  have hk : k.toNat < ns.length := by omega
  have e : k = ((k.toNat : Nat) : Int) := by omega
  refine ⟨ns[k.toNat], at_of e ?_⟩
  rw [List.getElem?_map, List.getElem?_eq_getElem hk]
  rfl
def spCell (K : PySem.W.Frag) : Sp := fun vs H Q _ => ∃ (a : Addr) (ns : List Int) (k : Int), vs = [.ref a, .int k] ∧ SqL K H a (ns.map V.int) ∧ 0 ≤ k ∧ ∀ z, Q (.int z) H
theorem scCell : FnScope ["script", "k"] ["script", "k"] (defScope sCell) := ⟨rfl, rfl, rfl, by decide +kernel, rfl, by decide +kernel, by decide +kernel⟩
theorem ok_cell {f : Addr} {fd : FuncData} (B : Bt mg) (F : Fun K "_law_cell" "_law_cell" sCell f fd) : FnOk P w K mg base CX0 1 f fd ["script", "k"] (spCell K) := by
  refine F.ok scCell (fun vs H Q E h => ?_) (fun cdv A outer s H vs Q E hr h => ?_)
  · obtain ⟨a, ns, k, rfl, _⟩ := h
    rfl
  obtain ⟨a, ns, k, rfl, hS, h0, q⟩ := h
  refine ⟨_, pss_cons (ps_if (pt_cmpR op_lt (pv 1) (pe_callB call_len_seq rfl B.len PySem.boot_len (pa_cons (pv 0) pa_nil)) (nomark _)) (pss_one (ps_ret (pe_ix ix_list (pv 0) (pv 1) (fun _ _ => rfl)))) pss_nil)
    (pss_one (ps_ret pe_int)), ?_⟩
  refine ⟨_, rfl, _, rfl, a, _, rfl, .inl hS, _, _, rfl, rfl, _, rfl, ?_⟩
  refine ite2 (fun c => ?_) (fun c => ?_)
  · have c' : k < (((ns.map V.int).length : Nat) : Int) := of_decide_eq_true c
    rw [List.length_map] at c'
    obtain ⟨v, hv⟩ := at_int h0 c'
    exact ⟨_, rfl, _, rfl, a, _, _, _, rfl, rfl, hS, hv, q _⟩
  · exact q _
/-! ### draw -/
/-- all but what stands at b is as it was -/
def But (b : Addr) (H H' : Hp) : Prop := ∀ a o, a ≠ b → H a = some o → H' a = some o
theorem But.refl (b : Addr) (H : Hp) : But b H H := fun _ _ _ h => h
theorem But.trans {b : Addr} {H H1 H2 : Hp} (x : But b H H1) (y : But b H1 H2) : But b H H2 := fun a o n h => y a o n (x a o n h)
theorem But.of_same {b : Addr} {H H' : Hp} (x : Same H H') : But b H H' := fun a o _ h => x a o h
/-- a box: a list of a list of ints and a place -/
def BoxAt (H : Hp) (b d : Addr) : Prop := ∃ (ns : List Int) (i : Int), H b = some (.lst [.ref d, .int i]) ∧ H d = some (.lst (ns.map V.int)) ∧ 0 ≤ i ∧ d ≠ b
theorem BoxAt.same {H H' : Hp} {b d : Addr} (x : BoxAt H b d) (e : Same H H') : BoxAt H' b d :=
  let ⟨ns, i, h1, h2, h3, h4⟩ := x; ⟨ns, i, e _ _ h1, e _ _ h2, h3, h4⟩
theorem But.tk {K : PySem.W.Frag} {b d : Addr} {H H' : Hp} (x : But b H H') (y : BoxAt H b d) : Tk K H H' := fun a xs h => by
  obtain ⟨ns, i, h1, _⟩ := y
  rcases h with (h | ⟨o, h⟩) | h
  · exact .inl (.inl (x _ _ (ne_of h h1 (by intro z; cases z)) h))
  · exact .inl (.inr ⟨o, x _ _ (ne_of h h1 (by intro z; cases z)) h⟩)
  · exact .inr h
def spDraw : Sp := fun vs H Q _ => ∃ (b d : Addr) (m : Int), vs = [.ref b, .int m] ∧ BoxAt H b d ∧ 0 < m ∧ ∀ (r : Int) (H' : Hp), 0 ≤ r → r < m → But b H H' → BoxAt H' b d → Q (.int r) H'
theorem scDraw : FnScope ["box", "many", "at"] ["box", "many"] (defScope sDraw) := ⟨rfl, rfl, rfl, by decide +kernel, rfl, by decide +kernel, by decide +kernel⟩
theorem ok_draw {f : Addr} {fd : FuncData} (B : Bt mg) (F : Fun K "_law_draw" "_law_draw" sDraw f fd) : FnOk P w K mg base CX0 1 f fd ["box", "many"] spDraw := by
  refine F.ok scDraw (fun vs H Q E h => ?_) (fun cdv A outer s H vs Q E hr h => ?_)
  · obtain ⟨b, d, m, rfl, _⟩ := h
    rfl
  obtain ⟨b, d, m, rfl, ⟨ns, i, h1, h2, h3, h4⟩, hm, q⟩ := h
  refine ⟨_, pss_cons (ps_set (i := 2) scDraw.nd rfl (.inl rfl) (pe_ix ix_list (pv 0) pe_int (fun _ _ => rfl)))
    (pss_cons (ps_asg (pe_op op_add (pv 2) pe_int) (pg_sub (pv 0) pe_int set_list))
    (pss_cons (ps_if (pt_cmpR op_lt (pv 2) (pe_callB call_len_seq rfl B.len PySem.boot_len (pa_cons (pe_ix ix_list (pv 0) pe_int (fun _ _ => rfl)) pa_nil)) (nomark _))
      (pss_one (ps_ret (pe_op op_mod (pe_callTy call_int1 rfl B.int (by decide +kernel) (pa_cons (pe_ix ix_list (pe_ix ix_list (pv 0) pe_int (fun _ _ => rfl)) (pv 2) (fun _ _ => rfl)) pa_nil)) (pv 1)))) pss_nil)
    (pss_one (ps_ret pe_int)))), ?_⟩
  refine ⟨_, rfl, b, _, _, _, rfl, rfl, SqL.of h1, at_of (j := 1) rfl rfl, ?_⟩
  refine ⟨_, rfl, _, _, rfl, rfl, _, rfl, b, _, 1, 1, rfl, rfl, h1, rfl, ?_⟩
  have g1 : upd H b (.lst ([V.ref d, V.int i].set 1 (.int (i + 1)))) b = some (.lst [.ref d, .int (i + 1)]) := upd_same
  have g2 : upd H b (.lst ([V.ref d, V.int i].set 1 (.int (i + 1)))) d = some (.lst (ns.map V.int)) := by rw [upd_ne h4]; exact h2
  have g3 : But b H (upd H b (.lst ([V.ref d, V.int i].set 1 (.int (i + 1))))) := fun a o n e => by rw [upd_ne n]; exact e
  have g4 : BoxAt (upd H b (.lst ([V.ref d, V.int i].set 1 (.int (i + 1))))) b d := ⟨ns, i + 1, g1, g2, by omega, h4⟩
  refine ⟨_, rfl, _, rfl, b, _, _, _, rfl, rfl, SqL.of g1, at_of (j := 0) rfl rfl, d, _, rfl, .inl (SqL.of g2), _, _, rfl, rfl, _, rfl, ?_⟩
  refine ite2 (fun c => ?_) (fun c => ?_)
  · have c' : i < (((ns.map V.int).length : Nat) : Int) := of_decide_eq_true c
    rw [List.length_map] at c'
    obtain ⟨v, hv⟩ := at_int h3 c'
    refine ⟨_, rfl, b, _, _, _, rfl, rfl, SqL.of g1, at_of (j := 0) rfl rfl, _, rfl, d, _, _, _, rfl, rfl, SqL.of g2, hv, .inl ⟨_, rfl, _, rfl, _, _, rfl, rfl, hm, ?_⟩⟩
    exact q _ _ (Int.emod_nonneg _ (by omega)) (Int.emod_lt_of_pos _ hm) g3 g4
  · exact q _ _ (Int.le_refl 0) hm g3 g4
end
end K3

set_option Elab.async false
set_option linter.all false
set_option maxRecDepth 100000
set_option maxHeartbeats 4000000
namespace K3
open PySem L2 Fo
open C8 (Cal pe_c pss_cut)
section
variable {P : Program} {w : World} {K : PySem.W.Frag} {mg : Str → Option Value} {base : Heap}
theorem cal_of {x : Str} {f : Addr} {fd : FuncData} {ps : List Str} {k : Nat} {sp : Sp} (G : FnOk P w K mg base CX0 k f fd ps sp) (m : mg x = some (.ref f)) (kp : PySem.W.keepIn K (.ref f) = true) (b : Binds K fd ps []) : Cal P w K mg base k x sp [] :=
  ⟨⟨f, fd, ps, [], G, m, kp, b, .nil⟩⟩
/-! ### digits, box -/
def spDigits (K : PySem.W.Frag) : Sp := fun vs H Q _ => ∃ (a : Addr) (ns : List Int), vs = [.ref a, .int 0, .int 63] ∧ SqL K H a (ns.map V.int) ∧
  ∀ (d : Addr) (ms : List Int) (H' : Hp), Same H H' → H d = none → H' d = some (.lst (ms.map V.int)) → Q (.ref d) H'
abbrev nDigits : List Str := ["script", "first", "last", "digits", "k", "cell", "turn", "seed"]
theorem scDigits : FnScope nDigits ["script", "first", "last"] (defScope sDigits) := ⟨rfl, rfl, rfl, by decide +kernel, rfl, by decide +kernel, by decide +kernel⟩
theorem same_to {H H' : Hp} {d : Addr} {o : HO} (s : Same H H') (h : H d = none) : Same H (upd H' d o) := fun b u e => by
  rw [upd_ne (ne_of_none e h)]
  exact s _ _ e
theorem ints_snoc {ms : List Int} {z : Int} : ms.map V.int ++ [V.int z] = (ms ++ [z]).map V.int := by simp
theorem lineOk {n : Nat} (h : n ≤ 10000) : n < sizeLine := Nat.lt_of_le_of_lt h (by decide)
theorem ok_digits {f : Addr} {fd : FuncData} (B : Bt mg) (cCell : Cal P w K mg base 1 "_law_cell" (spCell K) []) (F : Fun K "_law_digits" "_law_digits" sDigits f fd) : FnOk P w K mg base CX0 2 f fd ["script", "first", "last"] (spDigits K) := by
  refine F.ok scDigits (fun vs H Q E h => ?_) (fun cdv A outer s H vs Q E hr h => ?_)
  · obtain ⟨a, ns, rfl, _⟩ := h
    rfl
  obtain ⟨a, ns, rfl, hS, q⟩ := h
  have nd := scDigits.nd
  refine ⟨_, pss_cons (ps_set (i := 3) nd rfl (.inl rfl) (pe_lst pa_nil))
    (pss_cons (ps_for PassesOwn.never rfl (pi_range2 (by rfl) B.range (pa_cons (pv 1) (pa_cons (pv 2) pa_nil))) (pg_name (i := 4) nd rfl (.inl rfl))
      (pss_cons (ps_set (i := 5) nd rfl (.inl rfl) (pe_c cCell hr (by decide) rfl (pa_cons (pv 0) (pa_cons (pv 4) pa_nil))))
      (pss_cut (ps_if (pt_cmpR op_lt (pv 5) pe_int (nomark _)) (pss_one (ps_set (i := 5) nd rfl (.inl rfl) (pe_op op_sub pe_int (pe_op op_mul pe_int (pv 5))))) pss_nil)
      (pss_one (ps_if (pt_cmpR op_ge (pv 5) (pe_op op_pow pe_int pe_int) (nomark _))
        (pss_one (ps_for PassesOwn.never rfl (pi_range1 rfl B.range (pa_cons pe_int pa_nil)) (pg_name (i := 6) nd rfl (.inl rfl))
          (pss_one (ps_if (pt_cmpR op_gt (pv 5) pe_int (nomark _))
            (pss_cons (ps_expr (pe_bm PySem.F.plainAttrs_list PySem.F.slot_list_append PySem.F.type_list_append mt_append (pv 3) (pa_cons (pe_op op_mod (pe_callTy call_int1 rfl B.int (by decide +kernel) (pa_cons (pv 5) pa_nil)) pe_int) pa_nil)))
            (pss_one (ps_set (i := 5) nd rfl (.inl rfl) (pe_op op_fdiv (pv 5) pe_int)))) pss_nil))))
        (pss_cons (ps_set (i := 7) nd rfl (.inl rfl) (pe_op op_mod (pe_callTy call_int1 rfl B.int (by decide +kernel) (pa_cons (pe_op op_add (pe_op op_add (pe_op op_mul (pv 5) pe_int) (pe_op op_mul (pv 4) pe_int)) pe_int) pa_nil)) pe_int))
        (pss_one (ps_for PassesOwn.never rfl (pi_range1 rfl B.range (pa_cons pe_int pa_nil)) (pg_name (i := 6) nd rfl (.inl rfl))
          (pss_cons (ps_set (i := 7) nd rfl (.inl rfl) (pe_op op_mod (pe_callTy call_int1 rfl B.int (by decide +kernel) (pa_cons (pe_op op_add (pe_op op_add (pe_op op_mul (pv 7) pe_int) (pe_op op_mul pe_int (pv 6))) pe_int) pa_nil)) pe_int))
          (pss_one (ps_expr (pe_bm PySem.F.plainAttrs_list PySem.F.slot_list_append PySem.F.type_list_append mt_append (pv 3) (pa_cons (pe_op op_mod (pe_callTy call_int1 rfl B.int (by decide +kernel) (pa_cons (pe_op op_fdiv (pv 7) pe_int) pa_nil)) pe_int) pa_nil)))))))))))))
    (pss_one (ps_ret (pv 3)))), ?_⟩
  refine ⟨Nat.zero_le _, fun D nD => ?_⟩
  refine ⟨_, rfl, _, rfl, 0, 63, rfl, ⟨by decide, by decide, by decide, by decide⟩, for_range (lo := 0) (n := 63) (fun i σ H' => ∃ (ms : List Int) (k c t sd : Option V), σ = [some (.ref a), some (.int 0), some (.int 63), some (.ref D), k, c, t, sd] ∧ Same H H' ∧ H' D = some (.lst (ms.map V.int)) ∧ ms.length ≤ 60 * i)
    ⟨[], none, none, none, none, rfl, same_new nD _, upd_same, Nat.zero_le _⟩ ?_ ?_⟩
  · rintro i σ H1 hi ⟨ms, k, c, t, sd, rfl, s1, hD, hl⟩
    refine ⟨_, rfl, _, rfl, a, ns, 0 + (i : Int), rfl, s1.seq hS, by omega, fun z => ?_⟩
    refine ⟨fun σ' H' => ∃ y : Int, H' = H1 ∧ σ' = [some (.ref a), some (.int 0), some (.int 63), some (.ref D), some (.int (0 + (i : Int))), some (.int y), t, sd], ⟨_, rfl, _, _, rfl, rfl, _, rfl, ite2 (fun _ => ?_) (fun _ => ?_)⟩, ?_⟩
    · exact ⟨_, rfl, _, _, rfl, rfl, .inl ⟨by decide, by decide⟩, _, _, rfl, rfl, _, rfl, rfl⟩
    · exact ⟨z, rfl, rfl⟩
    rintro σ' H' ⟨y, rfl, rfl⟩
    refine ⟨_, rfl, _, _, rfl, rfl, ⟨by decide, by decide, by decide⟩, _, _, rfl, rfl, _, rfl, ite2 (fun _ => ?_) (fun _ => ?_)⟩
    · refine ⟨60, rfl, by decide, by decide, for_range (lo := 0) (n := 60) (fun j σ H2 => ∃ (ms2 : List Int) (y t : Int) (t' : Option V), σ = [some (.ref a), some (.int 0), some (.int 63), some (.ref D), some (.int (0 + (i : Int))), some (.int y), t', sd] ∧ Same H H2 ∧ H2 D = some (.lst (ms2.map V.int)) ∧ ms2.length ≤ 60 * i + j)
        ⟨ms, y, 0, t, rfl, s1, hD, by omega⟩ ?_ ?_⟩
      · rintro j σ H2 hj ⟨ms2, y2, _, t', rfl, s2, hD2, hl2⟩
        refine ⟨_, rfl, _, _, rfl, rfl, _, rfl, ite2 (fun _ => ?_) (fun _ => ?_)⟩
        · refine ⟨_, rfl, .inl ⟨rfl, _, SqL.of hD2⟩, _, rfl, .inl ⟨_, rfl, _, _, rfl, rfl, (by show (0 : Int) < 1000; decide), D, _, _, rfl, rfl, hD2, lineOk (by rw [List.length_map]; omega), _, rfl, _, _, rfl, rfl, ⟨by decide, by decide⟩, ?_⟩⟩
          exact ⟨ms2 ++ [y2 % 1000], _, 0, _, rfl, same_to s2 nD, by rw [upd_same, ints_snoc], by rw [List.length_append, List.length_singleton]; omega⟩
        · exact ⟨ms2, y2, 0, _, rfl, s2, hD2, by omega⟩
      · rintro σ H2 ⟨ms2, y2, _, t', rfl, s2, hD2, hl2⟩
        exact ⟨ms2, _, _, _, _, rfl, s2, hD2, by omega⟩
    · refine ⟨_, rfl, _, _, rfl, rfl, .inr ⟨by decide, by decide⟩, _, rfl, _, _, rfl, rfl, .inr ⟨by decide, by decide⟩, _, _, rfl, rfl, _, _, rfl, rfl, .inl ⟨_, rfl, _, _, rfl, rfl, (by show (0 : Int) < 2147483647; decide), ?_⟩⟩
      refine ⟨12, rfl, by decide, by decide, for_range (lo := 0) (n := 12) (fun j σ H2 => ∃ (ms2 : List Int) (u : Int) (t' : Option V), σ = [some (.ref a), some (.int 0), some (.int 63), some (.ref D), some (.int (0 + (i : Int))), some (.int y), t', some (.int u)] ∧ Same H H2 ∧ H2 D = some (.lst (ms2.map V.int)) ∧ ms2.length ≤ 60 * i + j)
        ⟨ms, _, t, rfl, s1, hD, by omega⟩ ?_ ?_⟩
      · rintro j σ H2 hj ⟨ms2, u2, t', rfl, s2, hD2, hl2⟩
        refine ⟨_, rfl, _, _, rfl, rfl, .inr ⟨by decide, by decide⟩, _, rfl, _, _, rfl, rfl, .inl ⟨by decide, by decide⟩, _, _, rfl, rfl, _, _, rfl, rfl, .inl ⟨_, rfl, _, _, rfl, rfl, (by show (0 : Int) < 2147483647; decide), ?_⟩⟩
        refine ⟨_, rfl, .inl ⟨rfl, _, SqL.of hD2⟩, _, rfl, _, _, rfl, rfl, ⟨by decide, by decide⟩, .inl ⟨_, rfl, _, _, rfl, rfl, (by show (0 : Int) < 1000; decide), D, _, _, rfl, rfl, hD2, lineOk (by rw [List.length_map]; omega), ?_⟩⟩
        exact ⟨ms2 ++ [_], _, _, rfl, same_to s2 nD, by rw [upd_same, ints_snoc], by rw [List.length_append, List.length_singleton]; omega⟩
      · rintro σ H2 ⟨ms2, u2, t', rfl, s2, hD2, hl2⟩
        exact ⟨ms2, _, _, _, _, rfl, s2, hD2, by omega⟩
  · rintro σ H1 ⟨ms, k, c, t, sd, rfl, s1, hD, hl⟩
    exact ⟨_, rfl, q D ms _ s1 nD hD⟩

def spBox (K : PySem.W.Frag) : Sp := fun vs H Q _ => ∃ (a : Addr) (ns : List Int), vs = [.ref a, .int 0, .int 63] ∧ SqL K H a (ns.map V.int) ∧
  ∀ (b d : Addr) (H' : Hp), Same H H' → H b = none → BoxAt H' b d → Q (.ref b) H'
theorem scBox : FnScope ["script", "first", "last"] ["script", "first", "last"] (defScope sBox) := ⟨rfl, rfl, rfl, by decide +kernel, rfl, by decide +kernel, by decide +kernel⟩
theorem ok_box {f : Addr} {fd : FuncData} (cDigits : Cal P w K mg base 2 "_law_digits" (spDigits K) []) (F : Fun K "_law_box" "_law_box" sBox f fd) : FnOk P w K mg base CX0 3 f fd ["script", "first", "last"] (spBox K) := by
  refine F.ok scBox (fun vs H Q E h => ?_) (fun cdv A outer s H vs Q E hr h => ?_)
  · obtain ⟨a, ns, rfl, _⟩ := h
    rfl
  obtain ⟨a, ns, rfl, hS, q⟩ := h
  refine ⟨_, pss_one (ps_ret (pe_lst (pa_cons (pe_c cDigits hr (by decide) rfl (pa_cons (pv 0) (pa_cons (pv 1) (pa_cons (pv 2) pa_nil)))) (pa_cons pe_int pa_nil)))), ?_⟩
  refine ⟨_, rfl, _, rfl, _, rfl, a, ns, rfl, hS, fun d ms H1 s1 n1 h1 => ⟨by show 2 ≤ sizeLine; decide, fun b nb => ?_⟩⟩
  have ne : d ≠ b := ne_of_none h1 nb
  exact q b d _ (s1.trans (same_new nb _)) (s1.free nb) ⟨ms, 0, upd_same, by rw [upd_ne ne]; exact h1, Int.le_refl 0, ne⟩
/-! ### name, kinds -/
def spName : Sp := fun vs H Q _ => ∃ (b d : Addr), vs = [.ref b] ∧ BoxAt H b d ∧ ∀ (x : Str) (H' : Hp), x ∈ N8 → But b H H' → BoxAt H' b d → Q (.str x) H'
theorem scName : FnScope ["box"] ["box"] (defScope sName) := ⟨rfl, rfl, rfl, by decide +kernel, rfl, by decide +kernel, by decide +kernel⟩
theorem item_lt {xs : List V} {r : Int} {n : Nat} (h0 : 0 ≤ r) (h : r < (n : Int)) (hn : xs.length = n) : ∃ v, v ∈ xs ∧ atI xs r = some v := by
  have hk : r.toNat < xs.length := by omega
  have e : r = ((r.toNat : Nat) : Int) := by omega
  exact ⟨xs[r.toNat], List.getElem_mem hk, at_of e (List.getElem?_eq_getElem hk)⟩
theorem ok_name {f : Addr} {fd : FuncData} (cDraw : Cal P w K mg base 1 "_law_draw" spDraw []) (F : Fun K "_law_name" "_law_name" sName f fd) : FnOk P w K mg base CX0 2 f fd ["box"] spName := by
  refine F.ok scName (fun vs H Q E h => ?_) (fun cdv A outer s H vs Q E hr h => ?_)
  · obtain ⟨b, d, rfl, _⟩ := h
    rfl
  obtain ⟨b, d, rfl, hB, q⟩ := h
  refine ⟨_, pss_one (ps_ret (pe_ix ix_list (pe_lst (pa_cons pe_str (pa_cons pe_str (pa_cons pe_str (pa_cons pe_str (pa_cons pe_str (pa_cons pe_str (pa_cons pe_str (pa_cons pe_str pa_nil)))))))))
    (pe_c cDraw hr (by decide) rfl (pa_cons (pv 0) (pa_cons pe_int pa_nil))) (fun _ _ => rfl))), ?_⟩
  refine ⟨by show 8 ≤ sizeLine; decide, fun p hp => ⟨_, rfl, b, d, 8, rfl, hB.same (same_new hp _), by decide, fun r H1 r0 r1 b1 x1 => ?_⟩⟩
  have npb : p ≠ b := fun e => by
    obtain ⟨ns, i, h1, _⟩ := hB
    rw [e, h1] at hp
    cases hp
  obtain ⟨v, hv, ha⟩ := item_lt (xs := [.str "x", .str "y", .str "z", .str "v0", .str "v1", .str "s", .str "t1", .str "a"]) (n := 8) r0 r1 rfl
  refine ⟨p, _, _, v, rfl, rfl, SqL.of (b1 _ _ npb upd_same), ha, ?_⟩
  have sv : ∃ x, v = V.str x ∧ x ∈ N8 := by
    simp only [List.mem_cons, List.not_mem_nil, or_false] at hv
    rcases hv with rfl | rfl | rfl | rfl | rfl | rfl | rfl | rfl <;> exact ⟨_, rfl, by simp [N8]⟩
  obtain ⟨x, rfl, h8⟩ := sv
  exact q x H1 h8 ((But.of_same (same_new hp _)).trans b1) x1
end
end K3

set_option Elab.async false
set_option linter.all false
set_option maxRecDepth 100000
set_option maxHeartbeats 4000000
namespace K3
open PySem L2 Fo
open C8 (Cal pe_c pss_cut)
section
variable {P : Program} {w : World} {K : PySem.W.Frag} {mg : Str → Option Value} {base : Heap}
def Kd : List (List (Str × Nat)) := [[("E", 2)], [("E", 2), ("P", 1)], [("P", 1), ("Q", 1)], [("E", 2), ("F", 2)], []]
def PrAt (K : PySem.W.Frag) (H : Hp) (u : V) (p : Str × Nat) : Prop := ∃ q : Addr, u = .ref q ∧ SqT K H q [.str p.1, .int (p.2 : Int)]
theorem PrAt.tk {H H' : Hp} {u : V} {p : Str × Nat} (x : PrAt K H u p) (t : Tk K H H') : PrAt K H' u p := let ⟨q, e, h⟩ := x; ⟨q, e, t _ _ h⟩
def KindsAt (K : PySem.W.Frag) (ks : List (Str × Nat)) (H : Hp) (v : V) : Prop := ∃ (a : Addr) (us : List V), v = .ref a ∧ SqT K H a us ∧ ks ∈ Kd ∧ All2 (PrAt K H) us ks
theorem KindsAt.tk {ks : List (Str × Nat)} {H H' : Hp} {v : V} (x : KindsAt K ks H v) (t : Tk K H H') : KindsAt K ks H' v :=
  let ⟨a, us, e, h, l, m⟩ := x; ⟨a, us, e, t _ _ h, l, m.imp fun _ _ h => h.tk t⟩
def PairAt (K : PySem.W.Frag) (ks : List (Str × Nat)) (H : Hp) (u : V) : Prop := ∃ (p : Addr) (n : Str) (pl : Int), u = .ref p ∧ SqT K H p [.str n, .int pl] ∧ 1 ≤ pl ∧ pl ≤ 2 ∧ (n, pl.toNat) ∈ ks
theorem PairAt.tk {ks : List (Str × Nat)} {H H' : Hp} {u : V} (x : PairAt K ks H u) (t : Tk K H H') : PairAt K ks H' u :=
  let ⟨p, n, pl, e, h, l⟩ := x; ⟨p, n, pl, e, t _ _ h, l⟩
theorem kd_len : ∀ ks ∈ Kd, ks.length ≤ 2 ∧ ∀ p ∈ ks, 1 ≤ p.2 ∧ p.2 ≤ 2 := by decide +kernel
theorem KindsAt.mem {ks : List (Str × Nat)} {H : Hp} {v : V} (x : KindsAt K ks H v) : ∃ (a : Addr) (us : List V), v = .ref a ∧ SqT K H a us ∧ us.length ≤ 2 ∧ ∀ u ∈ us, PairAt K ks H u := by
  obtain ⟨a, us, e, h, l, m⟩ := x
  obtain ⟨k1, k2⟩ := kd_len ks l
  refine ⟨a, us, e, h, by rw [m.length]; exact k1, fun u hu => ?_⟩
  obtain ⟨i, hi, rfl⟩ := List.getElem_of_mem hu
  obtain ⟨p, hp, q, e', hq⟩ := m.get (List.getElem?_eq_getElem hi)
  have pm := List.mem_of_getElem? hp
  have := k2 p pm
  exact ⟨q, p.1, (p.2 : Int), e', hq, by omega, by omega, by rw [Int.toNat_natCast]; exact pm⟩
theorem pair_new {H : Hp} {p : Addr} (n : Str) (pl : Nat) : PrAt K (upd H p (.tup [.str n, .int (pl : Int)])) (.ref p) (n, pl) := ⟨p, rfl, SqT.of upd_same⟩
theorem kinds_new {ks : List (Str × Nat)} {H : Hp} {a : Addr} {us : List V} (hn : H a = none) (l : ks ∈ Kd) (m : All2 (PrAt K H) us ks) : KindsAt K ks (upd H a (.tup us)) (.ref a) :=
  ⟨a, us, rfl, SqT.of upd_same, l, m.imp fun _ _ h => h.tk (tk_new hn _)⟩
def spKinds (K : PySem.W.Frag) : Sp := fun vs H Q _ => ∃ (b d : Addr), vs = [.ref b] ∧ BoxAt H b d ∧ ∀ (v : V) (ks : List (Str × Nat)) (H' : Hp), But b H H' → BoxAt H' b d → KindsAt K ks H' v → Q v H'
theorem scKinds : FnScope ["box"] ["box"] (defScope sKinds) := ⟨rfl, rfl, rfl, by decide +kernel, rfl, by decide +kernel, by decide +kernel⟩
theorem l2 : (2 : Nat) ≤ sizeLine := by decide
theorem l1 : (1 : Nat) ≤ sizeLine := by decide
theorem ok_kinds {f : Addr} {fd : FuncData} (cDraw : Cal P w K mg base 1 "_law_draw" spDraw []) (F : Fun K "_law_kinds" "_law_kinds" sKinds f fd) : FnOk P w K mg base CX0 2 f fd ["box"] (spKinds K) := by
  refine F.ok scKinds (fun vs H Q E h => ?_) (fun cdv A outer s H vs Q E hr h => ?_)
  · obtain ⟨b, d, rfl, _⟩ := h
    rfl
  obtain ⟨b, d, rfl, hB, q⟩ := h
  refine ⟨_, pss_one (ps_ret (pe_ix ix_list (pe_lst
      (pa_cons (pe_tup (pa_cons (pe_tup (pa_cons pe_str (pa_cons pe_int pa_nil))) pa_nil))
      (pa_cons (pe_tup (pa_cons (pe_tup (pa_cons pe_str (pa_cons pe_int pa_nil))) (pa_cons (pe_tup (pa_cons pe_str (pa_cons pe_int pa_nil))) pa_nil)))
      (pa_cons (pe_tup (pa_cons (pe_tup (pa_cons pe_str (pa_cons pe_int pa_nil))) (pa_cons (pe_tup (pa_cons pe_str (pa_cons pe_int pa_nil))) pa_nil)))
      (pa_cons (pe_tup (pa_cons (pe_tup (pa_cons pe_str (pa_cons pe_int pa_nil))) (pa_cons (pe_tup (pa_cons pe_str (pa_cons pe_int pa_nil))) pa_nil)))
      (pa_cons (pe_tup pa_nil) pa_nil))))))
    (pe_c cDraw hr (by decide) rfl (pa_cons (pv 0) (pa_cons pe_int pa_nil))) (fun _ _ => rfl))), ?_⟩
  refine ⟨l2, fun p1 n1 => ⟨l1, fun a1 m1 => ?_⟩⟩
  have k1 := kinds_new (K := K) (ks := [("E", 2)]) m1 (us := [.ref p1]) (by decide +kernel) (.cons (pair_new "E" 2) .nil)
  have s1 := (same_new n1 (.tup [.str "E", .int 2])).trans (same_new m1 (.tup [.ref p1]))
  refine ⟨l2, fun p2 n2 => ⟨l2, fun p3 n3 => ⟨l2, fun a2 m2 => ?_⟩⟩⟩
  have t2 := (same_new n2 (.tup [.str "E", .int 2])).trans ((same_new n3 (.tup [.str "P", .int 1])).trans (same_new m2 (.tup [.ref p2, .ref p3])))
  have k2 := kinds_new (K := K) (ks := [("E", 2), ("P", 1)]) m2 (us := [.ref p2, .ref p3]) (by decide +kernel) (.cons ((pair_new "E" 2).tk (tk_new n3 _)) (.cons (pair_new "P" 1) .nil))
  refine ⟨l2, fun p4 n4 => ⟨l2, fun p5 n5 => ⟨l2, fun a3 m3 => ?_⟩⟩⟩
  have t3 := (same_new n4 (.tup [.str "P", .int 1])).trans ((same_new n5 (.tup [.str "Q", .int 1])).trans (same_new m3 (.tup [.ref p4, .ref p5])))
  have k3 := kinds_new (K := K) (ks := [("P", 1), ("Q", 1)]) m3 (us := [.ref p4, .ref p5]) (by decide +kernel) (.cons ((pair_new "P" 1).tk (tk_new n5 _)) (.cons (pair_new "Q" 1) .nil))
  refine ⟨l2, fun p6 n6 => ⟨l2, fun p7 n7 => ⟨l2, fun a4 m4 => ?_⟩⟩⟩
  have t4 := (same_new n6 (.tup [.str "E", .int 2])).trans ((same_new n7 (.tup [.str "F", .int 2])).trans (same_new m4 (.tup [.ref p6, .ref p7])))
  have k4 := kinds_new (K := K) (ks := [("E", 2), ("F", 2)]) m4 (us := [.ref p6, .ref p7]) (by decide +kernel) (.cons ((pair_new "E" 2).tk (tk_new n7 _)) (.cons (pair_new "F" 2) .nil))
  refine ⟨Nat.zero_le _, fun a5 m5 => ⟨by show 5 ≤ sizeLine; decide, fun L nL => ?_⟩⟩
  have k5 := kinds_new (K := K) (ks := []) m5 (us := []) (by decide +kernel) .nil
  have t5 := same_new m5 (.tup [])
  have tL := same_new nL (.lst [.ref a1, .ref a2, .ref a3, .ref a4, .ref a5])
  have all := s1.trans (t2.trans (t3.trans (t4.trans (t5.trans tL))))
  have k5' := k5.tk (.of_same tL)
  have k4' := k4.tk (.of_same (t5.trans tL))
  have k3' := k3.tk (.of_same (t4.trans (t5.trans tL)))
  have k2' := k2.tk (.of_same (t3.trans (t4.trans (t5.trans tL))))
  have k1' := k1.tk (.of_same (t2.trans (t3.trans (t4.trans (t5.trans tL)))))
  have hB' := hB.same all
  refine ⟨_, rfl, b, d, 5, rfl, hB', by decide, fun r H1 r0 r1 b1 x1 => ?_⟩
  have nLb : L ≠ b := fun e => by
    obtain ⟨ns, i, h1, _⟩ := hB
    have z := (s1.trans (t2.trans (t3.trans (t4.trans t5)))) _ _ h1
    rw [e, z] at nL
    cases nL
  obtain ⟨v, hv, ha⟩ := item_lt (xs := [.ref a1, .ref a2, .ref a3, .ref a4, .ref a5]) (n := 5) r0 r1 rfl
  refine ⟨L, _, _, v, rfl, rfl, SqL.of (b1 _ _ nLb upd_same), ha, ?fin⟩
  have T := b1.tk (K := K) hB'
  simp only [List.mem_cons, List.not_mem_nil, or_false] at hv
  rcases hv with rfl | rfl | rfl | rfl | rfl
  · exact q _ _ H1 ((But.of_same all).trans b1) x1 (k1'.tk T)
  · exact q _ _ H1 ((But.of_same all).trans b1) x1 (k2'.tk T)
  · exact q _ _ H1 ((But.of_same all).trans b1) x1 (k3'.tk T)
  · exact q _ _ H1 ((But.of_same all).trans b1) x1 (k4'.tk T)
  · exact q _ _ H1 ((But.of_same all).trans b1) x1 (k5'.tk T)
end
end K3

set_option Elab.async false
set_option linter.all false
set_option maxRecDepth 100000
set_option maxHeartbeats 4000000
namespace K3
open PySem L2 Fo
open C8 (Cal pe_c pss_cut)
/-- how many parts a formula drawn with room r has at most -/
def cb (r : Nat) : Nat := if r < 2 then 1 else 2 * r
theorem cb_mono {q r : Nat} (h : q ≤ r) : cb q ≤ cb r := by
  unfold cb
  split <;> split <;> omega
mutual
def WF (ks : List (Str × Nat)) : Fm → Prop
  | .rel n xs => (n, xs.length) ∈ ks ∧ ∀ x ∈ xs, x ∈ N8
  | .same x y => x ∈ N8 ∧ y ∈ N8
  | .neg f => WF ks f
  | .con _ fs => WFs ks fs
  | .qu _ x f => x ∈ N8 ∧ WF ks f
def WFs (ks : List (Str × Nat)) : List Fm → Prop
  | [] => True
  | f :: fs => WF ks f ∧ WFs ks fs
end
variable {ks : List (Str × Nat)}
theorem WFs.of : ∀ {fs : List Fm}, (∀ f ∈ fs, WF ks f) → WFs ks fs
  | [], _ => by rw [WFs]; trivial
  | f :: fs, h => by rw [WFs]; exact ⟨h f List.mem_cons_self, WFs.of fun g hg => h g (List.mem_cons_of_mem _ hg)⟩
theorem WFs.mem : ∀ {fs : List Fm} {f : Fm}, WFs ks fs → f ∈ fs → WF ks f
  | g :: fs, f, h, hm => by
    rw [WFs] at h
    rcases List.mem_cons.mp hm with e | e
    · rw [e]; exact h.1
    · exact h.2.mem e
structure Fine (ks : List (Str × Nat)) (r : Nat) (f : Fm) : Prop where
  ct : f.ct ≤ cb r
  dp : f.dp ≤ r
  nm : f.nm.length ≤ 2 * f.ct
  wf : WF ks f
theorem fine_rel {n : Str} {xs : List Str} {r : Nat} (h : xs.length ≤ 2) (h4 : (n, xs.length) ∈ ks) (h8 : ∀ x ∈ xs, x ∈ N8) : Fine ks r (.rel n xs) := ⟨by show 1 ≤ cb r; unfold cb; split <;> omega, by show 0 ≤ r; omega, by show xs.length ≤ 2 * 1; omega, by rw [WF]; exact ⟨h4, h8⟩⟩
theorem fine_same {x y : Str} {r : Nat} (hx : x ∈ N8) (hy : y ∈ N8) : Fine ks r (.same x y) := ⟨by show 1 ≤ cb r; unfold cb; split <;> omega, by show 0 ≤ r; omega, by show 2 ≤ 2 * 1; omega, by rw [WF]; exact ⟨hx, hy⟩⟩
theorem cb_one {r : Nat} (h : 2 ≤ r) : 1 + cb (r - 1) ≤ cb r := by
  unfold cb
  split <;> split <;> omega
theorem fine_neg {f : Fm} {r : Nat} (h : 2 ≤ r) (x : Fine ks (r - 1) f) : Fine ks r (.neg f) := by
  have a := x.ct; have b := x.dp; have c := x.nm; have d := cb_one h
  refine ⟨?_, ?_, ?_, by rw [WF]; exact x.wf⟩
  · show 1 + f.ct ≤ cb r; omega
  · show 1 + f.dp ≤ r; omega
  · show f.nm.length ≤ 2 * (1 + f.ct); omega
theorem fine_qu {f : Fm} {b : Bool} {y : Str} {r : Nat} (h : 2 ≤ r) (hy : y ∈ N8) (x : Fine ks (r - 1) f) : Fine ks r (.qu b y f) := by
  have a := x.ct; have e := x.dp; have c := x.nm; have d := cb_one h
  refine ⟨?_, ?_, ?_, by rw [WF]; exact ⟨hy, x.wf⟩⟩
  · show 1 + f.ct ≤ cb r; omega
  · show 1 + f.dp ≤ r; omega
  · show f.nm.length + 1 ≤ 2 * (1 + f.ct); omega
theorem sums {q : Nat} : ∀ {fs : List Fm}, (∀ f ∈ fs, Fine ks q f) → Fm.cts fs ≤ fs.length * cb q ∧ (Fm.nms fs).length ≤ 2 * Fm.cts fs
  | [], _ => ⟨Nat.zero_le _, Nat.zero_le _⟩
  | f :: fs, h => by
    have ih := sums (fs := fs) fun g hg => h g (List.mem_cons_of_mem _ hg)
    have x := h f List.mem_cons_self
    have a := x.ct; have c := x.nm
    rw [Fm.cts, Fm.nms, List.length_cons, List.length_append, Nat.succ_mul]
    omega
theorem fine_con {fs : List Fm} {b : Bool} {r q : Nat} (h : 2 ≤ r) (hq : fs.length * q ≤ r - 1) (h3 : fs.length ≤ 3) (x : ∀ f ∈ fs, Fine ks q f) : Fine ks r (.con b fs) := by
  obtain ⟨a, c⟩ := sums x
  refine ⟨?_, ?_, ?_, by rw [WF]; exact WFs.of fun f hf => (x f hf).wf⟩
  · show 1 + Fm.cts fs ≤ cb r
    have d : 1 + fs.length * cb q ≤ cb r := by
      unfold cb
      have h4 : fs.length = 0 ∨ fs.length = 1 ∨ fs.length = 2 ∨ fs.length = 3 := by omega
      rcases h4 with e | e | e | e <;> rw [e] at hq ⊢ <;> split <;> split <;> omega
    omega
  · show Fm.dps fs ≤ r
    refine Fm.dps_le fun f hf => ?_
    have e := (x f hf).dp
    have l : 1 ≤ fs.length := by cases fs with
      | nil => cases hf
      | cons g gs => rw [List.length_cons]; omega
    have : 1 * q ≤ fs.length * q := Nat.mul_le_mul_right q l
    omega
  · show (Fm.nms fs).length ≤ 2 * (1 + Fm.cts fs)
    omega
section
variable {P : Program} {w : World} {K : PySem.W.Frag} {mg : Str → Option Value} {base : Heap}
def spBelow (K : PySem.W.Frag) (n : Nat) : Sp := fun vs H Q _ => ∃ (ks : List (Str × Nat)) (b d : Addr) (kv : V) (r : Nat) (left : Int), vs = [.ref b, kv, .int (r : Int), .int left] ∧ BoxAt H b d ∧ KindsAt K ks H kv ∧ r < n ∧
  ∀ (v : V) (f : Fm) (H' : Hp), But b H H' → BoxAt H' b d → FmAt K H' v f → Fine ks r f → Q v H'
abbrev nBelow : List Str := ["box", "kinds", "room", "left", "kind", "name", "places", "k", "many", "rows"]
abbrev pBelow : List Str := ["box", "kinds", "room", "left"]
theorem scBelow : FnScope nBelow pBelow (defScope sBelow) := ⟨rfl, rfl, rfl, by decide +kernel, rfl, by decide +kernel, by decide +kernel⟩
theorem box_ne {H : Hp} {b d p : Addr} (x : BoxAt H b d) (h : H p = none) : p ≠ b ∧ p ≠ d := by
  obtain ⟨ns, i, h1, h2, _⟩ := x
  exact ⟨fun e => (by rw [e, h1] at h; cases h), fun e => (by rw [e, h2] at h; cases h)⟩
theorem BoxAt.new {H : Hp} {b d p : Addr} {o : HO} (x : BoxAt H b d) (h : H p = none) : BoxAt (upd H p o) b d := x.same (same_new h o)
theorem But.new {H : Hp} {b p : Addr} (o : HO) (h : H p = none) : But b H (upd H p o) := .of_same (same_new h o)
/-- a list of ours that is written -/
theorem But.put {H0 H : Hp} {b D : Addr} (o : HO) (x : But b H0 H) (h : H0 D = none) : But b H0 (upd H D o) := fun a u n e => by
  rw [upd_ne (ne_of_none e h)]
  exact x a u n e
theorem BoxAt.put {H0 H : Hp} {b d D : Addr} {o : HO} (x : BoxAt H0 b d) (h : H0 D = none) (y : BoxAt H b d) : BoxAt (upd H D o) b d := by
  obtain ⟨n1, n2⟩ := box_ne x h
  obtain ⟨ns, i, h1, h2, h3, h4⟩ := y
  exact ⟨ns, i, by rw [upd_ne n1.symm]; exact h1, by rw [upd_ne n2.symm]; exact h2, h3, h4⟩
end
end K3

set_option Elab.async false
set_option linter.all false
set_option maxRecDepth 100000
set_option maxHeartbeats 4000000
namespace K3
open PySem L2 Fo
open C8 (Cal pe_c pss_cut)
section
variable {P : Program} {w : World} {K : PySem.W.Frag} {mg : Str → Option Value} {base : Heap}
theorem mk_same {H : Hp} {p : Addr} {x y : Str} : FmAt K (upd H p (.tup [.str "same", .str x, .str y])) (.ref p) (.same x y) := by
  rw [FmAt]
  exact ⟨p, rfl, SqT.of upd_same⟩
theorem mk_rel {H : Hp} {p t : Addr} {n : Str} {xs : List Str} (h : SqT K H t (xs.map V.str)) (hp : H p = none) : FmAt K (upd H p (.tup [.str "rel", .str n, .ref t])) (.ref p) (.rel n xs) := by
  rw [FmAt]
  exact ⟨p, t, rfl, SqT.of upd_same, tk_new hp _ _ _ h⟩
theorem mk_neg {H : Hp} {p : Addr} {u : V} {f : Fm} (h : FmAt K H u f) (hp : H p = none) : FmAt K (upd H p (.tup [.str "not", u])) (.ref p) (.neg f) := by
  rw [FmAt]
  exact ⟨p, u, rfl, SqT.of upd_same, h.tk (tk_new hp _)⟩
theorem mk_con {H : Hp} {p t : Addr} {us : List V} {b : Bool} {fs : List Fm} (h : SqT K H t us) (k : FmsAt K H us fs) (hp : H p = none) : FmAt K (upd H p (.tup [.str (cn b), .ref t])) (.ref p) (.con b fs) := by
  rw [FmAt]
  exact ⟨p, t, us, rfl, SqT.of upd_same, tk_new hp _ _ _ h, k.tk (tk_new hp _)⟩
theorem mk_qu {H : Hp} {p : Addr} {u : V} {b : Bool} {x : Str} {f : Fm} (h : FmAt K H u f) (hp : H p = none) : FmAt K (upd H p (.tup [.str (qn b), .str x, u])) (.ref p) (.qu b x f) := by
  rw [FmAt]
  exact ⟨p, u, rfl, SqT.of upd_same, h.tk (tk_new hp _)⟩
theorem l3 : (3 : Nat) ≤ sizeLine := by decide
theorem room_div {r : Nat} {m : Int} (hr : 2 ≤ r) (h1 : m < 4) : ∃ qq : Nat, (1 ≤ m → ((r : Int) - 1).fdiv (if m > 1 then m else 1) = (qq : Int) ∧ qq < r) ∧ m.toNat * qq ≤ r - 1 := by
  have e : ∀ j : Int, 0 < j → ((r : Int) - 1).fdiv j = ((r : Int) - 1) / j := fun j hj => Int.fdiv_eq_ediv_of_nonneg _ (by omega)
  have h4 : m < 1 ∨ m = 1 ∨ m = 2 ∨ m = 3 := by omega
  rcases h4 with h | h | h | h
  · exact ⟨0, fun z => absurd z (by omega), by omega⟩
  · subst h
    refine ⟨r - 1, fun _ => ⟨?_, by omega⟩, (by show 1 * (r - 1) ≤ r - 1; omega)⟩
    rw [if_neg (by omega), e 1 (by omega)]
    omega
  · subst h
    refine ⟨(r - 1) / 2, fun _ => ⟨?_, by omega⟩, (by show 2 * ((r - 1) / 2) ≤ r - 1; omega)⟩
    rw [if_pos (by omega), e 2 (by omega)]
    omega
  · subst h
    refine ⟨(r - 1) / 3, fun _ => ⟨?_, by omega⟩, (by show 3 * ((r - 1) / 3) ≤ r - 1; omega)⟩
    rw [if_pos (by omega), e 3 (by omega)]
    omega
theorem ok_below {n : Nat} {f : Addr} {fd : FuncData} (B : Bt mg) (cDraw : Cal P w K mg base 1 "_law_draw" spDraw []) (cName : Cal P w K mg base 2 "_law_name" spName []) (cBelow : Cal P w K mg base (n + 2) "_law_below" (spBelow K n) [])
    (F : Fun K "_law_below" "_law_below" sBelow f fd) : FnOk P w K mg base CX0 (n + 3) f fd pBelow (spBelow K (n + 1)) := by
  refine F.ok scBelow (fun vs H Q E h => ?_) (fun cdv A outer s H vs Q E hr h => ?_)
  · obtain ⟨ks, b, d, kv, r, left, rfl, _⟩ := h
    rfl
  obtain ⟨ks, b, d, kv, r, left, rfl, hB, hK, hn, q⟩ := h
  have nd := scBelow.nd
  have hr1 : Room 1 _ := hr.mono (by omega)
  have hr2 : Room 2 _ := hr.mono (by omega)
  refine ⟨_, (pss_cons (ps_set (i := 4) nd rfl (.inl rfl) (pe_c cDraw hr1 (by decide) rfl (pa_cons (pv 0) (pa_cons pe_int pa_nil))))
    (pss_cons (ps_if (PW.pt (pw_or (pt_cmpR op_lt (pv 2) pe_int (nomark _)) (pw_or1 (pt_cmpR op_lt (pv 4) pe_int (nomark _))))) (pss_cons (ps_if (PW.pt (pw_or (pt_cmpR op_eq (pe_callB call_len_seq rfl B.len PySem.boot_len (pa_cons (pv 1) pa_nil)) pe_int (nomark _)) (pw_or1 (pt_cmpR op_eq (pe_c cDraw hr1 (by decide) rfl (pa_cons (pv 0) (pa_cons pe_int pa_nil))) pe_int (nomark _))))) (pss_one (ps_ret (pe_tup (pa_cons pe_str (pa_cons (pe_c cName hr2 (by decide) rfl (pa_cons (pv 0) pa_nil)) (pa_cons (pe_c cName hr2 (by decide) rfl (pa_cons (pv 0) pa_nil)) pa_nil)))))) pss_nil)
    (pss_cons (ps_asg (pe_ix ix_tup (pv 1) (pe_c cDraw hr1 (by decide) rfl (pa_cons (pv 0) (pa_cons (pe_callB call_len_seq rfl B.len PySem.boot_len (pa_cons (pv 1) pa_nil)) pa_nil))) (fun _ _ => rfl)) (pg_tup rfl (pgs_cons (pg_name (i := 5) nd rfl (.inl rfl)) (pgs_cons (pg_name (i := 6) nd rfl (.inl rfl)) pgs_nil))))
    (pss_one (ps_ret (pe_tup (pa_cons pe_str (pa_cons (pv 5) (pa_cons (pe_callTy call_tuple_of rfl B.tuple (by decide +kernel) (pa_cons (pe_lc (own := [("k", 7)]) (g := gName 7) (tt := tYes) rfl nd (pi_range1 rfl B.range (pa_cons (pv 6) pa_nil)) (blkOk_by (own := [("k", 7)]) (N := nBelow) (sc := defScope sBelow) (by decide +kernel)) (fun _ _ _ _ _ => (pg_name (i := 7) nd rfl (Or.inl rfl))) (fun _ _ _ _ _ => pts_nil) (fun _ _ _ _ _ => (pe_c cName hr2 (by decide) rfl (pa_cons (pv 0) pa_nil)))) pa_nil)) pa_nil)))))))) pss_nil)
    (pss_cons (ps_if (PW.pt (pw_or (pt_cmpR op_eq (pv 4) pe_int (nomark _)) (pw_or1 (PW.pt (pw_and (pt_cmpR op_lt (pv 4) pe_int (nomark _)) (pw_and1 (pt_cmpR op_eq (pv 3) pe_int (nomark _)))))))) (pss_one (ps_ret (pe_tup (pa_cons pe_str (pa_cons (pe_c cBelow hr (Nat.le_refl _) rfl (pa_cons (pv 0) (pa_cons (pv 1) (pa_cons (pe_op op_sub (pv 2) pe_int) (pa_cons (pv 3) pa_nil))))) pa_nil))))) pss_nil)
    (pss_cons (ps_if (pt_cmpR op_lt (pv 4) pe_int (nomark _)) (pss_one (ps_ret (pe_tup (pa_cons (pe_ix ix_list (pe_lst (pa_cons pe_str (pa_cons pe_str pa_nil))) (pe_op op_sub (pv 4) pe_int) (fun _ _ => rfl)) (pa_cons (pe_c cName hr2 (by decide) rfl (pa_cons (pv 0) pa_nil)) (pa_cons (pe_c cBelow hr (Nat.le_refl _) rfl (pa_cons (pv 0) (pa_cons (pv 1) (pa_cons (pe_op op_sub (pv 2) pe_int) (pa_cons (pe_op op_sub (pv 3) pe_int) pa_nil))))) pa_nil)))))) pss_nil)
    (pss_cons (ps_set (i := 8) nd rfl (.inl rfl) (pe_c cDraw hr1 (by decide) rfl (pa_cons (pv 0) (pa_cons pe_int pa_nil))))
    (pss_cons (ps_set (i := 9) nd rfl (.inl rfl) (pe_lst pa_nil))
    (pss_cons (ps_for PassesOwn.never rfl (pi_range1 rfl B.range (pa_cons (pv 8) pa_nil)) (pg_name (i := 7) nd rfl (.inl rfl)) (pss_one (ps_expr (pe_bm PySem.F.plainAttrs_list PySem.F.slot_list_append PySem.F.type_list_append mt_append (pv 9) (pa_cons (pe_c cBelow hr (Nat.le_refl _) rfl (pa_cons (pv 0) (pa_cons (pv 1) (pa_cons (pe_op op_fdivN (pe_op op_sub (pv 2) pe_int) (pe_callB (call_max2 rfl) rfl B.max (by decide +kernel) (pa_cons pe_int (pa_cons (pv 8) pa_nil)))) (pa_cons (pv 3) pa_nil))))) pa_nil)))))
    (pss_one (ps_ret (pe_tup (pa_cons (pe_ix ix_list (pe_lst (pa_cons pe_str (pa_cons pe_str pa_nil))) (pe_op op_mod (pv 4) pe_int) (fun _ _ => rfl)) (pa_cons (pe_callTy call_tuple_of rfl B.tuple (by decide +kernel) (pa_cons (pv 9) pa_nil)) pa_nil)))))))))))), ?_⟩
  refine ⟨_, rfl, b, d, 10, rfl, hB, by decide, fun kd H1 k0 k1 b1 x1 => ?_⟩
  have hK2 := hK.tk (b1.tk hB)
  have p2 : ∀ {y : Int}, decide (y < 2) = true → y < 2 := of_decide_eq_true
  refine (fun leaf => ⟨_, rfl, _, _, rfl, rfl, _, rfl, ite2 (fun _ => leaf) (fun c1 => ⟨_, rfl, _, _, rfl, rfl, _, rfl, ite2 (fun _ => leaf) (fun c2 => ?rest)⟩)⟩) ?leaf
  case leaf =>
    obtain ⟨ka, us, rfl, hS, hl2, hm⟩ := hK2.mem
    refine ⟨_, rfl, ka, us, rfl, .inr hS, rfl, _, rfl, ite2 (fun _ => ?_) (fun c3 => ⟨_, rfl, b, d, 4, rfl, x1, by decide, fun r2 H2 _ _ b2 x2 => ⟨rfl, _, rfl, ite2 (fun _ => ?_) (fun _ => ?_)⟩⟩)⟩
    · refine ⟨_, rfl, b, d, rfl, x1, fun x Ha hx ba xa => ⟨_, rfl, b, d, rfl, xa, fun y Hb hy bb xb => ⟨l3, fun p hp => ?_⟩⟩⟩
      exact q _ (.same x y) _ ((b1.trans (ba.trans bb)).trans (.new _ hp)) (xb.new hp) mk_same (fine_same hx hy)
    · refine ⟨_, rfl, b, d, rfl, x2, fun x Ha hx ba xa => ⟨_, rfl, b, d, rfl, xa, fun y Hb hy bb xb => ⟨l3, fun p hp => ?_⟩⟩⟩
      exact q _ (.same x y) _ (((b1.trans b2).trans (ba.trans bb)).trans (.new _ hp)) (xb.new hp) mk_same (fine_same hx hy)
    · have hS2 := b2.tk x1 _ _ hS
      have hm2 : ∀ u ∈ us, PairAt K ks H2 u := fun u hu => (hm u hu).tk (b2.tk x1)
      have ne : 0 < us.length := by
        rcases Nat.eq_zero_or_pos us.length with z | z
        · exact absurd (by rw [z]; rfl) c3
        · exact z
      refine ⟨_, rfl, _, rfl, _, rfl, ka, us, rfl, .inr hS2, b, d, us.length, rfl, x2, by omega, fun r3 H3 r0 r1 b3 x3 => ?_⟩
      have hS3 := b3.tk x2 _ _ hS2
      obtain ⟨v, hv, ha⟩ := item_lt r0 r1 rfl
      obtain ⟨pr, nn, pl, rfl, hP, p1, p2, p4⟩ := (hm2 v hv).tk (b3.tk x2)
      refine ⟨ka, us, _, _, rfl, rfl, hS3, ha, pr, _, rfl, hP, rfl, ?_⟩
      have bb := (b1.trans b2).trans b3
      refine ⟨_, _, rfl, _, _, rfl, rfl, _, rfl, _, rfl, pl, rfl, by omega, by omega, fun D nD => lc_range (lo := 0) (n := pl.toNat) (fun i H' => ∃ xs : List Str, H' D = some (.lst (xs.map V.str)) ∧ xs.length = i ∧ But b H3 H' ∧ BoxAt H' b d ∧ ∀ x ∈ xs, x ∈ N8) ⟨[], upd_same, rfl, .new _ nD, x3.new nD, fun x hx => nomatch hx⟩ ?_ ?_⟩
      · rintro i H' hi ⟨xs, hD, hl, bk, xk, h8⟩
        refine ⟨rfl, _, rfl, b, d, rfl, xk, fun x Hx hx bx xx => ⟨xs.map V.str, bx _ _ (box_ne x3 nD).1 hD, lineOk (by rw [List.length_map]; omega), xs ++ [x], by rw [upd_same]; simp, by simp [hl], (bk.trans bx).put _ nD, x3.put nD xx, fun z hz => by rcases List.mem_append.mp hz with q | q; exact h8 z q; exact List.mem_singleton.mp q ▸ hx⟩⟩
      · rintro H' ⟨xs, hD, hl, bk, xk, h8⟩
        refine ⟨D, _, rfl, .inl ⟨SqL.of hD, fun t nt => ⟨l3, fun p np => ?_⟩⟩⟩
        refine q _ (.rel nn xs) _ (bb.trans (bk.trans ((But.new _ nt).trans (.new _ np)))) ((xk.new nt).new np) (mk_rel (SqT.of upd_same) np) (fine_rel (by omega) (by rw [hl]; exact p4) h8)
  case rest =>
    have h2 : 2 ≤ r := by
      have z : ¬ ((r : Int) < 2) := fun z => c1 (decide_eq_true z)
      omega
    have h3 : 3 ≤ kd := by
      have z : ¬ (kd < 3) := fun z => c2 (decide_eq_true z)
      omega
    have hrr : (r : Int) - 1 = ((r - 1 : Nat) : Int) := by omega
    refine (fun (leafN : _) (nextS : kd ≠ 3 → _) => ⟨_, rfl, rfl, _, rfl, ite2 (fun _ => leafN) (fun c4 => ⟨_, rfl, _, _, rfl, rfl, _, rfl, ite2
      (fun _ => ⟨_, rfl, rfl, _, rfl, ite2 (fun _ => leafN) (fun _ => nextS ?n1)⟩) (fun _ => nextS ?n2)⟩)⟩) ?leafN ?nextS
    case n1 => exact fun z => c4 (by rw [z]; rfl)
    case n2 => exact fun z => c4 (by rw [z]; rfl)
    case leafN =>
      refine ⟨_, rfl, _, rfl, _, rfl, _, _, rfl, rfl, _, rfl, ks, b, d, kv, r - 1, left, ?_, x1, hK2, by omega, fun v f H2 b2 x2 fm fi => ⟨l2, fun p np => ?_⟩⟩
      · show [V.ref b, kv, V.int ((r : Int) - 1), V.int left] = _
        rw [hrr]
      · exact q _ (.neg f) _ ((b1.trans b2).trans (.new _ np)) (x2.new np) (mk_neg fm np) (fine_neg h2 fi)
    case nextS =>
      intro n3
      refine ⟨_, rfl, _, _, rfl, rfl, _, rfl, ite2 (fun c6 => ?_) (fun _ => ?_)⟩
      · have c6' : kd < 6 := of_decide_eq_true c6
        obtain ⟨bq, hq⟩ : ∃ bq, atI [V.str "some", V.str "all"] (kd - 4) = some (.str (qn bq)) := by
          have h : kd = 4 ∨ kd = 5 := by omega
          rcases h with h | h
          · exact ⟨true, at_of (j := 0) (by omega) rfl⟩
          · exact ⟨false, at_of (j := 1) (by omega) rfl⟩
        refine ⟨l2, fun L nL => ⟨_, rfl, _, _, rfl, rfl, L, _, _, _, rfl, rfl, SqL.of upd_same, hq, ?_⟩⟩
        have tL := tk_new (K := K) nL (.lst [V.str "some", V.str "all"])
        refine ⟨_, rfl, b, d, rfl, x1.new nL, fun x H2 hx b2 x2 => ?_⟩
        refine ⟨_, rfl, _, rfl, _, rfl, _, _, rfl, rfl, _, rfl, _, _, rfl, rfl, ks, b, d, kv, r - 1, left - 1, ?_, x2, (hK2.tk tL).tk (b2.tk (x1.new nL)), by omega, fun v f H3 b3 x3 fm fi => ⟨l3, fun p np => ?_⟩⟩
        · show [V.ref b, kv, V.int ((r : Int) - 1), V.int (left - 1)] = _
          rw [hrr]
        · exact q _ (.qu bq x f) _ ((b1.trans ((But.new _ nL).trans (b2.trans b3))).trans (.new _ np)) (x3.new np) (mk_qu fm np) (fine_qu h2 hx fi)
      · refine ⟨_, rfl, b, d, 4, rfl, x1, by decide, fun m H2 m0 m1 b2 x2 => ⟨Nat.zero_le _, fun D nD => ?_⟩⟩
        have hK2 := hK2.tk (b2.tk x1)
        obtain ⟨qq, hqq, hq3⟩ := room_div h2 m1
        refine ⟨_, rfl, m, rfl, by omega, by omega, for_range (lo := 0) (n := m.toNat) (fun i σ H' => ∃ (us : List V) (fs : List Fm) (k : Option V), σ = [some (.ref b), some kv, some (.int (r : Int)), some (.int left), some (.int kd), none, none, k, some (.int m), some (.ref D)] ∧
          H' D = some (.lst us) ∧ FmsAt K H' us fs ∧ fs.length = i ∧ (∀ g ∈ fs, Fine ks qq g) ∧ But b H2 H' ∧ BoxAt H' b d) ⟨[], [], none, rfl, upd_same, .nil, rfl, fun g hg => (nomatch hg), .new _ nD, x2.new nD⟩ ?_ ?_⟩
        · rintro i σ H' hi ⟨us, fs, k, rfl, hD, hF, hl, hg, bk, xk⟩
          obtain ⟨e1, e2⟩ := hqq (by omega)
          refine ⟨_, rfl, .inl ⟨rfl, _, SqL.of hD⟩, _, rfl, _, rfl, _, rfl, _, _, rfl, rfl, _, rfl, 1, m, rfl, _, _, rfl, rfl, ⟨by split <;> omega, by split <;> omega⟩, _, rfl, ks, b, d, kv, qq, left, ?_, xk, hK2.tk (bk.tk x2), by omega, fun v f Hx bx xx fm fi => ?_⟩
          · show [V.ref b, kv, V.int (((r : Int) - 1).fdiv (if m > 1 then m else 1)), V.int left] = _
            rw [e1]
          · have hDx := bx _ _ (box_ne x2 nD).1 hD
            refine ⟨D, us, _, rfl, rfl, hDx, lineOk (by rw [hF.length]; omega), us ++ [v], fs ++ [f], _, rfl, upd_same, ?_, by simp [hl], fun g h => ?_, (bk.trans bx).put _ nD, x2.put nD xx⟩
            · exact (FmsAt.append (.cons fm .nil) (hF.tk (bx.tk xk))).tk (tk_lst hDx _)
            · rcases List.mem_append.mp h with z | z
              · exact hg g z
              · rw [List.mem_singleton.mp z]; exact fi
        · rintro σ H' ⟨us, fs, k, rfl, hD, hF, hl, hg, bk, xk⟩
          obtain ⟨bc, hc⟩ : ∃ bc, atI [V.str "and", V.str "or"] (kd % 2) = some (.str (cn bc)) := by
            have h : kd % 2 = 0 ∨ kd % 2 = 1 := by omega
            rcases h with h | h
            · exact ⟨true, at_of (j := 0) (by omega) rfl⟩
            · exact ⟨false, at_of (j := 1) (by omega) rfl⟩
          refine ⟨l2, fun L nL => ⟨_, rfl, _, _, rfl, rfl, (by show (0 : Int) < 2; decide), L, _, _, _, rfl, rfl, SqL.of upd_same, hc, ?_⟩⟩
          have nDL : D ≠ L := ne_of_none hD nL
          refine ⟨_, rfl, D, us, rfl, .inl ⟨SqL.of (by rw [upd_ne nDL]; exact hD), fun t nt => ⟨l2, fun p np => ?_⟩⟩⟩
          refine q _ (.con bc fs) _ ((b1.trans (b2.trans (bk.trans ((But.new _ nL).trans (.new _ nt))))).trans (.new _ np)) (((xk.new nL).new nt).new np)
            (mk_con (SqT.of upd_same) ((hF.tk (tk_new nL _)).tk (tk_new nt _)) np) (fine_con h2 (by rw [hl]; exact hq3) (by omega) hg)
end
end K3

set_option Elab.async false
set_option linter.all false
set_option maxRecDepth 100000
set_option maxHeartbeats 4000000
namespace K3
open PySem L2 Fo
open C8 (Cal pe_c pss_cut)
section
variable {P : Program} {w : World} {K : PySem.W.Frag} {mg : Str → Option Value} {base : Heap}
/-! ### inner, own_names -/
def spInner (K : PySem.W.Frag) : Sp := fun vs H Q _ => ∃ (v : V) (f : Fm), vs = [v] ∧ FmAt K H v f ∧ ∀ (t : Addr) (us : List V) (H' : Hp), Same H H' → SqT K H' t us → FmsAt K H' us f.kids → Q (.ref t) H'
abbrev nInner : List Str := ["formula", "kind"]
theorem scInner : FnScope nInner ["formula"] (defScope sInner) := ⟨rfl, rfl, rfl, by decide +kernel, rfl, by decide +kernel, by decide +kernel⟩
theorem inF {x : V} {xs : List V} (h : inV x xs = false) : (V.bl (if false = true then !inV x xs else inV x xs)) = .bl false := by rw [h]; rfl
theorem inT {x : V} {xs : List V} (h : inV x xs = true) : (V.bl (if false = true then !inV x xs else inV x xs)) = .bl true := by rw [h]; rfl
theorem ok_inner {f : Addr} {fd : FuncData} (B : Bt mg) (F : Fun K "inner" "inner" sInner f fd) : FnOk P w K mg base CX0 1 f fd ["formula"] (spInner K) := by
  refine F.ok scInner (fun vs H Q E h => ?_) (fun cdv A outer s H vs Q E hr h => ?_)
  · obtain ⟨v, f, rfl, _⟩ := h
    rfl
  obtain ⟨v, fm, rfl, hF, q⟩ := h
  have nd := scInner.nd
  refine ⟨_, (pss_cons (ps_set (i := 1) nd rfl (.inl rfl) (pe_ix ix_tup (pv 0) pe_int (fun _ _ => rfl)))
    (pss_cons (ps_if (pt_cmpR op_in_seq (pv 1) (pe_tup (pa_cons pe_str (pa_cons pe_str pa_nil))) rfl) (pss_one (ps_ret (pe_ix ix_tup (pv 0) pe_int (fun _ _ => rfl)))) pss_nil)
    (pss_cons (ps_if (pt_cmpR op_eq (pv 1) pe_str (nomark _)) (pss_one (ps_ret (pe_tup (pa_cons (pe_ix ix_tup (pv 0) pe_int (fun _ _ => rfl)) pa_nil)))) pss_nil)
    (pss_cons (ps_if (pt_cmpR op_in_seq (pv 1) (pe_tup (pa_cons pe_str (pa_cons pe_str pa_nil))) rfl) (pss_one (ps_ret (pe_tup (pa_cons (pe_ix ix_tup (pv 0) pe_int (fun _ _ => rfl)) pa_nil)))) pss_nil)
    (pss_one (ps_ret (pe_tup pa_nil))))))), ?_⟩
  cases fm with
  | rel n xs =>
    rw [FmAt] at hF
    obtain ⟨a, t, rfl, h1, h2⟩ := hF
    refine ⟨_, rfl, a, _, _, _, rfl, rfl, h1, at_of (j := 0) rfl rfl, ?_⟩
    refine ⟨_, rfl, l2, fun T nT => ⟨T, _, rfl, .inr (SqT.of upd_same), rfl, rfl, false, inF (by decide +kernel), ?_⟩⟩
    refine ⟨_, rfl, rfl, false, (by decide +kernel), ?_⟩
    refine ⟨_, rfl, l2, fun S nS => ⟨S, _, rfl, .inr (SqT.of upd_same), rfl, rfl, false, inF (by decide +kernel), ?_⟩⟩
    exact ⟨Nat.zero_le _, fun z nz => q z [] _ ((same_new nT _).trans ((same_new nS _).trans (same_new nz _))) (SqT.of upd_same) .nil⟩
  | same x y =>
    rw [FmAt] at hF
    obtain ⟨a, rfl, h1⟩ := hF
    refine ⟨_, rfl, a, _, _, _, rfl, rfl, h1, at_of (j := 0) rfl rfl, ?_⟩
    refine ⟨_, rfl, l2, fun T nT => ⟨T, _, rfl, .inr (SqT.of upd_same), rfl, rfl, false, inF (by decide +kernel), ?_⟩⟩
    refine ⟨_, rfl, rfl, false, (by decide +kernel), ?_⟩
    refine ⟨_, rfl, l2, fun S nS => ⟨S, _, rfl, .inr (SqT.of upd_same), rfl, rfl, false, inF (by decide +kernel), ?_⟩⟩
    exact ⟨Nat.zero_le _, fun z nz => q z [] _ ((same_new nT _).trans ((same_new nS _).trans (same_new nz _))) (SqT.of upd_same) .nil⟩
  | neg f =>
    rw [FmAt] at hF
    obtain ⟨a, u, rfl, h1, h2⟩ := hF
    refine ⟨_, rfl, a, _, _, _, rfl, rfl, h1, at_of (j := 0) rfl rfl, ?_⟩
    refine ⟨_, rfl, l2, fun T nT => ⟨T, _, rfl, .inr (SqT.of upd_same), rfl, rfl, false, inF (by decide +kernel), ?_⟩⟩
    refine ⟨_, rfl, rfl, true, (by decide +kernel), ?_⟩
    have t1 := same_new nT (.tup [V.str "and", V.str "or"])
    refine ⟨_, rfl, a, _, _, _, rfl, rfl, Tk.of_same t1 _ _ h1, at_of (j := 1) rfl rfl, l1, fun z nz => ?_⟩
    exact q z [u] _ (t1.trans (same_new nz _)) (SqT.of upd_same) (.cons ((h2.tk (.of_same t1)).tk (tk_new nz _)) .nil)
  | con b fs =>
    rw [FmAt] at hF
    obtain ⟨a, t, us, rfl, h1, h2, h3⟩ := hF
    refine ⟨_, rfl, a, _, _, _, rfl, rfl, h1, at_of (j := 0) rfl rfl, ?_⟩
    refine ⟨_, rfl, l2, fun T nT => ⟨T, _, rfl, .inr (SqT.of upd_same), rfl, rfl, true, inT (by cases b <;> decide +kernel), ?_⟩⟩
    have t1 := same_new nT (.tup [V.str "and", V.str "or"])
    exact ⟨_, rfl, a, _, _, _, rfl, rfl, Tk.of_same t1 _ _ h1, at_of (j := 1) rfl rfl, q t us _ t1 (Tk.of_same t1 _ _ h2) (h3.tk (.of_same t1))⟩
  | qu b x f =>
    rw [FmAt] at hF
    obtain ⟨a, u, rfl, h1, h2⟩ := hF
    refine ⟨_, rfl, a, _, _, _, rfl, rfl, h1, at_of (j := 0) rfl rfl, ?_⟩
    refine ⟨_, rfl, l2, fun T nT => ⟨T, _, rfl, .inr (SqT.of upd_same), rfl, rfl, false, inF (by cases b <;> decide +kernel), ?_⟩⟩
    refine ⟨_, rfl, rfl, false, (by cases b <;> decide +kernel), ?_⟩
    refine ⟨_, rfl, l2, fun S nS => ⟨S, _, rfl, .inr (SqT.of upd_same), rfl, rfl, true, inT (by cases b <;> decide +kernel), ?_⟩⟩
    have t1 := (same_new nT (.tup [V.str "and", V.str "or"])).trans (same_new nS (.tup [V.str "some", V.str "all"]))
    refine ⟨_, rfl, a, _, _, _, rfl, rfl, Tk.of_same t1 _ _ h1, at_of (j := 2) rfl rfl, l1, fun z nz => ?_⟩
    exact q z [u] _ (t1.trans (same_new nz _)) (SqT.of upd_same) (.cons ((h2.tk (.of_same t1)).tk (tk_new nz _)) .nil)
def spLRank (K : PySem.W.Frag) (n : Nat) : Sp := fun vs H Q _ => ∃ (v : V) (f : Fm), vs = [v] ∧ FmAt K H v f ∧ f.dp < n ∧ f.ct ≤ 1000 ∧ ∀ (H' : Hp), Same H H' → Q (.int (f.rk : Int)) H'
abbrev nLRank : List Str := ["formula", "row"]
theorem scLRank : FnScope nLRank ["formula"] (defScope sLRank) := ⟨rfl, rfl, rfl, by decide +kernel, rfl, by decide +kernel, by decide +kernel⟩
theorem ok_lrank {n : Nat} {f : Addr} {fd : FuncData} (B : Bt mg) (cLRank : Cal P w K mg base n "_law_rank" (spLRank K n) []) (F : Fun K "_law_rank" "_law_rank" sLRank f fd) : FnOk P w K mg base CX0 (n + 1) f fd ["formula"] (spLRank K (n + 1)) := by
  refine F.ok scLRank (fun vs H Q E h => ?_) (fun cdv A outer s H vs Q E hr h => ?_)
  · obtain ⟨v, f, rfl, _⟩ := h
    rfl
  obtain ⟨v, fm, rfl, hF, hd, hc, q⟩ := h
  have nd := scLRank.nd
  refine ⟨_, (pss_cons (ps_if (PW.pt (pw_or (pt_cmpR op_eq (pe_ix ix_tup (pv 0) pe_int (fun _ _ => rfl)) pe_str (nomark _)) (pw_or1 (pt_cmpR op_eq (pe_ix ix_tup (pv 0) pe_int (fun _ _ => rfl)) pe_str (nomark _))))) (pss_one (ps_ret (pe_op op_add pe_int (pe_c cLRank hr (Nat.le_refl _) rfl (pa_cons (pe_ix ix_tup (pv 0) pe_int (fun _ _ => rfl)) pa_nil))))) pss_nil)
    (pss_cons (ps_if (pt_cmpR op_eq (pe_ix ix_tup (pv 0) pe_int (fun _ _ => rfl)) pe_str (nomark _)) (pss_one (ps_ret (pe_c cLRank hr (Nat.le_refl _) rfl (pa_cons (pe_ix ix_tup (pv 0) pe_int (fun _ _ => rfl)) pa_nil)))) pss_nil)
    (pss_cons (ps_if (PW.pt (pw_or (pt_cmpR op_eq (pe_ix ix_tup (pv 0) pe_int (fun _ _ => rfl)) pe_str (nomark _)) (pw_or1 (pt_cmpR op_eq (pe_ix ix_tup (pv 0) pe_int (fun _ _ => rfl)) pe_str (nomark _))))) (pss_one (ps_ret (pe_callB (cr_max rfl) rfl B.max (by decide +kernel) (pa_cons (pe_op op_cat (pe_lst (pa_cons pe_int pa_nil)) (pe_lc (own := [("row", 1)]) (g := gName 1) (tt := tYes) rfl nd (pi_tup (pe_ix ix_tup (pv 0) pe_int (fun _ _ => rfl))) (blkOk_by (own := [("row", 1)]) (N := nLRank) (sc := defScope sLRank) (by decide +kernel)) (fun _ _ _ _ _ => (pg_name (i := 1) nd rfl (Or.inl rfl))) (fun _ _ _ _ _ => pts_nil) (fun _ _ _ _ _ => (pe_c cLRank hr (Nat.le_refl _) rfl (pa_cons (pv 1) pa_nil))))) pa_nil)))) pss_nil)
    (pss_one (ps_ret pe_int))))), ?_⟩
  cases fm with
  | rel n xs =>
    rw [FmAt] at hF
    obtain ⟨a, t, rfl, h1, h2⟩ := hF
    refine ⟨_, rfl, a, _, _, _, rfl, rfl, h1, at_of (j := 0) rfl rfl, rfl, false, (by decide +kernel), ?_⟩
    refine ⟨_, rfl, a, _, _, _, rfl, rfl, h1, at_of (j := 0) rfl rfl, rfl, false, (by decide +kernel), ?_⟩
    refine ⟨_, rfl, a, _, _, _, rfl, rfl, h1, at_of (j := 0) rfl rfl, rfl, false, (by decide +kernel), ?_⟩
    refine ⟨_, rfl, a, _, _, _, rfl, rfl, h1, at_of (j := 0) rfl rfl, rfl, false, (by decide +kernel), ?_⟩
    refine ⟨_, rfl, a, _, _, _, rfl, rfl, h1, at_of (j := 0) rfl rfl, rfl, false, (by decide +kernel), ?_⟩
    exact q H (Same.refl _)
  | same x y =>
    rw [FmAt] at hF
    obtain ⟨a, rfl, h1⟩ := hF
    refine ⟨_, rfl, a, _, _, _, rfl, rfl, h1, at_of (j := 0) rfl rfl, rfl, false, (by decide +kernel), ?_⟩
    refine ⟨_, rfl, a, _, _, _, rfl, rfl, h1, at_of (j := 0) rfl rfl, rfl, false, (by decide +kernel), ?_⟩
    refine ⟨_, rfl, a, _, _, _, rfl, rfl, h1, at_of (j := 0) rfl rfl, rfl, false, (by decide +kernel), ?_⟩
    refine ⟨_, rfl, a, _, _, _, rfl, rfl, h1, at_of (j := 0) rfl rfl, rfl, false, (by decide +kernel), ?_⟩
    refine ⟨_, rfl, a, _, _, _, rfl, rfl, h1, at_of (j := 0) rfl rfl, rfl, false, (by decide +kernel), ?_⟩
    exact q H (Same.refl _)
  | neg f =>
    rw [FmAt] at hF
    obtain ⟨a, u, rfl, h1, h2⟩ := hF
    refine ⟨_, rfl, a, _, _, _, rfl, rfl, h1, at_of (j := 0) rfl rfl, rfl, false, (by decide +kernel), ?_⟩
    refine ⟨_, rfl, a, _, _, _, rfl, rfl, h1, at_of (j := 0) rfl rfl, rfl, false, (by decide +kernel), ?_⟩
    refine ⟨_, rfl, a, _, _, _, rfl, rfl, h1, at_of (j := 0) rfl rfl, rfl, true, (by decide +kernel), ?_⟩
    have z1 : 1 + f.dp < n + 1 := hd
    have z2 : 1 + f.ct ≤ 1000 := hc
    exact ⟨_, rfl, a, _, _, _, rfl, rfl, h1, at_of (j := 1) rfl rfl, u, f, rfl, h2, by omega, by omega, fun H' s' => q H' s'⟩
  | qu b x f =>
    rw [FmAt] at hF
    obtain ⟨a, u, rfl, h1, h2⟩ := hF
    have z1 : 1 + f.dp < n + 1 := hd
    have z2 : 1 + f.ct ≤ 1000 := hc
    refine ⟨_, rfl, a, _, _, _, rfl, rfl, h1, at_of (j := 0) rfl rfl, rfl, _, rfl, ?_⟩
    refine (fun fin => ite2 (fun _ => fin) (fun c => ⟨_, rfl, a, _, _, _, rfl, rfl, h1, at_of (j := 0) rfl rfl, rfl, true, ?e2, fin⟩)) ?fin
    case e2 =>
      cases b with
      | true => exact absurd (by decide +kernel) c
      | false => decide +kernel
    case fin =>
      refine ⟨_, rfl, a, _, _, _, rfl, rfl, h1, at_of (j := 2) rfl rfl, u, f, rfl, h2, by omega, by omega, fun H' s' => ⟨_, _, rfl, rfl, ?_⟩⟩
      exact q H' s'
  | con b fs =>
    rw [FmAt] at hF
    obtain ⟨a, t, us, rfl, h1, h2, h3⟩ := hF
    have z1 : Fm.dps fs < n + 1 := hd
    have z2 : 1 + Fm.cts fs ≤ 1000 := hc
    have lf := Fm.len_cts fs
    refine ⟨_, rfl, a, _, _, _, rfl, rfl, h1, at_of (j := 0) rfl rfl, rfl, false, (by cases b <;> decide +kernel), ?_⟩
    refine ⟨_, rfl, a, _, _, _, rfl, rfl, h1, at_of (j := 0) rfl rfl, rfl, false, (by cases b <;> decide +kernel), ?_⟩
    refine ⟨_, rfl, a, _, _, _, rfl, rfl, h1, at_of (j := 0) rfl rfl, rfl, false, (by cases b <;> decide +kernel), ?_⟩
    refine ⟨_, rfl, a, _, _, _, rfl, rfl, h1, at_of (j := 0) rfl rfl, rfl, _, rfl, ?_⟩
    refine (fun fin => ite2 (fun _ => fin) (fun c => ⟨_, rfl, a, _, _, _, rfl, rfl, h1, at_of (j := 0) rfl rfl, rfl, true, ?e2, fin⟩)) ?fin
    case e2 =>
      cases b with
      | true => exact absurd (by decide +kernel) c
      | false => decide +kernel
    case fin =>
      refine ⟨l1, fun p np => ?_⟩
      have t1 := tk_new (K := K) np (.lst [.int 0])
      refine ⟨_, rfl, a, _, _, _, rfl, rfl, t1 _ _ h1, at_of (j := 1) rfl rfl, t, rfl, ⟨_, t1 _ _ h2⟩, fun D nD => ?_⟩
      refine lc_tup (xs := us) (fun i H' => H' D = some (.lst (((fs.take i).map fun k => (k.rk : Int)).map V.int)) ∧ Same (upd H p (.lst [.int 0])) H') ⟨upd_same, same_new nD _⟩ (fun i H' _ h => Tk.of_same h.2 _ _ (t1 _ _ h2)) ?_ ?_
      · rintro i u H1 hi ⟨hD, s1⟩
        obtain ⟨g, hg, hu⟩ := ((h3.tk t1).tk (.of_same s1)).get hi
        have hm := List.mem_of_getElem? hg
        have d1 := Fm.dps_mem hm
        have d2 := Fm.cts_mem hm
        refine ⟨rfl, _, rfl, u, g, rfl, hu, by omega, by omega, fun H2 s2 => ⟨_, s2 _ _ hD, lineOk (by rw [List.length_map, List.length_map, List.length_take]; omega), ?_, same_to (s1.trans s2) nD⟩⟩
        rw [upd_same, List.take_succ, hg, List.map_append, List.map_append]
        rfl
      · rintro H1 ⟨hD, s1⟩
        rw [h3.length, List.take_length] at hD
        have hp := s1 _ _ (upd_same : upd H p (.lst [.int 0]) p = _)
        refine ⟨p, D, [.int 0], _, rfl, rfl, hp, hD, Nat.le_of_lt (lineOk (by rw [List.length_map, List.length_map, List.length_singleton]; omega)), fun r nr => ?_⟩
        refine ⟨r, 0 :: fs.map (fun k => (k.rk : Int)), rfl, SqL.of (by rw [upd_same]; rfl), by rw [List.length_cons]; omega, fun m hm hle => ?_⟩
        have m0 : 0 ≤ m := hle 0 List.mem_cons_self
        have e : Fm.rks fs = m.toNat := by
          refine Fm.rks_is (fun g hg => ?_) ?_
          · have := hle (g.rk : Int) (List.mem_cons_of_mem _ (List.mem_map.mpr ⟨g, hg, rfl⟩))
            omega
          · rcases List.mem_cons.mp hm with z | z
            · left; omega
            · obtain ⟨g, hg, e⟩ := List.mem_map.mp z
              exact .inr ⟨g, hg, by omega⟩
        have e' : m = ((Fm.con b fs).rk : Int) := by
          show m = ((Fm.rks fs : Nat) : Int)
          omega
        rw [e']
        exact q _ ((same_new np _).trans (s1.trans (same_new nr _)))
end
end K3

set_option Elab.async false
set_option linter.all false
set_option maxRecDepth 100000
set_option maxHeartbeats 4000000
namespace K3
open PySem L2 Fo
open C8 (Cal pe_c pss_cut)
section
variable {P : Program} {w : World} {K : PySem.W.Frag} {mg : Str → Option Value} {base : Heap}
theorem nms_take {fs : List Fm} {i : Nat} {g : Fm} (h : fs[i]? = some g) : Fm.nms (fs.take (i + 1)) = Fm.nms (fs.take i) ++ g.nm := by
  rw [List.take_succ, h]
  show Fm.nms (fs.take i ++ [g]) = _
  rw [Fm.nms_append, Fm.nms_single]
theorem nms_le (fs : List Fm) (i : Nat) : (Fm.nms (fs.take i)).length ≤ (Fm.nms fs).length := by
  have e : Fm.nms fs = Fm.nms (fs.take i) ++ Fm.nms (fs.drop i) := by rw [← Fm.nms_append, List.take_append_drop]
  rw [e, List.length_append]
  omega
theorem notIn_k {X : Cx} {K : PySem.W.Frag} (h : X.K = K) : OpR X (compareOp .NotIn) (rIn K true) := by
  subst h
  exact op_notIn_seq
theorem notIn_eq (x : Str) (bs : List Str) : (V.bl (if true = true then !inV (.str x) (bs.map V.str) else inV (.str x) (bs.map V.str))) = .bl (decide (x ∉ bs)) := by
  rw [inV_strs]
  by_cases e : x ∈ bs <;> simp [e]
theorem ixT_k {X : Cx} {K : PySem.W.Frag} (h : X.K = K) : IxR X (rIxT K) := by
  subst h
  exact ix_tup
def spLFree (K : PySem.W.Frag) (n : Nat) : Sp := fun vs H Q _ => ∃ (v : V) (f : Fm), vs = [v] ∧ FmAt K H v f ∧ f.dp < n ∧ f.nm.length ≤ 2000 ∧ ∀ (l : Addr) (ys : List Str) (H' : Hp), Same H H' → H' l = some (.lst (ys.map V.str)) → ys.Pairwise Tx.Lt → (∀ x, x ∈ ys ↔ x ∈ f.fr) → ys.length ≤ f.nm.length → Q (.ref l) H'
abbrev nLFree : List Str := ["formula", "names", "row", "name"]
theorem scLFree : FnScope nLFree ["formula"] (defScope sLFree) := ⟨rfl, rfl, rfl, by decide +kernel, rfl, by decide +kernel, by decide +kernel⟩
theorem frs_take {fs : List Fm} {i : Nat} {g : Fm} (h : fs[i]? = some g) (x : Str) : x ∈ Fm.frs (fs.take (i + 1)) ↔ x ∈ Fm.frs (fs.take i) ∨ x ∈ g.fr := by
  rw [List.take_succ, h]
  show x ∈ Fm.frs (fs.take i ++ [g]) ↔ _
  rw [Fm.mem_frs, Fm.mem_frs]
  simp only [List.mem_append, List.mem_singleton]
  constructor
  · rintro ⟨f, a | a, b⟩
    · exact .inl ⟨f, a, b⟩
    · exact .inr (a ▸ b)
  · rintro (⟨f, a, b⟩ | b)
    · exact ⟨f, .inl a, b⟩
    · exact ⟨g, .inr rfl, b⟩
theorem ok_lfree {n : Nat} {f : Addr} {fd : FuncData} (B : Bt mg) (cLFree : Cal P w K mg base n "_law_free" (spLFree K n) []) (F : Fun K "_law_free" "_law_free" sLFree f fd) : FnOk P w K mg base CX0 (n + 1) f fd ["formula"] (spLFree K (n + 1)) := by
  refine F.ok scLFree (fun vs H Q E h => ?_) (fun cdv A outer s H vs Q E hr h => ?_)
  · obtain ⟨v, f, rfl, _⟩ := h
    rfl
  obtain ⟨v, fm, rfl, hF, hd, hn, q⟩ := h
  have nd := scLFree.nd
  refine ⟨_, (pss_cons (ps_if (pt_cmpR op_eq (pe_ix ix_tup (pv 0) pe_int (fun _ _ => rfl)) pe_str (nomark _)) (pss_one (ps_ret (pe_callB (Tx.cr_sortTx rfl) rfl B.sorted (by decide +kernel) (pa_cons (pe_callTy (Tx.cr_setTx rfl) rfl B.set (by decide +kernel) (pa_cons (pe_ix ix_tup (pv 0) pe_int (fun _ _ => rfl)) pa_nil)) pa_nil)))) pss_nil)
    (pss_cons (ps_if (pt_cmpR op_eq (pe_ix ix_tup (pv 0) pe_int (fun _ _ => rfl)) pe_str (nomark _)) (pss_one (ps_ret (pe_callB (Tx.cr_sortTx rfl) rfl B.sorted (by decide +kernel) (pa_cons (pe_callTy (Tx.cr_setTx rfl) rfl B.set (by decide +kernel) (pa_cons (pe_slice sl_tup (pv 0) (po_some pe_int) po_none) pa_nil)) pa_nil)))) pss_nil)
    (pss_cons (ps_if (pt_cmpR op_eq (pe_ix ix_tup (pv 0) pe_int (fun _ _ => rfl)) pe_str (nomark _)) (pss_one (ps_ret (pe_c cLFree hr (Nat.le_refl _) rfl (pa_cons (pe_ix (ixT_k rfl) (pv 0) pe_int (fun _ _ => rfl)) pa_nil)))) pss_nil)
    (pss_cons (ps_if (PW.pt (pw_or (pt_cmpR op_eq (pe_ix ix_tup (pv 0) pe_int (fun _ _ => rfl)) pe_str (nomark _)) (pw_or1 (pt_cmpR op_eq (pe_ix ix_tup (pv 0) pe_int (fun _ _ => rfl)) pe_str (nomark _))))) (pss_cons (ps_set (i := 1) nd rfl (.inl rfl) (pe_lst pa_nil))
    (pss_cons (ps_for PassesOwn.never rfl (pi_tup (pe_ix (ixT_k rfl) (pv 0) pe_int (fun _ _ => rfl))) (pg_name (i := 2) nd rfl (.inl rfl)) (pss_one (ps_set (i := 1) nd rfl (.inl rfl) (pe_op op_cat (pv 1) (pe_c cLFree hr (Nat.le_refl _) rfl (pa_cons (pv 2) pa_nil))))))
    (pss_one (ps_ret (pe_callB (Tx.cr_sortTx rfl) rfl B.sorted (by decide +kernel) (pa_cons (pe_callTy (Tx.cr_setTx rfl) rfl B.set (by decide +kernel) (pa_cons (pv 1) pa_nil)) pa_nil)))))) pss_nil)
    (pss_one (ps_ret (pe_lc (own := [("name", 3)]) (g := gName 3) (tt := _) rfl nd (pi_list (pe_c cLFree hr (Nat.le_refl _) rfl (pa_cons (pe_ix ix_tup (pv 0) pe_int (fun _ _ => rfl)) pa_nil))) (blkOk_by (own := [("name", 3)]) (N := nLFree) (sc := defScope sLFree) (by decide +kernel)) (fun _ _ _ _ _ => (pg_name (i := 3) nd rfl (Or.inl rfl))) (fun _ _ _ _ _ => pts_one (pt_cmpR op_ne (pv 3) (pe_ix (ixT_k rfl) (pv 0) pe_int (fun _ _ => rfl)) (nomark _))) (fun _ _ _ _ _ => (pv 3))))))))), ?_⟩
  cases fm with
  | rel n xs =>
    rw [FmAt] at hF
    obtain ⟨a, t, rfl, h1, h2⟩ := hF
    have hn' : xs.length ≤ 2000 := hn
    refine ⟨_, rfl, a, _, _, _, rfl, rfl, h1, at_of (j := 0) rfl rfl, rfl, true, (by decide +kernel), ?_⟩
    refine ⟨_, rfl, a, _, _, _, rfl, rfl, h1, at_of (j := 2) rfl rfl, t, xs, rfl, .inr h2, (by show xs.length + 1 < 4096; omega), fun D nD => ⟨D, xs, rfl, upd_same, fun ys p up mem len np => ?_⟩⟩
    exact q p ys _ ((same_new nD _).trans (same_new np _)) upd_same up mem len
  | same x y =>
    rw [FmAt] at hF
    obtain ⟨a, rfl, h1⟩ := hF
    refine ⟨_, rfl, a, _, _, _, rfl, rfl, h1, at_of (j := 0) rfl rfl, rfl, false, (by decide +kernel), ?_⟩
    refine ⟨_, rfl, a, _, _, _, rfl, rfl, h1, at_of (j := 0) rfl rfl, rfl, true, (by decide +kernel), ?_⟩
    refine ⟨_, rfl, _, rfl, a, _, rfl, h1, (by show ¬ (HT.sIx 3 0 (some 1) = 0 ∧ HT.sIx 3 3 none = 3); decide), fun z nz => ?_⟩
    refine ⟨z, [x, y], rfl, .inr (SqT.of upd_same), (by show 2 + 1 < 4096; omega), fun D nD => ⟨D, [x, y], rfl, upd_same, fun ys p up mem len np => ?_⟩⟩
    exact q p ys _ ((same_new nz _).trans ((same_new nD _).trans (same_new np _))) upd_same up mem len
  | neg f =>
    rw [FmAt] at hF
    obtain ⟨a, u, rfl, h1, h2⟩ := hF
    have z1 : 1 + f.dp < n + 1 := hd
    refine ⟨_, rfl, a, _, _, _, rfl, rfl, h1, at_of (j := 0) rfl rfl, rfl, false, (by decide +kernel), ?_⟩
    refine ⟨_, rfl, a, _, _, _, rfl, rfl, h1, at_of (j := 0) rfl rfl, rfl, false, (by decide +kernel), ?_⟩
    refine ⟨_, rfl, a, _, _, _, rfl, rfl, h1, at_of (j := 0) rfl rfl, rfl, true, (by decide +kernel), ?_⟩
    exact ⟨_, rfl, a, _, _, _, rfl, rfl, h1, at_of (j := 1) rfl rfl, u, f, rfl, h2, by omega, hn, fun l ys H' s' hl up mem len => q l ys H' s' hl up mem len⟩
  | con b fs =>
    rw [FmAt] at hF
    obtain ⟨a, t, us, rfl, h1, h2, h3⟩ := hF
    have z1 : Fm.dps fs < n + 1 := hd
    have z2 : (Fm.nms fs).length ≤ 2000 := hn
    refine ⟨_, rfl, a, _, _, _, rfl, rfl, h1, at_of (j := 0) rfl rfl, rfl, false, (by cases b <;> decide +kernel), ?_⟩
    refine ⟨_, rfl, a, _, _, _, rfl, rfl, h1, at_of (j := 0) rfl rfl, rfl, false, (by cases b <;> decide +kernel), ?_⟩
    refine ⟨_, rfl, a, _, _, _, rfl, rfl, h1, at_of (j := 0) rfl rfl, rfl, false, (by cases b <;> decide +kernel), ?_⟩
    refine ⟨_, rfl, a, _, _, _, rfl, rfl, h1, at_of (j := 0) rfl rfl, rfl, _, rfl, ?_⟩
    refine (fun fin => ite2 (fun _ => fin) (fun c => ⟨_, rfl, a, _, _, _, rfl, rfl, h1, at_of (j := 0) rfl rfl, rfl, true, ?e2, fin⟩)) ?fin
    case e2 =>
      cases b with
      | true => exact absurd (by decide +kernel) c
      | false => decide +kernel
    case fin =>
      refine ⟨Nat.zero_le _, fun N nN => ?_⟩
      have s0 := same_new nN (.lst [])
      have t0 := Tk.of_same (K := K) s0
      refine ⟨_, rfl, a, _, _, _, rfl, rfl, t0 _ _ h1, at_of (j := 1) rfl rfl, t, rfl, ⟨_, t0 _ _ h2⟩, ?_⟩
      refine for_tup (xs := us) (fun i σ H' => ∃ N zs row, σ = [some (.ref a), some (.ref N), row, none] ∧ Same H H' ∧ H' N = some (.lst (zs.map V.str)) ∧ (∀ x, x ∈ zs ↔ x ∈ Fm.frs (fs.take i)) ∧ zs.length ≤ (Fm.nms (fs.take i)).length)
        ⟨N, [], none, rfl, s0, upd_same, fun x => by simp [Fm.frs], by simp⟩ (fun i σ H' _ ⟨_, _, _, _, s3, _⟩ => Tk.of_same s3 _ _ h2) ?_ ?_
      · rintro i u σ H3 hi ⟨N', zs, row, rfl, s3, hN', hm, hle⟩
        obtain ⟨g, hg, hu⟩ := (h3.tk (.of_same s3)).get hi
        have hm' := List.mem_of_getElem? hg
        have d1 := Fm.dps_mem hm'
        have l1' := Fm.nms_len_mem hm'
        have l2' := nms_le fs (i + 1)
        have e := nms_take hg
        rw [e, List.length_append] at l2'
        refine ⟨_, rfl, _, rfl, u, g, rfl, hu, by omega, by omega, fun l3 ys H4 s4 hy up mem len => ⟨N', l3, _, _, rfl, rfl, s4 _ _ hN', hy, Nat.le_of_lt (lineOk (by rw [List.length_map, List.length_map]; omega)), fun p np => ?_⟩⟩
        refine ⟨p, zs ++ ys, some u, rfl, (s3.trans s4).trans (same_new np _), by rw [upd_same, List.map_append], fun x => ?_, ?_⟩
        · rw [List.mem_append, frs_take hg, hm x, mem x]
        · rw [e, List.length_append, List.length_append]; omega
      · rintro σ H3 ⟨N', zs, row, rfl, s3, hN', hm, hle⟩
        rw [h3.length, List.take_length] at hm hle
        refine ⟨_, rfl, N', zs, rfl, .inl (SqL.of hN'), (by show zs.length + 1 < 4096; omega), fun D nD => ⟨D, zs, rfl, upd_same, fun ys p up mem len np => ?_⟩⟩
        refine q p ys _ (s3.trans ((same_new nD _).trans (same_new np _))) upd_same up (fun x => ?_) (by show _ ≤ (Fm.nms fs).length; omega)
        rw [mem x, hm x]
        rfl
  | qu b x f =>
    rw [FmAt] at hF
    obtain ⟨a, u, rfl, h1, h2⟩ := hF
    have z1 : 1 + f.dp < n + 1 := hd
    have z2 : f.nm.length + 1 ≤ 2000 := hn
    refine ⟨_, rfl, a, _, _, _, rfl, rfl, h1, at_of (j := 0) rfl rfl, rfl, false, (by cases b <;> decide +kernel), ?_⟩
    refine ⟨_, rfl, a, _, _, _, rfl, rfl, h1, at_of (j := 0) rfl rfl, rfl, false, (by cases b <;> decide +kernel), ?_⟩
    refine ⟨_, rfl, a, _, _, _, rfl, rfl, h1, at_of (j := 0) rfl rfl, rfl, false, (by cases b <;> decide +kernel), ?_⟩
    refine ⟨_, rfl, a, _, _, _, rfl, rfl, h1, at_of (j := 0) rfl rfl, rfl, false, (by cases b <;> decide +kernel), ?_⟩
    refine ⟨_, rfl, a, _, _, _, rfl, rfl, h1, at_of (j := 0) rfl rfl, rfl, false, (by cases b <;> decide +kernel), ?_⟩
    refine ⟨_, rfl, a, _, _, _, rfl, rfl, h1, at_of (j := 2) rfl rfl, u, f, rfl, h2, by omega, by omega, fun l ys H1 s1 hl up mem len => ⟨l, rfl, ⟨_, SqL.of hl⟩, fun D nD => ?_⟩⟩
    refine lc_list (xs := ys.map V.str) (fun i H' => H' D = some (.lst (((ys.take i).filter (fun y => decide (y ≠ x))).map V.str)) ∧ Same H1 H') ⟨upd_same, same_new nD _⟩ (fun i H' _ h => h.2.seq (SqL.of hl)) ?_ ?_
    · rintro i y H2 hi ⟨hD, s2⟩
      rw [List.getElem?_map] at hi
      obtain ⟨y, hy, rfl⟩ := Option.map_eq_some_iff.mp hi
      refine ⟨rfl, _, rfl, _, rfl, a, _, _, _, rfl, rfl, Tk.of_same (s1.trans s2) _ _ h1, at_of (j := 1) rfl rfl, rfl, _, rfl, ?_⟩
      have ee : (!decide (V.str y = V.str x)) = decide (y ≠ x) := by
        by_cases e : y = x <;> simp [e]
      show (if (!decide (V.str y = V.str x)) = true then _ else _)
      rw [ee]
      refine ite2 (fun c => ?_) (fun c => ?_)
      · refine ⟨_, rfl, _, hD, ?_, ?_, same_to s2 nD⟩
        · rw [List.length_map]
          refine lineOk (Nat.le_trans (List.length_filter_le _ _) ?_)
          rw [List.length_take]
          omega
        · rw [upd_same, List.take_succ, hy, List.filter_append, List.map_append]
          simp only [Option.toList, List.filter_cons, c, if_true, List.filter_nil, List.map_cons, List.map_nil]
      · refine ⟨?_, s2⟩
        rw [List.take_succ, hy, List.filter_append]
        have c' : decide (y ≠ x) = false := by simpa using c
        simp only [Option.toList, List.filter_cons, c', Bool.false_eq_true, if_false, List.filter_nil, List.append_nil]
        exact hD
    · rintro H2 ⟨hD, s2⟩
      rw [List.length_map, List.take_length] at hD
      refine q D _ H2 (s1.trans s2) hD (List.Pairwise.filter _ up) (fun y => ?_) ?_
      · show _ ↔ y ∈ (f.fr).filter _
        rw [List.mem_filter, List.mem_filter, mem y]
      · show _ ≤ f.nm.length + 1
        exact Nat.le_trans (List.length_filter_le _ _) (by omega)
end
end K3

set_option Elab.async false
set_option linter.all false
set_option maxRecDepth 100000
set_option maxHeartbeats 4000000
namespace K3
open PySem L2 Fo
open C8 (Cal pe_c pss_cut CalAt pe_cv)
section
variable {P : Program} {w : World} {K : PySem.W.Frag} {mg : Str → Option Value} {base : Heap}
/-! ### handed_down -/
theorem pg_tup_k {X : Cx} {K : PySem.W.Frag} (hK : X.K = K) {es : List Expr} {k : Nat} {t : TGs} {n : Nat} {pos : Pos} (hc : X.calm = true) (h : PGs X es t)
    (hn : (assignEach es X.env).length = n := by rfl) (hst : (assignEach es X.env).findIdx? (·.1) = none := by rfl) : PG X (.Tuple es k pos) (gTup K n t) := by
  subst hK
  exact pg_tup hc h hn hst
abbrev nHanded : List Str := ["formula", "first", "below", "found", "waiting", "here", "told", "rows", "handed", "part"]
theorem scHanded : FnScope nHanded ["formula", "first", "below"] (defScope sHanded) := ⟨rfl, rfl, rfl, by decide +kernel, rfl, by decide +kernel, by decide +kernel⟩
theorem ok_handed {β : Type} {At : Hp → V → β → Prop} {st : Fm → β → β} {Ok : Fm → β → Prop} {fb : Addr} (sa : Hd.Stay K At) (so : ∀ g b, Ok g b → ∀ k ∈ g.kids, Ok k (st g b)) (hB : CalAt P w K mg base 1 fb (Hd.spBelow K At st Ok))
    {f : Addr} {fd : FuncData} (B : Bt mg) (cInner : Cal P w K mg base 1 "inner" (spInner K) []) (F : Fun K "handed_down" "handed_down" sHanded f fd) : FnOk P w K mg base CX0 2 f fd ["formula", "first", "below"] (Hd.spHanded K At st Ok fb) := by
  refine F.ok scHanded (fun vs H Q E h => ?_) (fun cdv A outer s H vs Q E hr h => ?_)
  · obtain ⟨v, u, g, b, rfl, _⟩ := h
    rfl
  obtain ⟨v, u0, fm, b0, rfl, hF, hA, hO, hc, q⟩ := h
  have nd := scHanded.nd
  refine ⟨_, (pss_cons (ps_set (i := 3) nd rfl (.inl rfl) (pe_lst pa_nil))
    (pss_cons (ps_set (i := 4) nd rfl (.inl rfl) (pe_lst (pa_cons (pe_tup (pa_cons (pv 0) (pa_cons (pv 1) pa_nil))) pa_nil)))
    (pss_cons (ps_while PassesOwn.never (pt_truth (pv 4) (by intro _; rfl)) (pss_cons (ps_asg (pe_bm0 PySem.F.plainAttrs_list PySem.F.slot_list_pop PySem.F.type_list_pop mt_pop (pv 4)) (pg_tup rfl (pgs_cons (pg_name (i := 5) nd rfl (.inl rfl)) (pgs_cons (pg_name (i := 6) nd rfl (.inl rfl)) pgs_nil))))
    (pss_cons (ps_expr (pe_bm PySem.F.plainAttrs_list PySem.F.slot_list_append PySem.F.type_list_append mt_append (pv 3) (pa_cons (pe_tup (pa_cons (pv 5) (pa_cons (pv 6) pa_nil))) pa_nil)))
    (pss_cons (ps_set (i := 7) nd rfl (.inl rfl) (pe_c cInner hr (by decide) rfl (pa_cons (pv 5) pa_nil)))
    (pss_one (ps_if (pt_truth (pv 7) (by intro _; rfl)) (pss_cons (ps_set (i := 8) nd rfl (.inr rfl) (pe_cv (i := 2) hB hB hr (by decide) (by decide) rfl (.inl rfl) (pa_cons (pv 5) (pa_cons (pv 6) pa_nil))))
    (pss_one (ps_expr (pe_bm PySem.F.plainAttrs_list PySem.F.slot_list_extend PySem.F.type_list_extend Tx.mt_ext (pv 4) (pa_cons (pe_lc (own := [("part", 9)]) (g := gName 9) (tt := tYes) rfl nd (pi_tup (Rv.pe_revT (pv 7))) (blkOk_by (own := [("part", 9)]) (N := nHanded) (sc := defScope sHanded) (by decide +kernel)) (fun _ _ _ _ _ => (pg_name (i := 9) nd rfl (Or.inl rfl))) (fun _ _ _ _ _ => pts_nil) (fun _ _ _ _ _ => (pe_tup (pa_cons (pv 9) (pa_cons (pv 8) pa_nil))))) pa_nil))))) pss_nil))))))
    (pss_one (ps_ret (pv 3)))))), ?_⟩
  refine ⟨Nat.zero_le _, fun F nF => ⟨_, rfl, _, rfl, l2, fun T nT => ⟨l1, fun W nW => ?_⟩⟩⟩
  have nFW : F ≠ W := ne_of_none (same_new nT _ _ _ upd_same) nW
  have nW0 : H W = none := (same_new nF _).free ((same_new nT _).free nW)
  have s0 := (same_new nF (.lst [])).trans ((same_new nT (.tup [v, u0])).trans (same_new nW (.lst [.ref T])))
  refine ⟨fun m σ H' => ∃ (us ws : List V) (fs gs : List (Fm × β)) (here told rows handed part : Option V), σ = [some v, some u0, some (.ref fb), some (.ref F), some (.ref W), here, told, rows, handed, part] ∧ Same H H' ∧ H' F = some (.lst us) ∧ H' W = some (.lst ws) ∧ All2 (Hd.PrAt K At H') us fs ∧ All2 (Hd.PrAt K At H') ws gs ∧ (∀ p ∈ gs, Ok p.1 p.2) ∧ m = Fm.pct gs ∧
    fs.length + Fm.pct gs = fm.ct ∧ fs ++ Hd.flat st gs.reverse = Hd.hd st fm b0, ⟨_, [], [.ref T], [], [(fm, b0)], none, none, none, none, none, rfl, s0, ?_, upd_same, .nil, .cons ?_ .nil, ?_, rfl, ?_, ?_⟩, ?_⟩
  · rw [upd_ne nFW]; exact same_new nT _ _ _ upd_same
  · exact Hd.PrAt.tk sa (tk_new nW _) (Hd.pr_new sa nT (hF.tk (tk_new nF _)) (sa.go (tk_new nF _) hA))
  · intro p hp; rw [List.mem_singleton.mp hp]; exact hO
  · simp [Fm.pct]
  · simp [Hd.flat]
  rintro m σ H1 ⟨us, ws, fs, gs, here, told, rows, handed, part, rfl, s1, hF1, hW, k1, k2, kO, rfl, c1, c2⟩
  have lenW := k2.length
  have lenF := k1.length
  have lc := Fm.len_pct gs
  by_cases e0 : ws = []
  · subst e0
    cases k2
    refine ⟨_, rfl, false, .inl ⟨[], SqL.of hW, rfl⟩, ?_⟩
    simp only [List.reverse_nil, Hd.flat, List.map_nil, List.flatten_nil, List.append_nil] at c2
    subst c2
    exact ⟨_, rfl, q F us H1 s1 nF hF1 k1⟩
  obtain ⟨ws', u, gs', ⟨g, d⟩, rfl, rfl, k3, k4⟩ := k2.unsnoc e0
  have kO1 : Ok g d := kO (g, d) (by simp)
  refine ⟨_, rfl, true, .inl ⟨_, SqL.of hW, by simp⟩, ⟨_, fun σ' H' h => h, ?_⟩⟩
  refine ⟨_, rfl, .inl ⟨rfl, _, SqL.of hW⟩, W, _, u, rfl, rfl, hW, at_last ws' u, ?_⟩
  rw [drop_last]
  have t2 := tk_lst (K := K) hW (.lst ws')
  have s2 := same_to (o := .lst ws') s1 nW0
  have hF2 : upd H1 W (.lst ws') F = some (.lst us) := by rw [upd_ne nFW]; exact hF1
  obtain ⟨a, v', x', rfl, h1, h2, h2x⟩ := k4.tk sa t2
  refine ⟨a, _, rfl, h1, rfl, _, _, rfl, _, _, rfl, rfl, ?_⟩
  refine ⟨_, rfl, .inl ⟨rfl, _, SqL.of hF2⟩, _, rfl, _, rfl, l2, fun p np => ⟨F, _, _, rfl, rfl, same_new np _ _ _ hF2, lineOk (by omega), ?_⟩⟩
  have hF3 := same_new np (.tup [v', x']) _ _ hF2
  have t3 := t2.trans ((tk_new (K := K) np (.tup [v', x'])).trans (tk_lst (K := K) hF3 (.lst (us ++ [.ref p]))))
  have s3 := same_to (o := .lst (us ++ [.ref p])) (s2.trans (same_new np (.tup [v', x']))) nF
  have hp := (tk_lst (K := K) hF3 (.lst (us ++ [.ref p]))) |> fun t => Hd.PrAt.tk sa t (Hd.pr_new sa np h2 h2x)
  have hW3 : upd (upd (upd H1 W (.lst ws')) p (.tup [v', x'])) F (.lst (us ++ [.ref p])) W = some (.lst ws') := by rw [upd_ne nFW.symm]; exact same_new np _ _ _ upd_same
  have hF4 : upd (upd (upd H1 W (.lst ws')) p (.tup [v', x'])) F (.lst (us ++ [.ref p])) F = some (.lst (us ++ [.ref p])) := upd_same
  have hv' := h2.tk ((tk_new (K := K) np (.tup [v', x'])).trans (tk_lst (K := K) hF3 (.lst (us ++ [.ref p]))))
  have hx' := sa.go ((tk_new (K := K) np (.tup [v', x'])).trans (tk_lst (K := K) hF3 (.lst (us ++ [.ref p])))) h2x
  generalize upd (upd (upd H1 W (.lst ws')) p (.tup [v', x'])) F (.lst (us ++ [.ref p])) = H3 at *
  refine ⟨_, rfl, _, g, rfl, hv', fun t ks H4 s4 ht hk => ?_⟩
  have lk := hk.length
  have ck := Fm.ct_kids g
  have lk2 := Fm.len_cts g.kids
  rw [Fm.pct_append] at c1
  have c1' : fs.length + (Fm.pct gs' + (g.ct + 0)) = fm.ct := c1
  have lps := Fm.len_pct gs'
  have lk3 := k3.length
  by_cases ek : ks = []
  · subst ek
    have ek' : g.kids = [] := List.eq_nil_of_length_eq_zero (by rw [← lk]; rfl)
    refine ⟨_, rfl, false, .inr (.inl ⟨[], ht, rfl⟩), ?_⟩
    have tt := t3.trans (Tk.of_same (K := K) s4)
    refine ⟨Fm.pct gs', ?_, us ++ [.ref p], ws', fs ++ [(g, d)], gs', _, _, _, handed, part, rfl, s3.trans s4, s4 _ _ hF4, s4 _ _ hW3, ?_, ?_, ?_, rfl, ?_, ?_⟩
    · rw [Fm.pct_append]
      show Fm.pct gs' < Fm.pct gs' + (g.ct + 0)
      omega
    · exact (k1.imp fun _ _ h => h.tk sa tt).append (.cons (Hd.PrAt.tk sa (.of_same s4) hp) .nil)
    · exact k3.imp fun _ _ h => h.tk sa tt
    · exact fun p hp => kO p (List.mem_append_left _ hp)
    · rw [List.length_append, List.length_singleton]
      rw [ek'] at ck
      have : Fm.cts [] = 0 := rfl
      omega
    · rw [List.append_assoc, ← c2, List.reverse_append, List.reverse_singleton, show [(g, d)] ++ gs'.reverse = (g, d) :: gs'.reverse from rfl, Hd.flat_head (g, d)]
      show _ ++ _ = fs ++ ((g, d) :: Hd.flat st ((g.kids.map fun k => (k, st g d)) ++ gs'.reverse))
      rw [ek']
      rfl
  refine ⟨_, rfl, true, .inr (.inl ⟨_, ht, by simp [ek]⟩), ?_⟩
  refine .inl ⟨rfl, _, rfl, _, rfl, _, _, g, d, rfl, hv'.tk (.of_same s4), sa.go (.of_same s4) hx', kO1, fun u' H5 s5 hu' => ?_⟩
  have hW5 := s5 _ _ (s4 _ _ hW3)
  have ht5 := Tk.of_same (K := K) s5 _ _ ht
  refine ⟨_, rfl, .inl ⟨rfl, _, SqL.of hW5⟩, _, rfl, t, ks, rfl, ht5, fun t' nt' => ⟨t', rfl, ⟨_, SqT.of upd_same⟩, fun D nD => ?_⟩⟩
  have s56 := same_new nt' (.tup ks.reverse)
  have hkr := all2_rev (fms_all2 (hk.tk (Tk.of_same (s5.trans s56))))
  have nDW : W ≠ D := ne_of_none (s56 _ _ hW5) nD
  have nD0 : H D = none := ((s3.trans s4).trans (s5.trans s56)).free nD
  refine lc_tup (xs := ks.reverse) (fun i H' => ∃ (xs : List V), H' D = some (.lst xs) ∧ Same (upd H5 t' (.tup ks.reverse)) H' ∧ All2 (Hd.PrAt K At H') xs ((g.kids.reverse.take i).map fun k => (k, st g d)) ∧ xs.length = i) ⟨[], upd_same, same_new nD _, .nil, rfl⟩ (fun i H' _ ⟨_, _, h, _⟩ => Tk.of_same h _ _ (SqT.of upd_same)) ?_ ?_
  · rintro i y H6 hi ⟨xs, hD, s6, hx, hl⟩
    obtain ⟨k, hgk, hky⟩ := (hkr.imp fun _ _ h => h.tk (Tk.of_same s6)).get hi
    have li : i < ks.reverse.length := (List.getElem?_eq_some_iff.mp hi).1
    rw [List.length_reverse] at li
    refine ⟨rfl, _, rfl, _, rfl, l2, fun p np => ⟨xs, same_new np _ _ _ hD, lineOk (by omega), xs ++ [.ref p], upd_same, same_to (s6.trans (same_new np _)) nD, ?_, by simp [hl]⟩⟩
    have t6 := (tk_new (K := K) np (.tup [y, u'])).trans (tk_lst (same_new np _ _ _ hD) (.lst (xs ++ [.ref p])))
    rw [List.take_succ, hgk, List.map_append]
    refine (hx.imp fun _ _ h => h.tk sa t6).append (.cons ?_ .nil)
    exact Hd.PrAt.tk sa (tk_lst (same_new np _ _ _ hD) _) (Hd.pr_new sa np hky (sa.go (.of_same (s56.trans s6)) hu'))
  rintro H6 ⟨xs, hD, s6, hx, hl⟩
  rw [List.length_reverse, lk, ← List.length_reverse (as := g.kids), List.take_length] at hx
  have hW6 := s6 _ _ (s56 _ _ hW5)
  refine ⟨W, D, _, _, rfl, rfl, hW6, .inl (SqL.of hD), Nat.le_of_lt (lineOk (by rw [List.length_reverse] at hl; omega)), ?_⟩
  have tt1 := (((Tk.of_same (K := K) s4).trans (.of_same s5)).trans (.of_same s56)).trans (.of_same s6)
  have tt2 := tk_lst (K := K) hW6 (.lst (ws' ++ xs))
  have hF6 := s6 _ _ (s56 _ _ (s5 _ _ (s4 _ _ hF4)))
  refine ⟨Fm.pct (gs' ++ g.kids.reverse.map fun k => (k, st g d)), ?_, us ++ [.ref p], ws' ++ xs, fs ++ [(g, d)], gs' ++ g.kids.reverse.map fun k => (k, st g d), _, _, _, _, part, rfl, same_to ((s3.trans s4).trans ((s5.trans s56).trans s6)) nW0, ?_, upd_same, ?_, ?_, ?_, rfl, ?_, ?_⟩
  · rw [Fm.pct_append, Fm.pct_append, Fm.pct_map, cts_rev]
    show Fm.pct gs' + _ < Fm.pct gs' + (g.ct + 0)
    omega
  · rw [upd_ne nFW]; exact hF6
  · exact ((k1.imp fun _ _ h => ((h.tk sa t3).tk sa tt1).tk sa tt2).append (.cons (Hd.PrAt.tk sa tt2 (Hd.PrAt.tk sa tt1 hp)) .nil))
  · exact (k3.imp fun _ _ h => ((h.tk sa t3).tk sa tt1).tk sa tt2).append (hx.imp fun _ _ h => h.tk sa tt2)
  · intro p hp
    rcases List.mem_append.mp hp with e | e
    · exact kO p (List.mem_append_left _ e)
    · obtain ⟨k, hk', rfl⟩ := List.mem_map.mp e
      exact so g d kO1 k (List.mem_reverse.mp hk')
  · rw [Fm.pct_append, Fm.pct_map, cts_rev, List.length_append, List.length_singleton]
    omega
  · rw [List.reverse_append, ← List.map_reverse, List.reverse_reverse, Hd.flat_append, List.append_assoc, ← c2, List.reverse_append, List.reverse_singleton, show [(g, d)] ++ gs'.reverse = (g, d) :: gs'.reverse from rfl, Hd.flat_head (g, d), Hd.flat_append]
    rfl
end
end K3

set_option Elab.async false
set_option linter.all false
set_option maxRecDepth 100000
set_option maxHeartbeats 4000000
namespace K3
open PySem L2 Fo
open C8 (Cal pe_c pss_cut)
section
variable {P : Program} {w : World} {K : PySem.W.Frag} {mg : Str → Option Value} {base : Heap}
theorem catA_k {X : Cx} {K : PySem.W.Frag} (h : X.K = K) : OpR X (binaryOp .Add) (rCatA K) := by
  subst h
  exact op_catA
/-! ### tuples, structure, values -/
def RowAt (K : PySem.W.Frag) (H : Hp) (u : V) (r : List Int) : Prop := ∃ a : Addr, u = .ref a ∧ SqT K H a (r.map V.int)
theorem RowAt.tk {H H' : Hp} {u : V} {r : List Int} (k : Tk K H H') (h : RowAt K H u r) : RowAt K H' u r :=
  let ⟨a, e, h1⟩ := h; ⟨a, e, k _ _ h1⟩
def ext1 (m : Nat) (r : List Int) : List (List Int) := (List.range m).map fun (x : Nat) => r ++ [(x : Int)]
/-- all rows of so many elements, rising -/
def rowsOf (m : Nat) : Nat → List (List Int)
  | 0 => [[]]
  | k + 1 => (rowsOf m k).flatMap (ext1 m)
theorem ext1_len (m : Nat) (r : List Int) : (ext1 m r).length = m := by unfold ext1; rw [List.length_map, List.length_range]
theorem flat_len (m : Nat) : ∀ rs : List (List Int), (rs.flatMap (ext1 m)).length = rs.length * m
  | [] => by simp
  | r :: rs => by rw [List.flatMap_cons, List.length_append, ext1_len, flat_len m rs, List.length_cons, Nat.succ_mul]; omega
theorem rows_len (m : Nat) : ∀ k, (rowsOf m k).length = m ^ k
  | 0 => rfl
  | k + 1 => by rw [rowsOf, flat_len, rows_len m k, Nat.pow_succ]
theorem rows_mem {m : Nat} : ∀ {k : Nat} {r : List Int}, r ∈ rowsOf m k → r.length = k ∧ ∀ x ∈ r, 0 ≤ x ∧ x < (m : Int)
  | 0, r, h => by rw [List.mem_singleton.mp h]; exact ⟨rfl, fun x hx => by cases hx⟩
  | k + 1, r, h => by
    rw [rowsOf, List.mem_flatMap] at h
    obtain ⟨q, hq, hr⟩ := h
    obtain ⟨x, hx, rfl⟩ := List.mem_map.mp hr
    obtain ⟨h1, h2⟩ := rows_mem hq
    refine ⟨by rw [List.length_append, List.length_singleton, h1], fun y hy => ?_⟩
    rcases List.mem_append.mp hy with e | e
    · exact h2 y e
    · rw [List.mem_singleton.mp e]
      have := List.mem_range.mp hx
      omega
theorem flat_take {m : Nat} {rs : List (List Int)} {j : Nat} {r : List Int} (h : rs[j]? = some r) : (rs.take (j + 1)).flatMap (ext1 m) = (rs.take j).flatMap (ext1 m) ++ ext1 m r := by
  rw [List.take_succ, h, List.flatMap_append]
  simp
def spTuples (K : PySem.W.Frag) : Sp := fun vs H Q _ => ∃ (m pl : Nat), vs = [.int (m : Int), .int (pl : Int)] ∧ m ≤ 4 ∧ pl ≤ 3 ∧ ∀ (l : Addr) (us : List V) (H' : Hp), Same H H' → H l = none → H' l = some (.lst us) → All2 (RowAt K H') us (rowsOf m pl) → Q (.ref l) H'
abbrev nTuples : List Str := ["many", "places", "rows", "k", "longer", "row", "x"]
theorem scTuples : FnScope nTuples ["many", "places"] (defScope sTuples) := ⟨rfl, rfl, rfl, by decide +kernel, rfl, by decide +kernel, by decide +kernel⟩
theorem ok_tuples {f : Addr} {fd : FuncData} (B : Bt mg) (F : Fun K "_law_tuples" "_law_tuples" sTuples f fd) : FnOk P w K mg base CX0 1 f fd ["many", "places"] (spTuples K) := by
  refine F.ok scTuples (fun vs H Q E h => ?_) (fun cdv A outer s H vs Q E hr h => ?_)
  · obtain ⟨m, pl, rfl, _⟩ := h
    rfl
  obtain ⟨m, pl, rfl, hm, hp, q⟩ := h
  have nd := scTuples.nd
  refine ⟨_, (pss_cons (ps_set (i := 2) nd rfl (.inl rfl) (pe_lst (pa_cons (pe_tup pa_nil) pa_nil)))
    (pss_cons (ps_for PassesOwn.never rfl (pi_range1 rfl B.range (pa_cons (pv 1) pa_nil)) (pg_name (i := 3) nd rfl (.inl rfl)) (pss_cons (ps_set (i := 4) nd rfl (.inl rfl) (pe_lst pa_nil))
    (pss_cons (ps_for PassesOwn.never rfl (pi_list (pv 2)) (pg_name (i := 5) nd rfl (.inr rfl)) (pss_one (ps_set (i := 4) nd rfl (.inl rfl) (pe_op op_cat (pv 4) (pe_lc (own := [("x", 6)]) (g := gName 6) (tt := tYes) rfl nd (pi_range1 rfl B.range (pa_cons (pv 0) pa_nil)) (blkOk_by (own := [("x", 6)]) (N := nTuples) (sc := defScope sTuples) (by decide +kernel)) (fun _ _ _ _ _ => (pg_name (i := 6) nd rfl (Or.inl rfl))) (fun _ _ _ _ _ => pts_nil) (fun _ _ _ _ _ => (pe_op (catA_k rfl) (pv 5) (pe_tup (pa_cons (pv 6) pa_nil)))))))))
    (pss_one (ps_set (i := 2) nd rfl (.inl rfl) (pv 4))))))
    (pss_one (ps_ret (pv 2))))), ?_⟩
  refine ⟨Nat.zero_le _, fun e ne => ⟨l1, fun R nR => ?_⟩⟩
  refine ⟨_, rfl, pl, rfl, by omega, by omega, for_range (lo := 0) (n := pl) (fun i σ H' => ∃ (L : Addr) (us : List V) (k lo ro x : Option V), σ = [some (.int (m : Int)), some (.int (pl : Int)), some (.ref L), k, lo, ro, x] ∧ Same H H' ∧ H L = none ∧ H' L = some (.lst us) ∧ All2 (RowAt K H') us (rowsOf m i)) ⟨R, [.ref e], none, none, none, none, rfl, (same_new ne _).trans (same_new nR _), (same_new ne _).free nR, upd_same, .cons ⟨e, rfl, ?_⟩ .nil⟩ ?_ ?_⟩
  · exact SqT.of (same_new nR _ _ _ upd_same)
  · rintro i σ H1 hi ⟨L, us, k, lo, ro, x, rfl, s1, nL, hL, hR⟩
    have lu := hR.length
    have hl9 : us.length ≤ 16 := by
      rw [lu, rows_len]
      exact Nat.le_trans (Nat.pow_le_pow_left hm i) (Nat.le_trans (Nat.pow_le_pow_right (by decide) (show i ≤ 2 by omega)) (by decide))
    refine ⟨Nat.zero_le _, fun G nG => ⟨_, rfl, L, rfl, ⟨_, SqL.of (same_new nG _ _ _ hL)⟩, ?_⟩⟩
    refine for_list (xs := us) (fun j σ H' => ∃ (G : Addr) (ws : List V) (ro x : Option V), σ = [some (.int (m : Int)), some (.int (pl : Int)), some (.ref L), some (.int (0 + (i : Int))), some (.ref G), ro, x] ∧ Same H H' ∧ H G = none ∧ H' L = some (.lst us) ∧ Tk K H1 H' ∧ H' G = some (.lst ws) ∧ All2 (RowAt K H') ws (((rowsOf m i).take j).flatMap (ext1 m)))
      ⟨G, [], ro, x, rfl, s1.trans (same_new nG _), s1.free nG, same_new nG _ _ _ hL, tk_new nG _, upd_same, .nil⟩ (fun j σ H' _ ⟨_, _, _, _, _, _, _, h, _⟩ => SqL.of h) ?_ ?_
    · rintro j u σ H2 hj ⟨G, ws, ro, x, rfl, s2, nG, hL2, t2, hG, hW⟩
      obtain ⟨r, hr0, a, rfl, hr1⟩ := (hR.imp fun _ _ h => RowAt.tk t2 h).get hj
      have lj := (List.getElem?_eq_some_iff.mp hj).1
      have hwl : ws.length ≤ 64 := by
        rw [hW.length, flat_len]
        have : ((rowsOf m i).take j).length ≤ 16 := by rw [List.length_take]; omega
        have := Nat.mul_le_mul this hm
        omega
      refine ⟨_, rfl, _, rfl, m, rfl, by omega, by omega, fun D nD => lc_range (lo := 0) (n := m) (fun c H' => ∃ xs : List V, H' D = some (.lst xs) ∧ All2 (RowAt K H') xs ((List.range c).map fun (x : Nat) => r ++ [(x : Int)]) ∧ Same H2 H') ⟨[], upd_same, .nil, same_new nD _⟩ ?_ ?_⟩
      · rintro c H3 hc ⟨xs, hD, hX, s3⟩
        have hl' : xs.length = c := by rw [hX.length, List.length_map, List.length_range]
        have hr3 := Tk.of_same s3 _ _ hr1
        have e0c : (0 : Int) + (c : Int) = (c : Int) := Int.zero_add _
        refine ⟨rfl, _, rfl, _, rfl, l1, fun p np => ⟨a, p, _, _, rfl, rfl, tk_new np _ _ _ hr3, SqT.of upd_same, Nat.le_of_lt (lineOk (by rw [List.length_map, List.length_singleton]; have := (rows_mem (List.mem_of_getElem? hr0)).1; omega)), fun e0 => ?_, fun _ e0 => (nomatch e0), fun _ _ p2 np2 => ?_⟩⟩
        · have hD4 := same_new np (.tup [V.int (0 + (c : Int))]) _ _ hD
          have t4 := (tk_new (K := K) np (.tup [V.int (0 + (c : Int))])).trans (tk_lst hD4 (.lst (xs ++ [.ref p])))
          have er : r = [] := List.map_eq_nil_iff.mp e0
          refine ⟨xs, hD4, lineOk (by omega), xs ++ [.ref p], upd_same, ?_, same_to (s3.trans (same_new np _)) nD⟩
          rw [List.range_succ, List.map_append]
          refine (hX.imp fun _ _ h => RowAt.tk t4 h).append (.cons (RowAt.tk (tk_lst hD4 _) ⟨p, rfl, ?_⟩) .nil)
          rw [er, e0c]
          exact SqT.of upd_same
        · have s5 := (same_new np (.tup [V.int (0 + (c : Int))])).trans (same_new np2 (.tup (r.map V.int ++ [V.int (0 + (c : Int))])))
          have hD4 := s5 _ _ hD
          have t4 := (Tk.of_same (K := K) s5).trans (tk_lst hD4 (.lst (xs ++ [.ref p2])))
          refine ⟨xs, hD4, lineOk (by omega), xs ++ [.ref p2], upd_same, ?_, same_to (s3.trans s5) nD⟩
          rw [List.range_succ, List.map_append]
          refine (hX.imp fun _ _ h => RowAt.tk t4 h).append (.cons (RowAt.tk (tk_lst hD4 _) ⟨p2, rfl, ?_⟩) .nil)
          rw [List.map_append, e0c]
          exact SqT.of upd_same
      · rintro H3 ⟨xs, hD, hX, s3⟩
        have hl' : xs.length = m := by rw [hX.length, List.length_map, List.length_range]
        have hG3 := s3 _ _ hG
        refine ⟨G, D, ws, xs, rfl, rfl, hG3, hD, Nat.le_of_lt (lineOk (by omega)), fun p np => ?_⟩
        have sp := s3.trans (same_new np (.lst (ws ++ xs)))
        refine ⟨p, ws ++ xs, _, _, rfl, s2.trans sp, (s2.trans s3).free np, sp _ _ hL2, t2.trans (.of_same sp), upd_same, ?_⟩
        rw [flat_take hr0]
        exact (hW.imp fun _ _ h => RowAt.tk (.of_same sp) h).append (hX.imp fun _ _ h => RowAt.tk (tk_new np _) h)
    · rintro σ H2 ⟨G, ws, ro, x, rfl, s2, nG, hL2, t2, hG, hW⟩
      rw [lu, List.take_length] at hW
      exact ⟨_, rfl, G, ws, _, _, _, x, rfl, s2, nG, hG, hW⟩
  · rintro σ H1 ⟨L, us, k, lo, ro, x, rfl, s1, nL, hL, hR⟩
    exact ⟨_, rfl, q L us H1 s1 nL hL hR⟩
end
end K3

set_option Elab.async false
set_option linter.all false
set_option maxRecDepth 100000
set_option maxHeartbeats 4000000
namespace K3
open PySem L2 Fo
open C8 (Cal pe_c pss_cut)
section
variable {P : Program} {w : World} {K : PySem.W.Frag} {mg : Str → Option Value} {base : Heap}
def RelAt (K : PySem.W.Frag) (H : Hp) (u : V) (p : Str × List (List Int)) : Prop := ∃ (a t : Addr) (pl : Int) (us : List V), u = .ref a ∧ SqT K H a [.str p.1, .int pl, .ref t] ∧ SqT K H t us ∧ All2 (RowAt K H) us p.2
theorem RelAt.tk {H H' : Hp} {u : V} {p : Str × List (List Int)} (k : Tk K H H') (h : RelAt K H u p) : RelAt K H' u p :=
  let ⟨a, t, pl, us, e, h1, h2, h3⟩ := h; ⟨a, t, pl, us, e, k _ _ h1, k _ _ h2, h3.imp fun _ _ z => z.tk k⟩
def StrAt (K : PySem.W.Frag) (H : Hp) (v : V) (m : Nat) (rels : List (Str × List (List Int))) : Prop := ∃ (a t : Addr) (us : List V), v = .ref a ∧ SqT K H a [.str "structure", .int (m : Int), .ref t] ∧ SqT K H t us ∧ All2 (RelAt K H) us rels
theorem StrAt.tk {H H' : Hp} {v : V} {m : Nat} {rels : List (Str × List (List Int))} (k : Tk K H H') (h : StrAt K H v m rels) : StrAt K H' v m rels :=
  let ⟨a, t, us, e, h1, h2, h3⟩ := h; ⟨a, t, us, e, k _ _ h1, k _ _ h2, h3.imp fun _ _ z => z.tk k⟩
/-- a relation's rows are those of its kind -/
def RelOk (m : Nat) (r : Str × List (List Int)) (p : Str × Nat) : Prop := r.1 = p.1 ∧ (∀ t ∈ r.2, t.length = p.2 ∧ ∀ x ∈ t, 0 ≤ x ∧ x < (m : Int)) ∧ r.2.length ≤ 16
def spStruct (K : PySem.W.Frag) : Sp := fun vs H Q _ => ∃ (ks : List (Str × Nat)) (b d : Addr) (kv : V) (m : Nat), vs = [.ref b, kv, .int (m : Int)] ∧ BoxAt H b d ∧ KindsAt K ks H kv ∧ m ≤ 4 ∧
  ∀ (v : V) (rels : List (Str × List (List Int))) (H' : Hp), But b H H' → BoxAt H' b d → StrAt K H' v m rels → All2 (RelOk m) rels ks → Q v H'
abbrev nStruct : List Str := ["box", "kinds", "many", "relations", "name", "places", "often", "rows", "row"]
theorem scStruct : FnScope nStruct ["box", "kinds", "many"] (defScope sStruct) := ⟨rfl, rfl, rfl, by decide +kernel, rfl, by decide +kernel, by decide +kernel⟩
theorem ok_struct {f : Addr} {fd : FuncData} (B : Bt mg) (cDraw : Cal P w K mg base 1 "_law_draw" spDraw []) (cTuples : Cal P w K mg base 1 "_law_tuples" (spTuples K) []) (F : Fun K "_law_structure" "_law_structure" sStruct f fd) : FnOk P w K mg base CX0 2 f fd ["box", "kinds", "many"] (spStruct K) := by
  refine F.ok scStruct (fun vs H Q E h => ?_) (fun cdv A outer s H vs Q E hr h => ?_)
  · obtain ⟨ks, b, d, kv, m, rfl, _⟩ := h
    rfl
  obtain ⟨ks, b, d, kv, m, rfl, hB, hK, hm, q⟩ := h
  have nd := scStruct.nd
  have hr1 := hr
  refine ⟨_, (pss_cons (ps_set (i := 3) nd rfl (.inl rfl) (pe_lst pa_nil))
    (pss_cons (ps_for PassesOwn.never rfl (pi_tup (pv 1)) (pg_tup rfl (pgs_cons (pg_name (i := 4) nd rfl (.inl rfl)) (pgs_cons (pg_name (i := 5) nd rfl (.inl rfl)) pgs_nil))) (pss_cons (ps_set (i := 6) nd rfl (.inr rfl) (pe_op op_add pe_int (pe_c cDraw hr1 (by decide) rfl (pa_cons (pv 0) (pa_cons pe_int pa_nil)))))
    (pss_cons (ps_set (i := 7) nd rfl (.inl rfl) (pe_callTy call_tuple_of rfl B.tuple (by decide +kernel) (pa_cons (pe_lc (own := [("row", 8)]) (g := gName 8) (tt := _) rfl nd (pi_list (pe_c cTuples hr (by decide) rfl (pa_cons (pv 2) (pa_cons (pv 5) pa_nil)))) (blkOk_by (own := [("row", 8)]) (N := nStruct) (sc := defScope sStruct) (by decide +kernel)) (fun _ _ _ _ _ => (pg_name (i := 8) nd rfl (Or.inl rfl))) (fun _ _ _ _ _ => pts_one (pt_cmpR op_lt (pe_c cDraw hr1 (by decide) rfl (pa_cons (pv 0) (pa_cons pe_int pa_nil))) (pv 6) (nomark _))) (fun _ _ _ _ _ => (pv 8))) pa_nil)))
    (pss_one (ps_expr (pe_bm PySem.F.plainAttrs_list PySem.F.slot_list_append PySem.F.type_list_append mt_append (pv 3) (pa_cons (pe_tup (pa_cons (pv 4) (pa_cons (pv 5) (pa_cons (pv 7) pa_nil)))) pa_nil)))))))
    (pss_one (ps_ret (pe_tup (pa_cons pe_str (pa_cons (pv 2) (pa_cons (pe_callTy call_tuple_of rfl B.tuple (by decide +kernel) (pa_cons (pv 3) pa_nil)) pa_nil)))))))), ?_⟩
  obtain ⟨ka, us, rfl, hS, hkd, hP⟩ := hK
  obtain ⟨hl2', hpl⟩ := kd_len ks hkd
  have hl2 : us.length ≤ 2 := by rw [hP.length]; exact hl2'
  refine ⟨Nat.zero_le _, fun R nR => ⟨_, rfl, ka, rfl, ⟨_, tk_new nR _ _ _ hS⟩, ?_⟩⟩
  have nRb := (box_ne hB nR).1
  refine for_tup (xs := us) (fun i σ H' => ∃ (ws : List V) (rels : List (Str × List (List Int))) (na pl of ro rw : Option V), σ = [some (.ref b), some (.ref ka), some (.int (m : Int)), some (.ref R), na, pl, of, ro, rw] ∧
    H' R = some (.lst ws) ∧ All2 (RelAt K H') ws rels ∧ ws.length = i ∧ All2 (RelOk m) rels (ks.take i) ∧ But b H H' ∧ BoxAt H' b d) ⟨[], [], none, none, none, none, none, rfl, upd_same, .nil, rfl, .nil, .new _ nR, hB.new nR⟩ (fun i σ H' _ ⟨_, _, _, _, _, _, _, _, _, _, _, _, h, _⟩ => h.tk hB _ _ hS) ?_ ?_
  · rintro i u σ H1 hi ⟨ws, rels, na, pl, of, ro, rw, rfl, hR, hW, hl, hko, b1, x1⟩
    have li := (List.getElem?_eq_some_iff.mp hi).1
    obtain ⟨⟨nn, pn⟩, hkp, pr, rfl, hp⟩ := (hP.imp fun _ _ h => PrAt.tk h (b1.tk hB)).get hi
    obtain ⟨p1, p2⟩ := hpl _ (List.mem_of_getElem? hkp)
    simp only at p1 p2
    refine ⟨pr, _, rfl, hp, rfl, _, _, rfl, _, _, rfl, rfl, ?_⟩
    refine ⟨_, rfl, b, d, 4, rfl, x1, by decide, fun r H2 r0 r1 b2 x2 => ⟨_, _, rfl, rfl, ?_⟩⟩
    refine ⟨_, rfl, _, rfl, m, pn, rfl, hm, by omega, fun l ts H3 s3 nl3 hl3 hT => ⟨l, rfl, ⟨_, SqL.of hl3⟩, fun D nD => ?_⟩⟩
    have x3 := x2.same s3
    have nlb : l ≠ b := by
      rintro rfl
      obtain ⟨ns, i', h1, _⟩ := x2
      rw [h1] at nl3
      cases nl3
    have hlen : ts.length ≤ 16 := by
      rw [hT.length, rows_len]
      have h : pn = 1 ∨ pn = 2 := by omega
      rcases h with h | h <;> subst h
      · rw [Nat.pow_one]; omega
      · rw [Nat.pow_two]; have := Nat.mul_le_mul hm hm; omega
    refine lc_list (xs := ts) (fun c H' => ∃ (xs : List V) (rs : List (List Int)), H' D = some (.lst xs) ∧ All2 (RowAt K H') xs rs ∧ (∀ t ∈ rs, t ∈ rowsOf m pn) ∧ xs.length ≤ c ∧ But b H3 H' ∧ BoxAt H' b d) ⟨[], [], upd_same, .nil, (fun t ht => by cases ht), Nat.le_refl 0, .new _ nD, x3.new nD⟩ (fun c H' _ ⟨_, _, _, _, _, _, h, _⟩ => SqL.of (h _ _ nlb hl3)) ?_ ?_
    · rintro c y H4 hc ⟨xs, rs, hD, hX, hrm, hlx, b4, x4⟩
      have lc := (List.getElem?_eq_some_iff.mp hc).1
      obtain ⟨ry, hry, hy⟩ := (hT.imp fun _ _ h => RowAt.tk (b4.tk (K := K) x3) h).get hc
      refine ⟨rfl, _, rfl, b, d, 5, rfl, x4, by decide, fun r H5 _ _ b5 x5 => ⟨_, rfl, _, _, rfl, rfl, _, rfl, ite2 (fun _ => ?_) (fun _ => ?_)⟩⟩
      · have hD5 := b5 _ _ (box_ne x3 nD).1 hD
        have t5 := b5.tk (K := K) x4
        refine ⟨_, rfl, xs, hD5, lineOk (by omega), xs ++ [y], rs ++ [ry], upd_same, ?_, (fun t ht => by rcases List.mem_append.mp ht with e | e; exact hrm t e; rw [List.mem_singleton.mp e]; exact List.mem_of_getElem? hry), by rw [List.length_append, List.length_singleton]; omega, (b4.trans b5).put _ nD, x3.put nD x5⟩
        exact (hX.imp fun _ _ h => RowAt.tk (tk_lst hD5 _) (RowAt.tk t5 h)).append (.cons (RowAt.tk (tk_lst hD5 _) (RowAt.tk t5 hy)) .nil)
      · exact ⟨xs, rs, b5 _ _ (box_ne x3 nD).1 hD, hX.imp fun _ _ h => RowAt.tk (b5.tk x4) h, hrm, by omega, b4.trans b5, x5⟩
    · rintro H4 ⟨xs, rs, hD, hX, hrm, hlx, b4, x4⟩
      refine ⟨D, _, rfl, .inl ⟨SqL.of hD, fun t nt => ?_⟩⟩
      have bb := (b2.trans ((But.of_same s3).trans b4)).trans (.new (.tup xs) nt)
      have hR5 := bb _ _ nRb hR
      refine ⟨_, rfl, .inl ⟨rfl, _, SqL.of hR5⟩, _, rfl, _, rfl, _, rfl, l3, fun p np => ⟨R, _, _, rfl, rfl, same_new np _ _ _ hR5, lineOk (by omega), ?_⟩⟩
      have hR6 := same_new np (.tup [.str nn, .int (pn : Int), .ref t]) _ _ hR5
      have hrs := hX
      have b6 := (b1.trans bb).trans (.new (.tup [.str nn, .int (pn : Int), .ref t]) np)
      have x6 := (x4.new nt (o := .tup xs)).new np (o := .tup [.str nn, .int (pn : Int), .ref t])
      have t6 := (bb.trans (.new (.tup [.str nn, .int (pn : Int), .ref t]) np)).tk (K := K) x1
      have tL := tk_lst (K := K) hR6 (.lst (ws ++ [.ref p]))
      refine ⟨ws ++ [.ref p], rels ++ [(nn, rs)], _, _, _, _, _, rfl, upd_same, (hW.imp fun _ _ h => (h.tk t6).tk tL).append (.cons (RelAt.tk tL ⟨p, t, (pn : Int), xs, rfl, SqT.of upd_same, tk_new np _ _ _ (SqT.of upd_same), hrs.imp fun _ _ h => (h.tk (tk_new nt _)).tk (tk_new np _)⟩) .nil), by simp [hl], ?_, b6.put _ nR, hB.put nR x6⟩
      rw [List.take_succ, hkp]
      exact hko.append (.cons ⟨rfl, fun t ht => rows_mem (hrm t ht), by rw [← hX.length]; omega⟩ .nil)
  · rintro σ H1 ⟨ws, rels, na, pl, of, ro, rw, rfl, hR, hW, hl, hko, b1, x1⟩
    refine ⟨_, rfl, _, rfl, R, _, rfl, .inl ⟨SqL.of hR, fun t nt => ⟨l3, fun p np => ?_⟩⟩⟩
    refine q _ rels _ (b1.trans ((But.new _ nt).trans (.new _ np))) ((x1.new nt).new np) ⟨p, t, ws, rfl, SqT.of upd_same, tk_new np _ _ _ (SqT.of upd_same), hW.imp fun _ _ h => (h.tk (tk_new nt _)).tk (tk_new np _)⟩ ?_
    rw [hP.length, List.take_length] at hko
    exact hko
end
end K3

set_option Elab.async false
set_option linter.all false
set_option maxRecDepth 100000
set_option maxHeartbeats 4000000
/-! data: a tuple in a tuple of tuples; lists of texts -/
namespace Da
open PySem L2
def dint (r : List Int) : PyData := .tuple (r.map PyData.int)
theorem lay_ints : ∀ r : List Int, PyData.canLayAll0 (r.map PyData.int) = true
  | [] => rfl
  | x :: r => by rw [List.map_cons, PyData.canLayAll0, lay_ints r]; rfl
theorem dep_ints : ∀ r : List Int, PyData.depthAll (r.map PyData.int) ≤ 2
  | [] => by decide
  | x :: r => by
    rw [List.map_cons, PyData.depthAll]
    have := dep_ints r
    have e : (PyData.int x).depth ≤ 2 := by rw [PyData.depth]; omega
    omega
theorem lay_strs : ∀ r : List Str, (∀ x ∈ r, PyData.strOk x = true) → PyData.canLayAll0 (r.map PyData.str) = true
  | [], _ => rfl
  | x :: r, h => by
    rw [List.map_cons, PyData.canLayAll0, lay_strs r fun z hz => h z (List.mem_cons_of_mem _ hz), PyData.canLay0, h x List.mem_cons_self]
    rfl
theorem dep_strs : ∀ r : List Str, PyData.depthAll (r.map PyData.str) ≤ 2
  | [] => by decide
  | x :: r => by
    rw [List.map_cons, PyData.depthAll]
    have := dep_strs r
    have e : (PyData.str x).depth ≤ 2 := by rw [PyData.depth]; omega
    omega

theorem shaped_ints (r : List Int) : SeqAt.shaped (dint r) = true := by
  unfold SeqAt.shaped dint
  rw [Bool.and_eq_true, decide_eq_true_eq, PyData.canLay0, PyData.depth]
  have := dep_ints r
  exact ⟨lay_ints r, by omega⟩
theorem lay_rows : ∀ rs : List (List Int), PyData.canLayAll0 (rs.map dint) = true
  | [] => rfl
  | r :: rs => by rw [List.map_cons, PyData.canLayAll0, lay_rows rs, dint, PyData.canLay0, lay_ints r]; rfl
theorem dep_rows : ∀ rs : List (List Int), PyData.depthAll (rs.map dint) ≤ 4
  | [] => by decide
  | r :: rs => by
    rw [List.map_cons, PyData.depthAll]
    have := dep_rows rs
    have e : (dint r).depth ≤ 4 := by rw [dint, PyData.depth]; have := dep_ints r; omega
    omega
theorem shaped_rows (rs : List (List Int)) : SeqAt.shaped (.tuple (rs.map dint)) = true := by
  unfold SeqAt.shaped
  rw [Bool.and_eq_true, decide_eq_true_eq, PyData.canLay0, PyData.depth]
  have := dep_rows rs
  exact ⟨lay_rows rs, by omega⟩
theorem shaped_strs (r : List Str) (h : ∀ x ∈ r, PyData.strOk x = true) : SeqAt.shaped (.list (r.map PyData.str)) = true := by
  unfold SeqAt.shaped
  rw [Bool.and_eq_true, decide_eq_true_eq, PyData.canLay0, PyData.depth]
  have := dep_strs r
  exact ⟨lay_strs r h, by omega⟩
theorem eqv_strs : ∀ r : List Str, PyData.eqvAll (r.map PyData.str) (r.map PyData.str) = true
  | [] => by simp [PyData.eqvAll]
  | x :: r => by
    rw [List.map_cons, PyData.eqvAll, eqv_strs r, PyData.eqv]
    simp
theorem eqv_list (r : List Str) : PyData.eqv (.list (r.map PyData.str)) (.list (r.map PyData.str)) = true := by
  rw [PyData.eqv]; exact eqv_strs r
theorem dp_ints {K : PySem.W.Frag} {H : Hp} : ∀ r : List Int, DpAll K H (r.map V.int) (r.map PyData.int)
  | [] => .nil
  | x :: r => .cons (.int x) (dp_ints r)
theorem dp_strs {K : PySem.W.Frag} {H : Hp} : ∀ r : List Str, DpAll K H (r.map V.str) (r.map PyData.str)
  | [] => .nil
  | x :: r => .cons (.str x) (dp_strs r)
def rInDT (K : PySem.W.Frag) : R2 := fun x y H Q => ∃ d ds, Dp K H x d ∧ Dp K H y (.tuple ds) ∧ SeqAt.shaped d = true ∧ SeqAt.shaped (.tuple ds) = true ∧ Q (.bl (ds.any fun z => PyData.eqv z d)) H
theorem lay_of {ds : List PyData} (h : SeqAt.shaped (.tuple ds) = true) : PyData.canLayAll0 ds = true := by
  have := SeqAt.canLay_of_shaped h
  rw [PyData.canLay0] at this
  exact this
theorem op_inDT {X : Cx} (hu : X.A.units + 65 < cLine) : OpR X (compareOp .In) (rInDT X.K) := by
  intro pins s σ H x y v u Q I rx ry h
  obtain ⟨d, ds, hd, he, sd, se, q⟩ := h
  obtain ⟨as, r1⟩ := Dp.reads I d x v hd rx
  obtain ⟨bs, r2⟩ := Dp.reads I (.tuple ds) y u he ry
  exact SeqAt.in_tuple_reads r2 r1 (lay_of se) (SeqAt.canLay_of_shaped sd) (PyProof.Rows.room_in_shaped sd hu) ⟨.bl _, H, I, rfl, q⟩
end Da

set_option Elab.async false
set_option linter.all false
set_option maxRecDepth 100000
set_option maxHeartbeats 4000000
namespace K3
open PySem L2 Fo
open C8 (Cal pe_c pss_cut)
section
variable {P : Program} {w : World} {K : PySem.W.Frag} {mg : Str → Option Value} {base : Heap}
theorem put_len {kvs : List (L2.Key × V)} {k : L2.Key} {v : V} : (putK kvs k v).length ≤ kvs.length + 1 := by
  unfold putK
  split
  · rw [List.length_map]; omega
  · rw [List.length_append, List.length_singleton]; omega
theorem put_len_has {kvs : List (L2.Key × V)} {k : L2.Key} {v u : V} (h : valV kvs k = some u) : (putK kvs k v).length = kvs.length := by
  unfold putK
  unfold valV at h
  rw [if_pos, List.length_map]
  rw [List.any_eq_true]
  cases e : kvs.find? (fun kv => decide (kv.1 = k)) with
  | none => rw [e] at h; cases h
  | some p =>
    have := List.find?_some e
    exact ⟨p, List.mem_of_find?_eq_some e, this⟩
/-- each entry is what its key stands for, a number -/
def DOk (kvs : List (L2.Key × V)) : Prop := ∀ p ∈ kvs, valV kvs p.1 = some p.2 ∧ ∃ i : Int, p.2 = .int i
theorem DOk.put {kvs : List (L2.Key × V)} (h : DOk kvs) (k : L2.Key) (i : Int) : DOk (putK kvs k (.int i)) := fun p hp => by
  rw [valV_put]
  unfold putK at hp
  split at hp
  · obtain ⟨q, hq, rfl⟩ := List.mem_map.mp hp
    by_cases z : q.1 = k
    · rw [if_pos z, if_pos z]
      exact ⟨rfl, i, rfl⟩
    · rw [if_neg z, if_neg z]
      exact h q hq
  · rename_i no
    rcases List.mem_append.mp hp with hq | hq
    · have z : ¬ p.1 = k := fun z => no (List.any_eq_true.mpr ⟨p, hq, decide_eq_true z⟩)
      rw [if_neg z]
      exact h p hq
    · rw [List.mem_singleton.mp hq, if_pos rfl]
      exact ⟨rfl, i, rfl⟩
def spValues : Sp := fun vs H Q _ => ∃ (b d : Addr) (m : Int), vs = [.ref b, .int m] ∧ BoxAt H b d ∧ 0 < m ∧
  ∀ (a : Addr) (kvs : List (L2.Key × V)) (H' : Hp), But b H H' → BoxAt H' b d → H' a = some (.dK kvs) → kvs.length ≤ 8 → DOk kvs → (∀ x ∈ N8, ∃ i : Int, (0 ≤ i ∧ i < m) ∧ valV kvs (.inr x) = some (.int i)) → Q (.ref a) H'
abbrev nValues : List Str := ["box", "many", "values", "name"]
theorem scValues : FnScope nValues ["box", "many"] (defScope sValues) := ⟨rfl, rfl, rfl, by decide +kernel, rfl, by decide +kernel, by decide +kernel⟩
theorem ok_values {f : Addr} {fd : FuncData} (B : Bt mg) (cDraw : Cal P w K mg base 1 "_law_draw" spDraw []) (F : Fun K "_law_values" "_law_values" sValues f fd) : FnOk P w K mg base CX0 2 f fd ["box", "many"] spValues := by
  refine F.ok scValues (fun vs H Q E h => ?_) (fun cdv A outer s H vs Q E hr h => ?_)
  · obtain ⟨b, d, m, rfl, _⟩ := h
    rfl
  obtain ⟨b, d, m, rfl, hB, hm, q⟩ := h
  have nd := scValues.nd
  have hr1 := hr
  refine ⟨_, (pss_cons (ps_set (i := 2) nd rfl (.inl rfl) pe_dnewK)
    (pss_cons (ps_for PassesOwn.never rfl (pi_list (pe_lst (pa_cons pe_str (pa_cons pe_str (pa_cons pe_str (pa_cons pe_str (pa_cons pe_str (pa_cons pe_str (pa_cons pe_str (pa_cons pe_str pa_nil)))))))))) (pg_name (i := 3) nd rfl (.inl rfl)) (pss_one (ps_dput (hu_of hr) (pv 2) (pv 3) (pe_c cDraw hr1 (by decide) rfl (pa_cons (pv 0) (pa_cons (pv 1) pa_nil))) rfl)))
    (pss_one (ps_ret (pv 2))))), ?_⟩
  refine fun a na => ⟨by show 8 ≤ sizeLine; decide, fun p np => ⟨p, rfl, ⟨_, SqL.of upd_same⟩, ?_⟩⟩
  have nab := (box_ne hB na).1
  have npb := (box_ne (hB.new na) np).1
  have nap : a ≠ p := ne_of_none upd_same np
  refine for_list (xs := N8.map V.str) (fun i σ H' => ∃ (kvs : List (L2.Key × V)) (nm : Option V), σ = [some (.ref b), some (.int m), some (.ref a), nm] ∧ H' a = some (.dK kvs) ∧ kvs.length ≤ i ∧ But b H H' ∧ BoxAt H' b d ∧ H' p = some (.lst (N8.map V.str)) ∧ DOk kvs ∧ ∀ x ∈ N8.take i, ∃ j : Int, (0 ≤ j ∧ j < m) ∧ valV kvs (.inr x) = some (.int j))
    ⟨[], none, rfl, same_new np _ _ _ upd_same, Nat.le_refl 0, (But.new _ na).trans (.new _ np), (hB.new na).new np, upd_same, (fun p hp => nomatch hp), fun x hx => nomatch hx⟩ (fun i σ H' _ ⟨_, _, _, _, _, _, _, h, _⟩ => SqL.of h) ?_ ?_
  · rintro i u σ H1 hi ⟨kvs, nm, rfl, hA, hl, b1, x1, hp, hdo, hv⟩
    rw [List.getElem?_map] at hi
    obtain ⟨x, hx, rfl⟩ := Option.map_eq_some_iff.mp hi
    have li : i < 8 := (List.getElem?_eq_some_iff.mp hx).1
    refine ⟨_, rfl, _, rfl, b, d, m, rfl, x1, hm, fun r H2 r0 r1 b2 x2 => ⟨_, rfl, _, rfl, a, _, rfl, .inl ⟨kvs, .inr x, b2 _ _ nab hA, rfl, lineOk (by omega), rfl⟩, ?_⟩⟩
    refine ⟨putK kvs (.inr x) (.int r), _, rfl, upd_same, Nat.le_trans put_len (by omega), (b1.trans b2).put _ na, hB.put na x2, by rw [upd_ne nap.symm]; exact b2 _ _ npb hp, hdo.put _ _, fun y hy => ?_⟩
    rw [List.take_succ, hx] at hy
    by_cases e : y = x
    · subst e
      exact ⟨r, ⟨r0, r1⟩, by rw [valV_put, if_pos rfl]⟩
    · rcases List.mem_append.mp hy with z | z
      · obtain ⟨j, hjr, hj⟩ := hv y z
        refine ⟨j, hjr, ?_⟩
        rw [valV_put, if_neg (by intro q; cases q; exact e rfl)]
        exact hj
      · exact absurd (List.mem_singleton.mp z) e
  · rintro σ H1 ⟨kvs, nm, rfl, hA, hl, b1, x1, hp, hdo, hv⟩
    refine ⟨_, rfl, q a kvs H1 b1 x1 hA hl hdo (fun x hx => hv x ?_)⟩
    exact hx
end
end K3

set_option Elab.async false
set_option linter.all false
set_option maxRecDepth 100000
set_option maxHeartbeats 4000000
namespace K3
open PySem L2 Fo
open C8 (Cal pe_c pss_cut)
section
variable {P : Program} {w : World} {K : PySem.W.Frag} {mg : Str → Option Value} {base : Heap}
theorem hu65 {k : Nat} {A : Around} (h : Room k A) : A.units + 65 < cLine := by
  have := h.un
  omega
def VF (f : Fm) (kvs : List (L2.Key × V)) (e : Str → Int) : Prop := ∀ x ∈ f.fr, valV kvs (.inr x) = some (.int (e x))
theorem VF.put {b : Bool} {f : Fm} {kvs : List (L2.Key × V)} {e : Str → Int} {x : Str} (h : VF (.qu b x f) kvs e) (i : Int) : VF f (putK kvs (.inr x) (.int i)) (Fm.set1 e x i) := fun y hy => by
  rw [valV_put]
  unfold Fm.set1
  by_cases z : y = x
  · rw [if_pos (congrArg Sum.inr z), if_pos z]
  · rw [if_neg (by intro q; cases q; exact z rfl), if_neg z]
    refine h y ?_
    rw [Fm.fr, List.mem_filter]
    exact ⟨hy, decide_eq_true z⟩
theorem dp_rows {H : Hp} {us : List V} {rs : List (List Int)} (h : All2 (RowAt K H) us rs) : DpAll K H us (rs.map Da.dint) := by
  induction h with
  | nil => exact .nil
  | cons r _ ih =>
    obtain ⟨a, rfl, ha⟩ := r
    exact .cons (.tup ha (Da.dp_ints _)) ih
theorem bl_ne {x y b : Bool} (h : y = b) : V.bl (!decide (V.bl x = V.bl y)) = V.bl (x != b) := by
  subst h
  cases x <;> cases y <;> decide
theorem range_any {p : Nat → Bool} {m i : Nat} (h : i < m) (hp : p i = true) : (List.range m).any p = true := List.any_eq_true.mpr ⟨i, List.mem_range.mpr h, hp⟩
theorem range_snoc {p : Nat → Bool} {i : Nat} (h : (List.range i).any p = false) (hp : p i = false) : (List.range (i + 1)).any p = false := by
  rw [List.range_succ, List.any_append, h]
  simp [hp]
def spTrue (K : PySem.W.Frag) (n : Nat) : Sp := fun vs H Q _ => ∃ (sv v : V) (d : Addr) (m : Nat) (rels : List (Str × List (List Int))) (kvs : List (L2.Key × V)) (e : Str → Int) (f : Fm), vs = [sv, v, .ref d] ∧ StrAt K H sv m rels ∧ FmAt K H v f ∧ f.dp < n ∧
  f.nm.length ≤ 2000 ∧ H d = some (.dK kvs) ∧ kvs.length + f.dp ≤ 100 ∧ VF f kvs e ∧ m ≤ 4 ∧ ∀ (H' : Hp), Same H H' → Q (.bl (Fm.tv m rels f e)) H'
abbrev nTrue : List Str := ["structure", "formula", "values", "kind", "name", "places", "rows", "x", "row", "wider"]
abbrev pTrue : List Str := ["structure", "formula", "values"]
theorem scTrue : FnScope nTrue pTrue (defScope sTrue) := ⟨rfl, rfl, rfl, by decide +kernel, rfl, by decide +kernel, by decide +kernel⟩
theorem ok_true {n : Nat} {f : Addr} {fd : FuncData} (B : Bt mg) (cTrue : Cal P w K mg base n "_law_true" (spTrue K n) []) (F : Fun K "_law_true" "_law_true" sTrue f fd) : FnOk P w K mg base CX0 (n + 1) f fd pTrue (spTrue K (n + 1)) := by
  refine F.ok scTrue (fun vs H Q E h => ?_) (fun cdv A outer s H vs Q E hr h => ?_)
  · obtain ⟨sv, v, d, m, rels, kvs, e, f, rfl, _⟩ := h
    rfl
  obtain ⟨sv, v, d, m, rels, kvs, e, fm, rfl, hs, hF, hd, hn, hD, hl8, hv, hm3, q⟩ := h
  have nd := scTrue.nd
  refine ⟨_, (pss_cons (ps_set (i := 3) nd rfl (.inl rfl) (pe_ix ix_tup (pv 1) pe_int (fun _ _ => rfl)))
    (pss_cons (ps_if (pt_cmpR op_eq (pv 3) pe_str (nomark _)) (pss_cons (ps_for PassesOwn.never rfl (pi_tup (pe_ix ix_tup (pv 0) pe_int (fun _ _ => rfl))) (pg_tup rfl (pgs_cons (pg_name (i := 4) nd rfl (.inl rfl)) (pgs_cons (pg_name (i := 5) nd rfl (.inl rfl)) (pgs_cons (pg_name (i := 6) nd rfl (.inl rfl)) pgs_nil)))) (pss_one (ps_if (pt_cmpR op_eq (pv 4) (pe_ix ix_tup (pv 1) pe_int (fun _ _ => rfl)) (nomark _)) (pss_one (ps_ret (pe_cmpR (Da.op_inDT (hu65 hr)) (pe_callTy call_tuple_of rfl B.tuple (by decide +kernel) (pa_cons (pe_lc (own := [("x", 7)]) (g := gName 7) (tt := tYes) rfl nd (pi_tup (pe_ix ix_tup (pv 1) pe_int (fun _ _ => rfl))) (blkOk_by (own := [("x", 7)]) (N := nTrue) (sc := defScope sTrue) (by decide +kernel)) (fun _ _ _ _ _ => (pg_name (i := 7) nd rfl (Or.inl rfl))) (fun _ _ _ _ _ => pts_nil) (fun _ _ _ _ _ => (pe_dget (hu_of hr) (pv 2) (pv 7) (fun _ _ => rfl)))) pa_nil)) (pv 6) rfl))) pss_nil)))
    (pss_one (ps_ret pe_bl))) pss_nil)
    (pss_cons (ps_if (pt_cmpR op_eq (pv 3) pe_str (nomark _)) (pss_one (ps_ret (pe_cmpR op_eq (pe_dget (hu_of hr) (pv 2) (pe_ix ix_tup (pv 1) pe_int (fun _ _ => rfl)) (fun _ _ => rfl)) (pe_dget (hu_of hr) (pv 2) (pe_ix ix_tup (pv 1) pe_int (fun _ _ => rfl)) (fun _ _ => rfl)) (nomark _)))) pss_nil)
    (pss_cons (ps_if (pt_cmpR op_eq (pv 3) pe_str (nomark _)) (pss_one (ps_ret (pe_not (pe_c cTrue hr (Nat.le_refl _) rfl (pa_cons (pv 0) (pa_cons (pe_ix ix_tup (pv 1) pe_int (fun _ _ => rfl)) (pa_cons (pv 2) pa_nil))))))) pss_nil)
    (pss_cons (ps_if (PW.pt (pw_or (pt_cmpR op_eq (pv 3) pe_str (nomark _)) (pw_or1 (pt_cmpR op_eq (pv 3) pe_str (nomark _))))) (pss_cons (ps_for PassesOwn.never rfl (pi_tup (pe_ix ix_tup (pv 1) pe_int (fun _ _ => rfl))) (pg_name (i := 8) nd rfl (.inl rfl)) (pss_one (ps_if (pt_cmpR op_ne (pe_c cTrue hr (Nat.le_refl _) rfl (pa_cons (pv 0) (pa_cons (pv 8) (pa_cons (pv 2) pa_nil)))) (pe_cmpR op_eq (pv 3) pe_str (nomark _)) (nomark _)) (pss_one (ps_ret (pe_cmpR op_eq (pv 3) pe_str (nomark _)))) pss_nil)))
    (pss_one (ps_ret (pe_cmpR op_eq (pv 3) pe_str (nomark _))))) pss_nil)
    (pss_cons (ps_for PassesOwn.never rfl (pi_range1 rfl B.range (pa_cons (pe_ix ix_tup (pv 0) pe_int (fun _ _ => rfl)) pa_nil)) (pg_name (i := 7) nd rfl (.inl rfl)) (pss_cons (ps_set (i := 9) nd rfl (.inl rfl) (pe_callTy call_dictD rfl B.dict (by decide +kernel) (pa_cons (pv 2) pa_nil)))
    (pss_cons (ps_dput (hu_of hr) (pv 9) (pe_ix ix_tup (pv 1) pe_int (fun _ _ => rfl)) (pv 7) rfl)
    (pss_one (ps_if (pt_cmpR op_ne (pe_c cTrue hr (Nat.le_refl _) rfl (pa_cons (pv 0) (pa_cons (pe_ix ix_tup (pv 1) pe_int (fun _ _ => rfl)) (pa_cons (pv 9) pa_nil)))) (pe_cmpR op_eq (pv 3) pe_str (nomark _)) (nomark _)) (pss_one (ps_ret (pe_cmpR op_eq (pv 3) pe_str (nomark _)))) pss_nil)))))
    (pss_one (ps_ret (pe_cmpR op_eq (pv 3) pe_str (nomark _)))))))))), ?_⟩
  have hs0 := hs
  obtain ⟨sa, st, sus, rfl, hs1, hs2, hs3⟩ := hs
  cases fm with
  | rel n xs =>
    rw [FmAt] at hF
    obtain ⟨a, t, rfl, h1, h2⟩ := hF
    refine ⟨_, rfl, a, _, _, _, rfl, rfl, h1, at_of (j := 0) rfl rfl, ?_⟩
    refine ⟨_, rfl, rfl, true, (by decide +kernel), ?_⟩
    refine ⟨_, rfl, sa, _, _, _, rfl, rfl, hs1, at_of (j := 2) rfl rfl, st, rfl, ⟨_, hs2⟩, ?_⟩
    refine for_tup (xs := sus) (fun i σ H' => ∃ (na pl ro : Option V), σ = [some (.ref sa), some (.ref a), some (.ref d), some (.str "rel"), na, pl, ro, none, none, none] ∧ Same H H' ∧ Fm.rows rels n = Fm.rows (rels.drop i) n)
      ⟨none, none, none, rfl, Same.refl _, rfl⟩ (fun i σ H' _ ⟨_, _, _, _, s2, _⟩ => Tk.of_same s2 _ _ hs2) ?_ ?_
    · rintro i u σ H1 hi ⟨na, pl, ro, rfl, s1, hrw⟩
      obtain ⟨⟨rn, rr⟩, hg, p, tt, pl2, us, rfl, hp1, hp2, hp3⟩ := (hs3.imp fun _ _ h => h.tk (Tk.of_same s1)).get hi
      obtain ⟨li, hgi⟩ := List.getElem?_eq_some_iff.mp hg
      rw [List.drop_eq_getElem_cons li, hgi, Fm.rows] at hrw
      have h1' := Tk.of_same (K := K) s1 _ _ h1
      refine ⟨p, _, rfl, hp1, rfl, _, _, rfl, _, _, rfl, _, _, rfl, rfl, ?_⟩
      refine ⟨_, rfl, _, rfl, a, _, _, _, rfl, rfl, h1', at_of (j := 1) rfl rfl, rfl, _, rfl, ite2 (fun c => ?_) (fun c => ?_)⟩
      · have en : rn = n := by have := of_decide_eq_true c; cases this; rfl
        rw [if_pos en] at hrw
        have h2' := Tk.of_same (K := K) s1 _ _ h2
        refine ⟨_, rfl, a, _, _, _, rfl, rfl, h1', at_of (j := 2) rfl rfl, t, rfl, ⟨_, h2'⟩, fun D nD => lc_tup (xs := xs.map V.str) (fun j H' => H' D = some (.lst (((xs.take j).map e).map V.int)) ∧ Same H1 H') ⟨upd_same, same_new nD _⟩ (fun j H' _ h => Tk.of_same (s1.trans h.2) _ _ h2) ?_ ?_⟩
        · rintro j y H2 hj ⟨hD2, s2⟩
          rw [List.getElem?_map] at hj
          obtain ⟨x, hx, rfl⟩ := Option.map_eq_some_iff.mp hj
          have hln : xs.length ≤ 2000 := hn
          refine ⟨rfl, _, rfl, _, rfl, d, .int (e x), rfl, .inl ⟨kvs, .inr x, .inl ((s1.trans s2) _ _ hD), rfl, (hv x (List.mem_of_getElem? hx)).symm⟩, _, hD2, lineOk (by rw [List.length_map, List.length_map, List.length_take]; omega), ?_, same_to s2 nD⟩
          rw [upd_same, List.take_succ, hx, List.map_append, List.map_append]
          rfl
        · rintro H2 ⟨hD2, s2⟩
          rw [List.length_map, List.take_length] at hD2
          refine ⟨D, _, rfl, .inl ⟨SqL.of hD2, fun t' nt' => ?_⟩⟩
          have s3 := s2.trans (same_new nt' (.tup ((xs.map e).map V.int)))
          have k3 := Tk.of_same (K := K) s3
          refine ⟨_, rfl, _, _, .tup (SqT.of upd_same) (Da.dp_ints _), .tup (k3 _ _ hp2) (dp_rows (hp3.imp fun _ _ h => h.tk k3)), Da.shaped_ints _, Da.shaped_rows _, ?_⟩
          have ev : Fm.tv m rels (.rel n xs) e = (rr.map Da.dint).any (fun z => PyData.eqv z (Da.dint (xs.map e))) := by
            rw [Fm.tv, Fm.holds, hrw]
            rfl
          have := q _ (s1.trans s3)
          rw [ev] at this
          exact this
      · have en : ¬ rn = n := fun z => c (by rw [z]; exact decide_eq_true rfl)
        rw [if_neg en] at hrw
        exact ⟨_, _, _, rfl, s1, hrw⟩
    · rintro σ H1 ⟨na, pl, ro, rfl, s1, hrw⟩
      rw [hs3.length, List.drop_length, Fm.rows] at hrw
      have := q H1 s1
      rw [Fm.tv, Fm.holds, hrw] at this
      exact this
  | same x y =>
    rw [FmAt] at hF
    obtain ⟨a, rfl, h1⟩ := hF
    refine ⟨_, rfl, a, _, _, _, rfl, rfl, h1, at_of (j := 0) rfl rfl, ?_⟩
    refine ⟨_, rfl, rfl, false, (by decide +kernel), ?_⟩
    refine ⟨_, rfl, rfl, true, (by decide +kernel), ?_⟩
    refine ⟨_, rfl, _, rfl, a, _, _, _, rfl, rfl, h1, at_of (j := 1) rfl rfl, d, .int (e x), rfl, .inl ⟨kvs, .inr x, .inl hD, rfl, (hv x (by simp [Fm.fr])).symm⟩, ?_⟩
    refine ⟨_, rfl, _, rfl, a, _, _, _, rfl, rfl, h1, at_of (j := 2) rfl rfl, d, .int (e y), rfl, .inl ⟨kvs, .inr y, .inl hD, rfl, (hv y (by simp [Fm.fr])).symm⟩, rfl, ?_⟩
    have ev : decide (V.int (e x) = V.int (e y)) = Fm.tv m rels (.same x y) e := by
      rw [Fm.tv]
      by_cases z : e x = e y <;> simp [z]
    show Q (V.bl (decide (V.int (e x) = V.int (e y)))) H
    rw [ev]
    exact q H (Same.refl _)
  | neg f =>
    rw [FmAt] at hF
    obtain ⟨a, u, rfl, h1, h2⟩ := hF
    have z1 : 1 + f.dp < n + 1 := hd
    refine ⟨_, rfl, a, _, _, _, rfl, rfl, h1, at_of (j := 0) rfl rfl, ?_⟩
    refine ⟨_, rfl, rfl, false, (by decide +kernel), ?_⟩
    refine ⟨_, rfl, rfl, false, (by decide +kernel), ?_⟩
    refine ⟨_, rfl, rfl, true, (by decide +kernel), ?_⟩
    refine ⟨_, rfl, _, rfl, a, _, _, _, rfl, rfl, h1, at_of (j := 1) rfl rfl, _, rfl, .ref sa, u, d, m, rels, kvs, e, f, rfl, hs0, h2, by omega, hn, hD, by have : kvs.length + (1 + f.dp) ≤ 100 := hl8; omega, hv, hm3, fun H' s' => ⟨_, rfl, ?_⟩⟩
    have := q H' s'
    rw [Fm.tv] at this
    exact this
  | con b fs =>
    rw [FmAt] at hF
    obtain ⟨a, t, us, rfl, h1, h2, h3⟩ := hF
    have z1 : Fm.dps fs < n + 1 := hd
    have hA : decide (V.str (cn b) = V.str "and") = b := by cases b <;> decide +kernel
    have hO : decide (V.str (cn b) = V.str "or") = !b := by cases b <;> decide +kernel
    refine ⟨_, rfl, a, _, _, _, rfl, rfl, h1, at_of (j := 0) rfl rfl, ?_⟩
    refine ⟨_, rfl, rfl, false, (by cases b <;> decide +kernel), ?_⟩
    refine ⟨_, rfl, rfl, false, (by cases b <;> decide +kernel), ?_⟩
    refine ⟨_, rfl, rfl, false, (by cases b <;> decide +kernel), ?_⟩
    refine ⟨_, rfl, rfl, _, rfl, ?_⟩
    refine (fun fin => ite2 (fun _ => fin) (fun c => ⟨_, rfl, rfl, true, ?e2, fin⟩)) ?fin
    case e2 =>
      cases b with
      | true => exact absurd (by decide +kernel) c
      | false => decide +kernel
    case fin =>
      refine ⟨_, rfl, a, _, _, _, rfl, rfl, h1, at_of (j := 1) rfl rfl, t, rfl, ⟨_, h2⟩, ?_⟩
      refine for_tup (xs := us) (fun i σ H' => ∃ (row : Option V), σ = [some (.ref sa), some (.ref a), some (.ref d), some (.str (cn b)), none, none, none, none, row, none] ∧ Same H H' ∧ Fm.tvs m rels b fs e = Fm.tvs m rels b (fs.drop i) e)
        ⟨none, rfl, Same.refl _, rfl⟩ (fun i σ H' _ ⟨_, _, s2, _⟩ => Tk.of_same s2 _ _ h2) ?_ ?_
      · rintro i u σ H1 hi ⟨row, rfl, s1, hrw⟩
        obtain ⟨g, hg, hu⟩ := (h3.tk (Tk.of_same s1)).get hi
        obtain ⟨li, hgi⟩ := List.getElem?_eq_some_iff.mp hg
        have hm := List.mem_of_getElem? hg
        have d1 := Fm.dps_mem hm
        have d2 := Fm.nms_len_mem hm
        have hn' : (Fm.nms fs).length ≤ 2000 := hn
        rw [List.drop_eq_getElem_cons li, hgi, Fm.tvs] at hrw
        refine ⟨_, rfl, _, rfl, _, rfl, .ref sa, u, d, m, rels, kvs, e, g, rfl, hs0.tk (Tk.of_same s1), hu, by omega, by omega, s1 _ _ hD, by have : kvs.length + Fm.dps fs ≤ 100 := hl8; omega, fun z hz => hv z (Fm.mem_frs.mpr ⟨g, hm, hz⟩), hm3, fun H2 s2 => ?_⟩
        refine ⟨_, rfl, rfl, rfl, (Fm.tv m rels g e != b), bl_ne hA, ite2 (fun c => ?_) (fun c => ?_)⟩
        · rw [if_pos c] at hrw
          refine ⟨_, rfl, rfl, ?_⟩
          show Q (V.bl (decide (V.str (cn b) = V.str "or"))) H2
          rw [hO, ← hrw]
          exact q H2 (s1.trans s2)
        · rw [if_neg c] at hrw
          exact ⟨_, rfl, s1.trans s2, hrw⟩
      · rintro σ H1 ⟨row, rfl, s1, hrw⟩
        rw [h3.length, List.drop_length, Fm.tvs] at hrw
        refine ⟨_, rfl, rfl, ?_⟩
        show Q (V.bl (decide (V.str (cn b) = V.str "and"))) H1
        rw [hA]
        have := q H1 s1
        rw [Fm.tv, hrw] at this
        exact this
  | qu b x f =>
    rw [FmAt] at hF
    obtain ⟨a, u, rfl, h1, h2⟩ := hF
    have z1 : 1 + f.dp < n + 1 := hd
    have z2 : f.nm.length + 1 ≤ 2000 := hn
    have hA : decide (V.str (qn b) = V.str "all") = !b := by cases b <;> decide +kernel
    have hO : decide (V.str (qn b) = V.str "some") = b := by cases b <;> decide +kernel
    refine ⟨_, rfl, a, _, _, _, rfl, rfl, h1, at_of (j := 0) rfl rfl, ?_⟩
    refine ⟨_, rfl, rfl, false, (by cases b <;> decide +kernel), ?_⟩
    refine ⟨_, rfl, rfl, false, (by cases b <;> decide +kernel), ?_⟩
    refine ⟨_, rfl, rfl, false, (by cases b <;> decide +kernel), ?_⟩
    refine ⟨_, rfl, rfl, false, (by cases b <;> decide +kernel), ?_⟩
    refine ⟨_, rfl, rfl, false, (by cases b <;> decide +kernel), ?_⟩
    refine ⟨_, rfl, sa, _, _, _, rfl, rfl, hs1, at_of (j := 1) rfl rfl, m, rfl, by omega, by omega, for_range (lo := 0) (n := m) (fun i σ H' => ∃ (xo wo : Option V), σ = [some (.ref sa), some (.ref a), some (.ref d), some (.str (qn b)), none, none, none, xo, none, wo] ∧ Same H H' ∧ (List.range i).any (fun j => Fm.tv m rels f (Fm.set1 e x j) != !b) = false)
      ⟨none, none, rfl, Same.refl _, rfl⟩ ?_ ?_⟩
    · rintro i σ H1 hi ⟨xo, wo, rfl, s1, hany⟩
      have hD1 := s1 _ _ hD
      refine ⟨_, rfl, d, kvs, rfl, .inl hD1, fun wa nwa => ?_⟩
      have s2 := s1.trans (same_new nwa (.dK kvs))
      refine ⟨_, rfl, _, rfl, _, rfl, a, _, _, _, rfl, rfl, Tk.of_same s2 _ _ h1, at_of (j := 1) rfl rfl, wa, _, rfl, .inl ⟨kvs, .inr x, upd_same, rfl, lineOk (by have : kvs.length + (1 + f.dp) ≤ 100 := hl8; omega), rfl⟩, ?_⟩
      have s3 := same_to (o := .dK (putK kvs (.inr x) (.int (0 + (i : Int))))) s2 (s1.free nwa)
      have k3 := Tk.of_same (K := K) s3
      refine ⟨_, rfl, _, rfl, a, _, _, _, rfl, rfl, k3 _ _ h1, at_of (j := 2) rfl rfl, _, rfl, .ref sa, u, wa, m, rels, putK kvs (.inr x) (.int (0 + (i : Int))), Fm.set1 e x (0 + (i : Int)), f, rfl, hs0.tk k3, h2.tk k3, by omega, by omega, upd_same, by have : kvs.length + (1 + f.dp) ≤ 100 := hl8; have := put_len (kvs := kvs) (k := .inr x) (v := .int (0 + (i : Int))); omega, hv.put _, hm3, fun H2 s4 => ?_⟩
      have ei : (0 : Int) + (i : Int) = (i : Int) := by omega
      refine ⟨_, rfl, rfl, rfl, (Fm.tv m rels f (Fm.set1 e x (0 + (i : Int))) != !b), bl_ne hA, ite2 (fun c => ?_) (fun c => ?_)⟩
      · refine ⟨_, rfl, rfl, ?_⟩
        show Q (V.bl (decide (V.str (qn b) = V.str "some"))) H2
        rw [hO]
        rw [ei] at c
        have := q H2 (s3.trans s4)
        rw [Fm.tv, if_pos (range_any hi c)] at this
        exact this
      · rw [ei] at c
        exact ⟨_, _, rfl, s3.trans s4, range_snoc hany (by simpa using c)⟩
    · rintro σ H1 ⟨xo, wo, rfl, s1, hany⟩
      refine ⟨_, rfl, rfl, ?_⟩
      show Q (V.bl (decide (V.str (qn b) = V.str "all"))) H1
      rw [hA]
      have := q H1 s1
      rw [Fm.tv, hany] at this
      exact this
end
end K3

set_option Elab.async false
set_option linter.all false
set_option maxRecDepth 100000
set_option maxHeartbeats 4000000
namespace K3
open PySem L2 Fo
open C8 (Cal pe_c pss_cut)
/-- texts and tuples of such -/
inductive Tr where
  | it (i : Int)
  | bo (b : Bool)
  | tp (ts : List Tr)
namespace Tr
mutual
def dep : Tr → Nat
  | .it _ => 0
  | .bo _ => 0
  | .tp ts => deps ts
def deps : List Tr → Nat
  | [] => 0
  | t :: ts => max (1 + dep t) (deps ts)
end
mutual
def wid : Tr → Nat
  | .it _ => 0
  | .bo _ => 0
  | .tp ts => max ts.length (wids ts)
def wids : List Tr → Nat
  | [] => 0
  | t :: ts => max (wid t) (wids ts)
end
theorem deps_mem : ∀ {ts : List Tr} {t : Tr}, t ∈ ts → 1 + dep t ≤ deps ts
  | u :: ts, t, h => by
    rw [deps]
    rcases List.mem_cons.mp h with e | e
    · rw [e]; exact Nat.le_max_left _ _
    · exact Nat.le_trans (deps_mem e) (Nat.le_max_right _ _)
theorem wids_mem : ∀ {ts : List Tr} {t : Tr}, t ∈ ts → wid t ≤ wids ts
  | u :: ts, t, h => by
    rw [wids]
    rcases List.mem_cons.mp h with e | e
    · rw [e]; exact Nat.le_max_left _ _
    · exact Nat.le_trans (wids_mem e) (Nat.le_max_right _ _)
end Tr
mutual
def TrAt (K : PySem.W.Frag) (H : Hp) : V → Tr → Prop
  | v, .it i => v = .int i
  | v, .bo b => v = .bl b
  | v, .tp ts => ∃ a us, v = .ref a ∧ SqT K H a us ∧ TrsAt K H us ts
def TrsAt (K : PySem.W.Frag) (H : Hp) : List V → List Tr → Prop
  | us, [] => us = []
  | us, t :: ts => ∃ u r, us = u :: r ∧ TrAt K H u t ∧ TrsAt K H r ts
end
mutual
theorem TrAt.tk {K : PySem.W.Frag} {H H' : Hp} (k : Tk K H H') : ∀ {v : V} {t : Tr}, TrAt K H v t → TrAt K H' v t
  | v, .it i, h => by
    rw [TrAt] at h ⊢
    exact h
  | v, .bo i, h => by
    rw [TrAt] at h ⊢
    exact h
  | v, .tp ts, h => by
    rw [TrAt] at h ⊢
    obtain ⟨a, us, e, h1, h2⟩ := h
    exact ⟨a, us, e, k _ _ h1, TrsAt.tk k h2⟩
theorem TrsAt.tk {K : PySem.W.Frag} {H H' : Hp} (k : Tk K H H') : ∀ {us : List V} {ts : List Tr}, TrsAt K H us ts → TrsAt K H' us ts
  | us, [], h => by
    rw [TrsAt] at h ⊢
    exact h
  | us, t :: ts, h => by
    rw [TrsAt] at h ⊢
    obtain ⟨u, r, e, h1, h2⟩ := h
    exact ⟨u, r, e, TrAt.tk k h1, TrsAt.tk k h2⟩
end
theorem TrsAt.all2 {K : PySem.W.Frag} {H : Hp} : ∀ {us : List V} {ts : List Tr}, TrsAt K H us ts → All2 (TrAt K H) us ts
  | us, [], h => by rw [TrsAt] at h; subst h; exact .nil
  | us, t :: ts, h => by
    rw [TrsAt] at h
    obtain ⟨u, r, rfl, h1, h2⟩ := h
    exact .cons h1 h2.all2
theorem TrsAt.of {K : PySem.W.Frag} {H : Hp} {us : List V} {ts : List Tr} (h : All2 (TrAt K H) us ts) : TrsAt K H us ts := by
  induction h with
  | nil => rw [TrsAt]
  | cons r _ ih => rw [TrsAt]; exact ⟨_, _, rfl, r, ih⟩

section
variable {P : Program} {w : World} {K : PySem.W.Frag} {mg : Str → Option Value} {base : Heap}
theorem ty_tup {H : Hp} {a : Addr} {xs : List V} (h : SqT K H a xs) : TyX K H (.ref a) (.type "tuple") := by
  rcases h with (h | ⟨o, h⟩) | ⟨o, its, n, h, c, _⟩
  · exact .base (.tup h)
  · exact .fTuple h
  · exact .kTuple h c
def spSame (K : PySem.W.Frag) (n : Nat) : Sp := fun vs H Q _ => ∃ (x y : V) (t : Tr), vs = [x, y] ∧ TrAt K H x t ∧ TrAt K H y t ∧ t.dep < n ∧ t.wid ≤ 10000 ∧ ∀ H', Same H H' → Q (.bl true) H'
abbrev nSame : List Str := ["actual", "expected", "k"]
theorem scSame : FnScope nSame ["actual", "expected"] (defScope sSame) := ⟨rfl, rfl, rfl, by decide +kernel, rfl, by decide +kernel, by decide +kernel⟩
theorem ok_same {n : Nat} {f : Addr} {fd : FuncData} (B : Bt mg) (cSame : Cal P w K mg base n "_law_same" (spSame K n) []) (F : Fun K "_law_same" "_law_same" sSame f fd) : FnOk P w K mg base CX0 (n + 1) f fd ["actual", "expected"] (spSame K (n + 1)) := by
  refine F.ok scSame (fun vs H Q E h => ?_) (fun cdv A outer s H vs Q E hr h => ?_)
  · obtain ⟨x, y, t, rfl, _⟩ := h
    rfl
  obtain ⟨x, y, t, rfl, hx, hy, hd, hw, q⟩ := h
  have nd := scSame.nd
  refine ⟨_, (pss_cons (ps_if (pt_val (pe_callB call_isi rfl B.isinstance (by decide +kernel) (pa_cons (pv 1) (pa_cons (pe_bltn (v := .ty "tuple") rfl B.tuple (by decide +kernel) rfl) pa_nil)))) (pss_cons (ps_if (PW.pt (pw_or (pt_not (pt_val (pe_callB call_isi rfl B.isinstance (by decide +kernel) (pa_cons (pv 0) (pa_cons (pe_bltn (v := .ty "tuple") rfl B.tuple (by decide +kernel) rfl) pa_nil))))) (pw_or1 (pt_cmpR op_ne (pe_callB call_len_seq rfl B.len PySem.boot_len (pa_cons (pv 0) pa_nil)) (pe_callB call_len_seq rfl B.len PySem.boot_len (pa_cons (pv 1) pa_nil)) (nomark _))))) (pss_one (ps_ret pe_bl)) pss_nil)
    (pss_cons (ps_for PassesOwn.never rfl (pi_range1 rfl B.range (pa_cons (pe_callB call_len_seq rfl B.len PySem.boot_len (pa_cons (pv 1) pa_nil)) pa_nil)) (pg_name (i := 2) nd rfl (.inl rfl)) (pss_one (ps_if (pt_not (pt_val (pe_c cSame hr (Nat.le_refl _) rfl (pa_cons (pe_ix ix_tup (pv 0) (pv 2) (fun _ _ => rfl)) (pa_cons (pe_ix ix_tup (pv 1) (pv 2) (fun _ _ => rfl)) pa_nil))))) (pss_one (ps_ret pe_bl)) pss_nil)))
    (pss_one (ps_ret pe_bl)))) pss_nil)
    (pss_cons (ps_if (pt_cmpR op_isN (pv 1) pe_non (nomark _)) (pss_one (ps_ret (pe_cmpR op_isN (pv 0) pe_non (nomark _)))) pss_nil)
    (pss_cons (ps_if (pt_val (pe_callB call_isi rfl B.isinstance (by decide +kernel) (pa_cons (pv 1) (pa_cons (pe_bltn (v := .ty "bool") rfl B.bool (by decide +kernel) rfl) pa_nil)))) (pss_one (ps_ret (pe_and (pe_callB call_isi rfl B.isinstance (by decide +kernel) (pa_cons (pv 0) (pa_cons (pe_bltn (v := .ty "bool") rfl B.bool (by decide +kernel) rfl) pa_nil))) (pe_one (pe_cmpR op_eq (pv 0) (pv 1) (nomark _)))))) pss_nil)
    (pss_cons (ps_if (pt_val (pe_callB call_isi rfl B.isinstance (by decide +kernel) (pa_cons (pv 1) (pa_cons (pe_bltn (v := .ty "int") rfl B.int (by decide +kernel) rfl) pa_nil)))) (pss_one (ps_ret (pe_and (pe_callB call_isi rfl B.isinstance (by decide +kernel) (pa_cons (pv 0) (pa_cons (pe_bltn (v := .ty "int") rfl B.int (by decide +kernel) rfl) pa_nil))) (pe_and (pe_not (pe_callB call_isi rfl B.isinstance (by decide +kernel) (pa_cons (pv 0) (pa_cons (pe_bltn (v := .ty "bool") rfl B.bool (by decide +kernel) rfl) pa_nil)))) (pe_one (pe_cmpR op_eq (pv 0) (pv 1) (nomark _))))))) pss_nil)
    (pss_one (ps_ret (pe_and (pe_callB call_isi rfl B.isinstance (by decide +kernel) (pa_cons (pv 0) (pa_cons (pe_bltn (v := .ty "str") rfl B.str (by decide +kernel) rfl) pa_nil))) (pe_one (pe_cmpR op_eq (pv 0) (pv 1) (nomark _)))))))))), ?_⟩
  cases t with
  | it i =>
    rw [TrAt] at hx hy
    subst hx
    subst hy
    refine ⟨_, rfl, _, _, _, _, false, rfl, .ty "tuple", .base (.int i), kit_ty (by decide +kernel), false, rfl, ?_⟩
    refine ⟨_, rfl, rfl, false, congrArg V.bl (decide_eq_false fun z => nomatch z), ?_⟩
    refine ⟨_, rfl, _, _, _, _, false, rfl, .ty "bool", .base (.int i), kit_ty (by decide +kernel), false, rfl, ?_⟩
    refine ⟨_, rfl, _, _, _, _, true, rfl, .ty "int", .base (.int i), kit_ty (by decide +kernel), true, rfl, ?_⟩
    refine ⟨_, rfl, _, _, _, _, true, rfl, .ty "int", .base (.int i), kit_ty (by decide +kernel), true, rfl, ?_⟩
    refine ⟨_, rfl, _, _, _, _, false, rfl, .ty "bool", .base (.int i), kit_ty (by decide +kernel), false, rfl, true, rfl, ?_⟩
    refine ⟨_, rfl, _, rfl, rfl, ?_⟩
    show Q (V.bl (decide (V.int i = V.int i))) H
    rw [decide_eq_true rfl]
    exact q H (Same.refl _)
  | bo i =>
    rw [TrAt] at hx hy
    subst hx
    subst hy
    refine ⟨_, rfl, _, _, _, _, false, rfl, .ty "tuple", .base (.bl i), kit_ty (by decide +kernel), false, rfl, ?_⟩
    refine ⟨_, rfl, rfl, false, congrArg V.bl (decide_eq_false fun z => nomatch z), ?_⟩
    refine ⟨_, rfl, _, _, _, _, true, rfl, .ty "bool", .base (.bl i), kit_ty (by decide +kernel), true, rfl, ?_⟩
    refine ⟨_, rfl, _, _, _, _, true, rfl, .ty "bool", .base (.bl i), kit_ty (by decide +kernel), true, rfl, ?_⟩
    refine ⟨_, rfl, _, rfl, rfl, ?_⟩
    show Q (V.bl (decide (V.bl i = V.bl i))) H
    rw [decide_eq_true rfl]
    exact q H (Same.refl _)
  | tp ts =>
    rw [TrAt] at hx hy
    obtain ⟨a, us, rfl, ha, hus⟩ := hx
    obtain ⟨b, ws, rfl, hb, hws⟩ := hy
    have l1' := hus.all2.length
    have l2' := hws.all2.length
    rw [Tr.wid] at hw
    have hd' : Tr.deps ts < n + 1 := hd
    refine ⟨_, rfl, _, _, _, _, true, rfl, .ty "tuple", ty_tup hb, kit_ty (by decide +kernel), true, rfl, ?_⟩
    refine ⟨_, rfl, _, _, _, _, true, rfl, .ty "tuple", ty_tup ha, kit_ty (by decide +kernel), true, rfl, ?_⟩
    refine ⟨_, rfl, a, _, rfl, .inr ha, _, rfl, b, _, rfl, .inr hb, rfl, false, ?_, ?_⟩
    · rw [l1', l2']; simp
    refine ⟨_, rfl, b, _, rfl, .inr hb, _, rfl, by omega, by omega, for_range (lo := 0) (fun i σ H' => ∃ k, σ = [some (.ref a), some (.ref b), k] ∧ Same H H') ⟨none, rfl, Same.refl _⟩ ?_ ?_⟩
    · rintro i σ H1 hi ⟨k, rfl, s1⟩
      have hi1 : i < us.length := by omega
      have hi2 : i < ws.length := by omega
      have g1 : us[i]? = some us[i] := List.getElem?_eq_getElem hi1
      have g2 : ws[i]? = some ws[i] := List.getElem?_eq_getElem hi2
      obtain ⟨t1, e1, h1⟩ := (hus.tk (Tk.of_same s1)).all2.get g1
      obtain ⟨t2, e2, h2⟩ := (hws.tk (Tk.of_same s1)).all2.get g2
      rw [e1] at e2
      cases e2
      have hm := List.mem_of_getElem? e1
      have d1 := Tr.deps_mem hm
      have d2 := Tr.wids_mem hm
      have e0 : (0 : Int) + (i : Int) = ((i : Nat) : Int) := by omega
      refine ⟨_, rfl, _, rfl, a, _, _, _, rfl, rfl, Tk.of_same s1 _ _ ha, at_of e0 g1, _, rfl, _, rfl, b, _, _, _, rfl, rfl, Tk.of_same s1 _ _ hb, at_of e0 g2, us[i], ws[i], t1, rfl, h1, h2, by omega, by omega, fun H2 s2 => ⟨true, rfl, ?_⟩⟩
      exact ⟨_, rfl, s1.trans s2⟩
    · rintro σ H1 ⟨k, rfl, s1⟩
      exact q H1 s1
end
end K3

set_option Elab.async false
set_option linter.all false
set_option maxRecDepth 100000
set_option maxHeartbeats 4000000
/-! small ones: names_within, both, either -/
namespace K3
open PySem L2 Fo
open C8 (Cal pe_c pss_cut)
theorem and_nat (a b : Nat) : Builtin.bitAnd (a : Int) (b : Int) = ((a &&& b : Nat) : Int) := by
  rw [PyProof.Rows.bitAnd_pp (Int.natCast_nonneg _) (Int.natCast_nonneg _), Int.toNat_natCast, Int.toNat_natCast]
theorem or_nat (a b : Nat) : Builtin.bitOr (a : Int) (b : Int) = ((a ||| b : Nat) : Int) := by rw [Bits.bitOr_pp (Int.natCast_nonneg _) (Int.natCast_nonneg _), Int.toNat_natCast, Int.toNat_natCast]
theorem xor_nat (a b : Nat) : Builtin.bitXor (a : Int) (b : Int) = ((a ^^^ b : Nat) : Int) := by rw [Bits.bitXor_pp (Int.natCast_nonneg _) (Int.natCast_nonneg _), Int.toNat_natCast, Int.toNat_natCast]
def NmAt (K : PySem.W.Frag) (H : Hp) (u : V) (xs : List Str) : Prop := ∃ a : Addr, u = .ref a ∧ SqT K H a (xs.map V.str)
theorem NmAt.tk {K : PySem.W.Frag} {H H' : Hp} {u : V} {xs : List Str} (k : Tk K H H') (h : NmAt K H u xs) : NmAt K H' u xs :=
  let ⟨a, e, h1⟩ := h; ⟨a, e, k _ _ h1⟩
theorem stN {K : PySem.W.Frag} : Hd.Stay K (NmAt K) := ⟨fun k h => h.tk k⟩
/-- the names within -/
def wst (f : Fm) (xs : List Str) : List Str := match f with | .qu _ x _ => xs ++ [x] | _ => xs
section
variable {P : Program} {w : World} {K : PySem.W.Frag} {mg : Str → Option Value} {base : Heap}
def isQ : Fm → Bool
  | .qu _ _ _ => true
  | _ => false
def isA : Fm → Bool
  | .rel _ _ => true
  | .same _ _ => true
  | _ => false
/-- what stands first in a formula's tuple -/
theorem fm_head {H : Hp} {v : V} {g : Fm} (h : FmAt K H v g) : ∃ (a : Addr) (z : Str) (r : List V), v = .ref a ∧ SqT K H a (.str z :: r) ∧
    inV (.str z) [.str "some", .str "all"] = isQ g ∧ inV (.str z) [.str "rel", .str "same"] = isA g ∧ (∀ b y f, g = .qu b y f → r[0]? = some (.str y)) := by
  cases g with
  | rel n xs =>
    rw [FmAt] at h
    obtain ⟨a, t, rfl, h1, h2⟩ := h
    exact ⟨a, _, _, rfl, h1, (by show inV _ _ = false; decide +kernel), (by show inV _ _ = true; decide +kernel), fun _ _ _ e => nomatch e⟩
  | same x y =>
    rw [FmAt] at h
    obtain ⟨a, rfl, h1⟩ := h
    exact ⟨a, _, _, rfl, h1, (by show inV _ _ = false; decide +kernel), (by show inV _ _ = true; decide +kernel), fun _ _ _ e => nomatch e⟩
  | neg f =>
    rw [FmAt] at h
    obtain ⟨a, u, rfl, h1, h2⟩ := h
    exact ⟨a, _, _, rfl, h1, (by show inV _ _ = false; decide +kernel), (by show inV _ _ = false; decide +kernel), fun _ _ _ e => nomatch e⟩
  | con b fs =>
    rw [FmAt] at h
    obtain ⟨a, t, us, rfl, h1, h2⟩ := h
    exact ⟨a, _, _, rfl, h1, (by show inV _ _ = false; cases b <;> decide +kernel), (by show inV _ _ = false; cases b <;> decide +kernel), fun _ _ _ e => nomatch e⟩
  | qu b x f =>
    rw [FmAt] at h
    obtain ⟨a, u, rfl, h1, h2⟩ := h
    exact ⟨a, _, _, rfl, h1, (by show inV _ _ = true; cases b <;> decide +kernel), (by show inV _ _ = false; cases b <;> decide +kernel), fun _ _ _ e => by cases e; rfl⟩

abbrev nWithin : List Str := ["formula", "names"]
theorem scWithin : FnScope nWithin nWithin (defScope sWithin) := ⟨rfl, rfl, rfl, by decide +kernel, rfl, by decide +kernel, by decide +kernel⟩
theorem ok_within {Ok : Fm → List Str → Prop} (hO : ∀ g xs, Ok g xs → xs.length ≤ 5) {f : Addr} {fd : FuncData} (F : Fun K "names_within" "names_within" sWithin f fd) : FnOk P w K mg base CX0 1 f fd nWithin (Hd.spBelow K (NmAt K) wst Ok) := by
  refine F.ok scWithin (fun vs H Q E h => ?_) (fun cdv A outer s H vs Q E hr h => ?_)
  · obtain ⟨v, u, g, b, rfl, _⟩ := h
    rfl
  obtain ⟨v, u, fm, xs, rfl, hF, ⟨xa, rfl, hx⟩, hk, q⟩ := h
  have hl := hO _ _ hk
  refine ⟨_, (pss_one (ps_ret (pe_ifExp (pt_cmpR op_in_seq (pe_ix ix_tup (pv 0) pe_int (fun _ _ => rfl)) (pe_tup (pa_cons pe_str (pa_cons pe_str pa_nil))) rfl) (pe_tup (StX.pa_star (pv 1) (pa_cons (pe_ix ix_tup (pv 0) pe_int (fun _ _ => rfl)) pa_nil))) (pv 1)))), ?_⟩
  obtain ⟨b, z, r, rfl, hb, hz, _, hy⟩ := fm_head hF
  refine ⟨_, rfl, b, _, _, _, rfl, rfl, hb, at_of (j := 0) rfl rfl, l2, fun S nS => ⟨S, _, rfl, .inr (SqT.of upd_same), rfl, rfl, _, rfl, ?_⟩⟩
  rw [hz]
  have sS := same_new nS (.tup [.str "some", .str "all"])
  have hx' := Tk.of_same (K := K) sS _ _ hx
  cases fm with
  | qu bq y k =>
    have ry := hy bq y k rfl
    refine ⟨_, rfl, xa, _, rfl, .inl hx', _, rfl, b, _, 1, _, rfl, rfl, Tk.of_same sS _ _ hb, at_of (j := 1) rfl (by simpa using ry), ?_, fun p np => ?_⟩
    · have : (xs.map V.str ++ [V.str y]).length ≤ sizeLine := by
        rw [List.length_append, List.length_map, List.length_singleton]
        exact Nat.le_of_lt (lineOk (by omega))
      exact this
    · exact q _ _ (sS.trans (same_new np _)) ⟨p, rfl, by rw [wst, List.map_append]; exact SqT.of upd_same⟩
  | rel n zs => exact ⟨_, rfl, q _ _ sS ⟨xa, rfl, hx'⟩⟩
  | same x y => exact ⟨_, rfl, q _ _ sS ⟨xa, rfl, hx'⟩⟩
  | neg k => exact ⟨_, rfl, q _ _ sS ⟨xa, rfl, hx'⟩⟩
  | con bq ks => exact ⟨_, rfl, q _ _ sS ⟨xa, rfl, hx'⟩⟩
def nv (n : Nat) : V := .int (n : Int)
def spBoth (K : PySem.W.Frag) : Sp := fun vs H Q _ => ∃ (a : Addr) (ts : List Nat) (n : Nat), vs = [.ref a, nv n] ∧ SqL K H a (ts.map nv) ∧ Q (nv (ts.foldl (fun x y => x &&& y) n)) H
def spEither (K : PySem.W.Frag) : Sp := fun vs H Q _ => ∃ (a : Addr) (ts : List Nat), vs = [.ref a] ∧ SqL K H a (ts.map nv) ∧ Q (nv (ts.foldl (fun x y => x ||| y) 0)) H
abbrev nBoth : List Str := ["rows", "full", "row"]
theorem scBoth : FnScope nBoth ["rows", "full"] (defScope sBoth) := ⟨rfl, rfl, rfl, by decide +kernel, rfl, by decide +kernel, by decide +kernel⟩
theorem ok_both {f : Addr} {fd : FuncData} (F : Fun K "both" "both" sBoth f fd) : FnOk P w K mg base CX0 1 f fd ["rows", "full"] (spBoth K) := by
  refine F.ok scBoth (fun vs H Q E h => ?_) (fun cdv A outer s H vs Q E hr h => ?_)
  · obtain ⟨a, ts, n, rfl, _⟩ := h
    rfl
  obtain ⟨a, ts, n, rfl, hL, q⟩ := h
  have nd := scBoth.nd
  refine ⟨_, (pss_cons (ps_for PassesOwn.never rfl (pi_list (pv 0)) (pg_name (i := 2) nd rfl (.inl rfl)) (pss_one (ps_set (i := 1) nd rfl (.inl rfl) (pe_op op_and (pv 1) (pv 2)))))
    (pss_one (ps_ret (pv 1)))), ?_⟩
  refine ⟨_, rfl, a, rfl, ⟨_, hL⟩, ?_⟩
  refine for_list (xs := ts.map nv) (fun i σ H' => ∃ (ro : Option V), σ = [some (.ref a), some (nv ((ts.take i).foldl (fun x y => x &&& y) n)), ro] ∧ H' = H) ⟨none, rfl, rfl⟩ (fun i σ H' _ ⟨_, _, e⟩ => by rw [e]; exact hL) ?_ ?_
  · rintro i u σ H1 hi ⟨ro, rfl, rfl⟩
    rw [List.getElem?_map] at hi
    obtain ⟨t, ht, rfl⟩ := Option.map_eq_some_iff.mp hi
    refine ⟨_, rfl, _, rfl, _, _, rfl, rfl, some (nv t), ?_, rfl⟩
    show [some (V.ref a), some (V.int (Builtin.bitAnd _ _)), some (nv t)] = _
    rw [and_nat, List.take_succ, ht, List.foldl_append]
    rfl
  · rintro σ H1 ⟨ro, rfl, rfl⟩
    rw [List.length_map, List.take_length]
    exact ⟨_, rfl, q⟩
abbrev nEither : List Str := ["rows", "found", "row"]
theorem scEither : FnScope nEither ["rows"] (defScope sEither) := ⟨rfl, rfl, rfl, by decide +kernel, rfl, by decide +kernel, by decide +kernel⟩
theorem ok_either {f : Addr} {fd : FuncData} (F : Fun K "either" "either" sEither f fd) : FnOk P w K mg base CX0 1 f fd ["rows"] (spEither K) := by
  refine F.ok scEither (fun vs H Q E h => ?_) (fun cdv A outer s H vs Q E hr h => ?_)
  · obtain ⟨a, ts, rfl, _⟩ := h
    rfl
  obtain ⟨a, ts, rfl, hL, q⟩ := h
  have nd := scEither.nd
  refine ⟨_, (pss_cons (ps_set (i := 1) nd rfl (.inl rfl) pe_int)
    (pss_cons (ps_for PassesOwn.never rfl (pi_list (pv 0)) (pg_name (i := 2) nd rfl (.inl rfl)) (pss_one (ps_set (i := 1) nd rfl (.inl rfl) (pe_op op_or (pv 1) (pv 2)))))
    (pss_one (ps_ret (pv 1))))), ?_⟩
  refine ⟨_, rfl, a, rfl, ⟨_, hL⟩, ?_⟩
  refine for_list (xs := ts.map nv) (fun i σ H' => ∃ (ro : Option V), σ = [some (.ref a), some (nv ((ts.take i).foldl (fun x y => x ||| y) 0)), ro] ∧ H' = H) ⟨none, rfl, rfl⟩ (fun i σ H' _ ⟨_, _, e⟩ => by rw [e]; exact hL) ?_ ?_
  · rintro i u σ H1 hi ⟨ro, rfl, rfl⟩
    rw [List.getElem?_map] at hi
    obtain ⟨t, ht, rfl⟩ := Option.map_eq_some_iff.mp hi
    refine ⟨_, rfl, _, rfl, _, _, rfl, rfl, some (nv t), ?_, rfl⟩
    show [some (V.ref a), some (V.int (Builtin.bitOr _ _)), some (nv t)] = _
    rw [or_nat, List.take_succ, ht, List.foldl_append]
    rfl
  · rintro σ H1 ⟨ro, rfl, rfl⟩
    rw [List.length_map, List.take_length]
    exact ⟨_, rfl, q⟩
end
end K3

set_option Elab.async false
set_option linter.all false
set_option maxRecDepth 100000
set_option maxHeartbeats 4000000
/-! the tables of formulas: how they stand, size, full -/
namespace K3
open PySem L2 Fo Ndk
open C8 (Cal pe_c pss_cut Met pe_mt pe_mt0)
abbrev mInit : Stmt := inClass (top 7) 0
abbrev mSize : Stmt := inClass (top 7) 1
abbrev mFull : Stmt := inClass (top 7) 2
abbrev mBit : Stmt := inClass (top 7) 3
abbrev mHaving : Stmt := inClass (top 7) 4
abbrev mRep : Stmt := inClass (top 7) 5
abbrev mPart : Stmt := inClass (top 7) 6
abbrev mPlain : Stmt := inClass (top 7) 7
abbrev mLook : Stmt := inClass (top 7) 8
abbrev mMade : Stmt := inClass (top 7) 9
abbrev mOf : Stmt := inClass (top 7) 10
structure Tb where
  t : Addr
  dx : Addr
  dR : Addr
  dF : Addr
  lS : Addr
  dN : Addr
  m : Nat
  rs : List (Str × List (List Int))
  e : Str → Int
  kv : List (L2.Key × V)
def tfl (b : Tb) : List (Str × V) := putF "known" (.ref b.dN) (putF "sizes" (.ref b.lS) (putF "fixed" (.ref b.dF) (putF "rows" (.ref b.dR) (putF "many" (.int (b.m : Int)) []))))
theorem tf_known (b : Tb) : (tfl b).lookup ("known" : Str) = some (.ref b.dN) := by
  unfold tfl
  rw [lookup_putF, if_pos rfl]
theorem tf_sizes (b : Tb) : (tfl b).lookup ("sizes" : Str) = some (.ref b.lS) := by
  unfold tfl
  rw [lookup_putF, if_neg (by decide +kernel), lookup_putF, if_pos rfl]
theorem tf_fixed (b : Tb) : (tfl b).lookup ("fixed" : Str) = some (.ref b.dF) := by
  unfold tfl
  rw [lookup_putF, if_neg (by decide +kernel), lookup_putF, if_neg (by decide +kernel), lookup_putF, if_pos rfl]
theorem tf_rows (b : Tb) : (tfl b).lookup ("rows" : Str) = some (.ref b.dR) := by
  unfold tfl
  rw [lookup_putF, if_neg (by decide +kernel), lookup_putF, if_neg (by decide +kernel), lookup_putF, if_neg (by decide +kernel), lookup_putF, if_pos rfl]
theorem tf_many (b : Tb) : (tfl b).lookup ("many" : Str) = some (.int (b.m : Int)) := by
  unfold tfl
  rw [lookup_putF, if_neg (by decide +kernel), lookup_putF, if_neg (by decide +kernel), lookup_putF, if_neg (by decide +kernel), lookup_putF, if_neg (by decide +kernel), lookup_putF, if_pos rfl]
theorem tf_no (b : Tb) {m : Str} (h1 : ¬ m = "known") (h2 : ¬ m = "sizes") (h3 : ¬ m = "fixed") (h4 : ¬ m = "rows") (h5 : ¬ m = "many") : (tfl b).lookup m = none := by
  unfold tfl
  rw [lookup_putF, if_neg h1, lookup_putF, if_neg h2, lookup_putF, if_neg h3, lookup_putF, if_neg h4, lookup_putF, if_neg h5]
  rfl
structure TbT (K : PySem.W.Frag) (C : Addr) : Prop where
  cl : Cls K C
  nm : NoAttr K C "many"
  nr : NoAttr K C "rows"
  nf : NoAttr K C "fixed"
  ns : NoAttr K C "sizes"
  nk : NoAttr K C "known"
def pws (m n : Nat) : List V := (List.range (n + 1)).map fun i => nv (m ^ i)
theorem pws_len (m n : Nat) : (pws m n).length = n + 1 := by unfold pws; rw [List.length_map, List.length_range]
theorem pws_at (m n k : Nat) (h : k ≤ n) : (pws m n)[k]? = some (nv (m ^ k)) := by
  unfold pws
  rw [List.getElem?_map, List.getElem?_range (by omega)]
  rfl
theorem pws_snoc (m n : Nat) : pws m (n + 1) = pws m n ++ [nv (m ^ (n + 1))] := by
  unfold pws
  rw [List.range_succ, List.map_append]
  rfl
def nks (xs : List Str) : Nk := .tp (xs.map fun x => .ak (.inr x))
def fk : Fm → Nk
  | .rel n xs => .tp [.ak (.inr "rel"), .ak (.inr n), nks xs]
  | .same x y => .tp [.ak (.inr "same"), .ak (.inr x), .ak (.inr y)]
  | _ => .tp []
def kk (f : Fm) (xs : List Str) : Nk := .tp [fk f, nks xs]
theorem nks_inj {xs ys : List Str} (h : nks xs = nks ys) : xs = ys := by
  injection h with h
  have : ∀ {xs ys : List Str}, xs.map (fun x => Nk.ak (.inr x)) = ys.map (fun x => Nk.ak (.inr x)) → xs = ys := by
    intro xs
    induction xs with
    | nil => intro ys h; cases ys with | nil => rfl | cons y ys => cases h
    | cons x xs ih =>
      intro ys h
      cases ys with
      | nil => cases h
      | cons y ys =>
        rw [List.map_cons, List.map_cons] at h
        injection h with h1 h2
        injection h1 with h1
        injection h1 with h1
        rw [h1, ih h2]
  exact this h
theorem rel_ne_same : ¬ ("rel" : Str) = "same" := by decide +kernel
theorem ak_inj {x y : Str} (h : Nk.ak (.inr x) = Nk.ak (.inr y)) : x = y := by
  injection h with h
  injection h
theorem fk_inj {f g : Fm} (hf : isA f = true) (hg : isA g = true) (h : fk f = fk g) : f = g := by
  cases f with
  | rel n xs =>
    cases g with
    | rel k ys =>
      rw [fk, fk] at h
      injection h with h
      injection h with h1 h
      injection h with h2 h
      injection h with h3 h
      rw [ak_inj h2, nks_inj h3]
    | same x y =>
      rw [fk, fk] at h
      injection h with h
      injection h with h1 h
      exact absurd (ak_inj h1) rel_ne_same
    | neg _ => cases hg
    | con _ _ => cases hg
    | qu _ _ _ => cases hg
  | same x y =>
    cases g with
    | rel k ys =>
      rw [fk, fk] at h
      injection h with h
      injection h with h1 h
      exact absurd (ak_inj h1).symm rel_ne_same
    | same x' y' =>
      rw [fk, fk] at h
      injection h with h
      injection h with h1 h
      injection h with h2 h
      injection h with h3 h
      rw [ak_inj h2, ak_inj h3]
    | neg _ => cases hg
    | con _ _ => cases hg
    | qu _ _ _ => cases hg
  | neg _ => cases hf
  | con _ _ => cases hf
  | qu _ _ _ => cases hf
theorem kk_inj {f g : Fm} {xs ys : List Str} (hf : isA f = true) (hg : isA g = true) (h : kk f xs = kk g ys) : f = g ∧ xs = ys := by
  rw [kk, kk] at h
  injection h with h
  injection h with h1 h
  injection h with h2 h
  exact ⟨fk_inj hf hg h1, nks_inj h2⟩
abbrev Kn := List (Nk × Addr × V)
def KnOk (b : Tb) (ents : List (Nk × Addr × V)) : Prop := ∀ x ∈ ents, ∃ (f : Fm) (xs : List Str), isA f = true ∧ x.1 = kk f xs ∧ x.2.2 = nv (Bts.tab b.m b.rs b.e f xs)
def RowsAt (K : PySem.W.Frag) (H : Hp) (b : Tb) : Prop := ∃ kvr, H b.dR = some (.dK kvr) ∧ ∀ n ts, Fm.rows b.rs n = some ts → ts.length ≤ 16 ∧ ∃ (ta : Addr) (us : List V), valV kvr (.inr n) = some (.ref ta) ∧ SqT K H ta us ∧ All2 (RowAt K H) us ts
def TbAt (K : PySem.W.Frag) (P : Program) (w : World) (C : Addr) (b : Tb) (c : Kn) (H : Hp) : Prop := H b.t = some (.ins C b.dx (tfl b)) ∧ RowsAt K H b ∧ H b.dF = some (.dK b.kv) ∧ (∃ n, n ≤ 5 ∧ H b.lS = some (.lst (pws b.m n))) ∧ NdAt K P w H b.dN c ∧ KnOk b c
/-- all but the sizes and what is known is as it was -/
def Fr (b : Tb) (H H' : Hp) : Prop := ∀ a o, a ≠ b.lS → a ≠ b.dN → H a = some o → H' a = some o
theorem Fr.refl (b : Tb) (H : Hp) : Fr b H H := fun _ _ _ _ h => h
theorem Fr.trans {b : Tb} {H H1 H2 : Hp} (x : Fr b H H1) (y : Fr b H1 H2) : Fr b H H2 := fun a o n1 n2 h => y a o n1 n2 (x a o n1 n2 h)
theorem Fr.of_same {b : Tb} {H H' : Hp} (x : Same H H') : Fr b H H' := fun a o _ _ h => x a o h
section
variable {P : Program} {w : World} {K : PySem.W.Frag} {mg : Str → Option Value} {base : Heap} {C : Addr} {b : Tb} {c : Kn} {H H' : Hp}
theorem TbAt.sz (h : TbAt K P w C b c H) : ∃ xs, H b.lS = some (.lst xs) := let ⟨_, _, _, ⟨n, _, h⟩, _⟩ := h; ⟨_, h⟩
theorem TbAt.kn (h : TbAt K P w C b c H) : ∃ xs, H b.dN = some (NdO P w b.dN xs) := let ⟨_, _, _, _, h, _⟩ := h; ⟨c, h.1⟩
theorem TbAt.tk (h : TbAt K P w C b c H) (f : Fr b H H') : Tk K H H' := fun a xs q => by
  obtain ⟨ls, h1⟩ := h.sz
  obtain ⟨es, h2⟩ := h.kn
  rcases q with (q | ⟨o, q⟩) | q
  · exact .inl (.inl (f a _ (fun z => by rw [z, h1] at q; cases q) (fun z => by rw [z, h2] at q; cases q) q))
  · exact .inl (.inr ⟨o, f a _ (fun z => by rw [z, h1] at q; cases q) (fun z => by rw [z, h2] at q; cases q) q⟩)
  · exact .inr q
theorem RowsAt.fr (h : RowsAt K H b) (k : Tk K H H') (e : ∀ kvr, H b.dR = some (.dK kvr) → H' b.dR = some (.dK kvr)) : RowsAt K H' b :=
  let ⟨kvr, h1, h2⟩ := h
  ⟨kvr, e _ h1, fun n ts h => let ⟨l, ta, us, a1, a2, a3⟩ := h2 n ts h; ⟨l, ta, us, a1, k _ _ a2, a3.imp fun _ _ z => z.tk k⟩⟩
/-- what is left to tell behind a change of the sizes and of what is known -/
theorem TbAt.put {c' : Kn} (h : TbAt K P w C b c H) (f : Fr b H H') (hs : ∃ n, n ≤ 5 ∧ H' b.lS = some (.lst (pws b.m n))) (hn : NdAt K P w H' b.dN c' ∧ KnOk b c') : TbAt K P w C b c' H' := by
  have k := h.tk f
  obtain ⟨ls, z1⟩ := h.sz
  obtain ⟨es, z2⟩ := h.kn
  obtain ⟨h1, h2, h3, _, _⟩ := h
  refine ⟨f _ _ (fun z => by rw [z, z1] at h1; cases h1) (fun z => by rw [z, z2] at h1; cases h1) h1, h2.fr k fun kvr q => f _ _ (fun z => by rw [z, z1] at q; cases q) (fun z => by rw [z, z2] at q; cases q) q, f _ _ (fun z => by rw [z, z1] at h3; cases h3) (fun z => by rw [z, z2] at h3; cases h3) h3, hs, hn⟩
theorem NdAt.tk {a : Addr} {ents : List (Nk × Addr × V)} (h : NdAt K P w H a ents) (k : Tk K H H') (e : H' a = some (NdO P w a ents)) : NdAt K P w H' a ents := ⟨e, fun x hx => ⟨(h.2 x hx).1, NkAt.tk k (h.2 x hx).2⟩⟩
theorem TbAt.same (h : TbAt K P w C b c H) (s : Same H H') : TbAt K P w C b c H' := by
  have k := Tk.of_same (K := K) s
  obtain ⟨_, _, _, ⟨n, hn, h4⟩, h5, h7⟩ := id h
  exact h.put (.of_same s) ⟨n, hn, s _ _ h4⟩ ⟨NdAt.tk h5 k (s _ _ h5.1), h7⟩
theorem TbAt.sn (h : TbAt K P w C b c H) : b.lS ≠ b.dN := by
  obtain ⟨ls, z1⟩ := h.sz
  obtain ⟨es, z2⟩ := h.kn
  intro z; rw [z, z2] at z1; cases z1
/-- what is new is none of what stands -/
theorem TbAt.ne (h : TbAt K P w C b c H) {a : Addr} (n : H a = none) : a ≠ b.t ∧ a ≠ b.lS ∧ a ≠ b.dN := by
  obtain ⟨ls, z1⟩ := h.sz
  obtain ⟨es, z2⟩ := h.kn
  have h1 := h.1
  exact ⟨fun z => (by rw [z, h1] at n; cases n), fun z => (by rw [z, z1] at n; cases n), fun z => (by rw [z, z2] at n; cases n)⟩
theorem Fr.free (h : TbAt K P w C b c H) (f : Fr b H H') {a : Addr} (n : H' a = none) (h1 : a ≠ b.lS) (h2 : a ≠ b.dN) : H a = none := by
  cases e : H a with
  | none => rfl
  | some o => rw [f a o h1 h2 e] at n; cases n
theorem at_m1 {α : Type} {xs : List α} {x : α} {n : Nat} (hl : xs.length = n + 1) (h : xs[n]? = some x) : atI xs (-1) = some x := by
  have e : xs = xs.take n ++ [x] := by
    obtain ⟨li, e2⟩ := List.getElem?_eq_some_iff.mp h
    rw [← e2, List.take_append_getElem li, List.take_of_length_le (by omega)]
  rw [e]
  exact atI_last _ _
def spSize (K : PySem.W.Frag) (P : Program) (w : World) (C : Addr) : Sp := fun vs H Q _ => ∃ (b : Tb) (c : Kn) (x : Addr) (us : List V), vs = [.ref b.t, .ref x] ∧ TbAt K P w C b c H ∧ SqT K H x us ∧ us.length ≤ 5 ∧ b.m ≤ 4 ∧ ∀ H', Fr b H H' → TbAt K P w C b c H' → Q (nv (b.m ^ us.length)) H'
abbrev nSize : List Str := ["self", "names"]
theorem scSize : FnScope nSize nSize (defScope mSize) := ⟨rfl, rfl, rfl, by decide +kernel, rfl, by decide +kernel, by decide +kernel⟩
theorem ok_size {f : Addr} {fd : FuncData} (B : Bt mg) (T : TbT K C) (F : Fun K "size" "Tables.size" mSize f fd) : FnOk P w K mg base CX0 1 f fd nSize (spSize K P w C) := by
  refine F.ok scSize (fun vs H Q E h => ?_) (fun cdv A outer s H vs Q E hr h => ?_)
  · obtain ⟨b, c, x, us, rfl, _⟩ := h
    rfl
  obtain ⟨b, c, x, us, rfl, hT, hx, hl, hm, q⟩ := h
  have nd := scSize.nd
  refine ⟨_, (pss_cons (ps_while PassesOwn.never (pt_cmpR op_le (pe_callB call_len_seq rfl B.len PySem.boot_len (pa_cons (pe_fld (pv 0) rfl) pa_nil)) (pe_callB call_len_seq rfl B.len PySem.boot_len (pa_cons (pv 1) pa_nil)) (nomark _)) (pss_one (ps_expr (pe_bm PySem.F.plainAttrs_list PySem.F.slot_list_append PySem.F.type_list_append mt_append (pe_fld (pv 0) rfl) (pa_cons (pe_op op_mul (pe_ix ix_list (pe_fld (pv 0) rfl) (pe_un un_neg pe_int) (fun _ _ => rfl)) (pe_fld (pv 0) rfl)) pa_nil)))))
    (pss_one (ps_ret (pe_ix ix_list (pe_fld (pv 0) rfl) (pe_callB call_len_seq rfl B.len PySem.boot_len (pa_cons (pv 1) pa_nil)) (fun _ _ => rfl))))), ?_⟩
  obtain ⟨_, _, _, ⟨n0, hn0, hs0⟩, hk0, hk2⟩ := id hT
  refine ⟨fun z σ H' => ∃ n, σ = [some (.ref b.t), some (.ref x)] ∧ Fr b H H' ∧ n ≤ 5 ∧ H' b.lS = some (.lst (pws b.m n)) ∧ H' b.dN = H b.dN ∧ z = 5 - n, ⟨5 - n0, n0, rfl, Fr.refl _ _, hn0, hs0, rfl, rfl⟩, ?_⟩
  rintro z σ H1 ⟨n, rfl, f1, hn, hS, hN, rfl⟩
  have T1 : TbAt K P w C b c H1 := hT.put f1 ⟨n, hn, hS⟩ ⟨NdAt.tk hk0 (hT.tk f1) (hN.trans hk0.1), hk2⟩
  have hx1 := hT.tk f1 _ _ hx
  have ht1 := T1.1
  refine ⟨_, rfl, b.t, C, b.dx, _, _, rfl, ht1, T.cl, T.ns, tf_sizes b, b.lS, _, rfl, .inl (SqL.of hS), _, rfl, x, _, rfl, .inr hx1, _, _, rfl, rfl, ?_⟩
  refine ⟨_, rfl, ite2 (fun c' => ⟨_, fun σ' H' h => h, ?_⟩) (fun c' => ?_)⟩
  · have c1 := of_decide_eq_true c'
    rw [pws_len] at c1
    have lt : n < 5 := by omega
    have pw : b.m ^ n ≤ 4 ^ 4 := Nat.le_trans (Nat.pow_le_pow_left hm n) (Nat.pow_le_pow_right (by decide) (by omega))
    refine ⟨_, rfl, b.t, C, b.dx, _, _, rfl, ht1, T.cl, T.ns, tf_sizes b, .inl ⟨rfl, _, SqL.of hS⟩, _, rfl, b.t, C, b.dx, _, _, rfl, ht1, T.cl, T.ns, tf_sizes b, _, rfl, ?_⟩
    refine ⟨b.lS, _, _, _, rfl, rfl, SqL.of hS, at_m1 (pws_len _ _) (pws_at _ _ _ (Nat.le_refl _)), ?_⟩
    refine ⟨_, rfl, b.t, C, b.dx, _, _, rfl, ht1, T.cl, T.nm, tf_many b, _, _, rfl, rfl, .inr ⟨by omega, by omega⟩, b.lS, _, _, rfl, rfl, hS, lineOk (by rw [pws_len]; omega), ?_⟩
    have e : pws b.m n ++ [V.int (((b.m ^ n : Nat) : Int) * (b.m : Int))] = pws b.m (n + 1) := by
      rw [pws_snoc, nv, Nat.pow_succ, Int.natCast_mul]
    have e' : (pws b.m n ++ [V.int (((b.m ^ n : Nat) : Int) * (b.m : Int))]) = pws b.m (n + 1) := e
    refine ⟨5 - (n + 1), by omega, n + 1, rfl, fun a o n1 n2 h => by rw [upd_ne n1]; exact f1 a o n1 n2 h, by omega, ?_, ?_, rfl⟩
    · rw [upd_same]; exact congrArg (fun z => some (HO.lst z)) e
    · rw [upd_ne T1.sn.symm]; exact hN
  · have c1 := of_decide_eq_false (Bool.eq_false_iff.mpr c')
    rw [pws_len] at c1
    refine ⟨_, rfl, b.t, C, b.dx, _, _, rfl, ht1, T.cl, T.ns, tf_sizes b, _, rfl, x, _, rfl, .inr hx1, b.lS, _, _, _, rfl, rfl, SqL.of hS, at_of (j := us.length) rfl (pws_at b.m n _ (by omega)), q H1 f1 T1⟩
end
end K3

set_option Elab.async false
set_option linter.all false
set_option maxRecDepth 100000
set_option maxHeartbeats 4000000
/-! full, repeated, parted -/
namespace K3
open PySem L2 Fo Ndk
open C8 (Cal pe_c pss_cut Met pe_mt pe_mt0)
section
variable {P : Program} {w : World} {K : PySem.W.Frag} {mg : Str → Option Value} {base : Heap} {C : Addr}
def fu (n : Nat) : Nat := Bts.bits n fun _ => true
theorem fu_eq (n : Nat) : 2 ^ n - 1 = fu n := Bts.bits_full n
theorem pow_le5 {m k : Nat} (hm : m ≤ 4) (hk : k ≤ 5) : m ^ k ≤ 1024 := Nat.le_trans (Nat.pow_le_pow_left hm k) (Nat.le_trans (Nat.pow_le_pow_right (by decide) hk) (by decide))
theorem two_cast (n : Nat) : (2 : Int) ^ n = ((2 ^ n : Nat) : Int) := by
  rw [Int.natCast_pow]
  rfl
def spFull (K : PySem.W.Frag) (P : Program) (w : World) (C : Addr) : Sp := fun vs H Q _ => ∃ (b : Tb) (c : Kn) (x : Addr) (us : List V), vs = [.ref b.t, .ref x] ∧ TbAt K P w C b c H ∧ SqT K H x us ∧ us.length ≤ 5 ∧ b.m ≤ 4 ∧ ∀ H', Fr b H H' → TbAt K P w C b c H' → Q (nv (fu (b.m ^ us.length))) H'
abbrev nFull : List Str := ["self", "names"]
theorem scFull : FnScope nFull nFull (defScope mFull) := ⟨rfl, rfl, rfl, by decide +kernel, rfl, by decide +kernel, by decide +kernel⟩
theorem tb_no (b : Tb) {m : Str} (h : (¬ m = ("known" : Str) ∧ ¬ m = ("sizes" : Str) ∧ ¬ m = ("fixed" : Str) ∧ ¬ m = ("rows" : Str) ∧ ¬ m = ("many" : Str))) : (tfl b).lookup m = none := tf_no b h.1 h.2.1 h.2.2.1 h.2.2.2.1 h.2.2.2.2
theorem no_size (b : Tb) : (tfl b).lookup ("size" : Str) = none := tb_no b (by decide +kernel)
theorem no_full (b : Tb) : (tfl b).lookup ("full" : Str) = none := tb_no b (by decide +kernel)
theorem no_bit (b : Tb) : (tfl b).lookup ("bit" : Str) = none := tb_no b (by decide +kernel)
theorem no_having (b : Tb) : (tfl b).lookup ("having" : Str) = none := tb_no b (by decide +kernel)
theorem no_repeated (b : Tb) : (tfl b).lookup ("repeated" : Str) = none := tb_no b (by decide +kernel)
theorem no_parted (b : Tb) : (tfl b).lookup ("parted" : Str) = none := tb_no b (by decide +kernel)
theorem no_plain (b : Tb) : (tfl b).lookup ("plain" : Str) = none := tb_no b (by decide +kernel)
theorem no_looked (b : Tb) : (tfl b).lookup ("looked_up" : Str) = none := tb_no b (by decide +kernel)
theorem no_made (b : Tb) : (tfl b).lookup ("made" : Str) = none := tb_no b (by decide +kernel)
theorem no_of (b : Tb) : (tfl b).lookup ("of" : Str) = none := tb_no b (by decide +kernel)
theorem ok_full {f : Addr} {fd : FuncData} (T : TbT K C) (Msize : Met P w K mg base 1 C "size" (spSize K P w C) []) (F : Fun K "full" "Tables.full" mFull f fd) : FnOk P w K mg base CX0 2 f fd nFull (spFull K P w C) := by
  refine F.ok scFull (fun vs H Q E h => ?_) (fun cdv A outer s H vs Q E hr h => ?_)
  · obtain ⟨b, c, x, us, rfl, _⟩ := h
    rfl
  obtain ⟨b, c, x, us, rfl, hT, hx, hl, hm, q⟩ := h
  have nd := scFull.nd
  refine ⟨_, (pss_one (ps_ret (pe_op op_sub (pe_op op_shlN pe_int (pe_mt Msize hr (by decide) (pv 0) (pa_cons (pv 1) pa_nil))) pe_int))), ?_⟩
  refine ⟨_, rfl, b.t, b.dx, _, rfl, hT.1, no_size b, _, rfl, b, c, x, us, rfl, hT, hx, hl, hm, fun H1 f1 T1 => ?_⟩
  have pl := pow_le5 hm hl
  refine ⟨_, _, rfl, rfl, shl_ok (n := 1) (by decide) (by omega), _, _, rfl, rfl, ?_⟩
  have e : (1 : Int) * 2 ^ (b.m ^ us.length) - 1 = ((fu (b.m ^ us.length) : Nat) : Int) := by
    have hp : 0 < 2 ^ (b.m ^ us.length) := Nat.two_pow_pos _
    rw [← fu_eq, two_cast]
    omega
  show Q (.int ((1 : Int) * 2 ^ (b.m ^ us.length) - 1)) H1
  rw [e]
  exact q H1 f1 T1
/-! repeated -/
def spRep (K : PySem.W.Frag) (P : Program) (w : World) (C : Addr) : Sp := fun vs H Q _ => ∃ (b : Tb) (c : Kn) (x : Addr) (us : List V) (φ : Nat → Bool), vs = [.ref b.t, nv (Bts.bits (b.m ^ us.length) φ), .ref x] ∧ TbAt K P w C b c H ∧ SqT K H x us ∧ us.length ≤ 4 ∧ b.m ≤ 4 ∧
  ∀ H', Fr b H H' → TbAt K P w C b c H' → Q (nv (Bts.bits (b.m ^ (us.length + 1)) fun i => φ (i % b.m ^ us.length))) H'
abbrev nRep : List Str := ["self", "table", "names", "size", "element"]
abbrev pRep : List Str := ["self", "table", "names"]
theorem scRep : FnScope nRep pRep (defScope mRep) := ⟨rfl, rfl, rfl, by decide +kernel, rfl, by decide +kernel, by decide +kernel⟩
theorem sum_cast (ns : List Nat) : (ns.map fun n : Nat => (n : Int)).sum = ((ns.sum : Nat) : Int) := by
  induction ns with
  | nil => rfl
  | cons n ns ih => rw [List.map_cons, List.sum_cons, List.sum_cons, ih]; omega
theorem ok_rep {f : Addr} {fd : FuncData} (B : Bt mg) (T : TbT K C) (Msize : Met P w K mg base 1 C "size" (spSize K P w C) []) (F : Fun K "repeated" "Tables.repeated" mRep f fd) : FnOk P w K mg base CX0 2 f fd pRep (spRep K P w C) := by
  refine F.ok scRep (fun vs H Q E h => ?_) (fun cdv A outer s H vs Q E hr h => ?_)
  · obtain ⟨b, c, x, us, φ, rfl, _⟩ := h
    rfl
  obtain ⟨b, c, x, us, φ, rfl, hT, hx, hl, hm, q⟩ := h
  have nd := scRep.nd
  refine ⟨_, (pss_cons (ps_set (i := 3) nd rfl (.inr rfl) (pe_mt Msize hr (by decide) (pv 0) (pa_cons (pv 2) pa_nil)))
    (pss_one (ps_ret (pe_callB (cr_sum rfl) rfl B.sum (by decide +kernel) (pa_cons (pe_lc (own := [("element", 4)]) (g := gName 4) (tt := tYes) rfl nd (pi_range1 rfl B.range (pa_cons (pe_fld (pv 0) rfl) pa_nil)) (blkOk_by (own := [("element", 4)]) (N := nRep) (sc := defScope mRep) (by decide +kernel)) (fun _ _ _ _ _ => (pg_name (i := 4) nd rfl (Or.inl rfl))) (fun _ _ _ _ _ => pts_nil) (fun _ _ _ _ _ => (pe_op op_shlN (pv 1) (pe_op op_mul (pv 4) (pv 3))))) pa_nil))))), ?_⟩
  refine ⟨_, rfl, b.t, b.dx, _, rfl, hT.1, no_size b, _, rfl, b, c, x, us, rfl, hT, hx, by omega, hm, fun H1 f1 T1 => ?_⟩
  have pl := pow_le5 hm (show us.length ≤ 5 by omega)
  have ht1 := T1.1
  generalize hn : b.m ^ us.length = n at *
  have bl := Bts.bits_lt φ n
  generalize hZ : Bts.bits n φ = Z at *
  refine ⟨_, rfl, b.t, C, b.dx, _, _, rfl, ht1, T.cl, T.nm, tf_many b, ?_⟩
  refine ⟨(b.m : Int), rfl, by omega, by omega, fun D nD => lc_range (lo := 0) (n := b.m) (fun i H' => H' D = some (.lst ((List.range i).map fun e => nv (Z * 2 ^ (e * n)))) ∧ Same H1 H') ⟨upd_same, same_new nD _⟩ ?_ ?_⟩
  · rintro i H2 hi ⟨hD, s2⟩
    have il : i * n ≤ 4 * 1024 := Nat.mul_le_mul (by omega) pl
    have ek : (0 + (i : Int)) * (n : Int) = ((i * n : Nat) : Int) := by rw [Int.zero_add, Int.natCast_mul]
    refine ⟨rfl, _, rfl, _, rfl, _, rfl, _, _, rfl, rfl, .inl ⟨by omega, by omega⟩, _, i * n, rfl, congrArg V.int ek, shl_ok (n := n) (by rw [Int.natAbs_natCast]; exact bl) (by omega), ?_⟩
    have ev : V.int ((Z : Int) * 2 ^ (i * n)) = nv (Z * 2 ^ (i * n)) := by
      rw [nv, Int.natCast_mul, two_cast]
    rw [ev]
    refine ⟨_, hD, lineOk (by rw [List.length_map, List.length_range]; omega), ?_, same_to s2 nD⟩
    rw [upd_same, List.range_succ, List.map_append]
    rfl
  · rintro H2 ⟨hD, s2⟩
    refine ⟨D, ((List.range b.m).map fun e => Z * 2 ^ (e * n)).map fun n : Nat => (n : Int), rfl, ?_, ?_⟩
    · rw [List.map_map, List.map_map]
      exact SqL.of hD
    · rw [sum_cast, ← hZ, Bts.bits_sum]
      have := q H2 (f1.trans (.of_same s2)) (T1.same s2)
      rw [show b.m ^ (us.length + 1) = b.m * n by rw [Nat.pow_succ, hn, Nat.mul_comm]] at this
      exact this
/-! parted -/
def spPart (K : PySem.W.Frag) (P : Program) (w : World) (C : Addr) : Sp := fun vs H Q _ => ∃ (b : Tb) (c : Kn) (x : Addr) (us : List V) (φ : Nat → Bool), vs = [.ref b.t, nv (Bts.bits (b.m ^ (us.length + 1)) φ), .ref x] ∧ TbAt K P w C b c H ∧ SqT K H x us ∧ us.length ≤ 4 ∧ b.m ≤ 4 ∧
  ∀ D H', Fr b H H' → TbAt K P w C b c H' → H D = none → H' D = some (.lst ((List.range b.m).map fun e => nv (Bts.bits (b.m ^ us.length) fun i => φ (e * b.m ^ us.length + i)))) → Q (.ref D) H'
abbrev nPart : List Str := ["self", "table", "names", "size", "full", "element"]
abbrev pPart : List Str := ["self", "table", "names"]
theorem scPart : FnScope nPart pPart (defScope mPart) := ⟨rfl, rfl, rfl, by decide +kernel, rfl, by decide +kernel, by decide +kernel⟩
theorem ok_part {f : Addr} {fd : FuncData} (B : Bt mg) (T : TbT K C) (Msize : Met P w K mg base 1 C "size" (spSize K P w C) []) (Mfull : Met P w K mg base 2 C "full" (spFull K P w C) []) (F : Fun K "parted" "Tables.parted" mPart f fd) : FnOk P w K mg base CX0 3 f fd pPart (spPart K P w C) := by
  refine F.ok scPart (fun vs H Q E h => ?_) (fun cdv A outer s H vs Q E hr h => ?_)
  · obtain ⟨b, c, x, us, φ, rfl, _⟩ := h
    rfl
  obtain ⟨b, c, x, us, φ, rfl, hT, hx, hl, hm, q⟩ := h
  have nd := scPart.nd
  refine ⟨_, (pss_cons (ps_set (i := 3) nd rfl (.inr rfl) (pe_mt Msize hr (by decide) (pv 0) (pa_cons (pv 2) pa_nil)))
    (pss_cons (ps_set (i := 4) nd rfl (.inr rfl) (pe_mt Mfull hr (by decide) (pv 0) (pa_cons (pv 2) pa_nil)))
    (pss_one (ps_ret (pe_lc (own := [("element", 5)]) (g := gName 5) (tt := tYes) rfl nd (pi_range1 rfl B.range (pa_cons (pe_fld (pv 0) rfl) pa_nil)) (blkOk_by (own := [("element", 5)]) (N := nPart) (sc := defScope mPart) (by decide +kernel)) (fun _ _ _ _ _ => (pg_name (i := 5) nd rfl (Or.inl rfl))) (fun _ _ _ _ _ => pts_nil) (fun _ _ _ _ _ => (pe_op op_and (pe_op op_shrN (pv 1) (pe_op op_mul (pv 5) (pv 3))) (pv 4)))))))), ?_⟩
  refine ⟨_, rfl, b.t, b.dx, _, rfl, hT.1, no_size b, _, rfl, b, c, x, us, rfl, hT, hx, by omega, hm, fun H1 f1 T1 => ?_⟩
  have hx1 := hT.tk f1 _ _ hx
  refine ⟨_, rfl, b.t, b.dx, _, rfl, T1.1, no_full b, _, rfl, b, c, x, us, rfl, T1, hx1, by omega, hm, fun H2 f2 T2 => ?_⟩
  have f12 := f1.trans f2
  have pl := pow_le5 hm (show us.length ≤ 5 by omega)
  have ht2 := T2.1
  have e1 : b.m ^ (us.length + 1) = b.m * b.m ^ us.length := by rw [Nat.pow_succ, Nat.mul_comm]
  rw [e1]
  generalize hn : b.m ^ us.length = n at *
  generalize hZ : Bts.bits (b.m * n) φ = Z at *
  refine ⟨_, rfl, b.t, C, b.dx, _, _, rfl, ht2, T.cl, T.nm, tf_many b, ?_⟩
  refine ⟨(b.m : Int), rfl, by omega, by omega, fun D nD => lc_range (lo := 0) (n := b.m) (fun i H' => H' D = some (.lst ((List.range i).map fun e => nv (Bts.bits n fun i => φ (e * n + i)))) ∧ Same H2 H') ⟨upd_same, same_new nD _⟩ ?_ ?_⟩
  · rintro i H3 hi ⟨hD, s3⟩
    have ek : (0 + (i : Int)) * (n : Int) = ((i * n : Nat) : Int) := by rw [Int.zero_add, Int.natCast_mul]
    refine ⟨rfl, _, rfl, _, rfl, _, rfl, _, _, rfl, rfl, .inl ⟨by omega, by omega⟩, _, i * n, rfl, congrArg V.int ek, _, rfl, _, _, rfl, rfl, ?_⟩
    have hb : i * n + n ≤ b.m * n := by
      have := Nat.mul_le_mul_right n (show i + 1 ≤ b.m by omega)
      rw [Nat.succ_mul] at this
      exact this
    have ev : V.int (Builtin.bitAnd ((Z : Int) / 2 ^ (i * n)) ((fu n : Nat) : Int)) = nv (Bts.bits n fun j => φ (i * n + j)) := by
      rw [two_cast, ← Int.natCast_ediv, and_nat, ← Nat.shiftRight_eq_div_pow, ← hZ, nv]
      exact congrArg (fun z : Nat => V.int (z : Int)) (Bts.bits_part n (i * n) φ (b.m * n) hb)
    show ∃ acc, H3 D = some (.lst acc) ∧ acc.length < sizeLine ∧ upd H3 D (.lst (acc ++ [V.int (Builtin.bitAnd ((Z : Int) / 2 ^ (i * n)) ((fu n : Nat) : Int))])) D = _ ∧ _
    rw [ev]
    refine ⟨_, hD, lineOk (by rw [List.length_map, List.length_range]; omega), ?_, same_to s3 nD⟩
    rw [upd_same, List.range_succ, List.map_append]
    rfl
  · rintro H3 ⟨hD, s3⟩
    have nD' := T2.ne nD
    exact q D H3 (f12.trans (.of_same s3)) (T2.same s3) (Fr.free hT f12 nD nD'.2.1 nD'.2.2) hD
end
end K3

set_option Elab.async false
set_option linter.all false
set_option maxRecDepth 100000
set_option maxHeartbeats 4000000
/-! having -/
namespace K3
open PySem L2 Fo Ndk
open C8 (Cal pe_c pss_cut Met pe_mt pe_mt0)
section
variable {P : Program} {w : World} {K : PySem.W.Frag} {mg : Str → Option Value} {base : Heap} {C : Addr}
theorem fld_k {X : Cx} {K : PySem.W.Frag} (h : X.K = K) {e : Expr} {f : Str} {ta : TE} {pos : Pos} (he : PE X e ta) (hb : attributeBase e f X.env (eval e X.env) = eval e X.env) : PE X (.Attribute e f pos) (tFld K ta f) := by
  subst h
  exact pe_fld he hb
theorem slT_k {X : Cx} {K : PySem.W.Frag} (h : X.K = K) : SlR X (rSlT K) := by
  subst h
  exact sl_tup
theorem ixL_k {X : Cx} {K : PySem.W.Frag} (h : X.K = K) : IxR X (rIxL K) := by
  subst h
  exact ix_list
theorem Fr.to {b : Tb} {H H' : Hp} {a : Addr} {o : HO} (f : Fr b H H') (n : H a = none) : Fr b H (upd H' a o) := fun x q n1 n2 h => by
  rw [upd_ne (fun z => by rw [z, n] at h; cases h)]
  exact f x q n1 n2 h
theorem TbAt.new {b : Tb} {c : Kn} {H : Hp} {a : Addr} {o : HO} (h : TbAt K P w C b c H) (n : H a = none) : TbAt K P w C b c (upd H a o) := h.same (same_new n o)
/-- a list that was new is written -/
theorem TbAt.wr {b : Tb} {c c' : Kn} {H H' : Hp} {a : Addr} {o : HO} {xs : List V} (h : TbAt K P w C b c H) (h' : TbAt K P w C b c' H') (n : H a = none) (e : H' a = some (.lst xs)) : TbAt K P w C b c' (upd H' a o) := by
  obtain ⟨_, n1, n2⟩ := h.ne n
  have f : Fr b H' (upd H' a o) → True := fun _ => trivial
  obtain ⟨ls, z1⟩ := h'.sz
  obtain ⟨es, z2⟩ := h'.kn
  have k := tk_lst (K := K) e o
  obtain ⟨a1, ⟨kvr, a2, a2'⟩, a3, ⟨m, hm, a4⟩, a5, a7⟩ := h'
  have ne : ∀ {x : Addr} {q : HO}, H' x = some q → (∀ ys, q ≠ .lst ys) → x ≠ a := fun hx hq z => by rw [z, e] at hx; injection hx with hx; exact hq _ hx.symm
  refine ⟨by rw [upd_ne (ne a1 (by intro _ z; cases z))]; exact a1, ⟨kvr, by rw [upd_ne (ne a2 (by intro _ z; cases z))]; exact a2, fun n ts h => let ⟨l, ta, us, b1, b2, b3⟩ := a2' n ts h; ⟨l, ta, us, b1, k _ _ b2, b3.imp fun _ _ z => z.tk k⟩⟩, by rw [upd_ne (ne a3 (by intro _ z; cases z))]; exact a3, ⟨m, hm, by rw [upd_ne n1.symm]; exact a4⟩, NdAt.tk a5 k (by rw [upd_ne n2.symm]; exact a5.1), a7⟩
theorem last_split {y : Str} : ∀ {xs : List Str}, y ∈ xs → ∃ pre zs, xs = pre ++ y :: zs ∧ y ∉ zs
  | [], h => by cases h
  | x :: xs, h => by
    by_cases z : y ∈ xs
    · obtain ⟨p, q, e, n⟩ := last_split z
      exact ⟨x :: p, q, by rw [e]; rfl, n⟩
    · rcases List.mem_cons.mp h with e | h
      · exact ⟨[], xs, by rw [e]; rfl, z⟩
      · exact absurd h z
theorem cut_pre {xs : List V} {k : Nat} (h : k ≤ xs.length) : cutV xs none (some (k : Int)) = xs.take k := by
  have e2 : HT.sIx xs.length xs.length (some (k : Int)) = k := by
    show (if (k : Int) < 0 then ((k : Int) + (xs.length : Int)).toNat else min (k : Int).toNat xs.length) = _
    rw [if_neg (by omega)]
    omega
  have e1 : HT.sIx xs.length 0 none = 0 := rfl
  unfold cutV
  rw [e1, e2]
  simp
theorem not_whole {xs : List V} {k : Nat} (h : k < xs.length) : ¬ (HT.sIx xs.length 0 none = 0 ∧ HT.sIx xs.length xs.length (some (k : Int)) = xs.length) := by
  have e2 : HT.sIx xs.length xs.length (some (k : Int)) = k := by
    show (if (k : Int) < 0 then ((k : Int) + (xs.length : Int)).toNat else min (k : Int).toNat xs.length) = _
    rw [if_neg (by omega)]
    omega
  rw [e2]
  omega
theorem row_at {m n i k : Nat} (hi : i < m) (hk : k < m * n) : (decide (i * n ≤ k) && decide (k < i * n + n) && true) = decide (k / n % m = i) := by
  have hn : 0 < n := by
    rcases Nat.eq_zero_or_pos n with z | z
    · subst z; omega
    · exact z
  have hlt : k / n < m := (Nat.div_lt_iff_lt_mul hn).mpr hk
  rw [Nat.mod_eq_of_lt hlt, Bool.and_true]
  by_cases e : k / n = i
  · subst e
    have h1 := Nat.div_mul_le_self k n
    have h2 := Nat.lt_div_mul_add hn (a := k)
    rw [decide_eq_true h1, decide_eq_true h2, decide_eq_true rfl]
    rfl
  · rw [decide_eq_false e]
    rcases Nat.lt_or_gt_of_ne e with l | l
    · have : k < i * n := (Nat.div_lt_iff_lt_mul hn).mp l
      rw [decide_eq_false (by omega)]
      rfl
    · have : (i + 1) * n ≤ k := (Nat.le_div_iff_mul_le hn).mp l
      rw [Nat.succ_mul] at this
      rw [decide_eq_false (show ¬ k < i * n + n by omega), Bool.and_false]
theorem mod_at (i p k m : Nat) : i % m ^ (p + 1 + k) / m ^ p % m = i / m ^ p % m := by
  have e : m ^ (p + 1 + k) = m ^ p * (m * m ^ k) := by rw [Nat.pow_add, Nat.pow_succ, Nat.mul_assoc]
  rw [e, Nat.mod_mul_right_div_self, Nat.mod_mul_right_mod]
/-- the tables of a name's having each element -/
def hv (b : Tb) (xs : List Str) (y : Str) : List V := (List.range b.m).map fun (j : Nat) => nv (Bts.bits (b.m ^ xs.length) fun i => decide (Bts.envI b.m b.e xs i y = (j : Int)))
def spHaving (K : PySem.W.Frag) (P : Program) (w : World) (C : Addr) : Sp := fun vs H Q _ => ∃ (b : Tb) (c : Kn) (x : Addr) (xs : List Str) (y : Str), vs = [.ref b.t, .str y, .ref x] ∧ TbAt K P w C b c H ∧ SqT K H x (xs.map V.str) ∧ xs.length ≤ 5 ∧ b.m ≤ 4 ∧
  (y ∉ xs → valV b.kv (.inr y) = some (.int (b.e y))) ∧ ∀ D H', Fr b H H' → TbAt K P w C b c H' → H D = none → H' D = some (.lst (hv b xs y)) → Q (.ref D) H'
abbrev nHaving : List Str := ["self", "name", "names", "full", "at", "found", "place", "element", "table"]
abbrev pHaving : List Str := ["self", "name", "names"]
theorem scHaving : FnScope nHaving pHaving (defScope mHaving) := ⟨rfl, rfl, rfl, by decide +kernel, rfl, by decide +kernel, by decide +kernel⟩
theorem ok_having {f : Addr} {fd : FuncData} (B : Bt mg) (T : TbT K C) (Msize : Met P w K mg base 1 C "size" (spSize K P w C) []) (Mfull : Met P w K mg base 2 C "full" (spFull K P w C) []) (Mrepeated : Met P w K mg base 2 C "repeated" (spRep K P w C) []) (F : Fun K "having" "Tables.having" mHaving f fd) : FnOk P w K mg base CX0 3 f fd pHaving (spHaving K P w C) := by
  refine F.ok scHaving (fun vs H Q E h => ?_) (fun cdv A outer s H vs Q E hr h => ?_)
  · obtain ⟨b, c, x, xs, y, rfl, _⟩ := h
    rfl
  obtain ⟨b, c, x, xs, y, rfl, hT, hx, hl, hm, hy, q⟩ := h
  have nd := scHaving.nd
  refine ⟨_, (pss_cons (ps_if (pt_cmpR op_notIn_seq (pv 1) (pv 2) rfl) (pss_cons (ps_set (i := 3) nd rfl (.inr rfl) (pe_mt Mfull hr (by decide) (pv 0) (pa_cons (pv 2) pa_nil)))
    (pss_one (ps_ret (pe_lc (own := [("element", 7)]) (g := gName 7) (tt := tYes) rfl nd (pi_range1 rfl B.range (pa_cons (pe_fld (pv 0) rfl) pa_nil)) (blkOk_by (own := [("element", 7)]) (N := nHaving) (sc := defScope mHaving) (by decide +kernel)) (fun _ _ _ _ _ => (pg_name (i := 7) nd rfl (Or.inl rfl))) (fun _ _ _ _ _ => pts_nil) (fun _ _ _ _ _ => (pe_ifExp (pt_cmpR op_eq (pv 7) (pe_dget (hu_of hr) (fld_k (K := K) rfl (pv 0) rfl) (pv 1) (fun _ _ => rfl)) (nomark _)) (pv 3) pe_int)))))) pss_nil)
    (pss_cons (ps_set (i := 4) nd rfl (.inr rfl) (pe_op op_sub (pe_op op_sub (pe_callB call_len_seq rfl B.len PySem.boot_len (pa_cons (pv 2) pa_nil)) pe_int) (Tix.pe_tix (pa_cons (pv 1) pa_nil) (Tix.pe_revX (pv 2)))))
    (pss_cons (ps_set (i := 3) nd rfl (.inr rfl) (pe_mt Mfull hr (by decide) (pv 0) (pa_cons (pe_slice sl_tup (pv 2) po_none (po_some (pv 4))) pa_nil)))
    (pss_cons (ps_setLc (i := 5) (own := [("element", 7)]) (g := gName 7) (tt := tYes) rfl nd rfl rfl (sw_true rfl rfl rfl (by decide +kernel)) (pi_range1 rfl B.range (pa_cons (pe_fld (pv 0) rfl) pa_nil)) (blkOk_by (own := [("element", 7)]) (N := nHaving) (sc := defScope mHaving) (by decide +kernel)) (fun _ _ _ _ _ => (pg_name (i := 7) nd rfl (Or.inl rfl))) (fun _ _ _ _ _ => pts_nil) (fun _ _ _ _ _ => (pe_op op_shlN (pv 3) (pe_op op_mul (pv 7) (pe_mt Msize hr (by decide) (pv 0) (pa_cons (pe_slice (slT_k (K := K) rfl) (pv 2) po_none (po_some (pv 4))) pa_nil))))))
    (pss_cons (ps_for PassesOwn.never rfl (pi_range2 rfl B.range (pa_cons (pe_op op_add (pv 4) pe_int) (pa_cons (pe_callB call_len_seq rfl B.len PySem.boot_len (pa_cons (pv 2) pa_nil)) pa_nil))) (pg_name (i := 6) nd rfl (.inr rfl)) (pss_one (ps_setLc (i := 5) (own := [("table", 8)]) (g := gName 8) (tt := tYes) rfl nd rfl rfl (sw_true rfl rfl rfl (by decide +kernel)) (pi_list (pv 5)) (blkOk_by (own := [("table", 8)]) (N := nHaving) (sc := defScope mHaving) (by decide +kernel)) (fun _ _ _ _ _ => (pg_name (i := 8) nd rfl (Or.inl rfl))) (fun _ _ _ _ _ => pts_nil) (fun _ _ _ _ _ => (pe_mt Mrepeated hr (by decide) (pv 0) (pa_cons (pv 8) (pa_cons (pe_slice (slT_k (K := K) rfl) (pv 2) po_none (po_some (pv 6))) pa_nil)))))))
    (pss_one (ps_ret (pv 5)))))))), ?_⟩
  have hl' : (xs.map V.str).length ≤ 5 := by rw [List.length_map]; exact hl
  refine ⟨_, rfl, _, rfl, x, _, rfl, .inr hx, rfl, Fo.flat_strs _, (!decide (y ∈ xs)), (by show V.bl (!inV (.str y) (xs.map V.str)) = _; rw [inV_strs]), ite2 (fun cc => ?_) (fun cc => ?_)⟩
  · have hny : y ∉ xs := by simpa using cc
    refine ⟨_, rfl, b.t, b.dx, _, rfl, hT.1, no_full b, _, rfl, b, c, x, _, rfl, hT, hx, hl', hm, fun H1 f1 T1 => ?_⟩
    rw [List.length_map]
    refine ⟨_, rfl, b.t, C, b.dx, _, _, rfl, T1.1, T.cl, T.nm, tf_many b, (b.m : Int), rfl, by omega, by omega, fun D nD => lc_range (lo := 0) (n := b.m) (fun i H' => H' D = some (.lst ((List.range i).map fun (j : Nat) => nv (Bts.bits (b.m ^ xs.length) fun i => decide (Bts.envI b.m b.e xs i y = (j : Int))))) ∧ Same H1 H') ⟨upd_same, same_new nD _⟩ ?_ ?_⟩
    · rintro i H2 hi ⟨hD, s2⟩
      have T2 := T1.same s2
      obtain ⟨_, _, hdF, _⟩ := id T2
      have put : ∀ v : Nat, v = Bts.bits (b.m ^ xs.length) (fun k => decide (Bts.envI b.m b.e xs k y = (i : Int))) → ∃ acc, H2 D = some (.lst acc) ∧ acc.length < sizeLine ∧ upd H2 D (.lst (acc ++ [nv v])) D = some (.lst ((List.range (i + 1)).map fun (j : Nat) => nv (Bts.bits (b.m ^ xs.length) fun i => decide (Bts.envI b.m b.e xs i y = (j : Int))))) ∧ Same H1 (upd H2 D (.lst (acc ++ [nv v]))) := fun v hv => by
        refine ⟨_, hD, lineOk (by rw [List.length_map, List.length_range]; omega), ?_, same_to s2 nD⟩
        rw [upd_same, List.range_succ, List.map_append, hv]
        rfl
      refine ⟨rfl, _, rfl, _, rfl, b.t, C, b.dx, _, _, rfl, T2.1, T.cl, T.nf, tf_fixed b, _, rfl, b.dF, .int (b.e y), rfl, .inl ⟨b.kv, .inr y, .inl hdF, rfl, (hy hny).symm⟩, rfl, _, rfl, ite2 (fun c2 => ?_) (fun c2 => ?_)⟩
      · have c3 : (0 : Int) + (i : Int) = b.e y := by have := of_decide_eq_true c2; injection this
        refine ⟨_, rfl, put _ ?_⟩
        refine Bts.bits_congr fun k _ => ?_
        rw [Bts.env_out _ _ _ _ _ hny, ← c3, Int.zero_add, decide_eq_true rfl]
      · have c3 : ¬ (0 : Int) + (i : Int) = b.e y := fun z => c2 (decide_eq_true (by rw [z]))
        refine put 0 ?_
        rw [Bts.bits_none (b.m ^ xs.length)]
        refine Bts.bits_congr fun k _ => ?_
        rw [Bts.env_out _ _ _ _ _ hny, decide_eq_false (fun z => c3 (by rw [z, Int.zero_add]))]
    · rintro H2 ⟨hD, s2⟩
      have nD' := T1.ne nD
      exact q D H2 (f1.trans (.of_same s2)) (T1.same s2) (Fr.free hT f1 nD nD'.2.1 nD'.2.2) hD
  · have hyx : y ∈ xs := by simpa using cc
    obtain ⟨pre, zs, rfl, hz⟩ := last_split hyx
    have len : (pre ++ y :: zs).length = pre.length + (zs.length + 1) := by rw [List.length_append, List.length_cons]
    have hlen : (List.map V.str (pre ++ y :: zs)).length = pre.length + (zs.length + 1) := by rw [List.length_map, len]
    refine ⟨_, rfl, x, _, rfl, .inr hx, _, _, rfl, rfl, _, rfl, x, _, rfl, hx, fun R nR => ?_⟩
    rw [hlen]
    have er : ((pre ++ y :: zs).map V.str).reverse = (zs.reverse ++ y :: pre.reverse).map V.str := by
      rw [← List.map_reverse, List.reverse_append, List.reverse_cons, List.append_assoc]
      rfl
    rw [er]
    have hx1 := tk_new (K := K) nR (Tix.TO R ((zs.reverse ++ y :: pre.reverse).map V.str)) _ _ hx
    have T1 := hT.new (o := Tix.TO R ((zs.reverse ++ y :: pre.reverse).map V.str)) nR
    have f1 : Fr b H (upd H R (Tix.TO R ((zs.reverse ++ y :: pre.reverse).map V.str))) := .of_same (same_new nR _)
    have hR : upd H R (Tix.TO R ((zs.reverse ++ y :: pre.reverse).map V.str)) R = some (Tix.TO R ((zs.reverse ++ y :: pre.reverse).map V.str)) := upd_same
    generalize upd H R (Tix.TO R ((zs.reverse ++ y :: pre.reverse).map V.str)) = H1 at hx1 T1 f1 hR ⊢
    refine ⟨R, zs.reverse ++ y :: pre.reverse, rfl, hR, _, rfl, y, zs.length, rfl, hR, by rw [List.getElem?_append_right (by simp)]; simp, ?_, _, _, rfl, rfl, ?_⟩
    · intro k hk e
      rw [List.getElem?_append_left (by simpa using hk)] at e
      exact hz (List.mem_reverse.mp (List.mem_of_getElem? e))
    have eat : (((pre.length + (zs.length + 1) : Nat) : Int) - 1 - ((zs.length : Nat) : Int)) = ((pre.length : Nat) : Int) := by omega
    show tSeq _ _ _ [some (.ref b.t), some (.str y), some (.ref x), none, some (.int (((pre.length + (zs.length + 1) : Nat) : Int) - 1 - ((zs.length : Nat) : Int))), none, none, none, none] H1
    rw [eat]
    have lt5 : pre.length < (List.map V.str (pre ++ y :: zs)).length := by rw [hlen]; omega
    have tk1 : (List.map V.str (pre ++ y :: zs)).take pre.length = pre.map V.str := by rw [List.map_append, List.take_left' (by rw [List.length_map])]
    refine ⟨_, rfl, b.t, b.dx, _, rfl, T1.1, no_full b, _, rfl, _, rfl, _, rfl, x, _, rfl, hx1, not_whole lt5, fun p1 np1 => ?_⟩
    rw [cut_pre (Nat.le_of_lt lt5), tk1]
    have lp5 : pre.length ≤ 4 := by rw [len] at hl; omega
    refine ⟨b, c, p1, _, rfl, T1.new np1, SqT.of upd_same, by rw [List.length_map]; omega, hm, fun H2 f2 T2 => ?_⟩
    have f02 : Fr b H H2 := f1.trans ((Fr.of_same (same_new np1 _)).trans f2)
    have hx2 := hT.tk f02 _ _ hx
    rw [List.length_map]
    have pl := pow_le5 hm (show pre.length ≤ 5 by omega)
    have e1 : b.m ^ (pre.length + 1) = b.m * b.m ^ pre.length := by rw [Nat.pow_succ, Nat.mul_comm]
    generalize hn : b.m ^ pre.length = n at *
    refine ⟨_, rfl, b.t, C, b.dx, _, _, rfl, T2.1, T.cl, T.nm, tf_many b, (b.m : Int), rfl, by omega, by omega, fun D nD => lc_range (lo := 0) (n := b.m) (fun i H' => H' D = some (.lst ((List.range i).map fun (j : Nat) => nv (Bts.bits (b.m ^ (pre.length + 1)) fun k => decide (k / n % b.m = j)))) ∧ Fr b H2 H' ∧ TbAt K P w C b c H') ⟨upd_same, .of_same (same_new nD _), T2.new nD⟩ ?_ ?_⟩
    · rintro i H3 hi ⟨hD, f3, T3⟩
      have hx3 := T2.tk f3 _ _ hx2
      refine ⟨rfl, _, rfl, _, rfl, _, rfl, b.t, b.dx, _, rfl, T3.1, no_size b, _, rfl, _, rfl, _, rfl, x, _, rfl, hx3, not_whole lt5, fun p2 np2 => ?_⟩
      rw [cut_pre (Nat.le_of_lt lt5), tk1]
      refine ⟨b, c, p2, _, rfl, T3.new np2, SqT.of upd_same, by rw [List.length_map]; omega, hm, fun H4 f4 T4 => ?_⟩
      rw [List.length_map, hn]
      have nD' := T2.ne nD
      have hD4 := f4 D _ nD'.2.1 nD'.2.2 (same_new np2 (.tup (pre.map V.str)) _ _ hD)
      have f24 : Fr b H2 H4 := f3.trans ((Fr.of_same (same_new np2 _)).trans f4)
      have il : i * n ≤ 4 * 1024 := Nat.mul_le_mul (by omega) pl
      have ek : (0 + (i : Int)) * (n : Int) = ((i * n : Nat) : Int) := by rw [Int.zero_add, Int.natCast_mul]
      refine ⟨_, _, rfl, rfl, .inl ⟨by omega, by omega⟩, _, i * n, rfl, congrArg V.int ek, shl_ok (n := n) (by rw [Int.natAbs_natCast]; exact Bts.bits_lt _ _) (by omega), ?_⟩
      have hb : i * n + n ≤ b.m * n := by
        have := Nat.mul_le_mul_right n (show i + 1 ≤ b.m by omega)
        rw [Nat.succ_mul] at this
        exact this
      have ev : V.int (((fu n : Nat) : Int) * 2 ^ (i * n)) = nv (Bts.bits (b.m ^ (pre.length + 1)) fun k => decide (k / n % b.m = i)) := by
        have := Bts.bits_shl n (i * n) (fun _ => true) (b.m * n) hb
        rw [two_cast, ← Int.natCast_mul, fu, this, e1, nv]
        exact congrArg (fun z : Nat => V.int (z : Int)) (Bts.bits_congr fun k hk => row_at hi hk)
      refine ⟨_, hD4, lineOk (by rw [List.length_map, List.length_range]; omega), ?_, f24.to nD, T2.wr T4 nD hD4⟩
      rw [upd_same, List.range_succ, List.map_append]
      exact congrArg (fun z => some (HO.lst (_ ++ [z]))) ev
    rintro H3 ⟨hD, f3, T3⟩
    have nD' := T2.ne nD
    have f03 := f02.trans f3
    have hx3 := hT.tk f03 _ _ hx
    have nD0 := Fr.free hT f02 nD nD'.2.1 nD'.2.2
    refine ⟨_, rfl, _, _, rfl, rfl, _, rfl, x, _, rfl, .inr hx3, _, _, rfl, ⟨by omega, by omega, by omega, by omega⟩, ?_⟩
    have en : ((((pre.length + (zs.length + 1) : Nat) : Int)) - (((pre.length : Nat) : Int) + 1)).toNat = zs.length := by omega
    refine for_range (fun k σ H' => ∃ (D2 : Addr) (pl : Option V), σ = [some (.ref b.t), some (.str y), some (.ref x), some (nv (fu n)), some (.int ((pre.length : Nat) : Int)), some (.ref D2), pl, none, none] ∧ Fr b H H' ∧ TbAt K P w C b c H' ∧ H D2 = none ∧
      H' D2 = some (.lst ((List.range b.m).map fun (j : Nat) => nv (Bts.bits (b.m ^ (pre.length + 1 + k)) fun i => decide (i / n % b.m = j))))) ⟨D, none, rfl, f03, T3, nD0, hD⟩ ?_ ?_
    · rintro k σ H4 hk ⟨D2, pl2, rfl, f4, T4, nD2, hD2⟩
      rw [hlen] at hk
      have hk' : k < zs.length := by omega
      have hx4 := hT.tk f4 _ _ hx
      refine ⟨_, rfl, D2, rfl, ⟨_, SqL.of hD2⟩, fun D3 nD3 => ?_⟩
      have nD3' := T4.ne nD3
      have ne32 : D2 ≠ D3 := ne_of_none hD2 nD3
      refine lc_list (xs := (List.range b.m).map fun (j : Nat) => nv (Bts.bits (b.m ^ (pre.length + 1 + k)) fun i => decide (i / n % b.m = j))) (fun i H' => H' D3 = some (.lst ((List.range i).map fun (j : Nat) => nv (Bts.bits (b.m ^ (pre.length + 1 + (k + 1))) fun i => decide (i / n % b.m = j)))) ∧ Fr b H4 H' ∧ TbAt K P w C b c H') ⟨upd_same, .of_same (same_new nD3 _), T4.new nD3⟩ (fun i H' _ h => ?_) ?_ ?_
      · have nD2' := hT.ne nD2
        exact SqL.of (h.2.1 D2 _ nD2'.2.1 nD2'.2.2 hD2)
      · rintro i v H5 hi ⟨hD5, f5, T5⟩
        rw [List.getElem?_map] at hi
        obtain ⟨j, hj, rfl⟩ := Option.map_eq_some_iff.mp hi
        have hij : i < b.m := by have := (List.getElem?_eq_some_iff.mp hj).1; simpa using this
        obtain rfl : i = j := by rw [List.getElem?_range hij] at hj; injection hj
        have hx5 := T4.tk f5 _ _ hx4
        have epl : (((pre.length : Nat) : Int) + 1 + (k : Int)) = ((pre.length + 1 + k : Nat) : Int) := by omega
        have lt6 : pre.length + 1 + k < (List.map V.str (pre ++ y :: zs)).length := by rw [hlen]; omega
        have l6 : ((List.map V.str (pre ++ y :: zs)).take (pre.length + 1 + k)).length = pre.length + 1 + k := by rw [List.length_take]; omega
        refine ⟨rfl, _, rfl, b.t, b.dx, _, rfl, T5.1, no_repeated b, _, rfl, _, rfl, _, rfl, _, rfl, x, _, rfl, hx5, ?_, fun p3 np3 => ?_⟩
        · rw [epl]; exact not_whole lt6
        rw [epl, cut_pre (Nat.le_of_lt lt6)]
        refine ⟨b, c, p3, (List.map V.str (pre ++ y :: zs)).take (pre.length + 1 + k), fun z => decide (z / n % b.m = i), by rw [l6]; rfl, T5.new np3, SqT.of upd_same, by rw [l6]; rw [hlen] at hl'; omega, hm, fun H6 f6 T6 => ?_⟩
        have hD6 := f6 D3 _ nD3'.2.1 nD3'.2.2 (same_new np3 (.tup _) _ _ hD5)
        rw [l6]
        refine ⟨_, hD6, lineOk (by rw [List.length_map, List.length_range]; omega), ?_, (f5.trans ((Fr.of_same (same_new np3 _)).trans f6)).to nD3, T4.wr T6 nD3 hD6⟩
        rw [upd_same, List.range_succ, List.map_append]
        have ev : Bts.bits (b.m ^ (pre.length + 1 + k + 1)) (fun z => decide (z % b.m ^ (pre.length + 1 + k) / n % b.m = i)) = Bts.bits (b.m ^ (pre.length + 1 + (k + 1))) fun z => decide (z / n % b.m = i) := by
          refine Bts.bits_congr fun z _ => ?_
          rw [← hn, mod_at]
        rw [ev]
        rfl
      · rintro H5 ⟨hD5, f5, T5⟩
        rw [List.length_map, List.length_range] at hD5
        exact ⟨D3, _, rfl, f4.trans f5, T5, Fr.free hT f4 nD3 nD3'.2.1 nD3'.2.2, hD5⟩
    · rintro σ H4 ⟨D2, pl2, rfl, f4, T4, nD2, hD2⟩
      refine ⟨_, rfl, q D2 H4 f4 T4 nD2 ?_⟩
      rw [hD2, hlen, en]
      refine congrArg (fun z => some (HO.lst z)) ?_
      refine List.map_congr_left fun j _ => ?_
      have el : b.m ^ (pre.length + 1 + zs.length) = b.m ^ (pre ++ y :: zs).length := by rw [len, Nat.add_assoc, Nat.add_comm 1]
      rw [el]
      refine congrArg nv (Bts.bits_congr fun i _ => ?_)
      rw [Bts.env_at b.m pre zs y b.e i hz, hn]
      by_cases z : i / n % b.m = j
      · rw [decide_eq_true z, decide_eq_true (by rw [z])]
      · rw [decide_eq_false z, decide_eq_false (fun q => z (by exact_mod_cast q))]
end
end K3

set_option Elab.async false
set_option linter.all false
set_option maxRecDepth 100000
set_option maxHeartbeats 4000000
/-! looked_up -/
namespace K3
open PySem L2 Fo Ndk
open C8 (Cal pe_c pss_cut Met pe_mt pe_mt0)
section
variable {P : Program} {w : World} {K : PySem.W.Frag} {mg : Str → Option Value} {base : Heap} {C : Addr}
/-- a formula fits: its names are known, its relations too, with as many names as places -/
def FitR (b : Tb) (n : Str) (k : Nat) : Prop := ∃ ts, Fm.rows b.rs n = some ts ∧ ∀ t ∈ ts, t.length = k ∧ ∀ x ∈ t, 0 ≤ x ∧ x < (b.m : Int)
def FitN (b : Tb) (xs : List Str) (x : Str) : Prop := x ∉ xs → valV b.kv (.inr x) = some (.int (b.e x)) ∧ 0 ≤ b.e x ∧ b.e x < (b.m : Int)
def FitA (b : Tb) (f : Fm) (xs : List Str) : Prop := match f with
  | .rel n zs => FitR b n zs.length ∧ zs.length ≤ 2 ∧ ∀ z ∈ zs, FitN b xs z
  | .same x y => FitN b xs x ∧ FitN b xs y
  | _ => True
def spLook (K : PySem.W.Frag) (P : Program) (w : World) (C : Addr) : Sp := fun vs H Q _ => ∃ (b : Tb) (c : Kn) (v : V) (f : Fm) (x : Addr) (xs : List Str), vs = [.ref b.t, v, .ref x] ∧ TbAt K P w C b c H ∧ FmAt K H v f ∧ isA f = true ∧ SqT K H x (xs.map V.str) ∧ xs.length ≤ 5 ∧ b.m ≤ 4 ∧ FitA b f xs ∧ 0 < b.m ∧
  ∀ H', Fr b H H' → TbAt K P w C b c H' → Q (nv (Bts.tab b.m b.rs b.e f xs)) H'
abbrev nLook : List Str := ["self", "formula", "names", "used", "rows", "choices", "found", "row", "element", "name", "tables"]
abbrev pLook : List Str := ["self", "formula", "names"]
theorem scLook : FnScope nLook pLook (defScope mLook) := ⟨rfl, rfl, rfl, by decide +kernel, rfl, by decide +kernel, by decide +kernel⟩
/-- the tables of the names' having each element -/
def CsAt (b : Tb) (xs : List Str) (H0 H : Hp) (cs : List V) (zs : List Str) : Prop := All2 (fun u z => ∃ D, u = .ref D ∧ H0 D = none ∧ H D = some (.lst (hv b xs z))) cs zs
theorem CsAt.fr {b : Tb} {c : Kn} {xs : List Str} {H0 H H' : Hp} {cs : List V} {zs : List Str} (hT : TbAt K P w C b c H0) (h : CsAt b xs H0 H cs zs) (f : Fr b H H') : CsAt b xs H0 H' cs zs :=
  h.imp fun u z ⟨D, e, n, l⟩ => ⟨D, e, n, f D _ (hT.ne n).2.1 (hT.ne n).2.2 l⟩
theorem lk_choices {b : Tb} {c : Kn} {H0 H1 : Hp} {U x : Addr} {xs zs : List Str} {rv : V} {a1 : Option V} {Qk : VK} (hT : TbAt K P w C b c H0) (T1 : TbAt K P w C b c H1) (f1 : Fr b H0 H1) (hU : SqT K H1 U (zs.map V.str)) (hx : SqT K H1 x (xs.map V.str)) (hl : xs.length ≤ 5) (hm : b.m ≤ 4) (h2 : zs.length ≤ 2) (hz : ∀ z ∈ zs, FitN b xs z)
    (q : ∀ CH cs H', Fr b H1 H' → TbAt K P w C b c H' → H0 CH = none → H' CH = some (.lst cs) → CsAt b xs H0 H' cs zs → Qk (.ref CH) H') :
    tLc (iTup K (tVar 3)) (gName 9) tYes (tMeth C ("having" : Str) (spHaving K P w C) [] C8.E0 (tVar 0) (tCons (tVar 9) (tCons (tVar 2) tNil))) [9] [some (.ref b.t), a1, some (.ref x), some (.ref U), some rv, none, none, none, none, none, none] H1 Qk := by
  refine ⟨_, rfl, U, rfl, ⟨_, hU⟩, fun D nD => ?_⟩
  have nD' := T1.ne nD
  have nD0 := Fr.free hT f1 nD nD'.2.1 nD'.2.2
  refine lc_tup (xs := zs.map V.str) (fun i H' => ∃ cs, H' D = some (.lst cs) ∧ cs.length = i ∧ All2 (fun u z => ∃ B, u = .ref B ∧ H0 B = none ∧ B ≠ D ∧ H' B = some (.lst (hv b xs z))) cs (zs.take i) ∧ Fr b H1 H' ∧ TbAt K P w C b c H') ⟨[], upd_same, rfl, .nil, .of_same (same_new nD _), T1.new nD⟩ (fun i H' _ ⟨_, _, _, _, h, _⟩ => T1.tk h _ _ hU) ?_ ?_
  · rintro i u H2 hi ⟨cs, hD, hlc, hcs, f2, T2⟩
    rw [List.getElem?_map] at hi
    obtain ⟨z, hzi, rfl⟩ := Option.map_eq_some_iff.mp hi
    have li := (List.getElem?_eq_some_iff.mp hzi).1
    refine ⟨rfl, _, rfl, b.t, b.dx, _, rfl, T2.1, no_having b, _, rfl, _, rfl, b, c, x, xs, z, rfl, T2, T1.tk f2 _ _ hx, hl, hm, fun hn => (hz z (List.mem_of_getElem? hzi) hn).1, fun E H3 f3 T3 nE hE => ?_⟩
    have hD3 := f3 D _ nD'.2.1 nD'.2.2 hD
    have nE' := T2.ne nE
    have neD : E ≠ D := (ne_of_none hD nE).symm
    have nE0 : H0 E = none := Fr.free hT (f1.trans f2) nE nE'.2.1 nE'.2.2
    refine ⟨cs, hD3, lineOk (by omega), cs ++ [.ref E], upd_same, by simp [hlc], ?_, (f2.trans f3).to nD, T1.wr T3 nD hD3⟩
    rw [List.take_succ, hzi]
    have fu3 : ∀ (B : Addr) (o : HO), B ≠ D → H3 B = some o → upd H3 D (.lst (cs ++ [.ref E])) B = some o := fun B o ne h => by rw [upd_ne ne]; exact h
    refine All2.append ?_ (.cons ⟨E, rfl, nE0, neD, fu3 _ _ neD hE⟩ .nil)
    exact hcs.imp fun u z ⟨B, e, n, nb, l⟩ => ⟨B, e, n, nb, fu3 _ _ nb (f3 B _ (hT.ne n).2.1 (hT.ne n).2.2 l)⟩
  · rintro H2 ⟨cs, hD, hlc, hcs, f2, T2⟩
    rw [List.length_map, List.take_length] at hcs
    exact q D cs H2 f2 T2 nD0 hD (hcs.imp fun u z ⟨B, e, n, _, l⟩ => ⟨B, e, n, l⟩)
/-- one row -/
theorem lk_step {b : Tb} {c : Kn} {H0 H1 : Hp} {x CH R : Addr} {xs zs : List Str} {r : List Int} {cs : List V} {a1 a3 a4 a6 : Option V} {Qk : VK} (hT : TbAt K P w C b c H0) (T1 : TbAt K P w C b c H1) (f1 : Fr b H0 H1) (hx : SqT K H1 x (xs.map V.str)) (hl : xs.length ≤ 5) (hm : b.m ≤ 4)
    (nCH : H0 CH = none) (hCH : H1 CH = some (.lst cs)) (hcs : CsAt b xs H0 H1 cs zs) (hR : SqT K H1 R (r.map V.int)) (hlr : zs.length = r.length) (hlz : zs.length ≤ 2) (hr : ∀ t ∈ r, 0 ≤ t ∧ t < (b.m : Int))
    (q : ∀ H', Fr b H1 H' → TbAt K P w C b c H' → Qk (nv (Bts.bits (b.m ^ xs.length) fun i => Bts.mt (Bts.envI b.m b.e xs i) zs r)) H') :
    tCall (spBoth K) [] C8.E0 (tCons (tLc (Enu.iZipM K (tCons (tVar 5) (tCons (tVar 7) tNil))) (gTup K 2 (gCons (gName 10) (gCons (gName 8) gNil))) tYes (tOp (rIxL K) (tVar 10) (tVar 8)) [10, 8])
      (tCons (tMeth C ("full" : Str) (spFull K P w C) [] C8.E0 (tVar 0) (tCons (tVar 2) tNil)) tNil)) [some (.ref b.t), a1, some (.ref x), a3, a4, some (.ref CH), a6, some (.ref R), none, none, none] H1 Qk := by
  have lcs : cs.length = zs.length := hcs.length
  refine ⟨_, rfl, _, rfl, CH, R, cs, r.map V.int, rfl, SqL.of hCH, hR, fun D nD => ?_⟩
  have nD' := T1.ne nD
  have nD0 := Fr.free hT f1 nD nD'.2.1 nD'.2.2
  refine lc_it (Enu.walk_zipM (xs := cs) (ys := r.map V.int) (by rw [List.length_map, lcs, hlr])) (fun i H' => H' D = some (.lst (((zs.zip r).take i).map fun p => nv (Bts.bits (b.m ^ xs.length) fun i => decide (Bts.envI b.m b.e xs i p.1 = p.2)))) ∧ Same H1 H') ⟨upd_same, same_new nD _⟩ (fun i H' _ h => ⟨SqL.of (h.2 _ _ hCH), Tk.of_same h.2 _ _ hR⟩) ?_ ?_
  · rintro i _ H2 _ _ ⟨hD, s2⟩ ⟨T, u, t, rfl, nT, rfl, hi, hj⟩
    simp only at hi hj
    rw [List.getElem?_map] at hj
    obtain ⟨t, hti, rfl⟩ := Option.map_eq_some_iff.mp hj
    obtain ⟨z, hzi, B, rfl, nB, hB⟩ := hcs.get hi
    have sT := same_new nT (.tup [V.ref B, V.int t])
    refine ⟨T, _, rfl, SqT.of upd_same, rfl, _, _, rfl, _, _, rfl, rfl, rfl, _, rfl, _, rfl, ?_⟩
    have ht := hr t (List.mem_of_getElem? hti)
    have hB2 := sT _ _ (s2 _ _ hB)
    have hat : (hv b xs z)[t.toNat]? = some (nv (Bts.bits (b.m ^ xs.length) fun i => decide (Bts.envI b.m b.e xs i z = ((t.toNat : Nat) : Int)))) := by
      unfold hv
      rw [List.getElem?_map, List.getElem?_range (by omega)]
      rfl
    have et : ((t.toNat : Nat) : Int) = t := by omega
    rw [et] at hat
    refine ⟨B, _, _, _, rfl, rfl, SqL.of hB2, by rw [← et]; exact atI_nat hat, ?_⟩
    have hD2 := sT _ _ hD
    have lz := (List.getElem?_eq_some_iff.mp hzi).1
    refine ⟨_, hD2, lineOk (by rw [List.length_map, List.length_take]; omega), ?_, same_to (s2.trans sT) nD⟩
    have ez : (zs.zip r)[i]? = some (z, t) := by rw [List.getElem?_zip_eq_some]; exact ⟨hzi, hti⟩
    rw [upd_same, List.take_succ, ez, List.map_append]
    rfl
  · rintro H2 ⟨hD, s2⟩
    have T2 := T1.same s2
    refine ⟨_, rfl, b.t, b.dx, _, rfl, T2.1, no_full b, _, rfl, b, c, x, _, rfl, T2, Tk.of_same s2 _ _ hx, by rw [List.length_map]; exact hl, hm, fun H3 f3 T3 => ?_⟩
    have hD3 := f3 D _ nD'.2.1 nD'.2.2 hD
    have lz : (zs.zip r).length = cs.length := by rw [List.length_zip, lcs, ← hlr, Nat.min_self]
    rw [← lz, List.take_length] at hD3
    refine ⟨D, (zs.zip r).map fun p => Bts.bits (b.m ^ xs.length) fun i => decide (Bts.envI b.m b.e xs i p.1 = p.2), _, rfl, ?_, ?_⟩
    · rw [List.map_map]; exact SqL.of hD3
    · rw [List.length_map, fu, Bts.and_fold (b.m ^ xs.length) (fun i => Bts.envI b.m b.e xs i) zs r _ hlr]
      have := q H3 ((Fr.of_same s2).trans f3) T3
      simpa using this
theorem seq_asg {te : TE} {g : TG} {rest : TS} {D : Ends} {σ : St} {H : Hp} (h : te σ H fun v H1 => g v σ H1 fun σ2 H2 => rest D σ2 H2) : tSeq (tAsg te g) rest D σ H := h
theorem ok_look {f : Addr} {fd : FuncData} (B : Bt mg) (T : TbT K C) (cBoth : Cal P w K mg base 1 "both" (spBoth K) []) (Mfull : Met P w K mg base 2 C "full" (spFull K P w C) []) (Mhaving : Met P w K mg base 3 C "having" (spHaving K P w C) []) (F : Fun K "looked_up" "Tables.looked_up" mLook f fd) : FnOk P w K mg base CX0 4 f fd pLook (spLook K P w C) := by
  refine F.ok scLook (fun vs H Q E h => ?_) (fun cdv A outer s H vs Q E hr h => ?_)
  · obtain ⟨b, c, v, f, x, xs, rfl, _⟩ := h
    rfl
  obtain ⟨b, c, v, fm, x, xs, rfl, hT, hF, hA, hx, hl, hm, hfit, hm0, q⟩ := h
  have nd := scLook.nd
  cases fm with
  | neg _ => cases hA
  | con _ _ => cases hA
  | qu _ _ _ => cases hA
  | rel n zs =>
    refine ⟨_, (pss_cons (ps_if (pt_cmpR op_eq (pe_ix ix_tup (pv 1) pe_int (fun _ _ => rfl)) pe_str (nomark _)) (pss_cons (ps_set (i := 3) nd rfl (.inl rfl) (pe_slice sl_tup (pv 1) (po_some pe_int) po_none))
    (pss_one (ps_setLc (i := 4) (own := [("element", 8)]) (g := gName 8) (tt := tYes) rfl nd rfl rfl (sw_true rfl rfl rfl (by decide +kernel)) (pi_range1 rfl B.range (pa_cons (pe_fld (pv 0) rfl) pa_nil)) (blkOk_by (own := [("element", 8)]) (N := nLook) (sc := defScope mLook) (by decide +kernel)) (fun _ _ _ _ _ => (pg_name (i := 8) nd rfl (Or.inl rfl))) (fun _ _ _ _ _ => pts_nil) (fun _ _ _ _ _ => (pe_tup (pa_cons (pv 8) (pa_cons (pv 8) pa_nil))))))) (pss_cons (ps_set (i := 3) nd rfl (.inl rfl) (pe_ix ix_tup (pv 1) pe_int (fun _ _ => rfl)))
    (pss_one (ps_set (i := 4) nd rfl (.inl rfl) (pe_dget (hu_of hr) (pe_fld (pv 0) rfl) (pe_ix ix_tup (pv 1) pe_int (fun _ _ => rfl)) (fun _ _ => rfl))))))
    (pss_cons (ps_setLc (i := 5) (own := [("name", 9)]) (g := gName 9) (tt := tYes) rfl nd rfl rfl (sw_true rfl rfl rfl (by decide +kernel)) (pi_tup (pv 3)) (blkOk_by (own := [("name", 9)]) (N := nLook) (sc := defScope mLook) (by decide +kernel)) (fun _ _ _ _ _ => (pg_name (i := 9) nd rfl (Or.inl rfl))) (fun _ _ _ _ _ => pts_nil) (fun _ _ _ _ _ => (pe_mt Mhaving hr (by decide) (pv 0) (pa_cons (pv 9) (pa_cons (pv 2) pa_nil)))))
    (pss_cons (ps_set (i := 6) nd rfl (.inl rfl) pe_int)
    (pss_cons (ps_for PassesOwn.never rfl (pi_tup (pv 4)) (pg_name (i := 7) nd rfl (.inl rfl)) (pss_one (ps_set (i := 6) nd rfl (.inl rfl) (pe_op op_or (pv 6) (pe_c cBoth hr (by decide) rfl (pa_cons (pe_lc (own := [("tables", 10), ("element", 8)]) (g := gTup K 2 (gCons (gName 10) (gCons (gName 8) (gNil)))) (tt := tYes) rfl nd (Enu.pi_zipM rfl B.zip (pa_cons (pv 5) (pa_cons (pv 7) pa_nil))) (blkOk_by (own := [("tables", 10), ("element", 8)]) (N := nLook) (sc := defScope mLook) (by decide +kernel)) (fun _ _ _ _ _ => (pg_tup_k (K := K) rfl rfl (pgs_cons (pg_name (i := 10) nd rfl (Or.inl rfl)) (pgs_cons (pg_name (i := 8) nd rfl (Or.inl rfl)) pgs_nil)))) (fun _ _ _ _ _ => pts_nil) (fun _ _ _ _ _ => (pe_ix (ixL_k (K := K) rfl) (pv 10) (pv 8) (fun _ _ => rfl)))) (pa_cons (pe_mt Mfull hr (by decide) (pv 0) (pa_cons (pv 2) pa_nil)) pa_nil)))))))
    (pss_one (ps_ret (pv 6))))))), ?_⟩
    rw [FmAt] at hF
    obtain ⟨a, tt, rfl, h1, h2⟩ := hF
    obtain ⟨⟨ts, hts, htr⟩, hz2, hzf⟩ := hfit
    obtain ⟨_, ⟨kvr, hdR, hrr⟩, _⟩ := id hT
    obtain ⟨lts, ta, us, hva, hta, hus⟩ := hrr n ts hts
    refine ⟨_, rfl, a, _, _, _, rfl, rfl, h1, at_of (j := 0) rfl rfl, rfl, false, (by decide +kernel), ?_⟩
    refine ⟨_, rfl, a, _, _, _, rfl, rfl, h1, at_of (j := 2) rfl rfl, ?_⟩
    refine ⟨_, rfl, b.t, C, b.dx, _, _, rfl, hT.1, T.cl, T.nr, tf_rows b, _, rfl, a, _, _, _, rfl, rfl, h1, at_of (j := 1) rfl rfl, b.dR, .ref ta, rfl, .inl ⟨kvr, .inr n, .inl hdR, rfl, hva.symm⟩, ?_⟩
    show tSeq _ _ _ _ _
    refine seq_asg (lk_choices hT hT (Fr.refl _ _) h2 hx hl hm hz2 hzf fun CH cs H1 f1 T1 nCH hCH hcs => ?_)
    have e0 : V.int 0 = nv (Bts.bits (b.m ^ xs.length) fun i => (ts.take 0).any fun r => Bts.mt (Bts.envI b.m b.e xs i) zs r) := congrArg nv (Bts.bits_none _)
    refine ⟨_, rfl, ta, rfl, ⟨_, hT.tk f1 _ _ hta⟩, ?_⟩
    refine for_tup (xs := us) (fun k σ H' => ∃ ro : Option V, σ = [some (.ref b.t), some (.ref a), some (.ref x), some (.ref tt), some (.ref ta), some (.ref CH), some (nv (Bts.bits (b.m ^ xs.length) fun i => (ts.take k).any fun r => Bts.mt (Bts.envI b.m b.e xs i) zs r)), ro, none, none, none] ∧ Fr b H H' ∧ TbAt K P w C b c H' ∧ Fr b H1 H') ⟨none, by rw [← e0]; rfl, f1, T1, Fr.refl _ _⟩ (fun k σ H' _ ⟨_, _, f, _⟩ => hT.tk f _ _ hta) ?_ ?_
    · rintro k u σ H2 hk ⟨ro, rfl, f2, T2, f12⟩
      obtain ⟨r, hr, R, rfl, hR⟩ := (hus.imp fun _ _ h => h.tk (hT.tk f2)).get hk
      have hr' := htr r (List.mem_of_getElem? hr)
      refine ⟨_, rfl, lk_step hT T2 f2 (hT.tk f2 _ _ hx) hl hm nCH (f12 CH _ (hT.ne nCH).2.1 (hT.ne nCH).2.2 hCH) (CsAt.fr hT hcs f12) hR hr'.1.symm hz2 hr'.2 (fun H3 f3 T3 => ⟨_, _, rfl, rfl, some (.ref R), ?_, f2.trans f3, T3, f12.trans f3⟩)⟩
      show [some (V.ref b.t), some (V.ref a), some (V.ref x), some (V.ref tt), some (V.ref ta), some (V.ref CH), some (V.int (Builtin.bitOr _ _)), some (V.ref R), none, none, none] = _
      rw [or_nat, List.take_succ, hr, Bts.or_snoc]
      rfl
    · rintro σ H2 ⟨ro, rfl, f2, T2, _⟩
      rw [hus.length, List.take_length]
      refine ⟨_, rfl, ?_⟩
      have := q H2 f2 T2
      unfold Bts.tab at this
      rw [Bts.bits_congr fun i _ => Bts.tv_rel hts zs (Bts.envI b.m b.e xs i)] at this
      exact this
  | same y z =>
    refine ⟨_, (pss_cons (ps_if (pt_cmpR op_eq (pe_ix ix_tup (pv 1) pe_int (fun _ _ => rfl)) pe_str (nomark _)) (pss_cons (ps_set (i := 3) nd rfl (.inl rfl) (pe_slice sl_tup (pv 1) (po_some pe_int) po_none))
    (pss_one (ps_setLc (i := 4) (own := [("element", 8)]) (g := gName 8) (tt := tYes) rfl nd rfl rfl (sw_true rfl rfl rfl (by decide +kernel)) (pi_range1 rfl B.range (pa_cons (pe_fld (pv 0) rfl) pa_nil)) (blkOk_by (own := [("element", 8)]) (N := nLook) (sc := defScope mLook) (by decide +kernel)) (fun _ _ _ _ _ => (pg_name (i := 8) nd rfl (Or.inl rfl))) (fun _ _ _ _ _ => pts_nil) (fun _ _ _ _ _ => (pe_tup (pa_cons (pv 8) (pa_cons (pv 8) pa_nil))))))) (pss_cons (ps_set (i := 3) nd rfl (.inl rfl) (pe_ix ix_tup (pv 1) pe_int (fun _ _ => rfl)))
    (pss_one (ps_set (i := 4) nd rfl (.inl rfl) (pe_dget (hu_of hr) (pe_fld (pv 0) rfl) (pe_ix ix_tup (pv 1) pe_int (fun _ _ => rfl)) (fun _ _ => rfl))))))
    (pss_cons (ps_setLc (i := 5) (own := [("name", 9)]) (g := gName 9) (tt := tYes) rfl nd rfl rfl (sw_true rfl rfl rfl (by decide +kernel)) (pi_tup (pv 3)) (blkOk_by (own := [("name", 9)]) (N := nLook) (sc := defScope mLook) (by decide +kernel)) (fun _ _ _ _ _ => (pg_name (i := 9) nd rfl (Or.inl rfl))) (fun _ _ _ _ _ => pts_nil) (fun _ _ _ _ _ => (pe_mt Mhaving hr (by decide) (pv 0) (pa_cons (pv 9) (pa_cons (pv 2) pa_nil)))))
    (pss_cons (ps_set (i := 6) nd rfl (.inl rfl) pe_int)
    (pss_cons (ps_for PassesOwn.never rfl (pi_list (pv 4)) (pg_name (i := 7) nd rfl (.inl rfl)) (pss_one (ps_set (i := 6) nd rfl (.inl rfl) (pe_op op_or (pv 6) (pe_c cBoth hr (by decide) rfl (pa_cons (pe_lc (own := [("tables", 10), ("element", 8)]) (g := gTup K 2 (gCons (gName 10) (gCons (gName 8) (gNil)))) (tt := tYes) rfl nd (Enu.pi_zipM rfl B.zip (pa_cons (pv 5) (pa_cons (pv 7) pa_nil))) (blkOk_by (own := [("tables", 10), ("element", 8)]) (N := nLook) (sc := defScope mLook) (by decide +kernel)) (fun _ _ _ _ _ => (pg_tup_k (K := K) rfl rfl (pgs_cons (pg_name (i := 10) nd rfl (Or.inl rfl)) (pgs_cons (pg_name (i := 8) nd rfl (Or.inl rfl)) pgs_nil)))) (fun _ _ _ _ _ => pts_nil) (fun _ _ _ _ _ => (pe_ix (ixL_k (K := K) rfl) (pv 10) (pv 8) (fun _ _ => rfl)))) (pa_cons (pe_mt Mfull hr (by decide) (pv 0) (pa_cons (pv 2) pa_nil)) pa_nil)))))))
    (pss_one (ps_ret (pv 6))))))), ?_⟩
    rw [FmAt] at hF
    obtain ⟨a, rfl, h1⟩ := hF
    refine ⟨_, rfl, a, _, _, _, rfl, rfl, h1, at_of (j := 0) rfl rfl, rfl, true, (by decide +kernel), ?_⟩
    refine ⟨_, rfl, 1, rfl, a, _, rfl, h1, (by show ¬ (HT.sIx 3 0 (some 1) = 0 ∧ HT.sIx 3 3 none = 3); decide), fun tt ntt => ?_⟩
    have ecut : cutV [V.str "same", V.str y, V.str z] (some 1) none = [y, z].map V.str := rfl
    rw [ecut]
    have s1 := same_new ntt (.tup ([y, z].map V.str))
    have T1 := hT.same s1
    have h2 : SqT K (upd H tt (.tup ([y, z].map V.str))) tt ([y, z].map V.str) := SqT.of upd_same
    generalize upd H tt (.tup ([y, z].map V.str)) = H1 at *
    refine ⟨_, rfl, b.t, C, b.dx, _, _, rfl, T1.1, T.cl, T.nm, tf_many b, (b.m : Int), rfl, by omega, by omega, fun D nD => lc_range (lo := 0) (n := b.m) (fun i H' => ∃ us, H' D = some (.lst us) ∧ us.length = i ∧ All2 (RowAt K H') us ((List.range i).map fun j : Nat => [(j : Int), (j : Int)]) ∧ Same H1 H') ⟨[], upd_same, rfl, .nil, same_new nD _⟩ ?_ ?_⟩
    · rintro i H2 hi ⟨us, hD, hlu, hus, s2⟩
      refine ⟨rfl, _, rfl, _, rfl, l2, fun p np => ⟨us, same_new np _ _ _ hD, lineOk (by omega), us ++ [.ref p], upd_same, by simp [hlu], ?_, same_to (s2.trans (same_new np _)) nD⟩⟩
      have hD3 := same_new np (.tup [V.int (0 + (i : Int)), V.int (0 + (i : Int))]) _ _ hD
      have t3 := (tk_new (K := K) np (.tup [V.int (0 + (i : Int)), V.int (0 + (i : Int))])).trans (tk_lst hD3 (.lst (us ++ [.ref p])))
      rw [List.range_succ, List.map_append]
      refine (hus.imp fun _ _ h => h.tk t3).append (.cons (RowAt.tk (tk_lst hD3 _) ⟨p, rfl, ?_⟩) .nil)
      rw [Int.zero_add]
      exact SqT.of upd_same
    rintro H2 ⟨us, hD, hlu, hus, s2⟩
    have T2 := T1.same s2
    have s02 := s1.trans s2
    have f2 : Fr b H H2 := .of_same s02
    have nD0 : H D = none := s1.free nD
    generalize hts : ((List.range b.m).map fun j : Nat => [(j : Int), (j : Int)]) = ts at hus
    have htr : ∀ t ∈ ts, t.length = 2 ∧ ∀ x ∈ t, 0 ≤ x ∧ x < (b.m : Int) := fun t ht => by
      rw [← hts] at ht
      obtain ⟨j, hj, rfl⟩ := List.mem_map.mp ht
      have := List.mem_range.mp hj
      refine ⟨rfl, fun x hx => ?_⟩
      simp only [List.mem_cons, List.not_mem_nil, or_false, or_self] at hx
      omega
    show tSeq _ _ _ _ _
    refine seq_asg (lk_choices (zs := [y, z]) hT T2 f2 (Tk.of_same s2 _ _ h2) (Tk.of_same s02 _ _ hx) hl hm (Nat.le_refl 2) (fun u hu => ?_) fun CH cs H3 f3 T3 nCH hCH hcs => ?_)
    · simp only [List.mem_cons, List.not_mem_nil, or_false] at hu
      rcases hu with rfl | rfl
      · exact hfit.1
      · exact hfit.2
    have e0 : V.int 0 = nv (Bts.bits (b.m ^ xs.length) fun i => (ts.take 0).any fun r => Bts.mt (Bts.envI b.m b.e xs i) [y, z] r) := congrArg nv (Bts.bits_none _)
    have nDx := hT.ne nD0
    have hD3 := f3 D _ nDx.2.1 nDx.2.2 hD
    have hus3 := hus.imp fun _ _ h => RowAt.tk (T2.tk f3) h
    refine ⟨_, rfl, D, rfl, ⟨_, SqL.of hD3⟩, ?_⟩
    refine for_list (xs := us) (fun k σ H' => ∃ ro : Option V, σ = [some (.ref b.t), some (.ref a), some (.ref x), some (.ref tt), some (.ref D), some (.ref CH), some (nv (Bts.bits (b.m ^ xs.length) fun i => (ts.take k).any fun r => Bts.mt (Bts.envI b.m b.e xs i) [y, z] r)), ro, none, none, none] ∧ TbAt K P w C b c H' ∧ Fr b H3 H') ⟨none, by rw [← e0]; rfl, T3, Fr.refl _ _⟩ (fun k σ H' _ ⟨_, _, _, f⟩ => SqL.of (f D _ nDx.2.1 nDx.2.2 hD3)) ?_ ?_
    · rintro k u σ H4 hk ⟨ro, rfl, T4, f34⟩
      obtain ⟨r, hr, R, rfl, hR⟩ := (hus3.imp fun _ _ h => h.tk (T3.tk f34)).get hk
      have hr' := htr r (List.mem_of_getElem? hr)
      have f4 := (f2.trans f3).trans f34
      refine ⟨_, rfl, lk_step hT T4 f4 (hT.tk f4 _ _ hx) hl hm nCH (f34 CH _ (hT.ne nCH).2.1 (hT.ne nCH).2.2 hCH) (CsAt.fr hT hcs f34) hR hr'.1.symm (Nat.le_refl 2) hr'.2 (fun H5 f5 T5 => ⟨_, _, rfl, rfl, some (.ref R), ?_, T5, f34.trans f5⟩)⟩
      show [some (V.ref b.t), some (V.ref a), some (V.ref x), some (V.ref tt), some (V.ref D), some (V.ref CH), some (V.int (Builtin.bitOr _ _)), some (V.ref R), none, none, none] = _
      rw [or_nat, List.take_succ, hr, Bts.or_snoc]
      rfl
    · rintro σ H4 ⟨ro, rfl, T4, f34⟩
      rw [hus.length, List.take_length]
      refine ⟨_, rfl, ?_⟩
      have := q H4 ((f2.trans f3).trans f34) T4
      unfold Bts.tab at this
      rw [Bts.bits_congr fun i _ => Bts.tv_same b.rs y z (Bts.envI b.m b.e xs i) (Bts.env_rng hm0 xs b.e i y fun h => (hfit.1 h).2), hts] at this
      exact this
end
end K3

set_option Elab.async false
set_option linter.all false
set_option maxRecDepth 100000
set_option maxHeartbeats 4000000
/-! plain -/
namespace K3
open PySem L2 Fo Ndk
open C8 (Cal pe_c pss_cut Met pe_mt pe_mt0)
section
variable {P : Program} {w : World} {K : PySem.W.Frag} {mg : Str → Option Value} {base : Heap} {C : Addr}
theorem nks_at1 {H : Hp} : ∀ xs : List Str, NksAt K H (xs.map fun x => Nk.ak (.inr x)) (xs.map V.str)
  | [] => by rw [List.map_nil, NksAt]; rfl
  | x :: xs => by
    rw [List.map_cons, List.map_cons, NksAt]
    exact ⟨_, _, rfl, by rw [NkAt]; rfl, nks_at1 xs⟩
theorem nks_at {H : Hp} {x : Addr} {xs : List Str} (h : SqT K H x (xs.map V.str)) : NkAt K H (nks xs) (.ref x) := by
  rw [nks, NkAt]
  exact ⟨x, _, rfl, h, nks_at1 xs⟩
theorem str_at {H : Hp} (x : Str) : NkAt K H (.ak (.inr x)) (.str x) := by rw [NkAt]; rfl
theorem fk_at {H : Hp} {v : V} {f : Fm} (h : FmAt K H v f) (ha : isA f = true) : NkAt K H (fk f) v := by
  cases f with
  | neg _ => cases ha
  | con _ _ => cases ha
  | qu _ _ _ => cases ha
  | rel n zs =>
    rw [FmAt] at h
    obtain ⟨a, t, rfl, h1, h2⟩ := h
    rw [fk, NkAt]
    refine ⟨a, _, rfl, h1, ?_⟩
    rw [NksAt]
    refine ⟨_, _, rfl, str_at _, ?_⟩
    rw [NksAt]
    refine ⟨_, _, rfl, str_at _, ?_⟩
    rw [NksAt]
    exact ⟨_, _, rfl, nks_at h2, by rw [NksAt]⟩
  | same y z =>
    rw [FmAt] at h
    obtain ⟨a, rfl, h1⟩ := h
    rw [fk, NkAt]
    refine ⟨a, _, rfl, h1, ?_⟩
    rw [NksAt]
    refine ⟨_, _, rfl, str_at _, ?_⟩
    rw [NksAt]
    refine ⟨_, _, rfl, str_at _, ?_⟩
    rw [NksAt]
    exact ⟨_, _, rfl, str_at _, by rw [NksAt]⟩
theorem kk_at {H : Hp} {v : V} {f : Fm} {x p : Addr} {xs : List Str} (h : FmAt K H v f) (ha : isA f = true) (hx : SqT K H x (xs.map V.str)) (hp : SqT K H p [v, .ref x]) : NkAt K H (kk f xs) (.ref p) := by
  rw [kk, NkAt]
  refine ⟨p, _, rfl, hp, ?_⟩
  rw [NksAt]
  refine ⟨_, _, rfl, fk_at h ha, ?_⟩
  rw [NksAt]
  exact ⟨_, _, rfl, nks_at hx, by rw [NksAt]⟩
theorem deps_aks : ∀ xs : List Str, Nk.deps (xs.map fun x => Nk.ak (.inr x)) = 0
  | [] => by rw [List.map_nil, Nk.deps]
  | x :: xs => by rw [List.map_cons, Nk.deps, deps_aks xs, Nk.dep]; rfl
theorem kk_dep (f : Fm) (xs : List Str) : (kk f xs).dep ≤ 7 := by
  have h1 : (nks xs).dep = 1 := by rw [nks, Nk.dep, deps_aks]
  have h2 : (fk f).dep ≤ 2 := by
    cases f with
    | rel n zs =>
      have h3 : (nks zs).dep = 1 := by rw [nks, Nk.dep, deps_aks]
      rw [fk, Nk.dep, Nk.deps, Nk.deps, Nk.deps, Nk.deps, h3, Nk.dep, Nk.dep]
      decide
    | same y z =>
      rw [fk, Nk.dep, Nk.deps, Nk.deps, Nk.deps, Nk.deps, Nk.dep, Nk.dep, Nk.dep]
      decide
    | neg _ => show (Nk.tp []).dep ≤ 2; rw [Nk.dep, Nk.deps]; decide
    | con _ _ => show (Nk.tp []).dep ≤ 2; rw [Nk.dep, Nk.deps]; decide
    | qu _ _ _ => show (Nk.tp []).dep ≤ 2; rw [Nk.dep, Nk.deps]; decide
  rw [kk, Nk.dep, Nk.deps, Nk.deps, Nk.deps, h1]
  omega
theorem kn_val {b : Tb} {c : Kn} (h : KnOk b c) {f : Fm} {xs : List Str} (ha : isA f = true) {v : V} (hv : ndV c (kk f xs) = some v) : v = nv (Bts.tab b.m b.rs b.e f xs) := by
  unfold ndV at hv
  obtain ⟨x, hx, rfl⟩ := Option.map_eq_some_iff.mp hv
  have hm := List.mem_of_find?_eq_some hx
  have he : x.1 = kk f xs := by
    have := List.find?_some (p := fun e : Nk × Addr × V => decide (e.1 = kk f xs)) hx
    exact of_decide_eq_true this
  obtain ⟨g, ys, hg, e1, e2⟩ := h x hm
  rw [e1] at he
  obtain ⟨rfl, rfl⟩ := kk_inj hg ha he
  exact e2
def spPlain (K : PySem.W.Frag) (P : Program) (w : World) (C : Addr) : Sp := fun vs H Q _ => ∃ (b : Tb) (c : Kn) (v : V) (f : Fm) (x : Addr) (xs : List Str), vs = [.ref b.t, v, .ref x] ∧ TbAt K P w C b c H ∧ FmAt K H v f ∧ isA f = true ∧ SqT K H x (xs.map V.str) ∧ xs.length ≤ 5 ∧ b.m ≤ 4 ∧ FitA b f xs ∧ 0 < b.m ∧ c.length ≤ 2000 ∧
  ∀ c' H', Fr b H H' → TbAt K P w C b c' H' → c'.length ≤ c.length + 1 → Q (nv (Bts.tab b.m b.rs b.e f xs)) H'
abbrev nPlain : List Str := ["self", "formula", "names", "key"]
abbrev pPlain : List Str := ["self", "formula", "names"]
theorem scPlain : FnScope nPlain pPlain (defScope mPlain) := ⟨rfl, rfl, rfl, by decide +kernel, rfl, by decide +kernel, by decide +kernel⟩
theorem ok_plain {f : Addr} {fd : FuncData} (T : TbT K C) (Mlooked : Met P w K mg base 4 C "looked_up" (spLook K P w C) []) (F : Fun K "plain" "Tables.plain" mPlain f fd) : FnOk P w K mg base CX0 5 f fd pPlain (spPlain K P w C) := by
  refine F.ok scPlain (fun vs H Q E h => ?_) (fun cdv A outer s H vs Q E hr h => ?_)
  · obtain ⟨b, c, v, f, x, xs, rfl, _⟩ := h
    rfl
  obtain ⟨b, c, v, fm, x, xs, rfl, hT, hF, hA, hx, hl, hm, hfit, hm0, hc, q⟩ := h
  have nd := scPlain.nd
  refine ⟨_, (pss_cons (ps_set (i := 3) nd rfl (.inl rfl) (pe_tup (pa_cons (pv 1) (pa_cons (pv 2) pa_nil))))
    (pss_cons (ps_if (pt_cmpR (Ndk.op_ndnot (hu65 hr)) (pv 3) (pe_fld (pv 0) rfl) rfl) (pss_one (Ndk.ps_ndput (hu65 hr) (pe_fld (pv 0) rfl) (pv 3) (pe_mt Mlooked hr (by decide) (pv 0) (pa_cons (pv 1) (pa_cons (pv 2) pa_nil))) rfl)) pss_nil)
    (pss_one (ps_ret (Ndk.pe_ndget (hu65 hr) (pe_fld (pv 0) rfl) (pv 3) (fun _ _ => rfl)))))), ?_⟩
  refine ⟨_, rfl, _, rfl, l2, fun p np => ?_⟩
  have T1 := hT.new (o := .tup [v, .ref x]) np
  have s1 := same_new np (.tup [v, .ref x])
  have k1 := Tk.of_same (K := K) s1
  have hp : SqT K (upd H p (.tup [v, .ref x])) p [v, .ref x] := SqT.of upd_same
  have hx1 := k1 _ _ hx
  have hF1 := hF.tk k1
  generalize upd H p (.tup [v, .ref x]) = H1 at *
  have hk1 := kk_at hF1 hA hx1 hp
  have f1 : Fr b H H1 := .of_same s1
  obtain ⟨_, _, _, _, hN1, hK1⟩ := id T1
  refine ⟨_, rfl, _, rfl, b.t, C, b.dx, _, _, rfl, T1.1, T.cl, T.nk, tf_known b, b.dN, p, c, kk fm xs, rfl, rfl, hN1, hk1, kk_dep _ _, _, rfl, ite2 (fun cc => ?_) (fun cc => ?_)⟩
  · have none : ndV c (kk fm xs) = none := by
      cases e : ndV c (kk fm xs) with
      | none => rfl
      | some z => rw [e] at cc; cases cc
    refine ⟨_, rfl, b.t, b.dx, _, rfl, T1.1, no_looked b, _, rfl, _, rfl, b, c, v, fm, x, xs, rfl, T1, hF1, hA, hx1, hl, hm, hfit, hm0, fun H2 f2 T2 => ?_⟩
    obtain ⟨_, _, _, ⟨n2, hn2, hS2⟩, hN2, hK2⟩ := id T2
    have hk2 := NkAt.tk (T1.tk f2) hk1
    refine ⟨_, rfl, b.t, C, b.dx, _, _, rfl, T2.1, T.cl, T.nk, tf_known b, _, rfl, b.dN, p, c, kk fm xs, rfl, rfl, hN2, hk2, kk_dep _ _, none, lineOk (by omega), ?_⟩
    have f3 : Fr b H2 (upd H2 b.dN (NdO P w b.dN (c ++ [(kk fm xs, p, nv (Bts.tab b.m b.rs b.e fm xs))]))) := fun a o _ n h => by rw [upd_ne n]; exact h
    have hd3 : upd H2 b.dN (NdO P w b.dN (c ++ [(kk fm xs, p, nv (Bts.tab b.m b.rs b.e fm xs))])) b.dN = some (NdO P w b.dN (c ++ [(kk fm xs, p, nv (Bts.tab b.m b.rs b.e fm xs))])) := upd_same
    have hs3 : upd H2 b.dN (NdO P w b.dN (c ++ [(kk fm xs, p, nv (Bts.tab b.m b.rs b.e fm xs))])) b.lS = some (.lst (pws b.m n2)) := by rw [upd_ne T2.sn]; exact hS2
    have k3 := T2.tk f3
    have hN3 : NdAt K P w (upd H2 b.dN (NdO P w b.dN (c ++ [(kk fm xs, p, nv (Bts.tab b.m b.rs b.e fm xs))]))) b.dN (c ++ [(kk fm xs, p, nv (Bts.tab b.m b.rs b.e fm xs))]) := by
      refine ⟨hd3, fun e he => ?_⟩
      rcases List.mem_append.mp he with h | h
      · exact ⟨(hN2.2 e h).1, NkAt.tk k3 (hN2.2 e h).2⟩
      · rw [List.mem_singleton.mp h]
        exact ⟨kk_dep _ _, NkAt.tk k3 hk2⟩
    have hK3 : KnOk b (c ++ [(kk fm xs, p, nv (Bts.tab b.m b.rs b.e fm xs))]) := fun e he => by
      rcases List.mem_append.mp he with h | h
      · exact hK2 e h
      · rw [List.mem_singleton.mp h]
        exact ⟨fm, xs, hA, rfl, rfl⟩
    have T3 := T2.put f3 ⟨n2, hn2, hs3⟩ ⟨hN3, hK3⟩
    have hk3 := NkAt.tk k3 hk2
    refine ⟨_, rfl, b.t, C, b.dx, _, _, rfl, T3.1, T.cl, T.nk, tf_known b, _, rfl, b.dN, p, _, kk fm xs, nv (Bts.tab b.m b.rs b.e fm xs), rfl, rfl, hN3, hk3, kk_dep _ _, ?_, q _ _ ((f1.trans f2).trans f3) T3 (by simp)⟩
    rw [ndV_snoc none, if_pos rfl]
  · have some' : ∃ z, ndV c (kk fm xs) = some z := by
      cases e : ndV c (kk fm xs) with
      | none => rw [e] at cc; exact absurd rfl cc
      | some z => exact ⟨z, rfl⟩
    obtain ⟨z, hz⟩ := some'
    obtain rfl := kn_val hK1 hA hz
    exact ⟨_, rfl, b.t, C, b.dx, _, _, rfl, T1.1, T.cl, T.nk, tf_known b, _, rfl, b.dN, p, c, kk fm xs, _, rfl, rfl, hN1, hk1, kk_dep _ _, hz, q c _ f1 T1 (Nat.le_succ _)⟩
end
end K3

set_option Elab.async false
set_option linter.all false
set_option maxRecDepth 100000
set_option maxHeartbeats 4000000
/-! made -/
namespace K3
open PySem L2 Fo Ndk
open C8 (Cal pe_c pss_cut Met pe_mt pe_mt0)
section
variable {P : Program} {w : World} {K : PySem.W.Frag} {mg : Str → Option Value} {base : Heap} {C : Addr}
def tb (b : Tb) (f : Fm) (xs : List Str) : Nat := Bts.tab b.m b.rs b.e f xs
def kidT (b : Tb) (f : Fm) (xs : List Str) : List Nat := f.kids.map fun k => tb b k (wst f xs)
def spMade (K : PySem.W.Frag) (P : Program) (w : World) (C : Addr) : Sp := fun vs H Q _ => ∃ (b : Tb) (c : Kn) (v : V) (f : Fm) (x R : Addr) (xs : List Str), vs = [.ref b.t, v, .ref x, .ref R] ∧ TbAt K P w C b c H ∧ FmAt K H v f ∧ isA f = false ∧ SqT K H x (xs.map V.str) ∧ xs.length ≤ 5 ∧ (isQ f = true → xs.length ≤ 4) ∧ b.m ≤ 4 ∧ R ≠ b.lS ∧ H R = some (.lst ((kidT b f xs).map nv)) ∧
  ∀ H', Fr b H H' → TbAt K P w C b c H' → Q (nv (tb b f xs)) H'
abbrev nMade : List Str := ["self", "formula", "names", "rows", "kind", "full"]
abbrev pMade : List Str := ["self", "formula", "names", "rows"]
theorem scMade : FnScope nMade pMade (defScope mMade) := ⟨rfl, rfl, rfl, by decide +kernel, rfl, by decide +kernel, by decide +kernel⟩
theorem ok_made {f : Addr} {fd : FuncData} (T : TbT K C) (cBoth : Cal P w K mg base 1 "both" (spBoth K) []) (cEither : Cal P w K mg base 1 "either" (spEither K) []) (Mfull : Met P w K mg base 2 C "full" (spFull K P w C) []) (Mparted : Met P w K mg base 3 C "parted" (spPart K P w C) []) (F : Fun K "made" "Tables.made" mMade f fd) : FnOk P w K mg base CX0 4 f fd pMade (spMade K P w C) := by
  refine F.ok scMade (fun vs H Q E h => ?_) (fun cdv A outer s H vs Q E hr h => ?_)
  · obtain ⟨b, c, v, f, x, R, xs, rfl, _⟩ := h
    rfl
  obtain ⟨b, c, v, fm, x, R, xs, rfl, hT, hF, hA, hx, hl, hq, hm, hRS, hR0, q⟩ := h
  have nd := scMade.nd
  refine ⟨_, (pss_cons (ps_set (i := 4) nd rfl (.inl rfl) (pe_ix ix_tup (pv 1) pe_int (fun _ _ => rfl)))
    (pss_cons (ps_set (i := 5) nd rfl (.inl rfl) (pe_mt Mfull hr (by decide) (pv 0) (pa_cons (pv 2) pa_nil)))
    (pss_cons (ps_if (pt_cmpR op_eq (pv 4) pe_str (nomark _)) (pss_one (ps_ret (pe_op op_xor (pv 5) (pe_ix ix_list (pv 3) pe_int (fun _ _ => rfl))))) pss_nil)
    (pss_cons (ps_if (pt_cmpR op_in_seq (pv 4) (pe_tup (pa_cons pe_str (pa_cons pe_str pa_nil))) rfl) (pss_one (ps_set (i := 3) nd rfl (.inl rfl) (pe_mt Mparted hr (by decide) (pv 0) (pa_cons (pe_ix ix_list (pv 3) pe_int (fun _ _ => rfl)) (pa_cons (pv 2) pa_nil))))) pss_nil)
    (pss_cons (ps_if (pt_cmpR op_in_seq (pv 4) (pe_tup (pa_cons pe_str (pa_cons pe_str pa_nil))) rfl) (pss_one (ps_ret (pe_c cBoth hr (by decide) rfl (pa_cons (pv 3) (pa_cons (pv 5) pa_nil))))) pss_nil)
    (pss_one (ps_ret (pe_c cEither hr (by decide) rfl (pa_cons (pv 3) pa_nil))))))))), ?_⟩
  have hl' : (xs.map V.str).length ≤ 5 := by rw [List.length_map]; exact hl
  have hRN : R ≠ b.dN := by
    obtain ⟨es, z2⟩ := hT.kn
    intro z; rw [z, z2] at hR0; cases hR0
  cases fm with
  | rel _ _ => cases hA
  | same _ _ => cases hA
  | neg g =>
    rw [FmAt] at hF
    obtain ⟨a, u, rfl, h1, h2⟩ := hF
    refine ⟨_, rfl, a, _, _, _, rfl, rfl, h1, at_of (j := 0) rfl rfl, ?_⟩
    refine ⟨_, rfl, b.t, b.dx, _, rfl, hT.1, no_full b, _, rfl, b, c, x, _, rfl, hT, hx, hl', hm, fun H1 f1 T1 => ?_⟩
    refine ⟨_, rfl, rfl, true, (by decide +kernel), ?_⟩
    have hR1 : SqL K H1 R ((kidT b (.neg g) xs).map nv) := SqL.of (f1 R _ hRS hRN hR0)
    refine ⟨_, rfl, _, rfl, R, _, _, _, rfl, rfl, hR1, at_of (j := 0) rfl rfl, _, _, rfl, rfl, ?_⟩
    have := q H1 f1 T1
    rw [tb, ← Bts.tab_neg] at this
    show Q (V.int (Builtin.bitXor _ _)) H1
    rw [List.length_map, xor_nat]
    exact this
  | con bq fs =>
    rw [FmAt] at hF
    obtain ⟨a, t, us, rfl, h1, h2, h3⟩ := hF
    refine ⟨_, rfl, a, _, _, _, rfl, rfl, h1, at_of (j := 0) rfl rfl, ?_⟩
    refine ⟨_, rfl, b.t, b.dx, _, rfl, hT.1, no_full b, _, rfl, b, c, x, _, rfl, hT, hx, hl', hm, fun H1 f1 T1 => ?_⟩
    have hR1 := f1 R _ hRS hRN hR0
    refine ⟨_, rfl, rfl, false, (by cases bq <;> decide +kernel), ?_⟩
    refine ⟨_, rfl, l2, fun S nS => ⟨S, _, rfl, .inr (SqT.of upd_same), rfl, rfl, false, (by cases bq <;> decide +kernel), ?_⟩⟩
    have s2 := same_new nS (.tup [.str "some", .str "all"])
    have T2 := T1.new (o := .tup [.str "some", .str "all"]) nS
    have hR2 := s2 _ _ hR1
    generalize upd H1 S (.tup [.str "some", .str "all"]) = H2 at *
    refine ⟨_, rfl, l2, fun S2 nS2 => ⟨S2, _, rfl, .inr (SqT.of upd_same), rfl, rfl, bq, (by cases bq <;> decide +kernel), ?_⟩⟩
    have s3 := same_new nS2 (.tup [.str "and", .str "all"])
    have T3 := T2.new (o := .tup [.str "and", .str "all"]) nS2
    have hR3 := s3 _ _ hR2
    generalize upd H2 S2 (.tup [.str "and", .str "all"]) = H3 at *
    have q3 := q H3 (f1.trans (.of_same (s2.trans s3))) T3
    cases bq with
    | true =>
      refine ⟨_, rfl, _, rfl, R, _, _, rfl, SqL.of hR3, ?_⟩
      rw [List.length_map]
      rw [tb, ← Bts.tab_and] at q3
      exact q3
    | false =>
      refine ⟨_, rfl, R, _, rfl, SqL.of hR3, ?_⟩
      rw [tb, ← Bts.tab_or] at q3
      exact q3
  | qu bq y g =>
    rw [FmAt] at hF
    obtain ⟨a, u, rfl, h1, h2⟩ := hF
    have lq := hq rfl
    refine ⟨_, rfl, a, _, _, _, rfl, rfl, h1, at_of (j := 0) rfl rfl, ?_⟩
    refine ⟨_, rfl, b.t, b.dx, _, rfl, hT.1, no_full b, _, rfl, b, c, x, _, rfl, hT, hx, hl', hm, fun H1 f1 T1 => ?_⟩
    have hR1 := f1 R _ hRS hRN hR0
    refine ⟨_, rfl, rfl, false, (by cases bq <;> decide +kernel), ?_⟩
    refine ⟨_, rfl, l2, fun S nS => ⟨S, _, rfl, .inr (SqT.of upd_same), rfl, rfl, true, (by cases bq <;> decide +kernel), ?_⟩⟩
    have s2 := same_new nS (.tup [.str "some", .str "all"])
    have T2 := T1.new (o := .tup [.str "some", .str "all"]) nS
    have hR2 := s2 _ _ hR1
    have hx2 := Tk.of_same (K := K) s2 _ _ (hT.tk f1 _ _ hx)
    generalize upd H1 S (.tup [.str "some", .str "all"]) = H2 at *
    have ey : nv (tb b g (xs ++ [y])) = nv (Bts.bits (b.m ^ ((xs.map V.str).length + 1)) fun i => Fm.tv b.m b.rs g (Bts.envI b.m b.e (xs ++ [y]) i)) := by
      unfold tb Bts.tab
      rw [List.length_map, List.length_append]
      rfl
    refine ⟨_, rfl, b.t, b.dx, _, rfl, T2.1, no_parted b, _, rfl, R, _, _, _, rfl, rfl, SqL.of hR2, at_of (j := 0) rfl rfl, _, rfl, b, c, x, _, _, congrArg (fun z => [V.ref b.t, z, V.ref x]) ey, T2, hx2, by rw [List.length_map]; exact lq, hm, fun D H3 f3 T3 nD hD => ?_⟩
    rw [List.length_map] at hD
    have hD' : H3 D = some (.lst ((((List.range b.m).map fun (j : Nat) (i : Nat) => Fm.tv b.m b.rs g (Fm.set1 (Bts.envI b.m b.e xs i) y (j : Int))).map (Bts.bits (b.m ^ xs.length))).map nv)) := by
      rw [hD, ← Bts.tab_part, List.map_map]
      rfl
    refine ⟨_, rfl, l2, fun S2 nS2 => ⟨S2, _, rfl, .inr (SqT.of upd_same), rfl, rfl, !bq, (by cases bq <;> decide +kernel), ?_⟩⟩
    have s4 := same_new nS2 (.tup [.str "and", .str "all"])
    have T4 := T3.new (o := .tup [.str "and", .str "all"]) nS2
    have hD4 := s4 _ _ hD'
    generalize upd H3 S2 (.tup [.str "and", .str "all"]) = H4 at *
    have q4 := q H4 (f1.trans ((Fr.of_same s2).trans (f3.trans (.of_same s4)))) T4
    cases bq with
    | false =>
      refine ⟨_, rfl, _, rfl, D, _, _, rfl, SqL.of hD4, ?_⟩
      rw [List.length_map]
      rw [tb, ← Bts.tab_all] at q4
      exact q4
    | true =>
      refine ⟨_, rfl, D, _, rfl, SqL.of hD4, ?_⟩
      rw [tb, ← Bts.tab_some] at q4
      exact q4
end
end K3

set_option Elab.async false
set_option linter.all false
set_option maxRecDepth 100000
set_option maxHeartbeats 4000000
/-! of -/
namespace K3
open PySem L2 Fo Ndk
open C8 (Cal pe_c pss_cut Met pe_mt pe_mt0)
theorem pe_bm0_k {X : Cx} {K : PySem.W.Frag} (h : X.K = K) {o : Expr} {to : TE} {name : Str} {apos cpos : Pos} {T id : String} {r : V → List V → Hp → VK → Prop} (a : PlainAttrs T) (b : Slot T name id) (c : typeOf (Value.builtin id) = pure (Value.type "method_descriptor"))
    (d : MtR X id r) (e : PE X o to) (ha : attributeBase o name X.env (eval o X.env) = eval o X.env := by rfl) (hl : (apos.endLine == cpos.line) = true := by rfl) : PE X ((o.Attribute name apos).Call [] [] cpos) (tBM0 K T r to) := by
  subst h
  exact pe_bm0 a b c d e ha hl
mutual
/-- its relations are known, with as many names as places -/
def ro (b : Tb) : Fm → Prop
  | .rel n zs => FitR b n zs.length ∧ zs.length ≤ 2
  | .same _ _ => True
  | .neg f => ro b f
  | .con _ fs => ros b fs
  | .qu _ _ f => ro b f
def ros (b : Tb) : List Fm → Prop
  | [] => True
  | f :: fs => ro b f ∧ ros b fs
end
theorem ros_mem {b : Tb} : ∀ {fs : List Fm} {f : Fm}, ros b fs → f ∈ fs → ro b f
  | g :: fs, f, h, hm => by
    rw [ros] at h
    rcases List.mem_cons.mp hm with e | e
    · rw [e]; exact h.1
    · exact ros_mem h.2 e
def Lev (f : Fm) (xs : List Str) : Prop := xs.length + f.rk ≤ 5
theorem lev_go : ∀ (g : Fm) (xs : List Str), Lev g xs → ∀ k ∈ g.kids, Lev k (wst g xs) := by
  intro g xs h k hk
  unfold Lev at h ⊢
  cases g with
  | rel _ _ => cases hk
  | same _ _ => cases hk
  | neg f => rw [List.mem_singleton.mp hk]; exact h
  | con c fs =>
    have := Fm.rks_mem (show k ∈ fs from hk)
    have h' : xs.length + Fm.rks fs ≤ 5 := h
    show xs.length + k.rk ≤ 5
    omega
  | qu c y f =>
    rw [List.mem_singleton.mp hk]
    have h' : xs.length + (1 + f.rk) ≤ 5 := h
    show (xs ++ [y]).length + f.rk ≤ 5
    rw [List.length_append, List.length_singleton]
    omega
/-- it fits -/
def Okf (b : Tb) (f : Fm) (xs : List Str) : Prop := Lev f xs ∧ ro b f ∧ ∀ y ∈ f.fr, FitN b xs y
theorem okf_go (b : Tb) : ∀ (g : Fm) (xs : List Str), Okf b g xs → ∀ k ∈ g.kids, Okf b k (wst g xs) := by
  intro g xs h k hk
  obtain ⟨h1, h2, h3⟩ := h
  refine ⟨lev_go g xs h1 k hk, ?_⟩
  cases g with
  | rel _ _ => cases hk
  | same _ _ => cases hk
  | neg f => rw [List.mem_singleton.mp hk]; exact ⟨h2, h3⟩
  | con c fs => exact ⟨ros_mem h2 hk, fun y hy => h3 y (Fm.mem_frs.mpr ⟨k, hk, hy⟩)⟩
  | qu c y f =>
    rw [List.mem_singleton.mp hk]
    refine ⟨h2, fun z hz hn => ?_⟩
    have hn' : z ∉ xs ++ [y] := hn
    rw [List.mem_append, not_or] at hn'
    refine h3 z ?_ hn'.1
    rw [Fm.fr, List.mem_filter]
    exact ⟨hz, decide_eq_true fun e => hn'.2 (by rw [e]; exact List.mem_singleton_self _)⟩
theorem fit_of {b : Tb} {f : Fm} {xs : List Str} (h : Okf b f xs) : FitA b f xs := by
  obtain ⟨_, h2, h3⟩ := h
  cases f with
  | rel n zs => exact ⟨h2.1, h2.2, h3⟩
  | same y z => exact ⟨h3 y (by simp [Fm.fr]), h3 z (by simp [Fm.fr])⟩
  | neg _ => trivial
  | con _ _ => trivial
  | qu _ _ _ => trivial
section
variable {P : Program} {w : World} {K : PySem.W.Frag} {mg : Str → Option Value} {base : Heap} {C : Addr}
def tbp (b : Tb) (p : Fm × List Str) : Nat := tb b p.1 p.2
theorem kid_tbp (b : Tb) (g : Fm) (d : List Str) : (g.kids.map fun k => (k, wst g d)).map (tbp b) = kidT b g d := by rw [List.map_map]; rfl
def spOf (K : PySem.W.Frag) (P : Program) (w : World) (C : Addr) : Sp := fun vs H Q _ => ∃ (b : Tb) (c : Kn) (v : V) (f : Fm) (x : Addr) (xs : List Str), vs = [.ref b.t, v, .ref x] ∧ TbAt K P w C b c H ∧ FmAt K H v f ∧ SqT K H x (xs.map V.str) ∧ Okf b f xs ∧ b.m ≤ 4 ∧ 0 < b.m ∧ f.ct ≤ 1000 ∧ c.length ≤ 100 ∧
  ∀ c' H', Fr b H H' → TbAt K P w C b c' H' → Q (nv (tb b f xs)) H'
abbrev nOf : List Str := ["self", "formula", "names", "found", "here", "within", "rows", "_"]
abbrev pOf : List Str := ["self", "formula", "names"]
theorem scOf : FnScope nOf pOf (defScope mOf) := ⟨rfl, rfl, rfl, by decide +kernel, rfl, by decide +kernel, by decide +kernel⟩
theorem ok_of {f : Addr} {fd : FuncData} (B : Bt mg) (cInner : Cal P w K mg base 1 "inner" (spInner K) []) {fN : Addr} (hN : mg "names_within" = some (.ref fN)) (cH : Cal P w K mg base 2 "handed_down" (Hd.spHanded K (NmAt K) wst Lev fN) []) (Mplain : Met P w K mg base 5 C "plain" (spPlain K P w C) []) (Mmade : Met P w K mg base 4 C "made" (spMade K P w C) [])
    (F : Fun K "of" "Tables.of" mOf f fd) : FnOk P w K mg base CX0 6 f fd pOf (spOf K P w C) := by
  refine F.ok scOf (fun vs H Q E h => ?_) (fun cdv A outer s H vs Q E hr h => ?_)
  · obtain ⟨b, c, v, f, x, xs, rfl, _⟩ := h
    rfl
  obtain ⟨b, c, v, fm, x, xs, rfl, hT, hF, hx, hO, hm, hm0, hct, hc, q⟩ := h
  have nd := scOf.nd
  refine ⟨_, (pss_cons (ps_set (i := 3) nd rfl (.inr rfl) (pe_lst pa_nil))
    (pss_cons (ps_for PassesOwn.never rfl (pi_list (pe_revL (pe_c cH hr (by decide) rfl (pa_cons (pv 1) (pa_cons (pv 2) (pa_cons (pe_glob (v := .ref fN) rfl hN rfl) pa_nil)))))) (pg_tup rfl (pgs_cons (pg_name (i := 4) nd rfl (.inl rfl)) (pgs_cons (pg_name (i := 5) nd rfl (.inl rfl)) pgs_nil))) (pss_one (ps_if (pt_cmpR op_in_seq (pe_ix ix_tup (pv 4) pe_int (fun _ _ => rfl)) (pe_tup (pa_cons pe_str (pa_cons pe_str pa_nil))) rfl) (pss_one (ps_expr (pe_bm PySem.F.plainAttrs_list PySem.F.slot_list_append PySem.F.type_list_append mt_append (pv 3) (pa_cons (pe_mt Mplain hr (by decide) (pv 0) (pa_cons (pv 4) (pa_cons (pv 5) pa_nil))) pa_nil)))) (pss_cons (ps_setLc (i := 6) (own := [("_", 7)]) (g := gName 7) (tt := tYes) rfl nd rfl rfl (sw_true rfl rfl rfl (by decide +kernel)) (pi_tup (pe_c cInner hr (by decide) rfl (pa_cons (pv 4) pa_nil))) (blkOk_by (own := [("_", 7)]) (N := nOf) (sc := defScope mOf) (by decide +kernel)) (fun _ _ _ _ _ => (pg_name (i := 7) nd rfl (Or.inl rfl))) (fun _ _ _ _ _ => pts_nil) (fun _ _ _ _ _ => (pe_bm0_k (K := K) rfl PySem.F.plainAttrs_list PySem.F.slot_list_pop PySem.F.type_list_pop mt_pop (pv 3))))
    (pss_one (ps_expr (pe_bm PySem.F.plainAttrs_list PySem.F.slot_list_append PySem.F.type_list_append mt_append (pv 3) (pa_cons (pe_mt Mmade hr (by decide) (pv 0) (pa_cons (pv 4) (pa_cons (pv 5) (pa_cons (pv 6) pa_nil)))) pa_nil))))))))
    (pss_one (ps_ret (pe_ix ix_list (pv 3) pe_int (fun _ _ => rfl)))))), ?_⟩
  refine ⟨Nat.zero_le _, fun M nM => ?_⟩
  have nM' := hT.ne nM
  have k0 := tk_new (K := K) nM (.lst [])
  refine ⟨_, rfl, _, rfl, v, .ref x, fm, xs, rfl, hF.tk k0, ⟨x, rfl, k0 _ _ hx⟩, hO.1, hct, fun U us H1 s1 nU hU kU => ⟨U, us, rfl, SqL.of hU, fun R nR => ⟨R, rfl, ⟨_, SqL.of upd_same⟩, ?_⟩⟩⟩
  have lL : (Hd.hd wst fm xs).length = fm.ct := Hd.hd_len fm xs
  have hOk : ∀ p ∈ Hd.hd wst fm xs, Okf b p.1 p.2 := by
    have e : Hd.flat wst [(fm, xs)] = Hd.hd wst fm xs := by rw [Hd.flat_cons, Hd.flat_nil, List.append_nil]
    rw [← e]
    exact Hd.hd_all (R := Okf b) (okf_go b) _ _ (Nat.le_refl _) fun p hp => by rw [List.mem_singleton.mp hp]; exact hO
  have nMR : M ≠ R := ne_of_none (s1 _ _ upd_same) nR
  have s2 := same_new nR (.lst us.reverse)
  have s02 := ((same_new nM (.lst [])).trans s1).trans s2
  have kR := (all2_rev kU).imp fun _ _ h => Hd.PrAt.tk stN (.of_same s2) h
  have hM2 := s2 _ _ (s1 _ _ upd_same)
  have hR2 : upd H1 R (.lst us.reverse) R = some (.lst us.reverse) := upd_same
  have nR0 : H R = none := ((same_new nM (.lst [])).trans s1).free nR
  have nR' := hT.ne nR0
  generalize upd H1 R (.lst us.reverse) = H2 at *
  refine for_list (xs := us.reverse) (fun i σ H' => ∃ (ts : List (Fm × List Str)) (ci : Kn) (here within rows z : Option V), σ = [some (.ref b.t), some v, some (.ref x), some (.ref M), here, within, rows, z] ∧ Fr b H H' ∧ Tk K H2 H' ∧ TbAt K P w C b ci H' ∧ ci.length ≤ c.length + i ∧ H' R = some (.lst us.reverse) ∧
    H' M = some (.lst ((ts.map (tbp b)).reverse.map nv)) ∧ Hd.flat wst ts = ((Hd.hd wst fm xs).reverse.take i).reverse) ⟨[], c, none, none, none, none, rfl, .of_same s02, Tk.refl _, hT.same s02, Nat.le_refl _, hR2, hM2, rfl⟩ (fun i σ H' _ ⟨_, _, _, _, _, _, _, _, _, _, _, h, _⟩ => SqL.of h) ?_ ?_
  · rintro i u σ H3 hi ⟨ts, ci, here, within, rows, z, rfl, fH, tH, Ti, hci, hR3, hM3, hts⟩
    have li0 := (List.getElem?_eq_some_iff.mp hi).1
    rw [List.length_reverse, kU.length, lL] at li0
    obtain ⟨⟨g, d⟩, hg, hu⟩ := (kR.imp fun _ _ h => Hd.PrAt.tk stN tH h).get hi
    obtain ⟨a, v', x', rfl, h1, h2, xa, rfl, h3⟩ := hu
    have hgm : (g, d) ∈ Hd.hd wst fm xs := List.mem_reverse.mp (List.mem_of_getElem? hg)
    have hOg := hOk _ hgm
    have lev := hOg.1
    have ld : d.length ≤ 5 := by unfold Lev at lev; simp only at lev; omega
    refine ⟨a, _, rfl, h1, rfl, _, _, rfl, _, _, rfl, rfl, ?_⟩
    obtain ⟨ha, zz, rr, rfl, hb, _, hz, _⟩ := fm_head h2
    refine ⟨_, rfl, ha, _, _, _, rfl, rfl, hb, at_of (j := 0) rfl rfl, l2, fun S nS => ⟨S, _, rfl, .inr (SqT.of upd_same), rfl, rfl, isA g, (by show V.bl (inV _ _) = _; rw [hz]), ?_⟩⟩
    have sS := same_new nS (.tup [.str "rel", .str "same"])
    have kS := Tk.of_same (K := K) sS
    have T4 := Ti.new (o := .tup [.str "rel", .str "same"]) nS
    have hM4 := sS _ _ hM3
    have hR4 := sS _ _ hR3
    have h2' := h2.tk kS
    have h3' := kS _ _ h3
    have f4 := fH.trans (Fr.of_same (b := b) sS)
    have t4 := tH.trans kS
    generalize upd H3 S (.tup [.str "rel", .str "same"]) = H4 at *
    -- the list splits
    have hX : Hd.flat wst [(fm, xs)] = ((Hd.hd wst fm xs).reverse.drop (i + 1)).reverse ++ (g, d) :: ((Hd.hd wst fm xs).reverse.take i).reverse := by
      have e : (Hd.hd wst fm xs).reverse = (Hd.hd wst fm xs).reverse.take i ++ (g, d) :: (Hd.hd wst fm xs).reverse.drop (i + 1) := by
        obtain ⟨li, e2⟩ := List.getElem?_eq_some_iff.mp hg
        rw [← e2, ← List.drop_eq_getElem_cons li, List.take_append_drop]
      have e3 := congrArg List.reverse e
      rw [List.reverse_reverse, List.reverse_append, List.reverse_cons, List.append_assoc] at e3
      rw [Hd.flat_cons, Hd.flat_nil, List.append_nil]
      exact e3
    obtain ⟨Y, hY⟩ := Hd.flat_mid g d _ _ _ _ (Nat.le_refl _) hX
    obtain ⟨ts2, rfl, hts2⟩ := Hd.flat_cut _ _ _ (hts.trans hY)
    have lfl := Hd.len_flat (st := wst) (g.kids.map (fun k => (k, wst g d)) ++ ts2)
    rw [hts, List.length_reverse, List.length_take, List.length_reverse, List.length_append, List.length_map, lL] at lfl
    have hnew : Hd.flat wst ((g, d) :: ts2) = ((Hd.hd wst fm xs).reverse.take (i + 1)).reverse := by
      rw [Hd.flat_head, hts, List.take_succ, hg, List.reverse_append]
      rfl
    rw [List.map_append, kid_tbp, List.reverse_append] at hM4
    refine ite2 (fun cc => ?_) (fun cc => ?_)
    · have ek : g.kids = [] := by
        cases g with
        | rel _ _ => rfl
        | same _ _ => rfl
        | neg _ => cases cc
        | con _ _ => cases cc
        | qu _ _ _ => cases cc
      have ekT : kidT b g d = [] := by unfold kidT; rw [ek]; rfl
      rw [ekT, List.reverse_nil, List.append_nil] at hM4
      refine ⟨_, rfl, .inl ⟨rfl, _, SqL.of hM4⟩, _, rfl, b.t, b.dx, _, rfl, T4.1, no_plain b, _, rfl, _, rfl, b, ci, _, g, xa, d, rfl, T4, h2', cc, h3', ld, hm, fit_of hOg, hm0, by omega, fun c5 H5 f5 T5 hc5 => ?_⟩
      have hM5 := f5 M _ nM'.2.1 nM'.2.2 hM4
      refine ⟨M, _, _, rfl, rfl, hM5, lineOk (by rw [List.length_map, List.length_reverse, List.length_map]; omega), (g, d) :: ts2, c5, _, _, _, _, rfl, (f4.trans f5).to nM, ?_, hT.wr T5 nM hM5, by omega, by rw [upd_ne nMR.symm]; exact f5 R _ nR'.2.1 nR'.2.2 hR4, ?_, hnew⟩
      · exact (t4.trans (T4.tk f5)).trans (tk_lst hM5 _)
      · rw [upd_same, List.map_cons, List.reverse_cons, List.map_append]
        rfl
    · have hAg : isA g = false := by simpa using cc
      refine ⟨_, rfl, _, g, rfl, h2', fun t ks H5 s5 ht hk => ⟨t, rfl, ⟨_, ht⟩, fun D nD => ?_⟩⟩
      have T5 := T4.same s5
      have f5 := f4.trans (Fr.of_same (b := b) s5)
      have t5 := t4.trans (Tk.of_same s5)
      have hM5 := s5 _ _ hM4
      have hR5 := s5 _ _ hR4
      have h2s := h2'.tk (Tk.of_same s5)
      have h3s := Tk.of_same (K := K) s5 _ _ h3'
      have nD' := T5.ne nD
      have nD0 : H D = none := Fr.free hT f5 nD nD'.2.1 nD'.2.2
      have nDM : M ≠ D := ne_of_none hM5 nD
      have nRD : R ≠ D := ne_of_none hR5 nD
      have lRR : (kidT b g d).length = ks.length := by unfold kidT; rw [List.length_map, hk.length]
      have lM2 : (ts2.map (tbp b)).reverse.length = ts2.length := by rw [List.length_reverse, List.length_map]
      have lkk : (kidT b g d).length = g.kids.length := by unfold kidT; rw [List.length_map]
      generalize hRRg : kidT b g d = RR at *
      generalize hM2g : (ts2.map (tbp b)).reverse = M2 at *
      refine lc_tup (xs := ks) (fun j H' => H' D = some (.lst ((RR.take j).map nv)) ∧ H' M = some (.lst ((M2 ++ (RR.drop j).reverse).map nv)) ∧ Fr b H H' ∧ TbAt K P w C b ci H' ∧ Tk K H5 H' ∧ H' R = some (.lst us.reverse)) ⟨upd_same, same_new nD _ _ _ hM5, f5.to nD0, T5.new nD, tk_new nD _, same_new nD _ _ _ hR5⟩ (fun j H' _ h => h.2.2.2.2.1 _ _ ht) ?_ ?_
      · rintro j y H6 hj ⟨hD6, hM6, f6, T6, t6, hR6⟩
        have lj : j < RR.length := by rw [lRR]; exact (List.getElem?_eq_some_iff.mp hj).1
        have es : (M2 ++ (RR.drop j).reverse).map nv = (M2 ++ (RR.drop (j + 1)).reverse).map nv ++ [nv RR[j]] := by
          rw [List.drop_eq_getElem_cons lj, List.reverse_cons, ← List.append_assoc, List.map_append]
          rfl
        rw [es] at hM6
        refine ⟨rfl, _, rfl, .inl ⟨rfl, _, SqL.of hM6⟩, M, _, _, rfl, rfl, hM6, at_last _ _, ?_⟩
        rw [drop_last]
        have T7 := hT.wr (o := .lst ((M2 ++ (RR.drop (j + 1)).reverse).map nv)) T6 nM hM6
        have t7 := t6.trans (tk_lst (K := K) hM6 (.lst ((M2 ++ (RR.drop (j + 1)).reverse).map nv)))
        have f7 := f6.to (o := .lst ((M2 ++ (RR.drop (j + 1)).reverse).map nv)) nM
        have hD7 : upd H6 M (.lst ((M2 ++ (RR.drop (j + 1)).reverse).map nv)) D = some (.lst ((RR.take j).map nv)) := by rw [upd_ne nDM.symm]; exact hD6
        have hR7 : upd H6 M (.lst ((M2 ++ (RR.drop (j + 1)).reverse).map nv)) R = some (.lst us.reverse) := by rw [upd_ne nMR.symm]; exact hR6
        have hM7 : upd H6 M (.lst ((M2 ++ (RR.drop (j + 1)).reverse).map nv)) M = some (.lst ((M2 ++ (RR.drop (j + 1)).reverse).map nv)) := upd_same
        refine ⟨_, hD7, lineOk (by rw [List.length_map, List.length_take]; omega), ?_, ?_, f7.to nD0, T5.wr T7 nD hD7, t7.trans (tk_lst hD7 _), ?_⟩
        · rw [upd_same, List.take_succ, List.getElem?_eq_getElem lj, List.map_append]
          rfl
        · rw [upd_ne nDM]; exact hM7
        · rw [upd_ne nRD]; exact hR7
      · rintro H6 ⟨hD6, hM6, f6, T6, t6, hR6⟩
        rw [← lRR, List.drop_length, List.reverse_nil, List.append_nil] at hM6
        rw [← lRR, List.take_length, ← hRRg] at hD6
        have hq4 : isQ g = true → d.length ≤ 4 := fun z => by
          cases g with
          | qu c y k =>
            have lev' : d.length + (1 + k.rk) ≤ 5 := lev
            omega
          | rel _ _ => cases z
          | same _ _ => cases z
          | neg _ => cases z
          | con _ _ => cases z
        refine ⟨_, rfl, .inl ⟨rfl, _, SqL.of hM6⟩, _, rfl, b.t, b.dx, _, rfl, T6.1, no_made b, _, rfl, _, rfl, _, rfl, b, ci, _, g, xa, D, d, rfl, T6, h2s.tk t6, hAg, t6 _ _ h3s, ld, hq4, hm, nD'.2.1, hD6, fun H7 f7 T7 => ?_⟩
        have hM7 := f7 M _ nM'.2.1 nM'.2.2 hM6
        refine ⟨M, _, _, rfl, rfl, hM7, lineOk (by rw [List.length_map, lM2]; omega), (g, d) :: ts2, ci, _, _, _, _, rfl, (f6.trans f7).to nM, ?_, hT.wr T7 nM hM7, by omega, by rw [upd_ne nMR.symm]; exact f7 R _ nR'.2.1 nR'.2.2 hR6, ?_, hnew⟩
        · exact ((t5.trans t6).trans (T6.tk f7)).trans (tk_lst hM7 _)
        · rw [upd_same, List.map_cons, List.reverse_cons, hM2g, List.map_append]
          rfl
  · rintro σ H3 ⟨ts, ci, here, within, rows, z, rfl, fH, tH, Ti, hci, hR3, hM3, hts⟩
    rw [List.length_reverse, kU.length, ← List.length_reverse (as := Hd.hd wst fm xs), List.take_length, List.reverse_reverse] at hts
    have e : Hd.flat wst ts = Hd.flat wst [(fm, xs)] ++ [] := by
      rw [hts, List.append_nil, Hd.flat_cons, Hd.flat_nil, List.append_nil]
    obtain ⟨ts2, rfl, h2⟩ := Hd.flat_cut _ _ _ e
    cases ts2 with
    | cons p ps => rw [Hd.flat_head] at h2; cases h2
    | nil => exact ⟨_, rfl, M, _, _, _, rfl, rfl, SqL.of hM3, at_of (j := 0) rfl rfl, q ci H3 fH Ti⟩
end
end K3

set_option Elab.async false
set_option linter.all false
set_option maxRecDepth 100000
set_option maxHeartbeats 4000000
/-! __init__, is_true -/
namespace K3
open PySem L2 Fo Ndk
open C8 (Cal pe_c pss_cut Met Mak pe_mt pe_mt0 pe_mk)
section
variable {P : Program} {w : World} {K : PySem.W.Frag} {mg : Str → Option Value} {base : Heap} {C : Addr}
theorem rows_app (a : List (Str × List (List Int))) (r : Str × List (List Int)) (n : Str) (ts : List (List Int)) (h : Fm.rows (a ++ [r]) n = some ts) : Fm.rows a n = some ts ∨ (r.1 = n ∧ ts = r.2) := by
  induction a with
  | nil =>
    rw [List.nil_append, Fm.rows] at h
    by_cases z : r.1 = n
    · rw [if_pos z] at h
      injection h with h
      exact .inr ⟨z, h.symm⟩
    · rw [if_neg z] at h; cases h
  | cons q a ih =>
    rw [List.cons_append, Fm.rows] at h
    rw [Fm.rows]
    by_cases z : q.1 = n
    · rw [if_pos z] at h ⊢
      exact .inl h
    · rw [if_neg z] at h ⊢
      exact ih h
theorem rows_in {a : List (Str × List (List Int))} {n : Str} {ts : List (List Int)} (h : Fm.rows a n = some ts) : ∃ r ∈ a, r.1 = n ∧ r.2 = ts := by
  induction a with
  | nil => cases h
  | cons q a ih =>
    rw [Fm.rows] at h
    by_cases z : q.1 = n
    · rw [if_pos z] at h
      injection h with h
      exact ⟨q, List.mem_cons_self, z, h⟩
    · rw [if_neg z] at h
      obtain ⟨r, h1, h2⟩ := ih h
      exact ⟨r, List.mem_cons_of_mem _ h1, h2⟩
theorem tk_butI {r : Addr} {H H' : Hp} {C dx : Addr} {fs : List (Str × V)} (x : But r H H') (y : H r = some (.ins C dx fs)) : Tk K H H' := fun a xs h => by
  rcases h with (h | ⟨o, h⟩) | h
  · exact .inl (.inl (x a _ (fun z => by rw [z, y] at h; cases h) h))
  · exact .inl (.inr ⟨o, x a _ (fun z => by rw [z, y] at h; cases h) h⟩)
  · exact .inr h
def spTInit (K : PySem.W.Frag) (P : Program) (w : World) (C : Addr) : Sp := fun vs H Q _ => ∃ (t dx : Addr) (sv : V) (dF : Addr) (m : Nat) (rels : List (Str × List (List Int))) (kv : List (L2.Key × V)) (e : Str → Int), vs = [.ref t, sv, .ref dF] ∧ H t = some (.ins C dx []) ∧ StrAt K H sv m rels ∧ H dF = some (.dK kv) ∧
  (rels.map (·.1)).Nodup ∧ rels.length ≤ 100 ∧ (∀ r ∈ rels, r.2.length ≤ 16) ∧ ∀ (dR lS dN : Addr) (H' : Hp), But t H H' → H dR = none → H lS = none → H dN = none → TbAt K P w C ⟨t, dx, dR, dF, lS, dN, m, rels, e, kv⟩ [] H' → Q .non H'
abbrev nInit : List Str := ["self", "structure", "fixed", "name", "_", "rows"]
abbrev pInit : List Str := ["self", "structure", "fixed"]
theorem scInit : FnScope nInit pInit (defScope mInit) := ⟨rfl, rfl, rfl, by decide +kernel, rfl, by decide +kernel, by decide +kernel⟩
theorem ok_init {f : Addr} {fd : FuncData} (T : TbT K C) (F : Fun K "__init__" "Tables.__init__" mInit f fd) : FnOk P w K mg base CX0 1 f fd pInit (spTInit K P w C) := by
  refine F.ok scInit (fun vs H Q E h => ?_) (fun cdv A outer s H vs Q E hr h => ?_)
  · obtain ⟨t, dx, sv, dF, m, rels, kv, e, rfl, _⟩ := h
    rfl
  obtain ⟨t, dx, sv, dF, m, rels, kv, e, rfl, ht, hs, hdF, hno, hrl, hr16, q⟩ := h
  have nd := scInit.nd
  refine ⟨_, (pss_cons (ps_fld (pv 0) (pe_ix ix_tup (pv 1) pe_int (fun _ _ => rfl)) rfl)
    (pss_cons (ps_fld (pv 0) (pe_dc (own := [("name", 3), ("_", 4), ("rows", 5)]) (g := gTup K 3 (gCons (gName 3) (gCons (gName 4) (gCons (gName 5) (gNil))))) (tt := tYes) rfl nd (pi_tup (pe_ix ix_tup (pv 1) pe_int (fun _ _ => rfl))) (blkOk_by (own := [("name", 3), ("_", 4), ("rows", 5)]) (N := nInit) (sc := defScope mInit) (by decide +kernel)) (fun _ _ _ _ _ => (pg_tup_k (K := K) rfl rfl (pgs_cons (pg_name (i := 3) nd rfl (Or.inl rfl)) (pgs_cons (pg_name (i := 4) nd rfl (Or.inl rfl)) (pgs_cons (pg_name (i := 5) nd rfl (Or.inl rfl)) pgs_nil))))) (fun _ _ _ _ _ => pts_nil) (fun _ _ _ _ _ => (pv 3)) (fun _ _ _ _ _ => (pv 5))) rfl)
    (pss_cons (ps_fld (pv 0) (pv 2) rfl)
    (pss_cons (ps_fld (pv 0) (pe_lst (pa_cons pe_int pa_nil)) rfl)
    (pss_one (ps_fld (pv 0) Ndk.pe_ndnew rfl)))))), ?_⟩
  obtain ⟨sa, st, sus, rfl, hs1, hs2, hs3⟩ := hs
  have nFt : dF ≠ t := fun z => by rw [z, ht] at hdF; cases hdF
  refine ⟨_, rfl, sa, _, _, _, rfl, rfl, hs1, at_of (j := 1) rfl rfl, _, rfl, t, C, dx, [], rfl, ht, T.cl, T.nm, (by show 0 < 1000; decide), ?_⟩
  have ht1 : upd H t (.ins C dx (putF "many" (.int (m : Int)) [])) t = some (.ins C dx (putF "many" (.int (m : Int)) [])) := upd_same
  have b1 : But t H (upd H t (.ins C dx (putF "many" (.int (m : Int)) []))) := fun a o ne h => by rw [upd_ne ne]; exact h
  generalize upd H t (.ins C dx (putF "many" (.int (m : Int)) [])) = H1 at *
  have k1 : Tk K H H1 := tk_butI b1 ht
  refine ⟨_, rfl, sa, _, _, _, rfl, rfl, k1 _ _ hs1, at_of (j := 2) rfl rfl, st, rfl, ⟨_, k1 _ _ hs2⟩, fun D nD => ?_⟩
  have nDt : D ≠ t := fun z => by rw [z, ht1] at nD; cases nD
  have nD0 : H D = none := by
    cases e : H D with
    | none => rfl
    | some o => rw [b1 D o nDt e] at nD; cases nD
  refine dc_tup (xs := sus) (fun i H' => ∃ kvr, H' D = some (.dK kvr) ∧ kvr.length ≤ i ∧ Same H1 H' ∧ ∀ n ts, Fm.rows (rels.take i) n = some ts → ts.length ≤ 16 ∧ ∃ (ta : Addr) (us : List V), valV kvr (.inr n) = some (.ref ta) ∧ SqT K H' ta us ∧ All2 (RowAt K H') us ts) ⟨[], upd_same, Nat.le_refl 0, same_new nD _, fun n ts h => by cases h⟩ (fun i H' _ ⟨_, _, _, s, _⟩ => Tk.of_same s _ _ (k1 _ _ hs2)) ?_ ?_
  · rintro i u H2 hi ⟨kvr, hD, hlk, s2, hrr⟩
    obtain ⟨⟨rn, rr⟩, hg, p, tt, pl2, us, rfl, hp1, hp2, hp3⟩ := (hs3.imp fun _ _ h => (h.tk k1).tk (Tk.of_same s2)).get hi
    have li := (List.getElem?_eq_some_iff.mp hg).1
    refine ⟨p, _, rfl, hp1, rfl, _, _, rfl, _, _, rfl, _, _, rfl, rfl, rfl, _, rfl, _, rfl, kvr, .inr rn, rfl, hD, lineOk (by omega), putK kvr (.inr rn) (.ref tt), upd_same, Nat.le_trans put_len (by omega), same_to s2 nD, ?_⟩
    have k3 : Tk K H2 (upd H2 D (.dK (putK kvr (.inr rn) (.ref tt)))) := fun a xs h => by
      rcases h with (h | ⟨o, h⟩) | h
      · exact .inl (.inl (by rw [upd_ne (fun z => by rw [z, hD] at h; cases h)]; exact h))
      · exact .inl (.inr ⟨o, by rw [upd_ne (fun z => by rw [z, hD] at h; cases h)]; exact h⟩)
      · exact .inr h
    intro n ts h
    rw [List.take_succ, hg] at h
    rcases rows_app _ _ _ _ h with h | ⟨rfl, rfl⟩
    · obtain ⟨a1, ta, us', a2, a3, a4⟩ := hrr n ts h
      refine ⟨a1, ta, us', ?_, k3 _ _ a3, a4.imp fun _ _ z => z.tk k3⟩
      rw [valV_put, if_neg ?_]
      · exact a2
      · intro z
        have z' : n = rn := Sum.inr.inj z
        obtain ⟨r, hr1, hr2, _⟩ := rows_in h
        rw [z'] at hr2
        obtain ⟨j, hj1, hj2⟩ := List.getElem_of_mem hr1
        rw [List.length_take] at hj1
        rw [List.getElem_take] at hj2
        have hgi := (List.getElem?_eq_some_iff.mp hg).2
        have e1 : (rels.map (·.1))[j]'(by rw [List.length_map]; omega) = (rels.map (·.1))[i]'(by rw [List.length_map]; omega) := by
          rw [List.getElem_map, List.getElem_map, hj2, hr2, hgi]
        exact (List.pairwise_iff_getElem.mp hno) j i (by rw [List.length_map]; omega) (by rw [List.length_map]; omega) (by omega) e1
    · exact ⟨hr16 _ (List.mem_of_getElem? hg), tt, us, by rw [valV_put, if_pos rfl], k3 _ _ hp2, hp3.imp fun _ _ z => z.tk k3⟩
  rintro H2 ⟨kvr, hD, hlk, s2, hrr⟩
  rw [hs3.length, List.take_length] at hrr
  have ht2 := s2 _ _ ht1
  have b2 := b1.trans (.of_same s2)
  refine ⟨_, rfl, t, C, dx, _, rfl, ht2, T.cl, T.nr, (by show 1 < 1000; decide), ?_⟩
  have k2 : Tk K H1 (upd H2 t (.ins C dx (putF "rows" (.ref D) (putF "many" (.int (m : Int)) [])))) := tk_butI (r := t) (fun a o ne h => by rw [upd_ne ne]; exact s2 _ _ h) ht1
  have k23 : Tk K H2 (upd H2 t (.ins C dx (putF "rows" (.ref D) (putF "many" (.int (m : Int)) [])))) := tk_butI (r := t) (fun a o ne h => by rw [upd_ne ne]; exact h) ht2
  have b3 : But t H (upd H2 t (.ins C dx (putF "rows" (.ref D) (putF "many" (.int (m : Int)) [])))) := fun a o ne h => by rw [upd_ne ne]; exact b2 a o ne h
  have ht3 : upd H2 t (.ins C dx (putF "rows" (.ref D) (putF "many" (.int (m : Int)) []))) t = some (.ins C dx (putF "rows" (.ref D) (putF "many" (.int (m : Int)) []))) := upd_same
  have hD3 : upd H2 t (.ins C dx (putF "rows" (.ref D) (putF "many" (.int (m : Int)) []))) D = some (.dK kvr) := by rw [upd_ne nDt]; exact hD
  generalize upd H2 t (.ins C dx (putF "rows" (.ref D) (putF "many" (.int (m : Int)) []))) = H3 at *
  refine ⟨_, rfl, _, rfl, t, C, dx, _, rfl, ht3, T.cl, T.nf, (by show 2 < 1000; decide), ?_⟩
  have k34 : Tk K H3 (upd H3 t (.ins C dx (putF "fixed" (.ref dF) (putF "rows" (.ref D) (putF "many" (.int (m : Int)) []))))) := tk_butI (r := t) (fun a o ne h => by rw [upd_ne ne]; exact h) ht3
  have b4 : But t H (upd H3 t (.ins C dx (putF "fixed" (.ref dF) (putF "rows" (.ref D) (putF "many" (.int (m : Int)) []))))) := fun a o ne h => by rw [upd_ne ne]; exact b3 a o ne h
  have ht4 : upd H3 t (.ins C dx (putF "fixed" (.ref dF) (putF "rows" (.ref D) (putF "many" (.int (m : Int)) [])))) t = some (.ins C dx (putF "fixed" (.ref dF) (putF "rows" (.ref D) (putF "many" (.int (m : Int)) [])))) := upd_same
  have hD4 : upd H3 t (.ins C dx (putF "fixed" (.ref dF) (putF "rows" (.ref D) (putF "many" (.int (m : Int)) [])))) D = some (.dK kvr) := by rw [upd_ne nDt]; exact hD3
  generalize upd H3 t (.ins C dx (putF "fixed" (.ref dF) (putF "rows" (.ref D) (putF "many" (.int (m : Int)) [])))) = H4 at *
  refine ⟨l1, fun lS nS => ?_⟩
  have nSt : lS ≠ t := fun z => by rw [z, ht4] at nS; cases nS
  have nSD : lS ≠ D := fun z => by rw [z, hD4] at nS; cases nS
  have ht4' := same_new nS (.lst [V.int 1]) _ _ ht4
  refine ⟨_, rfl, t, C, dx, _, rfl, ht4', T.cl, T.ns, (by show 3 < 1000; decide), ?_⟩
  have nS0 : H lS = none := by
    cases e : H lS with
    | none => rfl
    | some o => rw [b4 lS o nSt e] at nS; cases nS
  generalize hG5 : upd (upd H4 lS (.lst [V.int 1])) t (.ins C dx (putF "sizes" (.ref lS) (putF "fixed" (.ref dF) (putF "rows" (.ref D) (putF "many" (.int (m : Int)) []))))) = H5
  have ht5 : H5 t = some (.ins C dx (putF "sizes" (.ref lS) (putF "fixed" (.ref dF) (putF "rows" (.ref D) (putF "many" (.int (m : Int)) []))))) := by rw [← hG5]; exact upd_same
  have b45 : But t H4 H5 := fun a o ne h => by rw [← hG5, upd_ne ne]; exact same_new nS _ _ _ h
  have hS5 : H5 lS = some (.lst [V.int 1]) := by rw [← hG5, upd_ne nSt]; exact upd_same
  refine fun dN nN => ⟨_, rfl, t, C, dx, _, rfl, same_new nN _ _ _ ht5, T.cl, T.nk, (by show 4 < 1000; decide), ?_⟩
  have nNt : dN ≠ t := fun z => by rw [z, ht5] at nN; cases nN
  have nNS : dN ≠ lS := fun z => by rw [z, hS5] at nN; cases nN
  have nN0 : H dN = none := by
    cases e : H dN with
    | none => rfl
    | some o => rw [b45 dN _ nNt (b4 dN o nNt e)] at nN; cases nN
  generalize hG6 : upd (upd H5 dN (NdO P w dN [])) t (.ins C dx (putF "known" (.ref dN) (putF "sizes" (.ref lS) (putF "fixed" (.ref dF) (putF "rows" (.ref D) (putF "many" (.int (m : Int)) [])))))) = H6
  have e6 : H6 t = some (.ins C dx (tfl ⟨t, dx, D, dF, lS, dN, m, rels, e, kv⟩)) := by rw [← hG6]; exact upd_same
  have b56 : But t H5 H6 := fun a o ne h => by rw [← hG6, upd_ne ne]; exact same_new nN _ _ _ h
  have bb : But t H H6 := b4.trans (b45.trans b56)
  have k46 : Tk K H4 H6 := tk_butI (b45.trans b56) ht4
  have k26 := (k23.trans k34).trans k46
  refine q D lS dN _ ?_ nD0 nS0 nN0 ?_
  · rw [← hG6] at bb; exact bb
  have TT : TbAt K P w C ⟨t, dx, D, dF, lS, dN, m, rels, e, kv⟩ [] H6 := by
    refine ⟨e6, ⟨kvr, b56 _ _ nDt (b45 _ _ nDt hD4), fun n ts h => ?_⟩, bb _ _ nFt hdF, ⟨0, by omega, ?_⟩, ⟨?_, fun x hx => by cases hx⟩, fun x hx => by cases hx⟩
    · obtain ⟨a1, ta, us, a2, a3, a4⟩ := hrr n ts h
      exact ⟨a1, ta, us, a2, k26 _ _ a3, a4.imp fun _ _ z => z.tk k26⟩
    · exact b56 _ _ nSt hS5
    · show H6 dN = some (NdO P w dN [])
      rw [← hG6, upd_ne nNt]
      exact upd_same
  rw [← hG6] at TT
  exact TT
end
end K3

set_option Elab.async false
set_option linter.all false
set_option maxRecDepth 100000
set_option maxHeartbeats 4000000
/-! is_true -/
namespace K3
open PySem L2 Fo Ndk
open C8 (Cal pe_c pss_cut Met Mak pe_mt pe_mt0 pe_mk)
section
variable {P : Program} {w : World} {K : PySem.W.Frag} {mg : Str → Option Value} {base : Heap} {C : Addr}
theorem same_but {H0 H H' : Hp} {x : Addr} (s : Same H0 H) (b : But x H H') (n : H0 x = none) : Same H0 H' := fun a o e => b a o (ne_of_none e n) (s a o e)
/-- a formula's relations are those of a structure -/
def RelsFit (m : Nat) (rels : List (Str × List (List Int))) (f : Fm) : Prop := ∀ b : Tb, b.m = m → b.rs = rels → ro b f
structure StrOk (m : Nat) (rels : List (Str × List (List Int))) : Prop where
  m0 : 0 < m
  m4 : m ≤ 4
  nd : (rels.map (·.1)).Nodup
  len : rels.length ≤ 100
  l16 : ∀ r ∈ rels, r.2.length ≤ 16
def spIsTrue (K : PySem.W.Frag) : Sp := fun vs H Q _ => ∃ (sv v : V) (d : Addr) (m : Nat) (rels : List (Str × List (List Int))) (kvs : List (L2.Key × V)) (e : Str → Int) (f : Fm), vs = [sv, v, .ref d] ∧ StrAt K H sv m rels ∧ StrOk m rels ∧ FmAt K H v f ∧ RelsFit m rels f ∧ f.rk ≤ 5 ∧ f.ct ≤ 1000 ∧ H d = some (.dK kvs) ∧
  VF f kvs e ∧ (∀ x ∈ f.fr, 0 ≤ e x ∧ e x < (m : Int)) ∧ ∀ (H' : Hp), Same H H' → Q (.bl (Fm.tv m rels f e)) H'
abbrev nIsTrue : List Str := ["structure", "formula", "values"]
theorem scIsTrue : FnScope nIsTrue nIsTrue (defScope sIsTrue) := ⟨rfl, rfl, rfl, by decide +kernel, rfl, by decide +kernel, by decide +kernel⟩
theorem ok_istrue {f : Addr} {fd : FuncData} (mTables : Mak P w K mg base 1 "Tables" C (spTInit K P w C) []) (Mof : Met P w K mg base 6 C "of" (spOf K P w C) []) (F : Fun K "is_true" "is_true" sIsTrue f fd) : FnOk P w K mg base CX0 7 f fd nIsTrue (spIsTrue K) := by
  refine F.ok scIsTrue (fun vs H Q E h => ?_) (fun cdv A outer s H vs Q E hr h => ?_)
  · obtain ⟨sv, v, d, m, rels, kvs, e, f, rfl, _⟩ := h
    rfl
  obtain ⟨sv, v, d, m, rels, kvs, e, fm, rfl, hS, hO, hF, hrf, hrk, hct, hd, hvf, hrg, q⟩ := h
  have nd := scIsTrue.nd
  refine ⟨_, (pss_one (ps_ret (pe_cmpR op_eq (pe_mt Mof hr (by decide) (pe_mk mTables hr (by decide) rfl (pa_cons (pv 0) (pa_cons (pv 2) pa_nil))) (pa_cons (pv 1) (pa_cons (pe_tup pa_nil) pa_nil))) pe_int (nomark _)))), ?_⟩
  refine ⟨_, rfl, _, rfl, fun t dx nt ndx ne => ?_⟩
  have s1 := (same_new ndx (.own t)).trans (same_new (by rw [upd_ne ne.symm]; exact nt) (.ins C dx []))
  have ht1 : upd (upd H dx (.own t)) t (.ins C dx []) t = some (.ins C dx []) := upd_same
  generalize upd (upd H dx (.own t)) t (.ins C dx []) = H1 at *
  have k1 := Tk.of_same (K := K) s1
  refine ⟨t, dx, sv, d, m, rels, kvs, e, rfl, ht1, hS.tk k1, s1 _ _ hd, hO.nd, hO.len, hO.l16, fun dR lS dN H2 b2 n1 n2 n3 T2 => ⟨rfl, ?_⟩⟩
  have s2 : Same H H2 := same_but s1 b2 nt
  have k2 := Tk.of_same (K := K) s2
  have sFr : ∀ {H3 : Hp}, Fr ⟨t, dx, dR, d, lS, dN, m, rels, e, kvs⟩ H2 H3 → Same H H3 := fun f a o h => f a o (ne_of_none (s1 _ _ h) n2) (ne_of_none (s1 _ _ h) n3) (s2 a o h)
  have hok : Okf ⟨t, dx, dR, d, lS, dN, m, rels, e, kvs⟩ fm [] := ⟨by show 0 + fm.rk ≤ 5; omega, hrf _ rfl rfl, fun y hy _ => ⟨hvf y hy, hrg y hy⟩⟩
  refine ⟨t, dx, _, rfl, T2.1, no_of _, _, rfl, Nat.zero_le _, fun x nx => ?_⟩
  have T3 := T2.new (o := .tup []) nx
  have k3 := tk_new (K := K) nx (.tup [])
  refine ⟨⟨t, dx, dR, d, lS, dN, m, rels, e, kvs⟩, [], v, fm, x, [], rfl, T3, (hF.tk k2).tk k3, SqT.of upd_same, hok, hO.m4, hO.m0, hct, Nat.zero_le _, fun c' H4 f4 T4 => ⟨rfl, ?_⟩⟩
  have ev : decide (nv (tb ⟨t, dx, dR, d, lS, dN, m, rels, e, kvs⟩ fm []) = V.int 1) = Fm.tv m rels fm e := by
    have e1 : tb ⟨t, dx, dR, d, lS, dN, m, rels, e, kvs⟩ fm [] = if Fm.tv m rels fm e = true then 1 else 0 := by
      unfold tb Bts.tab
      show Bts.bits (m ^ 0) (fun i => Fm.tv m rels fm e) = _
      rw [Nat.pow_zero, Bts.bits, Bts.bits, Nat.zero_add, Nat.pow_zero]
    rw [e1]
    cases Fm.tv m rels fm e <;> decide
  show Q (V.bl (decide (nv (tb ⟨t, dx, dR, d, lS, dN, m, rels, e, kvs⟩ fm []) = V.int 1))) H4
  rw [ev]
  exact q H4 (sFr ((Fr.of_same (same_new nx _)).trans f4))
end
end K3

set_option Elab.async false
set_option linter.all false
set_option maxRecDepth 100000
set_option maxHeartbeats 4000000
/-! rows_of, all_points -/
namespace K3
open PySem L2 Fo Ndk
open C8 (Cal pe_c pss_cut Met Mak pe_mt pe_mt0 pe_mk)
theorem pi_list_k {X : Cx} {K : PySem.W.Frag} (h : X.K = K) {tg l : Expr} {tl : TE} (hl : PE X l tl) : PI X tg l (iList K tl) := by
  subst h
  exact pi_list hl
theorem pa_star_k {X : Cx} {K : PySem.W.Frag} (h : X.K = K) {e : Expr} {es : List Expr} {p : Pos} {te : TE} {t : TA} (he : PE X e te) (hr : PA X es t) (hs : starEach (.Starred e p :: es) X.env = (true, eval e X.env) :: starEach es X.env := by rfl) : PA X (.Starred e p :: es) (StX.tStar K te t) := by
  subst h
  exact StX.pa_star he hr hs
section
variable {P : Program} {w : World} {K : PySem.W.Frag} {mg : Str → Option Value} {base : Heap} {C : Addr}
def spRowsOf (K : PySem.W.Frag) : Sp := fun vs H Q _ => ∃ (th : Addr) (m k : Nat), vs = [.ref th, .int (k : Int)] ∧ H th = some (.lst ((List.range m).map nv)) ∧ m ≤ 4 ∧ k ≤ 4 ∧
  ∀ (l : Addr) (us : List V) (H' : Hp), Same H H' → H l = none → H' l = some (.lst us) → All2 (RowAt K H') us (rowsOf m k) → Q (.ref l) H'
abbrev nRowsOf : List Str := ["things", "places", "rows", "_", "row", "thing"]
theorem scRowsOf : FnScope nRowsOf ["things", "places"] (defScope sRowsOf) := ⟨rfl, rfl, rfl, by decide +kernel, rfl, by decide +kernel, by decide +kernel⟩
theorem ext_snoc (m : Nat) (rs : List (List Int)) (r : List Int) : (rs ++ [r]).flatMap (ext1 m) = rs.flatMap (ext1 m) ++ ext1 m r := by
  rw [List.flatMap_append]; simp
theorem ok_rowsof {f : Addr} {fd : FuncData} (B : Bt mg) (F : Fun K "rows_of" "rows_of" sRowsOf f fd) : FnOk P w K mg base CX0 1 f fd ["things", "places"] (spRowsOf K) := by
  refine F.ok scRowsOf (fun vs H Q E h => ?_) (fun cdv A outer s H vs Q E hr h => ?_)
  · obtain ⟨th, m, k, rfl, _⟩ := h
    rfl
  obtain ⟨th, m, k, rfl, hth, hm, hk, q⟩ := h
  have nd := scRowsOf.nd
  refine ⟨_, (pss_cons (ps_set (i := 2) nd rfl (.inl rfl) (pe_lst (pa_cons (pe_tup pa_nil) pa_nil)))
    (pss_cons (ps_for PassesOwn.never rfl (pi_range1 rfl B.range (pa_cons (pv 1) pa_nil)) (pg_name (i := 3) nd rfl (.inl rfl)) (pss_one (ps_setLc2 (i := 2) (own := [("row", 4), ("thing", 5)]) (vs1 := [5]) (g := gName 4) (g1 := gName 5) (tt := tYes) (tt1 := tYes) rfl nd rfl rfl (sw_true rfl rfl rfl (by decide +kernel)) (pi_list (pv 2)) (blkOk_by (own := [("row", 4), ("thing", 5)]) (N := nRowsOf) (sc := defScope sRowsOf) (by decide +kernel)) (by decide) (fun _ _ _ _ _ => (pg_name (i := 4) nd rfl (Or.inl rfl))) (fun _ _ _ _ _ => pts_nil) (fun _ _ _ _ _ => (pi_list_k (K := K) rfl (pv 0))) (fun _ _ _ _ _ => (pg_name (i := 5) nd rfl (Or.inl rfl))) (fun _ _ _ _ _ => pts_nil) (fun _ _ _ _ _ => (pe_tup (pa_star_k (K := K) rfl (pv 4) (pa_cons (pv 5) pa_nil)))))))
    (pss_one (ps_ret (pv 2))))), ?_⟩
  refine ⟨Nat.zero_le _, fun T nT => ⟨l1, fun L nL => ?_⟩⟩
  have s0 := (same_new nT (.tup [])).trans (same_new nL (.lst [V.ref T]))
  have nL0 : H L = none := (same_new nT (.tup [])).free nL
  refine ⟨_, rfl, (k : Int), rfl, by omega, by omega, ?_⟩
  refine for_range (lo := 0) (n := k) (fun i σ H' => ∃ (A1 : Addr) (us : List V) (z : Option V), σ = [some (.ref th), some (.int (k : Int)), some (.ref A1), z, none, none] ∧ Same H H' ∧ H A1 = none ∧ H' A1 = some (.lst us) ∧ All2 (RowAt K H') us (rowsOf m i)) ⟨L, [.ref T], none, rfl, s0, nL0, upd_same, .cons ⟨T, rfl, tk_new nL _ _ _ (SqT.of upd_same)⟩ .nil⟩ ?_ ?_
  · rintro i σ H1 hi ⟨A1, us, z, rfl, s1, nA, hA, hus⟩
    have lus := hus.length
    rw [rows_len] at lus
    have lb : us.length ≤ 256 := by
      rw [lus]
      exact Nat.le_trans (Nat.pow_le_pow_left hm i) (Nat.le_trans (Nat.pow_le_pow_right (by decide) (show i ≤ 4 by omega)) (by decide))
    refine ⟨_, rfl, A1, rfl, ⟨_, SqL.of hA⟩, fun D nD => ?_⟩
    have nDA : A1 ≠ D := ne_of_none hA nD
    refine over_list (K := K) (xs := us) (fun j H' => ∃ acc, H' D = some (.lst acc) ∧ All2 (RowAt K H') acc (((rowsOf m i).take j).flatMap (ext1 m)) ∧ Same H1 H') ⟨[], upd_same, .nil, same_new nD _⟩ (fun j H' _ ⟨_, _, _, h⟩ => SqL.of (h _ _ hA)) ?_ ?_
    · rintro j u H2 hj ⟨acc, hD, hacc, s2⟩
      obtain ⟨r, hr, R, rfl, hR⟩ := (hus.imp fun _ _ h => h.tk (Tk.of_same s2)).get hj
      have lj := (List.getElem?_eq_some_iff.mp hj).1
      have hth2 := s2 _ _ (s1 _ _ hth)
      have lacc := hacc.length
      rw [flat_len, List.length_take] at lacc
      have lj2 : min j (rowsOf m i).length ≤ 256 := by omega
      have la : acc.length ≤ 256 * 4 := by rw [lacc]; exact Nat.mul_le_mul lj2 hm
      have lr := (rows_mem (List.mem_of_getElem? hr)).1
      refine ⟨rfl, _, rfl, th, rfl, ⟨_, SqL.of hth2⟩, ?_⟩
      refine over_list (K := K) (xs := (List.range m).map nv) (fun c H' => ∃ acc, H' D = some (.lst acc) ∧ All2 (RowAt K H') acc (((rowsOf m i).take j).flatMap (ext1 m) ++ (List.range c).map fun (x : Nat) => r ++ [(x : Int)]) ∧ Same H1 H' ∧ acc.length ≤ 1024 + c) ⟨acc, hD, by rw [List.range_zero, List.map_nil, List.append_nil]; exact hacc, s2, by omega⟩ (fun c H' _ ⟨_, _, _, h, _⟩ => SqL.of (h _ _ (s1 _ _ hth))) ?_ ?_
      · rintro c u H3 hc ⟨acc, hD, hacc, s3, la⟩
        have hc' := hc
        rw [List.getElem?_map] at hc'
        obtain ⟨x, hx, rfl⟩ := Option.map_eq_some_iff.mp hc'
        have hcm : c < m := by have := (List.getElem?_eq_some_iff.mp hx).1; simpa using this
        obtain rfl : c = x := by rw [List.getElem?_range hcm] at hx; injection hx
        have hRh := (hus.imp fun _ _ h => RowAt.tk (Tk.of_same s3) h).get hj
        obtain ⟨r', hr', R', eR, hR'⟩ := hRh
        rw [hr] at hr'
        injection hr' with hr'
        subst hr'
        injection eR with eR
        subst eR
        refine ⟨rfl, _, rfl, R, _, rfl, .inl hR', _, rfl, ?_, fun p np => ⟨acc, same_new np _ _ _ hD, lineOk (by omega), acc ++ [.ref p], upd_same, ?_, same_to (s3.trans (same_new np _)) nD, by simp; omega⟩⟩
        · have : (r.map V.int ++ [nv c]).length ≤ sizeLine := by
            rw [List.length_append, List.length_map, lr, List.length_singleton]
            exact Nat.le_of_lt (lineOk (by omega))
          exact this
        · have t4 := (tk_new (K := K) np (.tup (r.map V.int ++ [nv c]))).trans (tk_lst (same_new np (.tup (r.map V.int ++ [nv c])) _ _ hD) (.lst (acc ++ [.ref p])))
          rw [List.range_succ, List.map_append, ← List.append_assoc]
          refine (hacc.imp fun _ _ h => RowAt.tk t4 h).append (.cons (RowAt.tk (tk_lst (same_new np (.tup (r.map V.int ++ [nv c])) _ _ hD) _) ⟨p, rfl, ?_⟩) .nil)
          rw [List.map_append]
          exact SqT.of upd_same
      · rintro H3 ⟨acc, hD, hacc, s3, la⟩
        refine ⟨acc, hD, ?_, s3⟩
        rw [List.length_map, List.length_range] at hacc
        rw [List.take_succ, hr]
        show All2 _ _ (((rowsOf m i).take j ++ [r]).flatMap (ext1 m))
        rw [ext_snoc]
        exact hacc
    · rintro H2 ⟨acc, hD, hacc, s2⟩
      rw [hus.length, List.take_length] at hacc
      exact ⟨D, acc, _, rfl, s1.trans s2, s1.free nD, hD, hacc⟩
  · rintro σ H1 ⟨A1, us, z, rfl, s1, nA, hA, hus⟩
    exact ⟨_, rfl, q A1 us H1 s1 nA hA hus⟩
def spPoints (K : PySem.W.Frag) : Sp := fun vs H Q _ => ∃ (m k : Nat), vs = [.int (m : Int), .int (k : Int)] ∧ m ≤ 4 ∧ k ≤ 4 ∧
  ∀ (l : Addr) (us : List V) (H' : Hp), Same H H' → H l = none → H' l = some (.lst us) → All2 (RowAt K H') us (rowsOf m k) → Q (.ref l) H'
abbrev nPoints : List Str := ["many", "places"]
theorem scPoints : FnScope nPoints nPoints (defScope sPoints) := ⟨rfl, rfl, rfl, by decide +kernel, rfl, by decide +kernel, by decide +kernel⟩
theorem ok_points {f : Addr} {fd : FuncData} (B : Bt mg) (cRowsOf : Cal P w K mg base 1 "rows_of" (spRowsOf K) []) (F : Fun K "all_points" "all_points" sPoints f fd) : FnOk P w K mg base CX0 2 f fd nPoints (spPoints K) := by
  refine F.ok scPoints (fun vs H Q E h => ?_) (fun cdv A outer s H vs Q E hr h => ?_)
  · obtain ⟨m, k, rfl, _⟩ := h
    rfl
  obtain ⟨m, k, rfl, hm, hk, q⟩ := h
  have nd := scPoints.nd
  refine ⟨_, (pss_one (ps_ret (pe_c cRowsOf hr (by decide) rfl (pa_cons (pe_listRg rfl rfl B.list (prg_1 rfl B.range (pv 0))) (pa_cons (pv 1) pa_nil))))), ?_⟩
  refine ⟨_, rfl, (m : Int), rfl, ?_⟩
  refine ⟨by unfold RgOk; omega, fun p np => ⟨_, rfl, p, m, k, rfl, ?_, hm, hk, fun l us H' s1 nl hl hus => q l us H' ((same_new np _).trans s1) ((same_new np _).free nl) hl hus⟩⟩
  rw [upd_same]
  unfold rgV nv
  rw [show ((m : Int) - 0).toNat = m by omega]
  refine congrArg (fun z => some (HO.lst z)) (List.map_congr_left fun i _ => ?_)
  rw [Int.zero_add]
end
end K3

set_option Elab.async false
set_option linter.all false
set_option maxRecDepth 100000
set_option maxHeartbeats 4000000
/-! bit, all_values -/
namespace K3
open PySem L2 Fo Ndk
open C8 (Cal pe_c pss_cut Met Mak pe_mt pe_mt0 pe_mk)
def ixN (m : Nat) : List Int → Nat
  | [] => 0
  | x :: xs => x.toNat + m * ixN m xs
def setL : (Str → Int) → List Str → List Int → (Str → Int)
  | e, x :: xs, t :: ts => setL (Fm.set1 e x t) xs ts
  | e, _, _ => e
theorem env_ix {m : Nat} : ∀ (xs : List Str) (r : List Int) (e : Str → Int), xs.length = r.length → (∀ t ∈ r, 0 ≤ t ∧ t < (m : Int)) → Bts.envI m e xs (ixN m r) = setL e xs r
  | [], [], e, _, _ => rfl
  | x :: xs, t :: ts, e, hl, h => by
    have ht := h t List.mem_cons_self
    have hm : 0 < m := by omega
    have h1 : (t.toNat + m * ixN m ts) % m = t.toNat := by rw [Nat.add_mul_mod_self_left, Nat.mod_eq_of_lt (by omega)]
    have h2 : (t.toNat + m * ixN m ts) / m = ixN m ts := by rw [Nat.add_mul_div_left _ _ hm, Nat.div_eq_of_lt (by omega), Nat.zero_add]
    rw [Bts.envI, ixN, h1, h2, env_ix xs ts _ (by simpa using hl) fun z hz => h z (List.mem_cons_of_mem _ hz), setL]
    congr 1
    rw [show ((t.toNat : Nat) : Int) = t by omega]
theorem ix_lt {m : Nat} : ∀ (r : List Int), (∀ t ∈ r, 0 ≤ t ∧ t < (m : Int)) → ixN m r < m ^ r.length
  | [], _ => by rw [ixN]; simp
  | t :: ts, h => by
    have ht := h t List.mem_cons_self
    have ih := ix_lt ts fun z hz => h z (List.mem_cons_of_mem _ hz)
    rw [ixN, List.length_cons, Nat.pow_succ, Nat.mul_comm (m ^ ts.length) m]
    have h3 : m * (ixN m ts + 1) ≤ m * m ^ ts.length := Nat.mul_le_mul_left m ih
    rw [Nat.mul_succ] at h3
    omega
theorem sum_mul (m : Nat) : ∀ l : List Nat, (l.map fun n => m * n).sum = m * l.sum
  | [] => rfl
  | x :: l => by rw [List.map_cons, List.sum_cons, List.sum_cons, sum_mul m l, Nat.mul_add]
theorem sum_ix (m : Nat) : ∀ r : List Int, ((List.range r.length).map fun k => (r[k]?.getD 0).toNat * m ^ k).sum = ixN m r
  | [] => rfl
  | t :: ts => by
    rw [List.length_cons, List.range_succ_eq_map, List.map_cons, List.sum_cons, List.map_map, ixN, ← sum_ix m ts, ← sum_mul, List.map_map]
    have e1 : (((t :: ts)[0]?.getD 0).toNat * m ^ 0) = t.toNat := by simp
    rw [e1]
    congr 2
    refine List.map_congr_left fun k _ => ?_
    show (((t :: ts)[k + 1]?).getD 0).toNat * m ^ (k + 1) = m * ((ts[k]?.getD 0).toNat * m ^ k)
    rw [List.getElem?_cons_succ, Nat.pow_succ, Nat.mul_comm (m ^ k) m, Nat.mul_left_comm]
section
variable {P : Program} {w : World} {K : PySem.W.Frag} {mg : Str → Option Value} {base : Heap} {C : Addr}
def spBit (K : PySem.W.Frag) (P : Program) (w : World) (C : Addr) : Sp := fun vs H Q _ => ∃ (b : Tb) (c : Kn) (R : Addr) (r : List Int), vs = [.ref b.t, .ref R] ∧ TbAt K P w C b c H ∧ SqT K H R (r.map V.int) ∧ r.length ≤ 5 ∧ (∀ t ∈ r, 0 ≤ t ∧ t < (b.m : Int)) ∧ b.m ≤ 4 ∧
  ∀ H', Fr b H H' → TbAt K P w C b c H' → Q (nv (ixN b.m r)) H'
abbrev nBit : List Str := ["self", "row", "at", "element"]
theorem scBit : FnScope nBit ["self", "row"] (defScope mBit) := ⟨rfl, rfl, rfl, by decide +kernel, rfl, by decide +kernel, by decide +kernel⟩
theorem ok_bit {f : Addr} {fd : FuncData} (B : Bt mg) (Msize : Met P w K mg base 1 C "size" (spSize K P w C) []) (F : Fun K "bit" "Tables.bit" mBit f fd) : FnOk P w K mg base CX0 2 f fd ["self", "row"] (spBit K P w C) := by
  refine F.ok scBit (fun vs H Q E h => ?_) (fun cdv A outer s H vs Q E hr h => ?_)
  · obtain ⟨b, c, R, r, rfl, _⟩ := h
    rfl
  obtain ⟨b, c, R, r, rfl, hT, hR, hl, hrg, hm, q⟩ := h
  have nd := scBit.nd
  refine ⟨_, (pss_one (ps_ret (pe_callB (cr_sum rfl) rfl B.sum (by decide +kernel) (pa_cons (pe_lc (own := [("at", 2), ("element", 3)]) (g := gTup K 2 (gCons (gName 2) (gCons (gName 3) (gNil)))) (tt := tYes) rfl nd (Enu.pi_enumT rfl B.enumerate (pa_cons (pv 1) pa_nil)) (blkOk_by (own := [("at", 2), ("element", 3)]) (N := nBit) (sc := defScope mBit) (by decide +kernel)) (fun _ _ _ _ _ => (pg_tup_k (K := K) rfl rfl (pgs_cons (pg_name (i := 2) nd rfl (Or.inl rfl)) (pgs_cons (pg_name (i := 3) nd rfl (Or.inl rfl)) pgs_nil)))) (fun _ _ _ _ _ => pts_nil) (fun _ _ _ _ _ => (pe_op op_mul (pv 3) (pe_mt Msize hr (by decide) (pv 0) (pa_cons (pe_slice (slT_k (K := K) rfl) (pv 1) po_none (po_some (pv 2))) pa_nil))))) pa_nil)))), ?_⟩
  have hlen : (r.map V.int).length = r.length := List.length_map _
  refine ⟨_, rfl, R, _, rfl, hR, fun D nD => ?_⟩
  have nD' := hT.ne nD
  refine lc_it (Enu.walk_enumT (xs := r.map V.int)) (fun i H' => H' D = some (.lst ((List.range i).map fun k => nv ((r[k]?.getD 0).toNat * b.m ^ k))) ∧ Fr b H H' ∧ TbAt K P w C b c H') ⟨upd_same, .of_same (same_new nD _), hT.new nD⟩ (fun i H' _ h => hT.tk h.2.1 _ _ hR) ?_ ?_
  · rintro i _ H1 _ _ ⟨hD, f1, T1⟩ ⟨T, ix, u, rfl, nT, rfl, hix, hi⟩
    cases hix
    simp only at hi
    have li := (List.getElem?_eq_some_iff.mp hi).1
    rw [hlen] at li
    rw [List.getElem?_map] at hi
    obtain ⟨t, ht, rfl⟩ := Option.map_eq_some_iff.mp hi
    have htr := hrg t (List.mem_of_getElem? ht)
    have sT := same_new nT (.tup [V.int (i : Int), V.int t])
    have T2 := T1.new (o := .tup [V.int (i : Int), V.int t]) nT
    have hR2 := (hT.tk (f1.trans (Fr.of_same sT))) _ _ hR
    have hD2 := sT _ _ hD
    have lt1 : i < (r.map V.int).length := by rw [hlen]; exact li
    refine ⟨T, _, rfl, SqT.of upd_same, rfl, _, _, rfl, _, _, rfl, rfl, rfl, _, rfl, _, rfl, b.t, b.dx, _, rfl, T2.1, no_size b, _, rfl, _, rfl, _, rfl, R, _, rfl, hR2, not_whole lt1, fun p np => ?_⟩
    rw [cut_pre (Nat.le_of_lt lt1)]
    have l6 : ((r.map V.int).take i).length = i := by rw [List.length_take, hlen]; omega
    refine ⟨b, c, p, _, rfl, T2.new np, SqT.of upd_same, by rw [l6]; omega, hm, fun H3 f3 T3 => ?_⟩
    rw [l6]
    have hD3 := f3 D _ nD'.2.1 nD'.2.2 (same_new np (.tup _) _ _ hD2)
    refine ⟨_, _, rfl, rfl, .inl ⟨by omega, by omega⟩, _, hD3, lineOk (by rw [List.length_map, List.length_range]; omega), ?_, (f1.trans ((Fr.of_same sT).trans ((Fr.of_same (same_new np _)).trans f3))).to nD, hT.wr T3 nD hD3⟩
    rw [upd_same, List.range_succ, List.map_append]
    have ev : V.int (t * ((b.m ^ i : Nat) : Int)) = nv ((r[i]?.getD 0).toNat * b.m ^ i) := by
      rw [ht, nv, Int.natCast_mul]
      show V.int (t * ((b.m ^ i : Nat) : Int)) = V.int (((t.toNat : Nat) : Int) * ((b.m ^ i : Nat) : Int))
      rw [show ((t.toNat : Nat) : Int) = t by omega]
    exact congrArg (fun z => some (HO.lst (_ ++ [z]))) ev
  · rintro H1 ⟨hD, f1, T1⟩
    rw [hlen] at hD
    refine ⟨D, ((List.range r.length).map fun k => (r[k]?.getD 0).toNat * b.m ^ k).map fun n : Nat => (n : Int), rfl, ?_, ?_⟩
    · rw [List.map_map, List.map_map]
      exact SqL.of hD
    · rw [sum_cast, sum_ix]
      exact q H1 f1 T1
end
end K3

set_option Elab.async false
set_option linter.all false
set_option maxRecDepth 100000
set_option maxHeartbeats 4000000
/-! all_values -/
namespace K3
open PySem L2 Fo Ndk
open C8 (Cal pe_c pss_cut Met Mak pe_mt pe_mt0 pe_mk)
def tTru (K : PySem.W.Frag) (ta : TE) : St → Hp → (Bool → Hp → Prop) → Prop := fun σ H Q => ta σ H fun x H' => ∃ k, TruV K x H' k ∧ Q k H'
theorem pt_truth_k {X : Cx} {K : PySem.W.Frag} (h : X.K = K) {a : Expr} {ta : TE} (ha : PE X a ta) (he : ∀ whole, isTrue a X.env whole = (do let v ← whole; standAt a.pos; holding [v] (truthy v))) :
    PT X a (tTru K ta) := by
  subst h
  exact pt_truth ha he
section
variable {P : Program} {w : World} {K : PySem.W.Frag} {mg : Str → Option Value} {base : Heap} {C : Addr}
def spAllV (K : PySem.W.Frag) : Sp := fun vs H Q _ => ∃ (sv v : V) (x : Addr) (m : Nat) (rels : List (Str × List (List Int))) (xs : List Str) (e : Str → Int) (f : Fm), vs = [sv, v, .ref x] ∧ StrAt K H sv m rels ∧ StrOk m rels ∧ FmAt K H v f ∧ RelsFit m rels f ∧ xs.length + f.rk ≤ 5 ∧ xs.length ≤ 4 ∧ f.ct ≤ 1000 ∧ SqT K H x (xs.map V.str) ∧
  (∀ y ∈ f.fr, y ∈ xs) ∧ ∀ (T : Addr) (us : List V) (H' : Hp), Same H H' → SqT K H' T us → All2 (RowAt K H') us ((rowsOf m xs.length).filter fun r => Fm.tv m rels f (setL e xs r)) → Q (.ref T) H'
abbrev nAllV : List Str := ["structure", "formula", "names", "tables", "table", "row"]
abbrev pAllV : List Str := ["structure", "formula", "names"]
theorem scAllV : FnScope nAllV pAllV (defScope sAllV) := ⟨rfl, rfl, rfl, by decide +kernel, rfl, by decide +kernel, by decide +kernel⟩
theorem ok_allv {f : Addr} {fd : FuncData} (B : Bt mg) (T : TbT K C) (mTables : Mak P w K mg base 1 "Tables" C (spTInit K P w C) []) (Mof : Met P w K mg base 6 C "of" (spOf K P w C) []) (Mbit : Met P w K mg base 2 C "bit" (spBit K P w C) []) (cPoints : Cal P w K mg base 2 "all_points" (spPoints K) []) (F : Fun K "all_values" "all_values" sAllV f fd) : FnOk P w K mg base CX0 7 f fd pAllV (spAllV K) := by
  refine F.ok scAllV (fun vs H Q E h => ?_) (fun cdv A outer s H vs Q E hr h => ?_)
  · obtain ⟨sv, v, x, m, rels, xs, e, f, rfl, _⟩ := h
    rfl
  obtain ⟨sv, v, x, m, rels, xs, e, fm, rfl, hS, hO, hF, hrf, hrk, hx4, hct, hx, hfr, q⟩ := h
  have nd := scAllV.nd
  refine ⟨_, (pss_cons (ps_set (i := 3) nd rfl (.inr rfl) (pe_mk mTables hr (by decide) rfl (pa_cons (pv 0) (pa_cons pe_dnewK pa_nil))))
    (pss_cons (ps_set (i := 4) nd rfl (.inr rfl) (pe_mt Mof hr (by decide) (pv 3) (pa_cons (pv 1) (pa_cons (pv 2) pa_nil))))
    (pss_one (ps_ret (pe_callTy call_tuple_of rfl B.tuple (by decide +kernel) (pa_cons (pe_lc (own := [("row", 5)]) (g := gName 5) (tt := _) rfl nd (pi_list (pe_c cPoints hr (by decide) rfl (pa_cons (pe_ix ix_tup (pv 0) pe_int (fun _ _ => rfl)) (pa_cons (pe_callB call_len_seq rfl B.len PySem.boot_len (pa_cons (pv 2) pa_nil)) pa_nil)))) (blkOk_by (own := [("row", 5)]) (N := nAllV) (sc := defScope sAllV) (by decide +kernel)) (fun _ _ _ _ _ => (pg_name (i := 5) nd rfl (Or.inl rfl))) (fun _ _ _ _ _ => pts_one (pt_truth_k (K := K) rfl (pe_op op_and (pe_op op_shrN (pv 4) (pe_mt Mbit hr (by decide) (pv 3) (pa_cons (pv 5) pa_nil))) pe_int) (by intro _; rfl))) (fun _ _ _ _ _ => (pv 5))) pa_nil)))))), ?_⟩
  refine ⟨_, rfl, fun d nd0 => fun t dx nt ndx ne => ?_⟩
  have s1 := (same_new nd0 (.dK [])).trans ((same_new ndx (.own t)).trans (same_new (by rw [upd_ne ne.symm]; exact nt) (.ins C dx [])))
  have hd1 : upd (upd (upd H d (.dK [])) dx (.own t)) t (.ins C dx []) d = some (.dK []) := ((same_new ndx (.own t)).trans (same_new (by rw [upd_ne ne.symm]; exact nt) (.ins C dx []))) _ _ upd_same
  have ht1 : upd (upd (upd H d (.dK [])) dx (.own t)) t (.ins C dx []) t = some (.ins C dx []) := upd_same
  have nt0 : H t = none := (same_new nd0 (.dK [])).free nt
  generalize upd (upd (upd H d (.dK [])) dx (.own t)) t (.ins C dx []) = H1 at *
  have k1 := Tk.of_same (K := K) s1
  refine ⟨t, dx, sv, d, m, rels, [], e, rfl, ht1, hS.tk k1, hd1, hO.nd, hO.len, hO.l16, fun dR lS dN H2 b2 n1 n2 n3 T2 => ⟨rfl, ?_⟩⟩
  have s2 : Same H H2 := same_but s1 b2 nt0
  have k2 := Tk.of_same (K := K) s2
  have sFr : ∀ {H3 : Hp}, Fr ⟨t, dx, dR, d, lS, dN, m, rels, e, []⟩ H2 H3 → Same H H3 := fun f a o h => f a o (ne_of_none (s1 _ _ h) n2) (ne_of_none (s1 _ _ h) n3) (s2 a o h)
  have hok : Okf ⟨t, dx, dR, d, lS, dN, m, rels, e, []⟩ fm xs := ⟨hrk, hrf _ rfl rfl, fun y hy hn => absurd (hfr y hy) hn⟩
  have hx2 := k2 _ _ hx
  refine ⟨_, rfl, t, dx, _, rfl, T2.1, no_of _, _, rfl, _, rfl, ⟨t, dx, dR, d, lS, dN, m, rels, e, []⟩, [], v, fm, x, xs, rfl, T2, hF.tk k2, hx2, hok, hO.m4, hO.m0, hct, Nat.zero_le _, fun c' H4 f4 T4 => ?_⟩
  have s4 := sFr f4
  obtain ⟨sa, st, sus, rfl, hs1, hs2, hs3⟩ := hS
  have k4 := Tk.of_same (K := K) s4
  refine ⟨_, rfl, sa, _, _, _, rfl, rfl, k4 _ _ hs1, at_of (j := 1) rfl rfl, _, rfl, x, _, rfl, .inr (k4 _ _ hx), m, xs.length, by rw [List.length_map]; rfl, hO.m4, hx4, fun l us H5 s5 nl hl hus => ⟨l, rfl, ⟨_, SqL.of hl⟩, fun D nD => ?_⟩⟩
  generalize hbg : (⟨t, dx, dR, d, lS, dN, m, rels, e, []⟩ : Tb) = b at *
  have T5 := T4.same s5
  have s05 := s4.trans s5
  have nD' := T5.ne nD
  have hbm : b.m = m := by rw [← hbg]
  have hbt : t = b.t := by rw [← hbg]
  have hbdx : dx = b.dx := by rw [← hbg]
  have nD0 : H D = none := s05.free nD
  have ev : ∀ r ∈ rowsOf m xs.length, Fm.tv m rels fm (setL e xs r) = (tb b fm xs).testBit (ixN m r) := fun r hr => by
    obtain ⟨h1, h2⟩ := rows_mem hr
    have h3 := ix_lt r h2
    rw [← hbg]
    unfold tb Bts.tab
    rw [Bts.bit_at, env_ix xs r e h1.symm h2]
    have h4 : ixN m r < m ^ xs.length := by rw [← h1]; exact h3
    rw [decide_eq_true h4, Bool.true_and]
  have fin : ∀ (H6 : Hp) (acc : List V), Fr b H5 H6 → H6 D = some (.lst acc) → All2 (RowAt K H6) acc ((rowsOf m xs.length).filter fun r => Fm.tv m rels fm (setL e xs r)) → ∀ TT, H6 TT = none → Q (.ref TT) (upd H6 TT (.tup acc)) := fun H6 acc f6 hD6 hacc TT nTT => by
    have s7 := same_new nTT (.tup acc)
    refine q TT acc _ ?_ (SqT.of upd_same) (hacc.imp fun _ _ h => h.tk (Tk.of_same s7))
    have f46 : Fr b H4 H6 := (Fr.of_same s5).trans f6
    exact (sFr (f4.trans f46)).trans s7
  refine lc_list (xs := us) (fun i H' => ∃ acc, H' D = some (.lst acc) ∧ All2 (RowAt K H') acc (((rowsOf m xs.length).take i).filter fun r => Fm.tv m rels fm (setL e xs r)) ∧ Fr b H5 H' ∧ TbAt K P w C b c' H' ∧ acc.length ≤ i) ⟨[], upd_same, .nil, .of_same (same_new nD _), T5.new nD, Nat.le_refl _⟩ (fun i H' _ ⟨_, _, _, f, _⟩ => ?_) ?_ ?_
  · have nl4 := T4.ne nl
    exact SqL.of (f l _ nl4.2.1 nl4.2.2 hl)
  · rintro i u H6 hi ⟨acc, hD, hacc, f6, T6, la⟩
    obtain ⟨r, hr, R, rfl, hR⟩ := (hus.imp fun _ _ h => RowAt.tk (T5.tk f6) h).get hi
    have li := (List.getElem?_eq_some_iff.mp hi).1
    have hrm := List.mem_of_getElem? hr
    obtain ⟨hrl, hrr⟩ := rows_mem hrm
    have lus := hus.length
    rw [rows_len] at lus
    have lp : m ^ xs.length ≤ 256 := Nat.le_trans (Nat.pow_le_pow_left hO.m4 _) (Nat.le_trans (Nat.pow_le_pow_right (by decide) hx4) (by decide))
    refine ⟨rfl, _, rfl, _, rfl, t, dx, _, rfl, by rw [hbt, hbdx]; exact T6.1, no_bit b, _, rfl, b, c', R, r, by rw [hbt]; rfl, T6, hR, by omega, by rw [hbm]; exact hrr, by rw [hbm]; exact hO.m4, fun H7 f7 T7 => ?_⟩
    have hD7 := f7 D _ nD'.2.1 nD'.2.2 hD
    have k7 := T6.tk f7
    rw [hbm]
    refine ⟨_, ixN m r, rfl, rfl, _, _, rfl, rfl, Fm.tv m rels fm (setL e xs r), ?_, ?_⟩
    · show Fm.tv m rels fm (setL e xs r) = (Builtin.bitAnd (((tb b fm xs : Nat) : Int) / 2 ^ (ixN m r)) ((1 : Nat) : Int) != 0)
      rw [ev r hrm, two_cast, ← Int.natCast_ediv, and_nat, ← Nat.shiftRight_eq_div_pow, Nat.testBit, Nat.and_comm]
      generalize (tb b fm xs >>> ixN m r &&& 1) = z
      cases z with
      | zero => rfl
      | succ z => rfl
    · have etk : ((rowsOf m xs.length).take (i + 1)).filter (fun r => Fm.tv m rels fm (setL e xs r)) = ((rowsOf m xs.length).take i).filter (fun r => Fm.tv m rels fm (setL e xs r)) ++ (if Fm.tv m rels fm (setL e xs r) = true then [r] else []) := by
        rw [List.take_succ, hr, List.filter_append]
        congr 1
        show List.filter _ [r] = _
        rw [List.filter_cons, List.filter_nil]
      refine ite2 (fun z => ?_) (fun z => ?_)
      · rw [if_pos z] at etk
        refine ⟨_, rfl, acc, hD7, lineOk (by omega), acc ++ [.ref R], upd_same, ?_, (f6.trans f7).to nD, T5.wr T7 nD hD7, by simp; omega⟩
        rw [etk]
        have k8 := k7.trans (tk_lst (K := K) hD7 (.lst (acc ++ [.ref R])))
        exact (hacc.imp fun _ _ h => h.tk k8).append (.cons ⟨R, rfl, k8 _ _ hR⟩ .nil)
      · rw [if_neg z, List.append_nil] at etk
        exact ⟨acc, hD7, by rw [etk]; exact hacc.imp fun _ _ h => h.tk k7, f6.trans f7, T7, by omega⟩
  · rintro H6 ⟨acc, hD, hacc, f6, T6, la⟩
    rw [hus.length, List.take_length] at hacc
    exact ⟨D, _, rfl, .inl ⟨SqL.of hD, fun TT nTT => fin H6 acc f6 hD hacc TT nTT⟩⟩
end
end K3

set_option Elab.async false
set_option linter.all false
set_option maxRecDepth 100000
set_option maxHeartbeats 4000000
/-! the law -/
namespace K3
open PySem L2 Fo Ndk
open C8 (Cal pe_c pss_cut Met Mak pe_mt pe_mt0 pe_mk)
mutual
theorem wf_fr {ks : List (Str × Nat)} : ∀ (f : Fm), WF ks f → ∀ x ∈ f.fr, x ∈ N8
  | .rel _ _, h, x, hx => by rw [WF] at h; exact h.2 x hx
  | .same y z, h, x, hx => by
    rw [WF] at h
    rcases List.mem_cons.mp (show x ∈ [y, z] from hx) with e | e
    · rw [e]; exact h.1
    · rw [List.mem_singleton.mp e]; exact h.2
  | .neg f, h, x, hx => by rw [WF] at h; exact wf_fr f h x hx
  | .con _ fs, h, x, hx => by rw [WF] at h; exact wfs_fr fs h x hx
  | .qu _ _ f, h, x, hx => by rw [WF] at h; exact wf_fr f h.2 x (List.mem_filter.mp hx).1
theorem wfs_fr {ks : List (Str × Nat)} : ∀ (fs : List Fm), WFs ks fs → ∀ x ∈ Fm.frs fs, x ∈ N8
  | [], _, x, hx => by cases hx
  | f :: fs, h, x, hx => by
    rw [WFs] at h
    rw [Fm.frs] at hx
    rcases List.mem_append.mp hx with z | z
    · exact wf_fr f h.1 x z
    · exact wfs_fr fs h.2 x z
end
theorem kd_ok : ∀ ks ∈ Kd, (ks.map (·.1)).Nodup ∧ ks.length ≤ 2 ∧ ∀ p ∈ ks, p.2 ≤ 2 := by decide +kernel
theorem rel_fit {m : Nat} {rels : List (Str × List (List Int))} {ks : List (Str × Nat)} (h : All2 (RelOk m) rels ks) : (ks.map (·.1)).Nodup → ∀ n pl, (n, pl) ∈ ks → ∃ ts, Fm.rows rels n = some ts ∧ ∀ t ∈ ts, t.length = pl ∧ ∀ x ∈ t, 0 ≤ x ∧ x < (m : Int) := by
  induction h with
  | nil => intro _ n pl hm; cases hm
  | @cons r p rs ps hr _ ih =>
    intro hnd n pl hm
    rw [List.map_cons, List.nodup_cons] at hnd
    obtain ⟨r1, r2, _⟩ := hr
    rw [Fm.rows]
    rcases List.mem_cons.mp hm with e | e
    · subst e
      rw [if_pos r1]
      exact ⟨_, rfl, r2⟩
    · have : ¬ r.1 = n := fun z => hnd.1 (by rw [← r1, z]; exact List.mem_map.mpr ⟨(n, pl), e, rfl⟩)
      rw [if_neg this]
      exact ih hnd.2 n pl e
theorem names_eq {m : Nat} {rels : List (Str × List (List Int))} {ks : List (Str × Nat)} (h : All2 (RelOk m) rels ks) : rels.map (·.1) = ks.map (·.1) := by
  induction h with
  | nil => rfl
  | cons hr _ ih => rw [List.map_cons, List.map_cons, ih, hr.1]
theorem l16_of {m : Nat} {rels : List (Str × List (List Int))} {ks : List (Str × Nat)} (h : All2 (RelOk m) rels ks) : ∀ r ∈ rels, r.2.length ≤ 16 := by
  induction h with
  | nil => intro r hr; cases hr
  | cons hr _ ih =>
    intro r h
    rcases List.mem_cons.mp h with e | e
    · rw [e]; exact hr.2.2
    · exact ih r e
mutual
theorem wf_ro {m : Nat} {rels : List (Str × List (List Int))} {ks : List (Str × Nat)} (h : All2 (RelOk m) rels ks) (hk : ks ∈ Kd) (b : Tb) (e1 : b.m = m) (e2 : b.rs = rels) : ∀ f : Fm, WF ks f → ro b f
  | .rel n xs, w => by
    rw [WF] at w
    obtain ⟨k1, _, k3⟩ := kd_ok ks hk
    obtain ⟨ts, h1, h2⟩ := rel_fit h k1 n xs.length w.1
    exact ⟨⟨ts, by rw [e2]; exact h1, by rw [e1]; exact h2⟩, k3 _ w.1⟩
  | .same _ _, _ => True.intro
  | .neg f, w => by rw [WF] at w; exact wf_ro h hk b e1 e2 f w
  | .con _ fs, w => by rw [WF] at w; exact wfs_ros h hk b e1 e2 fs w
  | .qu _ _ f, w => by rw [WF] at w; exact wf_ro h hk b e1 e2 f w.2
theorem wfs_ros {m : Nat} {rels : List (Str × List (List Int))} {ks : List (Str × Nat)} (h : All2 (RelOk m) rels ks) (hk : ks ∈ Kd) (b : Tb) (e1 : b.m = m) (e2 : b.rs = rels) : ∀ fs : List Fm, WFs ks fs → ros b fs
  | [], _ => True.intro
  | f :: fs, w => by
    rw [WFs] at w
    exact ⟨wf_ro h hk b e1 e2 f w.1, wfs_ros h hk b e1 e2 fs w.2⟩
end
section
variable {P : Program} {w : World} {K : PySem.W.Frag} {mg : Str → Option Value} {base : Heap} {C : Addr}
def spFormula (K : PySem.W.Frag) : Sp := fun vs H Q _ => ∃ (ks : List (Str × Nat)) (b d : Addr) (kv : V), vs = [.ref b, kv, .int 14] ∧ BoxAt H b d ∧ KindsAt K ks H kv ∧
  ∀ (v : V) (f : Fm) (H' : Hp), But b H H' → BoxAt H' b d → FmAt K H' v f → Fine ks 14 f → Q v H'
abbrev nLFormula : List Str := ["box", "kinds", "room"]
theorem scFormula : FnScope nLFormula nLFormula (defScope sFormula) := ⟨rfl, rfl, rfl, by decide +kernel, rfl, by decide +kernel, by decide +kernel⟩
theorem ok_formula {f : Addr} {fd : FuncData} (cBelow : Cal P w K mg base 17 "_law_below" (spBelow K 15) []) (F : Fun K "_law_formula" "_law_formula" sFormula f fd) : FnOk P w K mg base CX0 18 f fd nLFormula (spFormula K) := by
  refine F.ok scFormula (fun vs H Q E h => ?_) (fun cdv A outer s H vs Q E hr h => ?_)
  · obtain ⟨ks, b, d, kv, rfl, _⟩ := h
    rfl
  obtain ⟨ks, b, d, kv, rfl, hB, hK, q⟩ := h
  refine ⟨_, (pss_one (ps_ret (pe_c cBelow hr (by decide) rfl (pa_cons (pv 0) (pa_cons (pv 1) (pa_cons (pv 2) (pa_cons pe_int pa_nil))))))), ?_⟩
  exact ⟨_, rfl, _, rfl, _, rfl, ks, b, d, kv, 14, 4, rfl, hB, hK, by decide, q⟩
def eOf (kvs : List (L2.Key × V)) : Str → Int := fun x => match valV kvs (.inr x) with | some (.int i) => i | _ => 0
theorem e_of {kvs : List (L2.Key × V)} {m : Int} (h : ∀ x ∈ N8, ∃ i : Int, (0 ≤ i ∧ i < m) ∧ valV kvs (.inr x) = some (.int i)) (x : Str) (hx : x ∈ N8) : valV kvs (.inr x) = some (.int (eOf kvs x)) ∧ 0 ≤ eOf kvs x ∧ eOf kvs x < m := by
  obtain ⟨i, hr, hi⟩ := h x hx
  unfold eOf
  rw [hi]
  exact ⟨rfl, hr⟩
theorem setL_snoc : ∀ (xs : List Str) (ts : List Int) (e : Str → Int) (x : Str) (t : Int), xs.length = ts.length → setL e (xs ++ [x]) (ts ++ [t]) = Fm.set1 (setL e xs ts) x t
  | [], [], e, x, t, _ => rfl
  | y :: ys, u :: us, e, x, t, h => by
    rw [List.cons_append, List.cons_append, setL, setL_snoc ys us _ x t (by simpa using h), setL]
/-- a tuple of rows -/
def trow (r : List Int) : Tr := .tp (r.map Tr.it)
theorem tk_butL {a : Addr} {H H' : Hp} {ys : List V} (x : But a H H') (y : H a = some (.lst ys)) : Tk K H H' := fun c xs h => by
  rcases h with (h | ⟨o, h⟩) | h
  · exact .inl (.inl (x c _ (fun z => by rw [z, y] at h; cases h) h))
  · exact .inl (.inr ⟨o, x c _ (fun z => by rw [z, y] at h; cases h) h⟩)
  · exact .inr h
theorem tk_butD {a : Addr} {H H' : Hp} {ys : List (L2.Key × V)} (x : But a H H') (y : H a = some (.dK ys)) : Tk K H H' := fun c xs h => by
  rcases h with (h | ⟨o, h⟩) | h
  · exact .inl (.inl (x c _ (fun z => by rw [z, y] at h; cases h) h))
  · exact .inl (.inr ⟨o, x c _ (fun z => by rw [z, y] at h; cases h) h⟩)
  · exact .inr h
theorem but_to {a : Addr} {H H' : Hp} {o : HO} (x : But a H H') : But a H (upd H' a o) := fun c q ne h => by rw [upd_ne ne]; exact x c q ne h
theorem row_tr {H : Hp} {u : V} {r : List Int} (h : RowAt K H u r) : TrAt K H u (trow r) := by
  obtain ⟨a, rfl, h⟩ := h
  rw [trow, TrAt]
  refine ⟨a, _, rfl, h, TrsAt.of ?_⟩
  clear h
  induction r with
  | nil => exact .nil
  | cons t ts ih => exact .cons (by rw [TrAt]) ih
theorem rows_tr {H : Hp} {T : Addr} {us : List V} {rs : List (List Int)} (h : SqT K H T us) (hu : All2 (RowAt K H) us rs) : TrAt K H (.ref T) (.tp (rs.map trow)) := by
  rw [TrAt]
  refine ⟨T, us, rfl, h, TrsAt.of ?_⟩
  clear h
  induction hu with
  | nil => exact .nil
  | cons r _ ih => exact .cons (row_tr r) ih
theorem its_dep : ∀ r : List Int, Tr.deps (r.map Tr.it) ≤ 1
  | [] => by rw [List.map_nil, Tr.deps]; omega
  | t :: ts => by rw [List.map_cons, Tr.deps, Tr.dep]; have := its_dep ts; omega
theorem its_wid : ∀ r : List Int, Tr.wids (r.map Tr.it) ≤ 0
  | [] => by rw [List.map_nil, Tr.wids]; omega
  | t :: ts => by rw [List.map_cons, Tr.wids, Tr.wid]; have := its_wid ts; omega
theorem rows_dep : ∀ rs : List (List Int), Tr.deps (rs.map trow) ≤ 2
  | [] => by rw [List.map_nil, Tr.deps]; omega
  | r :: rs => by rw [List.map_cons, Tr.deps, trow, Tr.dep]; have := rows_dep rs; have := its_dep r; omega
theorem rows_wid {n : Nat} : ∀ rs : List (List Int), (∀ r ∈ rs, r.length ≤ n) → Tr.wids (rs.map trow) ≤ n
  | [], _ => by rw [List.map_nil, Tr.wids]; omega
  | r :: rs, h => by
    rw [List.map_cons, Tr.wids, trow, Tr.wid, List.length_map]
    have h1 := rows_wid rs fun q hq => h q (List.mem_cons_of_mem _ hq)
    have h2 := its_wid r
    have h3 := h r List.mem_cons_self
    omega
def spLaw (K : PySem.W.Frag) : Sp := fun vs H Q _ => ∃ (a : Addr) (ns : List Int), vs = [.ref a] ∧ SqL K H a (ns.map V.int) ∧ ns.length ≤ 63 ∧ ∀ H', Q (.bl true) H'
abbrev nLaw : List Str := ["script", "box", "turn", "kinds", "formula", "structure", "values", "kept", "names", "due", "row", "wide", "k"]
theorem scLaw : FnScope nLaw ["script"] (defScope sLaw) := ⟨rfl, rfl, rfl, by decide +kernel, rfl, by decide +kernel, by decide +kernel⟩
theorem ok_law {f : Addr} {fd : FuncData} (B : Bt mg) (cBox : Cal P w K mg base 3 "_law_box" (spBox K) []) (cKinds : Cal P w K mg base 2 "_law_kinds" (spKinds K) []) (cFormula : Cal P w K mg base 18 "_law_formula" (spFormula K) []) (cDraw : Cal P w K mg base 1 "_law_draw" spDraw [])
    (cStruct : Cal P w K mg base 2 "_law_structure" (spStruct K) []) (cLRank : Cal P w K mg base 15 "_law_rank" (spLRank K 15) []) (cValues : Cal P w K mg base 2 "_law_values" spValues []) (cSame : Cal P w K mg base 3 "_law_same" (spSame K 3) []) (cTrue : Cal P w K mg base 15 "_law_true" (spTrue K 15) [])
    (cLFree : Cal P w K mg base 15 "_law_free" (spLFree K 15) []) (cTuples : Cal P w K mg base 1 "_law_tuples" (spTuples K) []) (cIsTrue : Cal P w K mg base 7 "is_true" (spIsTrue K) []) (cAllV : Cal P w K mg base 7 "all_values" (spAllV K) [])
    (F : Fun K "law" "law" sLaw f fd) : FnOk P w K mg base CX0 19 f fd ["script"] (spLaw K) := by
  refine F.ok scLaw (fun vs H Q E h => ?_) (fun cdv A outer s H vs Q E hr h => ?_)
  · obtain ⟨a, ns, rfl, _⟩ := h
    rfl
  obtain ⟨a, ns, rfl, hS, _, q⟩ := h
  have nd := scLaw.nd
  refine ⟨_, (pss_cons (ps_set (i := 1) nd rfl (.inl rfl) (pe_c cBox hr (by decide) rfl (pa_cons (pv 0) (pa_cons pe_int (pa_cons pe_int pa_nil)))))
    (pss_cons (ps_for PassesOwn.never rfl (pi_range1 rfl B.range (pa_cons pe_int pa_nil)) (pg_name (i := 2) nd rfl (.inl rfl)) (pss_cons (ps_set (i := 3) nd rfl (.inl rfl) (pe_c cKinds hr (by decide) rfl (pa_cons (pv 1) pa_nil)))
    (pss_cons (ps_set (i := 4) nd rfl (.inl rfl) (pe_c cFormula hr (by decide) rfl (pa_cons (pv 1) (pa_cons (pv 3) (pa_cons pe_int pa_nil)))))
    (pss_cons (ps_set (i := 5) nd rfl (.inl rfl) (pe_c cStruct hr (by decide) rfl (pa_cons (pv 1) (pa_cons (pv 3) (pa_cons (pe_op op_add pe_int (pe_c cDraw hr (by decide) rfl (pa_cons (pv 1) (pa_cons pe_int pa_nil)))) pa_nil)))))
    (pss_one (ps_if (pt_cmpR op_lt (pe_c cLRank hr (by decide) rfl (pa_cons (pv 4) pa_nil)) pe_int (nomark _)) (pss_cons (ps_set (i := 6) nd rfl (.inl rfl) (pe_c cValues hr (by decide) rfl (pa_cons (pv 1) (pa_cons (pe_ix ix_tup (pv 5) pe_int (fun _ _ => rfl)) pa_nil))))
    (pss_cons (ps_set (i := 7) nd rfl (.inl rfl) (pe_callTy call_dictD rfl B.dict (by decide +kernel) (pa_cons (pv 6) pa_nil)))
    (pss_cons (ps_if (PW.pt (pw_or (pt_not (pt_val (pe_c cSame hr (by decide) rfl (pa_cons (pe_c cIsTrue hr (by decide) rfl (pa_cons (pv 5) (pa_cons (pv 4) (pa_cons (pv 6) pa_nil)))) (pa_cons (pe_c cTrue hr (by decide) rfl (pa_cons (pv 5) (pa_cons (pv 4) (pa_cons (pv 6) pa_nil)))) pa_nil))))) (pw_or1 (pt_cmpR (op_ne_dictA hr.units0) (pv 6) (pv 7) (nomark _))))) (pss_one (ps_ret pe_bl)) pss_nil)
    (pss_cons (ps_set (i := 8) nd rfl (.inl rfl) (pe_c cLFree hr (by decide) rfl (pa_cons (pv 4) pa_nil)))
    (pss_one (ps_if (PW.pt (pw_and (pt_cmpR op_lt (pe_callB call_len_seq rfl B.len PySem.boot_len (pa_cons (pv 8) pa_nil)) pe_int (nomark _)) (pw_and1 (pt_cmpR op_lt (pe_c cLRank hr (by decide) rfl (pa_cons (pv 4) pa_nil)) pe_int (nomark _))))) (pss_cons (ps_set (i := 8) nd rfl (.inl rfl) (pe_callTy call_tuple_of rfl B.tuple (by decide +kernel) (pa_cons (pe_op op_cat (pv 8) (pe_slice sl_list (pe_lst (pa_cons pe_str pa_nil)) po_none (po_some (pe_c cDraw hr (by decide) rfl (pa_cons (pv 1) (pa_cons pe_int pa_nil)))))) pa_nil)))
    (pss_cut (ps_if (PW.pt (pw_and (pt_cmpR op_eq (pe_callB call_len_seq rfl B.len PySem.boot_len (pa_cons (pv 8) pa_nil)) pe_int (nomark _)) (pw_and1 (pt_cmpR op_eq (pe_c cDraw hr (by decide) rfl (pa_cons (pv 1) (pa_cons pe_int pa_nil))) pe_int (nomark _))))) (pss_one (ps_set (i := 8) nd rfl (.inl rfl) (Rv.pe_revT (pv 8)))) pss_nil)
    (pss_cons (ps_set (i := 9) nd rfl (.inl rfl) (pe_lst pa_nil))
    (pss_cons (ps_for PassesOwn.never rfl (pi_list (pe_c cTuples hr (by decide) rfl (pa_cons (pe_ix ix_tup (pv 5) pe_int (fun _ _ => rfl)) (pa_cons (pe_callB call_len_seq rfl B.len PySem.boot_len (pa_cons (pv 8) pa_nil)) pa_nil)))) (pg_name (i := 10) nd rfl (.inl rfl)) (pss_cons (ps_set (i := 11) nd rfl (.inl rfl) pe_dnewK)
    (pss_cons (ps_for PassesOwn.never rfl (pi_range1 rfl B.range (pa_cons (pe_callB call_len_seq rfl B.len PySem.boot_len (pa_cons (pv 8) pa_nil)) pa_nil)) (pg_name (i := 12) nd rfl (.inl rfl)) (pss_one (ps_dput (hu_of hr) (pv 11) (pe_ix ix_tup (pv 8) (pv 12) (fun _ _ => rfl)) (pe_ix ix_tup (pv 10) (pv 12) (fun _ _ => rfl)) rfl)))
    (pss_one (ps_if (pt_val (pe_c cTrue hr (by decide) rfl (pa_cons (pv 5) (pa_cons (pv 4) (pa_cons (pv 11) pa_nil))))) (pss_one (ps_expr (pe_bm PySem.F.plainAttrs_list PySem.F.slot_list_append PySem.F.type_list_append mt_append (pv 9) (pa_cons (pv 10) pa_nil)))) pss_nil)))))
    (pss_one (ps_if (pt_not (pt_val (pe_c cSame hr (by decide) rfl (pa_cons (pe_c cAllV hr (by decide) rfl (pa_cons (pv 5) (pa_cons (pv 4) (pa_cons (pv 8) pa_nil)))) (pa_cons (pe_callTy call_tuple_of rfl B.tuple (by decide +kernel) (pa_cons (pv 9) pa_nil)) pa_nil))))) (pss_one (ps_ret pe_bl)) pss_nil)))))) pss_nil)))))) pss_nil))))))
    (pss_one (ps_ret pe_bl)))), ?_⟩
  refine ⟨_, rfl, a, ns, rfl, hS, fun b d H1 s1 nb xb => ?_⟩
  refine ⟨4, rfl, by decide, by decide, for_range (lo := 0) (n := 4) (fun i σ H' => ∃ t ki fo st va ke na du ro wi k, σ = [some (.ref a), some (.ref b), t, ki, fo, st, va, ke, na, du, ro, wi, k] ∧ BoxAt H' b d) ⟨none, none, none, none, none, none, none, none, none, none, none, rfl, xb⟩ ?_ ?_⟩
  · rintro i σ H2 hi ⟨t, ki, fo, st, va, ke, na, du, ro, wi, k, rfl, x2⟩
    refine ⟨_, rfl, b, d, rfl, x2, fun kv ks H3 b3 x3 k3 => ⟨_, rfl, _, rfl, ks, b, d, kv, rfl, x3, k3, fun v f H4 b4 x4 hf fi => ?_⟩⟩
    have k4 := k3.tk (b4.tk x3)
    have c0 : f.ct ≤ 100 := Nat.le_trans fi.ct (by decide)
    have c1 : f.ct ≤ 1000 := by omega
    have c2 : f.dp ≤ 14 := fi.dp
    have c3 : f.nm.length ≤ 2000 := Nat.le_trans fi.nm (by omega)
    have hfr8 := wf_fr f fi.wf
    refine ⟨_, rfl, _, rfl, _, rfl, b, d, 4, rfl, x4, by decide, fun r H5 r0 r1 b5 x5 => ⟨_, _, rfl, rfl, ks, b, d, kv, (1 + r).toNat, ?_, x5, k4.tk (b5.tk x4), by omega, fun sv rels H6 b6 x6 hs hko => ?_⟩⟩
    · show [V.ref b, kv, V.int (1 + r)] = _
      rw [show ((1 + r).toNat : Int) = 1 + r by omega]
    have hkd : ks ∈ Kd := by obtain ⟨_, _, _, _, h, _⟩ := k4; exact h
    have hm4 : (1 + r).toNat ≤ 4 := by omega
    have hm0 : 0 < (1 + r).toNat := by omega
    generalize (1 + r).toNat = m at *
    obtain ⟨kd1, kd2, kd3⟩ := kd_ok ks hkd
    have hlen := hko.length
    have hOk : StrOk m rels := ⟨hm0, hm4, by rw [names_eq hko]; exact kd1, by omega, l16_of hko⟩
    have hrf : RelsFit m rels f := fun b e1 e2 => wf_ro hko hkd b e1 e2 f fi.wf
    have hf6 := hf.tk ((b5.trans b6).tk x4)
    have hs0 := hs
    obtain ⟨sa, stt, sus, rfl, hs1, hs2, hs3⟩ := hs
    refine ⟨_, rfl, v, f, rfl, hf6, by omega, c1, fun H7 s7 => ⟨_, _, rfl, rfl, _, rfl, ite2 (fun cr => ?_) (fun _ => ?_)⟩⟩
    rotate_left
    · exact ⟨_, _, _, _, _, _, _, _, _, _, _, rfl, x6.same s7⟩
    have hrk : f.rk ≤ 3 := by have := of_decide_eq_true cr; omega
    have x7 := x6.same s7
    refine ⟨_, rfl, _, rfl, sa, _, _, _, rfl, rfl, Tk.of_same s7 _ _ hs1, at_of (j := 1) rfl rfl, b, d, (m : Int), rfl, x7, by omega, fun da kvs H8 b8 x8 ha hl8 hdo hv => ?_⟩
    have t68 : Tk K H6 H8 := (Tk.of_same s7).trans (b8.tk x7)
    have hs8 := hs0.tk t68
    have hf8 := hf6.tk t68
    refine ⟨_, rfl, da, kvs, rfl, .inl ha, fun wa nwa => ?_⟩
    have s9 := same_new nwa (.dK kvs)
    have x9 := x8.same s9
    have hs9 := hs8.tk (.of_same s9)
    have hf9 := hf8.tk (.of_same s9)
    have ha9 := s9 _ _ ha
    have hwa9 : upd H8 wa (.dK kvs) wa = some (.dK kvs) := upd_same
    generalize upd H8 wa (.dK kvs) = H9 at *
    have hvf : VF f kvs (eOf kvs) := fun x hx => (e_of hv x (hfr8 x hx)).1
    have hrg : ∀ x ∈ f.fr, 0 ≤ eOf kvs x ∧ eOf kvs x < (m : Int) := fun x hx => (e_of hv x (hfr8 x hx)).2
    refine ⟨_, rfl, _, rfl, _, rfl, .ref sa, v, da, m, rels, kvs, eOf kvs, f, rfl, hs9, hOk, hf9, hrf, by omega, c1, ha9, hvf, hrg, fun HA sA => ?_⟩
    refine ⟨_, rfl, _, rfl, _, rfl, .ref sa, v, da, m, rels, kvs, eOf kvs, f, rfl, hs9.tk (.of_same sA), hf9.tk (.of_same sA), by omega, c3, sA _ _ ha9, by omega, hvf, hm4, fun HB sB => ?_⟩
    refine ⟨.bl (Fm.tv m rels f (eOf kvs)), .bl (Fm.tv m rels f (eOf kvs)), .bo (Fm.tv m rels f (eOf kvs)), rfl, by rw [TrAt], by rw [TrAt], by rw [Tr.dep]; decide, by rw [Tr.wid]; decide, fun HC sC => ⟨true, rfl, ?_⟩⟩
    have s9C := sA.trans (sB.trans sC)
    have haC := s9C _ _ ha9
    have hwC := s9C _ _ hwa9
    have hsC := hs9.tk (.of_same s9C)
    have hfC := hf9.tk (.of_same s9C)
    have xC := x9.same s9C
    refine ⟨_, rfl, _, rfl, da, wa, kvs, kvs, rfl, rfl, haC, hwC, rfl, (fun p hp => ⟨(hdo p hp).1, by obtain ⟨i, hi⟩ := (hdo p hp).2; rw [hi]; rfl⟩), false, rfl, ?_⟩
    refine ⟨_, rfl, v, f, rfl, hfC, by omega, c3, fun l ys HD sD hl up mem len => ?_⟩
    have hsD := hsC.tk (.of_same sD)
    have hfD := hfC.tk (.of_same sD)
    have xD := xC.same sD
    refine ⟨_, rfl, l, _, rfl, .inl (SqL.of hl), _, _, rfl, rfl, _, rfl, ite2 (fun cl => ?_) (fun _ => ?_)⟩
    rotate_left
    · exact ⟨_, _, _, _, _, _, _, _, _, _, _, rfl, xD⟩
    have hyl : ys.length < 3 := by have := of_decide_eq_true cl; rw [List.length_map] at this; omega
    refine ⟨_, rfl, v, f, rfl, hfD, by omega, c1, fun HE sE => ⟨_, _, rfl, rfl, _, rfl, ite2 (fun cr2 => ?_) (fun _ => ?_)⟩⟩
    rotate_left
    · exact ⟨_, _, _, _, _, _, _, _, _, _, _, rfl, xD.same sE⟩
    have hrk2 : f.rk ≤ 2 := by have := of_decide_eq_true cr2; omega
    have xE := xD.same sE
    have hsE := hsD.tk (.of_same sE)
    have hfE := hfD.tk (.of_same sE)
    have hlE := sE _ _ hl
    refine ⟨_, rfl, l1, fun Z nZ => ⟨_, rfl, b, d, 2, rfl, xE.new nZ, by decide, fun r2 HF r20 r21 bF xF => ⟨r2, rfl, ?_⟩⟩⟩
    have nZb : Z ≠ b := (box_ne xE nZ).1
    have hZF : HF Z = some (.lst [.str "z9"]) := bF _ _ nZb upd_same
    have tEF : Tk K HE HF := (tk_new (K := K) nZ (.lst [.str "z9"])).trans (bF.tk (xE.new nZ))
    have hlb : l ≠ b := by
      obtain ⟨ns', i', h1, _⟩ := xE
      intro z; rw [z, h1] at hlE
      injection hlE with h; injection h with h
      have := congrArg List.length h
      cases ys with
      | nil => cases h
      | cons y ys => injection h with h _; cases h
    have hlF : HF l = some (.lst (ys.map V.str)) := bF _ _ hlb (same_new nZ _ _ _ hlE)
    refine ⟨Z, _, rfl, SqL.of hZF, fun p np => ?_⟩
    have er2 : cutV [V.str "z9"] none (some r2) = ((["z9"] : List Str).take r2.toNat).map V.str := by
      have h := cut_pre (xs := [V.str "z9"]) (k := r2.toNat) (by show r2.toNat ≤ 1; omega)
      rw [show ((r2.toNat : Nat) : Int) = r2 by omega] at h
      rw [h, List.map_take]
      rfl
    rw [er2]
    have hlp := same_new np (.lst (((["z9"] : List Str).take r2.toNat).map V.str)) _ _ hlF
    refine ⟨l, p, _, _, rfl, rfl, hlp, upd_same, Nat.le_of_lt (lineOk (by rw [List.length_map, List.length_map, List.length_take]; omega)), fun p2 np2 => ⟨p2, _, rfl, .inl ⟨SqL.of upd_same, fun TT nTT => ?_⟩⟩⟩
    have ezs : ys.map V.str ++ ((["z9"] : List Str).take r2.toNat).map V.str = (ys ++ (["z9"] : List Str).take r2.toNat).map V.str := by rw [List.map_append]
    rw [ezs] at nTT ⊢
    have hzl : (ys ++ (["z9"] : List Str).take r2.toNat).length ≤ 3 := by
      rw [List.length_append, List.length_take]
      have : ([("z9" : Str)]).length = 1 := rfl
      omega
    have hzf : ∀ y ∈ f.fr, y ∈ ys ++ (["z9"] : List Str).take r2.toNat := fun y hy => List.mem_append_left _ ((mem y).mpr hy)
    have sG : Same HF (upd (upd (upd HF p (.lst (((["z9"] : List Str).take r2.toNat).map V.str))) p2 (.lst ((ys ++ (["z9"] : List Str).take r2.toNat).map V.str))) TT (.tup ((ys ++ (["z9"] : List Str).take r2.toNat).map V.str))) := by
      exact (same_new np _).trans ((same_new np2 _).trans (same_new nTT _))
    have hTT0 : SqT K (upd (upd (upd HF p (.lst (((["z9"] : List Str).take r2.toNat).map V.str))) p2 (.lst ((ys ++ (["z9"] : List Str).take r2.toNat).map V.str))) TT (.tup ((ys ++ (["z9"] : List Str).take r2.toNat).map V.str))) TT ((ys ++ (["z9"] : List Str).take r2.toNat).map V.str) := SqT.of upd_same
    generalize upd (upd (upd HF p (.lst (((["z9"] : List Str).take r2.toNat).map V.str))) p2 (.lst ((ys ++ (["z9"] : List Str).take r2.toNat).map V.str))) TT (.tup ((ys ++ (["z9"] : List Str).take r2.toNat).map V.str)) = HG at *
    generalize ys ++ (["z9"] : List Str).take r2.toNat = zs at *
    have tG := tEF.trans (Tk.of_same (K := K) sG)
    have hsG := hsE.tk tG
    have hfG := hfE.tk tG
    have xG := xF.same sG
    refine ⟨fun σ' H' => ∃ (TT : Addr) (xs : List Str), σ' = [some (.ref a), some (.ref b), some (.int (0 + (i : Int))), some kv, some v, some (.ref sa), some (.ref da), some (.ref wa), some (.ref TT), du, ro, wi, k] ∧ BoxAt H' b d ∧ StrAt K H' (.ref sa) m rels ∧ FmAt K H' v f ∧ SqT K H' TT (xs.map V.str) ∧ xs.length ≤ 3 ∧ ∀ y ∈ f.fr, y ∈ xs, ?_, ?_⟩
    · refine ⟨_, rfl, TT, _, rfl, .inr hTT0, rfl, _, rfl, ite2 (fun c5 => ?_) (fun c5 => ?_)⟩
      · refine ⟨_, rfl, b, d, 2, rfl, xG, by decide, fun r3 HH _ _ bH xH => ⟨rfl, _, rfl, ite2 (fun _ => ?_) (fun _ => ?_)⟩⟩
        · have tH := bH.tk (K := K) xG
          refine ⟨_, rfl, TT, _, rfl, tH _ _ hTT0, fun T2 nT2 => ?_⟩
          have s2 := same_new nT2 (.tup (zs.map V.str).reverse)
          exact ⟨T2, zs.reverse, rfl, xH.same s2, (hsG.tk tH).tk (.of_same s2), (hfG.tk tH).tk (.of_same s2), by rw [List.map_reverse]; exact SqT.of upd_same, by rw [List.length_reverse]; exact hzl, fun y hy => List.mem_reverse.mpr (hzf y hy)⟩
        · have tH := bH.tk (K := K) xG
          exact ⟨TT, zs, rfl, xH, hsG.tk tH, hfG.tk tH, tH _ _ hTT0, hzl, hzf⟩
      · exact ⟨TT, zs, rfl, xG, hsG, hfG, hTT0, hzl, hzf⟩
    clear hTT0 hzl hzf
    rintro σ' HI ⟨TT, xs, rfl, xI, hsI, hfI, hTT, hxl, hxf⟩
    refine ⟨Nat.zero_le _, fun D nD => ?_⟩
    have sJ := same_new nD (.lst [])
    have xJ := xI.same sJ
    have hsJ := hsI.tk (.of_same sJ)
    have hfJ := hfI.tk (.of_same sJ)
    have hTJ := Tk.of_same (K := K) sJ _ _ hTT
    have hDJ : upd HI D (.lst []) D = some (.lst []) := upd_same
    obtain ⟨nDb, nDd⟩ := box_ne xI nD
    generalize upd HI D (.lst []) = HJ at *
    have hlx : (xs.map V.str).length = xs.length := List.length_map _
    obtain ⟨sa', st', su', esa, hsJ1, _, _⟩ := id hsJ
    cases esa
    refine ⟨_, rfl, sa, _, _, _, rfl, rfl, hsJ1, at_of (j := 1) rfl rfl, _, rfl, TT, _, rfl, .inr hTJ, m, xs.length, by rw [hlx]; rfl, hm4, hxl, fun L us HK sK nL hL hus => ⟨L, rfl, ⟨_, SqL.of hL⟩, ?_⟩⟩
    have xK := xJ.same sK
    have hsK := hsJ.tk (.of_same sK)
    have hfK := hfJ.tk (.of_same sK)
    have hTK := Tk.of_same (K := K) sK _ _ hTJ
    have hDK := sK _ _ hDJ
    have nLD : L ≠ D := (ne_of_none hDJ nL).symm
    refine for_list (xs := us) (fun j σ H' => ∃ (ro wi k : Option V) (acc : List V), σ = [some (.ref a), some (.ref b), some (.int (0 + (i : Int))), some kv, some v, some (.ref sa), some (.ref da), some (.ref wa), some (.ref TT), some (.ref D), ro, wi, k] ∧ BoxAt H' b d ∧ But D HK H' ∧ H' D = some (.lst acc) ∧
      All2 (RowAt K H') acc (((rowsOf m xs.length).take j).filter fun r => Fm.tv m rels f (setL (fun _ => 0) xs r)) ∧ acc.length ≤ j) ⟨ro, wi, k, [], rfl, xK, But.refl _ _, hDK, .nil, Nat.le_refl 0⟩ (fun j σ H' _ ⟨_, _, _, _, _, _, bb, _⟩ => SqL.of (bb _ _ nLD hL)) ?_ ?_
    · rintro j u σ HL hj ⟨ro, wi, k, acc, rfl, xL, bL, hDL, hacc, la⟩
      have tL : Tk K HK HL := tk_butL bL hDK
      obtain ⟨r, hr, R, rfl, hR⟩ := (hus.imp fun _ _ h => h.tk tL).get hj
      have lj := (List.getElem?_eq_some_iff.mp hj).1
      obtain ⟨hrl, hrr⟩ := rows_mem (List.mem_of_getElem? hr)
      have lus := hus.length
      rw [rows_len] at lus
      have lp : m ^ xs.length ≤ 256 := Nat.le_trans (Nat.pow_le_pow_left hm4 _) (Nat.le_trans (Nat.pow_le_pow_right (by decide) (show xs.length ≤ 4 by omega)) (by decide))
      refine fun W nW => ?_
      have sW := same_new nW (.dK [])
      have hW0 : upd HL W (.dK []) W = some (.dK []) := upd_same
      have xW := xL.same sW
      have tW := tL.trans (Tk.of_same (K := K) sW)
      have hDW := sW _ _ hDL
      have hRW := Tk.of_same (K := K) sW _ _ hR
      have nWD : D ≠ W := ne_of_none hDL nW
      have bW : But D HK (upd HL W (.dK [])) := bL.trans (.of_same sW)
      have haccW := hacc.imp fun _ _ h => RowAt.tk (Tk.of_same (K := K) sW) h
      obtain ⟨nWb, nWd⟩ := box_ne xL nW
      generalize hHM : upd HL W (.dK []) = HM at *
      refine ⟨_, rfl, TT, _, rfl, .inr (tW _ _ hTK), ((xs.length : Nat) : Int), by rw [hlx], by omega, by omega, ?_⟩
      refine for_range (lo := 0) (n := xs.length) (fun c σ H' => ∃ (ko : Option V) (kv2 : List (L2.Key × V)), σ = [some (.ref a), some (.ref b), some (.int (0 + (i : Int))), some kv, some v, some (.ref sa), some (.ref da), some (.ref wa), some (.ref TT), some (.ref D), some (.ref R), some (.ref W), ko] ∧ H' W = some (.dK kv2) ∧ But W HM H' ∧ kv2.length ≤ c ∧
        ∀ y ∈ xs.take c, valV kv2 (.inr y) = some (.int (setL (fun _ => 0) (xs.take c) (r.take c) y))) ⟨k, [], rfl, hW0, But.refl _ _, Nat.le_refl 0, fun y hy => by cases hy⟩ ?_ ?_
      · rintro c σ HN hc ⟨ko, kv2, rfl, hWN, bN, lk, hvals⟩
        have tN : Tk K HM HN := tk_butD bN hW0
        have hx : xs[c]? = some xs[c] := List.getElem?_eq_getElem hc
        have hcr : c < r.length := by omega
        have ht : r[c]? = some r[c] := List.getElem?_eq_getElem hcr
        refine ⟨_, rfl, _, rfl, R, _, _, _, rfl, rfl, tN _ _ hRW, at_of (j := c) (by omega) (by rw [List.getElem?_map, ht]; rfl), _, rfl, _, rfl, _, rfl, TT, _, _, _, rfl, rfl, tN _ _ (tW _ _ hTK), at_of (j := c) (by omega) (by rw [List.getElem?_map, hx]; rfl), W, _, rfl, .inl ⟨kv2, .inr xs[c], hWN, rfl, lineOk (by omega), rfl⟩, ?_⟩
        refine ⟨_, _, rfl, upd_same, but_to bN, Nat.le_trans put_len (by omega), fun y hy => ?_⟩
        rw [List.take_succ, hx, List.take_succ, ht]
        show valV _ _ = some (.int (setL (fun _ => 0) (xs.take c ++ [xs[c]]) (r.take c ++ [r[c]]) y))
        rw [setL_snoc _ _ _ _ _ (by rw [List.length_take, List.length_take]; omega), valV_put]
        unfold Fm.set1
        by_cases z : y = xs[c]
        · rw [if_pos (congrArg Sum.inr z), if_pos z]
        · rw [if_neg (fun q => z (Sum.inr.inj q)), if_neg z]
          rw [List.take_succ, hx] at hy
          rcases List.mem_append.mp hy with h | h
          · exact hvals y h
          · exact absurd (List.mem_singleton.mp h) z
      · rintro σ HN ⟨ko, kv2, rfl, hWN, bN, lk, hvals⟩
        rw [List.take_length, ← hrl, List.take_length] at hvals
        have tN : Tk K HM HN := tk_butD bN hW0
        have tKN := tW.trans tN
        have hvf2 : VF f kv2 (setL (fun _ => 0) xs r) := fun y hy => hvals y (hxf y hy)
        have hDN := bN _ _ nWD hDW
        refine ⟨_, rfl, _, rfl, _, rfl, .ref sa, v, W, m, rels, kv2, setL (fun _ => 0) xs r, f, rfl, hsK.tk tKN, hfK.tk tKN, by omega, c3, hWN, by omega, hvf2, hm4, fun HO' sO => ?_⟩
        have bKN : But D HK HN := fun a o ne h => bN a o (ne_of_none (bL a o ne h) nW) (bW a o ne h)
        have xN : BoxAt HN b d := by
          obtain ⟨ns', i', h1, h2, h3, h4⟩ := xW
          exact ⟨ns', i', bN _ _ nWb.symm h1, bN _ _ nWd.symm h2, h3, h4⟩
        have hDO := sO _ _ hDN
        have tNO := tN.trans (Tk.of_same (K := K) sO)
        have bKO := bKN.trans (But.of_same (b := D) sO)
        have xO := xN.same sO
        have etk : ((rowsOf m xs.length).take (j + 1)).filter (fun r => Fm.tv m rels f (setL (fun _ => 0) xs r)) = ((rowsOf m xs.length).take j).filter (fun r => Fm.tv m rels f (setL (fun _ => 0) xs r)) ++ (if Fm.tv m rels f (setL (fun _ => 0) xs r) = true then [r] else []) := by
          rw [List.take_succ, hr, List.filter_append]
          congr 1
          show List.filter _ [r] = _
          rw [List.filter_cons, List.filter_nil]
        refine ⟨_, rfl, ite2 (fun z => ?_) (fun z => ?_)⟩
        · rw [if_pos z] at etk
          have t2 := tNO.trans (tk_lst (K := K) hDO (.lst (acc ++ [.ref R])))
          refine ⟨_, rfl, .inl ⟨rfl, _, SqL.of hDO⟩, _, rfl, D, _, _, rfl, rfl, hDO, lineOk (by omega), _, _, _, acc ++ [.ref R], rfl, ?_, but_to bKO, upd_same, ?_, by simp; omega⟩
          · obtain ⟨ns', i', h1, h2, h3, h4⟩ := xO
            exact ⟨ns', i', by rw [upd_ne nDb.symm]; exact h1, by rw [upd_ne nDd.symm]; exact h2, h3, h4⟩
          · rw [etk]
            exact (haccW.imp fun _ _ h => RowAt.tk t2 h).append (.cons ⟨R, rfl, t2 _ _ hRW⟩ .nil)
        · rw [if_neg z, List.append_nil] at etk
          exact ⟨_, _, _, acc, rfl, xO, bKO, hDO, by rw [etk]; exact haccW.imp fun _ _ h => RowAt.tk tNO h, by omega⟩
    · rintro σ HL ⟨ro, wi, k, acc, rfl, xL, bL, hDL, hacc, la⟩
      have tL : Tk K HK HL := tk_butL bL hDK
      rw [hus.length, List.take_length] at hacc
      have hrm : ∀ q ∈ (rowsOf m xs.length).filter (fun r => Fm.tv m rels f (setL (fun _ => 0) xs r)), q.length ≤ 10 := fun q hq => by
        have := (rows_mem (List.mem_filter.mp hq).1).1
        omega
      have hll : ((rowsOf m xs.length).filter (fun r => Fm.tv m rels f (setL (fun _ => 0) xs r))).length ≤ 256 := by
        have h1 := List.length_filter_le (fun r => Fm.tv m rels f (setL (fun _ => 0) xs r)) (rowsOf m xs.length)
        rw [rows_len] at h1
        exact Nat.le_trans h1 (Nat.le_trans (Nat.pow_le_pow_left hm4 _) (Nat.le_trans (Nat.pow_le_pow_right (by decide) (show xs.length ≤ 4 by omega)) (by decide)))
      generalize hRs : (rowsOf m xs.length).filter (fun r => Fm.tv m rels f (setL (fun _ => 0) xs r)) = rs at *
      refine ⟨_, rfl, _, rfl, _, rfl, .ref sa, v, TT, m, rels, xs, (fun _ => 0), f, rfl, hsK.tk tL, hOk, hfK.tk tL, hrf, by omega, by omega, c1, tL _ _ hTK, hxf, fun T us2 HM sM hT hus2 => ?_⟩
      rw [hRs] at hus2
      have hDM := sM _ _ hDL
      refine ⟨_, rfl, D, _, rfl, .inl ⟨SqL.of hDM, fun T2 nT2 => ?_⟩⟩
      have s2 := same_new nT2 (.tup acc)
      have k2 := Tk.of_same (K := K) s2
      have kM := Tk.of_same (K := K) sM
      refine ⟨.ref T, .ref T2, .tp (rs.map trow), rfl, (rows_tr hT hus2).tk k2, rows_tr (SqT.of upd_same) (hacc.imp fun _ _ h => RowAt.tk (kM.trans k2) h), ?_, ?_, fun HO' sO => ⟨true, rfl, ?_⟩⟩
      · rw [Tr.dep]; have := rows_dep rs; omega
      · rw [Tr.wid, List.length_map]; have := rows_wid rs hrm; omega
      · exact ⟨_, _, _, _, _, _, _, _, _, _, _, rfl, (xL.same sM).same (s2.trans sO)⟩
  · rintro σ H2 ⟨t, ki, fo, st, va, ke, na, du, ro, wi, k, rfl, x2⟩
    exact q H2
end
end K3

set_option Elab.async false
set_option linter.all false
set_option maxRecDepth 100000
set_option maxHeartbeats 4000000
namespace K3
open PySem L2 Fo
open C8 (Cal pe_c pss_cut)
section
variable {P : Program} {w : World} {K : PySem.W.Frag} {mg : Str → Option Value} {base : Heap}
theorem vac {k : Nat} {f : Addr} {fd : FuncData} {ps : List Str} {sp : Sp} (no : ∀ vs H Q E, ¬ sp vs H Q E) : FnOk P w K mg base CX0 k f fd ps sp :=
  ⟨fun vs H Q E h => absurd h (no vs H Q E), fun A outer s H args us vs Q E _ _ _ _ h => absurd h (no vs H Q E)⟩
section
variable {f : Addr} {fd : FuncData}
theorem cal_below (B : Bt mg) (cDraw : Cal P w K mg base 1 "_law_draw" spDraw []) (cName : Cal P w K mg base 2 "_law_name" spName []) (F : Fun K "_law_below" "_law_below" sBelow f fd) (m : mg "_law_below" = some (.ref f)) (b : Binds K fd pBelow []) :
    ∀ n, Cal P w K mg base (n + 2) "_law_below" (spBelow K n) []
  | 0 => cal_of (vac fun vs H Q E ⟨_, _, _, _, _, _, _, _, _, h, _⟩ => Nat.not_lt_zero _ h) m F.kp b
  | n + 1 => cal_of (ok_below B cDraw cName (cal_below B cDraw cName F m b n) F) m F.kp b
theorem cal_lrank (B : Bt mg) (F : Fun K "_law_rank" "_law_rank" sLRank f fd) (m : mg "_law_rank" = some (.ref f)) (b : Binds K fd ["formula"] []) : ∀ n, Cal P w K mg base n "_law_rank" (spLRank K n) []
  | 0 => cal_of (vac fun vs H Q E ⟨_, _, _, _, h, _⟩ => Nat.not_lt_zero _ h) m F.kp b
  | n + 1 => cal_of (ok_lrank B (cal_lrank B F m b n) F) m F.kp b
theorem cal_lfree (B : Bt mg) (F : Fun K "_law_free" "_law_free" sLFree f fd) (m : mg "_law_free" = some (.ref f)) (b : Binds K fd ["formula"] []) : ∀ n, Cal P w K mg base n "_law_free" (spLFree K n) []
  | 0 => cal_of (vac fun vs H Q E ⟨_, _, _, _, h, _⟩ => Nat.not_lt_zero _ h) m F.kp b
  | n + 1 => cal_of (ok_lfree B (cal_lfree B F m b n) F) m F.kp b
theorem cal_true (B : Bt mg) (F : Fun K "_law_true" "_law_true" sTrue f fd) (m : mg "_law_true" = some (.ref f)) (b : Binds K fd pTrue []) : ∀ n, Cal P w K mg base n "_law_true" (spTrue K n) []
  | 0 => cal_of (vac fun vs H Q E ⟨_, _, _, _, _, _, _, _, _, _, _, h, _⟩ => Nat.not_lt_zero _ h) m F.kp b
  | n + 1 => cal_of (ok_true B (cal_true B F m b n) F) m F.kp b
theorem cal_same (B : Bt mg) (F : Fun K "_law_same" "_law_same" sSame f fd) (m : mg "_law_same" = some (.ref f)) (b : Binds K fd ["actual", "expected"] []) : ∀ n, Cal P w K mg base n "_law_same" (spSame K n) []
  | 0 => cal_of (vac fun vs H Q E ⟨_, _, _, _, _, _, h, _⟩ => Nat.not_lt_zero _ h) m F.kp b
  | n + 1 => cal_of (ok_same B (cal_same B F m b n) F) m F.kp b
end
end
end K3

set_option Elab.async false
set_option linter.all false
set_option maxRecDepth 100000
set_option maxHeartbeats 4000000
namespace K3
open PySem L2 Fo
open C8 (Cal pe_c pss_cut)
theorem all_mk {l : PySem.W.OpenLaw} {w : World} {K : PySem.W.Frag} {h : Heap} {mg : Str → Option Value} {fa f0 f1 f2 f3 f4 f5 f6 f7 f8 f9 f10 f11 f12 f13 f14 f15 f16 f17 f18 f19 f20 f21 f22 f23 f24 : Addr} (X : K.In h) (G : h.Ns mainGlobals mg) (hfa : mg "law" = some (.ref fa))
    {od0 an0 od1 an1 od2 an2 od3 an3 od4 an4 od5 an5 od6 an6 od7 an7 od8 an8 od9 an9 od10 an10 od11 an11 od12 an12 od13 an13 od14 an14 od15 an15 od16 an16 od17 an17 od18 an18 od19 an19 od20 an20 od21 an21 od22 an22 od23 an23 od24 an24 : Option Addr} {sl0 sl1 sl2 sl3 sl4 sl5 sl6 sl7 sl8 sl9 sl10 sl11 sl12 sl13 sl14 sl15 sl16 sl17 sl18 sl19 sl20 sl21 sl22 sl23 sl24 : Array (Option Value)} {oc0 kV0 dc0 pm0 cd0 ct0 oc1 kV1 dc1 pm1 cd1 ct1 oc2 kV2 dc2 pm2 cd2 ct2 oc3 kV3 dc3 pm3 cd3 ct3 oc4 kV4 dc4 pm4 cd4 ct4 oc5 kV5 dc5 pm5 cd5 ct5 oc6 kV6 dc6 pm6 cd6 ct6 oc7 kV7 dc7 pm7 cd7 ct7 oc8 kV8 dc8 pm8 cd8 ct8 oc9 kV9 dc9 pm9 cd9 ct9 oc10 kV10 dc10 pm10 cd10 ct10 oc11 kV11 dc11 pm11 cd11 ct11 oc12 kV12 dc12 pm12 cd12 ct12 oc13 kV13 dc13 pm13 cd13 ct13 oc14 kV14 dc14 pm14 cd14 ct14 oc15 kV15 dc15 pm15 cd15 ct15 oc16 kV16 dc16 pm16 cd16 ct16 oc17 kV17 dc17 pm17 cd17 ct17 oc18 kV18 dc18 pm18 cd18 ct18 oc19 kV19 dc19 pm19 cd19 ct19 oc20 kV20 dc20 pm20 cd20 ct20 oc21 kV21 dc21 pm21 cd21 ct21 oc22 kV22 dc22 pm22 cd22 ct22 oc23 kV23 dc23 pm23 cd23 ct23 oc24 kV24 dc24 pm24 cd24 ct24 : Value}
    (a0 : PySem.W.nsIn K mainGlobals "inner" = some (some (.ref f0))) (l0 : K.lookup f0 = some ⟨oc0, od0, .func (PySem.W.fnOf "inner" "inner" (defArgs sInner) (defBody sInner) (defScope sInner) .none kV0 dc0 pm0 an0 cd0 ct0), sl0⟩) (c0 : PySem.W.codeIn K cd0 "inner" = true) (k0 : PySem.W.keepIn K (.ref f0) = true)
    (a1 : PySem.W.nsIn K mainGlobals "handed_down" = some (some (.ref f1))) (l1 : K.lookup f1 = some ⟨oc1, od1, .func (PySem.W.fnOf "handed_down" "handed_down" (defArgs sHanded) (defBody sHanded) (defScope sHanded) .none kV1 dc1 pm1 an1 cd1 ct1), sl1⟩) (c1 : PySem.W.codeIn K cd1 "handed_down" = true) (k1 : PySem.W.keepIn K (.ref f1) = true)
    (a2 : PySem.W.nsIn K mainGlobals "rows_of" = some (some (.ref f2))) (l2 : K.lookup f2 = some ⟨oc2, od2, .func (PySem.W.fnOf "rows_of" "rows_of" (defArgs sRowsOf) (defBody sRowsOf) (defScope sRowsOf) .none kV2 dc2 pm2 an2 cd2 ct2), sl2⟩) (c2 : PySem.W.codeIn K cd2 "rows_of" = true) (k2 : PySem.W.keepIn K (.ref f2) = true)
    (a3 : PySem.W.nsIn K mainGlobals "all_points" = some (some (.ref f3))) (l3 : K.lookup f3 = some ⟨oc3, od3, .func (PySem.W.fnOf "all_points" "all_points" (defArgs sPoints) (defBody sPoints) (defScope sPoints) .none kV3 dc3 pm3 an3 cd3 ct3), sl3⟩) (c3 : PySem.W.codeIn K cd3 "all_points" = true) (k3 : PySem.W.keepIn K (.ref f3) = true)
    (a4 : PySem.W.nsIn K mainGlobals "names_within" = some (some (.ref f4))) (l4 : K.lookup f4 = some ⟨oc4, od4, .func (PySem.W.fnOf "names_within" "names_within" (defArgs sWithin) (defBody sWithin) (defScope sWithin) .none kV4 dc4 pm4 an4 cd4 ct4), sl4⟩) (c4 : PySem.W.codeIn K cd4 "names_within" = true) (k4 : PySem.W.keepIn K (.ref f4) = true)
    (a5 : PySem.W.nsIn K mainGlobals "both" = some (some (.ref f5))) (l5 : K.lookup f5 = some ⟨oc5, od5, .func (PySem.W.fnOf "both" "both" (defArgs sBoth) (defBody sBoth) (defScope sBoth) .none kV5 dc5 pm5 an5 cd5 ct5), sl5⟩) (c5 : PySem.W.codeIn K cd5 "both" = true) (k5 : PySem.W.keepIn K (.ref f5) = true)
    (a6 : PySem.W.nsIn K mainGlobals "either" = some (some (.ref f6))) (l6 : K.lookup f6 = some ⟨oc6, od6, .func (PySem.W.fnOf "either" "either" (defArgs sEither) (defBody sEither) (defScope sEither) .none kV6 dc6 pm6 an6 cd6 ct6), sl6⟩) (c6 : PySem.W.codeIn K cd6 "either" = true) (k6 : PySem.W.keepIn K (.ref f6) = true)
    (a7 : PySem.W.nsIn K mainGlobals "is_true" = some (some (.ref f7))) (l7 : K.lookup f7 = some ⟨oc7, od7, .func (PySem.W.fnOf "is_true" "is_true" (defArgs sIsTrue) (defBody sIsTrue) (defScope sIsTrue) .none kV7 dc7 pm7 an7 cd7 ct7), sl7⟩) (c7 : PySem.W.codeIn K cd7 "is_true" = true) (k7 : PySem.W.keepIn K (.ref f7) = true)
    (a8 : PySem.W.nsIn K mainGlobals "all_values" = some (some (.ref f8))) (l8 : K.lookup f8 = some ⟨oc8, od8, .func (PySem.W.fnOf "all_values" "all_values" (defArgs sAllV) (defBody sAllV) (defScope sAllV) .none kV8 dc8 pm8 an8 cd8 ct8), sl8⟩) (c8 : PySem.W.codeIn K cd8 "all_values" = true) (k8 : PySem.W.keepIn K (.ref f8) = true)
    (a9 : PySem.W.nsIn K mainGlobals "_law_cell" = some (some (.ref f9))) (l9 : K.lookup f9 = some ⟨oc9, od9, .func (PySem.W.fnOf "_law_cell" "_law_cell" (defArgs sCell) (defBody sCell) (defScope sCell) .none kV9 dc9 pm9 an9 cd9 ct9), sl9⟩) (c9 : PySem.W.codeIn K cd9 "_law_cell" = true) (k9 : PySem.W.keepIn K (.ref f9) = true)
    (a10 : PySem.W.nsIn K mainGlobals "_law_digits" = some (some (.ref f10))) (l10 : K.lookup f10 = some ⟨oc10, od10, .func (PySem.W.fnOf "_law_digits" "_law_digits" (defArgs sDigits) (defBody sDigits) (defScope sDigits) .none kV10 dc10 pm10 an10 cd10 ct10), sl10⟩) (c10 : PySem.W.codeIn K cd10 "_law_digits" = true) (k10 : PySem.W.keepIn K (.ref f10) = true)
    (a11 : PySem.W.nsIn K mainGlobals "_law_box" = some (some (.ref f11))) (l11 : K.lookup f11 = some ⟨oc11, od11, .func (PySem.W.fnOf "_law_box" "_law_box" (defArgs sBox) (defBody sBox) (defScope sBox) .none kV11 dc11 pm11 an11 cd11 ct11), sl11⟩) (c11 : PySem.W.codeIn K cd11 "_law_box" = true) (k11 : PySem.W.keepIn K (.ref f11) = true)
    (a12 : PySem.W.nsIn K mainGlobals "_law_draw" = some (some (.ref f12))) (l12 : K.lookup f12 = some ⟨oc12, od12, .func (PySem.W.fnOf "_law_draw" "_law_draw" (defArgs sDraw) (defBody sDraw) (defScope sDraw) .none kV12 dc12 pm12 an12 cd12 ct12), sl12⟩) (c12 : PySem.W.codeIn K cd12 "_law_draw" = true) (k12 : PySem.W.keepIn K (.ref f12) = true)
    (a13 : PySem.W.nsIn K mainGlobals "_law_kinds" = some (some (.ref f13))) (l13 : K.lookup f13 = some ⟨oc13, od13, .func (PySem.W.fnOf "_law_kinds" "_law_kinds" (defArgs sKinds) (defBody sKinds) (defScope sKinds) .none kV13 dc13 pm13 an13 cd13 ct13), sl13⟩) (c13 : PySem.W.codeIn K cd13 "_law_kinds" = true) (k13 : PySem.W.keepIn K (.ref f13) = true)
    (a14 : PySem.W.nsIn K mainGlobals "_law_name" = some (some (.ref f14))) (l14 : K.lookup f14 = some ⟨oc14, od14, .func (PySem.W.fnOf "_law_name" "_law_name" (defArgs sName) (defBody sName) (defScope sName) .none kV14 dc14 pm14 an14 cd14 ct14), sl14⟩) (c14 : PySem.W.codeIn K cd14 "_law_name" = true) (k14 : PySem.W.keepIn K (.ref f14) = true)
    (a15 : PySem.W.nsIn K mainGlobals "_law_formula" = some (some (.ref f15))) (l15 : K.lookup f15 = some ⟨oc15, od15, .func (PySem.W.fnOf "_law_formula" "_law_formula" (defArgs sFormula) (defBody sFormula) (defScope sFormula) .none kV15 dc15 pm15 an15 cd15 ct15), sl15⟩) (c15 : PySem.W.codeIn K cd15 "_law_formula" = true) (k15 : PySem.W.keepIn K (.ref f15) = true)
    (a16 : PySem.W.nsIn K mainGlobals "_law_below" = some (some (.ref f16))) (l16 : K.lookup f16 = some ⟨oc16, od16, .func (PySem.W.fnOf "_law_below" "_law_below" (defArgs sBelow) (defBody sBelow) (defScope sBelow) .none kV16 dc16 pm16 an16 cd16 ct16), sl16⟩) (c16 : PySem.W.codeIn K cd16 "_law_below" = true) (k16 : PySem.W.keepIn K (.ref f16) = true)
    (a17 : PySem.W.nsIn K mainGlobals "_law_tuples" = some (some (.ref f17))) (l17 : K.lookup f17 = some ⟨oc17, od17, .func (PySem.W.fnOf "_law_tuples" "_law_tuples" (defArgs sTuples) (defBody sTuples) (defScope sTuples) .none kV17 dc17 pm17 an17 cd17 ct17), sl17⟩) (c17 : PySem.W.codeIn K cd17 "_law_tuples" = true) (k17 : PySem.W.keepIn K (.ref f17) = true)
    (a18 : PySem.W.nsIn K mainGlobals "_law_structure" = some (some (.ref f18))) (l18 : K.lookup f18 = some ⟨oc18, od18, .func (PySem.W.fnOf "_law_structure" "_law_structure" (defArgs sStruct) (defBody sStruct) (defScope sStruct) .none kV18 dc18 pm18 an18 cd18 ct18), sl18⟩) (c18 : PySem.W.codeIn K cd18 "_law_structure" = true) (k18 : PySem.W.keepIn K (.ref f18) = true)
    (a19 : PySem.W.nsIn K mainGlobals "_law_rank" = some (some (.ref f19))) (l19 : K.lookup f19 = some ⟨oc19, od19, .func (PySem.W.fnOf "_law_rank" "_law_rank" (defArgs sLRank) (defBody sLRank) (defScope sLRank) .none kV19 dc19 pm19 an19 cd19 ct19), sl19⟩) (c19 : PySem.W.codeIn K cd19 "_law_rank" = true) (k19 : PySem.W.keepIn K (.ref f19) = true)
    (a20 : PySem.W.nsIn K mainGlobals "_law_values" = some (some (.ref f20))) (l20 : K.lookup f20 = some ⟨oc20, od20, .func (PySem.W.fnOf "_law_values" "_law_values" (defArgs sValues) (defBody sValues) (defScope sValues) .none kV20 dc20 pm20 an20 cd20 ct20), sl20⟩) (c20 : PySem.W.codeIn K cd20 "_law_values" = true) (k20 : PySem.W.keepIn K (.ref f20) = true)
    (a21 : PySem.W.nsIn K mainGlobals "_law_same" = some (some (.ref f21))) (l21 : K.lookup f21 = some ⟨oc21, od21, .func (PySem.W.fnOf "_law_same" "_law_same" (defArgs sSame) (defBody sSame) (defScope sSame) .none kV21 dc21 pm21 an21 cd21 ct21), sl21⟩) (c21 : PySem.W.codeIn K cd21 "_law_same" = true) (k21 : PySem.W.keepIn K (.ref f21) = true)
    (a22 : PySem.W.nsIn K mainGlobals "_law_true" = some (some (.ref f22))) (l22 : K.lookup f22 = some ⟨oc22, od22, .func (PySem.W.fnOf "_law_true" "_law_true" (defArgs sTrue) (defBody sTrue) (defScope sTrue) .none kV22 dc22 pm22 an22 cd22 ct22), sl22⟩) (c22 : PySem.W.codeIn K cd22 "_law_true" = true) (k22 : PySem.W.keepIn K (.ref f22) = true)
    (a23 : PySem.W.nsIn K mainGlobals "_law_free" = some (some (.ref f23))) (l23 : K.lookup f23 = some ⟨oc23, od23, .func (PySem.W.fnOf "_law_free" "_law_free" (defArgs sLFree) (defBody sLFree) (defScope sLFree) .none kV23 dc23 pm23 an23 cd23 ct23), sl23⟩) (c23 : PySem.W.codeIn K cd23 "_law_free" = true) (k23 : PySem.W.keepIn K (.ref f23) = true)
    (a24 : PySem.W.nsIn K mainGlobals "law" = some (some (.ref f24))) (l24 : K.lookup f24 = some ⟨oc24, od24, .func (PySem.W.fnOf "law" "law" (defArgs sLaw) (defBody sLaw) (defScope sLaw) .none kV24 dc24 pm24 an24 cd24 ct24), sl24⟩) (c24 : PySem.W.codeIn K cd24 "law" = true) (k24 : PySem.W.keepIn K (.ref f24) = true)
    {CT ft0 ft1 ft2 ft3 ft4 ft5 ft6 ft7 ft8 ft9 ft10 : Addr} {odt0 ant0 odt1 ant1 odt2 ant2 odt3 ant3 odt4 ant4 odt5 ant5 odt6 ant6 odt7 ant7 odt8 ant8 odt9 ant9 odt10 ant10 : Option Addr} {slt0 slt1 slt2 slt3 slt4 slt5 slt6 slt7 slt8 slt9 slt10 : Array (Option Value)} {oct0 kVt0 dct0 pmt0 cdt0 ctt0 oct1 kVt1 dct1 pmt1 cdt1 ctt1 oct2 kVt2 dct2 pmt2 cdt2 ctt2 oct3 kVt3 dct3 pmt3 cdt3 ctt3 oct4 kVt4 dct4 pmt4 cdt4 ctt4 oct5 kVt5 dct5 pmt5 cdt5 ctt5 oct6 kVt6 dct6 pmt6 cdt6 ctt6 oct7 kVt7 dct7 pmt7 cdt7 ctt7 oct8 kVt8 dct8 pmt8 cdt8 ctt8 oct9 kVt9 dct9 pmt9 cdt9 ctt9 oct10 kVt10 dct10 pmt10 cdt10 ctt10 : Value}
    (aCt : PySem.W.nsIn K mainGlobals "Tables" = some (some (.ref CT)))
    (at0 : PySem.W.findIn K (.ref CT) "__init__" = some (some (.ref ft0)))
    (it0 : PySem.W.isFn K (.ref ft0) = true)
    (lt0 : K.lookup ft0 = some ⟨oct0, odt0, .func (PySem.W.fnOf "__init__" "Tables.__init__" (defArgs mInit) (defBody mInit) (defScope mInit) .none kVt0 dct0 pmt0 ant0 cdt0 ctt0), slt0⟩)
    (ct0 : PySem.W.codeIn K cdt0 "Tables.__init__" = true)
    (kt0 : PySem.W.keepIn K (.ref ft0) = true)
    (at1 : PySem.W.findIn K (.ref CT) "size" = some (some (.ref ft1)))
    (it1 : PySem.W.isFn K (.ref ft1) = true)
    (lt1 : K.lookup ft1 = some ⟨oct1, odt1, .func (PySem.W.fnOf "size" "Tables.size" (defArgs mSize) (defBody mSize) (defScope mSize) .none kVt1 dct1 pmt1 ant1 cdt1 ctt1), slt1⟩)
    (ct1 : PySem.W.codeIn K cdt1 "Tables.size" = true)
    (kt1 : PySem.W.keepIn K (.ref ft1) = true)
    (at2 : PySem.W.findIn K (.ref CT) "full" = some (some (.ref ft2)))
    (it2 : PySem.W.isFn K (.ref ft2) = true)
    (lt2 : K.lookup ft2 = some ⟨oct2, odt2, .func (PySem.W.fnOf "full" "Tables.full" (defArgs mFull) (defBody mFull) (defScope mFull) .none kVt2 dct2 pmt2 ant2 cdt2 ctt2), slt2⟩)
    (ct2 : PySem.W.codeIn K cdt2 "Tables.full" = true)
    (kt2 : PySem.W.keepIn K (.ref ft2) = true)
    (at3 : PySem.W.findIn K (.ref CT) "bit" = some (some (.ref ft3)))
    (it3 : PySem.W.isFn K (.ref ft3) = true)
    (lt3 : K.lookup ft3 = some ⟨oct3, odt3, .func (PySem.W.fnOf "bit" "Tables.bit" (defArgs mBit) (defBody mBit) (defScope mBit) .none kVt3 dct3 pmt3 ant3 cdt3 ctt3), slt3⟩)
    (ct3 : PySem.W.codeIn K cdt3 "Tables.bit" = true)
    (kt3 : PySem.W.keepIn K (.ref ft3) = true)
    (at4 : PySem.W.findIn K (.ref CT) "having" = some (some (.ref ft4)))
    (it4 : PySem.W.isFn K (.ref ft4) = true)
    (lt4 : K.lookup ft4 = some ⟨oct4, odt4, .func (PySem.W.fnOf "having" "Tables.having" (defArgs mHaving) (defBody mHaving) (defScope mHaving) .none kVt4 dct4 pmt4 ant4 cdt4 ctt4), slt4⟩)
    (ct4 : PySem.W.codeIn K cdt4 "Tables.having" = true)
    (kt4 : PySem.W.keepIn K (.ref ft4) = true)
    (at5 : PySem.W.findIn K (.ref CT) "repeated" = some (some (.ref ft5)))
    (it5 : PySem.W.isFn K (.ref ft5) = true)
    (lt5 : K.lookup ft5 = some ⟨oct5, odt5, .func (PySem.W.fnOf "repeated" "Tables.repeated" (defArgs mRep) (defBody mRep) (defScope mRep) .none kVt5 dct5 pmt5 ant5 cdt5 ctt5), slt5⟩)
    (ct5 : PySem.W.codeIn K cdt5 "Tables.repeated" = true)
    (kt5 : PySem.W.keepIn K (.ref ft5) = true)
    (at6 : PySem.W.findIn K (.ref CT) "parted" = some (some (.ref ft6)))
    (it6 : PySem.W.isFn K (.ref ft6) = true)
    (lt6 : K.lookup ft6 = some ⟨oct6, odt6, .func (PySem.W.fnOf "parted" "Tables.parted" (defArgs mPart) (defBody mPart) (defScope mPart) .none kVt6 dct6 pmt6 ant6 cdt6 ctt6), slt6⟩)
    (ct6 : PySem.W.codeIn K cdt6 "Tables.parted" = true)
    (kt6 : PySem.W.keepIn K (.ref ft6) = true)
    (at7 : PySem.W.findIn K (.ref CT) "plain" = some (some (.ref ft7)))
    (it7 : PySem.W.isFn K (.ref ft7) = true)
    (lt7 : K.lookup ft7 = some ⟨oct7, odt7, .func (PySem.W.fnOf "plain" "Tables.plain" (defArgs mPlain) (defBody mPlain) (defScope mPlain) .none kVt7 dct7 pmt7 ant7 cdt7 ctt7), slt7⟩)
    (ct7 : PySem.W.codeIn K cdt7 "Tables.plain" = true)
    (kt7 : PySem.W.keepIn K (.ref ft7) = true)
    (at8 : PySem.W.findIn K (.ref CT) "looked_up" = some (some (.ref ft8)))
    (it8 : PySem.W.isFn K (.ref ft8) = true)
    (lt8 : K.lookup ft8 = some ⟨oct8, odt8, .func (PySem.W.fnOf "looked_up" "Tables.looked_up" (defArgs mLook) (defBody mLook) (defScope mLook) .none kVt8 dct8 pmt8 ant8 cdt8 ctt8), slt8⟩)
    (ct8 : PySem.W.codeIn K cdt8 "Tables.looked_up" = true)
    (kt8 : PySem.W.keepIn K (.ref ft8) = true)
    (at9 : PySem.W.findIn K (.ref CT) "made" = some (some (.ref ft9)))
    (it9 : PySem.W.isFn K (.ref ft9) = true)
    (lt9 : K.lookup ft9 = some ⟨oct9, odt9, .func (PySem.W.fnOf "made" "Tables.made" (defArgs mMade) (defBody mMade) (defScope mMade) .none kVt9 dct9 pmt9 ant9 cdt9 ctt9), slt9⟩)
    (ct9 : PySem.W.codeIn K cdt9 "Tables.made" = true)
    (kt9 : PySem.W.keepIn K (.ref ft9) = true)
    (at10 : PySem.W.findIn K (.ref CT) "of" = some (some (.ref ft10)))
    (it10 : PySem.W.isFn K (.ref ft10) = true)
    (lt10 : K.lookup ft10 = some ⟨oct10, odt10, .func (PySem.W.fnOf "of" "Tables.of" (defArgs mOf) (defBody mOf) (defScope mOf) .none kVt10 dct10 pmt10 ant10 cdt10 ctt10), slt10⟩)
    (ct10 : PySem.W.codeIn K cdt10 "Tables.of" = true)
    (kt10 : PySem.W.keepIn K (.ref ft10) = true)
    (pgt : PySem.W.plainGet K CT Str.empty = true)
    (hdt : PySem.W.hasDictIn K CT = true)
    (pot : PySem.W.plainOver K CT = true)
    (sat : PySem.W.findIn K (.ref CT) "__setattr__" = some (some (.builtin "object.__setattr__")))
    (mkt : PySem.W.makesIn K CT = true)
    (kct : PySem.W.keepIn K (.ref CT) = true)
    (nt0 : PySem.W.findIn K (.ref CT) "many" = some none)
    (nt1 : PySem.W.findIn K (.ref CT) "rows" = some none)
    (nt2 : PySem.W.findIn K (.ref CT) "fixed" = some none)
    (nt3 : PySem.W.findIn K (.ref CT) "sizes" = some none)
    (nt4 : PySem.W.findIn K (.ref CT) "known" = some none)
    (z_len : PySem.W.nsIn K mainGlobals "len" = some none)
    (z_max : PySem.W.nsIn K mainGlobals "max" = some none)
    (z_int : PySem.W.nsIn K mainGlobals "int" = some none)
    (z_tuple : PySem.W.nsIn K mainGlobals "tuple" = some none)
    (z_list : PySem.W.nsIn K mainGlobals "list" = some none)
    (z_set : PySem.W.nsIn K mainGlobals "set" = some none)
    (z_sorted : PySem.W.nsIn K mainGlobals "sorted" = some none)
    (z_range : PySem.W.nsIn K mainGlobals "range" = some none)
    (z_isinstance : PySem.W.nsIn K mainGlobals "isinstance" = some none)
    (z_dict : PySem.W.nsIn K mainGlobals "dict" = some none)
    (z_str : PySem.W.nsIn K mainGlobals "str" = some none)
    (z_bool : PySem.W.nsIn K mainGlobals "bool" = some none)
    (z_sum : PySem.W.nsIn K mainGlobals "sum" = some none)
    (z_enumerate : PySem.W.nsIn K mainGlobals "enumerate" = some none)
    (z_zip : PySem.W.nsIn K mainGlobals "zip" = some none)
    : ∃ fd : FuncData, (∀ (s : Shared) (v : Value), BindsTo s fd ⟨[v], []⟩ [("script", v)]) ∧ ∀ base : Heap, K.In base → base.Ns mainGlobals mg → FnOk l.prog w K mg base CX0 19 fa fd ["script"] (spLaw K) := by
  have e := hfa.symm.trans (PySem.W.mg_of X G a24)
  cases e
  have B : Bt mg := ⟨PySem.W.mg_none_of X G z_len, PySem.W.mg_none_of X G z_max, PySem.W.mg_none_of X G z_int, PySem.W.mg_none_of X G z_tuple, PySem.W.mg_none_of X G z_list, PySem.W.mg_none_of X G z_set, PySem.W.mg_none_of X G z_sorted, PySem.W.mg_none_of X G z_range, PySem.W.mg_none_of X G z_isinstance, PySem.W.mg_none_of X G z_dict, PySem.W.mg_none_of X G z_str, PySem.W.mg_none_of X G z_bool, PySem.W.mg_none_of X G z_sum, PySem.W.mg_none_of X G z_enumerate, PySem.W.mg_none_of X G z_zip⟩
  have F0 := fun_mk (st := sInner) l0 c0 k0
  have b0 := F0.binds (ps := ["formula"]) fun _ _ _ _ _ _ us hl => match us, hl with | [_], _ => rfl
  have m0 := PySem.W.mg_of X G a0
  have F1 := fun_mk (st := sHanded) l1 c1 k1
  have b1 := F1.binds (ps := ["formula", "first", "below"]) fun _ _ _ _ _ _ us hl => match us, hl with | [_, _, _], _ => rfl
  have m1 := PySem.W.mg_of X G a1
  have F2 := fun_mk (st := sRowsOf) l2 c2 k2
  have b2 := F2.binds (ps := ["things", "places"]) fun _ _ _ _ _ _ us hl => match us, hl with | [_, _], _ => rfl
  have m2 := PySem.W.mg_of X G a2
  have F3 := fun_mk (st := sPoints) l3 c3 k3
  have b3 := F3.binds (ps := ["many", "places"]) fun _ _ _ _ _ _ us hl => match us, hl with | [_, _], _ => rfl
  have m3 := PySem.W.mg_of X G a3
  have F4 := fun_mk (st := sWithin) l4 c4 k4
  have b4 := F4.binds (ps := ["formula", "names"]) fun _ _ _ _ _ _ us hl => match us, hl with | [_, _], _ => rfl
  have m4 := PySem.W.mg_of X G a4
  have F5 := fun_mk (st := sBoth) l5 c5 k5
  have b5 := F5.binds (ps := ["rows", "full"]) fun _ _ _ _ _ _ us hl => match us, hl with | [_, _], _ => rfl
  have m5 := PySem.W.mg_of X G a5
  have F6 := fun_mk (st := sEither) l6 c6 k6
  have b6 := F6.binds (ps := ["rows"]) fun _ _ _ _ _ _ us hl => match us, hl with | [_], _ => rfl
  have m6 := PySem.W.mg_of X G a6
  have F7 := fun_mk (st := sIsTrue) l7 c7 k7
  have b7 := F7.binds (ps := ["structure", "formula", "values"]) fun _ _ _ _ _ _ us hl => match us, hl with | [_, _, _], _ => rfl
  have m7 := PySem.W.mg_of X G a7
  have F8 := fun_mk (st := sAllV) l8 c8 k8
  have b8 := F8.binds (ps := ["structure", "formula", "names"]) fun _ _ _ _ _ _ us hl => match us, hl with | [_, _, _], _ => rfl
  have m8 := PySem.W.mg_of X G a8
  have F9 := fun_mk (st := sCell) l9 c9 k9
  have b9 := F9.binds (ps := ["script", "k"]) fun _ _ _ _ _ _ us hl => match us, hl with | [_, _], _ => rfl
  have m9 := PySem.W.mg_of X G a9
  have F10 := fun_mk (st := sDigits) l10 c10 k10
  have b10 := F10.binds (ps := ["script", "first", "last"]) fun _ _ _ _ _ _ us hl => match us, hl with | [_, _, _], _ => rfl
  have m10 := PySem.W.mg_of X G a10
  have F11 := fun_mk (st := sBox) l11 c11 k11
  have b11 := F11.binds (ps := ["script", "first", "last"]) fun _ _ _ _ _ _ us hl => match us, hl with | [_, _, _], _ => rfl
  have m11 := PySem.W.mg_of X G a11
  have F12 := fun_mk (st := sDraw) l12 c12 k12
  have b12 := F12.binds (ps := ["box", "many"]) fun _ _ _ _ _ _ us hl => match us, hl with | [_, _], _ => rfl
  have m12 := PySem.W.mg_of X G a12
  have F13 := fun_mk (st := sKinds) l13 c13 k13
  have b13 := F13.binds (ps := ["box"]) fun _ _ _ _ _ _ us hl => match us, hl with | [_], _ => rfl
  have m13 := PySem.W.mg_of X G a13
  have F14 := fun_mk (st := sName) l14 c14 k14
  have b14 := F14.binds (ps := ["box"]) fun _ _ _ _ _ _ us hl => match us, hl with | [_], _ => rfl
  have m14 := PySem.W.mg_of X G a14
  have F15 := fun_mk (st := sFormula) l15 c15 k15
  have b15 := F15.binds (ps := ["box", "kinds", "room"]) fun _ _ _ _ _ _ us hl => match us, hl with | [_, _, _], _ => rfl
  have m15 := PySem.W.mg_of X G a15
  have F16 := fun_mk (st := sBelow) l16 c16 k16
  have b16 := F16.binds (ps := ["box", "kinds", "room", "left"]) fun _ _ _ _ _ _ us hl => match us, hl with | [_, _, _, _], _ => rfl
  have m16 := PySem.W.mg_of X G a16
  have F17 := fun_mk (st := sTuples) l17 c17 k17
  have b17 := F17.binds (ps := ["many", "places"]) fun _ _ _ _ _ _ us hl => match us, hl with | [_, _], _ => rfl
  have m17 := PySem.W.mg_of X G a17
  have F18 := fun_mk (st := sStruct) l18 c18 k18
  have b18 := F18.binds (ps := ["box", "kinds", "many"]) fun _ _ _ _ _ _ us hl => match us, hl with | [_, _, _], _ => rfl
  have m18 := PySem.W.mg_of X G a18
  have F19 := fun_mk (st := sLRank) l19 c19 k19
  have b19 := F19.binds (ps := ["formula"]) fun _ _ _ _ _ _ us hl => match us, hl with | [_], _ => rfl
  have m19 := PySem.W.mg_of X G a19
  have F20 := fun_mk (st := sValues) l20 c20 k20
  have b20 := F20.binds (ps := ["box", "many"]) fun _ _ _ _ _ _ us hl => match us, hl with | [_, _], _ => rfl
  have m20 := PySem.W.mg_of X G a20
  have F21 := fun_mk (st := sSame) l21 c21 k21
  have b21 := F21.binds (ps := ["actual", "expected"]) fun _ _ _ _ _ _ us hl => match us, hl with | [_, _], _ => rfl
  have m21 := PySem.W.mg_of X G a21
  have F22 := fun_mk (st := sTrue) l22 c22 k22
  have b22 := F22.binds (ps := ["structure", "formula", "values"]) fun _ _ _ _ _ _ us hl => match us, hl with | [_, _, _], _ => rfl
  have m22 := PySem.W.mg_of X G a22
  have F23 := fun_mk (st := sLFree) l23 c23 k23
  have b23 := F23.binds (ps := ["formula"]) fun _ _ _ _ _ _ us hl => match us, hl with | [_], _ => rfl
  have m23 := PySem.W.mg_of X G a23
  have F24 := fun_mk (st := sLaw) l24 c24 k24
  refine ⟨PySem.W.fnOf "law" "law" (defArgs sLaw) (defBody sLaw) (defScope sLaw) .none kV24 dc24 pm24 an24 cd24 ct24, fun s v => .of_eq rfl, fun base _ _ => ?_⟩
  have Gt0 := fun_mk (st := mInit) lt0 ct0 kt0
  have bt0 := Gt0.binds (ps := ["self", "structure", "fixed"]) fun _ _ _ _ _ _ us hl => match us, hl with | [_, _, _], _ => rfl
  have Gt1 := fun_mk (st := mSize) lt1 ct1 kt1
  have bt1 := Gt1.binds (ps := ["self", "names"]) fun _ _ _ _ _ _ us hl => match us, hl with | [_, _], _ => rfl
  have Gt2 := fun_mk (st := mFull) lt2 ct2 kt2
  have bt2 := Gt2.binds (ps := ["self", "names"]) fun _ _ _ _ _ _ us hl => match us, hl with | [_, _], _ => rfl
  have Gt3 := fun_mk (st := mBit) lt3 ct3 kt3
  have bt3 := Gt3.binds (ps := ["self", "row"]) fun _ _ _ _ _ _ us hl => match us, hl with | [_, _], _ => rfl
  have Gt4 := fun_mk (st := mHaving) lt4 ct4 kt4
  have bt4 := Gt4.binds (ps := ["self", "name", "names"]) fun _ _ _ _ _ _ us hl => match us, hl with | [_, _, _], _ => rfl
  have Gt5 := fun_mk (st := mRep) lt5 ct5 kt5
  have bt5 := Gt5.binds (ps := ["self", "table", "names"]) fun _ _ _ _ _ _ us hl => match us, hl with | [_, _, _], _ => rfl
  have Gt6 := fun_mk (st := mPart) lt6 ct6 kt6
  have bt6 := Gt6.binds (ps := ["self", "table", "names"]) fun _ _ _ _ _ _ us hl => match us, hl with | [_, _, _], _ => rfl
  have Gt7 := fun_mk (st := mPlain) lt7 ct7 kt7
  have bt7 := Gt7.binds (ps := ["self", "formula", "names"]) fun _ _ _ _ _ _ us hl => match us, hl with | [_, _, _], _ => rfl
  have Gt8 := fun_mk (st := mLook) lt8 ct8 kt8
  have bt8 := Gt8.binds (ps := ["self", "formula", "names"]) fun _ _ _ _ _ _ us hl => match us, hl with | [_, _, _], _ => rfl
  have Gt9 := fun_mk (st := mMade) lt9 ct9 kt9
  have bt9 := Gt9.binds (ps := ["self", "formula", "names", "rows"]) fun _ _ _ _ _ _ us hl => match us, hl with | [_, _, _, _], _ => rfl
  have Gt10 := fun_mk (st := mOf) lt10 ct10 kt10
  have bt10 := Gt10.binds (ps := ["self", "formula", "names"]) fun _ _ _ _ _ _ us hl => match us, hl with | [_, _, _], _ => rfl
  have Tt : TbT K CT := ⟨⟨pgt, hdt, pot, sat⟩, nt0, nt1, nt2, nt3, nt4⟩
  have cBoth := cal_of (ok_both (P := l.prog) (w := w) (base := base) F5) m5 F5.kp b5
  have cEither := cal_of (ok_either (P := l.prog) (w := w) (base := base) F6) m6 F6.kp b6
  have cInner := cal_of (ok_inner (P := l.prog) (w := w) (base := base) B F0) m0 F0.kp b0
  have Msize : C8.Met l.prog w K mg base 1 CT "size" (spSize K l.prog w CT) [] := ⟨⟨_, _, _, [], Tt.cl, ⟨at1, it1, kt1⟩, ok_size B Tt Gt1, bt1, .nil⟩⟩
  have Mfull : C8.Met l.prog w K mg base 2 CT "full" (spFull K l.prog w CT) [] := ⟨⟨_, _, _, [], Tt.cl, ⟨at2, it2, kt2⟩, ok_full Tt Msize Gt2, bt2, .nil⟩⟩
  have Mbit : C8.Met l.prog w K mg base 2 CT "bit" (spBit K l.prog w CT) [] := ⟨⟨_, _, _, [], Tt.cl, ⟨at3, it3, kt3⟩, ok_bit B Msize Gt3, bt3, .nil⟩⟩
  have Mrepeated : C8.Met l.prog w K mg base 2 CT "repeated" (spRep K l.prog w CT) [] := ⟨⟨_, _, _, [], Tt.cl, ⟨at5, it5, kt5⟩, ok_rep B Tt Msize Gt5, bt5, .nil⟩⟩
  have Mparted : C8.Met l.prog w K mg base 3 CT "parted" (spPart K l.prog w CT) [] := ⟨⟨_, _, _, [], Tt.cl, ⟨at6, it6, kt6⟩, ok_part B Tt Msize Mfull Gt6, bt6, .nil⟩⟩
  have Mhaving : C8.Met l.prog w K mg base 3 CT "having" (spHaving K l.prog w CT) [] := ⟨⟨_, _, _, [], Tt.cl, ⟨at4, it4, kt4⟩, ok_having B Tt Msize Mfull Mrepeated Gt4, bt4, .nil⟩⟩
  have Mlooked : C8.Met l.prog w K mg base 4 CT "looked_up" (spLook K l.prog w CT) [] := ⟨⟨_, _, _, [], Tt.cl, ⟨at8, it8, kt8⟩, ok_look B Tt cBoth Mfull Mhaving Gt8, bt8, .nil⟩⟩
  have Mplain : C8.Met l.prog w K mg base 5 CT "plain" (spPlain K l.prog w CT) [] := ⟨⟨_, _, _, [], Tt.cl, ⟨at7, it7, kt7⟩, ok_plain Tt Mlooked Gt7, bt7, .nil⟩⟩
  have Mmade : C8.Met l.prog w K mg base 4 CT "made" (spMade K l.prog w CT) [] := ⟨⟨_, _, _, [], Tt.cl, ⟨at9, it9, kt9⟩, ok_made Tt cBoth cEither Mfull Mparted Gt9, bt9, .nil⟩⟩
  have hWN : C8.CalAt l.prog w K mg base 1 _ (Hd.spBelow K (NmAt K) wst Lev) := ⟨⟨_, _, ok_within (P := l.prog) (w := w) (base := base) (fun g xs h => by unfold Lev at h; omega) F4, F4.kp, b4⟩⟩
  have cH := cal_of (ok_handed stN lev_go hWN B cInner F1) m1 F1.kp b1
  have Mof : C8.Met l.prog w K mg base 6 CT "of" (spOf K l.prog w CT) [] := ⟨⟨_, _, _, [], Tt.cl, ⟨at10, it10, kt10⟩, ok_of B cInner m4 cH Mplain Mmade Gt10, bt10, .nil⟩⟩
  have mTables : C8.Mak l.prog w K mg base 1 "Tables" CT (spTInit K l.prog w CT) [] := ⟨⟨_, _, _, [], ⟨mkt, at0, it0, kct⟩, ok_init Tt Gt0, PySem.W.mg_of X G aCt, bt0, .nil⟩⟩
  have cRowsOf := cal_of (ok_rowsof (P := l.prog) (w := w) (base := base) B F2) m2 F2.kp b2
  have cPoints := cal_of (ok_points B cRowsOf F3) m3 F3.kp b3
  have cIsTrue := cal_of (ok_istrue mTables Mof F7) m7 F7.kp b7
  have cAllV := cal_of (ok_allv B Tt mTables Mof Mbit cPoints F8) m8 F8.kp b8
  have cCell := cal_of (ok_cell (P := l.prog) (w := w) (base := base) B F9) m9 F9.kp b9
  have cDigits := cal_of (ok_digits B cCell F10) m10 F10.kp b10
  have cBox := cal_of (ok_box cDigits F11) m11 F11.kp b11
  have cDraw := cal_of (ok_draw (P := l.prog) (w := w) (base := base) B F12) m12 F12.kp b12
  have cName := cal_of (ok_name cDraw F14) m14 F14.kp b14
  have cKinds := cal_of (ok_kinds cDraw F13) m13 F13.kp b13
  have cBelow := cal_below B cDraw cName F16 m16 b16 15
  have cFormula := cal_of (ok_formula cBelow F15) m15 F15.kp b15
  have cLRank := cal_lrank (P := l.prog) (w := w) (base := base) B F19 m19 b19 15
  have cLFree := cal_lfree (P := l.prog) (w := w) (base := base) B F23 m23 b23 15
  have cTrue := cal_true (P := l.prog) (w := w) (base := base) B F22 m22 b22 15
  have cSame := cal_same (P := l.prog) (w := w) (base := base) B F21 m21 b21 3
  have cTuples := cal_of (ok_tuples (P := l.prog) (w := w) (base := base) B F17) m17 F17.kp b17
  have cStruct := cal_of (ok_struct B cDraw cTuples F18) m18 F18.kp b18
  have cValues := cal_of (ok_values B cDraw F20) m20 F20.kp b20
  exact ok_law B cBox cKinds cFormula cDraw cStruct cLRank cValues cSame cTrue cLFree cTuples cIsTrue cAllV F24
theorem walk {l : PySem.W.OpenLaw} {q : Program} {loose : List Str} {XP : (Str → Option Value) → Heap → Prop} {YP : World → Heap → Prop} {d : DefRec} {K : Params → PySem.W.Frag} (hn : l.most = some 63) (hdf : d.params.defaults = [])
    (hY : ∀ (w : World) (h : Heap), YP w h → (K w.params).In h)
    (F : ∀ (w : World) (mg : Str → Option Value) (fa : Addr) (h : Heap), (K w.params).In h → h.Ns mainGlobals mg → mg d.name = some (.ref fa) →
      ∃ fd : FuncData, (∀ (s : Shared) (u : Value), BindsTo s fd ⟨[u], []⟩ [("script", u)]) ∧ ∀ base : Heap, (K w.params).In base → base.Ns mainGlobals mg → FnOk l.prog w (K w.params) mg base CX0 19 fa fd ["script"] (spLaw (K w.params))) :
    PySem.W.WalkO q loose XP YP l.row.toRowW d [] (fun f vs => PySem.call f vs) :=
  L2.walk_of (n := 63) (k := 19) (x := "script") (CX := fun _ => CX0) (sp := fun w => spLaw (K w.params)) hn (by decide) hdf ⟨rfl, by decide, by decide⟩ hY F (fun _ _ a ns hl _ hS => ⟨a, ns, rfl, hS, hl, fun _ => rfl⟩) fun _ _ _ _ _ z => z
end K3

open PySem PySem.W PyProof.Rows in
set_option maxRecDepth 100000 in
set_option maxHeartbeats 0 in
theorem PySem.Challenge.cw_finitestructures_k10_truth_holds : PySem.Challenge.rw_finitestructures_k10_truth.Holds := by
  w_on; o_law; k_head; (case hw => w_witness2)
  k_fill
  refine K3.walk (l := PySem.Challenge.rw_finitestructures_k10_truth) rfl rfl (fun w h Y => PySem.W.kIn_of Y) ?F
  case F =>
    intro w mg fa h KX G hmg
    refine' K3.all_mk (w := w) KX G hmg ?a0 ?l0 ?c0 ?k0 ?a1 ?l1 ?c1 ?k1 ?a2 ?l2 ?c2 ?k2 ?a3 ?l3 ?c3 ?k3 ?a4 ?l4 ?c4 ?k4 ?a5 ?l5 ?c5 ?k5 ?a6 ?l6 ?c6 ?k6 ?a7 ?l7 ?c7 ?k7 ?a8 ?l8 ?c8 ?k8 ?a9 ?l9 ?c9 ?k9 ?a10 ?l10 ?c10 ?k10 ?a11 ?l11 ?c11 ?k11 ?a12 ?l12 ?c12 ?k12 ?a13 ?l13 ?c13 ?k13 ?a14 ?l14 ?c14 ?k14 ?a15 ?l15 ?c15 ?k15 ?a16 ?l16 ?c16 ?k16 ?a17 ?l17 ?c17 ?k17 ?a18 ?l18 ?c18 ?k18 ?a19 ?l19 ?c19 ?k19 ?a20 ?l20 ?c20 ?k20 ?a21 ?l21 ?c21 ?k21 ?a22 ?l22 ?c22 ?k22 ?a23 ?l23 ?c23 ?k23 ?a24 ?l24 ?c24 ?k24 ?aCt ?at0 ?it0 ?lt0 ?ct0 ?kt0 ?at1 ?it1 ?lt1 ?ct1 ?kt1 ?at2 ?it2 ?lt2 ?ct2 ?kt2 ?at3 ?it3 ?lt3 ?ct3 ?kt3 ?at4 ?it4 ?lt4 ?ct4 ?kt4 ?at5 ?it5 ?lt5 ?ct5 ?kt5 ?at6 ?it6 ?lt6 ?ct6 ?kt6 ?at7 ?it7 ?lt7 ?ct7 ?kt7 ?at8 ?it8 ?lt8 ?ct8 ?kt8 ?at9 ?it9 ?lt9 ?ct9 ?kt9 ?at10 ?it10 ?lt10 ?ct10 ?kt10 ?pgt ?hdt ?pot ?sat ?mkt ?kct ?nt0 ?nt1 ?nt2 ?nt3 ?nt4 ?z_len ?z_max ?z_int ?z_tuple ?z_list ?z_set ?z_sorted ?z_range ?z_isinstance ?z_dict ?z_str ?z_bool ?z_sum ?z_enumerate ?z_zip
    (case a0 => k_is)
    (case l0 => k_is)
    (case c0 => k_is)
    (case k0 => k_is)
    (case a1 => k_is)
    (case l1 => k_is)
    (case c1 => k_is)
    (case k1 => k_is)
    (case a2 => k_is)
    (case l2 => k_is)
    (case c2 => k_is)
    (case k2 => k_is)
    (case a3 => k_is)
    (case l3 => k_is)
    (case c3 => k_is)
    (case k3 => k_is)
    (case a4 => k_is)
    (case l4 => k_is)
    (case c4 => k_is)
    (case k4 => k_is)
    (case a5 => k_is)
    (case l5 => k_is)
    (case c5 => k_is)
    (case k5 => k_is)
    (case a6 => k_is)
    (case l6 => k_is)
    (case c6 => k_is)
    (case k6 => k_is)
    (case a7 => k_is)
    (case l7 => k_is)
    (case c7 => k_is)
    (case k7 => k_is)
    (case a8 => k_is)
    (case l8 => k_is)
    (case c8 => k_is)
    (case k8 => k_is)
    (case a9 => k_is)
    (case l9 => k_is)
    (case c9 => k_is)
    (case k9 => k_is)
    (case a10 => k_is)
    (case l10 => k_is)
    (case c10 => k_is)
    (case k10 => k_is)
    (case a11 => k_is)
    (case l11 => k_is)
    (case c11 => k_is)
    (case k11 => k_is)
    (case a12 => k_is)
    (case l12 => k_is)
    (case c12 => k_is)
    (case k12 => k_is)
    (case a13 => k_is)
    (case l13 => k_is)
    (case c13 => k_is)
    (case k13 => k_is)
    (case a14 => k_is)
    (case l14 => k_is)
    (case c14 => k_is)
    (case k14 => k_is)
    (case a15 => k_is)
    (case l15 => k_is)
    (case c15 => k_is)
    (case k15 => k_is)
    (case a16 => k_is)
    (case l16 => k_is)
    (case c16 => k_is)
    (case k16 => k_is)
    (case a17 => k_is)
    (case l17 => k_is)
    (case c17 => k_is)
    (case k17 => k_is)
    (case a18 => k_is)
    (case l18 => k_is)
    (case c18 => k_is)
    (case k18 => k_is)
    (case a19 => k_is)
    (case l19 => k_is)
    (case c19 => k_is)
    (case k19 => k_is)
    (case a20 => k_is)
    (case l20 => k_is)
    (case c20 => k_is)
    (case k20 => k_is)
    (case a21 => k_is)
    (case l21 => k_is)
    (case c21 => k_is)
    (case k21 => k_is)
    (case a22 => k_is)
    (case l22 => k_is)
    (case c22 => k_is)
    (case k22 => k_is)
    (case a23 => k_is)
    (case l23 => k_is)
    (case c23 => k_is)
    (case k23 => k_is)
    (case a24 => k_is)
    (case l24 => k_is)
    (case c24 => k_is)
    (case k24 => k_is)
    (case aCt => k_is)
    (case at0 => k_is)
    (case it0 => k_is)
    (case lt0 => k_is)
    (case ct0 => k_is)
    (case kt0 => k_is)
    (case at1 => k_is)
    (case it1 => k_is)
    (case lt1 => k_is)
    (case ct1 => k_is)
    (case kt1 => k_is)
    (case at2 => k_is)
    (case it2 => k_is)
    (case lt2 => k_is)
    (case ct2 => k_is)
    (case kt2 => k_is)
    (case at3 => k_is)
    (case it3 => k_is)
    (case lt3 => k_is)
    (case ct3 => k_is)
    (case kt3 => k_is)
    (case at4 => k_is)
    (case it4 => k_is)
    (case lt4 => k_is)
    (case ct4 => k_is)
    (case kt4 => k_is)
    (case at5 => k_is)
    (case it5 => k_is)
    (case lt5 => k_is)
    (case ct5 => k_is)
    (case kt5 => k_is)
    (case at6 => k_is)
    (case it6 => k_is)
    (case lt6 => k_is)
    (case ct6 => k_is)
    (case kt6 => k_is)
    (case at7 => k_is)
    (case it7 => k_is)
    (case lt7 => k_is)
    (case ct7 => k_is)
    (case kt7 => k_is)
    (case at8 => k_is)
    (case it8 => k_is)
    (case lt8 => k_is)
    (case ct8 => k_is)
    (case kt8 => k_is)
    (case at9 => k_is)
    (case it9 => k_is)
    (case lt9 => k_is)
    (case ct9 => k_is)
    (case kt9 => k_is)
    (case at10 => k_is)
    (case it10 => k_is)
    (case lt10 => k_is)
    (case ct10 => k_is)
    (case kt10 => k_is)
    (case pgt => k_is)
    (case hdt => k_is)
    (case pot => k_is)
    (case sat => k_is)
    (case mkt => k_is)
    (case kct => k_is)
    (case nt0 => k_is)
    (case nt1 => k_is)
    (case nt2 => k_is)
    (case nt3 => k_is)
    (case nt4 => k_is)
    (case z_len => k_is)
    (case z_max => k_is)
    (case z_int => k_is)
    (case z_tuple => k_is)
    (case z_list => k_is)
    (case z_set => k_is)
    (case z_sorted => k_is)
    (case z_range => k_is)
    (case z_isinstance => k_is)
    (case z_dict => k_is)
    (case z_str => k_is)
    (case z_bool => k_is)
    (case z_sum => k_is)
    (case z_enumerate => k_is)
    (case z_zip => k_is)
