import PyProof.Rows.All
import Wide.All
import OpenK.AllK
import Wide.FinOn
import PyProof.Rows.SortShellAny
import HandS.Base
import HandS.Call
import HandS.List
import HandS.Comp
import HandS.Set
import HandS.SetFor
import HandS.SetBool
import HandS.ForMost
import HandS.Star
import HandS.Conv
import HandS.Codes
import HandS.IsInst
import HandS.TupAny
import HandS.Style
import HandS.More
import HandS.Deep
import HandS.Dict
import HandS.Words
import PySem.Challenge.RW_finitestructures_k01_negations_go_inward
set_option Elab.async false
set_option linter.all false
set_option maxRecDepth 100000
set_option maxHeartbeats 4000000
/-! Sets of texts: what one is, put in, made of a sequence, sorted. -/
namespace Tx
open PySem PySem.Spec PyProof.Rows L2

/-- the object of a fresh set -/
abbrev s0 (w : World) : Obj := { cls := .type "set", dict := none, data := .set #[] 0 (.fresh 0 0 (!w.params.followText "set-order")) }
def txt (e : Int × Value) : Str := match e.2 with | .str x _ => x | _ => Str.empty
def GoodT (w : World) (e : Int × Value) : Prop := ∃ x u, e.2 = Value.str x u ∧ e.1 = hashStr w x
/-- at a stands a set whose members are those of l -/
structure TS0 (w : World) (l : List Str) (o : Obj) (es : Array (Int × Value)) (ep : Nat) (t : SetTable) : Prop where
  exact_ : o.ExactSet
  data : o.data = .set es ep t
  good : ∀ e ∈ es.toList, GoodT w e
  once : (es.toList.map txt).Nodup
  mem : ∀ x, x ∈ l ↔ x ∈ es.toList.map txt
  few : es.size ≤ l.length
  size : es.size < scanBound
  fits : t.fits es.size = true
  ris : Ris t.place.toList
  led : w.params.followText "set-order" = true ∨ t.led = true
def TSet (w : World) (h : Heap) (a : Addr) (l : List Str) : Prop := ∃ o es ep t, h.get? a = some o ∧ TS0 w l o es ep t
theorem TSet.at {w : World} {h h' : Heap} {a : Addr} {l : List Str} (R : TSet w h a l) (k : ∀ o, h.get? a = some o → h'.get? a = some o) : TSet w h' a l :=
  let ⟨o, es, ep, t, ho, r⟩ := R; ⟨o, es, ep, t, k o ho, r⟩
theorem TSet.same {w : World} {h : Heap} {a : Addr} {l l' : List Str} (R : TSet w h a l) (m : ∀ x, x ∈ l' ↔ x ∈ l) (n : l.length ≤ l'.length) : TSet w h a l' :=
  let ⟨o, es, ep, t, ho, r⟩ := R
  ⟨o, es, ep, t, ho, { r with mem := fun x => (m x).trans (r.mem x), few := Nat.le_trans r.few n }⟩

section
variable {P : Program} {w : World}
theorem kind_is (x : Str) (u : Tok) : (PySem.strKind P w).is x (.str x u) = true := by
  show Value.isStrOf x (.str x u) = true
  simp [Value.isStrOf]
theorem elems {l : List (Int × Value)} (g : ∀ e ∈ l, GoodT w e) : ElemsOf (PySem.strKind P w) l := fun e he => by
  obtain ⟨x, u, e1, e2⟩ := g e he
  refine ⟨⟨x, ?_, e2⟩, ?_⟩
  · rw [e1]; exact kind_is x u
  · rw [e1]; rfl
theorem is_txt {e : Int × Value} (g : GoodT w e) (x : Str) : (PySem.strKind P w).is x e.2 = true ↔ txt e = x := by
  obtain ⟨y, u, e1, _⟩ := g
  unfold txt
  rw [e1]
  constructor
  · intro q
    exact (PySem.strKind P w).inj (.str y u) y x (kind_is y u) q
  · intro q
    have q' : y = x := q
    rw [← q']; exact kind_is y u
theorem mem_txt {l : List (Int × Value)} (g : ∀ e ∈ l, GoodT w e) (x : Str) : x ∈ l.map txt ↔ ∃ e ∈ l, (PySem.strKind P w).is x e.2 = true := by
  rw [List.mem_map]
  exact ⟨fun ⟨e, he, q⟩ => ⟨e, he, (is_txt (g e he) x).mpr q⟩, fun ⟨e, he, q⟩ => ⟨e, he, (is_txt (g e he) x).mp q⟩⟩
end

section
variable {P : Program} {w : World} {A : Around} {E : Value → Shared → Prop} {s : Shared} {a : Addr}
/-- the set is stored, and laid anew where it has grown full -/
theorem add_end {gv : Bool → Sem Unit} (hg : ∀ (b : Bool) (s1 : Shared) (Z : Unit → Shared → Prop), Z () s1 → wpAny (model P w) A (gv b) Z E s1) {l : List Str}
    {o : Obj} {es : Array (Int × Value)} {ep : Nat} {t : SetTable} (ho : s.heap.get? a = some o) (hd : o.data = .set es ep t) {es1 : Array (Int × Value)} {t1 : SetTable} {dummy : Bool}
    (R1 : ∀ ep1, TS0 w l { o with data := .set es1 ep1 t1 } es1 ep1 t1) {Z : Option Bool → Shared → Prop}
    (hZ : ∀ h', Heap.SameBut a s.heap h' → TSet w h' a l → Z (some true) { s with heap := h' }) :
    wpAny (model P w) A (do
        storeSet a es1 t1
        if (!dummy && t1.tooFull) = true then do
            gv (relayAll t1 es1 (SetTable.grown es1.size)).2.2
            storeSet a (relayAll t1 es1 (SetTable.grown es1.size)).1 (relayAll t1 es1 (SetTable.grown es1.size)).2.1
            pure (some true)
          else pure (some true)) Z E s := by
  have r1 := R1 (ep + 1)
  refine wpAny_bind (wpAny_storeSet_of ho hd ?_ (fits_of_scanBound r1.size))
  have ho1 := store_at (es' := es1) (t' := t1) ho hd
  have sb := Heap.SameBut.update s.heap a (Obj.putSet es1 t1)
  by_cases full : (!dummy && t1.tooFull) = true
  · rw [if_pos full]
    have e1 := relayAll_perm t1 es1 (SetTable.grown es1.size)
    have e2 := relayAll_fits t1 es1 (SetTable.grown es1.size)
    have e3 := relayAll_ris t1 es1 (SetTable.grown es1.size)
    have e4 := relayAll_led t1 es1 (SetTable.grown es1.size)
    generalize relayAll t1 es1 (SetTable.grown es1.size) = N at e1 e2 e3 e4 ⊢
    obtain ⟨es2, t2, gave⟩ := N
    dsimp only at e1 e2 e3 e4 ⊢
    have n2 : es2.size = es1.size := by
      have q := e1.length_eq
      rwa [Array.length_toList, Array.length_toList] at q
    refine wpAny_bind (hg _ _ _ (wpAny_bind (wpAny_storeSet_of ho1 rfl ?_ (fits_of_scanBound (by rw [n2]; exact r1.size)))))
    have ho2 := store_at (es' := es2) (t' := t2) ho1 rfl
    refine wpAny_pure (hZ _ (sb.trans (Heap.SameBut.update _ a _)) ⟨_, es2, ep + 1 + 1, t2, ho2, ?_⟩)
    exact { exact_ := r1.exact_, data := rfl, good := fun e he => r1.good e (e1.mem_iff.mp he), once := (e1.map txt).nodup_iff.mpr r1.once, mem := fun x => (r1.mem x).trans (e1.map txt).mem_iff.symm,
            few := by rw [n2]; exact r1.few, size := by rw [n2]; exact r1.size, fits := e2, ris := e3, led := r1.led.imp id fun z => by rw [e4]; exact z }
  · rw [if_neg full]
    exact wpAny_pure (hZ _ sb ⟨_, es1, ep + 1, t1, ho1, r1⟩)
/-- the hashed text is put in -/
theorem add_hashed {x : Str} {u : Tok} {l : List Str} {Z : Bool → Shared → Prop} (R : TSet w s.heap a l) (room : l.length + 1 < scanBound)
    (hZ : ∀ b h', Heap.SameBut a s.heap h' → TSet w h' a (l ++ [x]) → Z b { s with heap := h' }) : wpAny (model P w) A (setAddHashed a (.str x u) (hashStr w x)) Z E s := by
  obtain ⟨o, es, ep, t, ho, r⟩ := R
  have hkey : (PySem.strKind P w).is x (.str x u) = true := kind_is x u
  have hsc : (Value.str x u).scannable = true := rfl
  have hel : ElemsOf (PySem.strKind P w) es.toList := elems r.good
  unfold setAddHashed setAddHashedIn
  refine wpAny_holding (wpAny_bind (wpAny_setState_of ho r.data r.fits ?_))
  dsimp only
  rw [byScan_of hsc r.size hel]
  simp only [↓reduceIte]
  unfold setAddByScan
  refine wpAny_bind (wpAny_bind (wpAny_rule (wpAny_bind (wpAny_setScan_of hkey ho r.data r.fits hel ?_))))
  cases found : List.findIdx? (fun e => (PySem.strKind P w).is x e.2) es.toList with
  | some j =>
    dsimp only
    obtain ⟨hj, pj, _⟩ := List.findIdx?_eq_some_iff_getElem.mp found
    have hx : x ∈ l := (r.mem x).mpr ((mem_txt (P := P) r.good x).mpr ⟨es.toList[j], List.getElem_mem hj, pj⟩)
    refine wpAny_pure (wpAny_pure (hZ false s.heap (Heap.SameBut.refl a s.heap) ?_))
    refine TSet.same (l := l) ⟨o, es, ep, t, ho, r⟩ (fun y => ?_) (by rw [List.length_append]; exact Nat.le_add_right _ _)
    rw [List.mem_append, List.mem_singleton]
    exact ⟨fun z => z.elim id fun e => e ▸ hx, .inl⟩
  | none =>
    dsimp only
    have hx : x ∉ es.toList.map txt := fun z => by
      obtain ⟨e, he, q⟩ := (mem_txt (P := P) r.good x).mp z
      have no := List.findIdx?_eq_none_iff.mp found e he
      rw [q] at no
      cases no
    have e1 := layNew_perm t es (hashStr w x) (.str x u)
    have e2 := layNew_fits t es (hashStr w x) (.str x u)
    have e3 := layNew_ris t es (hashStr w x) (.str x u) r.ris
    have e4 := layNew_led t es (hashStr w x) (.str x u)
    show wpAny _ _ (_ >>= _) _ _ _
    generalize hN : layNew t es (hashStr w x) (.str x u) = N at e1 e2 e3 e4 ⊢
    have hN' : layNew t es ((PySem.strKind P w).hash x) (.str x u) = N := hN
    try rw [hN']
    obtain ⟨es1, t1, dummy, gave⟩ := N
    dsimp only at e1 e2 e3 e4 ⊢
    rw [Array.toList_push] at e1
    have pc := e1.trans (List.perm_append_singleton _ _)
    have pk := pc.map txt
    have n1 : es1.size = es.size + 1 := by
      have q := pc.length_eq
      rwa [Array.length_toList, List.length_cons, Array.length_toList] at q
    have hn : es1.size < scanBound := by have := r.few; omega
    have mk : ∀ (t2 : SetTable), t2.fits es1.size = true → Ris t2.place.toList → t2.led = t1.led → ∀ ep1, TS0 w (l ++ [x]) { o with data := .set es1 ep1 t2 } es1 ep1 t2 := fun t2 f2 i2 d2 ep1 =>
      { exact_ := r.exact_, data := rfl
        good := fun e he => (List.mem_cons.mp (pc.mem_iff.mp he)).elim (fun z => by rw [z]; exact ⟨x, u, rfl, rfl⟩) (r.good e)
        once := pk.nodup_iff.mpr (List.nodup_cons.mpr ⟨hx, r.once⟩)
        mem := fun y => by
          rw [pk.mem_iff, List.map_cons, List.mem_cons, List.mem_append, List.mem_singleton, r.mem y]
          exact or_comm
        few := by rw [n1, List.length_append]; exact Nat.succ_le_succ r.few
        size := hn, fits := f2, ris := i2
        led := r.led.imp id fun z => by rw [d2, e4]; exact z }
    have gw : ∀ (b : Bool) (s1 : Shared) (Z' : Unit → Shared → Prop), Z' () s1 → wpAny (model P w) A (match b with | true => rule "set.scan.the-table-gave-way" | false => pure ()) Z' E s1 :=
      fun b s1 Z' q => by cases b <;> first | exact wpAny_pure q | exact wpAny_rule q
    refine wpAny_bind ((gw _ _ _ ?_))
    split
    · refine wpAny_bind ?_
      rw [hashByValue_scannable 8 hsc]
      refine wpAny_pure ?_
      refine add_end (l := l ++ [x]) ?_ ho r.data ?_ ?_
      · intro b s1 Z' q
        cases b <;> first | exact wpAny_pure q | exact wpAny_rule q
      · intro ep1
        first
          | (split <;> first | exact mk _ e2 e3 rfl ep1 | exact mk _ (SetTable.fits_plain_off e2) e3 rfl ep1)
          | exact mk _ (SetTable.fits_plain_off e2) e3 rfl ep1
      · intro h' sb q
        dsimp only
        exact wpAny_pure (hZ true h' sb q)
    · refine wpAny_bind (wpAny_pure ?_)
      simp only [↓reduceIte]
      refine add_end (l := l ++ [x]) ?_ ho r.data (mk _ e2 e3 rfl) ?_
      · intro b s1 Z' q
        cases b <;> first | exact wpAny_pure q | exact wpAny_rule q
      · intro h' sb q
        dsimp only
        exact wpAny_pure (hZ true h' sb q)

/-! ### made, put in, walked -/
theorem fresh_at {h : Heap} (ho : h.get? a = some (s0 w)) : TSet w h a [] := by
  refine ⟨_, #[], 0, .fresh 0 0 (!w.params.followText "set-order"), ho, ?_⟩
  refine { exact_ := ⟨rfl, rfl, rfl⟩, data := rfl, good := fun e he => ?_, once := ?_, mem := fun x => ?_, few := ?_, size := ?_, fits := ?_, ris := ?_, led := ?_ }
  · simp at he
  · simp
  · simp
  · simp
  · show 0 < scanBound
    decide
  · rfl
  · exact List.Pairwise.nil
  · show _ ∨ (!w.params.followText "set-order") = true
    cases w.params.followText "set-order" with
    | false => exact .inr rfl
    | true => exact .inl rfl
theorem put_in {x : Str} {u : Tok} {l : List Str} {Z : Bool → Shared → Prop} (R : TSet w s.heap a l) (room : l.length + 1 < scanBound)
    (hZ : ∀ b h', Heap.SameBut a s.heap h' → TSet w h' a (l ++ [x]) → Z b { s with heap := h', toks := s.toks + 1 }) : wpAny (model P w) A (setAdd a (.str x u)) Z E s := by
  unfold setAdd
  exact wpAny_holding (wpAny_bind ((PySem.strKind P w).pyHash (kind_is x u) (add_hashed (s := { s with toks := s.toks + 1 }) R room hZ)))
/-- found.add(x) -/
theorem call_add {x : Str} {u : Tok} {l : List Str} {Q : Value → Shared → Prop} (R : TSet w s.heap a l) (room : l.length + 1 < scanBound)
    (hQ : ∀ h', Heap.SameBut a s.heap h' → TSet w h' a (l ++ [x]) → Q .none { s with heap := h', toks := s.toks + 1 }) : wpAny (model P w) A (call (.builtin "set.add") [.ref a, .str x u]) Q E s := by
  have hT : s.TypeIs (.ref a) "set" := let ⟨o, _, _, _, ho, r⟩ := R; ⟨o, ho, r.exact_.1⟩
  refine wpAny_call_entry PySem.F.slot_set_add hT PySem.F.entry_set_add ?_ (PySem.F.args_set_add_2 _ _)
  unfold Builtin.«set.add» Builtin.Frozenset.oneOther
  simp only [List.isEmpty_nil, bind_assoc]
  unfold Builtin.Frozenset.addrOf
  refine wpAny_bind (wpAny_pure ?_)
  try dsimp only
  refine wpAny_bind (wpAny_pure ?_)
  try dsimp only
  refine wpAny_bind (put_in R room fun b h' sb q => ?_)
  show wpAny _ _ (ret Value.none) _ _ _
  exact wpAny_pure ⟨_, rfl, hQ h' sb q⟩
/-- the loop of set.update over what yields the texts xs -/
theorem update_loop {I : Addr} {fp wr : List Addr} {G : Array GenState → Array GenState → Prop} {n : Nat} {Pv : Nat → Value → Prop} {St : Nat → Shared → Prop} {R : Result → Shared → Prop}
    (W : WalksS P w A.in1 I fp wr G n Pv St) (S : Addr) (hS : S ∉ fp) (xs : List Str) (hn : n = xs.length) (hb : xs.length + 1 < scanBound) (hv : ∀ i v, Pv i v → ∃ x u, xs[i]? = some x ∧ v = .str x u) :
    ∀ (k i : Nat) (s : Shared), n = i + k → St i s → TSet w s.heap S (xs.take i) →
      (∀ s', Moved (S :: wr) G s s' → TSet w s'.heap S xs → R (.ok (.ret .none)) s') →
      codeAny (model P w) A (.builtin "set.update.loop" ⟨[.ref S, .ref I], []⟩) R s := by
  have nS : S ∉ wr := fun h => hS (W.sub _ h)
  have wide : ∀ b ∈ wr, b ∈ S :: wr := fun b hb => List.mem_cons_of_mem _ hb
  intro k
  induction k with
  | zero =>
    intro i s hi st hT hR
    have e : i = n := by omega
    subst e
    refine codeAny_builtin PyProof.Rows.F.entry_set_update_loop ?_
    rw [Around.under_plainId PyProof.Rows.F.plain_set_update_loop _]
    show wpAny _ A.in1 (pyNext (.ref I) >>= _) _ _ s
    refine wpAny_bind (W.done s _ _ st fun s' hm => ?_)
    show wpAny _ A.in1 (ret Value.none) _ _ s'
    rw [hn, List.take_length] at hT
    exact wpAny_pure (hR s' (hm.mono wide) (hT.at fun o e => hm.heap S o nS e))
  | succ k ih =>
    intro i s hi st hT hR
    have lt : i < n := by omega
    refine codeAny_builtin PyProof.Rows.F.entry_set_update_loop ?_
    rw [Around.under_plainId PyProof.Rows.F.plain_set_update_loop _]
    show wpAny _ A.in1 (pyNext (.ref I) >>= _) _ _ s
    refine wpAny_bind (W.item i s _ _ lt st fun v s' hP st' hm => ?_)
    obtain ⟨x, u, hx, rfl⟩ := hv i v hP
    have hT' : TSet w s'.heap S (xs.take i) := hT.at fun o e => hm.heap S o nS e
    show wpAny _ A.in1 (holding [Value.str x u] (setAdd S (.str x u)) >>= _) _ _ s'
    refine wpAny_bind (wpAny_holding (put_in hT' (by rw [List.length_take]; omega) fun b h' sb q => ?_))
    have q' : TSet w h' S (xs.take (i + 1)) := by
      rw [List.take_succ, hx]
      exact q
    refine wpAny_pure ⟨plainId_quiet PyProof.Rows.F.plain_set_update_loop _, ih (i + 1) _ (by omega) (W.frame _ s' _ _ st' (Nat.le_succ _) fun b hb o e => ?_) q' fun s2 hm2 hT2 => ?_⟩
    · rw [sb.2 b (fun z => hS (z ▸ hb))]
      exact e
    · refine hR s2 (Moved.trans W.gtrans ((hm.mono wide).then_heap (Nat.le_succ _) fun b o hb e => ?_) hm2) hT2
      rw [sb.2 b (fun z => hb (z ▸ List.mem_cons_self))]
      exact e
end
end Tx

set_option Elab.async false
set_option linter.all false
set_option maxRecDepth 100000
set_option maxHeartbeats 4000000
namespace Tx
open PySem PySem.Spec PyProof.Rows L2
section
variable {P : Program} {w : World} {A : Around} {E : Value → Shared → Prop} {s : Shared} {a : Addr}
/-- what a new set of the texts xs leaves -/
def Made (w : World) (s : Shared) (xs : List Str) (s' : Shared) : Prop :=
  ∃ h' tk, s' = { s with heap := h', toks := tk } ∧ TSet w h' s.heap.objs.size xs ∧ ∀ b o, s.heap.get? b = some o → h'.get? b = some o
/-- set(xs), by what its __init__ does -/
theorem call_set {l : Addr} {xs : List Str} {Q : Value → Shared → Prop} (hl : ∃ o, s.heap.get? l = some o)
    (init : ∀ (Z : PySem.Fin → Shared → Prop), (∀ s', Made w s xs s' → Z (.done (.ret .none)) s') →
      wpAny (model P w) A.in1.in1 (Builtin.«set.__init__» ⟨[.ref s.heap.objs.size, .ref l], []⟩) Z E { s with heap := s.heap.push (s0 w) })
    (hQ : ∀ s', Made w s xs s' → Q (.ref s.heap.objs.size) s') : wpAny (model P w) A (call (.type "set") [.ref l]) Q E s := by
  obtain ⟨mroC, mroT, mroE⟩ := PySem.F.called_set.mro
  have made := PySem.F.called_set.made
  have below := PySem.F.called_set.sub
  refine wpAny_call (codeAny_of_tree ?_)
  show wpAny _ _ (callAny (.type "set") _) _ _ _
  refine wpAny_pure ⟨Code.quiet_builtin _ (by decide +kernel), codeAny_builtin PySem.F.entry_type_call ?_⟩
  rw [Around.under_plain (weight_type_call_type "set" [.ref l] []) rfl]
  have f1 := PySem.F.called_set.notType
  have f2 := PySem.F.called_set.canCreate
  have f3 := PySem.F.typeCall_set_1 (.ref l)
  repeat (any_goals (first | assumption | wp_step))

  refine codeAny_mono (code_set_led1 (.ref l) (E := E) (Q₁ := fun r s1 => r = .ref s.heap.objs.size ∧ s1 = { s with heap := s.heap.push (s0 w) }) ⟨rfl, rfl⟩) fun r s1 hr => ?_
  cases r with
  | error e => exact hr
  | ok f =>
    cases f with
    | ret v =>
      obtain ⟨rfl, rfl⟩ := hr
      have hT : Shared.TypeIs { s with heap := s.heap.push (s0 w) } (.ref s.heap.objs.size) "set" := ⟨_, Heap.get?_push_size _ rfl, rfl⟩
      have g1 := PySem.F.called_set.init.lookup
      have g2 := PySem.F.called_set.init.bind (.ref s.heap.objs.size)
      repeat (any_goals (first | assumption | wp_step))

      refine codeAny_mono (codeAny_call_builtin (R := wants (fun r s2 => r = .none ∧ Made w s xs s2) E) PySem.F.called_set.init.plain PySem.F.entry_set_init (check_set_init_1 hT ?_)) fun r s2 hr => ?_
      · exact init _ fun s' m => ⟨rfl, m⟩
      · cases r with
        | error e => exact hr
        | ok f2 =>
          cases f2 with
          | ret v =>
            obtain ⟨rfl, m⟩ := hr
            repeat (any_goals (first | assumption | wp_step))
            exact hQ _ m
          | _ => exact hr.elim
    | _ => exact hr.elim
end
end Tx

set_option Elab.async false
set_option linter.all false
set_option maxRecDepth 100000
set_option maxHeartbeats 4000000
namespace Tx
open PySem PySem.Spec PyProof.Rows L2
section
variable {P : Program} {w : World} {A : Around} {E : Value → Shared → Prop} {s : Shared} {a : Addr}
theorem strs_at : ∀ {us : List Value} {xs : List Str}, StrsAre us xs → ∀ (i : Nat) (v : Value), us[i]? = some v → ∃ x u, xs[i]? = some x ∧ v = .str x u
  | _, _, .nil, i, v, h => by simp at h
  | _, _, .cons x u r, 0, v, h => ⟨x, u, rfl, by simpa using h.symm⟩
  | _, _, .cons x u r, i + 1, v, h => strs_at r i v (by simpa using h)
theorem strs_len : ∀ {us : List Value} {xs : List Str}, StrsAre us xs → us.length = xs.length
  | _, _, .nil => rfl
  | _, _, .cons x u r => congrArg Nat.succ (strs_len r)
/-- behind the loop -/
theorem ends {xs : List Str} {Z : PySem.Fin → Shared → Prop} {I : Addr} (hI : s.heap.objs.size + 1 ≤ I) {h1 : Heap} (k1 : ∀ b o, s.heap.get? b = some o → h1.get? b = some o) {s' : Shared} (hm : Moved [s.heap.objs.size, I] (fun a b => b = a) { s with heap := h1 } s') (hT : TSet w s'.heap s.heap.objs.size xs)
    (hZ : ∀ s', Made w s xs s' → Z (.done (.ret .none)) s') : Z (.done (.ret .none)) s' := by
  refine hZ s' ⟨s'.heap, s'.toks, ?_, hT, fun b o e => hm.heap b o (fun z => ?_) (k1 b o e)⟩
  · obtain ⟨h', g, d, tk, os⟩ := s'
    have e1 : g = s.gens := hm.gens
    have e2 : d = s.drawn := hm.drawn
    have e3 : os = s.os := hm.os
    subst e1 e2 e3
    rfl
  · have lt := Heap.lt_size e
    rcases List.mem_cons.mp z with z | z
    · exact absurd lt (z ▸ Nat.lt_irrefl _)
    · rw [List.mem_singleton.mp z] at lt
      exact absurd (Nat.lt_of_lt_of_le lt (Nat.le_of_succ_le hI)) (Nat.lt_irrefl _)
theorem init_list {l : Addr} {its : Array Value} {xs : List Str} (hh : A.handled = none) (hl : s.heap.IsList l its) (hi : StrsAre its.toList xs) (hb : xs.length + 1 < scanBound) (Z : PySem.Fin → Shared → Prop) (hZ : ∀ s', Made w s xs s' → Z (.done (.ret .none)) s') :
    wpAny (model P w) A (Builtin.«set.__init__» ⟨[.ref s.heap.objs.size, .ref l], []⟩) Z E { s with heap := s.heap.push (s0 w) } := by
  have hlen : its.size = xs.length := by rw [← strs_len hi, Array.length_toList]
  obtain ⟨ol, hol, hcl, nl, hdl⟩ := hl
  obtain ⟨ocls, odict, odata, oslots⟩ := ol
  simp only at hcl hdl
  subst hcl; subst hdl
  have hT : Shared.TypeIs { s with heap := s.heap.push (s0 w) } (.ref s.heap.objs.size) "set" := ⟨_, Heap.get?_push_size _ rfl, rfl⟩
  have hS : (s.heap.push (s0 w)).get? s.heap.objs.size = some (s0 w) := Heap.get?_push_size _ rfl
  have hol' : (s.heap.push (s0 w)).get? l = some { cls := .type "list", dict := odict, data := .seq its nl, slots := oslots } := Heap.get?_push_of_some _ hol
  have f1 := PySem.F.sub_list_set
  have f2 := PySem.F.sub_list_frozenset
  have f3 : (Value.type "list" == Value.type "dict") = false := by decide
  have hl1 : (s.heap.push (s0 w)).IsList l its := ⟨_, hol', rfl, nl, rfl⟩
  have lt : l < s.heap.objs.size := Heap.lt_size hol
  have sz : (s.heap.push (s0 w)).objs.size = s.heap.objs.size + 1 := Heap.size_push ..
  unfold Builtin.«set.__init__» noKeywords Builtin.Frozenset.updateFrom
  generalize hPI : pyIter = PI
  wp_walk
  subst hPI
  refine wpAny_pyIter_list hl1 ?_
  refine wpAny_bind (wpAny_runValue ?_)
  have hne : l ≠ (s.heap.push (s0 w)).objs.size := by rw [sz]; exact Nat.ne_of_lt (Nat.lt_succ_of_lt lt)
  have hSf : s.heap.objs.size ∉ [(s.heap.push (s0 w)).objs.size, l] := by
    rw [sz]
    simp only [List.mem_cons, List.mem_singleton, List.not_mem_nil, or_false, not_or]
    exact ⟨Nat.ne_of_lt (Nat.lt_succ_self _), Nat.ne_of_gt lt⟩
  refine update_loop ((Walks.list (A := A.in1) (by simp [hh]) _ l hne its).toS) s.heap.objs.size hSf xs hlen hb (fun i v hv => strs_at hi i v (by rw [Array.getElem?_toList]; exact hv)) its.size 0 _ (by omega)
    ⟨⟨_, Heap.get?_push_size _ rfl, rfl, rfl⟩, hl1.push _⟩ (fresh_at (Heap.get?_push_of_some _ hS)) fun s' hm q => ?_
  refine wpAny_pure ?_
  show wpAny _ _ (ret Value.none) _ _ _
  exact wpAny_pure (ends (Nat.le_of_eq sz.symm) (fun b o e => Heap.get?_push_of_some _ (Heap.get?_push_of_some _ e)) hm q hZ)
theorem init_tuple {l : Addr} {its : Array Value} {xs : List Str} (hh : A.handled = none) (hl : s.heap.IsTuple l its) (hi : StrsAre its.toList xs) (hb : xs.length + 1 < scanBound) (Z : PySem.Fin → Shared → Prop) (hZ : ∀ s', Made w s xs s' → Z (.done (.ret .none)) s') :
    wpAny (model P w) A (Builtin.«set.__init__» ⟨[.ref s.heap.objs.size, .ref l], []⟩) Z E { s with heap := s.heap.push (s0 w) } := by
  have hlen : its.size = xs.length := by rw [← strs_len hi, Array.length_toList]
  obtain ⟨ol, hol, hcl, nl, hdl⟩ := hl
  obtain ⟨ocls, odict, odata, oslots⟩ := ol
  simp only at hcl hdl
  subst hcl; subst hdl
  have hT : Shared.TypeIs { s with heap := s.heap.push (s0 w) } (.ref s.heap.objs.size) "set" := ⟨_, Heap.get?_push_size _ rfl, rfl⟩
  have hS : (s.heap.push (s0 w)).get? s.heap.objs.size = some (s0 w) := Heap.get?_push_size _ rfl
  have hol' : (s.heap.push (s0 w)).get? l = some { cls := .type "tuple", dict := odict, data := .seq its nl, slots := oslots } := Heap.get?_push_of_some _ hol
  have f1 := F.sub_tuple_set
  have f2 := F.sub_tuple_frozenset
  have f3 : (Value.type "tuple" == Value.type "dict") = false := by decide
  have hl1 : (s.heap.push (s0 w)).IsTuple l its := ⟨_, hol', rfl, nl, rfl⟩
  have lt : l < s.heap.objs.size := Heap.lt_size hol
  have sz : (s.heap.push (s0 w)).objs.size = s.heap.objs.size + 1 := Heap.size_push ..
  unfold Builtin.«set.__init__» noKeywords Builtin.Frozenset.updateFrom
  generalize hPI : pyIter = PI
  wp_walk
  subst hPI
  refine wpAny_pyIter_tuple hl1 ?_
  refine wpAny_bind (wpAny_runValue ?_)
  have hne : l ≠ (s.heap.push (s0 w)).objs.size := by rw [sz]; exact Nat.ne_of_lt (Nat.lt_succ_of_lt lt)
  have hSf : s.heap.objs.size ∉ [(s.heap.push (s0 w)).objs.size, l] := by
    rw [sz]
    simp only [List.mem_cons, List.mem_singleton, List.not_mem_nil, or_false, not_or]
    exact ⟨Nat.ne_of_lt (Nat.lt_succ_self _), Nat.ne_of_gt lt⟩
  refine update_loop ((Walks.tuple (A := A.in1) (by simp [hh]) _ l hne its).toS) s.heap.objs.size hSf xs hlen hb (fun i v hv => strs_at hi i v (by rw [Array.getElem?_toList]; exact hv)) its.size 0 _ (by omega)
    ⟨⟨_, Heap.get?_push_size _ rfl, rfl, rfl⟩, hl1.push _⟩ (fresh_at (Heap.get?_push_of_some _ hS)) fun s' hm q => ?_
  refine wpAny_pure ?_
  show wpAny _ _ (ret Value.none) _ _ _
  exact wpAny_pure (ends (Nat.le_of_eq sz.symm) (fun b o e => Heap.get?_push_of_some _ (Heap.get?_push_of_some _ e)) hm q hZ)
end
end Tx

set_option Elab.async false
set_option linter.all false
set_option maxRecDepth 100000
set_option maxHeartbeats 4000000
namespace Tx
open PySem PySem.Spec PyProof.Rows L2
/-! ### the order of texts -/
def Lt (x y : Str) : Prop := x.cps.toList < y.cps.toList
def Le (x y : Str) : Prop := ¬ y.cps.toList < x.cps.toList
theorem le_trans {x y z : Str} (h : Le x y) (k : Le y z) : Le x z := fun q => by
  have h' : x.cps.toList ≤ y.cps.toList := List.not_lt.mp h
  rcases List.le_iff_lt_or_eq.mp h' with e | e
  · exact k (List.lt_trans q e)
  · exact k (e ▸ q)
theorem rising_all : ∀ (l : List Str) (p : Str), risingS p l = true → (∀ y ∈ l, Le p y) ∧ l.Pairwise Le
  | [], _, _ => ⟨fun y hy => (by cases hy), .nil⟩
  | x :: r, p, h => by
    have h' : (!ltCps x.cps.toList p.cps.toList && risingS x r) = true := h
    rw [Bool.and_eq_true] at h'
    obtain ⟨h1, h2⟩ := h'
    obtain ⟨h3, h4⟩ := rising_all r x h2
    have h5 : Le p x := fun q => by
      rw [ltCps_eq, decide_eq_true q] at h1
      cases h1
    exact ⟨fun y hy => (List.mem_cons.mp hy).elim (fun z => z ▸ h5) fun z => le_trans h5 (h3 y z), List.pairwise_cons.mpr ⟨h3, h4⟩⟩
theorem sorted_all : ∀ (l : List Str), sortedS l = true → l.Pairwise Le
  | [], _ => .nil
  | x :: r, h => List.pairwise_cons.mpr (rising_all r x h)
theorem str_ext {x y : Str} (h : x.cps.toList = y.cps.toList) : x = y := by
  cases x; cases y
  simp only at h
  exact congrArg Str.mk (Array.ext' h)
theorem up_of : ∀ {l : List Str}, l.Pairwise Le → l.Nodup → l.Pairwise Lt
  | [], _, _ => .nil
  | x :: r, h, d => by
    obtain ⟨h1, h2⟩ := List.pairwise_cons.mp h
    obtain ⟨d1, d2⟩ := List.nodup_cons.mp d
    refine List.pairwise_cons.mpr ⟨fun y hy => ?_, up_of h2 d2⟩
    have q : x.cps.toList ≤ y.cps.toList := List.not_lt.mp (h1 y hy)
    rcases List.le_iff_lt_or_eq.mp q with z | z
    · exact z
    · exact absurd (str_ext z ▸ hy) d1
/-- rising lists of the same members are one -/
theorem up_one : ∀ {l m : List Str}, l.Pairwise Lt → m.Pairwise Lt → (∀ x, x ∈ l ↔ x ∈ m) → l = m
  | [], [], _, _, _ => rfl
  | [], y :: m, _, _, h => by simpa using (h y).mpr List.mem_cons_self
  | x :: l, [], _, _, h => by simpa using (h x).mp List.mem_cons_self
  | x :: l, y :: m, a, b, h => by
    obtain ⟨a1, a2⟩ := List.pairwise_cons.mp a
    obtain ⟨b1, b2⟩ := List.pairwise_cons.mp b
    have irr : ∀ z : Str, ¬ Lt z z := fun z q => List.lt_irrefl _ q
    have asy : ∀ z u : Str, Lt z u → Lt u z → False := fun z u p q => irr z (List.lt_trans p q)
    have e : x = y := by
      rcases List.mem_cons.mp ((h x).mp List.mem_cons_self) with p | p
      · exact p
      · rcases List.mem_cons.mp ((h y).mpr List.mem_cons_self) with q | q
        · exact q.symm
        · exact (asy _ _ (a1 y q) (b1 x p)).elim
    subst e
    refine congrArg _ (up_one a2 b2 fun z => ⟨fun hz => ?_, fun hz => ?_⟩)
    · rcases List.mem_cons.mp ((h z).mp (List.mem_cons_of_mem _ hz)) with p | p
      · exact absurd (p ▸ a1 z hz) (irr _)
      · exact p
    · rcases List.mem_cons.mp ((h z).mpr (List.mem_cons_of_mem _ hz)) with p | p
      · exact absurd (p ▸ b1 z hz) (irr _)
      · exact p

section
variable {P : Program} {w : World} {A : Around} {E : Value → Shared → Prop} {s : Shared} {a : Addr}
theorem strs_map : ∀ (l : List (Int × Value)), (∀ e ∈ l, GoodT w e) → StrsAre (l.map (·.2)) (l.map txt)
  | [], _ => .nil
  | e :: l, h => by
    obtain ⟨x, u, e1, _⟩ := h e List.mem_cons_self
    have q : txt e = x := by unfold txt; rw [e1]
    show StrsAre (e.2 :: l.map (·.2)) (txt e :: l.map txt)
    rw [e1, q]
    exact .cons x u (strs_map l fun b hb => h b (List.mem_cons_of_mem _ hb))
theorem strs_perm {vs us : List Value} {xs : List Str} (p : vs.Perm us) (h : StrsAre us xs) : ∃ ys, StrsAre vs ys ∧ ys.Perm xs := by
  have m := p.map strOf
  refine ⟨vs.map strOf, ?_, ?_⟩
  · exact strsAre_map vs fun v hv => h.all v (p.mem_iff.mp hv)
  · rw [h.strs] at m
    exact m
/-- sorted(a set of texts) -/
theorem call_sorted {l : List Str} {Q : Value → Shared → Prop} (R : TSet w s.heap a l) (hh : A.handled = none)
    (hQ : ∀ s' p (out : Array Value) (c : Nat) (ys : List Str), (∀ b o, s.heap.get? b = some o → s'.heap.get? b = some o) → s'.gens = s.gens → s'.os = s.os → s.heap.objs.size ≤ p →
      s'.heap.get? p = some (seqObj "list" out c) → StrsAre out.toList ys → ys.Pairwise Lt → (∀ x, x ∈ ys ↔ x ∈ l) → ys.length < scanBound → ys.length ≤ l.length → Q (.ref p) s') :
    wpAny (model P w) A (call (.builtin "sorted") [.ref a]) Q E s := by
  obtain ⟨o, es, ep, t, ho, r⟩ := R
  refine Calls.call_function_entry kind_sorted plain_sorted entry_sorted (args_sorted1 _) ?_
  unfold Builtin.«sorted»
  refine wpAny_bind (m := checkCount "sorted" 1 1 _) (wpAny_pure ?_)
  refine wpAny_bind (collect_set (A := A.in1) hh ⟨o, ho, r.exact_.1, r.data⟩ r.fits r.size r.ris r.led fun s1 vs k1 hz g1 o1 pm => ?_)
  obtain ⟨xs, hx, px⟩ := strs_perm pm (strs_map es.toList r.good)
  have hvl : vs.length = es.size := by rw [pm.length_eq, List.length_map, Array.length_toList]
  have few : vs.length ≤ sizeLine := by rw [hvl]; exact fits_of_scanBound r.size
  refine wpAny_bind (wpAny_newList ?_ few)
  have hoL : (s1.heap.push (seqObj "list" vs.toArray 0)).get? s1.heap.objs.size = some (seqObj "list" vs.toArray 0) := Heap.get?_push_size _ rfl
  refine wpAny_bind (wpAny_holding (wpAny_call_entry slot_list_sort ⟨_, hoL, rfl⟩ entry_list_sort
    (list_sort_treeKAny strKind_oneLt hoL hx.keysOf (fun v1 v2 rest e => keyKind_strs (by rw [← e]; exact hx)) few fun st hp hs => ⟨_, rfl, ?_⟩) (args_list_sort _)))
  obtain ⟨ys, b1, b2, b3⟩ := sorted_out_str hx hp hs
  obtain ⟨c, hc⟩ := sortedHeap_at (vs := vs) (out := (arrOf st).map (·.2)) hoL
  have pk : ys.Perm (es.toList.map txt) := b2.trans px
  refine wpAny_pure ⟨_, rfl, hQ _ s1.heap.objs.size _ c ys (fun b u e => ?_) g1 o1 hz hc b1 (up_of (sorted_all ys b3) (pk.nodup_iff.mpr r.once)) (fun x => by rw [pk.mem_iff, ← r.mem x]) ?_ ?_⟩
  · have q := k1 b u e
    have lt := Heap.lt_size q
    show (sortedHeap (s1.heap.push (seqObj "list" vs.toArray 0)) s1.heap.objs.size vs _).get? b = some u
    rw [sortedHeap_old (Nat.ne_of_lt lt) (by rw [size_push']; exact Nat.lt_succ_of_lt lt)]
    exact Heap.get?_push_of_some _ q
  · rw [pk.length_eq, List.length_map, Array.length_toList]
    exact r.size
  · rw [pk.length_eq, List.length_map, Array.length_toList]
    exact r.few
end
end Tx

set_option Elab.async false
set_option linter.all false
set_option maxRecDepth 100000
set_option maxHeartbeats 4000000
namespace Tx
open PySem PySem.Spec PyProof.Rows L2
/-- the set of the texts l, as a tracked thing -/
def TSO (w : World) (a : Addr) (l : List Str) : HO := .ext fun h => TSet w h a l
theorem tso_ok {w : World} {P : Program} {H : Hp} {h : Heap} {a : Addr} {l : List Str} (R : TSet w h a l) : ObjOk P w H h a (TSO w a l) :=
  ⟨R, (let ⟨o, _, _, _, ho, _⟩ := R; ⟨o, ho⟩), fun _ _ p k => TSet.at p k⟩
section
variable {X : Cx}
theorem tso_get {pins : List (Addr × Obj)} {σ : L2.St} {H : Hp} {s : Shared} {a : Addr} {l : List Str} (I : Inv X pins σ H s) (ha : H a = some (TSO X.w a l)) : TSet X.w s.heap a l := (I.hok a _ ha).1
/-- set(a list or a tuple of texts) -/
def rSetTx (K : PySem.W.Frag) (w : World) : List V → Hp → VK → Prop := fun vs H Q => ∃ (p : Addr) (xs : List Str), vs = [.ref p] ∧ (SqL K H p (xs.map V.str) ∨ SqT K H p (xs.map V.str)) ∧ xs.length + 1 < scanBound ∧
  ∀ a, H a = none → Q (.ref a) (upd H a (TSO w a xs))
theorem cr_setTx (hc : X.calm = true) : CallR X (.type "set") (rSetTx X.K X.w) := by
  intro pins s σ H vs us Q I r h
  obtain ⟨p, xs, rfl, hp, hb, q⟩ := h
  rw [Vals.ref1 r]
  have fin : ∀ s', Made X.w s xs s' → EP X pins σ Q (.ref s.heap.objs.size) s' := fun s' ⟨h', tk, e, hT, k⟩ => by
    subst e
    exact ⟨.ref _, _, I.laid (t' := tk) k (Nat.le_refl _) (tso_ok hT), rfl, q _ (I.hok.fresh (Nat.le_refl _))⟩
  have hh := I.ok.hd hc
  rcases hp with hp | hp
  · obtain ⟨its, rv, pl, hz⟩ := I.list hp
    have st := rv.strs
    obtain ⟨o, ho, hq⟩ := pl.isList
    exact call_set ⟨o, ho⟩ (fun Z hZ => init_list (by simpa using hh) pl.isList (by simpa using st) hb Z hZ) fin
  · obtain ⟨its, rv, pl, hz⟩ := I.tuple hp
    have st := rv.strs
    obtain ⟨o, ho, hq⟩ := id pl
    exact call_set ⟨o, ho⟩ (fun Z hZ => init_tuple (by simpa using hh) pl (by simpa using st) hb Z hZ) fin
/-- sorted(a set of texts) -/
def rSortTx (w : World) : List V → Hp → VK → Prop := fun vs H Q => ∃ (a : Addr) (l : List Str), vs = [.ref a] ∧ H a = some (TSO w a l) ∧
  ∀ (ys : List Str) (p : Addr), ys.Pairwise Lt → (∀ x, x ∈ ys ↔ x ∈ l) → ys.length ≤ l.length → H p = none → Q (.ref p) (upd H p (.lst (ys.map V.str)))
theorem cr_sortTx (hc : X.calm = true) : CallR X (.builtin "sorted") (rSortTx X.w) := by
  intro pins s σ H vs us Q I r h
  obtain ⟨a, l, rfl, ha, q⟩ := h
  rw [Vals.ref1 r]
  refine call_sorted (tso_get I ha) (I.ok.hd hc) fun s' p out c ys k g o hp hg hi hs hm hn hn' => ?_
  have hz : (ys.map V.str).length ≤ sizeLine := by
    rw [List.length_map]
    exact fits_of_scanBound hn
  have no : H p = none := I.hok.fresh hp
  have J : Inv X pins σ (upd H p (.lst (ys.map V.str))) { s with heap := s'.heap, gens := s'.gens, drawn := s'.drawn, toks := s'.toks } :=
    I.call (ch := []) (Un.laid k hp no) (I.hok.laid k hp ⟨hz, out.toList, c, vals_of_strs hi, hg⟩) (by rw [g]; exact I.bare) (fun _ z => nomatch z)
  have e : s' = { s with heap := s'.heap, gens := s'.gens, drawn := s'.drawn, toks := s'.toks } := by
    cases s'
    cases s
    cases o
    rfl
  rw [e]
  exact ⟨.ref p, _, J, rfl, q ys p hs hm hn' no⟩
/-- xs.extend(a list or a tuple) -/
def rExt (K : PySem.W.Frag) : V → List V → Hp → VK → Prop := fun x vs H Q => ∃ l b xs zs, x = .ref l ∧ vs = [.ref b] ∧ H l = some (.lst xs) ∧ (SqL K H b zs ∨ SqT K H b zs) ∧ xs.length + zs.length ≤ sizeLine ∧ Q .non (upd H l (.lst (xs ++ zs)))
theorem mt_ext : MtM X "list.extend" (rExt X.K) := by
  intro pins s σ H x vs v us Q I rx rv h
  obtain ⟨l, b, xs, zs, rfl, rfl, hH, hB, hz, q⟩ := h
  cases rx
  obtain ⟨u, rfl, ru⟩ := rv.one
  cases ru
  obtain ⟨z, its, n, r, hl, e⟩ := I.lstM hH
  have main : ∀ (T : String) (its2 : List Value) (o : Obj) (n2 : Nat), (T = "list" ∨ T = "tuple") → Vals zs its2 → s.heap.get? b = some o → o.cls = .type T → o.data = .seq its2.toArray n2 →
      wpAny (model X.prog X.w) X.A (call (.builtin "list.extend") [.ref l, .ref b]) (EP X pins σ Q) X.xe s := fun T its2 o n2 hT r2 ho hcl hd => by
    have hl2 := r2.length
    have few : its.toArray.size + its2.toArray.size ≤ sizeLine := by rw [List.size_toArray, List.size_toArray]; omega
    have long : ¬ (!its.toArray.isEmpty && Builtin.List.listTooLong (its.toArray.size + its2.toArray.size)) = true := by
      rw [notLongL few, Bool.and_false]
      exact Bool.false_ne_true
    refine wpAny_call_entry PySem.F.slot_list_extend ⟨_, e, rfl⟩ PySem.F.entry_list_extend ?_ (PySem.F.args_list_extend_2 _ _)
    show wpAny _ _ (Builtin.List.listExtendWith (.ref l) (.ref b) .none) _ _ s
    unfold Builtin.List.listExtendWith
    refine wpAny_bind (wpAny_typeOf ⟨o, ho, hcl⟩ ?_)
    have h1 : (Builtin.List.listSameRef (.ref l) (.ref b) || Value.type T == Value.type "list" || Value.type T == Value.type "tuple") = true := by
      rcases hT with rfl | rfl <;> simp
    simp only [h1, if_true]
    unfold Builtin.List.listItems
    refine wpAny_bind (wpAny_bind (wpAny_seqItems ho hd (wpAny_pure ?_)))
    refine wpAny_bind (wpAny_bind (wpAny_seqItems e rfl (wpAny_pure ?_)))
    rw [if_neg long]
    show wpAny _ _ (updateSeq l (· ++ its2.toArray) >>= fun _ => ret Value.none) _ _ s
    refine wpAny_bind (wpAny_updateSeq e rfl ?_ (hz := by rw [List.size_toArray]; omega) (_hz' := by rw [Array.size_append]; omega))
    refine wpAny_pure ⟨_, rfl, .non, _, I.lset (t' := s.toks) (its' := its ++ its2) hH e (by simp) (r.append r2) (by rw [List.length_append]; exact hz), rfl, q⟩
  rcases hB with hB | hB
  · obtain ⟨its2, r2, pl, _⟩ := I.list hB
    obtain ⟨o, ho, hcl, n2, hd⟩ := pl.isList
    exact main "list" its2 o n2 (.inl rfl) r2 ho hcl hd
  · obtain ⟨its2, r2, ⟨o, ho, hcl, n2, hd⟩, _⟩ := I.tuple hB
    exact main "tuple" its2 o n2 (.inr rfl) r2 ho hcl hd
end
end Tx

set_option Elab.async false
set_option linter.all false
set_option maxRecDepth 100000
set_option maxHeartbeats 4000000
/-! {elt for a in .. for b in ..}, elt a text -/
namespace Tx
open PySem PySem.Spec PyProof.Rows L2
abbrev two (elt t0 i0 t1 i1 : Expr) (sc : Scope) (pos : Pos) : Expr := .SetComp elt [⟨t0, i0, [], 0⟩, ⟨t1, i1, [], 0⟩] sc pos
theorem turn_out (elt t0 i0 t1 i1 : Expr) (sc : Scope) (pos : Pos) (it acc : Value) (env : Env) :
    compTurn (two elt t0 i0 t1 i1 sc pos) 0 it acc env = (do
      standAt i0.pos
      match ← pyNext it with
      | none => pure (.done .next)
      | some v =>
        letOwnedTupleGo t0 it v
        assign t0 env v
        let x ← eval i1 env
        standAt i1.pos
        let x ← foldedSetIterable i1 env x
        let _ ← runOwn (.compStart (two elt t0 i0 t1 i1 sc pos) 1 (← holding [x] (pyIter x)) acc env) env
        again (.compLoop (two elt t0 i0 t1 i1 sc pos) 0 it acc env)) := by rfl
theorem turn_in (elt t0 i0 t1 i1 : Expr) (sc : Scope) (pos : Pos) (it acc : Value) (env : Env) :
    compTurn (two elt t0 i0 t1 i1 sc pos) 1 it acc env = (do
      standAt i1.pos
      match ← pyNext it with
      | none => pure (.done .next)
      | some v =>
        letOwnedTupleGo t1 it v
        assign t1 env v
        (do let v ← eval elt env; standAt elt.pos; let _ ← call (.builtin "set.add") [acc, v])
        again (.compLoop (two elt t0 i0 t1 i1 sc pos) 1 it acc env)) := by rfl
section
variable {prog : Program} {w : World} {A : Around} {R : Result → Shared → Prop} {s : Shared} {elt t0 i0 t1 i1 : Expr} {sc : Scope} {pos : Pos} {it acc : Value} {env : Env}
/-- the first clause's loop -/
theorem loop_out (hs : ∀ x, foldedSetIterable i1 env x = pure x) (I : Nat → Shared → Prop)
    (turn : ∀ n s, I n s → wpAny (model prog w) A (pyNext it) (fun r s1 => match r with
      | none => R (.ok .next) s1
      | some v => wpAny (model prog w) A (letOwnedTupleGo t0 it v) (fun _ s2 => wpAny (model prog w) A (assign t0 env v) (fun _ s3 =>
          wpAny (model prog w) A (eval i1 env) (fun x s4 => wpAny (model prog w) A (pyIter x) (fun j s5 =>
              codeAny (model prog w) A (.compStart (two elt t0 i0 t1 i1 sc pos) 1 j acc env) (fun r s' => match r with
                | .ok _ => ∃ m, m < n ∧ I m s'
                | .error _ => False) s5) (notedBy (model prog w) A env fun e s' => R (.error e) s') s4) (notedBy (model prog w) A env fun e s' => R (.error e) s') s3)
            (notedBy (model prog w) A env fun e s' => R (.error e) s') s2) (notedBy (model prog w) A env fun e s' => R (.error e) s') s1) (notedBy (model prog w) A env fun e s' => R (.error e) s') s)
    (n : Nat) (h : I n s) : codeAny (model prog w) A (.compLoop (two elt t0 i0 t1 i1 sc pos) 0 it acc env) R s := by
  refine codeAny_loop rfl I (fun n s hI => ?_) n h
  show wpAny _ A ((compTurn (two elt t0 i0 t1 i1 sc pos) 0 it acc env).onRaise (fun x => do noteFrame x env; theTreesLotGoes x)) _ _ s
  refine wpAny_noted ?_
  rw [turn_out]
  refine wpAny_bind (wpAny_standAt (wpAny_bind (wpAny_mono (turn n s hI) (fun r s1 h1 => ?_) fun _ _ z => z)))
  cases r with
  | none => exact wpAny_pure h1
  | some v =>
    refine wpAny_bind (wpAny_mono h1 (fun _ s2 h2 => ?_) fun _ _ z => z)
    refine wpAny_bind (wpAny_mono h2 (fun _ s3 h3 => ?_) fun _ _ z => z)
    refine wpAny_bind (wpAny_mono h3 (fun x s4 h4 => ?_) fun _ _ z => z)
    refine wpAny_bind (wpAny_standAt (wpAny_bind (wpAny_of_eq (hs x) (wpAny_bind (wpAny_holding (wpAny_mono h4 (fun j s5 h5 => ?_) fun _ _ z => z))))))
    refine wpAny_bind (wpAny_runOwn ?_)
    rw [Around.mark_none]
    refine codeAny_mono h5 fun r s' hr => ?_
    cases r with
    | error e => exact hr.elim
    | ok f =>
      first
        | exact wpAny_pure ⟨rfl, hr⟩
        | exact wpAny_bind (wpAny_pure (wpAny_pure ⟨rfl, hr⟩))
/-- the second clause's loop -/
theorem loop_in (I : Nat → Shared → Prop)
    (turn : ∀ n s, I n s → wpAny (model prog w) A (pyNext it) (fun r s1 => match r with
      | none => R (.ok .next) s1
      | some v => wpAny (model prog w) A (letOwnedTupleGo t1 it v) (fun _ s2 => wpAny (model prog w) A (assign t1 env v) (fun _ s3 =>
          wpAny (model prog w) A (eval elt env) (fun x s4 => wpAny (model prog w) A (call (.builtin "set.add") [acc, x]) (fun _ s5 => ∃ m, m < n ∧ I m s5) (notedBy (model prog w) A env fun e s' => R (.error e) s') s4)
            (notedBy (model prog w) A env fun e s' => R (.error e) s') s3) (notedBy (model prog w) A env fun e s' => R (.error e) s') s2) (notedBy (model prog w) A env fun e s' => R (.error e) s') s1)
        (notedBy (model prog w) A env fun e s' => R (.error e) s') s)
    (n : Nat) (h : I n s) : codeAny (model prog w) A (.compLoop (two elt t0 i0 t1 i1 sc pos) 1 it acc env) R s := by
  refine codeAny_loop rfl I (fun n s hI => ?_) n h
  show wpAny _ A ((compTurn (two elt t0 i0 t1 i1 sc pos) 1 it acc env).onRaise (fun x => do noteFrame x env; theTreesLotGoes x)) _ _ s
  refine wpAny_noted ?_
  rw [turn_in]
  refine wpAny_bind (wpAny_standAt (wpAny_bind (wpAny_mono (turn n s hI) (fun r s1 h1 => ?_) fun _ _ z => z)))
  cases r with
  | none => exact wpAny_pure h1
  | some v =>
    refine wpAny_bind (wpAny_mono h1 (fun _ s2 h2 => ?_) fun _ _ z => z)
    refine wpAny_bind (wpAny_mono h2 (fun _ s3 h3 => ?_) fun _ _ z => z)
    exact wpAny_bind (wpAny_bind (wpAny_mono h3 (fun x s4 h4 => wpAny_bind (wpAny_standAt (wpAny_bind (wpAny_mono h4 (fun _ s5 h5 => wpAny_pure (wpAny_pure ⟨rfl, h5⟩)) fun _ _ z => z)))) fun _ _ z => z))
theorem start_in (h0 : codeAny (model prog w) A (.compLoop (two elt t0 i0 t1 i1 sc pos) 1 it acc env) R s)
    (h : wpAny (model prog w) A (pyIter it) (fun j s' => codeAny (model prog w) A (.compLoop (two elt t0 i0 t1 i1 sc pos) 1 j acc env) R s') (notedBy (model prog w) A env fun x s' => R (.error x) s') s) :
    codeAny (model prog w) A (.compStart (two elt t0 i0 t1 i1 sc pos) 1 it acc env) R s := by
  refine codeAny_of_tree ?_
  show wpAny _ _ ((compStart (two elt t0 i0 t1 i1 sc pos) 1 it acc env).onRaise (fun x => do noteFrame x env; standAt theWindowsPlace)) _ _ s
  refine wpAny_notedAt ?_
  unfold compStart
  show wpAny _ _ (ask >>= _) _ _ s
  refine wpAny_bind (wpAny_askSetting (wpAny_ite ?_))
  split
  · first
      | exact wpAny_bind (wpAny_pure (wpAny_pure (And.intro rfl h0)))
      | exact wpAny_pure (And.intro rfl h0)
  · first
      | exact wpAny_bind (wpAny_rule (wpAny_bind (wpAny_standAt (wpAny_bind (wpAny_mono h (fun _ _ z => wpAny_pure (And.intro rfl z)) fun _ _ x => x)))))
      | (refine wpAny_bind (wpAny_rule ?_); show wpAny _ _ (standAt i1.pos >>= _) _ _ s; exact wpAny_bind (wpAny_standAt (wpAny_bind (wpAny_mono h (fun _ _ z => wpAny_pure (And.intro rfl z)) fun _ _ x => x))))
end
end Tx

set_option Elab.async false
set_option linter.all false
set_option maxRecDepth 100000
set_option maxHeartbeats 4000000
namespace Tx
open PySem PySem.Spec PyProof.Rows L2
section
variable {X : Cx}
/-- a text put into a tracked set -/
theorem put_ok {pins : List (Addr × Obj)} {σ : L2.St} {H : Hp} {s : Shared} {E : Value → Shared → Prop} {D : Addr} {l : List Str} {x : Str} {u : Tok} {Q : Value → Shared → Prop} (I : Inv X pins σ H s) (hD : H D = some (TSO X.w D l)) (room : l.length + 1 < scanBound)
    (h : ∀ s', Inv X pins σ (upd H D (TSO X.w D (l ++ [x]))) s' → Q .none s') : wpAny (model X.prog X.w) X.A (call (.builtin "set.add") [.ref D, .str x u]) Q E s := by
  refine call_add (tso_get I hD) room fun h' sb q => ?_
  have he : ∃ u, h'.get? D = some u := let ⟨o, _, _, _, ho, _⟩ := q; ⟨o, ho⟩
  exact h _ (I.write (e := D) (t' := s.toks + 1) (by rw [hD]; trivial) (.inl rfl) (fun b u hb hu => (sb.2 b hb).trans hu) he (tso_ok q))
/-- what {elt for g in wi for g1 in wi1} asks: vs the block's slots, vs1 those of the second target -/
def tSc2 (w : World) (wi : TI) (g : TG) (wi1 : TI) (g1 : TG) (te : TE) (vs vs1 : List Nat) : TE := fun σ H Q => wi σ H fun J H1 => ∀ D, H1 D = none → ∃ W : Nat → Nat → Hp → Prop, (∃ m, W 0 m (upd H1 D (TSO w D []))) ∧ ∀ i m H, W i m H →
  (J.stop i H ∧ Q (.ref D) H) ∨ (J.go i H ∧ ∃ Nx : Hp → Prop, (∀ H', Nx H' → ∃ m', m' < m ∧ W (i + 1) m' H') ∧ ∀ x H', J.yld i H x H' → g x (wipe σ vs) H' fun σ2 H2 => wipe σ2 vs = wipe σ vs ∧
    wi1 σ2 H2 fun J1 H4 => ∃ W1 : Nat → Nat → Hp → Prop, (∃ m, W1 0 m H4) ∧ ∀ j k H, W1 j k H →
      (J1.stop j H ∧ Nx H) ∨ (J1.go j H ∧ ∃ Nx1 : Hp → Prop, (∀ H', Nx1 H' → ∃ k', k' < k ∧ W1 (j + 1) k' H') ∧ ∀ x H', J1.yld j H x H' → g1 x (wipe σ2 vs1) H' fun σ3 H5 => wipe σ3 vs1 = wipe σ2 vs1 ∧
        te σ3 H5 fun y H7 => ∃ t l, y = .str t ∧ H7 D = some (TSO w D l) ∧ l.length + 1 < scanBound ∧ Nx1 (upd H7 D (TSO w D (l ++ [t])))))
theorem pe_sc2 {elt t0 i0 t1 i1 : Expr} {sc : Scope} {own : List (Str × Nat)} {vs1 : List Nat} {pos : Pos} {wi wi1 : TI} {g g1 : TG} {te : TE} (hc : X.calm = true) (hN : X.N.Nodup) (hi : PI X t0 i0 wi) (ok : BlkOk X.N X.env.scope sc own) (hv : ∀ i ∈ vs1, i ∈ own.map (·.2))
    (hg : ∀ (s : Shared) (H : Hp) (C : Addr) (cl : List (Str × Addr)) (fp : List Addr), PG (X.blk s H sc (compEnvC sc cl C X.env) fp) t0 g)
    (hi1 : ∀ (s : Shared) (H : Hp) (C : Addr) (cl : List (Str × Addr)) (fp : List Addr), PI (X.blk s H sc (compEnvC sc cl C X.env) fp) t1 i1 wi1)
    (hg1 : ∀ (s : Shared) (H : Hp) (C : Addr) (cl : List (Str × Addr)) (fp : List Addr), PG (X.blk s H sc (compEnvC sc cl C X.env) fp) t1 g1)
    (he : ∀ (s : Shared) (H : Hp) (C : Addr) (cl : List (Str × Addr)) (fp : List Addr), PE (X.blk s H sc (compEnvC sc cl C X.env) fp) elt te)
    (hs : ∀ x, foldedSetIterable i0 X.env x = pure x := by intro _; rfl) (hs1 : ∀ env x, foldedSetIterable i1 env x = pure x := by intro _ _; rfl) :
    PE X (two elt t0 i0 t1 i1 sc pos) (tSc2 X.w wi g wi1 g1 te (own.map (·.2)) vs1) := by
  refine ⟨fun pins s σ H Q I h => ?_⟩
  rw [show eval (two elt t0 i0 t1 i1 sc pos) X.env = comprehension (two elt t0 i0 t1 i1 sc pos) sc X.env (firstIterPos [⟨t0, i0, [], 0⟩, ⟨t1, i1, [], 0⟩] pos) (newSet (.type "set")) false (eval i0 X.env) none from rfl]
  have frees : ∀ y ∈ sc.names, y.2 = .free → ∃ c, X.env.cells.lookup y.1 = some c := fun y hy e => I.ok.has _ (ok.free y hy e)
  refine wpAny_comprehension_free (use := none) rfl hs (closure_ok frees) ok.kind (fun y hy e => by rw [ok.uniq y hy, e]) (thn (hi.run pins s σ H _ I h) fun _ s1 hx => thn hx fun _ s2 h2 => ?_)
  obtain ⟨it, fp, tn, J, H2, rfl, I2, T, st2, f2, q⟩ := h2
  refine PpSet.newSet_ok (newEnv_comp ?_)
  obtain ⟨D, hD⟩ : ∃ D, s2.heap.objs.size = D := ⟨_, rfl⟩
  rw [hD]
  have hDn : H2 D = none := I2.hok.fresh (Nat.le_of_eq hD)
  obtain ⟨W, ⟨m0, w0⟩, turn⟩ := q D hDn
  obtain ⟨s3, hs3⟩ : ∃ s3 : Shared, ({ s2 with heap := s2.heap.push (s0 X.w) } : Shared) = s3 := ⟨_, rfl⟩
  have h3 : s3.heap = s2.heap.push (s0 X.w) := by rw [← hs3]
  have I3 : Inv X pins σ (upd H2 D (TSO X.w D [])) s3 := by
    rw [← hs3]
    refine I2.laid (t' := s2.toks) (fun b o e => Heap.get?_push_of_some _ e) (Nat.le_of_eq hD) (tso_ok (fresh_at ?_))
    rw [← hD]
    exact Heap.get?_push_size _ rfl
  have f3 : ∀ b ∈ fp, FpOk X pins (upd H2 D (TSO X.w D [])) b ∧ b < s3.heap.objs.size := fun b hb => by
    obtain ⟨o, eo, _⟩ := T.obj _ _ st2 b hb
    have lt : b < s2.heap.objs.size := Heap.lt_size eo
    refine ⟨⟨?_, (f2 b hb).2⟩, by rw [h3, Heap.size_push]; exact Nat.lt_succ_of_lt lt⟩
    rw [upd_ne (by rw [← hD]; exact Nat.ne_of_lt lt)]
    exact (f2 b hb).1
  have st3 : tn 0 s3.heap := T.keep _ _ _ st2 fun b _ o e => by rw [h3]; exact Heap.get?_push_of_some _ e
  have I4 := block_start I3 ok hN f3
  show codeAny _ _ (.compStart (two elt t0 i0 t1 i1 sc pos) 0 (.ref it) (.ref D) _) (compPost (model X.prog X.w) X.A X.xe none (EP X pins σ Q) (.ref D) _) _
  rw [hs3]
  have pg := hg s3 (upd H2 D (TSO X.w D [])) s3.heap.objs.size (cellsFrom (s3.heap.objs.size + 1) sc.names (cloFrom X.env.cells sc.names [])) fp
  have pe := he s3 (upd H2 D (TSO X.w D [])) s3.heap.objs.size (cellsFrom (s3.heap.objs.size + 1) sc.names (cloFrom X.env.cells sc.names [])) fp
  have pi1 := hi1 s3 (upd H2 D (TSO X.w D [])) s3.heap.objs.size (cellsFrom (s3.heap.objs.size + 1) sc.names (cloFrom X.env.cells sc.names [])) fp
  have pg1 := hg1 s3 (upd H2 D (TSO X.w D [])) s3.heap.objs.size (cellsFrom (s3.heap.objs.size + 1) sc.names (cloFrom X.env.cells sc.names [])) fp
  have none3 : ∀ b ∈ fp, (upd H2 D (TSO X.w D [])) b = none := fun b hb => (f3 b hb).1.1
  show codeAny _ _ (.compStart (two elt t0 i0 t1 i1 sc pos) 0 (.ref it) (.ref D) (compEnvC sc (cellsFrom (s3.heap.objs.size + 1) sc.names (cloFrom X.env.cells sc.names [])) s3.heap.objs.size X.env))
    (compPost (model X.prog X.w) X.A X.xe none (EP X pins σ Q) (.ref D) s3.heap.objs.size) { s3 with heap := pushCells (s3.heap.push { cls := .type "dict", data := .dict #[] }) sc.names }
  generalize hce : compEnvC sc (cellsFrom (s3.heap.objs.size + 1) sc.names (cloFrom X.env.cells sc.names [])) s3.heap.objs.size X.env = ce at I4 pg pe pi1 pg1 ⊢
  have cL : ce.locals = s3.heap.objs.size := by subst hce; rfl
  generalize hH3 : upd H2 D (TSO X.w D []) = H3 at I3 I4 pg pe pi1 pg1 w0 none3 f3
  generalize hs4 : ({ s3 with heap := pushCells (s3.heap.push { cls := .type "dict", data := .dict #[] }) sc.names } : Shared) = s4 at I4 ⊢
  have st4 : tn 0 s4.heap := T.keep _ _ _ st3 fun b _ o e => by rw [← hs4]; exact pushCells_keeps _ _ _ _ (Heap.get?_push_of_some _ e)
  let B := X.blk s3 H3 sc ce fp
  let σ0 := wipe σ (own.map (·.2))
  let Goal : Nat → Shared → Prop := fun n s' => ∃ i H', Inv B [] σ0 H' s' ∧ tn i s'.heap ∧ (∀ b ∈ fp, H' b = none) ∧ W i n H'
  have stat : ∀ {σ' : L2.St} {H' : Hp} {s' : Shared}, Inv B [] σ' H' s' → (∀ b ∈ fp, H' b = none) → ∀ b ∈ fp, FpOk B [] H' b := fun {σ' H' s'} I' hn b hb =>
    ⟨hn b hb, (I'.ok.exf b hb).1, I'.ok.exfs b hb, .inl hb, fun x c e => (I'.ok.exf b hb).2 x c e, fun p hp => absurd (show p ∈ ([] : List (Addr × Obj)) ++ [] from hp) (by simp)⟩
  have loop : codeAny (model X.prog X.w) X.A (.compLoop (two elt t0 i0 t1 i1 sc pos) 0 (.ref it) (.ref D) ce) (compPost (model X.prog X.w) X.A X.xe none (EP X pins σ Q) (.ref D) s3.heap.objs.size) s4 := by
    refine loop_out (hs1 ce) Goal ?_ m0 ⟨0, H3, I4, st4, none3, w0⟩
    rintro n s5 ⟨i, H5, I5, st5, n5, w5⟩
    rcases turn i n H5 w5 with ⟨stop, qq⟩ | ⟨go, Nx, hNx, step⟩
    · refine thnF (T.done B rfl rfl rfl hc i [] s5 _ H5 (fun _ _ => False) I5 (stat I5 n5) st5 stop) fun r s6 ⟨hr, I6⟩ => ?_
      subst hr
      have I7 : Inv X pins σ H5 s6 := I3.call' (ch := fp) I6.os I6.base I6.hok I6.bare fun b hb => ⟨(f3 b hb).1.2.2.2.1, (f3 b hb).1.2.1, (f3 b hb).1.2.2.2.2.1, (f3 b hb).1.2.2.2.2.2⟩
      have noC : H5 s3.heap.objs.size = none := by
        have z : H5 ce.locals = none := I6.free
        rwa [cL] at z
      obtain ⟨mm, hn, _⟩ := I6.loc
      have hn : s6.heap.Ns ce.locals mm := hn
      rw [cL] at hn
      obtain ⟨g0, g1', g2, g3, g4, g5⟩ := I3.fpOk (Nat.le_refl _) noC
      exact ⟨mm, hn, fun h'' sb => ⟨.ref D, H5, I7.turned (t' := s6.toks) (fun b o hb e => (sb.2 b hb).trans e) g0 g1' g3 g4 g5, rfl, qq⟩⟩
    · refine thnF (T.item B rfl rfl rfl hc i [] s5 _ H5 (fun _ _ => False) I5 (stat I5 n5) st5 go) fun r s6 ⟨u, hr, h6⟩ => ?_
      subst hr
      refine thnF h6 fun _ s7 ⟨x, H7, I7, r7, y7, st7, n7⟩ => ?_
      refine thnF (pg.run _ s7 _ H7 x u _ (I7.pinned (stat I7 n7) (T.obj _ _ st7)) r7 (step x H7 y7)) fun _ s8 ⟨σ8, H8, I8, hw8, q8⟩ => ?_
      have back : ∀ {σ9 : L2.St} {s' : Shared} {H' : Hp}, Inv B ([] ++ pinsAt fp s7.heap) σ9 H' s' → σ0.length = σ9.length → (∀ (j : Nat) v, σ0[j]? = some (some v) → σ9[j]? = some (some v)) → Nx H' → ∃ m, m < n ∧ Goal m s' := fun {σ9 s' H'} I' hl hk nx => by
        obtain ⟨m', hm, w'⟩ := hNx H' nx
        have still : ∀ b ∈ fp, ∀ o, s7.heap.get? b = some o → s'.heap.get? b = some o ∧ H' b = none := fun b hb o e =>
          let z := I'.pin (b, o) (List.mem_append_right _ (List.mem_append_right _ (mem_pinsAt hb e)))
          ⟨z.1, z.2.1⟩
        refine ⟨m', hm, i + 1, H', (I'.unpinned (pins := [])).weak hl hk, T.keep _ _ _ st7 fun b hb o e => (still b hb o e).1, fun b hb => ?_, w'⟩
        obtain ⟨o, e, _⟩ := T.obj _ _ st7 b hb
        exact (still b hb o e).2
      have l8 : σ0.length = σ8.length := by rw [← wipe_length σ8 (own.map (·.2)), hw8]
      have k9 : ∀ (j : Nat) v, σ0[j]? = some (some v) → (wipe σ8 vs1)[j]? = some (some v) := fun j v e => by
        have e' : (wipe σ8 (own.map (·.2)))[j]? = some (some v) := by rw [hw8]; exact e
        obtain ⟨e1, e2⟩ := wipe_some e'
        rw [wipe_out fun z => e2 (hv j z)]
        exact e1
      refine thnF (pi1.run _ s8 σ8 H8 _ I8 q8) fun _ s10 hx => thnF hx fun _ s11 h11 => ?_
      obtain ⟨it1, fp1, tn1, J1, H11, rfl, I11, T1, st11, f11, W1, ⟨m1, w1⟩, turn1⟩ := h11
      have stat1 : ∀ {H' : Hp}, (∀ b ∈ fp1, H' b = none) → ∀ b ∈ fp1, FpOk B ([] ++ pinsAt fp s7.heap) H' b := fun hn b hb => ⟨hn b hb, (f11 b hb).2⟩
      let Inner : Nat → Shared → Prop := fun k s' => ∃ j H', Inv B ([] ++ pinsAt fp s7.heap) (wipe σ8 vs1) H' s' ∧ tn1 j s'.heap ∧ (∀ b ∈ fp1, H' b = none) ∧ W1 j k H'
      have loop1 : codeAny (model X.prog X.w) X.A (.compLoop (two elt t0 i0 t1 i1 sc pos) 1 (.ref it1) (.ref D) ce) (fun r s' => match r with
          | .ok _ => ∃ m, m < n ∧ Goal m s'
          | .error _ => False) s11 := by
        refine loop_in Inner ?_ m1 ⟨0, H11, I11.weak (wipe_length _ _) (fun j v e => (wipe_some e).1), st11, fun b hb => (f11 b hb).1, w1⟩
        rintro k s12 ⟨j, H12, I12, st12, n12, w12⟩
        rcases turn1 j k H12 w12 with ⟨stop1, nx1⟩ | ⟨go1, Nx1, hNx1, step1⟩
        · refine thnF (T1.done B rfl rfl rfl hc j _ s12 (wipe σ8 vs1) H12 (fun _ _ => False) I12 (stat1 n12) st12 stop1) fun r s13 ⟨hr, I13⟩ => ?_
          subst hr
          exact back I13 (l8.trans (wipe_length σ8 vs1).symm) k9 nx1
        · refine thnF (T1.item B rfl rfl rfl hc j _ s12 (wipe σ8 vs1) H12 (fun _ _ => False) I12 (stat1 n12) st12 go1) fun r s13 ⟨u1, hr, h13⟩ => ?_
          subst hr
          refine thnF h13 fun _ s14 ⟨x1, H14, I14, r14, y14, st14, n14⟩ => ?_
          refine thnF (pg1.run _ s14 (wipe σ8 vs1) H14 x1 u1 _ (I14.pinned (stat1 n14) (T1.obj _ _ st14)) r14 (step1 x1 H14 y14)) fun _ s15 ⟨σ15, H15, I15, hw15, q15⟩ => ?_
          refine thnF (pe.run _ s15 σ15 H15 _ I15 q15) fun z s17 ⟨yv, H17, I17, r17, tx, l, ey, hD17, hz17, nx⟩ => ?_
          subst ey
          obtain ⟨tk, rfl⟩ := (show ∃ tk, z = Value.str tx tk from r17)
          refine put_ok (X := B) I17 hD17 hz17 fun s18 I18 => ?_
          obtain ⟨m', hm, w'⟩ := hNx1 _ nx
          have still1 : ∀ b ∈ fp1, ∀ o, s14.heap.get? b = some o → s18.heap.get? b = some o ∧ (upd H17 D (TSO X.w D (l ++ [tx]))) b = none := fun b hb o e =>
            let z := I18.pin (b, o) (List.mem_append_right _ (List.mem_append_right _ (mem_pinsAt hb e)))
            ⟨z.1, z.2.1⟩
          refine ⟨m', hm, j + 1, _, I18.unpinned.weak (by rw [← wipe_length σ15 vs1, hw15]) (fun i v e => by rw [← hw15] at e; exact (wipe_some e).1), T1.keep _ _ _ st14 fun b hb o e => (still1 b hb o e).1, fun b hb => ?_, w'⟩
          obtain ⟨o, e, _⟩ := T1.obj _ _ st14 b hb
          exact (still1 b hb o e).2
      exact start_in loop1 (T1.self X.A 0 _ _ _ st11 loop1)
  exact PpSet.codeAny_compStart_set loop (T.self X.A 0 _ _ _ st4 loop)
end
end Tx

set_option Elab.async false
set_option linter.all false
set_option maxRecDepth 100000
set_option maxHeartbeats 4000000
/-! Formulas as data, and as tuples of tuples in the heap. -/
namespace Fo
open PySem L2
/-- a formula: con true: and; con false: or; qu true: some; qu false: all -/
inductive Fm where
  | rel (n : Str) (xs : List Str)
  | same (x y : Str)
  | neg (f : Fm)
  | con (b : Bool) (fs : List Fm)
  | qu (b : Bool) (x : Str) (f : Fm)
namespace Fm
def kids : Fm → List Fm
  | .rel _ _ => []
  | .same _ _ => []
  | .neg f => [f]
  | .con _ fs => fs
  | .qu _ _ f => [f]
/-- the names that it tells itself -/
def own : Fm → List Str
  | .rel _ xs => xs
  | .same x y => [x, y]
  | .neg _ => []
  | .con _ _ => []
  | .qu _ x _ => [x]
mutual
/-- how many formulas stand in it -/
def ct : Fm → Nat
  | .rel _ _ => 1
  | .same _ _ => 1
  | .neg f => 1 + ct f
  | .con _ fs => 1 + cts fs
  | .qu _ _ f => 1 + ct f
def cts : List Fm → Nat
  | [] => 0
  | f :: fs => ct f + cts fs
end
mutual
def dp : Fm → Nat
  | .rel _ _ => 0
  | .same _ _ => 0
  | .neg f => 1 + dp f
  | .con _ fs => dps fs
  | .qu _ _ f => 1 + dp f
/-- one more than the greatest depth of these, 0 if there is none -/
def dps : List Fm → Nat
  | [] => 0
  | f :: fs => max (1 + dp f) (dps fs)
end
mutual
/-- all names that stand in it -/
def nm : Fm → List Str
  | .rel _ xs => xs
  | .same x y => [x, y]
  | .neg f => nm f
  | .con _ fs => nms fs
  | .qu _ x f => x :: nm f
def nms : List Fm → List Str
  | [] => []
  | f :: fs => nm f ++ nms fs
end
mutual
def fr : Fm → List Str
  | .rel _ xs => xs
  | .same x y => [x, y]
  | .neg f => fr f
  | .con _ fs => frs fs
  | .qu _ x f => (fr f).filter (fun y => decide (y ≠ x))
def frs : List Fm → List Str
  | [] => []
  | f :: fs => fr f ++ frs fs
end
mutual
def rk : Fm → Nat
  | .rel _ _ => 0
  | .same _ _ => 0
  | .neg f => rk f
  | .con _ fs => rks fs
  | .qu _ _ f => 1 + rk f
def rks : List Fm → Nat
  | [] => 0
  | f :: fs => max (rk f) (rks fs)
end
theorem ct_pos : ∀ f : Fm, 1 ≤ ct f
  | .rel _ _ => by rw [ct]; omega
  | .same _ _ => by rw [ct]; omega
  | .neg f => by rw [ct]; omega
  | .con _ fs => by rw [ct]; omega
  | .qu _ _ f => by rw [ct]; omega
theorem ct_kids (f : Fm) : ct f = 1 + cts f.kids := by
  cases f <;> simp only [ct, kids, cts] <;> omega
theorem cts_append : ∀ (a b : List Fm), cts (a ++ b) = cts a + cts b
  | [], b => by simp [cts]
  | f :: a, b => by rw [List.cons_append, cts, cts, cts_append a b]; omega
theorem cts_mem : ∀ {fs : List Fm} {f : Fm}, f ∈ fs → ct f ≤ cts fs
  | g :: fs, f, h => by
    rw [cts]
    rcases List.mem_cons.mp h with e | e
    · rw [e]; omega
    · have := cts_mem e; omega
theorem len_cts : ∀ (fs : List Fm), fs.length ≤ cts fs
  | [] => Nat.le_refl _
  | f :: fs => by rw [cts, List.length_cons]; have := len_cts fs; have := ct_pos f; omega
theorem nms_append : ∀ (a b : List Fm), nms (a ++ b) = nms a ++ nms b
  | [], b => by simp [nms]
  | f :: a, b => by rw [List.cons_append, nms, nms, nms_append a b, List.append_assoc]
theorem mem_nms : ∀ {fs : List Fm} {x : Str}, x ∈ nms fs ↔ ∃ f ∈ fs, x ∈ nm f
  | [], x => by simp [nms]
  | f :: fs, x => by
    rw [nms, List.mem_append, mem_nms]
    simp only [List.mem_cons, exists_eq_or_imp]
theorem nm_kids (f : Fm) (x : Str) : x ∈ nm f ↔ x ∈ f.own ∨ x ∈ nms f.kids := by
  cases f <;> simp [nm, own, kids, nms]
theorem mem_frs : ∀ {fs : List Fm} {x : Str}, x ∈ frs fs ↔ ∃ f ∈ fs, x ∈ fr f
  | [], x => by simp [frs]
  | f :: fs, x => by
    rw [frs, List.mem_append, mem_frs]
    simp only [List.mem_cons, exists_eq_or_imp]
theorem nm_len (f : Fm) : (nm f).length = f.own.length + (nms f.kids).length := by
  cases f <;> simp [nm, own, kids, nms] <;> omega
theorem nms_len_mem : ∀ {fs : List Fm} {f : Fm}, f ∈ fs → (nm f).length ≤ (nms fs).length
  | g :: fs, f, h => by
    rw [nms, List.length_append]
    rcases List.mem_cons.mp h with e | e
    · rw [e]; omega
    · have := nms_len_mem e; omega
mutual
theorem fr_nm : ∀ (f : Fm), (fr f).length ≤ (nm f).length
  | .rel _ xs => Nat.le_refl _
  | .same _ _ => Nat.le_refl _
  | .neg f => fr_nm f
  | .con _ fs => frs_nms fs
  | .qu _ x f => by
    rw [fr, nm, List.length_cons]
    exact Nat.le_succ_of_le (Nat.le_trans (List.length_filter_le _ _) (fr_nm f))
theorem frs_nms : ∀ (fs : List Fm), (frs fs).length ≤ (nms fs).length
  | [] => Nat.le_refl _
  | f :: fs => by
    rw [frs, nms, List.length_append, List.length_append]
    exact Nat.add_le_add (fr_nm f) (frs_nms fs)
end
theorem dps_mem : ∀ {fs : List Fm} {f : Fm}, f ∈ fs → 1 + dp f ≤ dps fs
  | g :: fs, f, h => by
    rw [dps]
    rcases List.mem_cons.mp h with e | e
    · rw [e]; exact Nat.le_max_left _ _
    · exact Nat.le_trans (dps_mem e) (Nat.le_max_right _ _)
theorem dps_le : ∀ {fs : List Fm} {n : Nat}, (∀ f ∈ fs, 1 + dp f ≤ n) → dps fs ≤ n
  | [], n, _ => Nat.zero_le _
  | f :: fs, n, h => by
    rw [dps]
    exact Nat.max_le.mpr ⟨h f List.mem_cons_self, dps_le fun g hg => h g (List.mem_cons_of_mem _ hg)⟩
theorem dp_kids {f g : Fm} (h : g ∈ f.kids) : dp g < dp f := by
  cases f with
  | rel n xs => cases h
  | same x y => cases h
  | neg k => rw [List.mem_singleton.mp h, dp]; omega
  | con b fs =>
    have q := dps_mem (fs := fs) h
    rw [dp]; omega
  | qu b x k => rw [List.mem_singleton.mp h, dp]; omega
theorem rks_mem : ∀ {fs : List Fm} {f : Fm}, f ∈ fs → rk f ≤ rks fs
  | g :: fs, f, h => by
    rw [rks]
    rcases List.mem_cons.mp h with e | e
    · rw [e]; exact Nat.le_max_left _ _
    · exact Nat.le_trans (rks_mem e) (Nat.le_max_right _ _)
theorem rks_is : ∀ {fs : List Fm} {m : Nat}, (∀ f ∈ fs, rk f ≤ m) → (m = 0 ∨ ∃ f ∈ fs, rk f = m) → rks fs = m
  | [], m, _, h => by
    rcases h with e | ⟨f, hf, _⟩
    · rw [e]; rfl
    · cases hf
  | f :: fs, m, h, k => by
    have up : rks (f :: fs) ≤ m := by
      rw [rks]
      refine Nat.max_le.mpr ⟨h f List.mem_cons_self, ?_⟩
      have : ∀ gs : List Fm, (∀ g ∈ gs, rk g ≤ m) → rks gs ≤ m := fun gs => by
        induction gs with
        | nil => intro _; exact Nat.zero_le _
        | cons g gs ih => intro hh; rw [rks]; exact Nat.max_le.mpr ⟨hh g List.mem_cons_self, ih fun a ha => hh a (List.mem_cons_of_mem _ ha)⟩
      exact this fs fun g hg => h g (List.mem_cons_of_mem _ hg)
    refine Nat.le_antisymm up ?_
    rcases k with e | ⟨g, hg, e⟩
    · omega
    · rw [← e]; exact rks_mem hg
end Fm

/-! ### in the heap -/
def cn (b : Bool) : Str := if b = true then "and" else "or"
def qn (b : Bool) : Str := if b = true then "some" else "all"
mutual
def FmAt (K : PySem.W.Frag) (H : Hp) : V → Fm → Prop
  | v, .rel n xs => ∃ a t, v = .ref a ∧ SqT K H a [.str "rel", .str n, .ref t] ∧ SqT K H t (xs.map V.str)
  | v, .same x y => ∃ a, v = .ref a ∧ SqT K H a [.str "same", .str x, .str y]
  | v, .neg f => ∃ a u, v = .ref a ∧ SqT K H a [.str "not", u] ∧ FmAt K H u f
  | v, .con b fs => ∃ a t us, v = .ref a ∧ SqT K H a [.str (cn b), .ref t] ∧ SqT K H t us ∧ FmsAt K H us fs
  | v, .qu b x f => ∃ a u, v = .ref a ∧ SqT K H a [.str (qn b), .str x, u] ∧ FmAt K H u f
def FmsAt (K : PySem.W.Frag) (H : Hp) : List V → List Fm → Prop
  | us, [] => us = []
  | us, f :: fs => ∃ u r, us = u :: r ∧ FmAt K H u f ∧ FmsAt K H r fs
end
/-- the tuples stay -/
def Tk (K : PySem.W.Frag) (H H' : Hp) : Prop := ∀ a xs, SqT K H a xs → SqT K H' a xs
theorem Tk.refl {K : PySem.W.Frag} (H : Hp) : Tk K H H := fun _ _ h => h
theorem Tk.trans {K : PySem.W.Frag} {H H1 H2 : Hp} (a : Tk K H H1) (b : Tk K H1 H2) : Tk K H H2 := fun p xs h => b p xs (a p xs h)
theorem Tk.of_same {K : PySem.W.Frag} {H H' : Hp} (e : Same H H') : Tk K H H' := fun a xs h => by
  rcases h with (h | ⟨o, h⟩) | h
  · exact .inl (.inl (e _ _ h))
  · exact .inl (.inr ⟨o, e _ _ h⟩)
  · exact .inr h
mutual
theorem FmAt.tk {K : PySem.W.Frag} {H H' : Hp} (k : Tk K H H') : ∀ {v : V} {f : Fm}, FmAt K H v f → FmAt K H' v f
  | v, .rel n xs, h => by
    rw [FmAt] at h ⊢
    obtain ⟨a, t, e, h1, h2⟩ := h
    exact ⟨a, t, e, k _ _ h1, k _ _ h2⟩
  | v, .same x y, h => by
    rw [FmAt] at h ⊢
    obtain ⟨a, e, h1⟩ := h
    exact ⟨a, e, k _ _ h1⟩
  | v, .neg f, h => by
    rw [FmAt] at h ⊢
    obtain ⟨a, u, e, h1, h2⟩ := h
    exact ⟨a, u, e, k _ _ h1, FmAt.tk k h2⟩
  | v, .con b fs, h => by
    rw [FmAt] at h ⊢
    obtain ⟨a, t, us, e, h1, h2, h3⟩ := h
    exact ⟨a, t, us, e, k _ _ h1, k _ _ h2, FmsAt.tk k h3⟩
  | v, .qu b x f, h => by
    rw [FmAt] at h ⊢
    obtain ⟨a, u, e, h1, h2⟩ := h
    exact ⟨a, u, e, k _ _ h1, FmAt.tk k h2⟩
theorem FmsAt.tk {K : PySem.W.Frag} {H H' : Hp} (k : Tk K H H') : ∀ {us : List V} {fs : List Fm}, FmsAt K H us fs → FmsAt K H' us fs
  | us, [], h => by
    rw [FmsAt] at h ⊢
    exact h
  | us, f :: fs, h => by
    rw [FmsAt] at h ⊢
    obtain ⟨u, r, e, h1, h2⟩ := h
    exact ⟨u, r, e, FmAt.tk k h1, FmsAt.tk k h2⟩
end
theorem FmsAt.nil {K : PySem.W.Frag} {H : Hp} : FmsAt K H [] [] := by rw [FmsAt]
theorem FmsAt.cons {K : PySem.W.Frag} {H : Hp} {u : V} {us : List V} {f : Fm} {fs : List Fm} (h : FmAt K H u f) (t : FmsAt K H us fs) : FmsAt K H (u :: us) (f :: fs) := by
  rw [FmsAt]
  exact ⟨u, us, rfl, h, t⟩
theorem FmsAt.uncons {K : PySem.W.Frag} {H : Hp} {us : List V} {f : Fm} {fs : List Fm} (h : FmsAt K H us (f :: fs)) : ∃ u r, us = u :: r ∧ FmAt K H u f ∧ FmsAt K H r fs := by
  rw [FmsAt] at h
  exact h
theorem FmsAt.unnil {K : PySem.W.Frag} {H : Hp} {us : List V} (h : FmsAt K H us []) : us = [] := by
  rw [FmsAt] at h
  exact h
theorem FmsAt.length {K : PySem.W.Frag} {H : Hp} : ∀ {us : List V} {fs : List Fm}, FmsAt K H us fs → us.length = fs.length
  | us, [], h => by rw [h.unnil]; rfl
  | us, f :: fs, h => by
    obtain ⟨u, r, rfl, _, h2⟩ := h.uncons
    exact congrArg Nat.succ h2.length
theorem FmsAt.append {K : PySem.W.Frag} {H : Hp} {ws : List V} {gs : List Fm} (k : FmsAt K H ws gs) : ∀ {us : List V} {fs : List Fm}, FmsAt K H us fs → FmsAt K H (us ++ ws) (fs ++ gs)
  | us, [], h => by rw [h.unnil]; exact k
  | us, f :: fs, h => by
    obtain ⟨u, r, rfl, h1, h2⟩ := h.uncons
    exact .cons h1 (FmsAt.append k h2)
theorem FmsAt.get {K : PySem.W.Frag} {H : Hp} : ∀ {us : List V} {fs : List Fm}, FmsAt K H us fs → ∀ {i : Nat} {u : V}, us[i]? = some u → ∃ f, fs[i]? = some f ∧ FmAt K H u f
  | us, [], h, i, u, e => by rw [h.unnil] at e; simp at e
  | us, f :: fs, h, i, u, e => by
    obtain ⟨v, r, rfl, h1, h2⟩ := h.uncons
    cases i with
    | zero =>
      have e' : v = u := Option.some.inj e
      exact ⟨f, rfl, e' ▸ h1⟩
    | succ i => exact h2.get (i := i) e
/-- the last of a list -/
theorem FmsAt.unsnoc {K : PySem.W.Frag} {H : Hp} {us : List V} {fs : List Fm} (h : FmsAt K H us fs) (n : fs ≠ []) : ∃ vs u gs f, us = vs ++ [u] ∧ fs = gs ++ [f] ∧ FmsAt K H vs gs ∧ FmAt K H u f := by
  induction fs generalizing us with
  | nil => exact absurd rfl n
  | cons f fs ih =>
    obtain ⟨u, r, rfl, h1, h2⟩ := h.uncons
    cases fs with
    | nil =>
      rw [h2.unnil]
      exact ⟨[], u, [], f, rfl, rfl, .nil, h1⟩
    | cons g fs =>
      obtain ⟨vs, w, gs, k, e1, e2, h3, h4⟩ := ih h2 (by simp)
      exact ⟨u :: vs, w, f :: gs, k, by rw [e1]; rfl, by rw [e2]; rfl, .cons h1 h3, h4⟩
/-- a new object, and a list written, leave the tuples -/
theorem same_new {H : Hp} {p : Addr} (h : H p = none) (o : HO) : Same H (upd H p o) := fun b u q => by rw [upd_ne (ne_of_none q h)]; exact q
theorem tk_new {K : PySem.W.Frag} {H : Hp} {p : Addr} (h : H p = none) (o : HO) : Tk K H (upd H p o) := .of_same (same_new h o)
theorem tk_lst {K : PySem.W.Frag} {H : Hp} {p : Addr} {xs : List V} (h : H p = some (.lst xs)) (o : HO) : Tk K H (upd H p o) := fun a ys q => by
  rcases q with (q | ⟨u, q⟩) | q
  · exact .inl (.inl (by rw [upd_ne (ne_of q h (by intro z; cases z))]; exact q))
  · exact .inl (.inr ⟨u, by rw [upd_ne (ne_of q h (by intro z; cases z))]; exact q⟩)
  · exact .inr q
end Fo

set_option Elab.async false
set_option linter.all false
set_option maxRecDepth 100000
set_option maxHeartbeats 4000000
/-! Lists item by item; formulas turned, and what is true of them. -/
namespace Fo
open PySem L2
inductive All2 {α β : Type} (R : α → β → Prop) : List α → List β → Prop where
  | nil : All2 R [] []
  | cons {a : α} {b : β} {as : List α} {bs : List β} : R a b → All2 R as bs → All2 R (a :: as) (b :: bs)
namespace All2
variable {α β : Type} {R S : α → β → Prop}
theorem length {as : List α} {bs : List β} (h : All2 R as bs) : as.length = bs.length := by
  induction h with
  | nil => rfl
  | cons _ _ ih => exact congrArg Nat.succ ih
theorem imp {as : List α} {bs : List β} (h : All2 R as bs) (k : ∀ a b, R a b → S a b) : All2 S as bs := by
  induction h with
  | nil => exact .nil
  | cons r _ ih => exact .cons (k _ _ r) ih
theorem append {as cs : List α} {bs ds : List β} (h : All2 R as bs) (k : All2 R cs ds) : All2 R (as ++ cs) (bs ++ ds) := by
  induction h with
  | nil => exact k
  | cons r _ ih => exact .cons r ih
theorem snoc {as : List α} {bs : List β} {a : α} {b : β} (h : All2 R as bs) (r : R a b) : All2 R (as ++ [a]) (bs ++ [b]) := h.append (.cons r .nil)
theorem unsnoc {as : List α} {bs : List β} (h : All2 R as bs) (n : as ≠ []) : ∃ cs a ds b, as = cs ++ [a] ∧ bs = ds ++ [b] ∧ All2 R cs ds ∧ R a b := by
  induction h with
  | nil => exact absurd rfl n
  | @cons a b as bs r t ih =>
    cases t with
    | nil => exact ⟨[], a, [], b, rfl, rfl, .nil, r⟩
    | @cons a' b' as bs r' t' =>
      obtain ⟨cs, x, ds, y, e1, e2, h1, h2⟩ := ih (by simp)
      exact ⟨a :: cs, x, b :: ds, y, by rw [e1]; rfl, by rw [e2]; rfl, .cons r h1, h2⟩
theorem get {as : List α} {bs : List β} (h : All2 R as bs) : ∀ {i : Nat} {a : α}, as[i]? = some a → ∃ b, bs[i]? = some b ∧ R a b := by
  induction h with
  | nil => intro i a e; simp at e
  | @cons x y as bs r t ih =>
    intro i a e
    cases i with
    | zero => exact ⟨y, rfl, (Option.some.inj e) ▸ r⟩
    | succ i => exact ih (i := i) e
end All2
theorem Fm.cts_single (f : Fm) : Fm.cts [f] = f.ct := by simp [Fm.cts]
theorem Fm.nms_single (f : Fm) : Fm.nms [f] = f.nm := by simp [Fm.nms]
/-- the last item is popped -/
theorem drop_last {α : Type} (xs : List α) (x : α) : (xs ++ [x]).dropLast = xs := by simp
theorem at_last {α : Type} (xs : List α) (x : α) : (xs ++ [x])[(xs ++ [x]).length - 1]? = some x := by simp
theorem over_list {K : PySem.W.Frag} {a : Addr} {xs : List V} {H0 : Hp} {Qd : Hp → Prop} {step : V → Hp → (Hp → Prop) → Prop} (Pv : Nat → Hp → Prop) (h0 : Pv 0 H0) (hl : ∀ i H, i ≤ xs.length → Pv i H → SqL K H a xs)
    (hs : ∀ i x H, xs[i]? = some x → Pv i H → step x H (Pv (i + 1))) (hd : ∀ H, Pv xs.length H → Qd H) :
    ∃ W : Nat → Nat → Hp → Prop, (∃ m, W 0 m H0) ∧ ∀ i m H, W i m H → ((Itl K a).stop i H ∧ Qd H) ∨ ((Itl K a).go i H ∧ ∃ Nx : Hp → Prop, (∀ H', Nx H' → ∃ m', m' < m ∧ W (i + 1) m' H') ∧ ∀ x H', (Itl K a).yld i H x H' → step x H' Nx) := by
  refine ⟨fun i m H => m = xs.length - i ∧ i ≤ xs.length ∧ Pv i H, ⟨_, rfl, Nat.zero_le _, h0⟩, ?_⟩
  rintro i m H ⟨rfl, hi, p⟩
  rcases Nat.lt_or_ge i xs.length with lt | ge
  · refine .inr ⟨⟨xs, xs[i], hl i H hi p, List.getElem?_eq_getElem lt⟩, Pv (i + 1), fun H' p' => ⟨_, by omega, rfl, lt, p'⟩, fun x H' y => ?_⟩
    obtain ⟨rfl, y⟩ := y
    exact hs i x _ (y xs (hl i _ hi p)) p
  · obtain rfl : i = xs.length := by omega
    exact .inl ⟨⟨xs, hl _ H hi p, Nat.le_refl _⟩, hd H p⟩
theorem over_tup {K : PySem.W.Frag} {a : Addr} {xs : List V} {H0 : Hp} {Qd : Hp → Prop} {step : V → Hp → (Hp → Prop) → Prop} (Pv : Nat → Hp → Prop) (h0 : Pv 0 H0) (hl : ∀ i H, i ≤ xs.length → Pv i H → SqT K H a xs)
    (hs : ∀ i x H, xs[i]? = some x → Pv i H → step x H (Pv (i + 1))) (hd : ∀ H, Pv xs.length H → Qd H) :
    ∃ W : Nat → Nat → Hp → Prop, (∃ m, W 0 m H0) ∧ ∀ i m H, W i m H → ((Itt K a).stop i H ∧ Qd H) ∨ ((Itt K a).go i H ∧ ∃ Nx : Hp → Prop, (∀ H', Nx H' → ∃ m', m' < m ∧ W (i + 1) m' H') ∧ ∀ x H', (Itt K a).yld i H x H' → step x H' Nx) := by
  refine ⟨fun i m H => m = xs.length - i ∧ i ≤ xs.length ∧ Pv i H, ⟨_, rfl, Nat.zero_le _, h0⟩, ?_⟩
  rintro i m H ⟨rfl, hi, p⟩
  rcases Nat.lt_or_ge i xs.length with lt | ge
  · refine .inr ⟨⟨xs, xs[i], hl i H hi p, List.getElem?_eq_getElem lt⟩, Pv (i + 1), fun H' p' => ⟨_, by omega, rfl, lt, p'⟩, fun x H' y => ?_⟩
    obtain ⟨rfl, y⟩ := y
    exact hs i x _ (y xs (hl i _ hi p)) p
  · obtain rfl : i = xs.length := by omega
    exact .inl ⟨⟨xs, hl _ H hi p, Nat.le_refl _⟩, hd H p⟩
theorem inV_strs (x : Str) : ∀ (bs : List Str), inV (.str x) (bs.map V.str) = decide (x ∈ bs)
  | [] => by simp [inV]
  | b :: bs => by
    have ih := inV_strs x bs
    unfold inV at ih ⊢
    rw [List.map_cons, List.any_cons, ih]
    show ((b == x) || decide (x ∈ bs)) = decide (x ∈ b :: bs)
    by_cases e : b = x
    · subst e; simp
    · have e' : ¬ x = b := fun q => e q.symm
      simp [e, e']
theorem flat_strs : ∀ (bs : List Str), (bs.map V.str).all flatV = true
  | [] => rfl
  | b :: bs => by rw [List.map_cons, List.all_cons, flat_strs bs]; rfl
namespace Fm
/-- parts of these -/
def pct {α : Type} : List (Fm × α) → Nat
  | [] => 0
  | p :: ps => p.1.ct + pct ps
theorem pct_append {α : Type} : ∀ (a b : List (Fm × α)), pct (a ++ b) = pct a + pct b
  | [], b => by simp [pct]
  | p :: a, b => by rw [List.cons_append, pct, pct, pct_append a b]; omega
theorem pct_map {α : Type} (d : α) : ∀ (fs : List Fm), pct (fs.map fun k => (k, d)) = cts fs
  | [] => rfl
  | f :: fs => by rw [List.map_cons, pct, cts, pct_map d fs]
theorem len_pct {α : Type} : ∀ (ps : List (Fm × α)), ps.length ≤ pct ps
  | [] => Nat.le_refl _
  | p :: ps => by rw [pct, List.length_cons]; have := len_pct ps; have := ct_pos p.1; omega
end Fm

theorem cts_take {fs : List Fm} {i : Nat} {g : Fm} (h : fs[i]? = some g) : Fm.cts (fs.take (i + 1)) = Fm.cts (fs.take i) + g.ct := by
  rw [List.take_succ, h]
  show Fm.cts (fs.take i ++ [g]) = _
  rw [Fm.cts_append, Fm.cts_single]
namespace Fm
mutual
def tr : Fm → Bool → Fm
  | .rel n xs, d => if d = true then .neg (.rel n xs) else .rel n xs
  | .same x y, d => if d = true then .neg (.same x y) else .same x y
  | .neg f, d => tr f (!d)
  | .con b fs, d => .con (b != d) (trs fs d)
  | .qu b x f, d => .qu (b != d) x (tr f d)
def trs : List Fm → Bool → List Fm
  | [], _ => []
  | f :: fs, d => tr f d :: trs fs d
end
def bel (f : Fm) (d : Bool) : Bool := match f with | .neg _ => !d | _ => d
mutual
def pre : Fm → Bool → List (Fm × Bool)
  | .rel n xs, d => [(.rel n xs, d)]
  | .same x y, d => [(.same x y, d)]
  | .neg f, d => (.neg f, d) :: pre f (!d)
  | .con b fs, d => (.con b fs, d) :: pres fs d
  | .qu b x f, d => (.qu b x f, d) :: pre f d
def pres : List Fm → Bool → List (Fm × Bool)
  | [], _ => []
  | f :: fs, d => pre f d ++ pres fs d
end
def flat (ps : List (Fm × Bool)) : List (Fm × Bool) := (ps.map fun p => pre p.1 p.2).flatten
theorem flat_nil : flat [] = [] := rfl
theorem flat_cons (p : Fm × Bool) (ps : List (Fm × Bool)) : flat (p :: ps) = pre p.1 p.2 ++ flat ps := rfl
theorem flat_append (a b : List (Fm × Bool)) : flat (a ++ b) = flat a ++ flat b := by
  unfold flat
  rw [List.map_append, List.flatten_append]
theorem pres_flat (d : Bool) : ∀ fs : List Fm, pres fs d = flat (fs.map fun k => (k, d))
  | [] => rfl
  | f :: fs => by rw [pres, pres_flat d fs]; rfl
theorem pre_kids (f : Fm) (d : Bool) : pre f d = (f, d) :: flat (f.kids.map fun k => (k, bel f d)) := by
  cases f with
  | rel n xs => rfl
  | same x y => rfl
  | neg f => rw [pre]; show _ = (Fm.neg f, d) :: (pre f (!d) ++ []); rw [List.append_nil]
  | con b fs => rw [pre, pres_flat]; rfl
  | qu b x f => rw [pre]; show _ = (Fm.qu b x f, d) :: (pre f d ++ []); rw [List.append_nil]
theorem flat_head (p : Fm × Bool) (ps : List (Fm × Bool)) : flat (p :: ps) = p :: flat ((p.1.kids.map fun k => (k, bel p.1 p.2)) ++ ps) := by
  rw [flat_cons, pre_kids, flat_append]
  rfl
theorem pct_kids (p : Fm × Bool) : p.1.ct = 1 + pct (p.1.kids.map fun k => (k, bel p.1 p.2)) := by rw [pct_map, ct_kids]
/-- behind a formula stand its parts -/
theorem flat_mid (g : Fm) (d : Bool) (X : List (Fm × Bool)) : ∀ (n : Nat) (A ps : List (Fm × Bool)), pct ps ≤ n → flat ps = A ++ (g, d) :: X → ∃ Y, X = flat (g.kids.map fun k => (k, bel g d)) ++ Y
  | n, A, [], _, h => by simp [flat] at h
  | 0, A, p :: ps, hn, _ => by
    have := ct_pos p.1
    rw [pct] at hn
    omega
  | n + 1, A, p :: ps, hn, h => by
    rw [flat_head] at h
    have ck := pct_kids p
    rw [pct] at hn
    cases A with
    | nil =>
      rw [List.nil_append] at h
      injection h with e1 e2
      subst e1
      exact ⟨flat ps, by rw [← e2, flat_append]⟩
    | cons a A =>
      rw [List.cons_append] at h
      injection h with e1 e2
      exact flat_mid g d X n A _ (by rw [pct_append]; omega) e2
theorem flat_cut : ∀ (ks ts Y : List (Fm × Bool)), flat ts = flat ks ++ Y → ∃ ts2, ts = ks ++ ts2 ∧ flat ts2 = Y
  | [], ts, Y, h => ⟨ts, rfl, h⟩
  | k :: ks, [], Y, h => by rw [flat_head] at h; simp [flat] at h
  | k :: ks, t :: ts, Y, h => by
    have h' := h
    rw [flat_head, flat_head, List.cons_append] at h
    injection h with e1 e2
    subst e1
    rw [flat_cons, flat_cons, List.append_assoc] at h'
    obtain ⟨ts2, e3, e4⟩ := flat_cut ks ts Y (List.append_cancel_left h')
    exact ⟨ts2, by rw [e3]; rfl, e4⟩
mutual
theorem pre_len : ∀ (f : Fm) (d : Bool), (pre f d).length = f.ct
  | .rel n xs, d => rfl
  | .same x y, d => rfl
  | .neg f, d => by rw [pre, List.length_cons, pre_len f, ct]; omega
  | .con b fs, d => by rw [pre, List.length_cons, pres_len fs, ct]; omega
  | .qu b x f, d => by rw [pre, List.length_cons, pre_len f, ct]; omega
theorem pres_len : ∀ (fs : List Fm) (d : Bool), (pres fs d).length = cts fs
  | [], d => rfl
  | f :: fs, d => by rw [pres, List.length_append, pre_len f, pres_len fs, cts]
end
theorem trs_map (d : Bool) : ∀ fs : List Fm, trs fs d = fs.map fun k => tr k d
  | [] => rfl
  | f :: fs => by rw [trs, trs_map d fs]; rfl
/-- a formula turned, from its parts turned -/
def one (g : Fm) (d : Bool) (rs : List Fm) : Option Fm := match g, rs with
  | .rel n xs, _ => some (if d = true then .neg (.rel n xs) else .rel n xs)
  | .same x y, _ => some (if d = true then .neg (.same x y) else .same x y)
  | .neg _, [r] => some r
  | .con b _, rs => some (.con (b != d) rs)
  | .qu b x _, [r] => some (.qu (b != d) x r)
  | _, _ => none
theorem one_tr (g : Fm) (d : Bool) : one g d (g.kids.map fun k => tr k (bel g d)) = some (tr g d) := by
  cases g with
  | rel n xs => rfl
  | same x y => rfl
  | neg f => rfl
  | con b fs => rw [tr, trs_map]; rfl
  | qu b x f => rfl
/-- truth -/
def rows : List (Str × List (List Int)) → Str → Option (List (List Int))
  | [], _ => none
  | r :: rs, n => if r.1 = n then some r.2 else rows rs n
def holds (rs : List (Str × List (List Int))) (n : Str) (t : List Int) : Bool := match rows rs n with | none => false | some ts => (ts.map fun z : List Int => PyData.tuple (z.map PyData.int)).any fun z => PyData.eqv z (.tuple (t.map PyData.int))
def set1 (e : Str → Int) (x : Str) (i : Int) : Str → Int := fun y => if y = x then i else e y
mutual
def tv (m : Nat) (rs : List (Str × List (List Int))) : Fm → (Str → Int) → Bool
  | .rel n xs, e => holds rs n (xs.map e)
  | .same x y, e => decide (e x = e y)
  | .neg f, e => !tv m rs f e
  | .con b fs, e => tvs m rs b fs e
  | .qu b x f, e => if (List.range m).any (fun i => tv m rs f (set1 e x i) != !b) = true then b else !b
def tvs (m : Nat) (rs : List (Str × List (List Int))) (b : Bool) : List Fm → (Str → Int) → Bool
  | [], _ => b
  | f :: fs, e => if (tv m rs f e != b) = true then !b else tvs m rs b fs e
end
mutual
theorem tv_tr (m : Nat) (rs : List (Str × List (List Int))) : ∀ (f : Fm) (d : Bool) (e : Str → Int), tv m rs (tr f d) e = (tv m rs f e != d)
  | .rel n xs, d, e => by cases d <;> simp [tr, tv]
  | .same x y, d, e => by cases d <;> simp [tr, tv]
  | .neg f, d, e => by rw [tr, tv_tr m rs f, tv]; cases tv m rs f e <;> cases d <;> rfl
  | .con b fs, d, e => by rw [tr, tv, tv]; exact tvs_tr m rs b fs d e
  | .qu b x f, d, e => by
    rw [tr, tv, tv]
    have z : (fun i : Nat => tv m rs (tr f d) (set1 e x i) != !(b != d)) = (fun i : Nat => tv m rs f (set1 e x i) != !b) := by
      funext i
      rw [tv_tr m rs f]
      cases tv m rs f (set1 e x i) <;> cases b <;> cases d <;> rfl
    rw [z]
    split <;> cases b <;> cases d <;> rfl
theorem tvs_tr (m : Nat) (rs : List (Str × List (List Int))) (b : Bool) : ∀ (fs : List Fm) (d : Bool) (e : Str → Int), tvs m rs (b != d) (trs fs d) e = (tvs m rs b fs e != d)
  | [], d, e => by rw [trs, tvs, tvs]
  | f :: fs, d, e => by
    rw [trs, tvs, tvs, tv_tr m rs f, tvs_tr m rs b fs]
    cases tv m rs f e <;> cases b <;> cases d <;> simp
end
mutual
def bd : Fm → Nat
  | .rel _ _ => 0
  | .same _ _ => 0
  | .neg f => bd f
  | .con _ fs => bds fs
  | .qu _ _ f => 1 + bd f
def bds : List Fm → Nat
  | [] => 0
  | f :: fs => bd f + bds fs
end
mutual
theorem bd_tr : ∀ (f : Fm) (d : Bool), bd (tr f d) = bd f
  | .rel n xs, d => by cases d <;> rfl
  | .same x y, d => by cases d <;> rfl
  | .neg f, d => by rw [tr, bd_tr f, bd]
  | .con b fs, d => by rw [tr, bd, bd, bds_tr fs]
  | .qu b x f, d => by rw [tr, bd, bd, bd_tr f]
theorem bds_tr : ∀ (fs : List Fm) (d : Bool), bds (trs fs d) = bds fs
  | [], d => rfl
  | f :: fs, d => by rw [trs, bds, bds, bd_tr f, bds_tr fs]
end
theorem bds_append : ∀ (a b : List Fm), bds (a ++ b) = bds a + bds b
  | [], b => by simp [bds]
  | f :: a, b => by rw [List.cons_append, bds, bds, bds_append a b]; omega
mutual
def nnf : Fm → Bool
  | .rel _ _ => true
  | .same _ _ => true
  | .neg (.rel _ _) => true
  | .neg (.same _ _) => true
  | .neg _ => false
  | .con _ fs => nnfs fs
  | .qu _ _ f => nnf f
def nnfs : List Fm → Bool
  | [] => true
  | f :: fs => nnf f && nnfs fs
end
mutual
theorem nnf_tr : ∀ (f : Fm) (d : Bool), nnf (tr f d) = true
  | .rel n xs, d => by cases d <;> rfl
  | .same x y, d => by cases d <;> rfl
  | .neg f, d => by rw [tr]; exact nnf_tr f _
  | .con b fs, d => by rw [tr, nnf]; exact nnfs_tr fs d
  | .qu b x f, d => by rw [tr, nnf]; exact nnf_tr f d
theorem nnfs_tr : ∀ (fs : List Fm) (d : Bool), nnfs (trs fs d) = true
  | [], d => rfl
  | f :: fs, d => by rw [trs, nnfs, nnf_tr f, nnfs_tr fs]; rfl
end
theorem nnfs_mem : ∀ {fs : List Fm} {f : Fm}, nnfs fs = true → f ∈ fs → nnf f = true
  | g :: fs, f, h, hm => by
    rw [nnfs, Bool.and_eq_true] at h
    rcases List.mem_cons.mp hm with e | e
    · rw [e]; exact h.1
    · exact nnfs_mem h.2 e
mutual
theorem fr_tr : ∀ (f : Fm) (d : Bool), fr (tr f d) = fr f
  | .rel n xs, d => by cases d <;> rfl
  | .same x y, d => by cases d <;> rfl
  | .neg f, d => by rw [tr, fr_tr f, fr]
  | .con b fs, d => by rw [tr, fr, fr, frs_tr fs]
  | .qu b x f, d => by rw [tr, fr, fr, fr_tr f]
theorem frs_tr : ∀ (fs : List Fm) (d : Bool), frs (trs fs d) = frs fs
  | [], d => rfl
  | f :: fs, d => by rw [trs, frs, frs, fr_tr f, frs_tr fs]
end
mutual
theorem nm_tr : ∀ (f : Fm) (d : Bool), nm (tr f d) = nm f
  | .rel n xs, d => by cases d <;> rfl
  | .same x y, d => by cases d <;> rfl
  | .neg f, d => by rw [tr, nm_tr f, nm]
  | .con b fs, d => by rw [tr, nm, nm, nms_tr fs]
  | .qu b x f, d => by rw [tr, nm, nm, nm_tr f]
theorem nms_tr : ∀ (fs : List Fm) (d : Bool), nms (trs fs d) = nms fs
  | [], d => rfl
  | f :: fs, d => by rw [trs, nms, nms, nm_tr f, nms_tr fs]
end
mutual
theorem ct_tr : ∀ (f : Fm) (d : Bool), ct (tr f d) ≤ 2 * ct f
  | .rel n xs, d => by cases d <;> simp [tr, ct]
  | .same x y, d => by cases d <;> simp [tr, ct]
  | .neg f, d => by rw [tr, ct]; have := ct_tr f (!d); omega
  | .con b fs, d => by rw [tr, ct, ct]; have := cts_tr fs d; omega
  | .qu b x f, d => by rw [tr, ct, ct]; have := ct_tr f d; omega
theorem cts_tr : ∀ (fs : List Fm) (d : Bool), cts (trs fs d) ≤ 2 * cts fs
  | [], d => Nat.le_refl _
  | f :: fs, d => by rw [trs, cts, cts]; have := ct_tr f d; have := cts_tr fs d; omega
end
mutual
theorem dp_tr : ∀ (f : Fm) (d : Bool), dp (tr f d) ≤ dp f + 1
  | .rel n xs, d => by cases d <;> simp [tr, dp]
  | .same x y, d => by cases d <;> simp [tr, dp]
  | .neg f, d => by rw [tr, dp]; have := dp_tr f (!d); omega
  | .con b fs, d => by rw [tr, dp, dp]; exact dps_tr fs d
  | .qu b x f, d => by rw [tr, dp, dp]; have := dp_tr f d; omega
theorem dps_tr : ∀ (fs : List Fm) (d : Bool), dps (trs fs d) ≤ dps fs + 1
  | [], d => Nat.zero_le _
  | f :: fs, d => by
    rw [trs, dps, dps]
    have := dp_tr f d
    have := dps_tr fs d
    omega
end
end Fm
end Fo

set_option Elab.async false
set_option linter.all false
set_option maxRecDepth 100000
set_option maxHeartbeats 4000000
/-! Formulas from left to right, each with what is handed down to it. -/
namespace Fo
open PySem L2
namespace Hd
open Fm
variable {β : Type}
mutual
def hd (st : Fm → β → β) : Fm → β → List (Fm × β)
  | .rel n xs, b => [(.rel n xs, b)]
  | .same x y, b => [(.same x y, b)]
  | .neg f, b => (.neg f, b) :: hd st f (st (.neg f) b)
  | .con c fs, b => (.con c fs, b) :: hds st fs (st (.con c fs) b)
  | .qu c x f, b => (.qu c x f, b) :: hd st f (st (.qu c x f) b)
def hds (st : Fm → β → β) : List Fm → β → List (Fm × β)
  | [], _ => []
  | f :: fs, b => hd st f b ++ hds st fs b
end
variable {st : Fm → β → β}
def flat (st : Fm → β → β) (ps : List (Fm × β)) : List (Fm × β) := (ps.map fun p => hd st p.1 p.2).flatten
theorem flat_nil : flat st [] = [] := rfl
theorem flat_cons (p : Fm × β) (ps : List (Fm × β)) : flat st (p :: ps) = hd st p.1 p.2 ++ flat st ps := rfl
theorem flat_append (a b : List (Fm × β)) : flat st (a ++ b) = flat st a ++ flat st b := by
  unfold flat
  rw [List.map_append, List.flatten_append]
theorem hds_flat (d : β) : ∀ fs : List Fm, hds st fs d = flat st (fs.map fun k => (k, d))
  | [] => by rw [hds]; rfl
  | f :: fs => by rw [hds, hds_flat d fs]; rfl
theorem hd_kids (f : Fm) (d : β) : hd st f d = (f, d) :: flat st (f.kids.map fun k => (k, st f d)) := by
  cases f with
  | rel n xs => rw [hd]; rfl
  | same x y => rw [hd]; rfl
  | neg f => rw [hd]; show _ = (Fm.neg f, d) :: (hd st f (st (.neg f) d) ++ []); rw [List.append_nil]
  | con b fs => rw [hd, hds_flat]; rfl
  | qu b x f => rw [hd]; show _ = (Fm.qu b x f, d) :: (hd st f (st (.qu b x f) d) ++ []); rw [List.append_nil]
theorem flat_head (p : Fm × β) (ps : List (Fm × β)) : flat st (p :: ps) = p :: flat st ((p.1.kids.map fun k => (k, st p.1 p.2)) ++ ps) := by
  rw [flat_cons, hd_kids, flat_append]
  rfl
theorem pct_kids (p : Fm × β) : p.1.ct = 1 + pct (p.1.kids.map fun k => (k, st p.1 p.2)) := by rw [pct_map, ct_kids]
theorem flat_mid (g : Fm) (d : β) (X : List (Fm × β)) : ∀ (n : Nat) (A ps : List (Fm × β)), pct ps ≤ n → flat st ps = A ++ (g, d) :: X → ∃ Y, X = flat st (g.kids.map fun k => (k, st g d)) ++ Y
  | n, A, [], _, h => by simp [flat] at h
  | 0, A, p :: ps, hn, _ => by
    have := ct_pos p.1
    rw [pct] at hn
    omega
  | n + 1, A, p :: ps, hn, h => by
    rw [flat_head] at h
    have ck := pct_kids (st := st) p
    rw [pct] at hn
    cases A with
    | nil =>
      rw [List.nil_append] at h
      injection h with e1 e2
      subst e1
      exact ⟨flat st ps, by rw [← e2, flat_append]⟩
    | cons a A =>
      rw [List.cons_append] at h
      injection h with e1 e2
      exact flat_mid g d X n A _ (by rw [pct_append]; omega) e2
theorem flat_cut : ∀ (ks ts Y : List (Fm × β)), flat st ts = flat st ks ++ Y → ∃ ts2, ts = ks ++ ts2 ∧ flat st ts2 = Y
  | [], ts, Y, h => ⟨ts, rfl, h⟩
  | k :: ks, [], Y, h => by rw [flat_head] at h; simp [flat] at h
  | k :: ks, t :: ts, Y, h => by
    have h' := h
    rw [flat_head, flat_head, List.cons_append] at h
    injection h with e1 e2
    subst e1
    rw [flat_cons, flat_cons, List.append_assoc] at h'
    obtain ⟨ts2, e3, e4⟩ := flat_cut ks ts Y (List.append_cancel_left h')
    exact ⟨ts2, by rw [e3]; rfl, e4⟩
mutual
theorem hd_len : ∀ (f : Fm) (d : β), (hd st f d).length = f.ct
  | .rel n xs, d => by rw [hd]; rfl
  | .same x y, d => by rw [hd]; rfl
  | .neg f, d => by rw [hd, List.length_cons, hd_len f, ct]; omega
  | .con b fs, d => by rw [hd, List.length_cons, hds_len fs, ct]; omega
  | .qu b x f, d => by rw [hd, List.length_cons, hd_len f, ct]; omega
theorem hds_len : ∀ (fs : List Fm) (d : β), (hds st fs d).length = cts fs
  | [], d => by rw [hds]; rfl
  | f :: fs, d => by rw [hds, List.length_append, hd_len f, hds_len fs, cts]
end
theorem len_flat : ∀ ps : List (Fm × β), ps.length ≤ (flat st ps).length
  | [] => Nat.le_refl _
  | p :: ps => by
    rw [flat_head, List.length_cons, List.length_cons, flat_append, List.length_append]
    have := len_flat ps
    omega
/-- something true of each formula with what it has, if it goes on to what is within -/
theorem hd_all {R : Fm → β → Prop} (hs : ∀ g b, R g b → ∀ k ∈ g.kids, R k (st g b)) : ∀ (n : Nat) (ps : List (Fm × β)), pct ps ≤ n → (∀ p ∈ ps, R p.1 p.2) → ∀ p ∈ flat st ps, R p.1 p.2
  | n, [], _, _ => by simp [flat]
  | 0, p :: ps, hn, _ => by
    have := ct_pos p.1
    rw [pct] at hn
    omega
  | n + 1, p :: ps, hn, h => by
    rw [flat_head]
    have ck := pct_kids (st := st) p
    rw [pct] at hn
    intro q hq
    rcases List.mem_cons.mp hq with rfl | hq
    · exact h _ List.mem_cons_self
    refine hd_all hs n _ (by rw [pct_append]; omega) ?_ q hq
    intro r hr
    rcases List.mem_append.mp hr with e | e
    · obtain ⟨k, hk, rfl⟩ := List.mem_map.mp e
      exact hs _ _ (h _ List.mem_cons_self) k hk
    · exact h _ (List.mem_cons_of_mem _ e)
/-! what is handed down, in the heap -/
def PrAt (K : PySem.W.Frag) (At : Hp → V → β → Prop) (H : Hp) (u : V) (p : Fm × β) : Prop := ∃ (a : Addr) (v x : V), u = .ref a ∧ SqT K H a [v, x] ∧ FmAt K H v p.1 ∧ At H x p.2
structure Stay (K : PySem.W.Frag) (At : Hp → V → β → Prop) : Prop where
  go : ∀ {H H' : Hp} {u : V} {b : β}, Tk K H H' → At H u b → At H' u b
theorem PrAt.tk {K : PySem.W.Frag} {At : Hp → V → β → Prop} (sa : Stay K At) {H H' : Hp} {u : V} {p : Fm × β} (k : Tk K H H') (h : PrAt K At H u p) : PrAt K At H' u p :=
  let ⟨a, v, x, e, h1, h2, h3⟩ := h; ⟨a, v, x, e, k _ _ h1, h2.tk k, sa.go k h3⟩
theorem pr_new {K : PySem.W.Frag} {At : Hp → V → β → Prop} (sa : Stay K At) {H : Hp} {p : Addr} {v x : V} {f : Fm} {d : β} (np : H p = none) (h : FmAt K H v f) (hx : At H x d) : PrAt K At (upd H p (.tup [v, x])) (.ref p) (f, d) :=
  ⟨p, v, x, rfl, SqT.of upd_same, h.tk (tk_new np _), sa.go (tk_new np _) hx⟩
/-- what the function that tells what is handed down does -/
def spBelow (K : PySem.W.Frag) (At : Hp → V → β → Prop) (st : Fm → β → β) (Ok : Fm → β → Prop) : Sp := fun vs H Q _ => ∃ (v u : V) (g : Fm) (b : β), vs = [v, u] ∧ FmAt K H v g ∧ At H u b ∧ Ok g b ∧ ∀ (u' : V) (H' : Hp), Same H H' → At H' u' (st g b) → Q u' H'
def spHanded (K : PySem.W.Frag) (At : Hp → V → β → Prop) (st : Fm → β → β) (Ok : Fm → β → Prop) (fb : Addr) : Sp := fun vs H Q _ => ∃ (v u : V) (g : Fm) (b : β), vs = [v, u, .ref fb] ∧ FmAt K H v g ∧ At H u b ∧ Ok g b ∧ g.ct ≤ 1000 ∧
  ∀ (F : Addr) (us : List V) (H' : Hp), Same H H' → H F = none → H' F = some (.lst us) → All2 (PrAt K At H') us (hd st g b) → Q (.ref F) H'
end Hd
theorem all2_rev {α β : Type} {R : α → β → Prop} {as : List α} {bs : List β} (h : All2 R as bs) : All2 R as.reverse bs.reverse := by
  induction h with
  | nil => exact .nil
  | cons r _ ih => rw [List.reverse_cons, List.reverse_cons]; exact ih.snoc r
theorem fms_all2 {K : PySem.W.Frag} {H : Hp} : ∀ {us : List V} {fs : List Fm}, FmsAt K H us fs → All2 (FmAt K H) us fs
  | us, [], h => by rw [h.unnil]; exact .nil
  | us, f :: fs, h => by
    obtain ⟨u, r, rfl, h1, h2⟩ := h.uncons
    exact .cons h1 (fms_all2 h2)
theorem all2_fms {K : PySem.W.Frag} {H : Hp} {us : List V} {fs : List Fm} (h : All2 (FmAt K H) us fs) : FmsAt K H us fs := by
  induction h with
  | nil => exact .nil
  | cons r _ ih => exact .cons r ih
theorem cts_rev (fs : List Fm) : Fm.cts fs.reverse = Fm.cts fs := by
  induction fs with
  | nil => rfl
  | cons f fs ih => rw [List.reverse_cons, Fm.cts_append, ih, Fm.cts_single, Fm.cts]; omega
end Fo

set_option Elab.async false
set_option linter.all false
set_option maxRecDepth 100000
set_option maxHeartbeats 4000000
/-! t[::-1] of a tuple -/
namespace Rv
open PySem PySem.Spec PyProof.Rows L2
section
variable {P : Program} {w : World} {A : Around} {E : Value → Shared → Prop} {s : Shared}
theorem applied {sl : Addr} {a b c : Value} {n : Nat} {Q : Int × Int × Nat → Shared → Prop} (hs : s.heap.IsSliceOf sl a b c) (pa : IsPart a none) (pb : IsPart b none) (pc : IsPart c (some (-1))) (h : Q ((n : Int) - 1, -1, n) s) :
    wpAny (model P w) A (Builtin.Slice.sliceApplied (.ref sl) (pure (n : Int))) Q E s := by
  obtain ⟨os, hos, hcs, hds⟩ := id hs
  unfold Builtin.Slice.sliceApplied Builtin.Slice.sliceFields
  refine wpAny_bind (wpAny_bind (wpAny_field hos hds (x := a) rfl (wpAny_bind (wpAny_field hos hds (x := b) rfl (wpAny_bind (wpAny_field hos hds (x := c) rfl (wpAny_pure ?_)))))))
  refine wpAny_bind (HT.slicePart_ pc ?_)
  show wpAny _ _ (if ((-1 : Int) == 0) = true then _ else _) _ _ s
  rw [if_neg (by decide)]
  refine wpAny_bind (HT.slicePart_ pa (wpAny_bind (HT.slicePart_ pb (wpAny_bind (wpAny_pure ?_)))))
  have e1 : Builtin.Slice.sliceAdjust none none (-1) (n : Int) = ((n : Int) - 1, -1) := rfl
  have e2 : Builtin.Slice.slicePlaces ((n : Int) - 1) (-1) (-1) = n := by
    unfold Builtin.Slice.slicePlaces
    rw [if_neg (by decide)]
    by_cases z : (n : Int) - 1 > -1
    · rw [if_pos z, show (-(-1 : Int)) = 1 by decide, Int.ediv_one]
      omega
    · rw [if_neg z]
      omega
  show wpAny _ _ (pure ((n : Int) - 1, (-1 : Int), Builtin.Slice.slicePlaces ((n : Int) - 1) (-1) (-1))) _ _ s
  rw [e2]
  exact wpAny_pure h
theorem fm_congr {α β : Type} {f g : α → Option β} : ∀ (l : List α), (∀ a ∈ l, f a = g a) → l.filterMap f = l.filterMap g
  | [], _ => rfl
  | a :: l, h => by
    rw [List.filterMap_cons, List.filterMap_cons, h a List.mem_cons_self, fm_congr l fun b hb => h b (List.mem_cons_of_mem _ hb)]
theorem picked (xs : Array Value) : ((List.range xs.size).filterMap fun (k : Nat) => xs[((xs.size : Int) - 1 + (k : Int) * (-1)).toNat]?) = xs.toList.reverse := by
  have e : (List.range xs.size).filterMap (fun (k : Nat) => xs[((xs.size : Int) - 1 + (k : Int) * (-1)).toNat]?) = (List.range xs.size).filterMap (fun k => xs[xs.size - 1 - k]?) := by
    refine fm_congr _ fun k hk => ?_
    have lt := List.mem_range.mp hk
    have z : ((xs.size : Int) - 1 + (k : Int) * (-1)).toNat = xs.size - 1 - k := by omega
    rw [z]
  have m : (List.range xs.size).filterMap (fun k => xs[xs.size - 1 - k]?) = ((List.range xs.size).map (fun k => xs.size - 1 - k)).filterMap (xs[·]?) := by
    rw [List.filterMap_map]
    rfl
  rw [e, m, PySem.W.krv_range, List.filterMap_reverse, PySem.W.krv_all]
theorem tup_rev {t sl : Addr} {its : Array Value} {a b c : Value} {Q : Value → Shared → Prop} (ht : IsTup s.heap t its) (hs : s.heap.IsSliceOf sl a b c) (pa : IsPart a none) (pb : IsPart b none) (pc : IsPart c (some (-1)))
    (h : Q (.ref s.heap.objs.size) { s with heap := s.heap.push { cls := .type "tuple", data := .seq its.toList.reverse.toArray } }) (hz : its.size ≤ sizeLine) : wpAny (model P w) A (getItem (.ref t) (.ref sl)) Q E s := by
  have ok : sizeOk (.seq its.toList.reverse.toArray) := by
    show its.toList.reverse.toArray.size ≤ sizeLine
    rw [List.size_toArray, List.length_reverse, Array.length_toList]
    exact hz
  obtain ⟨os, hos, hcs, hds⟩ := id hs
  have hT : s.TypeIs (.ref sl) "slice" := ⟨os, hos, hcs⟩
  unfold getItem
  try with_reducible refine wpAny_holding ?_
  first | refine wpAny_bind (wpAny_pure ?_) | skip
  refine wpAny_bind (wpAny_sequenceKey ht.typeIs (by decide) ?_)
  refine wpAny_bind (wpAny_callSpecial?_slot (name := Str.ofString "__getitem__") ht.typeIs PyProof.Rows.slot_tuple_getitem
    (wpAny_call_entry PyProof.Rows.slot_tuple_getitem ht.typeIs entry_tuple_getitem ?_ (args_tuple_getitem _ _)))
  show wpAny _ _ (Builtin.Tuple.tupleItemsOf (.ref t) >>= _) _ _ s
  refine wpAny_bind (tupleItemsOf_ ht (wpAny_bind (wpAny_typeOf hT ?_)))
  rw [if_pos (by decide)]
  refine wpAny_bind (applied hs pa pb pc ?_)
  have no : ¬ (((its.size : Int) - 1 == 0 && (-1 : Int) == 1 && its.size == its.size) = true) := by
    intro q
    rw [Bool.and_eq_true, Bool.and_eq_true] at q
    exact absurd q.1.2 (by decide)
  show wpAny _ _ (if ((its.size : Int) - 1 == 0 && (-1 : Int) == 1 && its.size == its.size) = true then _ else _) _ _ s
  rw [if_neg no, picked]
  first
    | exact wpAny_bind (m := Builtin.Tuple.tupleExact _) (wpAny_newObj_type (wpAny_pure ⟨_, rfl, wpAny_pure h⟩) ok)
    | exact wpAny_bind (m := Builtin.Tuple.tupleExact _) (wpAny_newObj_type (wpAny_bind (wpAny_pure (wpAny_pure ⟨_, rfl, wpAny_pure h⟩))) ok)
    | exact wpAny_bind (wpAny_bind (m := Builtin.Tuple.tupleExact _) (wpAny_newObj_type (wpAny_pure (wpAny_pure ⟨_, rfl, wpAny_pure h⟩)) ok))
    | exact wpAny_bind (wpAny_bind (m := Builtin.Tuple.tupleExact _) (wpAny_newObj_type (wpAny_pure ⟨_, rfl, wpAny_pure h⟩) ok))
end
def tRevT (K : PySem.W.Frag) (te : TE) : TE := fun σ H Q => te σ H fun x H1 => ∃ a xs, x = .ref a ∧ SqT K H1 a xs ∧ ∀ p, H1 p = none → Q (.ref p) (upd H1 p (.tup xs.reverse))
theorem pe_revT {X : Cx} {e : Expr} {te : TE} {k : Nat} {p1 p2 p3 pos : Pos} (he : PE X e te) : PE X (.Subscript e (.Slice none none (some (.UnaryOp .USub (.Constant (.int 1) k p1) p2)) p3) pos) (tRevT X.K te) := by
  refine ⟨fun pins s σ H Q I h => ?_⟩
  refine Subscript_ (thn (he.run pins s σ H _ I h) fun v s1 ⟨x, H1, I1, r1, a, xs, ex, hx, q⟩ => ?_)
  subst ex
  cases r1
  have third : PO X (some (.UnaryOp .USub (.Constant (.int 1) k p1) p2)) (tPart (tUn (rU fun i => .int (-i)) (tC (.int 1)))) := po_some (pe_un un_neg pe_int)
  refine wpAny_Slice (thn (po_none.run pins s1 σ H1 (fun o G => o = none ∧ G = H1) I1 ⟨rfl, rfl⟩) fun va s2 ⟨oa, G, I2, qa, ea, eG⟩ => ?_)
  subst ea eG
  refine thn (po_none.run pins s2 σ G (fun o G' => o = none ∧ G' = G) I2 ⟨rfl, rfl⟩) fun vb s3 ⟨ob, G', I3, qb, eb, eG'⟩ => ?_
  subst eb eG'
  refine thn (third.run pins s3 σ G' (fun o G2 => o = some (-1) ∧ G2 = G') I3 ⟨1, rfl, -1, rfl, rfl, rfl⟩) fun vc s4 ⟨oc, G2, I4, qc, ec, eG2⟩ => ?_
  subst ec eG2
  have I5 : Inv X pins σ G2 { s4 with heap := s4.heap.push { cls := .type "slice", data := .fields #[va, vb, vc] } } := I4.kept (t' := s4.toks) fun b ob q => Heap.get?_push_of_some _ q
  obtain ⟨its, r, ht, hz⟩ := I5.tuple hx
  have hlen := r.length
  show wpAny (model X.prog X.w) X.A (subscriptTail e (.Slice none none (some (.UnaryOp .USub (.Constant (.int 1) k p1) p2)) p3) (.ref a) (.ref s4.heap.objs.size)) (EP X pins σ Q) X.xe { s4 with heap := s4.heap.push { cls := .type "slice", data := .fields #[va, vb, vc] } }
  refine tail_any (ops := [.ref a, .ref s4.heap.objs.size]) ht.typeIs PyProof.Rows.slot_tuple_getitem.lookup ?_ (by with_unfolding_all rfl)
  refine tup_rev ht (Heap.IsSliceOf.new _ va vb vc) qa qb qc ?_ (by rw [List.size_toArray]; omega)
  refine ⟨.ref _, _, I5.laid (t' := s4.toks) (o := .tup xs.reverse) (fun b ob q => Heap.get?_push_of_some _ q) (Nat.le_refl _) ?_, rfl, q _ (I5.hok.fresh (Nat.le_refl _))⟩
  exact ⟨by rw [List.length_reverse]; exact hz, _, r.reverse, IsTup.new _ _⟩
end Rv

set_option Elab.async false
set_option linter.all false
set_option maxRecDepth 100000
set_option maxHeartbeats 4000000
/-! law k01: the draws -/
namespace K1
open PySem L2 Fo
def top (i : Nat) : Stmt := PySem.Challenge.pw_finitestructures_k01_negations_go_inward.main.body.getD i (.Pass ⟨0, 0, 0, 0⟩)
abbrev sInner : Stmt := top 2
abbrev sTurned : Stmt := top 5
abbrev sHanded : Stmt := top 3
abbrev sDeniedW : Stmt := top 4
abbrev sOne : Stmt := top 6
abbrev sLInner : Stmt := top 8
abbrev sCell : Stmt := top 9
abbrev sDigits : Stmt := top 10
abbrev sBox : Stmt := top 11
abbrev sDraw : Stmt := top 12
abbrev sKinds : Stmt := top 13
abbrev sName : Stmt := top 14
abbrev sFormula : Stmt := top 15
abbrev sBelow : Stmt := top 16
abbrev sLFree : Stmt := top 17
abbrev sTuples : Stmt := top 18
abbrev sStruct : Stmt := top 19
abbrev sValues : Stmt := top 20
abbrev sLRank : Stmt := top 21
abbrev sTrue : Stmt := top 22
abbrev sInward : Stmt := top 23
abbrev sBound : Stmt := top 24
abbrev sShaped : Stmt := top 25
abbrev sLaw : Stmt := top 26
/-- which built-ins no name of the module hides -/
structure Bt (mg : Str → Option Value) : Prop where
  len : mg "len" = none
  max : mg "max" = none
  int : mg "int" = none
  tuple : mg "tuple" = none
  list : mg "list" = none
  set : mg "set" = none
  sorted : mg "sorted" = none
  range : mg "range" = none
  isinstance : mg "isinstance" = none
  dict : mg "dict" = none
  str : mg "str" = none
def N8 : List Str := ["x", "y", "z", "v0", "v1", "s", "t1", "a"]
section
variable {P : Program} {w : World} {K : PySem.W.Frag} {mg : Str → Option Value} {base : Heap}
/-! ### cell -/
theorem at_int {ns : List Int} {k : Int} (h0 : 0 ≤ k) (h : k < (ns.length : Int)) : ∃ v : Int, atI (ns.map V.int) k = some (.int v) := by
  have hk : k.toNat < ns.length := by omega
  have e : k = ((k.toNat : Nat) : Int) := by omega
  refine ⟨ns[k.toNat], at_of e ?_⟩
  rw [List.getElem?_map, List.getElem?_eq_getElem hk]
  rfl
def spCell (K : PySem.W.Frag) : Sp := fun vs H Q _ => ∃ (a : Addr) (ns : List Int) (k : Int), vs = [.ref a, .int k] ∧ SqL K H a (ns.map V.int) ∧ 0 ≤ k ∧ ∀ z, Q (.int z) H
theorem scCell : FnScope ["script", "k"] ["script", "k"] (defScope sCell) := ⟨rfl, rfl, rfl, by decide +kernel, rfl, by decide +kernel, by decide +kernel⟩
theorem ok_cell {f : Addr} {fd : FuncData} (B : Bt mg) (F : Fun K "_law_cell" "_law_cell" sCell f fd) : FnOk P w K mg base CX0 1 f fd ["script", "k"] (spCell K) := by
  refine F.ok scCell (fun vs H Q E h => ?_) (fun cdv A outer s H vs Q E hr h => ?_)
  · obtain ⟨a, ns, k, rfl, _⟩ := h
    rfl
  obtain ⟨a, ns, k, rfl, hS, h0, q⟩ := h
  refine ⟨_, pss_cons (ps_if (pt_cmpR op_lt (pv 1) (pe_callB call_len_seq rfl B.len PySem.boot_len (pa_cons (pv 0) pa_nil)) (nomark _)) (pss_one (ps_ret (pe_ix ix_list (pv 0) (pv 1) (fun _ _ => rfl)))) pss_nil)
    (pss_one (ps_ret pe_int)), ?_⟩
  refine ⟨_, rfl, _, rfl, a, _, rfl, .inl hS, _, _, rfl, rfl, _, rfl, ?_⟩
  refine ite2 (fun c => ?_) (fun c => ?_)
  · have c' : k < (((ns.map V.int).length : Nat) : Int) := of_decide_eq_true c
    rw [List.length_map] at c'
    obtain ⟨v, hv⟩ := at_int h0 c'
    exact ⟨_, rfl, _, rfl, a, _, _, _, rfl, rfl, hS, hv, q _⟩
  · exact q _
/-! ### draw -/
/-- all but what stands at b is as it was -/
def But (b : Addr) (H H' : Hp) : Prop := ∀ a o, a ≠ b → H a = some o → H' a = some o
theorem But.refl (b : Addr) (H : Hp) : But b H H := fun _ _ _ h => h
theorem But.trans {b : Addr} {H H1 H2 : Hp} (x : But b H H1) (y : But b H1 H2) : But b H H2 := fun a o n h => y a o n (x a o n h)
theorem But.of_same {b : Addr} {H H' : Hp} (x : Same H H') : But b H H' := fun a o _ h => x a o h
/-- a box: a list of a list of ints and a place -/
def BoxAt (H : Hp) (b d : Addr) : Prop := ∃ (ns : List Int) (i : Int), H b = some (.lst [.ref d, .int i]) ∧ H d = some (.lst (ns.map V.int)) ∧ 0 ≤ i ∧ d ≠ b
theorem BoxAt.same {H H' : Hp} {b d : Addr} (x : BoxAt H b d) (e : Same H H') : BoxAt H' b d :=
  let ⟨ns, i, h1, h2, h3, h4⟩ := x; ⟨ns, i, e _ _ h1, e _ _ h2, h3, h4⟩
theorem But.tk {K : PySem.W.Frag} {b d : Addr} {H H' : Hp} (x : But b H H') (y : BoxAt H b d) : Tk K H H' := fun a xs h => by
  obtain ⟨ns, i, h1, _⟩ := y
  rcases h with (h | ⟨o, h⟩) | h
  · exact .inl (.inl (x _ _ (ne_of h h1 (by intro z; cases z)) h))
  · exact .inl (.inr ⟨o, x _ _ (ne_of h h1 (by intro z; cases z)) h⟩)
  · exact .inr h
def spDraw : Sp := fun vs H Q _ => ∃ (b d : Addr) (m : Int), vs = [.ref b, .int m] ∧ BoxAt H b d ∧ 0 < m ∧ ∀ (r : Int) (H' : Hp), 0 ≤ r → r < m → But b H H' → BoxAt H' b d → Q (.int r) H'
theorem scDraw : FnScope ["box", "many", "at"] ["box", "many"] (defScope sDraw) := ⟨rfl, rfl, rfl, by decide +kernel, rfl, by decide +kernel, by decide +kernel⟩
theorem ok_draw {f : Addr} {fd : FuncData} (B : Bt mg) (F : Fun K "_law_draw" "_law_draw" sDraw f fd) : FnOk P w K mg base CX0 1 f fd ["box", "many"] spDraw := by
  refine F.ok scDraw (fun vs H Q E h => ?_) (fun cdv A outer s H vs Q E hr h => ?_)
  · obtain ⟨b, d, m, rfl, _⟩ := h
    rfl
  obtain ⟨b, d, m, rfl, ⟨ns, i, h1, h2, h3, h4⟩, hm, q⟩ := h
  refine ⟨_, pss_cons (ps_set (i := 2) scDraw.nd rfl (.inl rfl) (pe_ix ix_list (pv 0) pe_int (fun _ _ => rfl)))
    (pss_cons (ps_asg (pe_op op_add (pv 2) pe_int) (pg_sub (pv 0) pe_int set_list))
    (pss_cons (ps_if (pt_cmpR op_lt (pv 2) (pe_callB call_len_seq rfl B.len PySem.boot_len (pa_cons (pe_ix ix_list (pv 0) pe_int (fun _ _ => rfl)) pa_nil)) (nomark _))
      (pss_one (ps_ret (pe_op op_mod (pe_callTy call_int1 rfl B.int (by decide +kernel) (pa_cons (pe_ix ix_list (pe_ix ix_list (pv 0) pe_int (fun _ _ => rfl)) (pv 2) (fun _ _ => rfl)) pa_nil)) (pv 1)))) pss_nil)
    (pss_one (ps_ret pe_int)))), ?_⟩
  refine ⟨_, rfl, b, _, _, _, rfl, rfl, SqL.of h1, at_of (j := 1) rfl rfl, ?_⟩
  refine ⟨_, rfl, _, _, rfl, rfl, _, rfl, b, _, 1, 1, rfl, rfl, h1, rfl, ?_⟩
  have g1 : upd H b (.lst ([V.ref d, V.int i].set 1 (.int (i + 1)))) b = some (.lst [.ref d, .int (i + 1)]) := upd_same
  have g2 : upd H b (.lst ([V.ref d, V.int i].set 1 (.int (i + 1)))) d = some (.lst (ns.map V.int)) := by rw [upd_ne h4]; exact h2
  have g3 : But b H (upd H b (.lst ([V.ref d, V.int i].set 1 (.int (i + 1))))) := fun a o n e => by rw [upd_ne n]; exact e
  have g4 : BoxAt (upd H b (.lst ([V.ref d, V.int i].set 1 (.int (i + 1))))) b d := ⟨ns, i + 1, g1, g2, by omega, h4⟩
  refine ⟨_, rfl, _, rfl, b, _, _, _, rfl, rfl, SqL.of g1, at_of (j := 0) rfl rfl, d, _, rfl, .inl (SqL.of g2), _, _, rfl, rfl, _, rfl, ?_⟩
  refine ite2 (fun c => ?_) (fun c => ?_)
  · have c' : i < (((ns.map V.int).length : Nat) : Int) := of_decide_eq_true c
    rw [List.length_map] at c'
    obtain ⟨v, hv⟩ := at_int h3 c'
    refine ⟨_, rfl, b, _, _, _, rfl, rfl, SqL.of g1, at_of (j := 0) rfl rfl, _, rfl, d, _, _, _, rfl, rfl, SqL.of g2, hv, .inl ⟨_, rfl, _, rfl, _, _, rfl, rfl, hm, ?_⟩⟩
    exact q _ _ (Int.emod_nonneg _ (by omega)) (Int.emod_lt_of_pos _ hm) g3 g4
  · exact q _ _ (Int.le_refl 0) hm g3 g4
end
end K1

set_option Elab.async false
set_option linter.all false
set_option maxRecDepth 100000
set_option maxHeartbeats 4000000
namespace K1
open PySem L2 Fo
open C8 (Cal pe_c pss_cut)
section
variable {P : Program} {w : World} {K : PySem.W.Frag} {mg : Str → Option Value} {base : Heap}
theorem cal_of {x : Str} {f : Addr} {fd : FuncData} {ps : List Str} {k : Nat} {sp : Sp} (G : FnOk P w K mg base CX0 k f fd ps sp) (m : mg x = some (.ref f)) (kp : PySem.W.keepIn K (.ref f) = true) (b : Binds K fd ps []) : Cal P w K mg base k x sp [] :=
  ⟨⟨f, fd, ps, [], G, m, kp, b, .nil⟩⟩
/-! ### digits, box -/
def spDigits (K : PySem.W.Frag) : Sp := fun vs H Q _ => ∃ (a : Addr) (ns : List Int), vs = [.ref a, .int 0, .int 63] ∧ SqL K H a (ns.map V.int) ∧
  ∀ (d : Addr) (ms : List Int) (H' : Hp), Same H H' → H d = none → H' d = some (.lst (ms.map V.int)) → Q (.ref d) H'
abbrev nDigits : List Str := ["script", "first", "last", "digits", "k", "cell", "turn", "seed"]
theorem scDigits : FnScope nDigits ["script", "first", "last"] (defScope sDigits) := ⟨rfl, rfl, rfl, by decide +kernel, rfl, by decide +kernel, by decide +kernel⟩
theorem same_to {H H' : Hp} {d : Addr} {o : HO} (s : Same H H') (h : H d = none) : Same H (upd H' d o) := fun b u e => by
  rw [upd_ne (ne_of_none e h)]
  exact s _ _ e
theorem ints_snoc {ms : List Int} {z : Int} : ms.map V.int ++ [V.int z] = (ms ++ [z]).map V.int := by simp
theorem lineOk {n : Nat} (h : n ≤ 10000) : n < sizeLine := Nat.lt_of_le_of_lt h (by decide)
theorem ok_digits {f : Addr} {fd : FuncData} (B : Bt mg) (cCell : Cal P w K mg base 1 "_law_cell" (spCell K) []) (F : Fun K "_law_digits" "_law_digits" sDigits f fd) : FnOk P w K mg base CX0 2 f fd ["script", "first", "last"] (spDigits K) := by
  refine F.ok scDigits (fun vs H Q E h => ?_) (fun cdv A outer s H vs Q E hr h => ?_)
  · obtain ⟨a, ns, rfl, _⟩ := h
    rfl
  obtain ⟨a, ns, rfl, hS, q⟩ := h
  have nd := scDigits.nd
  refine ⟨_, pss_cons (ps_set (i := 3) nd rfl (.inl rfl) (pe_lst pa_nil))
    (pss_cons (ps_for PassesOwn.never rfl (pi_range2 (by rfl) B.range (pa_cons (pv 1) (pa_cons (pv 2) pa_nil))) (pg_name (i := 4) nd rfl (.inl rfl))
      (pss_cons (ps_set (i := 5) nd rfl (.inl rfl) (pe_c cCell hr (by decide) rfl (pa_cons (pv 0) (pa_cons (pv 4) pa_nil))))
      (pss_cut (ps_if (pt_cmpR op_lt (pv 5) pe_int (nomark _)) (pss_one (ps_set (i := 5) nd rfl (.inl rfl) (pe_op op_sub pe_int (pe_op op_mul pe_int (pv 5))))) pss_nil)
      (pss_one (ps_if (pt_cmpR op_ge (pv 5) (pe_op op_pow pe_int pe_int) (nomark _))
        (pss_one (ps_for PassesOwn.never rfl (pi_range1 rfl B.range (pa_cons pe_int pa_nil)) (pg_name (i := 6) nd rfl (.inl rfl))
          (pss_one (ps_if (pt_cmpR op_gt (pv 5) pe_int (nomark _))
            (pss_cons (ps_expr (pe_bm PySem.F.plainAttrs_list PySem.F.slot_list_append PySem.F.type_list_append mt_append (pv 3) (pa_cons (pe_op op_mod (pe_callTy call_int1 rfl B.int (by decide +kernel) (pa_cons (pv 5) pa_nil)) pe_int) pa_nil)))
            (pss_one (ps_set (i := 5) nd rfl (.inl rfl) (pe_op op_fdiv (pv 5) pe_int)))) pss_nil))))
        (pss_cons (ps_set (i := 7) nd rfl (.inl rfl) (pe_op op_mod (pe_callTy call_int1 rfl B.int (by decide +kernel) (pa_cons (pe_op op_add (pe_op op_add (pe_op op_mul (pv 5) pe_int) (pe_op op_mul (pv 4) pe_int)) pe_int) pa_nil)) pe_int))
        (pss_one (ps_for PassesOwn.never rfl (pi_range1 rfl B.range (pa_cons pe_int pa_nil)) (pg_name (i := 6) nd rfl (.inl rfl))
          (pss_cons (ps_set (i := 7) nd rfl (.inl rfl) (pe_op op_mod (pe_callTy call_int1 rfl B.int (by decide +kernel) (pa_cons (pe_op op_add (pe_op op_add (pe_op op_mul (pv 7) pe_int) (pe_op op_mul pe_int (pv 6))) pe_int) pa_nil)) pe_int))
          (pss_one (ps_expr (pe_bm PySem.F.plainAttrs_list PySem.F.slot_list_append PySem.F.type_list_append mt_append (pv 3) (pa_cons (pe_op op_mod (pe_callTy call_int1 rfl B.int (by decide +kernel) (pa_cons (pe_op op_fdiv (pv 7) pe_int) pa_nil)) pe_int) pa_nil)))))))))))))
    (pss_one (ps_ret (pv 3)))), ?_⟩
  refine ⟨Nat.zero_le _, fun D nD => ?_⟩
  refine ⟨_, rfl, _, rfl, 0, 63, rfl, ⟨by decide, by decide, by decide, by decide⟩, for_range (lo := 0) (n := 63) (fun i σ H' => ∃ (ms : List Int) (k c t sd : Option V), σ = [some (.ref a), some (.int 0), some (.int 63), some (.ref D), k, c, t, sd] ∧ Same H H' ∧ H' D = some (.lst (ms.map V.int)) ∧ ms.length ≤ 60 * i)
    ⟨[], none, none, none, none, rfl, same_new nD _, upd_same, Nat.zero_le _⟩ ?_ ?_⟩
  · rintro i σ H1 hi ⟨ms, k, c, t, sd, rfl, s1, hD, hl⟩
    refine ⟨_, rfl, _, rfl, a, ns, 0 + (i : Int), rfl, s1.seq hS, by omega, fun z => ?_⟩
    refine ⟨fun σ' H' => ∃ y : Int, H' = H1 ∧ σ' = [some (.ref a), some (.int 0), some (.int 63), some (.ref D), some (.int (0 + (i : Int))), some (.int y), t, sd], ⟨_, rfl, _, _, rfl, rfl, _, rfl, ite2 (fun _ => ?_) (fun _ => ?_)⟩, ?_⟩
    · exact ⟨_, rfl, _, _, rfl, rfl, .inl ⟨by decide, by decide⟩, _, _, rfl, rfl, _, rfl, rfl⟩
    · exact ⟨z, rfl, rfl⟩
    rintro σ' H' ⟨y, rfl, rfl⟩
    refine ⟨_, rfl, _, _, rfl, rfl, ⟨by decide, by decide, by decide⟩, _, _, rfl, rfl, _, rfl, ite2 (fun _ => ?_) (fun _ => ?_)⟩
    · refine ⟨60, rfl, by decide, by decide, for_range (lo := 0) (n := 60) (fun j σ H2 => ∃ (ms2 : List Int) (y t : Int) (t' : Option V), σ = [some (.ref a), some (.int 0), some (.int 63), some (.ref D), some (.int (0 + (i : Int))), some (.int y), t', sd] ∧ Same H H2 ∧ H2 D = some (.lst (ms2.map V.int)) ∧ ms2.length ≤ 60 * i + j)
        ⟨ms, y, 0, t, rfl, s1, hD, by omega⟩ ?_ ?_⟩
      · rintro j σ H2 hj ⟨ms2, y2, _, t', rfl, s2, hD2, hl2⟩
        refine ⟨_, rfl, _, _, rfl, rfl, _, rfl, ite2 (fun _ => ?_) (fun _ => ?_)⟩
        · refine ⟨_, rfl, .inl ⟨rfl, _, SqL.of hD2⟩, _, rfl, .inl ⟨_, rfl, _, _, rfl, rfl, (by show (0 : Int) < 1000; decide), D, _, _, rfl, rfl, hD2, lineOk (by rw [List.length_map]; omega), _, rfl, _, _, rfl, rfl, ⟨by decide, by decide⟩, ?_⟩⟩
          exact ⟨ms2 ++ [y2 % 1000], _, 0, _, rfl, same_to s2 nD, by rw [upd_same, ints_snoc], by rw [List.length_append, List.length_singleton]; omega⟩
        · exact ⟨ms2, y2, 0, _, rfl, s2, hD2, by omega⟩
      · rintro σ H2 ⟨ms2, y2, _, t', rfl, s2, hD2, hl2⟩
        exact ⟨ms2, _, _, _, _, rfl, s2, hD2, by omega⟩
    · refine ⟨_, rfl, _, _, rfl, rfl, .inr ⟨by decide, by decide⟩, _, rfl, _, _, rfl, rfl, .inr ⟨by decide, by decide⟩, _, _, rfl, rfl, _, _, rfl, rfl, .inl ⟨_, rfl, _, _, rfl, rfl, (by show (0 : Int) < 2147483647; decide), ?_⟩⟩
      refine ⟨12, rfl, by decide, by decide, for_range (lo := 0) (n := 12) (fun j σ H2 => ∃ (ms2 : List Int) (u : Int) (t' : Option V), σ = [some (.ref a), some (.int 0), some (.int 63), some (.ref D), some (.int (0 + (i : Int))), some (.int y), t', some (.int u)] ∧ Same H H2 ∧ H2 D = some (.lst (ms2.map V.int)) ∧ ms2.length ≤ 60 * i + j)
        ⟨ms, _, t, rfl, s1, hD, by omega⟩ ?_ ?_⟩
      · rintro j σ H2 hj ⟨ms2, u2, t', rfl, s2, hD2, hl2⟩
        refine ⟨_, rfl, _, _, rfl, rfl, .inr ⟨by decide, by decide⟩, _, rfl, _, _, rfl, rfl, .inl ⟨by decide, by decide⟩, _, _, rfl, rfl, _, _, rfl, rfl, .inl ⟨_, rfl, _, _, rfl, rfl, (by show (0 : Int) < 2147483647; decide), ?_⟩⟩
        refine ⟨_, rfl, .inl ⟨rfl, _, SqL.of hD2⟩, _, rfl, _, _, rfl, rfl, ⟨by decide, by decide⟩, .inl ⟨_, rfl, _, _, rfl, rfl, (by show (0 : Int) < 1000; decide), D, _, _, rfl, rfl, hD2, lineOk (by rw [List.length_map]; omega), ?_⟩⟩
        exact ⟨ms2 ++ [_], _, _, rfl, same_to s2 nD, by rw [upd_same, ints_snoc], by rw [List.length_append, List.length_singleton]; omega⟩
      · rintro σ H2 ⟨ms2, u2, t', rfl, s2, hD2, hl2⟩
        exact ⟨ms2, _, _, _, _, rfl, s2, hD2, by omega⟩
  · rintro σ H1 ⟨ms, k, c, t, sd, rfl, s1, hD, hl⟩
    exact ⟨_, rfl, q D ms _ s1 nD hD⟩

def spBox (K : PySem.W.Frag) : Sp := fun vs H Q _ => ∃ (a : Addr) (ns : List Int), vs = [.ref a, .int 0, .int 63] ∧ SqL K H a (ns.map V.int) ∧
  ∀ (b d : Addr) (H' : Hp), Same H H' → H b = none → BoxAt H' b d → Q (.ref b) H'
theorem scBox : FnScope ["script", "first", "last"] ["script", "first", "last"] (defScope sBox) := ⟨rfl, rfl, rfl, by decide +kernel, rfl, by decide +kernel, by decide +kernel⟩
theorem ok_box {f : Addr} {fd : FuncData} (cDigits : Cal P w K mg base 2 "_law_digits" (spDigits K) []) (F : Fun K "_law_box" "_law_box" sBox f fd) : FnOk P w K mg base CX0 3 f fd ["script", "first", "last"] (spBox K) := by
  refine F.ok scBox (fun vs H Q E h => ?_) (fun cdv A outer s H vs Q E hr h => ?_)
  · obtain ⟨a, ns, rfl, _⟩ := h
    rfl
  obtain ⟨a, ns, rfl, hS, q⟩ := h
  refine ⟨_, pss_one (ps_ret (pe_lst (pa_cons (pe_c cDigits hr (by decide) rfl (pa_cons (pv 0) (pa_cons (pv 1) (pa_cons (pv 2) pa_nil)))) (pa_cons pe_int pa_nil)))), ?_⟩
  refine ⟨_, rfl, _, rfl, _, rfl, a, ns, rfl, hS, fun d ms H1 s1 n1 h1 => ⟨by show 2 ≤ sizeLine; decide, fun b nb => ?_⟩⟩
  have ne : d ≠ b := ne_of_none h1 nb
  exact q b d _ (s1.trans (same_new nb _)) (s1.free nb) ⟨ms, 0, upd_same, by rw [upd_ne ne]; exact h1, Int.le_refl 0, ne⟩
/-! ### name, kinds -/
def spName : Sp := fun vs H Q _ => ∃ (b d : Addr), vs = [.ref b] ∧ BoxAt H b d ∧ ∀ (x : Str) (H' : Hp), x ∈ N8 → But b H H' → BoxAt H' b d → Q (.str x) H'
theorem scName : FnScope ["box"] ["box"] (defScope sName) := ⟨rfl, rfl, rfl, by decide +kernel, rfl, by decide +kernel, by decide +kernel⟩
theorem item_lt {xs : List V} {r : Int} {n : Nat} (h0 : 0 ≤ r) (h : r < (n : Int)) (hn : xs.length = n) : ∃ v, v ∈ xs ∧ atI xs r = some v := by
  have hk : r.toNat < xs.length := by omega
  have e : r = ((r.toNat : Nat) : Int) := by omega
  exact ⟨xs[r.toNat], List.getElem_mem hk, at_of e (List.getElem?_eq_getElem hk)⟩
theorem ok_name {f : Addr} {fd : FuncData} (cDraw : Cal P w K mg base 1 "_law_draw" spDraw []) (F : Fun K "_law_name" "_law_name" sName f fd) : FnOk P w K mg base CX0 2 f fd ["box"] spName := by
  refine F.ok scName (fun vs H Q E h => ?_) (fun cdv A outer s H vs Q E hr h => ?_)
  · obtain ⟨b, d, rfl, _⟩ := h
    rfl
  obtain ⟨b, d, rfl, hB, q⟩ := h
  refine ⟨_, pss_one (ps_ret (pe_ix ix_list (pe_lst (pa_cons pe_str (pa_cons pe_str (pa_cons pe_str (pa_cons pe_str (pa_cons pe_str (pa_cons pe_str (pa_cons pe_str (pa_cons pe_str pa_nil)))))))))
    (pe_c cDraw hr (by decide) rfl (pa_cons (pv 0) (pa_cons pe_int pa_nil))) (fun _ _ => rfl))), ?_⟩
  refine ⟨by show 8 ≤ sizeLine; decide, fun p hp => ⟨_, rfl, b, d, 8, rfl, hB.same (same_new hp _), by decide, fun r H1 r0 r1 b1 x1 => ?_⟩⟩
  have npb : p ≠ b := fun e => by
    obtain ⟨ns, i, h1, _⟩ := hB
    rw [e, h1] at hp
    cases hp
  obtain ⟨v, hv, ha⟩ := item_lt (xs := [.str "x", .str "y", .str "z", .str "v0", .str "v1", .str "s", .str "t1", .str "a"]) (n := 8) r0 r1 rfl
  refine ⟨p, _, _, v, rfl, rfl, SqL.of (b1 _ _ npb upd_same), ha, ?_⟩
  have sv : ∃ x, v = V.str x ∧ x ∈ N8 := by
    simp only [List.mem_cons, List.not_mem_nil, or_false] at hv
    rcases hv with rfl | rfl | rfl | rfl | rfl | rfl | rfl | rfl <;> exact ⟨_, rfl, by simp [N8]⟩
  obtain ⟨x, rfl, h8⟩ := sv
  exact q x H1 h8 ((But.of_same (same_new hp _)).trans b1) x1
end
end K1

set_option Elab.async false
set_option linter.all false
set_option maxRecDepth 100000
set_option maxHeartbeats 4000000
namespace K1
open PySem L2 Fo
open C8 (Cal pe_c pss_cut)
section
variable {P : Program} {w : World} {K : PySem.W.Frag} {mg : Str → Option Value} {base : Heap}
def PairAt (K : PySem.W.Frag) (H : Hp) (u : V) : Prop := ∃ (p : Addr) (n : Str) (pl : Int), u = .ref p ∧ SqT K H p [.str n, .int pl] ∧ 1 ≤ pl ∧ pl ≤ 2
def KindsAt (K : PySem.W.Frag) (H : Hp) (v : V) : Prop := ∃ (a : Addr) (us : List V), v = .ref a ∧ SqT K H a us ∧ us.length ≤ 2 ∧ ∀ u ∈ us, PairAt K H u
theorem PairAt.tk {H H' : Hp} {u : V} (x : PairAt K H u) (t : Tk K H H') : PairAt K H' u :=
  let ⟨p, n, pl, e, h, l⟩ := x; ⟨p, n, pl, e, t _ _ h, l⟩
theorem KindsAt.tk {H H' : Hp} {v : V} (x : KindsAt K H v) (t : Tk K H H') : KindsAt K H' v :=
  let ⟨a, us, e, h, l, m⟩ := x; ⟨a, us, e, t _ _ h, l, fun u hu => (m u hu).tk t⟩
theorem pair_new {H : Hp} {p : Addr} (n : Str) (pl : Int) (h : 1 ≤ pl ∧ pl ≤ 2) : PairAt K (upd H p (.tup [.str n, .int pl])) (.ref p) := ⟨p, n, pl, rfl, SqT.of upd_same, h⟩
theorem kinds_new {H : Hp} {a : Addr} {us : List V} (hn : H a = none) (l : us.length ≤ 2) (m : ∀ u ∈ us, PairAt K H u) : KindsAt K (upd H a (.tup us)) (.ref a) :=
  ⟨a, us, rfl, SqT.of upd_same, l, fun u hu => (m u hu).tk (tk_new hn _)⟩
def spKinds (K : PySem.W.Frag) : Sp := fun vs H Q _ => ∃ (b d : Addr), vs = [.ref b] ∧ BoxAt H b d ∧ ∀ (v : V) (H' : Hp), But b H H' → BoxAt H' b d → KindsAt K H' v → Q v H'
theorem scKinds : FnScope ["box"] ["box"] (defScope sKinds) := ⟨rfl, rfl, rfl, by decide +kernel, rfl, by decide +kernel, by decide +kernel⟩
theorem l2 : (2 : Nat) ≤ sizeLine := by decide
theorem l1 : (1 : Nat) ≤ sizeLine := by decide
theorem ok_kinds {f : Addr} {fd : FuncData} (cDraw : Cal P w K mg base 1 "_law_draw" spDraw []) (F : Fun K "_law_kinds" "_law_kinds" sKinds f fd) : FnOk P w K mg base CX0 2 f fd ["box"] (spKinds K) := by
  refine F.ok scKinds (fun vs H Q E h => ?_) (fun cdv A outer s H vs Q E hr h => ?_)
  · obtain ⟨b, d, rfl, _⟩ := h
    rfl
  obtain ⟨b, d, rfl, hB, q⟩ := h
  refine ⟨_, pss_one (ps_ret (pe_ix ix_list (pe_lst
      (pa_cons (pe_tup (pa_cons (pe_tup (pa_cons pe_str (pa_cons pe_int pa_nil))) pa_nil))
      (pa_cons (pe_tup (pa_cons (pe_tup (pa_cons pe_str (pa_cons pe_int pa_nil))) (pa_cons (pe_tup (pa_cons pe_str (pa_cons pe_int pa_nil))) pa_nil)))
      (pa_cons (pe_tup (pa_cons (pe_tup (pa_cons pe_str (pa_cons pe_int pa_nil))) (pa_cons (pe_tup (pa_cons pe_str (pa_cons pe_int pa_nil))) pa_nil)))
      (pa_cons (pe_tup (pa_cons (pe_tup (pa_cons pe_str (pa_cons pe_int pa_nil))) (pa_cons (pe_tup (pa_cons pe_str (pa_cons pe_int pa_nil))) pa_nil)))
      (pa_cons (pe_tup pa_nil) pa_nil))))))
    (pe_c cDraw hr (by decide) rfl (pa_cons (pv 0) (pa_cons pe_int pa_nil))) (fun _ _ => rfl))), ?_⟩
  refine ⟨l2, fun p1 n1 => ⟨l1, fun a1 m1 => ?_⟩⟩
  have k1 := kinds_new (K := K) m1 (us := [.ref p1]) (by show 1 ≤ 2; omega) (fun u hu => by rw [List.mem_singleton.mp hu]; exact pair_new "E" 2 ⟨by decide, by decide⟩)
  have s1 := (same_new n1 (.tup [.str "E", .int 2])).trans (same_new m1 (.tup [.ref p1]))
  refine ⟨l2, fun p2 n2 => ⟨l2, fun p3 n3 => ⟨l2, fun a2 m2 => ?_⟩⟩⟩
  have t2 := (same_new n2 (.tup [.str "E", .int 2])).trans ((same_new n3 (.tup [.str "P", .int 1])).trans (same_new m2 (.tup [.ref p2, .ref p3])))
  have k2 := kinds_new (K := K) m2 (us := [.ref p2, .ref p3]) (Nat.le_refl 2) (fun u hu => by
    rcases List.mem_cons.mp hu with e | e
    · rw [e]; exact (pair_new "E" 2 ⟨by decide, by decide⟩).tk (tk_new n3 _)
    · rw [List.mem_singleton.mp e]; exact pair_new "P" 1 ⟨by decide, by decide⟩)
  refine ⟨l2, fun p4 n4 => ⟨l2, fun p5 n5 => ⟨l2, fun a3 m3 => ?_⟩⟩⟩
  have t3 := (same_new n4 (.tup [.str "P", .int 1])).trans ((same_new n5 (.tup [.str "Q", .int 1])).trans (same_new m3 (.tup [.ref p4, .ref p5])))
  have k3 := kinds_new (K := K) m3 (us := [.ref p4, .ref p5]) (Nat.le_refl 2) (fun u hu => by
    rcases List.mem_cons.mp hu with e | e
    · rw [e]; exact (pair_new "P" 1 ⟨by decide, by decide⟩).tk (tk_new n5 _)
    · rw [List.mem_singleton.mp e]; exact pair_new "Q" 1 ⟨by decide, by decide⟩)
  refine ⟨l2, fun p6 n6 => ⟨l2, fun p7 n7 => ⟨l2, fun a4 m4 => ?_⟩⟩⟩
  have t4 := (same_new n6 (.tup [.str "E", .int 2])).trans ((same_new n7 (.tup [.str "F", .int 2])).trans (same_new m4 (.tup [.ref p6, .ref p7])))
  have k4 := kinds_new (K := K) m4 (us := [.ref p6, .ref p7]) (Nat.le_refl 2) (fun u hu => by
    rcases List.mem_cons.mp hu with e | e
    · rw [e]; exact (pair_new "E" 2 ⟨by decide, by decide⟩).tk (tk_new n7 _)
    · rw [List.mem_singleton.mp e]; exact pair_new "F" 2 ⟨by decide, by decide⟩)
  refine ⟨Nat.zero_le _, fun a5 m5 => ⟨by show 5 ≤ sizeLine; decide, fun L nL => ?_⟩⟩
  have k5 := kinds_new (K := K) m5 (us := []) (Nat.zero_le 2) (fun u hu => nomatch hu)
  have t5 := same_new m5 (.tup [])
  have tL := same_new nL (.lst [.ref a1, .ref a2, .ref a3, .ref a4, .ref a5])
  have all := s1.trans (t2.trans (t3.trans (t4.trans (t5.trans tL))))
  have k5' := k5.tk (.of_same tL)
  have k4' := k4.tk (.of_same (t5.trans tL))
  have k3' := k3.tk (.of_same (t4.trans (t5.trans tL)))
  have k2' := k2.tk (.of_same (t3.trans (t4.trans (t5.trans tL))))
  have k1' := k1.tk (.of_same (t2.trans (t3.trans (t4.trans (t5.trans tL)))))
  have hB' := hB.same all
  refine ⟨_, rfl, b, d, 5, rfl, hB', by decide, fun r H1 r0 r1 b1 x1 => ?_⟩
  have nLb : L ≠ b := fun e => by
    obtain ⟨ns, i, h1, _⟩ := hB
    have z := (s1.trans (t2.trans (t3.trans (t4.trans t5)))) _ _ h1
    rw [e, z] at nL
    cases nL
  obtain ⟨v, hv, ha⟩ := item_lt (xs := [.ref a1, .ref a2, .ref a3, .ref a4, .ref a5]) (n := 5) r0 r1 rfl
  refine ⟨L, _, _, v, rfl, rfl, SqL.of (b1 _ _ nLb upd_same), ha, q v H1 ((But.of_same all).trans b1) x1 ?_⟩
  have T := b1.tk (K := K) hB'
  simp only [List.mem_cons, List.not_mem_nil, or_false] at hv
  rcases hv with rfl | rfl | rfl | rfl | rfl
  · exact k1'.tk T
  · exact k2'.tk T
  · exact k3'.tk T
  · exact k4'.tk T
  · exact k5'.tk T
end
end K1

set_option Elab.async false
set_option linter.all false
set_option maxRecDepth 100000
set_option maxHeartbeats 4000000
namespace K1
open PySem L2 Fo
open C8 (Cal pe_c pss_cut)
/-- how many parts a formula drawn with room r has at most -/
def cb (r : Nat) : Nat := if r < 2 then 1 else 2 * r
theorem cb_mono {q r : Nat} (h : q ≤ r) : cb q ≤ cb r := by
  unfold cb
  split <;> split <;> omega
structure Fine (r : Nat) (f : Fm) : Prop where
  ct : f.ct ≤ cb r
  dp : f.dp ≤ r
  nm : f.nm.length ≤ 2 * f.ct
  n8 : ∀ x ∈ f.nm, x ∈ N8
theorem fine_rel {n : Str} {xs : List Str} {r : Nat} (h : xs.length ≤ 2) (h8 : ∀ x ∈ xs, x ∈ N8) : Fine r (.rel n xs) := ⟨by show 1 ≤ cb r; unfold cb; split <;> omega, by show 0 ≤ r; omega, by show xs.length ≤ 2 * 1; omega, h8⟩
theorem fine_same {x y : Str} {r : Nat} (hx : x ∈ N8) (hy : y ∈ N8) : Fine r (.same x y) := ⟨by show 1 ≤ cb r; unfold cb; split <;> omega, by show 0 ≤ r; omega, by show 2 ≤ 2 * 1; omega, fun z hz => by rcases List.mem_cons.mp hz with e | e; exact e ▸ hx; exact List.mem_singleton.mp e ▸ hy⟩
theorem cb_one {r : Nat} (h : 2 ≤ r) : 1 + cb (r - 1) ≤ cb r := by
  unfold cb
  split <;> split <;> omega
theorem fine_neg {f : Fm} {r : Nat} (h : 2 ≤ r) (x : Fine (r - 1) f) : Fine r (.neg f) := by
  have a := x.ct; have b := x.dp; have c := x.nm; have d := cb_one h
  refine ⟨?_, ?_, ?_, x.n8⟩
  · show 1 + f.ct ≤ cb r; omega
  · show 1 + f.dp ≤ r; omega
  · show f.nm.length ≤ 2 * (1 + f.ct); omega
theorem fine_qu {f : Fm} {b : Bool} {y : Str} {r : Nat} (h : 2 ≤ r) (hy : y ∈ N8) (x : Fine (r - 1) f) : Fine r (.qu b y f) := by
  have a := x.ct; have e := x.dp; have c := x.nm; have d := cb_one h
  refine ⟨?_, ?_, ?_, fun z hz => ?_⟩
  · show 1 + f.ct ≤ cb r; omega
  · show 1 + f.dp ≤ r; omega
  · show f.nm.length + 1 ≤ 2 * (1 + f.ct); omega
  · rcases List.mem_cons.mp hz with e | e
    · exact e ▸ hy
    · exact x.n8 z e
theorem sums {q : Nat} : ∀ {fs : List Fm}, (∀ f ∈ fs, Fine q f) → Fm.cts fs ≤ fs.length * cb q ∧ (Fm.nms fs).length ≤ 2 * Fm.cts fs
  | [], _ => ⟨Nat.zero_le _, Nat.zero_le _⟩
  | f :: fs, h => by
    have ih := sums (fs := fs) fun g hg => h g (List.mem_cons_of_mem _ hg)
    have x := h f List.mem_cons_self
    have a := x.ct; have c := x.nm
    rw [Fm.cts, Fm.nms, List.length_cons, List.length_append, Nat.succ_mul]
    omega
theorem fine_con {fs : List Fm} {b : Bool} {r q : Nat} (h : 2 ≤ r) (hq : fs.length * q ≤ r - 1) (h3 : fs.length ≤ 3) (x : ∀ f ∈ fs, Fine q f) : Fine r (.con b fs) := by
  obtain ⟨a, c⟩ := sums x
  refine ⟨?_, ?_, ?_, fun z hz => by obtain ⟨f, hf, hm⟩ := Fm.mem_nms.mp hz; exact (x f hf).n8 z hm⟩
  · show 1 + Fm.cts fs ≤ cb r
    have d : 1 + fs.length * cb q ≤ cb r := by
      unfold cb
      have h4 : fs.length = 0 ∨ fs.length = 1 ∨ fs.length = 2 ∨ fs.length = 3 := by omega
      rcases h4 with e | e | e | e <;> rw [e] at hq ⊢ <;> split <;> split <;> omega
    omega
  · show Fm.dps fs ≤ r
    refine Fm.dps_le fun f hf => ?_
    have e := (x f hf).dp
    have l : 1 ≤ fs.length := by cases fs with
      | nil => cases hf
      | cons g gs => rw [List.length_cons]; omega
    have : 1 * q ≤ fs.length * q := Nat.mul_le_mul_right q l
    omega
  · show (Fm.nms fs).length ≤ 2 * (1 + Fm.cts fs)
    omega
section
variable {P : Program} {w : World} {K : PySem.W.Frag} {mg : Str → Option Value} {base : Heap}
def spBelow (K : PySem.W.Frag) (n : Nat) : Sp := fun vs H Q _ => ∃ (b d : Addr) (kv : V) (r : Nat) (left : Int), vs = [.ref b, kv, .int (r : Int), .int left] ∧ BoxAt H b d ∧ KindsAt K H kv ∧ r < n ∧
  ∀ (v : V) (f : Fm) (H' : Hp), But b H H' → BoxAt H' b d → FmAt K H' v f → Fine r f → Q v H'
abbrev nBelow : List Str := ["box", "kinds", "room", "left", "kind", "name", "places", "k", "many", "rows"]
abbrev pBelow : List Str := ["box", "kinds", "room", "left"]
theorem scBelow : FnScope nBelow pBelow (defScope sBelow) := ⟨rfl, rfl, rfl, by decide +kernel, rfl, by decide +kernel, by decide +kernel⟩
theorem box_ne {H : Hp} {b d p : Addr} (x : BoxAt H b d) (h : H p = none) : p ≠ b ∧ p ≠ d := by
  obtain ⟨ns, i, h1, h2, _⟩ := x
  exact ⟨fun e => (by rw [e, h1] at h; cases h), fun e => (by rw [e, h2] at h; cases h)⟩
theorem BoxAt.new {H : Hp} {b d p : Addr} {o : HO} (x : BoxAt H b d) (h : H p = none) : BoxAt (upd H p o) b d := x.same (same_new h o)
theorem But.new {H : Hp} {b p : Addr} (o : HO) (h : H p = none) : But b H (upd H p o) := .of_same (same_new h o)
/-- a list of ours that is written -/
theorem But.put {H0 H : Hp} {b D : Addr} (o : HO) (x : But b H0 H) (h : H0 D = none) : But b H0 (upd H D o) := fun a u n e => by
  rw [upd_ne (ne_of_none e h)]
  exact x a u n e
theorem BoxAt.put {H0 H : Hp} {b d D : Addr} {o : HO} (x : BoxAt H0 b d) (h : H0 D = none) (y : BoxAt H b d) : BoxAt (upd H D o) b d := by
  obtain ⟨n1, n2⟩ := box_ne x h
  obtain ⟨ns, i, h1, h2, h3, h4⟩ := y
  exact ⟨ns, i, by rw [upd_ne n1.symm]; exact h1, by rw [upd_ne n2.symm]; exact h2, h3, h4⟩
end
end K1

set_option Elab.async false
set_option linter.all false
set_option maxRecDepth 100000
set_option maxHeartbeats 4000000
namespace K1
open PySem L2 Fo
open C8 (Cal pe_c pss_cut)
section
variable {P : Program} {w : World} {K : PySem.W.Frag} {mg : Str → Option Value} {base : Heap}
theorem mk_same {H : Hp} {p : Addr} {x y : Str} : FmAt K (upd H p (.tup [.str "same", .str x, .str y])) (.ref p) (.same x y) := by
  rw [FmAt]
  exact ⟨p, rfl, SqT.of upd_same⟩
theorem mk_rel {H : Hp} {p t : Addr} {n : Str} {xs : List Str} (h : SqT K H t (xs.map V.str)) (hp : H p = none) : FmAt K (upd H p (.tup [.str "rel", .str n, .ref t])) (.ref p) (.rel n xs) := by
  rw [FmAt]
  exact ⟨p, t, rfl, SqT.of upd_same, tk_new hp _ _ _ h⟩
theorem mk_neg {H : Hp} {p : Addr} {u : V} {f : Fm} (h : FmAt K H u f) (hp : H p = none) : FmAt K (upd H p (.tup [.str "not", u])) (.ref p) (.neg f) := by
  rw [FmAt]
  exact ⟨p, u, rfl, SqT.of upd_same, h.tk (tk_new hp _)⟩
theorem mk_con {H : Hp} {p t : Addr} {us : List V} {b : Bool} {fs : List Fm} (h : SqT K H t us) (k : FmsAt K H us fs) (hp : H p = none) : FmAt K (upd H p (.tup [.str (cn b), .ref t])) (.ref p) (.con b fs) := by
  rw [FmAt]
  exact ⟨p, t, us, rfl, SqT.of upd_same, tk_new hp _ _ _ h, k.tk (tk_new hp _)⟩
theorem mk_qu {H : Hp} {p : Addr} {u : V} {b : Bool} {x : Str} {f : Fm} (h : FmAt K H u f) (hp : H p = none) : FmAt K (upd H p (.tup [.str (qn b), .str x, u])) (.ref p) (.qu b x f) := by
  rw [FmAt]
  exact ⟨p, u, rfl, SqT.of upd_same, h.tk (tk_new hp _)⟩
theorem l3 : (3 : Nat) ≤ sizeLine := by decide
theorem room_div {r : Nat} {m : Int} (hr : 2 ≤ r) (h1 : m < 4) : ∃ qq : Nat, (1 ≤ m → ((r : Int) - 1).fdiv (if m > 1 then m else 1) = (qq : Int) ∧ qq < r) ∧ m.toNat * qq ≤ r - 1 := by
  have e : ∀ j : Int, 0 < j → ((r : Int) - 1).fdiv j = ((r : Int) - 1) / j := fun j hj => Int.fdiv_eq_ediv_of_nonneg _ (by omega)
  have h4 : m < 1 ∨ m = 1 ∨ m = 2 ∨ m = 3 := by omega
  rcases h4 with h | h | h | h
  · exact ⟨0, fun z => absurd z (by omega), by omega⟩
  · subst h
    refine ⟨r - 1, fun _ => ⟨?_, by omega⟩, (by show 1 * (r - 1) ≤ r - 1; omega)⟩
    rw [if_neg (by omega), e 1 (by omega)]
    omega
  · subst h
    refine ⟨(r - 1) / 2, fun _ => ⟨?_, by omega⟩, (by show 2 * ((r - 1) / 2) ≤ r - 1; omega)⟩
    rw [if_pos (by omega), e 2 (by omega)]
    omega
  · subst h
    refine ⟨(r - 1) / 3, fun _ => ⟨?_, by omega⟩, (by show 3 * ((r - 1) / 3) ≤ r - 1; omega)⟩
    rw [if_pos (by omega), e 3 (by omega)]
    omega
theorem ok_below {n : Nat} {f : Addr} {fd : FuncData} (B : Bt mg) (cDraw : Cal P w K mg base 1 "_law_draw" spDraw []) (cName : Cal P w K mg base 2 "_law_name" spName []) (cBelow : Cal P w K mg base (n + 2) "_law_below" (spBelow K n) [])
    (F : Fun K "_law_below" "_law_below" sBelow f fd) : FnOk P w K mg base CX0 (n + 3) f fd pBelow (spBelow K (n + 1)) := by
  refine F.ok scBelow (fun vs H Q E h => ?_) (fun cdv A outer s H vs Q E hr h => ?_)
  · obtain ⟨b, d, kv, r, left, rfl, _⟩ := h
    rfl
  obtain ⟨b, d, kv, r, left, rfl, hB, hK, hn, q⟩ := h
  have nd := scBelow.nd
  have hr1 : Room 1 _ := hr.mono (by omega)
  have hr2 : Room 2 _ := hr.mono (by omega)
  refine ⟨_, (pss_cons (ps_set (i := 4) nd rfl (.inl rfl) (pe_c cDraw hr1 (by decide) rfl (pa_cons (pv 0) (pa_cons pe_int pa_nil))))
    (pss_cons (ps_if (PW.pt (pw_or (pt_cmpR op_lt (pv 2) pe_int (nomark _)) (pw_or1 (pt_cmpR op_lt (pv 4) pe_int (nomark _))))) (pss_cons (ps_if (PW.pt (pw_or (pt_cmpR op_eq (pe_callB call_len_seq rfl B.len PySem.boot_len (pa_cons (pv 1) pa_nil)) pe_int (nomark _)) (pw_or1 (pt_cmpR op_eq (pe_c cDraw hr1 (by decide) rfl (pa_cons (pv 0) (pa_cons pe_int pa_nil))) pe_int (nomark _))))) (pss_one (ps_ret (pe_tup (pa_cons pe_str (pa_cons (pe_c cName hr2 (by decide) rfl (pa_cons (pv 0) pa_nil)) (pa_cons (pe_c cName hr2 (by decide) rfl (pa_cons (pv 0) pa_nil)) pa_nil)))))) pss_nil)
    (pss_cons (ps_asg (pe_ix ix_tup (pv 1) (pe_c cDraw hr1 (by decide) rfl (pa_cons (pv 0) (pa_cons (pe_callB call_len_seq rfl B.len PySem.boot_len (pa_cons (pv 1) pa_nil)) pa_nil))) (fun _ _ => rfl)) (pg_tup rfl (pgs_cons (pg_name (i := 5) nd rfl (.inl rfl)) (pgs_cons (pg_name (i := 6) nd rfl (.inl rfl)) pgs_nil))))
    (pss_one (ps_ret (pe_tup (pa_cons pe_str (pa_cons (pv 5) (pa_cons (pe_callTy call_tuple_of rfl B.tuple (by decide +kernel) (pa_cons (pe_lc (own := [("k", 7)]) (g := gName 7) (tt := tYes) rfl nd (pi_range1 rfl B.range (pa_cons (pv 6) pa_nil)) (blkOk_by (own := [("k", 7)]) (N := nBelow) (sc := defScope sBelow) (by decide +kernel)) (fun _ _ _ _ _ => (pg_name (i := 7) nd rfl (Or.inl rfl))) (fun _ _ _ _ _ => pts_nil) (fun _ _ _ _ _ => (pe_c cName hr2 (by decide) rfl (pa_cons (pv 0) pa_nil)))) pa_nil)) pa_nil)))))))) pss_nil)
    (pss_cons (ps_if (PW.pt (pw_or (pt_cmpR op_eq (pv 4) pe_int (nomark _)) (pw_or1 (PW.pt (pw_and (pt_cmpR op_lt (pv 4) pe_int (nomark _)) (pw_and1 (pt_cmpR op_eq (pv 3) pe_int (nomark _)))))))) (pss_one (ps_ret (pe_tup (pa_cons pe_str (pa_cons (pe_c cBelow hr (Nat.le_refl _) rfl (pa_cons (pv 0) (pa_cons (pv 1) (pa_cons (pe_op op_sub (pv 2) pe_int) (pa_cons (pv 3) pa_nil))))) pa_nil))))) pss_nil)
    (pss_cons (ps_if (pt_cmpR op_lt (pv 4) pe_int (nomark _)) (pss_one (ps_ret (pe_tup (pa_cons (pe_ix ix_list (pe_lst (pa_cons pe_str (pa_cons pe_str pa_nil))) (pe_op op_sub (pv 4) pe_int) (fun _ _ => rfl)) (pa_cons (pe_c cName hr2 (by decide) rfl (pa_cons (pv 0) pa_nil)) (pa_cons (pe_c cBelow hr (Nat.le_refl _) rfl (pa_cons (pv 0) (pa_cons (pv 1) (pa_cons (pe_op op_sub (pv 2) pe_int) (pa_cons (pe_op op_sub (pv 3) pe_int) pa_nil))))) pa_nil)))))) pss_nil)
    (pss_cons (ps_set (i := 8) nd rfl (.inl rfl) (pe_c cDraw hr1 (by decide) rfl (pa_cons (pv 0) (pa_cons pe_int pa_nil))))
    (pss_cons (ps_set (i := 9) nd rfl (.inl rfl) (pe_lst pa_nil))
    (pss_cons (ps_for PassesOwn.never rfl (pi_range1 rfl B.range (pa_cons (pv 8) pa_nil)) (pg_name (i := 7) nd rfl (.inl rfl)) (pss_one (ps_expr (pe_bm PySem.F.plainAttrs_list PySem.F.slot_list_append PySem.F.type_list_append mt_append (pv 9) (pa_cons (pe_c cBelow hr (Nat.le_refl _) rfl (pa_cons (pv 0) (pa_cons (pv 1) (pa_cons (pe_op op_fdivN (pe_op op_sub (pv 2) pe_int) (pe_callB (call_max2 rfl) rfl B.max (by decide +kernel) (pa_cons pe_int (pa_cons (pv 8) pa_nil)))) (pa_cons (pv 3) pa_nil))))) pa_nil)))))
    (pss_one (ps_ret (pe_tup (pa_cons (pe_ix ix_list (pe_lst (pa_cons pe_str (pa_cons pe_str pa_nil))) (pe_op op_mod (pv 4) pe_int) (fun _ _ => rfl)) (pa_cons (pe_callTy call_tuple_of rfl B.tuple (by decide +kernel) (pa_cons (pv 9) pa_nil)) pa_nil)))))))))))), ?_⟩
  refine ⟨_, rfl, b, d, 10, rfl, hB, by decide, fun kd H1 k0 k1 b1 x1 => ?_⟩
  have hK1 := hK.tk (b1.tk hB)
  have p2 : ∀ {y : Int}, decide (y < 2) = true → y < 2 := of_decide_eq_true
  refine (fun leaf => ⟨_, rfl, _, _, rfl, rfl, _, rfl, ite2 (fun _ => leaf) (fun c1 => ⟨_, rfl, _, _, rfl, rfl, _, rfl, ite2 (fun _ => leaf) (fun c2 => ?rest)⟩)⟩) ?leaf
  case leaf =>
    obtain ⟨ka, us, rfl, hS, hl2, hm⟩ := hK1
    refine ⟨_, rfl, ka, us, rfl, .inr hS, rfl, _, rfl, ite2 (fun _ => ?_) (fun c3 => ⟨_, rfl, b, d, 4, rfl, x1, by decide, fun r2 H2 _ _ b2 x2 => ⟨rfl, _, rfl, ite2 (fun _ => ?_) (fun _ => ?_)⟩⟩)⟩
    · refine ⟨_, rfl, b, d, rfl, x1, fun x Ha hx ba xa => ⟨_, rfl, b, d, rfl, xa, fun y Hb hy bb xb => ⟨l3, fun p hp => ?_⟩⟩⟩
      exact q _ (.same x y) _ ((b1.trans (ba.trans bb)).trans (.new _ hp)) (xb.new hp) mk_same (fine_same hx hy)
    · refine ⟨_, rfl, b, d, rfl, x2, fun x Ha hx ba xa => ⟨_, rfl, b, d, rfl, xa, fun y Hb hy bb xb => ⟨l3, fun p hp => ?_⟩⟩⟩
      exact q _ (.same x y) _ (((b1.trans b2).trans (ba.trans bb)).trans (.new _ hp)) (xb.new hp) mk_same (fine_same hx hy)
    · have hS2 := b2.tk x1 _ _ hS
      have hm2 : ∀ u ∈ us, PairAt K H2 u := fun u hu => (hm u hu).tk (b2.tk x1)
      have ne : 0 < us.length := by
        rcases Nat.eq_zero_or_pos us.length with z | z
        · exact absurd (by rw [z]; rfl) c3
        · exact z
      refine ⟨_, rfl, _, rfl, _, rfl, ka, us, rfl, .inr hS2, b, d, us.length, rfl, x2, by omega, fun r3 H3 r0 r1 b3 x3 => ?_⟩
      have hS3 := b3.tk x2 _ _ hS2
      obtain ⟨v, hv, ha⟩ := item_lt r0 r1 rfl
      obtain ⟨pr, nn, pl, rfl, hP, p1, p2⟩ := (hm2 v hv).tk (b3.tk x2)
      refine ⟨ka, us, _, _, rfl, rfl, hS3, ha, pr, _, rfl, hP, rfl, ?_⟩
      have bb := (b1.trans b2).trans b3
      refine ⟨_, _, rfl, _, _, rfl, rfl, _, rfl, _, rfl, pl, rfl, by omega, by omega, fun D nD => lc_range (lo := 0) (n := pl.toNat) (fun i H' => ∃ xs : List Str, H' D = some (.lst (xs.map V.str)) ∧ xs.length = i ∧ But b H3 H' ∧ BoxAt H' b d ∧ ∀ x ∈ xs, x ∈ N8) ⟨[], upd_same, rfl, .new _ nD, x3.new nD, fun x hx => nomatch hx⟩ ?_ ?_⟩
      · rintro i H' hi ⟨xs, hD, hl, bk, xk, h8⟩
        refine ⟨rfl, _, rfl, b, d, rfl, xk, fun x Hx hx bx xx => ⟨xs.map V.str, bx _ _ (box_ne x3 nD).1 hD, lineOk (by rw [List.length_map]; omega), xs ++ [x], by rw [upd_same]; simp, by simp [hl], (bk.trans bx).put _ nD, x3.put nD xx, fun z hz => by rcases List.mem_append.mp hz with q | q; exact h8 z q; exact List.mem_singleton.mp q ▸ hx⟩⟩
      · rintro H' ⟨xs, hD, hl, bk, xk, h8⟩
        refine ⟨D, _, rfl, .inl ⟨SqL.of hD, fun t nt => ⟨l3, fun p np => ?_⟩⟩⟩
        refine q _ (.rel nn xs) _ (bb.trans (bk.trans ((But.new _ nt).trans (.new _ np)))) ((xk.new nt).new np) (mk_rel (SqT.of upd_same) np) (fine_rel (by omega) h8)
  case rest =>
    have h2 : 2 ≤ r := by
      have z : ¬ ((r : Int) < 2) := fun z => c1 (decide_eq_true z)
      omega
    have h3 : 3 ≤ kd := by
      have z : ¬ (kd < 3) := fun z => c2 (decide_eq_true z)
      omega
    have hrr : (r : Int) - 1 = ((r - 1 : Nat) : Int) := by omega
    refine (fun (leafN : _) (nextS : kd ≠ 3 → _) => ⟨_, rfl, rfl, _, rfl, ite2 (fun _ => leafN) (fun c4 => ⟨_, rfl, _, _, rfl, rfl, _, rfl, ite2
      (fun _ => ⟨_, rfl, rfl, _, rfl, ite2 (fun _ => leafN) (fun _ => nextS ?n1)⟩) (fun _ => nextS ?n2)⟩)⟩) ?leafN ?nextS
    case n1 => exact fun z => c4 (by rw [z]; rfl)
    case n2 => exact fun z => c4 (by rw [z]; rfl)
    case leafN =>
      refine ⟨_, rfl, _, rfl, _, rfl, _, _, rfl, rfl, _, rfl, b, d, kv, r - 1, left, ?_, x1, hK1, by omega, fun v f H2 b2 x2 fm fi => ⟨l2, fun p np => ?_⟩⟩
      · show [V.ref b, kv, V.int ((r : Int) - 1), V.int left] = _
        rw [hrr]
      · exact q _ (.neg f) _ ((b1.trans b2).trans (.new _ np)) (x2.new np) (mk_neg fm np) (fine_neg h2 fi)
    case nextS =>
      intro n3
      refine ⟨_, rfl, _, _, rfl, rfl, _, rfl, ite2 (fun c6 => ?_) (fun _ => ?_)⟩
      · have c6' : kd < 6 := of_decide_eq_true c6
        obtain ⟨bq, hq⟩ : ∃ bq, atI [V.str "some", V.str "all"] (kd - 4) = some (.str (qn bq)) := by
          have h : kd = 4 ∨ kd = 5 := by omega
          rcases h with h | h
          · exact ⟨true, at_of (j := 0) (by omega) rfl⟩
          · exact ⟨false, at_of (j := 1) (by omega) rfl⟩
        refine ⟨l2, fun L nL => ⟨_, rfl, _, _, rfl, rfl, L, _, _, _, rfl, rfl, SqL.of upd_same, hq, ?_⟩⟩
        have tL := tk_new (K := K) nL (.lst [V.str "some", V.str "all"])
        refine ⟨_, rfl, b, d, rfl, x1.new nL, fun x H2 hx b2 x2 => ?_⟩
        refine ⟨_, rfl, _, rfl, _, rfl, _, _, rfl, rfl, _, rfl, _, _, rfl, rfl, b, d, kv, r - 1, left - 1, ?_, x2, (hK1.tk tL).tk (b2.tk (x1.new nL)), by omega, fun v f H3 b3 x3 fm fi => ⟨l3, fun p np => ?_⟩⟩
        · show [V.ref b, kv, V.int ((r : Int) - 1), V.int (left - 1)] = _
          rw [hrr]
        · exact q _ (.qu bq x f) _ ((b1.trans ((But.new _ nL).trans (b2.trans b3))).trans (.new _ np)) (x3.new np) (mk_qu fm np) (fine_qu h2 hx fi)
      · refine ⟨_, rfl, b, d, 4, rfl, x1, by decide, fun m H2 m0 m1 b2 x2 => ⟨Nat.zero_le _, fun D nD => ?_⟩⟩
        have hK2 := hK1.tk (b2.tk x1)
        obtain ⟨qq, hqq, hq3⟩ := room_div h2 m1
        refine ⟨_, rfl, m, rfl, by omega, by omega, for_range (lo := 0) (n := m.toNat) (fun i σ H' => ∃ (us : List V) (fs : List Fm) (k : Option V), σ = [some (.ref b), some kv, some (.int (r : Int)), some (.int left), some (.int kd), none, none, k, some (.int m), some (.ref D)] ∧
          H' D = some (.lst us) ∧ FmsAt K H' us fs ∧ fs.length = i ∧ (∀ g ∈ fs, Fine qq g) ∧ But b H2 H' ∧ BoxAt H' b d) ⟨[], [], none, rfl, upd_same, .nil, rfl, fun g hg => (nomatch hg), .new _ nD, x2.new nD⟩ ?_ ?_⟩
        · rintro i σ H' hi ⟨us, fs, k, rfl, hD, hF, hl, hg, bk, xk⟩
          obtain ⟨e1, e2⟩ := hqq (by omega)
          refine ⟨_, rfl, .inl ⟨rfl, _, SqL.of hD⟩, _, rfl, _, rfl, _, rfl, _, _, rfl, rfl, _, rfl, 1, m, rfl, _, _, rfl, rfl, ⟨by split <;> omega, by split <;> omega⟩, _, rfl, b, d, kv, qq, left, ?_, xk, hK2.tk (bk.tk x2), by omega, fun v f Hx bx xx fm fi => ?_⟩
          · show [V.ref b, kv, V.int (((r : Int) - 1).fdiv (if m > 1 then m else 1)), V.int left] = _
            rw [e1]
          · have hDx := bx _ _ (box_ne x2 nD).1 hD
            refine ⟨D, us, _, rfl, rfl, hDx, lineOk (by rw [hF.length]; omega), us ++ [v], fs ++ [f], _, rfl, upd_same, ?_, by simp [hl], fun g h => ?_, (bk.trans bx).put _ nD, x2.put nD xx⟩
            · exact (FmsAt.append (.cons fm .nil) (hF.tk (bx.tk xk))).tk (tk_lst hDx _)
            · rcases List.mem_append.mp h with z | z
              · exact hg g z
              · rw [List.mem_singleton.mp z]; exact fi
        · rintro σ H' ⟨us, fs, k, rfl, hD, hF, hl, hg, bk, xk⟩
          obtain ⟨bc, hc⟩ : ∃ bc, atI [V.str "and", V.str "or"] (kd % 2) = some (.str (cn bc)) := by
            have h : kd % 2 = 0 ∨ kd % 2 = 1 := by omega
            rcases h with h | h
            · exact ⟨true, at_of (j := 0) (by omega) rfl⟩
            · exact ⟨false, at_of (j := 1) (by omega) rfl⟩
          refine ⟨l2, fun L nL => ⟨_, rfl, _, _, rfl, rfl, (by show (0 : Int) < 2; decide), L, _, _, _, rfl, rfl, SqL.of upd_same, hc, ?_⟩⟩
          have nDL : D ≠ L := ne_of_none hD nL
          refine ⟨_, rfl, D, us, rfl, .inl ⟨SqL.of (by rw [upd_ne nDL]; exact hD), fun t nt => ⟨l2, fun p np => ?_⟩⟩⟩
          refine q _ (.con bc fs) _ ((b1.trans (b2.trans (bk.trans ((But.new _ nL).trans (.new _ nt))))).trans (.new _ np)) (((xk.new nL).new nt).new np)
            (mk_con (SqT.of upd_same) ((hF.tk (tk_new nL _)).tk (tk_new nt _)) np) (fine_con h2 (by rw [hl]; exact hq3) (by omega) hg)
end
end K1

set_option Elab.async false
set_option linter.all false
set_option maxRecDepth 100000
set_option maxHeartbeats 4000000
namespace K1
open PySem L2 Fo
open C8 (Cal pe_c pss_cut)
section
variable {P : Program} {w : World} {K : PySem.W.Frag} {mg : Str → Option Value} {base : Heap}
/-! ### inner, own_names -/
def spInner (K : PySem.W.Frag) : Sp := fun vs H Q _ => ∃ (v : V) (f : Fm), vs = [v] ∧ FmAt K H v f ∧ ∀ (t : Addr) (us : List V) (H' : Hp), Same H H' → SqT K H' t us → FmsAt K H' us f.kids → Q (.ref t) H'
abbrev nInner : List Str := ["formula", "kind"]
theorem scInner : FnScope nInner ["formula"] (defScope sInner) := ⟨rfl, rfl, rfl, by decide +kernel, rfl, by decide +kernel, by decide +kernel⟩
theorem inF {x : V} {xs : List V} (h : inV x xs = false) : (V.bl (if false = true then !inV x xs else inV x xs)) = .bl false := by rw [h]; rfl
theorem inT {x : V} {xs : List V} (h : inV x xs = true) : (V.bl (if false = true then !inV x xs else inV x xs)) = .bl true := by rw [h]; rfl
theorem ok_inner {f : Addr} {fd : FuncData} (B : Bt mg) (F : Fun K "inner" "inner" sInner f fd) : FnOk P w K mg base CX0 1 f fd ["formula"] (spInner K) := by
  refine F.ok scInner (fun vs H Q E h => ?_) (fun cdv A outer s H vs Q E hr h => ?_)
  · obtain ⟨v, f, rfl, _⟩ := h
    rfl
  obtain ⟨v, fm, rfl, hF, q⟩ := h
  have nd := scInner.nd
  refine ⟨_, (pss_cons (ps_set (i := 1) nd rfl (.inl rfl) (pe_ix ix_tup (pv 0) pe_int (fun _ _ => rfl)))
    (pss_cons (ps_if (pt_cmpR op_in_seq (pv 1) (pe_tup (pa_cons pe_str (pa_cons pe_str pa_nil))) rfl) (pss_one (ps_ret (pe_ix ix_tup (pv 0) pe_int (fun _ _ => rfl)))) pss_nil)
    (pss_cons (ps_if (pt_cmpR op_eq (pv 1) pe_str (nomark _)) (pss_one (ps_ret (pe_tup (pa_cons (pe_ix ix_tup (pv 0) pe_int (fun _ _ => rfl)) pa_nil)))) pss_nil)
    (pss_cons (ps_if (pt_cmpR op_in_seq (pv 1) (pe_tup (pa_cons pe_str (pa_cons pe_str pa_nil))) rfl) (pss_one (ps_ret (pe_tup (pa_cons (pe_ix ix_tup (pv 0) pe_int (fun _ _ => rfl)) pa_nil)))) pss_nil)
    (pss_one (ps_ret (pe_tup pa_nil))))))), ?_⟩
  cases fm with
  | rel n xs =>
    rw [FmAt] at hF
    obtain ⟨a, t, rfl, h1, h2⟩ := hF
    refine ⟨_, rfl, a, _, _, _, rfl, rfl, h1, at_of (j := 0) rfl rfl, ?_⟩
    refine ⟨_, rfl, l2, fun T nT => ⟨T, _, rfl, .inr (SqT.of upd_same), rfl, rfl, false, inF (by decide +kernel), ?_⟩⟩
    refine ⟨_, rfl, rfl, false, (by decide +kernel), ?_⟩
    refine ⟨_, rfl, l2, fun S nS => ⟨S, _, rfl, .inr (SqT.of upd_same), rfl, rfl, false, inF (by decide +kernel), ?_⟩⟩
    exact ⟨Nat.zero_le _, fun z nz => q z [] _ ((same_new nT _).trans ((same_new nS _).trans (same_new nz _))) (SqT.of upd_same) .nil⟩
  | same x y =>
    rw [FmAt] at hF
    obtain ⟨a, rfl, h1⟩ := hF
    refine ⟨_, rfl, a, _, _, _, rfl, rfl, h1, at_of (j := 0) rfl rfl, ?_⟩
    refine ⟨_, rfl, l2, fun T nT => ⟨T, _, rfl, .inr (SqT.of upd_same), rfl, rfl, false, inF (by decide +kernel), ?_⟩⟩
    refine ⟨_, rfl, rfl, false, (by decide +kernel), ?_⟩
    refine ⟨_, rfl, l2, fun S nS => ⟨S, _, rfl, .inr (SqT.of upd_same), rfl, rfl, false, inF (by decide +kernel), ?_⟩⟩
    exact ⟨Nat.zero_le _, fun z nz => q z [] _ ((same_new nT _).trans ((same_new nS _).trans (same_new nz _))) (SqT.of upd_same) .nil⟩
  | neg f =>
    rw [FmAt] at hF
    obtain ⟨a, u, rfl, h1, h2⟩ := hF
    refine ⟨_, rfl, a, _, _, _, rfl, rfl, h1, at_of (j := 0) rfl rfl, ?_⟩
    refine ⟨_, rfl, l2, fun T nT => ⟨T, _, rfl, .inr (SqT.of upd_same), rfl, rfl, false, inF (by decide +kernel), ?_⟩⟩
    refine ⟨_, rfl, rfl, true, (by decide +kernel), ?_⟩
    have t1 := same_new nT (.tup [V.str "and", V.str "or"])
    refine ⟨_, rfl, a, _, _, _, rfl, rfl, Tk.of_same t1 _ _ h1, at_of (j := 1) rfl rfl, l1, fun z nz => ?_⟩
    exact q z [u] _ (t1.trans (same_new nz _)) (SqT.of upd_same) (.cons ((h2.tk (.of_same t1)).tk (tk_new nz _)) .nil)
  | con b fs =>
    rw [FmAt] at hF
    obtain ⟨a, t, us, rfl, h1, h2, h3⟩ := hF
    refine ⟨_, rfl, a, _, _, _, rfl, rfl, h1, at_of (j := 0) rfl rfl, ?_⟩
    refine ⟨_, rfl, l2, fun T nT => ⟨T, _, rfl, .inr (SqT.of upd_same), rfl, rfl, true, inT (by cases b <;> decide +kernel), ?_⟩⟩
    have t1 := same_new nT (.tup [V.str "and", V.str "or"])
    exact ⟨_, rfl, a, _, _, _, rfl, rfl, Tk.of_same t1 _ _ h1, at_of (j := 1) rfl rfl, q t us _ t1 (Tk.of_same t1 _ _ h2) (h3.tk (.of_same t1))⟩
  | qu b x f =>
    rw [FmAt] at hF
    obtain ⟨a, u, rfl, h1, h2⟩ := hF
    refine ⟨_, rfl, a, _, _, _, rfl, rfl, h1, at_of (j := 0) rfl rfl, ?_⟩
    refine ⟨_, rfl, l2, fun T nT => ⟨T, _, rfl, .inr (SqT.of upd_same), rfl, rfl, false, inF (by cases b <;> decide +kernel), ?_⟩⟩
    refine ⟨_, rfl, rfl, false, (by cases b <;> decide +kernel), ?_⟩
    refine ⟨_, rfl, l2, fun S nS => ⟨S, _, rfl, .inr (SqT.of upd_same), rfl, rfl, true, inT (by cases b <;> decide +kernel), ?_⟩⟩
    have t1 := (same_new nT (.tup [V.str "and", V.str "or"])).trans (same_new nS (.tup [V.str "some", V.str "all"]))
    refine ⟨_, rfl, a, _, _, _, rfl, rfl, Tk.of_same t1 _ _ h1, at_of (j := 2) rfl rfl, l1, fun z nz => ?_⟩
    exact q z [u] _ (t1.trans (same_new nz _)) (SqT.of upd_same) (.cons ((h2.tk (.of_same t1)).tk (tk_new nz _)) .nil)
def spLInner (K : PySem.W.Frag) : Sp := fun vs H Q _ => ∃ (v : V) (f : Fm), vs = [v] ∧ FmAt K H v f ∧ ∀ (l : Addr) (us : List V) (H' : Hp), Same H H' → H l = none → H' l = some (.lst us) → FmsAt K H' us f.kids → Q (.ref l) H'
abbrev nLInner : List Str := ["formula"]
theorem scLInner : FnScope nLInner ["formula"] (defScope sLInner) := ⟨rfl, rfl, rfl, by decide +kernel, rfl, by decide +kernel, by decide +kernel⟩
theorem ok_linner {f : Addr} {fd : FuncData} (B : Bt mg) (F : Fun K "_law_inner" "_law_inner" sLInner f fd) : FnOk P w K mg base CX0 1 f fd ["formula"] (spLInner K) := by
  refine F.ok scLInner (fun vs H Q E h => ?_) (fun cdv A outer s H vs Q E hr h => ?_)
  · obtain ⟨v, f, rfl, _⟩ := h
    rfl
  obtain ⟨v, fm, rfl, hF, q⟩ := h
  have nd := scLInner.nd
  refine ⟨_, (pss_cons (ps_if (PW.pt (pw_or (pt_cmpR op_eq (pe_ix ix_tup (pv 0) pe_int (fun _ _ => rfl)) pe_str (nomark _)) (pw_or1 (pt_cmpR op_eq (pe_ix ix_tup (pv 0) pe_int (fun _ _ => rfl)) pe_str (nomark _))))) (pss_one (ps_ret (pe_lst pa_nil))) pss_nil)
    (pss_cons (ps_if (PW.pt (pw_or (pt_cmpR op_eq (pe_ix ix_tup (pv 0) pe_int (fun _ _ => rfl)) pe_str (nomark _)) (pw_or1 (pt_cmpR op_eq (pe_ix ix_tup (pv 0) pe_int (fun _ _ => rfl)) pe_str (nomark _))))) (pss_one (ps_ret (pe_callTy call_list_of rfl B.list (by decide +kernel) (pa_cons (pe_ix ix_tup (pv 0) pe_int (fun _ _ => rfl)) pa_nil)))) pss_nil)
    (pss_one (ps_ret (pe_lst (pa_cons (pe_ix ix_tup (pv 0) (pe_op op_sub (pe_callB call_len_seq rfl B.len PySem.boot_len (pa_cons (pv 0) pa_nil)) pe_int) (fun _ _ => rfl)) pa_nil)))))), ?_⟩
  cases fm with
  | rel n xs =>
    rw [FmAt] at hF
    obtain ⟨a, t, rfl, h1, h2⟩ := hF
    refine ⟨_, rfl, a, _, _, _, rfl, rfl, h1, at_of (j := 0) rfl rfl, rfl, true, (by decide +kernel), ?_⟩
    exact ⟨Nat.zero_le _, fun l nl => q l [] _ (same_new nl _) nl upd_same .nil⟩
  | same x y =>
    rw [FmAt] at hF
    obtain ⟨a, rfl, h1⟩ := hF
    refine ⟨_, rfl, a, _, _, _, rfl, rfl, h1, at_of (j := 0) rfl rfl, rfl, false, (by decide +kernel), ?_⟩
    refine ⟨_, rfl, a, _, _, _, rfl, rfl, h1, at_of (j := 0) rfl rfl, rfl, true, (by decide +kernel), ?_⟩
    exact ⟨Nat.zero_le _, fun l nl => q l [] _ (same_new nl _) nl upd_same .nil⟩
  | neg f =>
    rw [FmAt] at hF
    obtain ⟨a, u, rfl, h1, h2⟩ := hF
    refine ⟨_, rfl, a, _, _, _, rfl, rfl, h1, at_of (j := 0) rfl rfl, rfl, false, (by decide +kernel), ?_⟩
    refine ⟨_, rfl, a, _, _, _, rfl, rfl, h1, at_of (j := 0) rfl rfl, rfl, false, (by decide +kernel), ?_⟩
    refine ⟨_, rfl, a, _, _, _, rfl, rfl, h1, at_of (j := 0) rfl rfl, rfl, false, (by decide +kernel), ?_⟩
    refine ⟨_, rfl, a, _, _, _, rfl, rfl, h1, at_of (j := 0) rfl rfl, rfl, false, (by decide +kernel), ?_⟩
    refine ⟨_, rfl, _, rfl, a, _, rfl, .inr h1, _, _, rfl, rfl, a, _, _, _, rfl, rfl, h1, at_of (j := 1) rfl rfl, l1, fun l nl => ?_⟩
    exact q l [u] _ (same_new nl _) nl upd_same (.cons (h2.tk (tk_new nl _)) .nil)
  | con b fs =>
    rw [FmAt] at hF
    obtain ⟨a, t, us, rfl, h1, h2, h3⟩ := hF
    refine ⟨_, rfl, a, _, _, _, rfl, rfl, h1, at_of (j := 0) rfl rfl, rfl, false, (by cases b <;> decide +kernel), ?_⟩
    refine ⟨_, rfl, a, _, _, _, rfl, rfl, h1, at_of (j := 0) rfl rfl, rfl, false, (by cases b <;> decide +kernel), ?_⟩
    refine ⟨_, rfl, a, _, _, _, rfl, rfl, h1, at_of (j := 0) rfl rfl, rfl, _, rfl, ?_⟩
    refine (fun fin => ite2 (fun _ => fin) (fun c => ⟨_, rfl, a, _, _, _, rfl, rfl, h1, at_of (j := 0) rfl rfl, rfl, true, ?e2, fin⟩)) ?fin
    case e2 =>
      cases b with
      | true => exact absurd (by decide +kernel) c
      | false => decide +kernel
    case fin => exact ⟨_, rfl, a, _, _, _, rfl, rfl, h1, at_of (j := 1) rfl rfl, t, us, rfl, .inr h2, fun l nl => q l us _ (same_new nl _) nl upd_same (h3.tk (tk_new nl _))⟩
  | qu b x f =>
    rw [FmAt] at hF
    obtain ⟨a, u, rfl, h1, h2⟩ := hF
    refine ⟨_, rfl, a, _, _, _, rfl, rfl, h1, at_of (j := 0) rfl rfl, rfl, false, (by cases b <;> decide +kernel), ?_⟩
    refine ⟨_, rfl, a, _, _, _, rfl, rfl, h1, at_of (j := 0) rfl rfl, rfl, false, (by cases b <;> decide +kernel), ?_⟩
    refine ⟨_, rfl, a, _, _, _, rfl, rfl, h1, at_of (j := 0) rfl rfl, rfl, false, (by cases b <;> decide +kernel), ?_⟩
    refine ⟨_, rfl, a, _, _, _, rfl, rfl, h1, at_of (j := 0) rfl rfl, rfl, false, (by cases b <;> decide +kernel), ?_⟩
    refine ⟨_, rfl, _, rfl, a, _, rfl, .inr h1, _, _, rfl, rfl, a, _, _, _, rfl, rfl, h1, at_of (j := 2) rfl rfl, l1, fun l nl => ?_⟩
    exact q l [u] _ (same_new nl _) nl upd_same (.cons (h2.tk (tk_new nl _)) .nil)
def spLRank (K : PySem.W.Frag) (n : Nat) : Sp := fun vs H Q _ => ∃ (v : V) (f : Fm), vs = [v] ∧ FmAt K H v f ∧ f.dp < n ∧ f.ct ≤ 1000 ∧ ∀ (H' : Hp), Same H H' → Q (.int (f.rk : Int)) H'
abbrev nLRank : List Str := ["formula", "row"]
theorem scLRank : FnScope nLRank ["formula"] (defScope sLRank) := ⟨rfl, rfl, rfl, by decide +kernel, rfl, by decide +kernel, by decide +kernel⟩
theorem ok_lrank {n : Nat} {f : Addr} {fd : FuncData} (B : Bt mg) (cLRank : Cal P w K mg base n "_law_rank" (spLRank K n) []) (F : Fun K "_law_rank" "_law_rank" sLRank f fd) : FnOk P w K mg base CX0 (n + 1) f fd ["formula"] (spLRank K (n + 1)) := by
  refine F.ok scLRank (fun vs H Q E h => ?_) (fun cdv A outer s H vs Q E hr h => ?_)
  · obtain ⟨v, f, rfl, _⟩ := h
    rfl
  obtain ⟨v, fm, rfl, hF, hd, hc, q⟩ := h
  have nd := scLRank.nd
  refine ⟨_, (pss_cons (ps_if (PW.pt (pw_or (pt_cmpR op_eq (pe_ix ix_tup (pv 0) pe_int (fun _ _ => rfl)) pe_str (nomark _)) (pw_or1 (pt_cmpR op_eq (pe_ix ix_tup (pv 0) pe_int (fun _ _ => rfl)) pe_str (nomark _))))) (pss_one (ps_ret (pe_op op_add pe_int (pe_c cLRank hr (Nat.le_refl _) rfl (pa_cons (pe_ix ix_tup (pv 0) pe_int (fun _ _ => rfl)) pa_nil))))) pss_nil)
    (pss_cons (ps_if (pt_cmpR op_eq (pe_ix ix_tup (pv 0) pe_int (fun _ _ => rfl)) pe_str (nomark _)) (pss_one (ps_ret (pe_c cLRank hr (Nat.le_refl _) rfl (pa_cons (pe_ix ix_tup (pv 0) pe_int (fun _ _ => rfl)) pa_nil)))) pss_nil)
    (pss_cons (ps_if (PW.pt (pw_or (pt_cmpR op_eq (pe_ix ix_tup (pv 0) pe_int (fun _ _ => rfl)) pe_str (nomark _)) (pw_or1 (pt_cmpR op_eq (pe_ix ix_tup (pv 0) pe_int (fun _ _ => rfl)) pe_str (nomark _))))) (pss_one (ps_ret (pe_callB (cr_max rfl) rfl B.max (by decide +kernel) (pa_cons (pe_op op_cat (pe_lst (pa_cons pe_int pa_nil)) (pe_lc (own := [("row", 1)]) (g := gName 1) (tt := tYes) rfl nd (pi_tup (pe_ix ix_tup (pv 0) pe_int (fun _ _ => rfl))) (blkOk_by (own := [("row", 1)]) (N := nLRank) (sc := defScope sLRank) (by decide +kernel)) (fun _ _ _ _ _ => (pg_name (i := 1) nd rfl (Or.inl rfl))) (fun _ _ _ _ _ => pts_nil) (fun _ _ _ _ _ => (pe_c cLRank hr (Nat.le_refl _) rfl (pa_cons (pv 1) pa_nil))))) pa_nil)))) pss_nil)
    (pss_one (ps_ret pe_int))))), ?_⟩
  cases fm with
  | rel n xs =>
    rw [FmAt] at hF
    obtain ⟨a, t, rfl, h1, h2⟩ := hF
    refine ⟨_, rfl, a, _, _, _, rfl, rfl, h1, at_of (j := 0) rfl rfl, rfl, false, (by decide +kernel), ?_⟩
    refine ⟨_, rfl, a, _, _, _, rfl, rfl, h1, at_of (j := 0) rfl rfl, rfl, false, (by decide +kernel), ?_⟩
    refine ⟨_, rfl, a, _, _, _, rfl, rfl, h1, at_of (j := 0) rfl rfl, rfl, false, (by decide +kernel), ?_⟩
    refine ⟨_, rfl, a, _, _, _, rfl, rfl, h1, at_of (j := 0) rfl rfl, rfl, false, (by decide +kernel), ?_⟩
    refine ⟨_, rfl, a, _, _, _, rfl, rfl, h1, at_of (j := 0) rfl rfl, rfl, false, (by decide +kernel), ?_⟩
    exact q H (Same.refl _)
  | same x y =>
    rw [FmAt] at hF
    obtain ⟨a, rfl, h1⟩ := hF
    refine ⟨_, rfl, a, _, _, _, rfl, rfl, h1, at_of (j := 0) rfl rfl, rfl, false, (by decide +kernel), ?_⟩
    refine ⟨_, rfl, a, _, _, _, rfl, rfl, h1, at_of (j := 0) rfl rfl, rfl, false, (by decide +kernel), ?_⟩
    refine ⟨_, rfl, a, _, _, _, rfl, rfl, h1, at_of (j := 0) rfl rfl, rfl, false, (by decide +kernel), ?_⟩
    refine ⟨_, rfl, a, _, _, _, rfl, rfl, h1, at_of (j := 0) rfl rfl, rfl, false, (by decide +kernel), ?_⟩
    refine ⟨_, rfl, a, _, _, _, rfl, rfl, h1, at_of (j := 0) rfl rfl, rfl, false, (by decide +kernel), ?_⟩
    exact q H (Same.refl _)
  | neg f =>
    rw [FmAt] at hF
    obtain ⟨a, u, rfl, h1, h2⟩ := hF
    refine ⟨_, rfl, a, _, _, _, rfl, rfl, h1, at_of (j := 0) rfl rfl, rfl, false, (by decide +kernel), ?_⟩
    refine ⟨_, rfl, a, _, _, _, rfl, rfl, h1, at_of (j := 0) rfl rfl, rfl, false, (by decide +kernel), ?_⟩
    refine ⟨_, rfl, a, _, _, _, rfl, rfl, h1, at_of (j := 0) rfl rfl, rfl, true, (by decide +kernel), ?_⟩
    have z1 : 1 + f.dp < n + 1 := hd
    have z2 : 1 + f.ct ≤ 1000 := hc
    exact ⟨_, rfl, a, _, _, _, rfl, rfl, h1, at_of (j := 1) rfl rfl, u, f, rfl, h2, by omega, by omega, fun H' s' => q H' s'⟩
  | qu b x f =>
    rw [FmAt] at hF
    obtain ⟨a, u, rfl, h1, h2⟩ := hF
    have z1 : 1 + f.dp < n + 1 := hd
    have z2 : 1 + f.ct ≤ 1000 := hc
    refine ⟨_, rfl, a, _, _, _, rfl, rfl, h1, at_of (j := 0) rfl rfl, rfl, _, rfl, ?_⟩
    refine (fun fin => ite2 (fun _ => fin) (fun c => ⟨_, rfl, a, _, _, _, rfl, rfl, h1, at_of (j := 0) rfl rfl, rfl, true, ?e2, fin⟩)) ?fin
    case e2 =>
      cases b with
      | true => exact absurd (by decide +kernel) c
      | false => decide +kernel
    case fin =>
      refine ⟨_, rfl, a, _, _, _, rfl, rfl, h1, at_of (j := 2) rfl rfl, u, f, rfl, h2, by omega, by omega, fun H' s' => ⟨_, _, rfl, rfl, ?_⟩⟩
      exact q H' s'
  | con b fs =>
    rw [FmAt] at hF
    obtain ⟨a, t, us, rfl, h1, h2, h3⟩ := hF
    have z1 : Fm.dps fs < n + 1 := hd
    have z2 : 1 + Fm.cts fs ≤ 1000 := hc
    have lf := Fm.len_cts fs
    refine ⟨_, rfl, a, _, _, _, rfl, rfl, h1, at_of (j := 0) rfl rfl, rfl, false, (by cases b <;> decide +kernel), ?_⟩
    refine ⟨_, rfl, a, _, _, _, rfl, rfl, h1, at_of (j := 0) rfl rfl, rfl, false, (by cases b <;> decide +kernel), ?_⟩
    refine ⟨_, rfl, a, _, _, _, rfl, rfl, h1, at_of (j := 0) rfl rfl, rfl, false, (by cases b <;> decide +kernel), ?_⟩
    refine ⟨_, rfl, a, _, _, _, rfl, rfl, h1, at_of (j := 0) rfl rfl, rfl, _, rfl, ?_⟩
    refine (fun fin => ite2 (fun _ => fin) (fun c => ⟨_, rfl, a, _, _, _, rfl, rfl, h1, at_of (j := 0) rfl rfl, rfl, true, ?e2, fin⟩)) ?fin
    case e2 =>
      cases b with
      | true => exact absurd (by decide +kernel) c
      | false => decide +kernel
    case fin =>
      refine ⟨l1, fun p np => ?_⟩
      have t1 := tk_new (K := K) np (.lst [.int 0])
      refine ⟨_, rfl, a, _, _, _, rfl, rfl, t1 _ _ h1, at_of (j := 1) rfl rfl, t, rfl, ⟨_, t1 _ _ h2⟩, fun D nD => ?_⟩
      refine lc_tup (xs := us) (fun i H' => H' D = some (.lst (((fs.take i).map fun k => (k.rk : Int)).map V.int)) ∧ Same (upd H p (.lst [.int 0])) H') ⟨upd_same, same_new nD _⟩ (fun i H' _ h => Tk.of_same h.2 _ _ (t1 _ _ h2)) ?_ ?_
      · rintro i u H1 hi ⟨hD, s1⟩
        obtain ⟨g, hg, hu⟩ := ((h3.tk t1).tk (.of_same s1)).get hi
        have hm := List.mem_of_getElem? hg
        have d1 := Fm.dps_mem hm
        have d2 := Fm.cts_mem hm
        refine ⟨rfl, _, rfl, u, g, rfl, hu, by omega, by omega, fun H2 s2 => ⟨_, s2 _ _ hD, lineOk (by rw [List.length_map, List.length_map, List.length_take]; omega), ?_, same_to (s1.trans s2) nD⟩⟩
        rw [upd_same, List.take_succ, hg, List.map_append, List.map_append]
        rfl
      · rintro H1 ⟨hD, s1⟩
        rw [h3.length, List.take_length] at hD
        have hp := s1 _ _ (upd_same : upd H p (.lst [.int 0]) p = _)
        refine ⟨p, D, [.int 0], _, rfl, rfl, hp, hD, Nat.le_of_lt (lineOk (by rw [List.length_map, List.length_map, List.length_singleton]; omega)), fun r nr => ?_⟩
        refine ⟨r, 0 :: fs.map (fun k => (k.rk : Int)), rfl, SqL.of (by rw [upd_same]; rfl), by rw [List.length_cons]; omega, fun m hm hle => ?_⟩
        have m0 : 0 ≤ m := hle 0 List.mem_cons_self
        have e : Fm.rks fs = m.toNat := by
          refine Fm.rks_is (fun g hg => ?_) ?_
          · have := hle (g.rk : Int) (List.mem_cons_of_mem _ (List.mem_map.mpr ⟨g, hg, rfl⟩))
            omega
          · rcases List.mem_cons.mp hm with z | z
            · left; omega
            · obtain ⟨g, hg, e⟩ := List.mem_map.mp z
              exact .inr ⟨g, hg, by omega⟩
        have e' : m = ((Fm.con b fs).rk : Int) := by
          show m = ((Fm.rks fs : Nat) : Int)
          omega
        rw [e']
        exact q _ ((same_new np _).trans (s1.trans (same_new nr _)))
end
end K1

set_option Elab.async false
set_option linter.all false
set_option maxRecDepth 100000
set_option maxHeartbeats 4000000
namespace K1
open PySem L2 Fo
open C8 (Cal pe_c pss_cut)
section
variable {P : Program} {w : World} {K : PySem.W.Frag} {mg : Str → Option Value} {base : Heap}
theorem nms_take {fs : List Fm} {i : Nat} {g : Fm} (h : fs[i]? = some g) : Fm.nms (fs.take (i + 1)) = Fm.nms (fs.take i) ++ g.nm := by
  rw [List.take_succ, h]
  show Fm.nms (fs.take i ++ [g]) = _
  rw [Fm.nms_append, Fm.nms_single]
theorem nms_le (fs : List Fm) (i : Nat) : (Fm.nms (fs.take i)).length ≤ (Fm.nms fs).length := by
  have e : Fm.nms fs = Fm.nms (fs.take i) ++ Fm.nms (fs.drop i) := by rw [← Fm.nms_append, List.take_append_drop]
  rw [e, List.length_append]
  omega
theorem notIn_k {X : Cx} {K : PySem.W.Frag} (h : X.K = K) : OpR X (compareOp .NotIn) (rIn K true) := by
  subst h
  exact op_notIn_seq
theorem notIn_eq (x : Str) (bs : List Str) : (V.bl (if true = true then !inV (.str x) (bs.map V.str) else inV (.str x) (bs.map V.str))) = .bl (decide (x ∉ bs)) := by
  rw [inV_strs]
  by_cases e : x ∈ bs <;> simp [e]
theorem ixT_k {X : Cx} {K : PySem.W.Frag} (h : X.K = K) : IxR X (rIxT K) := by
  subst h
  exact ix_tup
def spLFree (K : PySem.W.Frag) (n : Nat) : Sp := fun vs H Q _ => ∃ (v : V) (f : Fm), vs = [v] ∧ FmAt K H v f ∧ f.dp < n ∧ f.nm.length ≤ 2000 ∧ ∀ (l : Addr) (ys : List Str) (H' : Hp), Same H H' → H' l = some (.lst (ys.map V.str)) → ys.Pairwise Tx.Lt → (∀ x, x ∈ ys ↔ x ∈ f.fr) → ys.length ≤ f.nm.length → Q (.ref l) H'
abbrev nLFree : List Str := ["formula", "names", "row", "name"]
theorem scLFree : FnScope nLFree ["formula"] (defScope sLFree) := ⟨rfl, rfl, rfl, by decide +kernel, rfl, by decide +kernel, by decide +kernel⟩
theorem frs_take {fs : List Fm} {i : Nat} {g : Fm} (h : fs[i]? = some g) (x : Str) : x ∈ Fm.frs (fs.take (i + 1)) ↔ x ∈ Fm.frs (fs.take i) ∨ x ∈ g.fr := by
  rw [List.take_succ, h]
  show x ∈ Fm.frs (fs.take i ++ [g]) ↔ _
  rw [Fm.mem_frs, Fm.mem_frs]
  simp only [List.mem_append, List.mem_singleton]
  constructor
  · rintro ⟨f, a | a, b⟩
    · exact .inl ⟨f, a, b⟩
    · exact .inr (a ▸ b)
  · rintro (⟨f, a, b⟩ | b)
    · exact ⟨f, .inl a, b⟩
    · exact ⟨g, .inr rfl, b⟩
theorem ok_lfree {n : Nat} {f : Addr} {fd : FuncData} (B : Bt mg) (cLFree : Cal P w K mg base n "_law_free" (spLFree K n) []) (F : Fun K "_law_free" "_law_free" sLFree f fd) : FnOk P w K mg base CX0 (n + 1) f fd ["formula"] (spLFree K (n + 1)) := by
  refine F.ok scLFree (fun vs H Q E h => ?_) (fun cdv A outer s H vs Q E hr h => ?_)
  · obtain ⟨v, f, rfl, _⟩ := h
    rfl
  obtain ⟨v, fm, rfl, hF, hd, hn, q⟩ := h
  have nd := scLFree.nd
  refine ⟨_, (pss_cons (ps_if (pt_cmpR op_eq (pe_ix ix_tup (pv 0) pe_int (fun _ _ => rfl)) pe_str (nomark _)) (pss_one (ps_ret (pe_callB (Tx.cr_sortTx rfl) rfl B.sorted (by decide +kernel) (pa_cons (pe_callTy (Tx.cr_setTx rfl) rfl B.set (by decide +kernel) (pa_cons (pe_ix ix_tup (pv 0) pe_int (fun _ _ => rfl)) pa_nil)) pa_nil)))) pss_nil)
    (pss_cons (ps_if (pt_cmpR op_eq (pe_ix ix_tup (pv 0) pe_int (fun _ _ => rfl)) pe_str (nomark _)) (pss_one (ps_ret (pe_callB (Tx.cr_sortTx rfl) rfl B.sorted (by decide +kernel) (pa_cons (pe_callTy (Tx.cr_setTx rfl) rfl B.set (by decide +kernel) (pa_cons (pe_slice sl_tup (pv 0) (po_some pe_int) po_none) pa_nil)) pa_nil)))) pss_nil)
    (pss_cons (ps_if (pt_cmpR op_eq (pe_ix ix_tup (pv 0) pe_int (fun _ _ => rfl)) pe_str (nomark _)) (pss_one (ps_ret (pe_c cLFree hr (Nat.le_refl _) rfl (pa_cons (pe_ix (ixT_k rfl) (pv 0) pe_int (fun _ _ => rfl)) pa_nil)))) pss_nil)
    (pss_cons (ps_if (PW.pt (pw_or (pt_cmpR op_eq (pe_ix ix_tup (pv 0) pe_int (fun _ _ => rfl)) pe_str (nomark _)) (pw_or1 (pt_cmpR op_eq (pe_ix ix_tup (pv 0) pe_int (fun _ _ => rfl)) pe_str (nomark _))))) (pss_cons (ps_set (i := 1) nd rfl (.inl rfl) (pe_lst pa_nil))
    (pss_cons (ps_for PassesOwn.never rfl (pi_tup (pe_ix (ixT_k rfl) (pv 0) pe_int (fun _ _ => rfl))) (pg_name (i := 2) nd rfl (.inl rfl)) (pss_one (ps_set (i := 1) nd rfl (.inl rfl) (pe_op op_cat (pv 1) (pe_c cLFree hr (Nat.le_refl _) rfl (pa_cons (pv 2) pa_nil))))))
    (pss_one (ps_ret (pe_callB (Tx.cr_sortTx rfl) rfl B.sorted (by decide +kernel) (pa_cons (pe_callTy (Tx.cr_setTx rfl) rfl B.set (by decide +kernel) (pa_cons (pv 1) pa_nil)) pa_nil)))))) pss_nil)
    (pss_one (ps_ret (pe_lc (own := [("name", 3)]) (g := gName 3) (tt := _) rfl nd (pi_list (pe_c cLFree hr (Nat.le_refl _) rfl (pa_cons (pe_ix ix_tup (pv 0) pe_int (fun _ _ => rfl)) pa_nil))) (blkOk_by (own := [("name", 3)]) (N := nLFree) (sc := defScope sLFree) (by decide +kernel)) (fun _ _ _ _ _ => (pg_name (i := 3) nd rfl (Or.inl rfl))) (fun _ _ _ _ _ => pts_one (pt_cmpR op_ne (pv 3) (pe_ix (ixT_k rfl) (pv 0) pe_int (fun _ _ => rfl)) (nomark _))) (fun _ _ _ _ _ => (pv 3))))))))), ?_⟩
  cases fm with
  | rel n xs =>
    rw [FmAt] at hF
    obtain ⟨a, t, rfl, h1, h2⟩ := hF
    have hn' : xs.length ≤ 2000 := hn
    refine ⟨_, rfl, a, _, _, _, rfl, rfl, h1, at_of (j := 0) rfl rfl, rfl, true, (by decide +kernel), ?_⟩
    refine ⟨_, rfl, a, _, _, _, rfl, rfl, h1, at_of (j := 2) rfl rfl, t, xs, rfl, .inr h2, (by show xs.length + 1 < 4096; omega), fun D nD => ⟨D, xs, rfl, upd_same, fun ys p up mem len np => ?_⟩⟩
    exact q p ys _ ((same_new nD _).trans (same_new np _)) upd_same up mem len
  | same x y =>
    rw [FmAt] at hF
    obtain ⟨a, rfl, h1⟩ := hF
    refine ⟨_, rfl, a, _, _, _, rfl, rfl, h1, at_of (j := 0) rfl rfl, rfl, false, (by decide +kernel), ?_⟩
    refine ⟨_, rfl, a, _, _, _, rfl, rfl, h1, at_of (j := 0) rfl rfl, rfl, true, (by decide +kernel), ?_⟩
    refine ⟨_, rfl, _, rfl, a, _, rfl, h1, (by show ¬ (HT.sIx 3 0 (some 1) = 0 ∧ HT.sIx 3 3 none = 3); decide), fun z nz => ?_⟩
    refine ⟨z, [x, y], rfl, .inr (SqT.of upd_same), (by show 2 + 1 < 4096; omega), fun D nD => ⟨D, [x, y], rfl, upd_same, fun ys p up mem len np => ?_⟩⟩
    exact q p ys _ ((same_new nz _).trans ((same_new nD _).trans (same_new np _))) upd_same up mem len
  | neg f =>
    rw [FmAt] at hF
    obtain ⟨a, u, rfl, h1, h2⟩ := hF
    have z1 : 1 + f.dp < n + 1 := hd
    refine ⟨_, rfl, a, _, _, _, rfl, rfl, h1, at_of (j := 0) rfl rfl, rfl, false, (by decide +kernel), ?_⟩
    refine ⟨_, rfl, a, _, _, _, rfl, rfl, h1, at_of (j := 0) rfl rfl, rfl, false, (by decide +kernel), ?_⟩
    refine ⟨_, rfl, a, _, _, _, rfl, rfl, h1, at_of (j := 0) rfl rfl, rfl, true, (by decide +kernel), ?_⟩
    exact ⟨_, rfl, a, _, _, _, rfl, rfl, h1, at_of (j := 1) rfl rfl, u, f, rfl, h2, by omega, hn, fun l ys H' s' hl up mem len => q l ys H' s' hl up mem len⟩
  | con b fs =>
    rw [FmAt] at hF
    obtain ⟨a, t, us, rfl, h1, h2, h3⟩ := hF
    have z1 : Fm.dps fs < n + 1 := hd
    have z2 : (Fm.nms fs).length ≤ 2000 := hn
    refine ⟨_, rfl, a, _, _, _, rfl, rfl, h1, at_of (j := 0) rfl rfl, rfl, false, (by cases b <;> decide +kernel), ?_⟩
    refine ⟨_, rfl, a, _, _, _, rfl, rfl, h1, at_of (j := 0) rfl rfl, rfl, false, (by cases b <;> decide +kernel), ?_⟩
    refine ⟨_, rfl, a, _, _, _, rfl, rfl, h1, at_of (j := 0) rfl rfl, rfl, false, (by cases b <;> decide +kernel), ?_⟩
    refine ⟨_, rfl, a, _, _, _, rfl, rfl, h1, at_of (j := 0) rfl rfl, rfl, _, rfl, ?_⟩
    refine (fun fin => ite2 (fun _ => fin) (fun c => ⟨_, rfl, a, _, _, _, rfl, rfl, h1, at_of (j := 0) rfl rfl, rfl, true, ?e2, fin⟩)) ?fin
    case e2 =>
      cases b with
      | true => exact absurd (by decide +kernel) c
      | false => decide +kernel
    case fin =>
      refine ⟨Nat.zero_le _, fun N nN => ?_⟩
      have s0 := same_new nN (.lst [])
      have t0 := Tk.of_same (K := K) s0
      refine ⟨_, rfl, a, _, _, _, rfl, rfl, t0 _ _ h1, at_of (j := 1) rfl rfl, t, rfl, ⟨_, t0 _ _ h2⟩, ?_⟩
      refine for_tup (xs := us) (fun i σ H' => ∃ N zs row, σ = [some (.ref a), some (.ref N), row, none] ∧ Same H H' ∧ H' N = some (.lst (zs.map V.str)) ∧ (∀ x, x ∈ zs ↔ x ∈ Fm.frs (fs.take i)) ∧ zs.length ≤ (Fm.nms (fs.take i)).length)
        ⟨N, [], none, rfl, s0, upd_same, fun x => by simp [Fm.frs], by simp⟩ (fun i σ H' _ ⟨_, _, _, _, s3, _⟩ => Tk.of_same s3 _ _ h2) ?_ ?_
      · rintro i u σ H3 hi ⟨N', zs, row, rfl, s3, hN', hm, hle⟩
        obtain ⟨g, hg, hu⟩ := (h3.tk (.of_same s3)).get hi
        have hm' := List.mem_of_getElem? hg
        have d1 := Fm.dps_mem hm'
        have l1' := Fm.nms_len_mem hm'
        have l2' := nms_le fs (i + 1)
        have e := nms_take hg
        rw [e, List.length_append] at l2'
        refine ⟨_, rfl, _, rfl, u, g, rfl, hu, by omega, by omega, fun l3 ys H4 s4 hy up mem len => ⟨N', l3, _, _, rfl, rfl, s4 _ _ hN', hy, Nat.le_of_lt (lineOk (by rw [List.length_map, List.length_map]; omega)), fun p np => ?_⟩⟩
        refine ⟨p, zs ++ ys, some u, rfl, (s3.trans s4).trans (same_new np _), by rw [upd_same, List.map_append], fun x => ?_, ?_⟩
        · rw [List.mem_append, frs_take hg, hm x, mem x]
        · rw [e, List.length_append, List.length_append]; omega
      · rintro σ H3 ⟨N', zs, row, rfl, s3, hN', hm, hle⟩
        rw [h3.length, List.take_length] at hm hle
        refine ⟨_, rfl, N', zs, rfl, .inl (SqL.of hN'), (by show zs.length + 1 < 4096; omega), fun D nD => ⟨D, zs, rfl, upd_same, fun ys p up mem len np => ?_⟩⟩
        refine q p ys _ (s3.trans ((same_new nD _).trans (same_new np _))) upd_same up (fun x => ?_) (by show _ ≤ (Fm.nms fs).length; omega)
        rw [mem x, hm x]
        rfl
  | qu b x f =>
    rw [FmAt] at hF
    obtain ⟨a, u, rfl, h1, h2⟩ := hF
    have z1 : 1 + f.dp < n + 1 := hd
    have z2 : f.nm.length + 1 ≤ 2000 := hn
    refine ⟨_, rfl, a, _, _, _, rfl, rfl, h1, at_of (j := 0) rfl rfl, rfl, false, (by cases b <;> decide +kernel), ?_⟩
    refine ⟨_, rfl, a, _, _, _, rfl, rfl, h1, at_of (j := 0) rfl rfl, rfl, false, (by cases b <;> decide +kernel), ?_⟩
    refine ⟨_, rfl, a, _, _, _, rfl, rfl, h1, at_of (j := 0) rfl rfl, rfl, false, (by cases b <;> decide +kernel), ?_⟩
    refine ⟨_, rfl, a, _, _, _, rfl, rfl, h1, at_of (j := 0) rfl rfl, rfl, false, (by cases b <;> decide +kernel), ?_⟩
    refine ⟨_, rfl, a, _, _, _, rfl, rfl, h1, at_of (j := 0) rfl rfl, rfl, false, (by cases b <;> decide +kernel), ?_⟩
    refine ⟨_, rfl, a, _, _, _, rfl, rfl, h1, at_of (j := 2) rfl rfl, u, f, rfl, h2, by omega, by omega, fun l ys H1 s1 hl up mem len => ⟨l, rfl, ⟨_, SqL.of hl⟩, fun D nD => ?_⟩⟩
    refine lc_list (xs := ys.map V.str) (fun i H' => H' D = some (.lst (((ys.take i).filter (fun y => decide (y ≠ x))).map V.str)) ∧ Same H1 H') ⟨upd_same, same_new nD _⟩ (fun i H' _ h => h.2.seq (SqL.of hl)) ?_ ?_
    · rintro i y H2 hi ⟨hD, s2⟩
      rw [List.getElem?_map] at hi
      obtain ⟨y, hy, rfl⟩ := Option.map_eq_some_iff.mp hi
      refine ⟨rfl, _, rfl, _, rfl, a, _, _, _, rfl, rfl, Tk.of_same (s1.trans s2) _ _ h1, at_of (j := 1) rfl rfl, rfl, _, rfl, ?_⟩
      have ee : (!decide (V.str y = V.str x)) = decide (y ≠ x) := by
        by_cases e : y = x <;> simp [e]
      show (if (!decide (V.str y = V.str x)) = true then _ else _)
      rw [ee]
      refine ite2 (fun c => ?_) (fun c => ?_)
      · refine ⟨_, rfl, _, hD, ?_, ?_, same_to s2 nD⟩
        · rw [List.length_map]
          refine lineOk (Nat.le_trans (List.length_filter_le _ _) ?_)
          rw [List.length_take]
          omega
        · rw [upd_same, List.take_succ, hy, List.filter_append, List.map_append]
          simp only [Option.toList, List.filter_cons, c, if_true, List.filter_nil, List.map_cons, List.map_nil]
      · refine ⟨?_, s2⟩
        rw [List.take_succ, hy, List.filter_append]
        have c' : decide (y ≠ x) = false := by simpa using c
        simp only [Option.toList, List.filter_cons, c', Bool.false_eq_true, if_false, List.filter_nil, List.append_nil]
        exact hD
    · rintro H2 ⟨hD, s2⟩
      rw [List.length_map, List.take_length] at hD
      refine q D _ H2 (s1.trans s2) hD (List.Pairwise.filter _ up) (fun y => ?_) ?_
      · show _ ↔ y ∈ (f.fr).filter _
        rw [List.mem_filter, List.mem_filter, mem y]
      · show _ ≤ f.nm.length + 1
        exact Nat.le_trans (List.length_filter_le _ _) (by omega)
end
end K1

set_option Elab.async false
set_option linter.all false
set_option maxRecDepth 100000
set_option maxHeartbeats 4000000
namespace K1
open PySem L2 Fo
open C8 (Cal pe_c pss_cut CalAt pe_cv)
section
variable {P : Program} {w : World} {K : PySem.W.Frag} {mg : Str → Option Value} {base : Heap}
/-! ### handed_down -/
theorem pg_tup_k {X : Cx} {K : PySem.W.Frag} (hK : X.K = K) {es : List Expr} {k : Nat} {t : TGs} {n : Nat} {pos : Pos} (hc : X.calm = true) (h : PGs X es t)
    (hn : (assignEach es X.env).length = n := by rfl) (hst : (assignEach es X.env).findIdx? (·.1) = none := by rfl) : PG X (.Tuple es k pos) (gTup K n t) := by
  subst hK
  exact pg_tup hc h hn hst
abbrev nHanded : List Str := ["formula", "first", "below", "found", "waiting", "here", "told", "rows", "handed", "part"]
theorem scHanded : FnScope nHanded ["formula", "first", "below"] (defScope sHanded) := ⟨rfl, rfl, rfl, by decide +kernel, rfl, by decide +kernel, by decide +kernel⟩
theorem ok_handed {β : Type} {At : Hp → V → β → Prop} {st : Fm → β → β} {Ok : Fm → β → Prop} {fb : Addr} (sa : Hd.Stay K At) (so : ∀ g b, Ok g b → ∀ k ∈ g.kids, Ok k (st g b)) (hB : CalAt P w K mg base 1 fb (Hd.spBelow K At st Ok))
    {f : Addr} {fd : FuncData} (B : Bt mg) (cInner : Cal P w K mg base 1 "inner" (spInner K) []) (F : Fun K "handed_down" "handed_down" sHanded f fd) : FnOk P w K mg base CX0 2 f fd ["formula", "first", "below"] (Hd.spHanded K At st Ok fb) := by
  refine F.ok scHanded (fun vs H Q E h => ?_) (fun cdv A outer s H vs Q E hr h => ?_)
  · obtain ⟨v, u, g, b, rfl, _⟩ := h
    rfl
  obtain ⟨v, u0, fm, b0, rfl, hF, hA, hO, hc, q⟩ := h
  have nd := scHanded.nd
  refine ⟨_, (pss_cons (ps_set (i := 3) nd rfl (.inl rfl) (pe_lst pa_nil))
    (pss_cons (ps_set (i := 4) nd rfl (.inl rfl) (pe_lst (pa_cons (pe_tup (pa_cons (pv 0) (pa_cons (pv 1) pa_nil))) pa_nil)))
    (pss_cons (ps_while PassesOwn.never (pt_truth (pv 4) (by intro _; rfl)) (pss_cons (ps_asg (pe_bm0 PySem.F.plainAttrs_list PySem.F.slot_list_pop PySem.F.type_list_pop mt_pop (pv 4)) (pg_tup rfl (pgs_cons (pg_name (i := 5) nd rfl (.inl rfl)) (pgs_cons (pg_name (i := 6) nd rfl (.inl rfl)) pgs_nil))))
    (pss_cons (ps_expr (pe_bm PySem.F.plainAttrs_list PySem.F.slot_list_append PySem.F.type_list_append mt_append (pv 3) (pa_cons (pe_tup (pa_cons (pv 5) (pa_cons (pv 6) pa_nil))) pa_nil)))
    (pss_cons (ps_set (i := 7) nd rfl (.inl rfl) (pe_c cInner hr (by decide) rfl (pa_cons (pv 5) pa_nil)))
    (pss_one (ps_if (pt_truth (pv 7) (by intro _; rfl)) (pss_cons (ps_set (i := 8) nd rfl (.inr rfl) (pe_cv (i := 2) hB hB hr (by decide) (by decide) rfl (.inl rfl) (pa_cons (pv 5) (pa_cons (pv 6) pa_nil))))
    (pss_one (ps_expr (pe_bm PySem.F.plainAttrs_list PySem.F.slot_list_extend PySem.F.type_list_extend Tx.mt_ext (pv 4) (pa_cons (pe_lc (own := [("part", 9)]) (g := gName 9) (tt := tYes) rfl nd (pi_tup (Rv.pe_revT (pv 7))) (blkOk_by (own := [("part", 9)]) (N := nHanded) (sc := defScope sHanded) (by decide +kernel)) (fun _ _ _ _ _ => (pg_name (i := 9) nd rfl (Or.inl rfl))) (fun _ _ _ _ _ => pts_nil) (fun _ _ _ _ _ => (pe_tup (pa_cons (pv 9) (pa_cons (pv 8) pa_nil))))) pa_nil))))) pss_nil))))))
    (pss_one (ps_ret (pv 3)))))), ?_⟩
  refine ⟨Nat.zero_le _, fun F nF => ⟨_, rfl, _, rfl, l2, fun T nT => ⟨l1, fun W nW => ?_⟩⟩⟩
  have nFW : F ≠ W := ne_of_none (same_new nT _ _ _ upd_same) nW
  have nW0 : H W = none := (same_new nF _).free ((same_new nT _).free nW)
  have s0 := (same_new nF (.lst [])).trans ((same_new nT (.tup [v, u0])).trans (same_new nW (.lst [.ref T])))
  refine ⟨fun m σ H' => ∃ (us ws : List V) (fs gs : List (Fm × β)) (here told rows handed part : Option V), σ = [some v, some u0, some (.ref fb), some (.ref F), some (.ref W), here, told, rows, handed, part] ∧ Same H H' ∧ H' F = some (.lst us) ∧ H' W = some (.lst ws) ∧ All2 (Hd.PrAt K At H') us fs ∧ All2 (Hd.PrAt K At H') ws gs ∧ (∀ p ∈ gs, Ok p.1 p.2) ∧ m = Fm.pct gs ∧
    fs.length + Fm.pct gs = fm.ct ∧ fs ++ Hd.flat st gs.reverse = Hd.hd st fm b0, ⟨_, [], [.ref T], [], [(fm, b0)], none, none, none, none, none, rfl, s0, ?_, upd_same, .nil, .cons ?_ .nil, ?_, rfl, ?_, ?_⟩, ?_⟩
  · rw [upd_ne nFW]; exact same_new nT _ _ _ upd_same
  · exact Hd.PrAt.tk sa (tk_new nW _) (Hd.pr_new sa nT (hF.tk (tk_new nF _)) (sa.go (tk_new nF _) hA))
  · intro p hp; rw [List.mem_singleton.mp hp]; exact hO
  · simp [Fm.pct]
  · simp [Hd.flat]
  rintro m σ H1 ⟨us, ws, fs, gs, here, told, rows, handed, part, rfl, s1, hF1, hW, k1, k2, kO, rfl, c1, c2⟩
  have lenW := k2.length
  have lenF := k1.length
  have lc := Fm.len_pct gs
  by_cases e0 : ws = []
  · subst e0
    cases k2
    refine ⟨_, rfl, false, .inl ⟨[], SqL.of hW, rfl⟩, ?_⟩
    simp only [List.reverse_nil, Hd.flat, List.map_nil, List.flatten_nil, List.append_nil] at c2
    subst c2
    exact ⟨_, rfl, q F us H1 s1 nF hF1 k1⟩
  obtain ⟨ws', u, gs', ⟨g, d⟩, rfl, rfl, k3, k4⟩ := k2.unsnoc e0
  have kO1 : Ok g d := kO (g, d) (by simp)
  refine ⟨_, rfl, true, .inl ⟨_, SqL.of hW, by simp⟩, ⟨_, fun σ' H' h => h, ?_⟩⟩
  refine ⟨_, rfl, .inl ⟨rfl, _, SqL.of hW⟩, W, _, u, rfl, rfl, hW, at_last ws' u, ?_⟩
  rw [drop_last]
  have t2 := tk_lst (K := K) hW (.lst ws')
  have s2 := same_to (o := .lst ws') s1 nW0
  have hF2 : upd H1 W (.lst ws') F = some (.lst us) := by rw [upd_ne nFW]; exact hF1
  obtain ⟨a, v', x', rfl, h1, h2, h2x⟩ := k4.tk sa t2
  refine ⟨a, _, rfl, h1, rfl, _, _, rfl, _, _, rfl, rfl, ?_⟩
  refine ⟨_, rfl, .inl ⟨rfl, _, SqL.of hF2⟩, _, rfl, _, rfl, l2, fun p np => ⟨F, _, _, rfl, rfl, same_new np _ _ _ hF2, lineOk (by omega), ?_⟩⟩
  have hF3 := same_new np (.tup [v', x']) _ _ hF2
  have t3 := t2.trans ((tk_new (K := K) np (.tup [v', x'])).trans (tk_lst (K := K) hF3 (.lst (us ++ [.ref p]))))
  have s3 := same_to (o := .lst (us ++ [.ref p])) (s2.trans (same_new np (.tup [v', x']))) nF
  have hp := (tk_lst (K := K) hF3 (.lst (us ++ [.ref p]))) |> fun t => Hd.PrAt.tk sa t (Hd.pr_new sa np h2 h2x)
  have hW3 : upd (upd (upd H1 W (.lst ws')) p (.tup [v', x'])) F (.lst (us ++ [.ref p])) W = some (.lst ws') := by rw [upd_ne nFW.symm]; exact same_new np _ _ _ upd_same
  have hF4 : upd (upd (upd H1 W (.lst ws')) p (.tup [v', x'])) F (.lst (us ++ [.ref p])) F = some (.lst (us ++ [.ref p])) := upd_same
  have hv' := h2.tk ((tk_new (K := K) np (.tup [v', x'])).trans (tk_lst (K := K) hF3 (.lst (us ++ [.ref p]))))
  have hx' := sa.go ((tk_new (K := K) np (.tup [v', x'])).trans (tk_lst (K := K) hF3 (.lst (us ++ [.ref p])))) h2x
  generalize upd (upd (upd H1 W (.lst ws')) p (.tup [v', x'])) F (.lst (us ++ [.ref p])) = H3 at *
  refine ⟨_, rfl, _, g, rfl, hv', fun t ks H4 s4 ht hk => ?_⟩
  have lk := hk.length
  have ck := Fm.ct_kids g
  have lk2 := Fm.len_cts g.kids
  rw [Fm.pct_append] at c1
  have c1' : fs.length + (Fm.pct gs' + (g.ct + 0)) = fm.ct := c1
  have lps := Fm.len_pct gs'
  have lk3 := k3.length
  by_cases ek : ks = []
  · subst ek
    have ek' : g.kids = [] := List.eq_nil_of_length_eq_zero (by rw [← lk]; rfl)
    refine ⟨_, rfl, false, .inr (.inl ⟨[], ht, rfl⟩), ?_⟩
    have tt := t3.trans (Tk.of_same (K := K) s4)
    refine ⟨Fm.pct gs', ?_, us ++ [.ref p], ws', fs ++ [(g, d)], gs', _, _, _, handed, part, rfl, s3.trans s4, s4 _ _ hF4, s4 _ _ hW3, ?_, ?_, ?_, rfl, ?_, ?_⟩
    · rw [Fm.pct_append]
      show Fm.pct gs' < Fm.pct gs' + (g.ct + 0)
      omega
    · exact (k1.imp fun _ _ h => h.tk sa tt).append (.cons (Hd.PrAt.tk sa (.of_same s4) hp) .nil)
    · exact k3.imp fun _ _ h => h.tk sa tt
    · exact fun p hp => kO p (List.mem_append_left _ hp)
    · rw [List.length_append, List.length_singleton]
      rw [ek'] at ck
      have : Fm.cts [] = 0 := rfl
      omega
    · rw [List.append_assoc, ← c2, List.reverse_append, List.reverse_singleton, show [(g, d)] ++ gs'.reverse = (g, d) :: gs'.reverse from rfl, Hd.flat_head (g, d)]
      show _ ++ _ = fs ++ ((g, d) :: Hd.flat st ((g.kids.map fun k => (k, st g d)) ++ gs'.reverse))
      rw [ek']
      rfl
  refine ⟨_, rfl, true, .inr (.inl ⟨_, ht, by simp [ek]⟩), ?_⟩
  refine .inl ⟨rfl, _, rfl, _, rfl, _, _, g, d, rfl, hv'.tk (.of_same s4), sa.go (.of_same s4) hx', kO1, fun u' H5 s5 hu' => ?_⟩
  have hW5 := s5 _ _ (s4 _ _ hW3)
  have ht5 := Tk.of_same (K := K) s5 _ _ ht
  refine ⟨_, rfl, .inl ⟨rfl, _, SqL.of hW5⟩, _, rfl, t, ks, rfl, ht5, fun t' nt' => ⟨t', rfl, ⟨_, SqT.of upd_same⟩, fun D nD => ?_⟩⟩
  have s56 := same_new nt' (.tup ks.reverse)
  have hkr := all2_rev (fms_all2 (hk.tk (Tk.of_same (s5.trans s56))))
  have nDW : W ≠ D := ne_of_none (s56 _ _ hW5) nD
  have nD0 : H D = none := ((s3.trans s4).trans (s5.trans s56)).free nD
  refine lc_tup (xs := ks.reverse) (fun i H' => ∃ (xs : List V), H' D = some (.lst xs) ∧ Same (upd H5 t' (.tup ks.reverse)) H' ∧ All2 (Hd.PrAt K At H') xs ((g.kids.reverse.take i).map fun k => (k, st g d)) ∧ xs.length = i) ⟨[], upd_same, same_new nD _, .nil, rfl⟩ (fun i H' _ ⟨_, _, h, _⟩ => Tk.of_same h _ _ (SqT.of upd_same)) ?_ ?_
  · rintro i y H6 hi ⟨xs, hD, s6, hx, hl⟩
    obtain ⟨k, hgk, hky⟩ := (hkr.imp fun _ _ h => h.tk (Tk.of_same s6)).get hi
    have li : i < ks.reverse.length := (List.getElem?_eq_some_iff.mp hi).1
    rw [List.length_reverse] at li
    refine ⟨rfl, _, rfl, _, rfl, l2, fun p np => ⟨xs, same_new np _ _ _ hD, lineOk (by omega), xs ++ [.ref p], upd_same, same_to (s6.trans (same_new np _)) nD, ?_, by simp [hl]⟩⟩
    have t6 := (tk_new (K := K) np (.tup [y, u'])).trans (tk_lst (same_new np _ _ _ hD) (.lst (xs ++ [.ref p])))
    rw [List.take_succ, hgk, List.map_append]
    refine (hx.imp fun _ _ h => h.tk sa t6).append (.cons ?_ .nil)
    exact Hd.PrAt.tk sa (tk_lst (same_new np _ _ _ hD) _) (Hd.pr_new sa np hky (sa.go (.of_same (s56.trans s6)) hu'))
  rintro H6 ⟨xs, hD, s6, hx, hl⟩
  rw [List.length_reverse, lk, ← List.length_reverse (as := g.kids), List.take_length] at hx
  have hW6 := s6 _ _ (s56 _ _ hW5)
  refine ⟨W, D, _, _, rfl, rfl, hW6, .inl (SqL.of hD), Nat.le_of_lt (lineOk (by rw [List.length_reverse] at hl; omega)), ?_⟩
  have tt1 := (((Tk.of_same (K := K) s4).trans (.of_same s5)).trans (.of_same s56)).trans (.of_same s6)
  have tt2 := tk_lst (K := K) hW6 (.lst (ws' ++ xs))
  have hF6 := s6 _ _ (s56 _ _ (s5 _ _ (s4 _ _ hF4)))
  refine ⟨Fm.pct (gs' ++ g.kids.reverse.map fun k => (k, st g d)), ?_, us ++ [.ref p], ws' ++ xs, fs ++ [(g, d)], gs' ++ g.kids.reverse.map fun k => (k, st g d), _, _, _, _, part, rfl, same_to ((s3.trans s4).trans ((s5.trans s56).trans s6)) nW0, ?_, upd_same, ?_, ?_, ?_, rfl, ?_, ?_⟩
  · rw [Fm.pct_append, Fm.pct_append, Fm.pct_map, cts_rev]
    show Fm.pct gs' + _ < Fm.pct gs' + (g.ct + 0)
    omega
  · rw [upd_ne nFW]; exact hF6
  · exact ((k1.imp fun _ _ h => ((h.tk sa t3).tk sa tt1).tk sa tt2).append (.cons (Hd.PrAt.tk sa tt2 (Hd.PrAt.tk sa tt1 hp)) .nil))
  · exact (k3.imp fun _ _ h => ((h.tk sa t3).tk sa tt1).tk sa tt2).append (hx.imp fun _ _ h => h.tk sa tt2)
  · intro p hp
    rcases List.mem_append.mp hp with e | e
    · exact kO p (List.mem_append_left _ e)
    · obtain ⟨k, hk', rfl⟩ := List.mem_map.mp e
      exact so g d kO1 k (List.mem_reverse.mp hk')
  · rw [Fm.pct_append, Fm.pct_map, cts_rev, List.length_append, List.length_singleton]
    omega
  · rw [List.reverse_append, ← List.map_reverse, List.reverse_reverse, Hd.flat_append, List.append_assoc, ← c2, List.reverse_append, List.reverse_singleton, show [(g, d)] ++ gs'.reverse = (g, d) :: gs'.reverse from rfl, Hd.flat_head (g, d), Hd.flat_append]
    rfl
def SgAt (K : PySem.W.Frag) (H : Hp) (u : V) (p : Fm × Bool) : Prop := ∃ (a : Addr) (v : V), u = .ref a ∧ SqT K H a [v, .bl p.2] ∧ FmAt K H v p.1
theorem SgAt.tk {H H' : Hp} {u : V} {p : Fm × Bool} (k : Tk K H H') (h : SgAt K H u p) : SgAt K H' u p :=
  let ⟨a, v, e, h1, h2⟩ := h; ⟨a, v, e, k _ _ h1, h2.tk k⟩
def isN : Fm → Bool
  | .neg _ => true
  | _ => false
theorem FmAt.hd {H : Hp} {v : V} {g : Fm} (h : FmAt K H v g) : ∃ (a : Addr) (z : Str) (r : List V), v = .ref a ∧ SqT K H a (.str z :: r) ∧ decide (V.str z = V.str "not") = isN g := by
  cases g with
  | rel n xs =>
    rw [FmAt] at h
    obtain ⟨a, t, rfl, h1, h2⟩ := h
    exact ⟨a, _, _, rfl, h1, (by show _ = false; decide +kernel)⟩
  | same x y =>
    rw [FmAt] at h
    obtain ⟨a, rfl, h1⟩ := h
    exact ⟨a, _, _, rfl, h1, (by show _ = false; decide +kernel)⟩
  | neg f =>
    rw [FmAt] at h
    obtain ⟨a, u, rfl, h1, h2⟩ := h
    exact ⟨a, _, _, rfl, h1, (by show _ = true; decide +kernel)⟩
  | con b fs =>
    rw [FmAt] at h
    obtain ⟨a, t, us, rfl, h1, h2⟩ := h
    exact ⟨a, _, _, rfl, h1, (by show _ = false; cases b <;> decide +kernel)⟩
  | qu b x f =>
    rw [FmAt] at h
    obtain ⟨a, u, rfl, h1, h2⟩ := h
    exact ⟨a, _, _, rfl, h1, (by show _ = false; cases b <;> decide +kernel)⟩
/-! ### denied_within -/
def AtB (H : Hp) (u : V) (d : Bool) : Prop := u = .bl d
theorem stB : Hd.Stay K AtB := ⟨fun _ h => h⟩
abbrev spDeniedW (K : PySem.W.Frag) : Sp := Hd.spBelow K AtB Fm.bel fun _ _ => True
abbrev nDeniedW : List Str := ["formula", "denied"]
theorem scDeniedW : FnScope nDeniedW ["formula", "denied"] (defScope sDeniedW) := ⟨rfl, rfl, rfl, by decide +kernel, rfl, by decide +kernel, by decide +kernel⟩
theorem ok_deniedw {f : Addr} {fd : FuncData} (B : Bt mg) (F : Fun K "denied_within" "denied_within" sDeniedW f fd) : FnOk P w K mg base CX0 1 f fd ["formula", "denied"] (spDeniedW K) := by
  refine F.ok scDeniedW (fun vs H Q E h => ?_) (fun cdv A outer s H vs Q E hr h => ?_)
  · obtain ⟨v, u, g, b, rfl, _⟩ := h
    rfl
  obtain ⟨v, u, g, d, rfl, hF, rfl, _, q⟩ := h
  have nd := scDeniedW.nd
  refine ⟨_, (pss_one (ps_ret (pe_ifExp (pt_cmpR op_eq (pe_ix ix_tup (pv 0) pe_int (fun _ _ => rfl)) pe_str (nomark _)) (pe_not (pv 1)) (pv 1)))), ?_⟩
  obtain ⟨b, z, r, rfl, hb, hz⟩ := FmAt.hd hF
  refine ⟨_, rfl, b, _, _, _, rfl, rfl, hb, at_of (j := 0) rfl rfl, rfl, _, rfl, ?_⟩
  rw [hz]
  cases g with
  | neg k => exact ⟨_, rfl, _, rfl, q _ _ (Same.refl _) rfl⟩
  | rel n xs => exact ⟨_, rfl, q _ _ (Same.refl _) rfl⟩
  | same x y => exact ⟨_, rfl, q _ _ (Same.refl _) rfl⟩
  | qu bq x k => exact ⟨_, rfl, q _ _ (Same.refl _) rfl⟩
  | con bq ks => exact ⟨_, rfl, q _ _ (Same.refl _) rfl⟩
theorem sg_of {H : Hp} {u : V} {p : Fm × Bool} (h : Hd.PrAt K AtB H u p) : SgAt K H u p := by
  obtain ⟨a, v, x, e, h1, h2, hx⟩ := h
  exact ⟨a, v, e, (show x = V.bl p.2 from hx) ▸ h1, h2⟩
mutual
theorem pre_hd : ∀ (f : Fm) (d : Bool), Hd.hd Fm.bel f d = Fm.pre f d
  | .rel n xs, d => by rw [Hd.hd, Fm.pre]
  | .same x y, d => by rw [Hd.hd, Fm.pre]
  | .neg f, d => by rw [Hd.hd, Fm.pre, pre_hd f]; rfl
  | .con b fs, d => by rw [Hd.hd, Fm.pre, pres_hd fs]; rfl
  | .qu b x f, d => by rw [Hd.hd, Fm.pre, pre_hd f]; rfl
theorem pres_hd : ∀ (fs : List Fm) (d : Bool), Hd.hds Fm.bel fs d = Fm.pres fs d
  | [], d => by rw [Hd.hds, Fm.pres]
  | f :: fs, d => by rw [Hd.hds, Fm.pres, pre_hd f, pres_hd fs]
end
end
end K1

set_option Elab.async false
set_option linter.all false
set_option maxRecDepth 100000
set_option maxHeartbeats 4000000
namespace K1
open PySem L2 Fo
open C8 (Cal pe_c pss_cut)
section
variable {P : Program} {w : World} {K : PySem.W.Frag} {mg : Str → Option Value} {base : Heap}
/-! ### turned_one, turned -/
structure Opp (K : PySem.W.Frag) (w : World) (dO : Addr) : Prop where
  con : ∀ b, KDct K w dO (cn b) (.str (cn (!b)))
  qu : ∀ b, KDct K w dO (qn b) (.str (qn (!b)))
def spOne (K : PySem.W.Frag) : Sp := fun vs H Q _ => ∃ (v : V) (g : Fm) (d : Bool) (t : Addr) (us : List V) (rs : List Fm) (r : Fm), vs = [v, .bl d, .ref t] ∧ FmAt K H v g ∧ SqT K H t us ∧ FmsAt K H us rs ∧ Fm.one g d rs = some r ∧ ∀ (v' : V) (H' : Hp), Same H H' → FmAt K H' v' r → Q v' H'
abbrev nOne : List Str := ["formula", "denied", "rows", "kind"]
abbrev pOne : List Str := ["formula", "denied", "rows"]
theorem scOne : FnScope nOne pOne (defScope sOne) := ⟨rfl, rfl, rfl, by decide +kernel, rfl, by decide +kernel, by decide +kernel⟩
theorem ok_one {f dO : Addr} {fd : FuncData} (B : Bt mg) (hO : mg "OPPOSITES" = some (.ref dO)) (op : Opp K w dO) (F : Fun K "turned_one" "turned_one" sOne f fd) : FnOk P w K mg base CX0 1 f fd pOne (spOne K) := by
  refine F.ok scOne (fun vs H Q E h => ?_) (fun cdv A outer s H vs Q E hr h => ?_)
  · obtain ⟨v, g, d, t, us, rs, r, rfl, _⟩ := h
    rfl
  obtain ⟨v, g, d, t, us, rs, r, rfl, hF, ht, hk, ho, q⟩ := h
  have nd := scOne.nd
  refine ⟨_, (pss_cons (ps_set (i := 3) nd rfl (.inl rfl) (pe_ix ix_tup (pv 0) pe_int (fun _ _ => rfl)))
    (pss_cons (ps_if (pt_cmpR op_eq (pv 3) pe_str (nomark _)) (pss_one (ps_ret (pe_ix ix_tup (pv 2) pe_int (fun _ _ => rfl)))) pss_nil)
    (pss_cons (ps_if (pt_cmpR op_in_seq (pv 3) (pe_tup (pa_cons pe_str (pa_cons pe_str pa_nil))) rfl) (pss_one (ps_ret (pe_ifExp (pt_truth (pv 1) (by intro _; rfl)) (pe_tup (pa_cons pe_str (pa_cons (pv 0) pa_nil))) (pv 0)))) pss_nil)
    (pss_cut (ps_if (pt_truth (pv 1) (by intro _; rfl)) (pss_one (ps_set (i := 3) nd rfl (.inl rfl) (pe_ix ix_kdict (pe_glob (v := .ref dO) rfl hO rfl) (pv 3) (fun _ _ => rfl)))) pss_nil)
    (pss_cons (ps_if (pt_cmpR op_in_seq (pv 3) (pe_tup (pa_cons pe_str (pa_cons pe_str pa_nil))) rfl) (pss_one (ps_ret (pe_tup (pa_cons (pv 3) (pa_cons (pv 2) pa_nil))))) pss_nil)
    (pss_one (ps_ret (pe_tup (pa_cons (pv 3) (pa_cons (pe_ix ix_tup (pv 0) pe_int (fun _ _ => rfl)) (pa_cons (pe_ix ix_tup (pv 2) pe_int (fun _ _ => rfl)) pa_nil))))))))))), ?_⟩
  cases g with
  | rel n xs =>
    have hF0 := hF
    rw [FmAt] at hF
    obtain ⟨a, t', rfl, h1, h2⟩ := hF
    have e : r = if d = true then .neg (.rel n xs) else .rel n xs := (Option.some.inj ho).symm
    refine ⟨_, rfl, a, _, _, _, rfl, rfl, h1, at_of (j := 0) rfl rfl, ?_⟩
    refine ⟨_, rfl, rfl, false, (by decide +kernel), ?_⟩
    refine ⟨_, rfl, l2, fun T nT => ⟨T, _, rfl, .inr (SqT.of upd_same), rfl, rfl, true, inT (by decide +kernel), ?_⟩⟩
    have s1 := same_new nT (.tup [V.str "rel", V.str "same"])
    cases d with
    | true => exact ⟨_, rfl, true, rfl, _, rfl, l2, fun p np => q _ _ (s1.trans (same_new np _)) (by rw [e]; exact mk_neg (hF0.tk (.of_same s1)) np)⟩
    | false => exact ⟨_, rfl, false, rfl, _, rfl, q _ _ s1 (by rw [e]; exact hF0.tk (.of_same s1))⟩
  | same x y =>
    have hF0 := hF
    rw [FmAt] at hF
    obtain ⟨a, rfl, h1⟩ := hF
    have e : r = if d = true then .neg (.same x y) else .same x y := (Option.some.inj ho).symm
    refine ⟨_, rfl, a, _, _, _, rfl, rfl, h1, at_of (j := 0) rfl rfl, ?_⟩
    refine ⟨_, rfl, rfl, false, (by decide +kernel), ?_⟩
    refine ⟨_, rfl, l2, fun T nT => ⟨T, _, rfl, .inr (SqT.of upd_same), rfl, rfl, true, inT (by decide +kernel), ?_⟩⟩
    have s1 := same_new nT (.tup [V.str "rel", V.str "same"])
    cases d with
    | true => exact ⟨_, rfl, true, rfl, _, rfl, l2, fun p np => q _ _ (s1.trans (same_new np _)) (by rw [e]; exact mk_neg (hF0.tk (.of_same s1)) np)⟩
    | false => exact ⟨_, rfl, false, rfl, _, rfl, q _ _ s1 (by rw [e]; exact hF0.tk (.of_same s1))⟩
  | neg f =>
    rw [FmAt] at hF
    obtain ⟨a, u, rfl, h1, h2⟩ := hF
    match rs, ho with
    | [r'], ho =>
      have e : r = r' := (Option.some.inj ho).symm
      subst e
      obtain ⟨u', z, rfl, hu, hz⟩ := hk.uncons
      refine ⟨_, rfl, a, _, _, _, rfl, rfl, h1, at_of (j := 0) rfl rfl, ?_⟩
      refine ⟨_, rfl, rfl, true, (by decide +kernel), ?_⟩
      exact ⟨_, rfl, t, _, _, _, rfl, rfl, ht, at_of (j := 0) rfl rfl, q _ _ (Same.refl _) hu⟩
  | con b fs =>
    rw [FmAt] at hF
    obtain ⟨a, t', us', rfl, h1, h2, h3⟩ := hF
    have e : r = .con (b != d) rs := (Option.some.inj ho).symm
    refine ⟨_, rfl, a, _, _, _, rfl, rfl, h1, at_of (j := 0) rfl rfl, ?_⟩
    refine ⟨_, rfl, rfl, false, (by cases b <;> decide +kernel), ?_⟩
    refine ⟨_, rfl, l2, fun T nT => ⟨T, _, rfl, .inr (SqT.of upd_same), rfl, rfl, false, inF (by cases b <;> decide +kernel), ?_⟩⟩
    have s1 := same_new nT (.tup [V.str "rel", V.str "same"])
    refine ⟨fun σ' H' => σ' = [some (.ref a), some (.bl d), some (.ref t), some (.str (cn (b != d)))] ∧ Same H H', ?_, ?_⟩
    · cases d with
      | true => exact ⟨_, rfl, true, rfl, _, rfl, dO, _, _, rfl, rfl, op.con b, by cases b <;> rfl, s1⟩
      | false => exact ⟨_, rfl, false, rfl, by cases b <;> rfl, s1⟩
    rintro σ' H1 ⟨rfl, s2⟩
    refine ⟨_, rfl, l2, fun S nS => ⟨S, _, rfl, .inr (SqT.of upd_same), rfl, rfl, true, inT (by cases b <;> cases d <;> decide +kernel), ?_⟩⟩
    have s3 := s2.trans (same_new nS (.tup [V.str "and", V.str "or"]))
    refine ⟨_, rfl, _, rfl, l2, fun p np => q _ _ (s3.trans (same_new np _)) ?_⟩
    rw [e]
    exact mk_con (Tk.of_same s3 _ _ ht) (hk.tk (.of_same s3)) np
  | qu b x f =>
    rw [FmAt] at hF
    obtain ⟨a, u, rfl, h1, h2⟩ := hF
    match rs, ho with
    | [r'], ho =>
      have e : r = .qu (b != d) x r' := (Option.some.inj ho).symm
      obtain ⟨u', z, rfl, hu, hz⟩ := hk.uncons
      refine ⟨_, rfl, a, _, _, _, rfl, rfl, h1, at_of (j := 0) rfl rfl, ?_⟩
      refine ⟨_, rfl, rfl, false, (by cases b <;> decide +kernel), ?_⟩
      refine ⟨_, rfl, l2, fun T nT => ⟨T, _, rfl, .inr (SqT.of upd_same), rfl, rfl, false, inF (by cases b <;> decide +kernel), ?_⟩⟩
      have s1 := same_new nT (.tup [V.str "rel", V.str "same"])
      refine ⟨fun σ' H' => σ' = [some (.ref a), some (.bl d), some (.ref t), some (.str (qn (b != d)))] ∧ Same H H', ?_, ?_⟩
      · cases d with
        | true => exact ⟨_, rfl, true, rfl, _, rfl, dO, _, _, rfl, rfl, op.qu b, by cases b <;> rfl, s1⟩
        | false => exact ⟨_, rfl, false, rfl, by cases b <;> rfl, s1⟩
      rintro σ' H1 ⟨rfl, s2⟩
      refine ⟨_, rfl, l2, fun S nS => ⟨S, _, rfl, .inr (SqT.of upd_same), rfl, rfl, false, inF (by cases b <;> cases d <;> decide +kernel), ?_⟩⟩
      have s3 := s2.trans (same_new nS (.tup [V.str "and", V.str "or"]))
      refine ⟨_, rfl, _, rfl, a, _, _, _, rfl, rfl, Tk.of_same s3 _ _ h1, at_of (j := 1) rfl rfl, _, rfl, t, _, _, _, rfl, rfl, Tk.of_same s3 _ _ ht, at_of (j := 0) rfl rfl, l3, fun p np => q _ _ (s3.trans (same_new np _)) ?_⟩
      rw [e]
      exact mk_qu (hu.tk (.of_same s3)) np
end
end K1

set_option Elab.async false
set_option linter.all false
set_option maxRecDepth 100000
set_option maxHeartbeats 4000000
namespace K1
open PySem L2 Fo
open C8 (Cal pe_c pss_cut)
section
variable {P : Program} {w : World} {K : PySem.W.Frag} {mg : Str → Option Value} {base : Heap}
theorem pe_bm0_k {X : Cx} {K : PySem.W.Frag} (h : X.K = K) {o : Expr} {to : TE} {name : Str} {apos cpos : Pos} {T id : String} {r : V → List V → Hp → VK → Prop} (a : PlainAttrs T) (b : Slot T name id) (c : typeOf (Value.builtin id) = pure (Value.type "method_descriptor"))
    (d : MtR X id r) (e : PE X o to) (ha : attributeBase o name X.env (eval o X.env) = eval o X.env := by rfl) (hl : (apos.endLine == cpos.line) = true := by rfl) : PE X ((o.Attribute name apos).Call [] [] cpos) (tBM0 K T r to) := by
  subst h
  exact pe_bm0 a b c d e ha hl
theorem len_flat : ∀ ps : List (Fm × Bool), ps.length ≤ (Fm.flat ps).length
  | [] => Nat.le_refl _
  | p :: ps => by
    rw [Fm.flat_head, List.length_cons, List.length_cons, Fm.flat_append, List.length_append]
    have := len_flat ps
    omega
def trp (p : Fm × Bool) : Fm := Fm.tr p.1 p.2
def spTurned (K : PySem.W.Frag) : Sp := fun vs H Q _ => ∃ (v : V) (f : Fm), vs = [v] ∧ FmAt K H v f ∧ f.ct ≤ 1000 ∧ ∀ (v' : V) (H' : Hp), Same H H' → FmAt K H' v' (Fm.tr f false) → Q v' H'
abbrev nTurned : List Str := ["formula", "made", "here", "denied", "rows", "_"]
theorem scTurned : FnScope nTurned ["formula"] (defScope sTurned) := ⟨rfl, rfl, rfl, by decide +kernel, rfl, by decide +kernel, by decide +kernel⟩
theorem ok_turned {f : Addr} {fd : FuncData} (B : Bt mg) (cInner : Cal P w K mg base 1 "inner" (spInner K) []) (cOne : Cal P w K mg base 1 "turned_one" (spOne K) []) {fN : Addr} (hN : mg "denied_within" = some (.ref fN)) (cH : Cal P w K mg base 2 "handed_down" (Hd.spHanded K AtB Fm.bel (fun _ _ => True) fN) []) (F : Fun K "turned" "turned" sTurned f fd) : FnOk P w K mg base CX0 3 f fd ["formula"] (spTurned K) := by
  refine F.ok scTurned (fun vs H Q E h => ?_) (fun cdv A outer s H vs Q E hr h => ?_)
  · obtain ⟨v, f, rfl, _⟩ := h
    rfl
  obtain ⟨v, fm, rfl, hF, hc, q⟩ := h
  have nd := scTurned.nd
  refine ⟨_, (pss_cons (ps_set (i := 1) nd rfl (.inr rfl) (pe_lst pa_nil))
    (pss_cons (ps_for PassesOwn.never rfl (pi_list (pe_revL (pe_c cH hr (by decide) rfl (pa_cons (pv 0) (pa_cons pe_bl (pa_cons (pe_glob (v := .ref fN) rfl hN rfl) pa_nil)))))) (pg_tup rfl (pgs_cons (pg_name (i := 2) nd rfl (.inl rfl)) (pgs_cons (pg_name (i := 3) nd rfl (.inl rfl)) pgs_nil))) (pss_cons (ps_set (i := 4) nd rfl (.inl rfl) (pe_callTy call_tuple_of rfl B.tuple (by decide +kernel) (pa_cons (pe_lc (own := [("_", 5)]) (g := gName 5) (tt := tYes) rfl nd (pi_tup (pe_c cInner hr (by decide) rfl (pa_cons (pv 2) pa_nil))) (blkOk_by (own := [("_", 5)]) (N := nTurned) (sc := defScope sTurned) (by decide +kernel)) (fun _ _ _ _ _ => (pg_name (i := 5) nd rfl (Or.inl rfl))) (fun _ _ _ _ _ => pts_nil) (fun _ _ _ _ _ => (pe_bm0_k (K := K) rfl PySem.F.plainAttrs_list PySem.F.slot_list_pop PySem.F.type_list_pop mt_pop (pv 1)))) pa_nil)))
    (pss_one (ps_expr (pe_bm PySem.F.plainAttrs_list PySem.F.slot_list_append PySem.F.type_list_append mt_append (pv 1) (pa_cons (pe_c cOne hr (by decide) rfl (pa_cons (pv 2) (pa_cons (pv 3) (pa_cons (pv 4) pa_nil)))) pa_nil))))))
    (pss_one (ps_ret (pe_ix ix_list (pv 1) pe_int (fun _ _ => rfl)))))), ?_⟩
  refine ⟨Nat.zero_le _, fun M nM => ⟨_, rfl, v, .bl false, fm, false, rfl, hF.tk (tk_new nM _), rfl, trivial, hc, fun U us H1 s1 nU hU kU0 => ⟨U, us, rfl, SqL.of hU, fun R nR => ⟨R, rfl, ⟨_, SqL.of upd_same⟩, ?_⟩⟩⟩⟩
  have kU : All2 (SgAt K H1) us (Fm.pre fm false) := by rw [← pre_hd]; exact kU0.imp fun _ _ h => sg_of h
  have lL : (Fm.pre fm false).length ≤ 1000 := by rw [Fm.pre_len]; exact hc
  have nMR : M ≠ R := ne_of_none (s1 _ _ upd_same) nR
  have s2 := same_new nR (.lst us.reverse)
  have s02 := ((same_new nM (.lst [])).trans s1).trans s2
  have kR := (all2_rev kU).imp fun _ _ h => SgAt.tk (.of_same s2) h
  refine for_list (xs := us.reverse) (fun i σ H' => ∃ (ts : List (Fm × Bool)) (ms : List V) (here denied rows z : Option V), σ = [some v, some (.ref M), here, denied, rows, z] ∧ Same H H' ∧ Tk K (upd H1 R (.lst us.reverse)) H' ∧ H' R = some (.lst us.reverse) ∧ H' M = some (.lst ms) ∧
    FmsAt K H' ms (ts.map trp).reverse ∧ Fm.flat ts = ((Fm.pre fm false).reverse.take i).reverse) ⟨[], [], none, none, none, none, rfl, s02, Tk.refl _, upd_same, s2 _ _ (s1 _ _ upd_same), .nil, rfl⟩ (fun i σ H' _ ⟨_, _, _, _, _, _, _, _, _, h, _⟩ => SqL.of h) ?_ ?_
  · rintro i u σ H2 hi ⟨ts, ms, here, denied, rows, z, rfl, sH, tH, hR, hM, hms, hts⟩
    obtain ⟨⟨g, d⟩, hg, hu⟩ := (kR.imp fun _ _ h => SgAt.tk tH h).get hi
    obtain ⟨a, v', rfl, h1, h2⟩ := hu
    refine ⟨a, _, rfl, h1, rfl, _, _, rfl, _, _, rfl, rfl, ?_⟩
    refine ⟨_, rfl, v', g, rfl, h2, fun t ks H3 s3 ht hk => ⟨t, rfl, ⟨_, ht⟩, fun D nD => ?_⟩⟩
    -- the list splits
    have hX : Fm.flat [(fm, false)] = ((Fm.pre fm false).reverse.drop (i + 1)).reverse ++ (g, d) :: ((Fm.pre fm false).reverse.take i).reverse := by
      have e : (Fm.pre fm false).reverse = (Fm.pre fm false).reverse.take i ++ (g, d) :: (Fm.pre fm false).reverse.drop (i + 1) := by
        obtain ⟨li, e2⟩ := List.getElem?_eq_some_iff.mp hg
        rw [← e2, ← List.drop_eq_getElem_cons li, List.take_append_drop]
      have e3 := congrArg List.reverse e
      rw [List.reverse_reverse, List.reverse_append, List.reverse_cons, List.append_assoc] at e3
      show Fm.pre fm false ++ [] = _
      rw [List.append_nil]
      exact e3
    obtain ⟨Y, hY⟩ := Fm.flat_mid g d _ _ _ _ (Nat.le_refl _) hX
    obtain ⟨ts2, rfl, hts2⟩ := Fm.flat_cut _ _ _ (hts.trans hY)
    rw [List.map_append, List.map_map, List.reverse_append] at hms
    have lfl := len_flat (g.kids.map (fun k => (k, Fm.bel g d)) ++ ts2)
    rw [hts, List.length_reverse, List.length_take, List.length_reverse, List.length_append, List.length_map] at lfl
    have lk := hk.length
    have lt2 : (ts2.map trp).reverse.length = ts2.length := by simp
    generalize hB2 : (ts2.map trp).reverse = M2 at hms lt2
    have hRs : g.kids.map (trp ∘ fun k => (k, Fm.bel g d)) = g.kids.map (fun k => Fm.tr k (Fm.bel g d)) := rfl
    rw [hRs] at hms
    generalize hRR : g.kids.map (fun k => Fm.tr k (Fm.bel g d)) = RR at hms
    have lRR : RR.length = ks.length := by rw [← hRR, List.length_map, lk]
    have nMt : H3 M = some (.lst ms) := s3 _ _ hM
    have nDM : M ≠ D := ne_of_none nMt nD
    have nM0 : H M = none := nM
    refine lc_tup (xs := ks) (fun j H' => ∃ (ms' ds : List V), H' D = some (.lst ds) ∧ H' M = some (.lst ms') ∧ Same H H' ∧ Tk K H3 H' ∧ H' R = some (.lst us.reverse) ∧ FmsAt K H' ms' (M2 ++ (RR.drop j).reverse) ∧ FmsAt K H' ds (RR.take j) ∧ ds.length = j) ⟨ms, [], upd_same, same_new nD _ _ _ nMt, (sH.trans s3).trans (same_new nD _), tk_new nD _, same_new nD _ _ _ (s3 _ _ hR), ?_, .nil, rfl⟩ (fun j H' _ ⟨_, _, _, _, _, h, _⟩ => h _ _ ht) ?_ ?_
    · exact (hms.tk (.of_same s3)).tk (tk_new nD _)
    · rintro j y H4 hj ⟨ms', ds, hD, hM4, s4, t4, hR4, k4, kd, ld⟩
      have lj : j < RR.length := by rw [lRR]; exact (List.getElem?_eq_some_iff.mp hj).1
      rw [List.drop_eq_getElem_cons lj, List.reverse_cons, ← List.append_assoc] at k4
      obtain ⟨cs, x, gs, y', e1, e2, k5, k6⟩ := k4.unsnoc (by simp)
      obtain ⟨rfl, rfl⟩ : gs = M2 ++ (RR.drop (j + 1)).reverse ∧ y' = RR[j] := by
        have := List.append_inj' e2.symm rfl
        exact ⟨this.1, by simpa using this.2⟩
      subst e1
      have nMD : M ≠ D := nDM
      have nRD : R ≠ D := ne_of_none (s3 _ _ hR) nD
      have nD0 : H D = none := (sH.trans s3).free nD
      refine ⟨rfl, _, rfl, .inl ⟨rfl, _, SqL.of hM4⟩, M, _, x, rfl, rfl, hM4, at_last cs x, ?_⟩
      rw [drop_last]
      have hD5 : upd H4 M (.lst cs) D = some (.lst ds) := by rw [upd_ne nMD.symm]; exact hD
      have t5 := (tk_lst (K := K) hM4 (.lst cs)).trans (tk_lst (K := K) hD5 (.lst (ds ++ [x])))
      refine ⟨ds, hD5, lineOk (by have := (List.getElem?_eq_some_iff.mp hj).1; omega), cs, ds ++ [x], upd_same, by rw [upd_ne nMD]; exact upd_same, same_to (same_to s4 nM0) nD0, t4.trans t5, by rw [upd_ne nRD, upd_ne nMR.symm]; exact hR4, k5.tk t5, ?_, by simp [ld]⟩
      rw [List.take_succ, List.getElem?_eq_getElem lj]
      exact (FmsAt.append (.cons k6 .nil) kd).tk t5
    · rintro H4 ⟨ms', ds, hD, hM4, s4, t4, hR4, k4, kd, ld⟩
      rw [← lRR, List.drop_length, List.reverse_nil, List.append_nil] at k4
      rw [← lRR, List.take_length] at kd
      refine ⟨D, _, rfl, .inl ⟨SqL.of hD, fun T nT => ?_⟩⟩
      have sT := same_new nT (.tup ds)
      have tT := Tk.of_same (K := K) sT
      have hM5 := sT _ _ hM4
      refine ⟨_, rfl, .inl ⟨rfl, _, SqL.of hM5⟩, _, rfl, _, rfl, _, rfl, v', g, d, T, ds, RR, Fm.tr g d, rfl, ((h2.tk (.of_same s3)).tk t4).tk tT, SqT.of upd_same, kd.tk tT, by rw [← hRR]; exact Fm.one_tr g d, fun v2 H6 s6 hv2 => ?_⟩
      have hM6 := s6 _ _ hM5
      have lms := k4.length
      refine ⟨M, _, _, rfl, rfl, hM6, lineOk (by omega), (g, d) :: ts2, ms' ++ [v2], _, _, _, _, rfl, same_to (s4.trans (sT.trans s6)) nM0, ?_, ?_, upd_same, ?_, ?_⟩
      · exact (((tH.trans (.of_same s3)).trans t4).trans (tT.trans (.of_same s6))).trans (tk_lst hM6 _)
      · rw [upd_ne nMR.symm]; exact s6 _ _ (sT _ _ hR4)
      · rw [List.map_cons, List.reverse_cons, hB2]
        exact (FmsAt.append (.cons hv2 .nil) (k4.tk (tT.trans (.of_same s6)))).tk (tk_lst hM6 _)
      · rw [Fm.flat_head, hts, List.take_succ, hg, List.reverse_append]
        rfl
  · rintro σ H2 ⟨ts, ms, here, denied, rows, z, rfl, sH, tH, hR, hM, hms, hts⟩
    rw [List.length_reverse, kU.length, ← List.length_reverse (as := Fm.pre fm false), List.take_length, List.reverse_reverse] at hts
    have e : Fm.flat ts = Fm.flat [(fm, false)] ++ [] := by
      rw [hts, List.append_nil]
      show _ = Fm.pre fm false ++ []
      rw [List.append_nil]
    obtain ⟨ts2, rfl, h2⟩ := Fm.flat_cut _ _ _ e
    cases ts2 with
    | cons p ps => rw [Fm.flat_head] at h2; cases h2
    | nil =>
      obtain ⟨u, r, rfl, hu, hr'⟩ := FmsAt.uncons (f := trp (fm, false)) (fs := []) hms
      exact ⟨_, rfl, M, _, _, _, rfl, rfl, SqL.of hM, at_of (j := 0) rfl rfl, q u H2 sH hu⟩
end
end K1

set_option Elab.async false
set_option linter.all false
set_option maxRecDepth 100000
set_option maxHeartbeats 4000000
namespace K1
open PySem L2 Fo
open C8 (Cal pe_c pss_cut)
section
variable {P : Program} {w : World} {K : PySem.W.Frag} {mg : Str → Option Value} {base : Heap}
/-! ### inward, bound, shaped -/
def tg : Fm → Str
  | .rel _ _ => "rel"
  | .same _ _ => "same"
  | .neg _ => "not"
  | .con b _ => cn b
  | .qu b _ _ => qn b
theorem FmAt.tag {H : Hp} {v : V} {g : Fm} (h : FmAt K H v g) : ∃ (a : Addr) (r : List V), v = .ref a ∧ SqT K H a (.str (tg g) :: r) := by
  cases g with
  | rel n xs => rw [FmAt] at h; obtain ⟨a, t, rfl, h1, h2⟩ := h; exact ⟨a, _, rfl, h1⟩
  | same x y => rw [FmAt] at h; obtain ⟨a, rfl, h1⟩ := h; exact ⟨a, _, rfl, h1⟩
  | neg f => rw [FmAt] at h; obtain ⟨a, u, rfl, h1, h2⟩ := h; exact ⟨a, _, rfl, h1⟩
  | con b fs => rw [FmAt] at h; obtain ⟨a, t, us, rfl, h1, h2⟩ := h; exact ⟨a, _, rfl, h1⟩
  | qu b x f => rw [FmAt] at h; obtain ⟨a, u, rfl, h1, h2⟩ := h; exact ⟨a, _, rfl, h1⟩
def spInward (K : PySem.W.Frag) (n : Nat) : Sp := fun vs H Q _ => ∃ (v : V) (f : Fm), vs = [v] ∧ FmAt K H v f ∧ f.dp < n ∧ f.nnf = true ∧ ∀ (H' : Hp), Same H H' → Q (.bl true) H'
abbrev nInward : List Str := ["formula", "row"]
theorem scInward : FnScope nInward ["formula"] (defScope sInward) := ⟨rfl, rfl, rfl, by decide +kernel, rfl, by decide +kernel, by decide +kernel⟩
theorem nnf_kid {f g : Fm} (h : f.nnf = true) (hm : g ∈ f.kids) (no : isN f = false) : g.nnf = true := by
  cases f with
  | rel n xs => cases hm
  | same x y => cases hm
  | neg k => cases no
  | con b fs => rw [Fm.nnf] at h; exact Fm.nnfs_mem h hm
  | qu b x k => rw [Fm.nnf] at h; rw [List.mem_singleton.mp hm]; exact h
theorem ok_inward {n : Nat} {f : Addr} {fd : FuncData} (B : Bt mg) (cLInner : Cal P w K mg base 1 "_law_inner" (spLInner K) []) (cInward : Cal P w K mg base (n + 1) "_law_inward" (spInward K n) []) (F : Fun K "_law_inward" "_law_inward" sInward f fd) :
    FnOk P w K mg base CX0 (n + 2) f fd ["formula"] (spInward K (n + 1)) := by
  refine F.ok scInward (fun vs H Q E h => ?_) (fun cdv A outer s H vs Q E hr h => ?_)
  · obtain ⟨v, f, rfl, _⟩ := h
    rfl
  obtain ⟨v, fm, rfl, hF, hd, hn, q⟩ := h
  have nd := scInward.nd
  refine ⟨_, (pss_cons (ps_if (pt_cmpR op_eq (pe_ix ix_tup (pv 0) pe_int (fun _ _ => rfl)) pe_str (nomark _)) (pss_one (ps_ret (pe_or (pe_cmpR op_eq (pe_ix ix_tup (pe_ix ix_tup (pv 0) pe_int (fun _ _ => rfl)) pe_int (fun _ _ => rfl)) pe_str (nomark _)) (pe_one (pe_cmpR op_eq (pe_ix ix_tup (pe_ix ix_tup (pv 0) pe_int (fun _ _ => rfl)) pe_int (fun _ _ => rfl)) pe_str (nomark _)))))) pss_nil)
    (pss_cons (ps_for PassesOwn.never rfl (pi_list (pe_c cLInner hr (by omega) rfl (pa_cons (pv 0) pa_nil))) (pg_name (i := 1) nd rfl (.inl rfl)) (pss_one (ps_if (pt_not (pt_val (pe_c cInward hr (Nat.le_refl _) rfl (pa_cons (pv 1) pa_nil)))) (pss_one (ps_ret pe_bl)) pss_nil)))
    (pss_one (ps_ret pe_bl)))), ?_⟩
  cases hN : isN fm with
  | true =>
    cases fm with
    | neg g =>
      have hF0 := hF
      rw [FmAt] at hF
      obtain ⟨a, u, rfl, h1, h2⟩ := hF
      obtain ⟨b, r, rfl, hb⟩ := FmAt.tag h2
      refine ⟨_, rfl, a, _, _, _, rfl, rfl, h1, at_of (j := 0) rfl rfl, rfl, true, (by decide +kernel), ?_⟩
      refine ⟨_, rfl, a, _, _, _, rfl, rfl, h1, at_of (j := 1) rfl rfl, b, _, _, _, rfl, rfl, hb, at_of (j := 0) rfl rfl, rfl, _, rfl, ?_⟩
      refine ite2 (fun _ => q H (Same.refl _)) (fun c => ⟨_, rfl, a, _, _, _, rfl, rfl, h1, at_of (j := 1) rfl rfl, b, _, _, _, rfl, rfl, hb, at_of (j := 0) rfl rfl, rfl, ?_⟩)
      have e : decide (V.str (tg g) = V.str "same") = true := by
        cases g with
        | rel n xs => exact absurd (by show decide (V.str "rel" = V.str "rel") = true; decide +kernel) c
        | same x y => show decide (V.str "same" = V.str "same") = true; decide +kernel
        | neg k => cases hn
        | con b fs => cases hn
        | qu b x k => cases hn
      show Q (V.bl (decide (V.str (tg g) = V.str "same"))) H
      rw [e]
      exact q H (Same.refl _)
    | rel n xs => cases hN
    | same x y => cases hN
    | con b fs => cases hN
    | qu b x k => cases hN
  | false =>
    obtain ⟨a, r, rfl, h1⟩ := FmAt.tag hF
    refine ⟨_, rfl, a, _, _, _, rfl, rfl, h1, at_of (j := 0) rfl rfl, rfl, false, ?_, ?_⟩
    · cases fm with
      | neg g => cases hN
      | rel n xs => show V.bl (decide (V.str "rel" = V.str "not")) = _; decide +kernel
      | same x y => show V.bl (decide (V.str "same" = V.str "not")) = _; decide +kernel
      | con b fs => show V.bl (decide (V.str (cn b) = V.str "not")) = _; cases b <;> decide +kernel
      | qu b x k => show V.bl (decide (V.str (qn b) = V.str "not")) = _; cases b <;> decide +kernel
    refine ⟨_, rfl, .ref a, fm, rfl, hF, fun l us H1 s1 nl hl hk => ⟨l, rfl, ⟨_, SqL.of hl⟩, ?_⟩⟩
    refine for_list (xs := us) (fun i σ H' => ∃ row, σ = [some (.ref a), row] ∧ Same H1 H') ⟨none, rfl, Same.refl _⟩ (fun i σ H' _ ⟨_, _, s2⟩ => s2.seq (SqL.of hl)) ?_ ?_
    · rintro i u σ H2 hi ⟨row, rfl, s2⟩
      obtain ⟨g, hg, hu⟩ := (hk.tk (.of_same s2)).get hi
      have hm : g ∈ fm.kids := List.mem_of_getElem? hg
      have hdg := Fm.dp_kids hm
      exact ⟨_, rfl, u, g, rfl, hu, by omega, nnf_kid hn hm hN, fun H3 s3 => ⟨true, rfl, some u, rfl, s2.trans s3⟩⟩
    · rintro σ H2 ⟨row, rfl, s2⟩
      exact q H2 (s1.trans s2)
def qc : Fm → Nat
  | .qu _ _ _ => 1
  | _ => 0
theorem bd_kids (f : Fm) : f.bd = qc f + Fm.bds f.kids := by
  cases f <;> simp [Fm.bd, qc, Fm.kids, Fm.bds]
theorem bds_take {fs : List Fm} {i : Nat} {g : Fm} (h : fs[i]? = some g) : Fm.bds (fs.take (i + 1)) = Fm.bds (fs.take i) + g.bd := by
  rw [List.take_succ, h]
  show Fm.bds (fs.take i ++ [g]) = _
  rw [Fm.bds_append]
  simp [Fm.bds]
def spBound (K : PySem.W.Frag) (n : Nat) : Sp := fun vs H Q _ => ∃ (v : V) (f : Fm), vs = [v] ∧ FmAt K H v f ∧ f.dp < n ∧ ∀ (H' : Hp), Same H H' → Q (.int (f.bd : Int)) H'
abbrev nBound : List Str := ["formula", "many", "row"]
theorem scBound : FnScope nBound ["formula"] (defScope sBound) := ⟨rfl, rfl, rfl, by decide +kernel, rfl, by decide +kernel, by decide +kernel⟩
theorem ok_bound {n : Nat} {f : Addr} {fd : FuncData} (B : Bt mg) (cLInner : Cal P w K mg base 1 "_law_inner" (spLInner K) []) (cBound : Cal P w K mg base (n + 1) "_law_bound" (spBound K n) []) (F : Fun K "_law_bound" "_law_bound" sBound f fd) :
    FnOk P w K mg base CX0 (n + 2) f fd ["formula"] (spBound K (n + 1)) := by
  refine F.ok scBound (fun vs H Q E h => ?_) (fun cdv A outer s H vs Q E hr h => ?_)
  · obtain ⟨v, f, rfl, _⟩ := h
    rfl
  obtain ⟨v, fm, rfl, hF, hd, q⟩ := h
  have nd := scBound.nd
  refine ⟨_, (pss_cut (ps_set (i := 1) nd rfl (.inl rfl) (pe_callTy call_int1 rfl B.int (by decide +kernel) (pa_cons (pe_or (pe_cmpR op_eq (pe_ix ix_tup (pv 0) pe_int (fun _ _ => rfl)) pe_str (nomark _)) (pe_one (pe_cmpR op_eq (pe_ix ix_tup (pv 0) pe_int (fun _ _ => rfl)) pe_str (nomark _)))) pa_nil)))
    (pss_cons (ps_for PassesOwn.never rfl (pi_list (pe_c cLInner hr (by omega) rfl (pa_cons (pv 0) pa_nil))) (pg_name (i := 2) nd rfl (.inl rfl)) (pss_one (ps_set (i := 1) nd rfl (.inl rfl) (pe_op op_add (pv 1) (pe_c cBound hr (Nat.le_refl _) rfl (pa_cons (pv 2) pa_nil))))))
    (pss_one (ps_ret (pv 1))))), ?_⟩
  refine ⟨fun σ' H' => σ' = [some v, some (.int (qc fm : Int)), none] ∧ H' = H, ?_, ?_⟩
  · obtain ⟨a, r, rfl, h1⟩ := FmAt.tag hF
    refine ⟨_, rfl, a, _, _, _, rfl, rfl, h1, at_of (j := 0) rfl rfl, rfl, _, rfl, ?_⟩
    cases fm with
    | qu b x k =>
      cases b with
      | true => exact .inr ⟨_, rfl, rfl, rfl⟩
      | false =>
        refine ⟨_, rfl, a, _, _, _, rfl, rfl, h1, at_of (j := 0) rfl rfl, rfl, .inr ⟨true, (by show [V.bl (decide (V.str (qn false) = V.str "all"))] = _; decide +kernel), rfl, rfl⟩⟩
    | con b fs =>
      cases b <;> exact ⟨_, rfl, a, _, _, _, rfl, rfl, h1, at_of (j := 0) rfl rfl, rfl, .inr ⟨false, (by show [V.bl (decide (V.str (cn _) = V.str "all"))] = _; decide +kernel), rfl, rfl⟩⟩
    | rel n xs => exact ⟨_, rfl, a, _, _, _, rfl, rfl, h1, at_of (j := 0) rfl rfl, rfl, .inr ⟨false, (by show [V.bl (decide (V.str "rel" = V.str "all"))] = _; decide +kernel), rfl, rfl⟩⟩
    | same x y => exact ⟨_, rfl, a, _, _, _, rfl, rfl, h1, at_of (j := 0) rfl rfl, rfl, .inr ⟨false, (by show [V.bl (decide (V.str "same" = V.str "all"))] = _; decide +kernel), rfl, rfl⟩⟩
    | neg k => exact ⟨_, rfl, a, _, _, _, rfl, rfl, h1, at_of (j := 0) rfl rfl, rfl, .inr ⟨false, (by show [V.bl (decide (V.str "not" = V.str "all"))] = _; decide +kernel), rfl, rfl⟩⟩
  rintro σ' H' ⟨rfl, rfl⟩
  refine ⟨_, rfl, v, fm, rfl, hF, fun l us H1 s1 nl hl hk => ⟨l, rfl, ⟨_, SqL.of hl⟩, ?_⟩⟩
  refine for_list (xs := us) (fun i σ H' => ∃ row, σ = [some v, some (.int ((qc fm + Fm.bds (fm.kids.take i) : Nat) : Int)), row] ∧ Same H1 H') ⟨none, rfl, Same.refl _⟩ (fun i σ H' _ ⟨_, _, s2⟩ => s2.seq (SqL.of hl)) ?_ ?_
  · rintro i u σ H2 hi ⟨row, rfl, s2⟩
    obtain ⟨g, hg, hu⟩ := (hk.tk (.of_same s2)).get hi
    have hm : g ∈ fm.kids := List.mem_of_getElem? hg
    have hdg := Fm.dp_kids hm
    refine ⟨_, rfl, _, rfl, u, g, rfl, hu, by omega, fun H3 s3 => ⟨_, _, rfl, rfl, some u, ?_, s2.trans s3⟩⟩
    show [some v, some (V.int (((qc fm + Fm.bds (fm.kids.take i) : Nat) : Int) + (g.bd : Int))), some u] = _
    have e : ((qc fm + Fm.bds (fm.kids.take i) : Nat) : Int) + (g.bd : Int) = ((qc fm + (Fm.bds (fm.kids.take i) + g.bd) : Nat) : Int) := by omega
    rw [bds_take hg, e]
  · rintro σ H2 ⟨row, rfl, s2⟩
    refine ⟨_, rfl, ?_⟩
    rw [hk.length, List.take_length, ← bd_kids]
    exact q H2 (s1.trans s2)
end
end K1

set_option Elab.async false
set_option linter.all false
set_option maxRecDepth 100000
set_option maxHeartbeats 4000000
namespace K1
open PySem L2 Fo
open C8 (Cal pe_c pss_cut)
section
variable {P : Program} {w : World} {K : PySem.W.Frag} {mg : Str → Option Value} {base : Heap}
theorem ty_tup {H : Hp} {a : Addr} {xs : List V} (h : SqT K H a xs) : TyX K H (.ref a) (.type "tuple") := by
  rcases h with (h | ⟨o, h⟩) | ⟨o, its, n, h, c, _⟩
  · exact .base (.tup h)
  · exact .fTuple h
  · exact .kTuple h c
def spShaped (K : PySem.W.Frag) (n : Nat) : Sp := fun vs H Q _ => ∃ (v : V) (f : Fm), vs = [v] ∧ FmAt K H v f ∧ f.dp < n ∧ f.ct ≤ 1000 ∧ ∀ (H' : Hp), Same H H' → Q (.bl true) H'
abbrev nShaped : List Str := ["formula", "row"]
theorem scShaped : FnScope nShaped ["formula"] (defScope sShaped) := ⟨rfl, rfl, rfl, by decide +kernel, rfl, by decide +kernel, by decide +kernel⟩
theorem ok_shaped {n : Nat} {f : Addr} {fd : FuncData} (B : Bt mg) (cShaped : Cal P w K mg base n "_law_shaped" (spShaped K n) []) (F : Fun K "_law_shaped" "_law_shaped" sShaped f fd) : FnOk P w K mg base CX0 (n + 1) f fd ["formula"] (spShaped K (n + 1)) := by
  refine F.ok scShaped (fun vs H Q E h => ?_) (fun cdv A outer s H vs Q E hr h => ?_)
  · obtain ⟨v, f, rfl, _⟩ := h
    rfl
  obtain ⟨v, fm, rfl, hF, hd, hc, q⟩ := h
  have nd := scShaped.nd
  refine ⟨_, (pss_cons (ps_if (PW.pt (pw_or (pt_not (pt_val (pe_callB call_isi rfl B.isinstance (by decide +kernel) (pa_cons (pv 0) (pa_cons (pe_bltn (v := .ty "tuple") rfl B.tuple (by decide +kernel) rfl) pa_nil))))) (pw_or1 (pt_cmpR op_lt (pe_callB call_len_seq rfl B.len PySem.boot_len (pa_cons (pv 0) pa_nil)) pe_int (nomark _))))) (pss_one (ps_ret pe_bl)) pss_nil)
    (pss_cons (ps_if (pt_cmpR op_in_seq (pe_ix ix_tup (pv 0) pe_int (fun _ _ => rfl)) (pe_lst (pa_cons pe_str (pa_cons pe_str pa_nil))) rfl) (pss_cons (ps_if (PW.pt (pw_or (pt_cmpR op_ne (pe_callB call_len_seq rfl B.len PySem.boot_len (pa_cons (pv 0) pa_nil)) pe_int (nomark _)) (pw_or1 (pt_not (pt_val (pe_callB call_isi rfl B.isinstance (by decide +kernel) (pa_cons (pe_ix ix_tup (pv 0) pe_int (fun _ _ => rfl)) (pa_cons (pe_bltn (v := .ty "tuple") rfl B.tuple (by decide +kernel) rfl) pa_nil)))))))) (pss_one (ps_ret pe_bl)) pss_nil)
    (pss_one (ps_ret (pe_cmpR op_eq (pe_callB call_len_seq rfl B.len PySem.boot_len (pa_cons (pe_lc (own := [("row", 1)]) (g := gName 1) (tt := _) rfl nd (pi_tup (pe_ix ix_tup (pv 0) pe_int (fun _ _ => rfl))) (blkOk_by (own := [("row", 1)]) (N := nShaped) (sc := defScope sShaped) (by decide +kernel)) (fun _ _ _ _ _ => (pg_name (i := 1) nd rfl (Or.inl rfl))) (fun _ _ _ _ _ => pts_one (pt_not (pt_val (pe_c cShaped hr (Nat.le_refl _) rfl (pa_cons (pv 1) pa_nil))))) (fun _ _ _ _ _ => (pv 1))) pa_nil)) pe_int (nomark _))))) pss_nil)
    (pss_cons (ps_if (pt_cmpR op_eq (pe_ix ix_tup (pv 0) pe_int (fun _ _ => rfl)) pe_str (nomark _)) (pss_one (ps_ret (pe_and (pe_cmpR op_eq (pe_callB call_len_seq rfl B.len PySem.boot_len (pa_cons (pv 0) pa_nil)) pe_int (nomark _)) (pe_one (pe_c cShaped hr (Nat.le_refl _) rfl (pa_cons (pe_ix ix_tup (pv 0) pe_int (fun _ _ => rfl)) pa_nil)))))) pss_nil)
    (pss_cons (ps_if (pt_cmpR op_in_seq (pe_ix ix_tup (pv 0) pe_int (fun _ _ => rfl)) (pe_lst (pa_cons pe_str (pa_cons pe_str pa_nil))) rfl) (pss_one (ps_ret (pe_and (pe_cmpR op_eq (pe_callB call_len_seq rfl B.len PySem.boot_len (pa_cons (pv 0) pa_nil)) pe_int (nomark _)) (pe_and (pe_callB call_isi rfl B.isinstance (by decide +kernel) (pa_cons (pe_ix ix_tup (pv 0) pe_int (fun _ _ => rfl)) (pa_cons (pe_bltn (v := .ty "str") rfl B.str (by decide +kernel) rfl) pa_nil))) (pe_one (pe_c cShaped hr (Nat.le_refl _) rfl (pa_cons (pe_ix ix_tup (pv 0) pe_int (fun _ _ => rfl)) pa_nil))))))) pss_nil)
    (pss_one (ps_ret (pe_and (pe_cmpR op_eq (pe_callB call_len_seq rfl B.len PySem.boot_len (pa_cons (pv 0) pa_nil)) pe_int (nomark _)) (pe_and (pe_cmpR op_in_seq (pe_ix ix_tup (pv 0) pe_int (fun _ _ => rfl)) (pe_lst (pa_cons pe_str (pa_cons pe_str pa_nil))) rfl) (pe_one (pe_or (pe_cmpR op_eq (pe_ix ix_tup (pv 0) pe_int (fun _ _ => rfl)) pe_str (nomark _)) (pe_one (pe_callB call_isi rfl B.isinstance (by decide +kernel) (pa_cons (pe_ix ix_tup (pv 0) pe_int (fun _ _ => rfl)) (pa_cons (pe_bltn (v := .ty "tuple") rfl B.tuple (by decide +kernel) rfl) pa_nil)))))))))))))), ?_⟩
  cases fm with
  | rel n xs =>
    rw [FmAt] at hF
    obtain ⟨a, t, rfl, h1, h2⟩ := hF
    refine ⟨_, rfl, _, _, _, _, true, rfl, .ty "tuple", ty_tup h1, kit_ty (by decide +kernel), true, rfl, ?_⟩
    refine ⟨_, rfl, a, _, rfl, .inr h1, _, _, rfl, rfl, false, rfl, ?_⟩
    refine ⟨_, rfl, a, _, _, _, rfl, rfl, h1, at_of (j := 0) rfl rfl, l2, fun L nL => ⟨L, _, rfl, .inl (SqL.of upd_same), rfl, rfl, false, inF (by decide +kernel), ?_⟩⟩
    have s1 := same_new nL (.lst [V.str "and", V.str "or"])
    generalize hH1 : upd H L (.lst [V.str "and", V.str "or"]) = H1 at s1 ⊢
    have h1' := Tk.of_same (K := K) s1 _ _ h1
    refine ⟨_, rfl, a, _, _, _, rfl, rfl, h1', at_of (j := 0) rfl rfl, rfl, false, (by decide +kernel), ?_⟩
    refine ⟨_, rfl, a, _, _, _, rfl, rfl, h1', at_of (j := 0) rfl rfl, l2, fun S nS => ⟨S, _, rfl, .inl (SqL.of upd_same), rfl, rfl, false, inF (by decide +kernel), ?_⟩⟩
    have s2 := s1.trans (same_new nS (.lst [V.str "some", V.str "all"]))
    generalize hH2 : upd H1 S (.lst [V.str "some", V.str "all"]) = H2 at s2 ⊢
    have h1'' := Tk.of_same (K := K) s2 _ _ h1
    refine ⟨_, rfl, a, _, rfl, .inr h1'', rfl, true, rfl, ?_⟩
    refine ⟨_, rfl, a, _, _, _, rfl, rfl, h1'', at_of (j := 0) rfl rfl, l2, fun U nU => ⟨U, _, rfl, .inl (SqL.of upd_same), rfl, rfl, true, inT (by decide +kernel), ?_⟩⟩
    have s3 := s2.trans (same_new nU (.lst [V.str "rel", V.str "same"]))
    generalize hH3 : upd H2 U (.lst [V.str "rel", V.str "same"]) = H3 at s3 ⊢
    have h3 := Tk.of_same (K := K) s3 _ _ h1
    refine ⟨_, rfl, a, _, _, _, rfl, rfl, h3, at_of (j := 0) rfl rfl, rfl, false, (by decide +kernel), ?_⟩
    refine ⟨_, rfl, a, _, _, _, rfl, rfl, h3, at_of (j := 2) rfl rfl, _, _, _, _, true, rfl, .ty "tuple", ty_tup (Tk.of_same s3 _ _ h2), kit_ty (by decide +kernel), q H3 s3⟩
  | same x y =>
    rw [FmAt] at hF
    obtain ⟨a, rfl, h1⟩ := hF
    refine ⟨_, rfl, _, _, _, _, true, rfl, .ty "tuple", ty_tup h1, kit_ty (by decide +kernel), true, rfl, ?_⟩
    refine ⟨_, rfl, a, _, rfl, .inr h1, _, _, rfl, rfl, false, rfl, ?_⟩
    refine ⟨_, rfl, a, _, _, _, rfl, rfl, h1, at_of (j := 0) rfl rfl, l2, fun L nL => ⟨L, _, rfl, .inl (SqL.of upd_same), rfl, rfl, false, inF (by decide +kernel), ?_⟩⟩
    have s1 := same_new nL (.lst [V.str "and", V.str "or"])
    generalize hH1 : upd H L (.lst [V.str "and", V.str "or"]) = H1 at s1 ⊢
    have h1' := Tk.of_same (K := K) s1 _ _ h1
    refine ⟨_, rfl, a, _, _, _, rfl, rfl, h1', at_of (j := 0) rfl rfl, rfl, false, (by decide +kernel), ?_⟩
    refine ⟨_, rfl, a, _, _, _, rfl, rfl, h1', at_of (j := 0) rfl rfl, l2, fun S nS => ⟨S, _, rfl, .inl (SqL.of upd_same), rfl, rfl, false, inF (by decide +kernel), ?_⟩⟩
    have s2 := s1.trans (same_new nS (.lst [V.str "some", V.str "all"]))
    generalize hH2 : upd H1 S (.lst [V.str "some", V.str "all"]) = H2 at s2 ⊢
    have h1'' := Tk.of_same (K := K) s2 _ _ h1
    refine ⟨_, rfl, a, _, rfl, .inr h1'', rfl, true, rfl, ?_⟩
    refine ⟨_, rfl, a, _, _, _, rfl, rfl, h1'', at_of (j := 0) rfl rfl, l2, fun U nU => ⟨U, _, rfl, .inl (SqL.of upd_same), rfl, rfl, true, inT (by decide +kernel), ?_⟩⟩
    have s3 := s2.trans (same_new nU (.lst [V.str "rel", V.str "same"]))
    generalize hH3 : upd H2 U (.lst [V.str "rel", V.str "same"]) = H3 at s3 ⊢
    have h3 := Tk.of_same (K := K) s3 _ _ h1
    exact ⟨_, rfl, a, _, _, _, rfl, rfl, h3, at_of (j := 0) rfl rfl, rfl, true, (by decide +kernel), q H3 s3⟩
  | neg f =>
    rw [FmAt] at hF
    obtain ⟨a, u, rfl, h1, h2⟩ := hF
    have z1 : 1 + f.dp < n + 1 := hd
    have z2 : 1 + f.ct ≤ 1000 := hc
    refine ⟨_, rfl, _, _, _, _, true, rfl, .ty "tuple", ty_tup h1, kit_ty (by decide +kernel), true, rfl, ?_⟩
    refine ⟨_, rfl, a, _, rfl, .inr h1, _, _, rfl, rfl, false, rfl, ?_⟩
    refine ⟨_, rfl, a, _, _, _, rfl, rfl, h1, at_of (j := 0) rfl rfl, l2, fun L nL => ⟨L, _, rfl, .inl (SqL.of upd_same), rfl, rfl, false, inF (by decide +kernel), ?_⟩⟩
    have s1 := same_new nL (.lst [V.str "and", V.str "or"])
    generalize hH1 : upd H L (.lst [V.str "and", V.str "or"]) = H1 at s1 ⊢
    have h1' := Tk.of_same (K := K) s1 _ _ h1
    refine ⟨_, rfl, a, _, _, _, rfl, rfl, h1', at_of (j := 0) rfl rfl, rfl, true, (by decide +kernel), ?_⟩
    refine ⟨_, rfl, a, _, rfl, .inr h1', rfl, true, rfl, ?_⟩
    exact ⟨_, rfl, a, _, _, _, rfl, rfl, h1', at_of (j := 1) rfl rfl, u, f, rfl, h2.tk (.of_same s1), by omega, by omega, fun H' s' => q H' (s1.trans s')⟩
  | con b fs =>
    rw [FmAt] at hF
    obtain ⟨a, t, us, rfl, h1, h2, h3⟩ := hF
    have z1 : Fm.dps fs < n + 1 := hd
    have z2 : 1 + Fm.cts fs ≤ 1000 := hc
    refine ⟨_, rfl, _, _, _, _, true, rfl, .ty "tuple", ty_tup h1, kit_ty (by decide +kernel), true, rfl, ?_⟩
    refine ⟨_, rfl, a, _, rfl, .inr h1, _, _, rfl, rfl, false, rfl, ?_⟩
    refine ⟨_, rfl, a, _, _, _, rfl, rfl, h1, at_of (j := 0) rfl rfl, l2, fun L nL => ⟨L, _, rfl, .inl (SqL.of upd_same), rfl, rfl, true, inT (by cases b <;> decide +kernel), ?_⟩⟩
    have s1 := same_new nL (.lst [V.str "and", V.str "or"])
    generalize hH1 : upd H L (.lst [V.str "and", V.str "or"]) = H1 at s1 ⊢
    have h1' := Tk.of_same (K := K) s1 _ _ h1
    have h2' := Tk.of_same (K := K) s1 _ _ h2
    refine ⟨_, rfl, a, _, rfl, .inr h1', rfl, false, rfl, ?_⟩
    refine ⟨_, rfl, a, _, _, _, rfl, rfl, h1', at_of (j := 1) rfl rfl, _, _, _, _, true, rfl, .ty "tuple", ty_tup h2', kit_ty (by decide +kernel), true, rfl, ?_⟩
    refine ⟨_, rfl, a, _, _, _, rfl, rfl, h1', at_of (j := 1) rfl rfl, t, rfl, ⟨_, h2'⟩, fun D nD => ?_⟩
    have s1D := s1.trans (same_new nD (.lst []))
    refine lc_tup (xs := us) (fun i H' => Same (upd H1 D (.lst [])) H') (Same.refl _) (fun i H' _ h => Tk.of_same (s1D.trans h) _ _ h2) ?_ ?_
    · rintro i u H2 hi s2
      obtain ⟨g, hg, hu⟩ := (h3.tk (.of_same (s1D.trans s2))).get hi
      have hm := List.mem_of_getElem? hg
      have d1 := Fm.dps_mem hm
      have d2 := Fm.cts_mem hm
      exact ⟨rfl, _, rfl, u, g, rfl, hu, by omega, by omega, fun H3 s3 => ⟨true, rfl, s2.trans s3⟩⟩
    · rintro H2 s2
      exact ⟨D, _, rfl, .inl (SqL.of (s2 _ _ upd_same)), rfl, q H2 (s1D.trans s2)⟩
  | qu b x f =>
    rw [FmAt] at hF
    obtain ⟨a, u, rfl, h1, h2⟩ := hF
    have z1 : 1 + f.dp < n + 1 := hd
    have z2 : 1 + f.ct ≤ 1000 := hc
    refine ⟨_, rfl, _, _, _, _, true, rfl, .ty "tuple", ty_tup h1, kit_ty (by decide +kernel), true, rfl, ?_⟩
    refine ⟨_, rfl, a, _, rfl, .inr h1, _, _, rfl, rfl, false, rfl, ?_⟩
    refine ⟨_, rfl, a, _, _, _, rfl, rfl, h1, at_of (j := 0) rfl rfl, l2, fun L nL => ⟨L, _, rfl, .inl (SqL.of upd_same), rfl, rfl, false, inF (by cases b <;> decide +kernel), ?_⟩⟩
    have s1 := same_new nL (.lst [V.str "and", V.str "or"])
    generalize hH1 : upd H L (.lst [V.str "and", V.str "or"]) = H1 at s1 ⊢
    have h1' := Tk.of_same (K := K) s1 _ _ h1
    refine ⟨_, rfl, a, _, _, _, rfl, rfl, h1', at_of (j := 0) rfl rfl, rfl, false, (by cases b <;> decide +kernel), ?_⟩
    refine ⟨_, rfl, a, _, _, _, rfl, rfl, h1', at_of (j := 0) rfl rfl, l2, fun S nS => ⟨S, _, rfl, .inl (SqL.of upd_same), rfl, rfl, true, inT (by cases b <;> decide +kernel), ?_⟩⟩
    have s2 := s1.trans (same_new nS (.lst [V.str "some", V.str "all"]))
    generalize hH2 : upd H1 S (.lst [V.str "some", V.str "all"]) = H2 at s2 ⊢
    have h1'' := Tk.of_same (K := K) s2 _ _ h1
    refine ⟨_, rfl, a, _, rfl, .inr h1'', rfl, true, rfl, ?_⟩
    refine ⟨_, rfl, a, _, _, _, rfl, rfl, h1'', at_of (j := 1) rfl rfl, _, _, _, _, true, rfl, .ty "str", .base (.str x), kit_ty (by decide +kernel), true, rfl, ?_⟩
    exact ⟨_, rfl, a, _, _, _, rfl, rfl, h1'', at_of (j := 2) rfl rfl, u, f, rfl, h2.tk (.of_same s2), by omega, by omega, fun H' s' => q H' (s2.trans s')⟩
end
end K1

set_option Elab.async false
set_option linter.all false
set_option maxRecDepth 100000
set_option maxHeartbeats 4000000
/-! data: a tuple in a tuple of tuples; lists of texts -/
namespace Da
open PySem L2
def dint (r : List Int) : PyData := .tuple (r.map PyData.int)
theorem lay_ints : ∀ r : List Int, PyData.canLayAll0 (r.map PyData.int) = true
  | [] => rfl
  | x :: r => by rw [List.map_cons, PyData.canLayAll0, lay_ints r]; rfl
theorem dep_ints : ∀ r : List Int, PyData.depthAll (r.map PyData.int) ≤ 2
  | [] => by decide
  | x :: r => by
    rw [List.map_cons, PyData.depthAll]
    have := dep_ints r
    have e : (PyData.int x).depth ≤ 2 := by rw [PyData.depth]; omega
    omega
theorem lay_strs : ∀ r : List Str, (∀ x ∈ r, PyData.strOk x = true) → PyData.canLayAll0 (r.map PyData.str) = true
  | [], _ => rfl
  | x :: r, h => by
    rw [List.map_cons, PyData.canLayAll0, lay_strs r fun z hz => h z (List.mem_cons_of_mem _ hz), PyData.canLay0, h x List.mem_cons_self]
    rfl
theorem dep_strs : ∀ r : List Str, PyData.depthAll (r.map PyData.str) ≤ 2
  | [] => by decide
  | x :: r => by
    rw [List.map_cons, PyData.depthAll]
    have := dep_strs r
    have e : (PyData.str x).depth ≤ 2 := by rw [PyData.depth]; omega
    omega

theorem shaped_ints (r : List Int) : SeqAt.shaped (dint r) = true := by
  unfold SeqAt.shaped dint
  rw [Bool.and_eq_true, decide_eq_true_eq, PyData.canLay0, PyData.depth]
  have := dep_ints r
  exact ⟨lay_ints r, by omega⟩
theorem lay_rows : ∀ rs : List (List Int), PyData.canLayAll0 (rs.map dint) = true
  | [] => rfl
  | r :: rs => by rw [List.map_cons, PyData.canLayAll0, lay_rows rs, dint, PyData.canLay0, lay_ints r]; rfl
theorem dep_rows : ∀ rs : List (List Int), PyData.depthAll (rs.map dint) ≤ 4
  | [] => by decide
  | r :: rs => by
    rw [List.map_cons, PyData.depthAll]
    have := dep_rows rs
    have e : (dint r).depth ≤ 4 := by rw [dint, PyData.depth]; have := dep_ints r; omega
    omega
theorem shaped_rows (rs : List (List Int)) : SeqAt.shaped (.tuple (rs.map dint)) = true := by
  unfold SeqAt.shaped
  rw [Bool.and_eq_true, decide_eq_true_eq, PyData.canLay0, PyData.depth]
  have := dep_rows rs
  exact ⟨lay_rows rs, by omega⟩
theorem shaped_strs (r : List Str) (h : ∀ x ∈ r, PyData.strOk x = true) : SeqAt.shaped (.list (r.map PyData.str)) = true := by
  unfold SeqAt.shaped
  rw [Bool.and_eq_true, decide_eq_true_eq, PyData.canLay0, PyData.depth]
  have := dep_strs r
  exact ⟨lay_strs r h, by omega⟩
theorem eqv_strs : ∀ r : List Str, PyData.eqvAll (r.map PyData.str) (r.map PyData.str) = true
  | [] => by simp [PyData.eqvAll]
  | x :: r => by
    rw [List.map_cons, PyData.eqvAll, eqv_strs r, PyData.eqv]
    simp
theorem eqv_list (r : List Str) : PyData.eqv (.list (r.map PyData.str)) (.list (r.map PyData.str)) = true := by
  rw [PyData.eqv]; exact eqv_strs r
theorem dp_ints {K : PySem.W.Frag} {H : Hp} : ∀ r : List Int, DpAll K H (r.map V.int) (r.map PyData.int)
  | [] => .nil
  | x :: r => .cons (.int x) (dp_ints r)
theorem dp_strs {K : PySem.W.Frag} {H : Hp} : ∀ r : List Str, DpAll K H (r.map V.str) (r.map PyData.str)
  | [] => .nil
  | x :: r => .cons (.str x) (dp_strs r)
def rInDT (K : PySem.W.Frag) : R2 := fun x y H Q => ∃ d ds, Dp K H x d ∧ Dp K H y (.tuple ds) ∧ SeqAt.shaped d = true ∧ SeqAt.shaped (.tuple ds) = true ∧ Q (.bl (ds.any fun z => PyData.eqv z d)) H
theorem lay_of {ds : List PyData} (h : SeqAt.shaped (.tuple ds) = true) : PyData.canLayAll0 ds = true := by
  have := SeqAt.canLay_of_shaped h
  rw [PyData.canLay0] at this
  exact this
theorem op_inDT {X : Cx} (hu : X.A.units + 65 < cLine) : OpR X (compareOp .In) (rInDT X.K) := by
  intro pins s σ H x y v u Q I rx ry h
  obtain ⟨d, ds, hd, he, sd, se, q⟩ := h
  obtain ⟨as, r1⟩ := Dp.reads I d x v hd rx
  obtain ⟨bs, r2⟩ := Dp.reads I (.tuple ds) y u he ry
  exact SeqAt.in_tuple_reads r2 r1 (lay_of se) (SeqAt.canLay_of_shaped sd) (PyProof.Rows.room_in_shaped sd hu) ⟨.bl _, H, I, rfl, q⟩
end Da

set_option Elab.async false
set_option linter.all false
set_option maxRecDepth 100000
set_option maxHeartbeats 4000000
namespace K1
open PySem L2 Fo
open C8 (Cal pe_c pss_cut)
section
variable {P : Program} {w : World} {K : PySem.W.Frag} {mg : Str → Option Value} {base : Heap}
theorem catA_k {X : Cx} {K : PySem.W.Frag} (h : X.K = K) : OpR X (binaryOp .Add) (rCatA K) := by
  subst h
  exact op_catA
/-! ### tuples, structure, values -/
def RowIs (K : PySem.W.Frag) (n : Nat) (H : Hp) (u : V) : Prop := ∃ (a : Addr) (r : List Int), u = .ref a ∧ SqT K H a (r.map V.int) ∧ r.length ≤ n
theorem RowIs.tk {n : Nat} {H H' : Hp} {u : V} (k : Tk K H H') (h : RowIs K n H u) : RowIs K n H' u :=
  let ⟨a, r, e, h1, h2⟩ := h; ⟨a, r, e, k _ _ h1, h2⟩
def RowsIn (K : PySem.W.Frag) (n : Nat) (H : Hp) (us : List V) : Prop := ∀ u ∈ us, RowIs K n H u
theorem RowsIn.tk {n : Nat} {H H' : Hp} {us : List V} (k : Tk K H H') (h : RowsIn K n H us) : RowsIn K n H' us := fun u hu => (h u hu).tk k
theorem RowsIn.append {n : Nat} {H : Hp} {us ws : List V} (h : RowsIn K n H us) (k : RowsIn K n H ws) : RowsIn K n H (us ++ ws) := fun u hu => by
  rcases List.mem_append.mp hu with e | e
  · exact h u e
  · exact k u e
theorem RowsIn.one {n : Nat} {H : Hp} {u : V} (h : RowIs K n H u) : RowsIn K n H [u] := fun v hv => by rw [List.mem_singleton.mp hv]; exact h
theorem RowsIn.nil {n : Nat} {H : Hp} : RowsIn K n H [] := fun u hu => nomatch hu
def spTuples (K : PySem.W.Frag) : Sp := fun vs H Q _ => ∃ (m pl : Nat), vs = [.int (m : Int), .int (pl : Int)] ∧ m ≤ 3 ∧ pl ≤ 2 ∧ ∀ (l : Addr) (us : List V) (H' : Hp), Same H H' → H' l = some (.lst us) → RowsIn K 2 H' us → us.length ≤ 9 → Q (.ref l) H'
abbrev nTuples : List Str := ["many", "places", "rows", "k", "longer", "row", "x"]
theorem scTuples : FnScope nTuples ["many", "places"] (defScope sTuples) := ⟨rfl, rfl, rfl, by decide +kernel, rfl, by decide +kernel, by decide +kernel⟩
theorem ok_tuples {f : Addr} {fd : FuncData} (B : Bt mg) (F : Fun K "_law_tuples" "_law_tuples" sTuples f fd) : FnOk P w K mg base CX0 1 f fd ["many", "places"] (spTuples K) := by
  refine F.ok scTuples (fun vs H Q E h => ?_) (fun cdv A outer s H vs Q E hr h => ?_)
  · obtain ⟨m, pl, rfl, _⟩ := h
    rfl
  obtain ⟨m, pl, rfl, hm, hp, q⟩ := h
  have nd := scTuples.nd
  refine ⟨_, (pss_cons (ps_set (i := 2) nd rfl (.inl rfl) (pe_lst (pa_cons (pe_tup pa_nil) pa_nil)))
    (pss_cons (ps_for PassesOwn.never rfl (pi_range1 rfl B.range (pa_cons (pv 1) pa_nil)) (pg_name (i := 3) nd rfl (.inl rfl)) (pss_cons (ps_set (i := 4) nd rfl (.inl rfl) (pe_lst pa_nil))
    (pss_cons (ps_for PassesOwn.never rfl (pi_list (pv 2)) (pg_name (i := 5) nd rfl (.inr rfl)) (pss_one (ps_set (i := 4) nd rfl (.inl rfl) (pe_op op_cat (pv 4) (pe_lc (own := [("x", 6)]) (g := gName 6) (tt := tYes) rfl nd (pi_range1 rfl B.range (pa_cons (pv 0) pa_nil)) (blkOk_by (own := [("x", 6)]) (N := nTuples) (sc := defScope sTuples) (by decide +kernel)) (fun _ _ _ _ _ => (pg_name (i := 6) nd rfl (Or.inl rfl))) (fun _ _ _ _ _ => pts_nil) (fun _ _ _ _ _ => (pe_op (catA_k rfl) (pv 5) (pe_tup (pa_cons (pv 6) pa_nil)))))))))
    (pss_one (ps_set (i := 2) nd rfl (.inl rfl) (pv 4))))))
    (pss_one (ps_ret (pv 2))))), ?_⟩
  refine ⟨Nat.zero_le _, fun e ne => ⟨l1, fun R nR => ?_⟩⟩
  refine ⟨_, rfl, pl, rfl, by omega, by omega, for_range (lo := 0) (n := pl) (fun i σ H' => ∃ (L : Addr) (us : List V) (k lo ro x : Option V), σ = [some (.int (m : Int)), some (.int (pl : Int)), some (.ref L), k, lo, ro, x] ∧ Same H H' ∧ H' L = some (.lst us) ∧ RowsIn K i H' us ∧ us.length ≤ 3 ^ i) ⟨R, [.ref e], none, none, none, none, rfl, (same_new ne _).trans (same_new nR _), upd_same, RowsIn.one ⟨e, [], rfl, ?_, Nat.le_refl 0⟩, Nat.le_refl 1⟩ ?_ ?_⟩
  · exact SqT.of (same_new nR _ _ _ upd_same)
  · rintro i σ H1 hi ⟨L, us, k, lo, ro, x, rfl, s1, hL, hR, hl⟩
    have hl9 : 3 ^ i ≤ 3 := by
      have h : i = 0 ∨ i = 1 := by omega
      rcases h with h | h <;> subst h <;> decide
    refine ⟨Nat.zero_le _, fun G nG => ⟨_, rfl, L, rfl, ⟨_, SqL.of (same_new nG _ _ _ hL)⟩, ?_⟩⟩
    refine for_list (xs := us) (fun j σ H' => ∃ (G : Addr) (ws : List V) (ro x : Option V), σ = [some (.int (m : Int)), some (.int (pl : Int)), some (.ref L), some (.int (0 + (i : Int))), some (.ref G), ro, x] ∧ Same H H' ∧ H' L = some (.lst us) ∧ Tk K H1 H' ∧ H' G = some (.lst ws) ∧ RowsIn K (i + 1) H' ws ∧ ws.length ≤ 3 * j)
      ⟨G, [], ro, x, rfl, s1.trans (same_new nG _), same_new nG _ _ _ hL, tk_new nG _, upd_same, RowsIn.nil, Nat.le_refl 0⟩ (fun j σ H' _ ⟨_, _, _, _, _, _, h, _⟩ => SqL.of h) ?_ ?_
    · rintro j u σ H2 hj ⟨G, ws, ro, x, rfl, s2, hL2, t2, hG, hW, hwl⟩
      obtain ⟨a, r, rfl, hr1, hr2⟩ := (hR _ (List.mem_of_getElem? hj)).tk t2
      have lj := (List.getElem?_eq_some_iff.mp hj).1
      refine ⟨_, rfl, _, rfl, m, rfl, by omega, by omega, fun D nD => lc_range (lo := 0) (n := m) (fun c H' => ∃ xs : List V, H' D = some (.lst xs) ∧ RowsIn K (i + 1) H' xs ∧ xs.length = c ∧ Same H2 H') ⟨[], upd_same, RowsIn.nil, rfl, same_new nD _⟩ ?_ ?_⟩
      · rintro c H3 hc ⟨xs, hD, hX, hl', s3⟩
        have hr3 := Tk.of_same s3 _ _ hr1
        have hrn : H3 D = some (.lst xs) := hD
        refine ⟨rfl, _, rfl, _, rfl, l1, fun p np => ⟨a, p, _, _, rfl, rfl, tk_new np _ _ _ hr3, SqT.of upd_same, Nat.le_of_lt (lineOk (by rw [List.length_map, List.length_singleton]; omega)), fun e0 => ?_, fun _ e0 => (nomatch e0), fun _ _ p2 np2 => ?_⟩⟩
        · have hD4 := same_new np (.tup [V.int (0 + (c : Int))]) _ _ hD
          have t4 := (tk_new (K := K) np (.tup [V.int (0 + (c : Int))])).trans (tk_lst hD4 (.lst (xs ++ [.ref p])))
          refine ⟨xs, hD4, lineOk (by omega), xs ++ [.ref p], upd_same, RowsIn.append (hX.tk t4) (RowsIn.one ((RowIs.tk (tk_lst hD4 _) ⟨p, [0 + (c : Int)], rfl, SqT.of upd_same, by simp⟩))), by simp [hl'], same_to (s3.trans (same_new np _)) nD⟩
        · have s5 := (same_new np (.tup [V.int (0 + (c : Int))])).trans (same_new np2 (.tup (r.map V.int ++ [V.int (0 + (c : Int))])))
          have hD4 := s5 _ _ hD
          have t4 := (Tk.of_same (K := K) s5).trans (tk_lst hD4 (.lst (xs ++ [.ref p2])))
          refine ⟨xs, hD4, lineOk (by omega), xs ++ [.ref p2], upd_same, RowsIn.append (hX.tk t4) (RowsIn.one ((RowIs.tk (tk_lst hD4 _) ⟨p2, r ++ [0 + (c : Int)], rfl, ?_, by rw [List.length_append, List.length_singleton]; omega⟩))), by simp [hl'], same_to (s3.trans s5) nD⟩
          rw [List.map_append]
          exact SqT.of upd_same
      · rintro H3 ⟨xs, hD, hX, hl', s3⟩
        have hG3 := s3 _ _ hG
        refine ⟨G, D, ws, xs, rfl, rfl, hG3, hD, Nat.le_of_lt (lineOk (by omega)), fun p np => ?_⟩
        have sp := s3.trans (same_new np (.lst (ws ++ xs)))
        refine ⟨p, ws ++ xs, _, _, rfl, s2.trans sp, sp _ _ hL2, t2.trans (.of_same sp), upd_same, RowsIn.append (hW.tk (.of_same sp)) (hX.tk (tk_new np _)), ?_⟩
        rw [List.length_append]
        omega
    · rintro σ H2 ⟨G, ws, ro, x, rfl, s2, hL2, t2, hG, hW, hwl⟩
      refine ⟨_, rfl, G, ws, _, _, _, x, rfl, s2, hG, hW, ?_⟩
      rw [Nat.pow_succ]
      omega
  · rintro σ H1 ⟨L, us, k, lo, ro, x, rfl, s1, hL, hR, hl⟩
    refine ⟨_, rfl, q L us H1 s1 hL (fun u hu => ?_) ?_⟩
    · obtain ⟨a, r, e1, e2, e3⟩ := hR u hu
      exact ⟨a, r, e1, e2, by omega⟩
    · have h : pl = 0 ∨ pl = 1 ∨ pl = 2 := by omega
      rcases h with h | h | h <;> subst h <;> omega
end
end K1

set_option Elab.async false
set_option linter.all false
set_option maxRecDepth 100000
set_option maxHeartbeats 4000000
namespace K1
open PySem L2 Fo
open C8 (Cal pe_c pss_cut)
section
variable {P : Program} {w : World} {K : PySem.W.Frag} {mg : Str → Option Value} {base : Heap}
def RowAt (K : PySem.W.Frag) (H : Hp) (u : V) (r : List Int) : Prop := ∃ a : Addr, u = .ref a ∧ SqT K H a (r.map V.int)
theorem RowAt.tk {H H' : Hp} {u : V} {r : List Int} (k : Tk K H H') (h : RowAt K H u r) : RowAt K H' u r :=
  let ⟨a, e, h1⟩ := h; ⟨a, e, k _ _ h1⟩
theorem rows_all2 {n : Nat} {H : Hp} : ∀ {us : List V}, RowsIn K n H us → ∃ rs, All2 (RowAt K H) us rs
  | [], _ => ⟨[], .nil⟩
  | u :: us, h => by
    obtain ⟨rs, k⟩ := rows_all2 (us := us) fun z hz => h z (List.mem_cons_of_mem _ hz)
    obtain ⟨a, r, e, h1, _⟩ := h u List.mem_cons_self
    exact ⟨r :: rs, .cons ⟨a, e, h1⟩ k⟩
def RelAt (K : PySem.W.Frag) (H : Hp) (u : V) (p : Str × List (List Int)) : Prop := ∃ (a t : Addr) (pl : Int) (us : List V), u = .ref a ∧ SqT K H a [.str p.1, .int pl, .ref t] ∧ SqT K H t us ∧ All2 (RowAt K H) us p.2
theorem RelAt.tk {H H' : Hp} {u : V} {p : Str × List (List Int)} (k : Tk K H H') (h : RelAt K H u p) : RelAt K H' u p :=
  let ⟨a, t, pl, us, e, h1, h2, h3⟩ := h; ⟨a, t, pl, us, e, k _ _ h1, k _ _ h2, h3.imp fun _ _ z => z.tk k⟩
def StrAt (K : PySem.W.Frag) (H : Hp) (v : V) (m : Nat) (rels : List (Str × List (List Int))) : Prop := ∃ (a t : Addr) (us : List V), v = .ref a ∧ SqT K H a [.str "structure", .int (m : Int), .ref t] ∧ SqT K H t us ∧ All2 (RelAt K H) us rels
theorem StrAt.tk {H H' : Hp} {v : V} {m : Nat} {rels : List (Str × List (List Int))} (k : Tk K H H') (h : StrAt K H v m rels) : StrAt K H' v m rels :=
  let ⟨a, t, us, e, h1, h2, h3⟩ := h; ⟨a, t, us, e, k _ _ h1, k _ _ h2, h3.imp fun _ _ z => z.tk k⟩
def spStruct (K : PySem.W.Frag) : Sp := fun vs H Q _ => ∃ (b d : Addr) (kv : V) (m : Nat), vs = [.ref b, kv, .int (m : Int)] ∧ BoxAt H b d ∧ KindsAt K H kv ∧ m ≤ 3 ∧
  ∀ (v : V) (rels : List (Str × List (List Int))) (H' : Hp), But b H H' → BoxAt H' b d → StrAt K H' v m rels → Q v H'
abbrev nStruct : List Str := ["box", "kinds", "many", "relations", "name", "places", "often", "rows", "row"]
theorem scStruct : FnScope nStruct ["box", "kinds", "many"] (defScope sStruct) := ⟨rfl, rfl, rfl, by decide +kernel, rfl, by decide +kernel, by decide +kernel⟩
theorem ok_struct {f : Addr} {fd : FuncData} (B : Bt mg) (cDraw : Cal P w K mg base 1 "_law_draw" spDraw []) (cTuples : Cal P w K mg base 1 "_law_tuples" (spTuples K) []) (F : Fun K "_law_structure" "_law_structure" sStruct f fd) : FnOk P w K mg base CX0 2 f fd ["box", "kinds", "many"] (spStruct K) := by
  refine F.ok scStruct (fun vs H Q E h => ?_) (fun cdv A outer s H vs Q E hr h => ?_)
  · obtain ⟨b, d, kv, m, rfl, _⟩ := h
    rfl
  obtain ⟨b, d, kv, m, rfl, hB, hK, hm, q⟩ := h
  have nd := scStruct.nd
  have hr1 := hr
  refine ⟨_, (pss_cons (ps_set (i := 3) nd rfl (.inl rfl) (pe_lst pa_nil))
    (pss_cons (ps_for PassesOwn.never rfl (pi_tup (pv 1)) (pg_tup rfl (pgs_cons (pg_name (i := 4) nd rfl (.inl rfl)) (pgs_cons (pg_name (i := 5) nd rfl (.inl rfl)) pgs_nil))) (pss_cons (ps_set (i := 6) nd rfl (.inr rfl) (pe_op op_add pe_int (pe_c cDraw hr1 (by decide) rfl (pa_cons (pv 0) (pa_cons pe_int pa_nil)))))
    (pss_cons (ps_set (i := 7) nd rfl (.inl rfl) (pe_callTy call_tuple_of rfl B.tuple (by decide +kernel) (pa_cons (pe_lc (own := [("row", 8)]) (g := gName 8) (tt := _) rfl nd (pi_list (pe_c cTuples hr (by decide) rfl (pa_cons (pv 2) (pa_cons (pv 5) pa_nil)))) (blkOk_by (own := [("row", 8)]) (N := nStruct) (sc := defScope sStruct) (by decide +kernel)) (fun _ _ _ _ _ => (pg_name (i := 8) nd rfl (Or.inl rfl))) (fun _ _ _ _ _ => pts_one (pt_cmpR op_lt (pe_c cDraw hr1 (by decide) rfl (pa_cons (pv 0) (pa_cons pe_int pa_nil))) (pv 6) (nomark _))) (fun _ _ _ _ _ => (pv 8))) pa_nil)))
    (pss_one (ps_expr (pe_bm PySem.F.plainAttrs_list PySem.F.slot_list_append PySem.F.type_list_append mt_append (pv 3) (pa_cons (pe_tup (pa_cons (pv 4) (pa_cons (pv 5) (pa_cons (pv 7) pa_nil)))) pa_nil)))))))
    (pss_one (ps_ret (pe_tup (pa_cons pe_str (pa_cons (pv 2) (pa_cons (pe_callTy call_tuple_of rfl B.tuple (by decide +kernel) (pa_cons (pv 3) pa_nil)) pa_nil)))))))), ?_⟩
  obtain ⟨ka, us, rfl, hS, hl2, hP⟩ := hK
  refine ⟨Nat.zero_le _, fun R nR => ⟨_, rfl, ka, rfl, ⟨_, tk_new nR _ _ _ hS⟩, ?_⟩⟩
  have nRb := (box_ne hB nR).1
  refine for_tup (xs := us) (fun i σ H' => ∃ (ws : List V) (rels : List (Str × List (List Int))) (na pl of ro rw : Option V), σ = [some (.ref b), some (.ref ka), some (.int (m : Int)), some (.ref R), na, pl, of, ro, rw] ∧
    H' R = some (.lst ws) ∧ All2 (RelAt K H') ws rels ∧ ws.length = i ∧ But b H H' ∧ BoxAt H' b d) ⟨[], [], none, none, none, none, none, rfl, upd_same, .nil, rfl, .new _ nR, hB.new nR⟩ (fun i σ H' _ ⟨_, _, _, _, _, _, _, _, _, _, _, h, _⟩ => h.tk hB _ _ hS) ?_ ?_
  · rintro i u σ H1 hi ⟨ws, rels, na, pl, of, ro, rw, rfl, hR, hW, hl, b1, x1⟩
    have li := (List.getElem?_eq_some_iff.mp hi).1
    obtain ⟨pr, nn, pl, rfl, hp, p1, p2⟩ := (hP u (List.mem_of_getElem? hi)).tk (b1.tk hB)
    obtain ⟨pn, rfl⟩ : ∃ pn : Nat, pl = (pn : Int) := ⟨pl.toNat, by omega⟩
    refine ⟨pr, _, rfl, hp, rfl, _, _, rfl, _, _, rfl, rfl, ?_⟩
    refine ⟨_, rfl, b, d, 4, rfl, x1, by decide, fun r H2 r0 r1 b2 x2 => ⟨_, _, rfl, rfl, ?_⟩⟩
    refine ⟨_, rfl, _, rfl, m, pn, rfl, hm, by omega, fun l ts H3 s3 hl3 hT hlen => ⟨l, rfl, ⟨_, SqL.of hl3⟩, fun D nD => ?_⟩⟩
    have x3 := x2.same s3
    have nlb : l ≠ b := by
      rintro rfl
      obtain ⟨ns, i', h1, _⟩ := x3
      rw [h1] at hl3
      cases hl3
      obtain ⟨a, r, e, _⟩ := hT (.int i') (by simp)
      cases e
    refine lc_list (xs := ts) (fun c H' => ∃ xs : List V, H' D = some (.lst xs) ∧ RowsIn K 2 H' xs ∧ xs.length ≤ c ∧ But b H3 H' ∧ BoxAt H' b d) ⟨[], upd_same, RowsIn.nil, Nat.le_refl 0, .new _ nD, x3.new nD⟩ (fun c H' _ ⟨_, _, _, _, h, _⟩ => SqL.of (h _ _ nlb hl3)) ?_ ?_
    · rintro c y H4 hc ⟨xs, hD, hX, hlx, b4, x4⟩
      have lc := (List.getElem?_eq_some_iff.mp hc).1
      have hy := (hT y (List.mem_of_getElem? hc)).tk (b4.tk x3)
      refine ⟨rfl, _, rfl, b, d, 5, rfl, x4, by decide, fun r H5 _ _ b5 x5 => ⟨_, rfl, _, _, rfl, rfl, _, rfl, ite2 (fun _ => ?_) (fun _ => ?_)⟩⟩
      · have hD5 := b5 _ _ (box_ne x3 nD).1 hD
        have t5 := b5.tk (K := K) x4
        refine ⟨_, rfl, xs, hD5, lineOk (by omega), xs ++ [y], upd_same, ?_, by rw [List.length_append, List.length_singleton]; omega, (b4.trans b5).put _ nD, x3.put nD x5⟩
        exact RowsIn.append ((hX.tk t5).tk (tk_lst hD5 _)) (RowsIn.one ((hy.tk t5).tk (tk_lst hD5 _)))
      · exact ⟨xs, b5 _ _ (box_ne x3 nD).1 hD, hX.tk (b5.tk x4), by omega, b4.trans b5, x5⟩
    · rintro H4 ⟨xs, hD, hX, hlx, b4, x4⟩
      refine ⟨D, _, rfl, .inl ⟨SqL.of hD, fun t nt => ?_⟩⟩
      have bb := (b2.trans ((But.of_same s3).trans b4)).trans (.new (.tup xs) nt)
      have hR5 := bb _ _ nRb hR
      refine ⟨_, rfl, .inl ⟨rfl, _, SqL.of hR5⟩, _, rfl, _, rfl, _, rfl, l3, fun p np => ⟨R, _, _, rfl, rfl, same_new np _ _ _ hR5, lineOk (by omega), ?_⟩⟩
      have hR6 := same_new np (.tup [.str nn, .int (pn : Int), .ref t]) _ _ hR5
      obtain ⟨rs, hrs⟩ := rows_all2 hX
      have b6 := (b1.trans bb).trans (.new (.tup [.str nn, .int (pn : Int), .ref t]) np)
      have x6 := (x4.new nt (o := .tup xs)).new np (o := .tup [.str nn, .int (pn : Int), .ref t])
      have t6 := (bb.trans (.new (.tup [.str nn, .int (pn : Int), .ref t]) np)).tk (K := K) x1
      have tL := tk_lst (K := K) hR6 (.lst (ws ++ [.ref p]))
      refine ⟨ws ++ [.ref p], rels ++ [(nn, rs)], _, _, _, _, _, rfl, upd_same, (hW.imp fun _ _ h => (h.tk t6).tk tL).append (.cons (RelAt.tk tL ⟨p, t, (pn : Int), xs, rfl, SqT.of upd_same, tk_new np _ _ _ (SqT.of upd_same), hrs.imp fun _ _ h => (h.tk (tk_new nt _)).tk (tk_new np _)⟩) .nil), by simp [hl], b6.put _ nR, hB.put nR x6⟩
  · rintro σ H1 ⟨ws, rels, na, pl, of, ro, rw, rfl, hR, hW, hl, b1, x1⟩
    refine ⟨_, rfl, _, rfl, R, _, rfl, .inl ⟨SqL.of hR, fun t nt => ⟨l3, fun p np => ?_⟩⟩⟩
    exact q _ rels _ (b1.trans ((But.new _ nt).trans (.new _ np))) ((x1.new nt).new np) ⟨p, t, ws, rfl, SqT.of upd_same, tk_new np _ _ _ (SqT.of upd_same), hW.imp fun _ _ h => (h.tk (tk_new nt _)).tk (tk_new np _)⟩
end
end K1

set_option Elab.async false
set_option linter.all false
set_option maxRecDepth 100000
set_option maxHeartbeats 4000000
namespace K1
open PySem L2 Fo
open C8 (Cal pe_c pss_cut)
section
variable {P : Program} {w : World} {K : PySem.W.Frag} {mg : Str → Option Value} {base : Heap}
theorem put_len {kvs : List (L2.Key × V)} {k : L2.Key} {v : V} : (putK kvs k v).length ≤ kvs.length + 1 := by
  unfold putK
  split
  · rw [List.length_map]; omega
  · rw [List.length_append, List.length_singleton]; omega
theorem put_len_has {kvs : List (L2.Key × V)} {k : L2.Key} {v u : V} (h : valV kvs k = some u) : (putK kvs k v).length = kvs.length := by
  unfold putK
  unfold valV at h
  rw [if_pos, List.length_map]
  rw [List.any_eq_true]
  cases e : kvs.find? (fun kv => decide (kv.1 = k)) with
  | none => rw [e] at h; cases h
  | some p =>
    have := List.find?_some e
    exact ⟨p, List.mem_of_find?_eq_some e, this⟩
def spValues : Sp := fun vs H Q _ => ∃ (b d : Addr) (m : Int), vs = [.ref b, .int m] ∧ BoxAt H b d ∧ 0 < m ∧
  ∀ (a : Addr) (kvs : List (L2.Key × V)) (H' : Hp), But b H H' → BoxAt H' b d → H' a = some (.dK kvs) → kvs.length ≤ 8 → (∀ x ∈ N8, ∃ i : Int, valV kvs (.inr x) = some (.int i)) → Q (.ref a) H'
abbrev nValues : List Str := ["box", "many", "values", "name"]
theorem scValues : FnScope nValues ["box", "many"] (defScope sValues) := ⟨rfl, rfl, rfl, by decide +kernel, rfl, by decide +kernel, by decide +kernel⟩
theorem ok_values {f : Addr} {fd : FuncData} (B : Bt mg) (cDraw : Cal P w K mg base 1 "_law_draw" spDraw []) (F : Fun K "_law_values" "_law_values" sValues f fd) : FnOk P w K mg base CX0 2 f fd ["box", "many"] spValues := by
  refine F.ok scValues (fun vs H Q E h => ?_) (fun cdv A outer s H vs Q E hr h => ?_)
  · obtain ⟨b, d, m, rfl, _⟩ := h
    rfl
  obtain ⟨b, d, m, rfl, hB, hm, q⟩ := h
  have nd := scValues.nd
  have hr1 := hr
  refine ⟨_, (pss_cons (ps_set (i := 2) nd rfl (.inl rfl) pe_dnewK)
    (pss_cons (ps_for PassesOwn.never rfl (pi_list (pe_lst (pa_cons pe_str (pa_cons pe_str (pa_cons pe_str (pa_cons pe_str (pa_cons pe_str (pa_cons pe_str (pa_cons pe_str (pa_cons pe_str pa_nil)))))))))) (pg_name (i := 3) nd rfl (.inl rfl)) (pss_one (ps_dput (hu_of hr) (pv 2) (pv 3) (pe_c cDraw hr1 (by decide) rfl (pa_cons (pv 0) (pa_cons (pv 1) pa_nil))) rfl)))
    (pss_one (ps_ret (pv 2))))), ?_⟩
  refine fun a na => ⟨by show 8 ≤ sizeLine; decide, fun p np => ⟨p, rfl, ⟨_, SqL.of upd_same⟩, ?_⟩⟩
  have nab := (box_ne hB na).1
  have npb := (box_ne (hB.new na) np).1
  have nap : a ≠ p := ne_of_none upd_same np
  refine for_list (xs := N8.map V.str) (fun i σ H' => ∃ (kvs : List (L2.Key × V)) (nm : Option V), σ = [some (.ref b), some (.int m), some (.ref a), nm] ∧ H' a = some (.dK kvs) ∧ kvs.length ≤ i ∧ But b H H' ∧ BoxAt H' b d ∧ H' p = some (.lst (N8.map V.str)) ∧ ∀ x ∈ N8.take i, ∃ j : Int, valV kvs (.inr x) = some (.int j))
    ⟨[], none, rfl, same_new np _ _ _ upd_same, Nat.le_refl 0, (But.new _ na).trans (.new _ np), (hB.new na).new np, upd_same, fun x hx => nomatch hx⟩ (fun i σ H' _ ⟨_, _, _, _, _, _, _, h, _⟩ => SqL.of h) ?_ ?_
  · rintro i u σ H1 hi ⟨kvs, nm, rfl, hA, hl, b1, x1, hp, hv⟩
    rw [List.getElem?_map] at hi
    obtain ⟨x, hx, rfl⟩ := Option.map_eq_some_iff.mp hi
    have li : i < 8 := (List.getElem?_eq_some_iff.mp hx).1
    refine ⟨_, rfl, _, rfl, b, d, m, rfl, x1, hm, fun r H2 r0 r1 b2 x2 => ⟨_, rfl, _, rfl, a, _, rfl, .inl ⟨kvs, .inr x, b2 _ _ nab hA, rfl, lineOk (by omega), rfl⟩, ?_⟩⟩
    refine ⟨putK kvs (.inr x) (.int r), _, rfl, upd_same, Nat.le_trans put_len (by omega), (b1.trans b2).put _ na, hB.put na x2, by rw [upd_ne nap.symm]; exact b2 _ _ npb hp, fun y hy => ?_⟩
    rw [List.take_succ, hx] at hy
    by_cases e : y = x
    · subst e
      exact ⟨r, by rw [valV_put, if_pos rfl]⟩
    · rcases List.mem_append.mp hy with z | z
      · obtain ⟨j, hj⟩ := hv y z
        refine ⟨j, ?_⟩
        rw [valV_put, if_neg (by intro q; cases q; exact e rfl)]
        exact hj
      · exact absurd (List.mem_singleton.mp z) e
  · rintro σ H1 ⟨kvs, nm, rfl, hA, hl, b1, x1, hp, hv⟩
    refine ⟨_, rfl, q a kvs H1 b1 x1 hA hl (fun x hx => hv x ?_)⟩
    exact hx
end
end K1

set_option Elab.async false
set_option linter.all false
set_option maxRecDepth 100000
set_option maxHeartbeats 4000000
namespace K1
open PySem L2 Fo
open C8 (Cal pe_c pss_cut)
section
variable {P : Program} {w : World} {K : PySem.W.Frag} {mg : Str → Option Value} {base : Heap}
theorem hu65 {k : Nat} {A : Around} (h : Room k A) : A.units + 65 < cLine := by
  have := h.un
  omega
def Vals (kvs : List (L2.Key × V)) (e : Str → Int) : Prop := ∀ x ∈ N8, valV kvs (.inr x) = some (.int (e x))
theorem Vals.put {kvs : List (L2.Key × V)} {e : Str → Int} (h : Vals kvs e) (x : Str) (i : Int) : Vals (putK kvs (.inr x) (.int i)) (Fm.set1 e x i) := fun y hy => by
  rw [valV_put]
  unfold Fm.set1
  by_cases z : y = x
  · rw [if_pos (congrArg Sum.inr z), if_pos z]
  · rw [if_neg (by intro q; cases q; exact z rfl), if_neg z]
    exact h y hy
theorem dp_rows {H : Hp} {us : List V} {rs : List (List Int)} (h : All2 (RowAt K H) us rs) : DpAll K H us (rs.map Da.dint) := by
  induction h with
  | nil => exact .nil
  | cons r _ ih =>
    obtain ⟨a, rfl, ha⟩ := r
    exact .cons (.tup ha (Da.dp_ints _)) ih
theorem bl_ne {x y b : Bool} (h : y = b) : V.bl (!decide (V.bl x = V.bl y)) = V.bl (x != b) := by
  subst h
  cases x <;> cases y <;> decide
theorem range_any {p : Nat → Bool} {m i : Nat} (h : i < m) (hp : p i = true) : (List.range m).any p = true := List.any_eq_true.mpr ⟨i, List.mem_range.mpr h, hp⟩
theorem range_snoc {p : Nat → Bool} {i : Nat} (h : (List.range i).any p = false) (hp : p i = false) : (List.range (i + 1)).any p = false := by
  rw [List.range_succ, List.any_append, h]
  simp [hp]
def spTrue (K : PySem.W.Frag) (n : Nat) : Sp := fun vs H Q _ => ∃ (sv v : V) (d : Addr) (m : Nat) (rels : List (Str × List (List Int))) (kvs : List (L2.Key × V)) (e : Str → Int) (f : Fm), vs = [sv, v, .ref d] ∧ StrAt K H sv m rels ∧ FmAt K H v f ∧ f.dp < n ∧
  (∀ x ∈ f.nm, x ∈ N8) ∧ f.nm.length ≤ 2000 ∧ H d = some (.dK kvs) ∧ kvs.length ≤ 8 ∧ Vals kvs e ∧ m ≤ 3 ∧ ∀ (H' : Hp), Same H H' → Q (.bl (Fm.tv m rels f e)) H'
abbrev nTrue : List Str := ["structure", "formula", "values", "kind", "name", "places", "rows", "x", "row", "wider"]
abbrev pTrue : List Str := ["structure", "formula", "values"]
theorem scTrue : FnScope nTrue pTrue (defScope sTrue) := ⟨rfl, rfl, rfl, by decide +kernel, rfl, by decide +kernel, by decide +kernel⟩
theorem ok_true {n : Nat} {f : Addr} {fd : FuncData} (B : Bt mg) (cTrue : Cal P w K mg base n "_law_true" (spTrue K n) []) (F : Fun K "_law_true" "_law_true" sTrue f fd) : FnOk P w K mg base CX0 (n + 1) f fd pTrue (spTrue K (n + 1)) := by
  refine F.ok scTrue (fun vs H Q E h => ?_) (fun cdv A outer s H vs Q E hr h => ?_)
  · obtain ⟨sv, v, d, m, rels, kvs, e, f, rfl, _⟩ := h
    rfl
  obtain ⟨sv, v, d, m, rels, kvs, e, fm, rfl, hs, hF, hd, h8, hn, hD, hl8, hv, hm3, q⟩ := h
  have nd := scTrue.nd
  refine ⟨_, (pss_cons (ps_set (i := 3) nd rfl (.inl rfl) (pe_ix ix_tup (pv 1) pe_int (fun _ _ => rfl)))
    (pss_cons (ps_if (pt_cmpR op_eq (pv 3) pe_str (nomark _)) (pss_cons (ps_for PassesOwn.never rfl (pi_tup (pe_ix ix_tup (pv 0) pe_int (fun _ _ => rfl))) (pg_tup rfl (pgs_cons (pg_name (i := 4) nd rfl (.inl rfl)) (pgs_cons (pg_name (i := 5) nd rfl (.inl rfl)) (pgs_cons (pg_name (i := 6) nd rfl (.inl rfl)) pgs_nil)))) (pss_one (ps_if (pt_cmpR op_eq (pv 4) (pe_ix ix_tup (pv 1) pe_int (fun _ _ => rfl)) (nomark _)) (pss_one (ps_ret (pe_cmpR (Da.op_inDT (hu65 hr)) (pe_callTy call_tuple_of rfl B.tuple (by decide +kernel) (pa_cons (pe_lc (own := [("x", 7)]) (g := gName 7) (tt := tYes) rfl nd (pi_tup (pe_ix ix_tup (pv 1) pe_int (fun _ _ => rfl))) (blkOk_by (own := [("x", 7)]) (N := nTrue) (sc := defScope sTrue) (by decide +kernel)) (fun _ _ _ _ _ => (pg_name (i := 7) nd rfl (Or.inl rfl))) (fun _ _ _ _ _ => pts_nil) (fun _ _ _ _ _ => (pe_dget (hu_of hr) (pv 2) (pv 7) (fun _ _ => rfl)))) pa_nil)) (pv 6) rfl))) pss_nil)))
    (pss_one (ps_ret pe_bl))) pss_nil)
    (pss_cons (ps_if (pt_cmpR op_eq (pv 3) pe_str (nomark _)) (pss_one (ps_ret (pe_cmpR op_eq (pe_dget (hu_of hr) (pv 2) (pe_ix ix_tup (pv 1) pe_int (fun _ _ => rfl)) (fun _ _ => rfl)) (pe_dget (hu_of hr) (pv 2) (pe_ix ix_tup (pv 1) pe_int (fun _ _ => rfl)) (fun _ _ => rfl)) (nomark _)))) pss_nil)
    (pss_cons (ps_if (pt_cmpR op_eq (pv 3) pe_str (nomark _)) (pss_one (ps_ret (pe_not (pe_c cTrue hr (Nat.le_refl _) rfl (pa_cons (pv 0) (pa_cons (pe_ix ix_tup (pv 1) pe_int (fun _ _ => rfl)) (pa_cons (pv 2) pa_nil))))))) pss_nil)
    (pss_cons (ps_if (PW.pt (pw_or (pt_cmpR op_eq (pv 3) pe_str (nomark _)) (pw_or1 (pt_cmpR op_eq (pv 3) pe_str (nomark _))))) (pss_cons (ps_for PassesOwn.never rfl (pi_tup (pe_ix ix_tup (pv 1) pe_int (fun _ _ => rfl))) (pg_name (i := 8) nd rfl (.inl rfl)) (pss_one (ps_if (pt_cmpR op_ne (pe_c cTrue hr (Nat.le_refl _) rfl (pa_cons (pv 0) (pa_cons (pv 8) (pa_cons (pv 2) pa_nil)))) (pe_cmpR op_eq (pv 3) pe_str (nomark _)) (nomark _)) (pss_one (ps_ret (pe_cmpR op_eq (pv 3) pe_str (nomark _)))) pss_nil)))
    (pss_one (ps_ret (pe_cmpR op_eq (pv 3) pe_str (nomark _))))) pss_nil)
    (pss_cons (ps_for PassesOwn.never rfl (pi_range1 rfl B.range (pa_cons (pe_ix ix_tup (pv 0) pe_int (fun _ _ => rfl)) pa_nil)) (pg_name (i := 7) nd rfl (.inl rfl)) (pss_cons (ps_set (i := 9) nd rfl (.inl rfl) (pe_callTy call_dictD rfl B.dict (by decide +kernel) (pa_cons (pv 2) pa_nil)))
    (pss_cons (ps_dput (hu_of hr) (pv 9) (pe_ix ix_tup (pv 1) pe_int (fun _ _ => rfl)) (pv 7) rfl)
    (pss_one (ps_if (pt_cmpR op_ne (pe_c cTrue hr (Nat.le_refl _) rfl (pa_cons (pv 0) (pa_cons (pe_ix ix_tup (pv 1) pe_int (fun _ _ => rfl)) (pa_cons (pv 9) pa_nil)))) (pe_cmpR op_eq (pv 3) pe_str (nomark _)) (nomark _)) (pss_one (ps_ret (pe_cmpR op_eq (pv 3) pe_str (nomark _)))) pss_nil)))))
    (pss_one (ps_ret (pe_cmpR op_eq (pv 3) pe_str (nomark _)))))))))), ?_⟩
  have hs0 := hs
  obtain ⟨sa, st, sus, rfl, hs1, hs2, hs3⟩ := hs
  cases fm with
  | rel n xs =>
    rw [FmAt] at hF
    obtain ⟨a, t, rfl, h1, h2⟩ := hF
    refine ⟨_, rfl, a, _, _, _, rfl, rfl, h1, at_of (j := 0) rfl rfl, ?_⟩
    refine ⟨_, rfl, rfl, true, (by decide +kernel), ?_⟩
    refine ⟨_, rfl, sa, _, _, _, rfl, rfl, hs1, at_of (j := 2) rfl rfl, st, rfl, ⟨_, hs2⟩, ?_⟩
    refine for_tup (xs := sus) (fun i σ H' => ∃ (na pl ro : Option V), σ = [some (.ref sa), some (.ref a), some (.ref d), some (.str "rel"), na, pl, ro, none, none, none] ∧ Same H H' ∧ Fm.rows rels n = Fm.rows (rels.drop i) n)
      ⟨none, none, none, rfl, Same.refl _, rfl⟩ (fun i σ H' _ ⟨_, _, _, _, s2, _⟩ => Tk.of_same s2 _ _ hs2) ?_ ?_
    · rintro i u σ H1 hi ⟨na, pl, ro, rfl, s1, hrw⟩
      obtain ⟨⟨rn, rr⟩, hg, p, tt, pl2, us, rfl, hp1, hp2, hp3⟩ := (hs3.imp fun _ _ h => h.tk (Tk.of_same s1)).get hi
      obtain ⟨li, hgi⟩ := List.getElem?_eq_some_iff.mp hg
      rw [List.drop_eq_getElem_cons li, hgi, Fm.rows] at hrw
      have h1' := Tk.of_same (K := K) s1 _ _ h1
      refine ⟨p, _, rfl, hp1, rfl, _, _, rfl, _, _, rfl, _, _, rfl, rfl, ?_⟩
      refine ⟨_, rfl, _, rfl, a, _, _, _, rfl, rfl, h1', at_of (j := 1) rfl rfl, rfl, _, rfl, ite2 (fun c => ?_) (fun c => ?_)⟩
      · have en : rn = n := by have := of_decide_eq_true c; cases this; rfl
        rw [if_pos en] at hrw
        have h2' := Tk.of_same (K := K) s1 _ _ h2
        refine ⟨_, rfl, a, _, _, _, rfl, rfl, h1', at_of (j := 2) rfl rfl, t, rfl, ⟨_, h2'⟩, fun D nD => lc_tup (xs := xs.map V.str) (fun j H' => H' D = some (.lst (((xs.take j).map e).map V.int)) ∧ Same H1 H') ⟨upd_same, same_new nD _⟩ (fun j H' _ h => Tk.of_same (s1.trans h.2) _ _ h2) ?_ ?_⟩
        · rintro j y H2 hj ⟨hD2, s2⟩
          rw [List.getElem?_map] at hj
          obtain ⟨x, hx, rfl⟩ := Option.map_eq_some_iff.mp hj
          have hxm : x ∈ N8 := h8 x (List.mem_of_getElem? hx)
          have hln : xs.length ≤ 2000 := hn
          refine ⟨rfl, _, rfl, _, rfl, d, .int (e x), rfl, .inl ⟨kvs, .inr x, .inl ((s1.trans s2) _ _ hD), rfl, (hv x hxm).symm⟩, _, hD2, lineOk (by rw [List.length_map, List.length_map, List.length_take]; omega), ?_, same_to s2 nD⟩
          rw [upd_same, List.take_succ, hx, List.map_append, List.map_append]
          rfl
        · rintro H2 ⟨hD2, s2⟩
          rw [List.length_map, List.take_length] at hD2
          refine ⟨D, _, rfl, .inl ⟨SqL.of hD2, fun t' nt' => ?_⟩⟩
          have s3 := s2.trans (same_new nt' (.tup ((xs.map e).map V.int)))
          have k3 := Tk.of_same (K := K) s3
          refine ⟨_, rfl, _, _, .tup (SqT.of upd_same) (Da.dp_ints _), .tup (k3 _ _ hp2) (dp_rows (hp3.imp fun _ _ h => h.tk k3)), Da.shaped_ints _, Da.shaped_rows _, ?_⟩
          have ev : Fm.tv m rels (.rel n xs) e = (rr.map Da.dint).any (fun z => PyData.eqv z (Da.dint (xs.map e))) := by
            rw [Fm.tv, Fm.holds, hrw]
            rfl
          have := q _ (s1.trans s3)
          rw [ev] at this
          exact this
      · have en : ¬ rn = n := fun z => c (by rw [z]; exact decide_eq_true rfl)
        rw [if_neg en] at hrw
        exact ⟨_, _, _, rfl, s1, hrw⟩
    · rintro σ H1 ⟨na, pl, ro, rfl, s1, hrw⟩
      rw [hs3.length, List.drop_length, Fm.rows] at hrw
      have := q H1 s1
      rw [Fm.tv, Fm.holds, hrw] at this
      exact this
  | same x y =>
    rw [FmAt] at hF
    obtain ⟨a, rfl, h1⟩ := hF
    refine ⟨_, rfl, a, _, _, _, rfl, rfl, h1, at_of (j := 0) rfl rfl, ?_⟩
    refine ⟨_, rfl, rfl, false, (by decide +kernel), ?_⟩
    refine ⟨_, rfl, rfl, true, (by decide +kernel), ?_⟩
    refine ⟨_, rfl, _, rfl, a, _, _, _, rfl, rfl, h1, at_of (j := 1) rfl rfl, d, .int (e x), rfl, .inl ⟨kvs, .inr x, .inl hD, rfl, (hv x (h8 x (by simp [Fm.nm]))).symm⟩, ?_⟩
    refine ⟨_, rfl, _, rfl, a, _, _, _, rfl, rfl, h1, at_of (j := 2) rfl rfl, d, .int (e y), rfl, .inl ⟨kvs, .inr y, .inl hD, rfl, (hv y (h8 y (by simp [Fm.nm]))).symm⟩, rfl, ?_⟩
    have ev : decide (V.int (e x) = V.int (e y)) = Fm.tv m rels (.same x y) e := by
      rw [Fm.tv]
      by_cases z : e x = e y <;> simp [z]
    show Q (V.bl (decide (V.int (e x) = V.int (e y)))) H
    rw [ev]
    exact q H (Same.refl _)
  | neg f =>
    rw [FmAt] at hF
    obtain ⟨a, u, rfl, h1, h2⟩ := hF
    have z1 : 1 + f.dp < n + 1 := hd
    refine ⟨_, rfl, a, _, _, _, rfl, rfl, h1, at_of (j := 0) rfl rfl, ?_⟩
    refine ⟨_, rfl, rfl, false, (by decide +kernel), ?_⟩
    refine ⟨_, rfl, rfl, false, (by decide +kernel), ?_⟩
    refine ⟨_, rfl, rfl, true, (by decide +kernel), ?_⟩
    refine ⟨_, rfl, _, rfl, a, _, _, _, rfl, rfl, h1, at_of (j := 1) rfl rfl, _, rfl, .ref sa, u, d, m, rels, kvs, e, f, rfl, hs0, h2, by omega, h8, hn, hD, hl8, hv, hm3, fun H' s' => ⟨_, rfl, ?_⟩⟩
    have := q H' s'
    rw [Fm.tv] at this
    exact this
  | con b fs =>
    rw [FmAt] at hF
    obtain ⟨a, t, us, rfl, h1, h2, h3⟩ := hF
    have z1 : Fm.dps fs < n + 1 := hd
    have hA : decide (V.str (cn b) = V.str "and") = b := by cases b <;> decide +kernel
    have hO : decide (V.str (cn b) = V.str "or") = !b := by cases b <;> decide +kernel
    refine ⟨_, rfl, a, _, _, _, rfl, rfl, h1, at_of (j := 0) rfl rfl, ?_⟩
    refine ⟨_, rfl, rfl, false, (by cases b <;> decide +kernel), ?_⟩
    refine ⟨_, rfl, rfl, false, (by cases b <;> decide +kernel), ?_⟩
    refine ⟨_, rfl, rfl, false, (by cases b <;> decide +kernel), ?_⟩
    refine ⟨_, rfl, rfl, _, rfl, ?_⟩
    refine (fun fin => ite2 (fun _ => fin) (fun c => ⟨_, rfl, rfl, true, ?e2, fin⟩)) ?fin
    case e2 =>
      cases b with
      | true => exact absurd (by decide +kernel) c
      | false => decide +kernel
    case fin =>
      refine ⟨_, rfl, a, _, _, _, rfl, rfl, h1, at_of (j := 1) rfl rfl, t, rfl, ⟨_, h2⟩, ?_⟩
      refine for_tup (xs := us) (fun i σ H' => ∃ (row : Option V), σ = [some (.ref sa), some (.ref a), some (.ref d), some (.str (cn b)), none, none, none, none, row, none] ∧ Same H H' ∧ Fm.tvs m rels b fs e = Fm.tvs m rels b (fs.drop i) e)
        ⟨none, rfl, Same.refl _, rfl⟩ (fun i σ H' _ ⟨_, _, s2, _⟩ => Tk.of_same s2 _ _ h2) ?_ ?_
      · rintro i u σ H1 hi ⟨row, rfl, s1, hrw⟩
        obtain ⟨g, hg, hu⟩ := (h3.tk (Tk.of_same s1)).get hi
        obtain ⟨li, hgi⟩ := List.getElem?_eq_some_iff.mp hg
        have hm := List.mem_of_getElem? hg
        have d1 := Fm.dps_mem hm
        have d2 := Fm.nms_len_mem hm
        have hn' : (Fm.nms fs).length ≤ 2000 := hn
        rw [List.drop_eq_getElem_cons li, hgi, Fm.tvs] at hrw
        refine ⟨_, rfl, _, rfl, _, rfl, .ref sa, u, d, m, rels, kvs, e, g, rfl, hs0.tk (Tk.of_same s1), hu, by omega, fun x hx => h8 x (Fm.mem_nms.mpr ⟨g, hm, hx⟩), by omega, s1 _ _ hD, hl8, hv, hm3, fun H2 s2 => ?_⟩
        refine ⟨_, rfl, rfl, rfl, (Fm.tv m rels g e != b), bl_ne hA, ite2 (fun c => ?_) (fun c => ?_)⟩
        · rw [if_pos c] at hrw
          refine ⟨_, rfl, rfl, ?_⟩
          show Q (V.bl (decide (V.str (cn b) = V.str "or"))) H2
          rw [hO, ← hrw]
          exact q H2 (s1.trans s2)
        · rw [if_neg c] at hrw
          exact ⟨_, rfl, s1.trans s2, hrw⟩
      · rintro σ H1 ⟨row, rfl, s1, hrw⟩
        rw [h3.length, List.drop_length, Fm.tvs] at hrw
        refine ⟨_, rfl, rfl, ?_⟩
        show Q (V.bl (decide (V.str (cn b) = V.str "and"))) H1
        rw [hA]
        have := q H1 s1
        rw [Fm.tv, hrw] at this
        exact this
  | qu b x f =>
    rw [FmAt] at hF
    obtain ⟨a, u, rfl, h1, h2⟩ := hF
    have z1 : 1 + f.dp < n + 1 := hd
    have z2 : f.nm.length + 1 ≤ 2000 := hn
    have hA : decide (V.str (qn b) = V.str "all") = !b := by cases b <;> decide +kernel
    have hO : decide (V.str (qn b) = V.str "some") = b := by cases b <;> decide +kernel
    refine ⟨_, rfl, a, _, _, _, rfl, rfl, h1, at_of (j := 0) rfl rfl, ?_⟩
    refine ⟨_, rfl, rfl, false, (by cases b <;> decide +kernel), ?_⟩
    refine ⟨_, rfl, rfl, false, (by cases b <;> decide +kernel), ?_⟩
    refine ⟨_, rfl, rfl, false, (by cases b <;> decide +kernel), ?_⟩
    refine ⟨_, rfl, rfl, false, (by cases b <;> decide +kernel), ?_⟩
    refine ⟨_, rfl, rfl, false, (by cases b <;> decide +kernel), ?_⟩
    refine ⟨_, rfl, sa, _, _, _, rfl, rfl, hs1, at_of (j := 1) rfl rfl, m, rfl, by omega, by omega, for_range (lo := 0) (n := m) (fun i σ H' => ∃ (xo wo : Option V), σ = [some (.ref sa), some (.ref a), some (.ref d), some (.str (qn b)), none, none, none, xo, none, wo] ∧ Same H H' ∧ (List.range i).any (fun j => Fm.tv m rels f (Fm.set1 e x j) != !b) = false)
      ⟨none, none, rfl, Same.refl _, rfl⟩ ?_ ?_⟩
    · rintro i σ H1 hi ⟨xo, wo, rfl, s1, hany⟩
      have hD1 := s1 _ _ hD
      refine ⟨_, rfl, d, kvs, rfl, .inl hD1, fun wa nwa => ?_⟩
      have s2 := s1.trans (same_new nwa (.dK kvs))
      refine ⟨_, rfl, _, rfl, _, rfl, a, _, _, _, rfl, rfl, Tk.of_same s2 _ _ h1, at_of (j := 1) rfl rfl, wa, _, rfl, .inl ⟨kvs, .inr x, upd_same, rfl, lineOk (by omega), rfl⟩, ?_⟩
      have s3 := same_to (o := .dK (putK kvs (.inr x) (.int (0 + (i : Int))))) s2 (s1.free nwa)
      have k3 := Tk.of_same (K := K) s3
      have hx8 : x ∈ N8 := h8 x (by simp [Fm.nm])
      refine ⟨_, rfl, _, rfl, a, _, _, _, rfl, rfl, k3 _ _ h1, at_of (j := 2) rfl rfl, _, rfl, .ref sa, u, wa, m, rels, putK kvs (.inr x) (.int (0 + (i : Int))), Fm.set1 e x (0 + (i : Int)), f, rfl, hs0.tk k3, h2.tk k3, by omega, fun z hz => h8 z (List.mem_cons_of_mem _ hz), by omega, upd_same, by rw [put_len_has (hv x hx8)]; exact hl8, hv.put x _, hm3, fun H2 s4 => ?_⟩
      have ei : (0 : Int) + (i : Int) = (i : Int) := by omega
      refine ⟨_, rfl, rfl, rfl, (Fm.tv m rels f (Fm.set1 e x (0 + (i : Int))) != !b), bl_ne hA, ite2 (fun c => ?_) (fun c => ?_)⟩
      · refine ⟨_, rfl, rfl, ?_⟩
        show Q (V.bl (decide (V.str (qn b) = V.str "some"))) H2
        rw [hO]
        rw [ei] at c
        have := q H2 (s3.trans s4)
        rw [Fm.tv, if_pos (range_any hi c)] at this
        exact this
      · rw [ei] at c
        exact ⟨_, _, rfl, s3.trans s4, range_snoc hany (by simpa using c)⟩
    · rintro σ H1 ⟨xo, wo, rfl, s1, hany⟩
      refine ⟨_, rfl, rfl, ?_⟩
      show Q (V.bl (decide (V.str (qn b) = V.str "all"))) H1
      rw [hA]
      have := q H1 s1
      rw [Fm.tv, hany] at this
      exact this
end
end K1

set_option Elab.async false
set_option linter.all false
set_option maxRecDepth 100000
set_option maxHeartbeats 4000000
namespace K1
open PySem L2 Fo
open C8 (Cal pe_c pss_cut)
mutual
theorem fr_sub : ∀ (f : Fm) {x : Str}, x ∈ f.fr → x ∈ f.nm
  | .rel _ _, x, h => h
  | .same _ _, x, h => h
  | .neg f, x, h => fr_sub f h
  | .con _ fs, x, h => frs_sub fs h
  | .qu _ _ f, x, h => List.mem_cons_of_mem _ (fr_sub f (List.mem_filter.mp h).1)
theorem frs_sub : ∀ (fs : List Fm) {x : Str}, x ∈ Fm.frs fs → x ∈ Fm.nms fs
  | [], x, h => h
  | f :: fs, x, h => by
    rw [Fm.frs] at h
    rw [Fm.nms]
    rcases List.mem_append.mp h with z | z
    · exact List.mem_append_left _ (fr_sub f z)
    · exact List.mem_append_right _ (frs_sub fs z)
end
theorem ok8 : ∀ x ∈ N8, PyData.strOk x = true := by decide +kernel
section
variable {P : Program} {w : World} {K : PySem.W.Frag} {mg : Str → Option Value} {base : Heap}
def spFormula (K : PySem.W.Frag) : Sp := fun vs H Q _ => ∃ (b d : Addr) (kv : V), vs = [.ref b, kv, .int 16] ∧ BoxAt H b d ∧ KindsAt K H kv ∧
  ∀ (v : V) (f : Fm) (H' : Hp), But b H H' → BoxAt H' b d → FmAt K H' v f → Fine 16 f → Q v H'
abbrev nLFormula : List Str := ["box", "kinds", "room"]
theorem scFormula : FnScope nLFormula nLFormula (defScope sFormula) := ⟨rfl, rfl, rfl, by decide +kernel, rfl, by decide +kernel, by decide +kernel⟩
theorem ok_formula {f : Addr} {fd : FuncData} (cBelow : Cal P w K mg base 19 "_law_below" (spBelow K 17) []) (F : Fun K "_law_formula" "_law_formula" sFormula f fd) : FnOk P w K mg base CX0 20 f fd nLFormula (spFormula K) := by
  refine F.ok scFormula (fun vs H Q E h => ?_) (fun cdv A outer s H vs Q E hr h => ?_)
  · obtain ⟨b, d, kv, rfl, _⟩ := h
    rfl
  obtain ⟨b, d, kv, rfl, hB, hK, q⟩ := h
  refine ⟨_, (pss_one (ps_ret (pe_c cBelow hr (by decide) rfl (pa_cons (pv 0) (pa_cons (pv 1) (pa_cons (pv 2) (pa_cons pe_int pa_nil))))))), ?_⟩
  exact ⟨_, rfl, _, rfl, _, rfl, b, d, kv, 16, 4, rfl, hB, hK, by decide, q⟩
def eOf (kvs : List (L2.Key × V)) : Str → Int := fun x => match valV kvs (.inr x) with | some (.int i) => i | _ => 0
theorem vals_of {kvs : List (L2.Key × V)} (h : ∀ x ∈ N8, ∃ i : Int, valV kvs (.inr x) = some (.int i)) : Vals kvs (eOf kvs) := fun x hx => by
  obtain ⟨i, hi⟩ := h x hx
  unfold eOf
  rw [hi]
def spLaw (K : PySem.W.Frag) : Sp := fun vs H Q _ => ∃ (a : Addr) (ns : List Int), vs = [.ref a] ∧ SqL K H a (ns.map V.int) ∧ ns.length ≤ 63 ∧ ∀ H', Q (.bl true) H'
abbrev nLaw : List Str := ["script", "box", "turn", "kinds", "formula", "found", "structure", "values"]
theorem scLaw : FnScope nLaw ["script"] (defScope sLaw) := ⟨rfl, rfl, rfl, by decide +kernel, rfl, by decide +kernel, by decide +kernel⟩
theorem ok_law {f : Addr} {fd : FuncData} (B : Bt mg) (cBox : Cal P w K mg base 3 "_law_box" (spBox K) []) (cKinds : Cal P w K mg base 2 "_law_kinds" (spKinds K) []) (cFormula : Cal P w K mg base 20 "_law_formula" (spFormula K) []) (cDraw : Cal P w K mg base 1 "_law_draw" spDraw [])
    (cTurned : Cal P w K mg base 3 "turned" (spTurned K) []) (cShaped : Cal P w K mg base 19 "_law_shaped" (spShaped K 19) []) (cInward : Cal P w K mg base 20 "_law_inward" (spInward K 19) []) (cBound : Cal P w K mg base 20 "_law_bound" (spBound K 19) [])
    (cLFree : Cal P w K mg base 19 "_law_free" (spLFree K 19) []) (cStruct : Cal P w K mg base 2 "_law_structure" (spStruct K) []) (cValues : Cal P w K mg base 2 "_law_values" spValues []) (cLRank : Cal P w K mg base 19 "_law_rank" (spLRank K 19) []) (cTrue : Cal P w K mg base 19 "_law_true" (spTrue K 19) [])
    (F : Fun K "law" "law" sLaw f fd) : FnOk P w K mg base CX0 21 f fd ["script"] (spLaw K) := by
  refine F.ok scLaw (fun vs H Q E h => ?_) (fun cdv A outer s H vs Q E hr h => ?_)
  · obtain ⟨a, ns, rfl, _⟩ := h
    rfl
  obtain ⟨a, ns, rfl, hS, _, q⟩ := h
  have nd := scLaw.nd
  refine ⟨_, (pss_cons (ps_set (i := 1) nd rfl (.inl rfl) (pe_c cBox hr (by decide) rfl (pa_cons (pv 0) (pa_cons pe_int (pa_cons pe_int pa_nil)))))
    (pss_cons (ps_for PassesOwn.never rfl (pi_range1 rfl B.range (pa_cons pe_int pa_nil)) (pg_name (i := 2) nd rfl (.inl rfl)) (pss_cons (ps_set (i := 3) nd rfl (.inl rfl) (pe_c cKinds hr (by decide) rfl (pa_cons (pv 1) pa_nil)))
    (pss_cons (ps_set (i := 4) nd rfl (.inl rfl) (pe_c cFormula hr (by decide) rfl (pa_cons (pv 1) (pa_cons (pv 3) (pa_cons pe_int pa_nil)))))
    (pss_cut (ps_if (pt_cmpR op_eq (pe_c cDraw hr (by decide) rfl (pa_cons (pv 1) (pa_cons pe_int pa_nil))) pe_int (nomark _)) (pss_one (ps_set (i := 4) nd rfl (.inl rfl) (pe_tup (pa_cons pe_str (pa_cons (pv 4) pa_nil))))) pss_nil)
    (pss_cons (ps_set (i := 5) nd rfl (.inl rfl) (pe_c cTurned hr (by decide) rfl (pa_cons (pv 4) pa_nil)))
    (pss_cons (ps_if (PW.pt (pw_or (pt_not (pt_val (pe_c cShaped hr (by decide) rfl (pa_cons (pv 5) pa_nil)))) (pw_or (pt_not (pt_val (pe_c cInward hr (by decide) rfl (pa_cons (pv 5) pa_nil)))) (pw_or (pt_cmpR op_ne (pe_c cBound hr (by decide) rfl (pa_cons (pv 5) pa_nil)) (pe_c cBound hr (by decide) rfl (pa_cons (pv 4) pa_nil)) (nomark _)) (pw_or1 (pt_cmpR (op_neD hr.units) (pe_c cLFree hr (by decide) rfl (pa_cons (pv 5) pa_nil)) (pe_c cLFree hr (by decide) rfl (pa_cons (pv 4) pa_nil)) (nomark _))))))) (pss_one (ps_ret pe_bl)) pss_nil)
    (pss_cons (ps_set (i := 6) nd rfl (.inl rfl) (pe_c cStruct hr (by decide) rfl (pa_cons (pv 1) (pa_cons (pv 3) (pa_cons (pe_op op_add pe_int (pe_c cDraw hr (by decide) rfl (pa_cons (pv 1) (pa_cons pe_int pa_nil)))) pa_nil)))))
    (pss_cons (ps_set (i := 7) nd rfl (.inl rfl) (pe_c cValues hr (by decide) rfl (pa_cons (pv 1) (pa_cons (pe_ix ix_tup (pv 6) pe_int (fun _ _ => rfl)) pa_nil))))
    (pss_one (ps_if (PW.pt (pw_and (pt_cmpR op_lt (pe_c cLRank hr (by decide) rfl (pa_cons (pv 4) pa_nil)) pe_int (nomark _)) (pw_and1 (pt_cmpR op_ne (pe_c cTrue hr (by decide) rfl (pa_cons (pv 6) (pa_cons (pv 5) (pa_cons (pv 7) pa_nil)))) (pe_c cTrue hr (by decide) rfl (pa_cons (pv 6) (pa_cons (pv 4) (pa_cons (pv 7) pa_nil)))) (nomark _))))) (pss_one (ps_ret pe_bl)) pss_nil))))))))))
    (pss_one (ps_ret pe_bl)))), ?_⟩
  refine ⟨_, rfl, a, ns, rfl, hS, fun b d H1 s1 nb xb => ?_⟩
  refine ⟨4, rfl, by decide, by decide, for_range (lo := 0) (n := 4) (fun i σ H' => ∃ t k fo fu st va, σ = [some (.ref a), some (.ref b), t, k, fo, fu, st, va] ∧ BoxAt H' b d) ⟨none, none, none, none, none, none, rfl, xb⟩ ?_ ?_⟩
  · rintro i σ H2 hi ⟨t, k, fo, fu, st, va, rfl, x2⟩
    refine ⟨_, rfl, b, d, rfl, x2, fun kv H3 b3 x3 k3 => ⟨_, rfl, _, rfl, b, d, kv, rfl, x3, k3, fun v f H4 b4 x4 hf fi => ?_⟩⟩
    have k4 := k3.tk (b4.tk x3)
    refine ⟨fun σ' H' => ∃ (v : V) (f : Fm), σ' = [some (.ref a), some (.ref b), some (.int (0 + (i : Int))), some kv, some v, fu, st, va] ∧ But b H4 H' ∧ BoxAt H' b d ∧ FmAt K H' v f ∧ f.ct ≤ 33 ∧ f.dp ≤ 17 ∧ f.nm.length ≤ 66 ∧ ∀ x ∈ f.nm, x ∈ N8, ?_, ?_⟩
    · have c1 : f.ct ≤ 32 := fi.ct
      have c2 : f.dp ≤ 16 := fi.dp
      have c3 := fi.nm
      have c4 := fi.n8
      refine ⟨_, rfl, b, d, 2, rfl, x4, by decide, fun r H5 _ _ b5 x5 => ⟨rfl, _, rfl, ite2 (fun _ => ?_) (fun _ => ?_)⟩⟩
      · refine ⟨_, rfl, l2, fun p np => ⟨.ref p, .neg f, rfl, b5.trans (.new _ np), x5.new np, mk_neg (hf.tk (b5.tk x4)) np, ?_, ?_, ?_, c4⟩⟩
        · show 1 + f.ct ≤ 33; omega
        · show 1 + f.dp ≤ 17; omega
        · show f.nm.length ≤ 66; omega
      · exact ⟨v, f, rfl, b5, x5, hf.tk (b5.tk x4), by omega, by omega, by omega, c4⟩
    clear hf fi
    rintro σ' H5 ⟨v, f, rfl, b5, x5, hf, c1, c2, c3, c4⟩
    have k5 := k4.tk (b5.tk x4)
    refine ⟨_, rfl, v, f, rfl, hf, by omega, fun fv H6 s6 hg => ?_⟩
    have e1 := Fm.ct_tr f false
    have e2 := Fm.dp_tr f false
    have e3 := Fm.nm_tr f false
    have e4 := Fm.nnf_tr f false
    have e5 := Fm.bd_tr f false
    have e6 := Fm.fr_tr f false
    have e7 : ∀ m rs e, Fm.tv m rs (Fm.tr f false) e = Fm.tv m rs f e := fun m rs e => by rw [Fm.tv_tr]; cases Fm.tv m rs f e <;> rfl
    generalize Fm.tr f false = g at *
    have n8g : ∀ x ∈ g.nm, x ∈ N8 := by rw [e3]; exact c4
    have lng : g.nm.length ≤ 66 := by rw [e3]; exact c3
    refine ⟨_, rfl, fv, g, rfl, hg, by omega, by omega, fun H7 s7 => ⟨true, rfl, ?_⟩⟩
    refine ⟨_, rfl, fv, g, rfl, hg.tk (.of_same s7), by omega, e4, fun H8 s8 => ⟨true, rfl, ?_⟩⟩
    have s68 := s7.trans s8
    refine ⟨_, rfl, fv, g, rfl, hg.tk (.of_same s68), by omega, fun H9 s9 => ⟨_, rfl, v, f, rfl, hf.tk (.of_same ((s6.trans s68).trans s9)), by omega, fun HA sA => ⟨rfl, false, ?_, ?_⟩⟩⟩
    · rw [e5]; simp
    have s6A := s68.trans (s9.trans sA)
    refine ⟨_, rfl, fv, g, rfl, hg.tk (.of_same s6A), by omega, by omega, fun l ys HB sB hl up mem len => ⟨_, rfl, v, f, rfl, hf.tk (.of_same (s6.trans (s6A.trans sB))), by omega, by omega, fun l' ys' HC sC hl' up' mem' len' => ?_⟩⟩
    have ey : ys' = ys := Tx.up_one up' up fun x => (mem' x).trans (by rw [mem x, e6])
    subst ey
    have oky : ∀ x ∈ ys', PyData.strOk x = true := fun x hx => ok8 x (c4 x (fr_sub f ((mem' x).mp hx)))
    refine ⟨_, _, .lst (SqL.of (sC _ _ hl)) (Da.dp_strs _), .lst (SqL.of hl') (Da.dp_strs _), Da.shaped_strs _ oky, Da.shaped_strs _ oky, false, ?_, ?_⟩
    · rw [Da.eqv_list]; rfl
    have s6C := s6A.trans (sB.trans sC)
    have s5C := s6.trans s6C
    have x6 := x5.same s5C
    refine ⟨_, rfl, _, rfl, _, rfl, b, d, 3, rfl, x6, by decide, fun r HD r0 r1 bD xD => ⟨_, _, rfl, rfl, b, d, kv, (1 + r).toNat, ?_, xD, (k5.tk (.of_same s5C)).tk (bD.tk x6), by omega, fun sv rels HE bE xE hs => ?_⟩⟩
    · show [V.ref b, kv, V.int (1 + r)] = _
      rw [show ((1 + r).toNat : Int) = 1 + r by omega]
    have hs0 := hs
    obtain ⟨sa, stt, sus, rfl, hs1, hs2, hs3⟩ := hs
    refine ⟨_, rfl, _, rfl, sa, _, _, _, rfl, rfl, hs1, at_of (j := 1) rfl rfl, b, d, _, rfl, xE, by omega, fun da kvs HF bF xF ha hl8 hv => ?_⟩
    have tDF : Tk K HC HF := ((bD.trans bE).trans bF).tk x6
    have hfF := (hf.tk (.of_same s5C)).tk tDF
    have hgF := (hg.tk (.of_same s6C)).tk tDF
    refine ⟨_, rfl, v, f, rfl, hfF, by omega, by omega, fun HG sG => ⟨_, _, rfl, rfl, _, rfl, ite2 (fun _ => ?_) (fun _ => ?_)⟩⟩
    · have hsG := (hs0.tk (bF.tk xE)).tk (.of_same sG)
      refine ⟨_, rfl, _, rfl, _, rfl, .ref sa, fv, da, (1 + r).toNat, rels, kvs, eOf kvs, g, rfl, hsG, hgF.tk (.of_same sG), by omega, n8g, by omega, sG _ _ ha, hl8, vals_of hv, by omega, fun HH sH => ?_⟩
      refine ⟨_, rfl, _, rfl, _, rfl, .ref sa, v, da, (1 + r).toNat, rels, kvs, eOf kvs, f, rfl, hsG.tk (.of_same sH), hfF.tk (.of_same (sG.trans sH)), by omega, c4, by omega, sH _ _ (sG _ _ ha), hl8, vals_of hv, by omega, fun HI sI => ⟨rfl, false, ?_, ?_⟩⟩
      · rw [e7]; simp
      · exact ⟨_, _, _, _, _, _, rfl, xF.same (sG.trans (sH.trans sI))⟩
    · exact ⟨_, _, _, _, _, _, rfl, xF.same sG⟩
  · rintro σ H2 ⟨t, k, fo, fu, st, va, rfl, x2⟩
    exact q H2
end
end K1

set_option Elab.async false
set_option linter.all false
set_option maxRecDepth 100000
set_option maxHeartbeats 4000000
namespace K1
open PySem L2 Fo
open C8 (Cal pe_c pss_cut)
section
variable {P : Program} {w : World} {K : PySem.W.Frag} {mg : Str → Option Value} {base : Heap}
theorem vac {k : Nat} {f : Addr} {fd : FuncData} {ps : List Str} {sp : Sp} (no : ∀ vs H Q E, ¬ sp vs H Q E) : FnOk P w K mg base CX0 k f fd ps sp :=
  ⟨fun vs H Q E h => absurd h (no vs H Q E), fun A outer s H args us vs Q E _ _ _ _ h => absurd h (no vs H Q E)⟩
section
variable {f : Addr} {fd : FuncData}
theorem cal_below (B : Bt mg) (cDraw : Cal P w K mg base 1 "_law_draw" spDraw []) (cName : Cal P w K mg base 2 "_law_name" spName []) (F : Fun K "_law_below" "_law_below" sBelow f fd) (m : mg "_law_below" = some (.ref f)) (b : Binds K fd pBelow []) :
    ∀ n, Cal P w K mg base (n + 2) "_law_below" (spBelow K n) []
  | 0 => cal_of (vac fun vs H Q E ⟨_, _, _, _, _, _, _, _, h, _⟩ => Nat.not_lt_zero _ h) m F.kp b
  | n + 1 => cal_of (ok_below B cDraw cName (cal_below B cDraw cName F m b n) F) m F.kp b
theorem cal_lrank (B : Bt mg) (F : Fun K "_law_rank" "_law_rank" sLRank f fd) (m : mg "_law_rank" = some (.ref f)) (b : Binds K fd ["formula"] []) : ∀ n, Cal P w K mg base n "_law_rank" (spLRank K n) []
  | 0 => cal_of (vac fun vs H Q E ⟨_, _, _, _, h, _⟩ => Nat.not_lt_zero _ h) m F.kp b
  | n + 1 => cal_of (ok_lrank B (cal_lrank B F m b n) F) m F.kp b
theorem cal_lfree (B : Bt mg) (F : Fun K "_law_free" "_law_free" sLFree f fd) (m : mg "_law_free" = some (.ref f)) (b : Binds K fd ["formula"] []) : ∀ n, Cal P w K mg base n "_law_free" (spLFree K n) []
  | 0 => cal_of (vac fun vs H Q E ⟨_, _, _, _, h, _⟩ => Nat.not_lt_zero _ h) m F.kp b
  | n + 1 => cal_of (ok_lfree B (cal_lfree B F m b n) F) m F.kp b
theorem cal_shaped (B : Bt mg) (F : Fun K "_law_shaped" "_law_shaped" sShaped f fd) (m : mg "_law_shaped" = some (.ref f)) (b : Binds K fd ["formula"] []) : ∀ n, Cal P w K mg base n "_law_shaped" (spShaped K n) []
  | 0 => cal_of (vac fun vs H Q E ⟨_, _, _, _, h, _⟩ => Nat.not_lt_zero _ h) m F.kp b
  | n + 1 => cal_of (ok_shaped B (cal_shaped B F m b n) F) m F.kp b
theorem cal_inward (B : Bt mg) (cI : Cal P w K mg base 1 "_law_inner" (spLInner K) []) (F : Fun K "_law_inward" "_law_inward" sInward f fd) (m : mg "_law_inward" = some (.ref f)) (b : Binds K fd ["formula"] []) : ∀ n, Cal P w K mg base (n + 1) "_law_inward" (spInward K n) []
  | 0 => cal_of (vac fun vs H Q E ⟨_, _, _, _, h, _⟩ => Nat.not_lt_zero _ h) m F.kp b
  | n + 1 => cal_of (ok_inward B cI (cal_inward B cI F m b n) F) m F.kp b
theorem cal_bound (B : Bt mg) (cI : Cal P w K mg base 1 "_law_inner" (spLInner K) []) (F : Fun K "_law_bound" "_law_bound" sBound f fd) (m : mg "_law_bound" = some (.ref f)) (b : Binds K fd ["formula"] []) : ∀ n, Cal P w K mg base (n + 1) "_law_bound" (spBound K n) []
  | 0 => cal_of (vac fun vs H Q E ⟨_, _, _, _, h, _⟩ => Nat.not_lt_zero _ h) m F.kp b
  | n + 1 => cal_of (ok_bound B cI (cal_bound B cI F m b n) F) m F.kp b
theorem cal_true (B : Bt mg) (F : Fun K "_law_true" "_law_true" sTrue f fd) (m : mg "_law_true" = some (.ref f)) (b : Binds K fd pTrue []) : ∀ n, Cal P w K mg base n "_law_true" (spTrue K n) []
  | 0 => cal_of (vac fun vs H Q E ⟨_, _, _, _, _, _, _, _, _, _, _, h, _⟩ => Nat.not_lt_zero _ h) m F.kp b
  | n + 1 => cal_of (ok_true B (cal_true B F m b n) F) m F.kp b
end
theorem opp_of {dO : Addr} {es : Array DictEntry} {n : Nat} (lO : K.lookup dO = some { cls := .type "dict", data := .dict es n }) (kl : PySem.W.KeysLit w.params es.toList)
    (o1 : ∃ t, PySem.W.nsIn K dO "and" = some (some (.str "or" t))) (o2 : ∃ t, PySem.W.nsIn K dO "or" = some (some (.str "and" t))) (o3 : ∃ t, PySem.W.nsIn K dO "some" = some (some (.str "all" t))) (o4 : ∃ t, PySem.W.nsIn K dO "all" = some (some (.str "some" t))) : Opp K w dO := by
  obtain ⟨t1, o1⟩ := o1
  obtain ⟨t2, o2⟩ := o2
  obtain ⟨t3, o3⟩ := o3
  obtain ⟨t4, o4⟩ := o4
  refine ⟨fun b => ?_, fun b => ?_⟩
  · cases b with
    | true => exact ⟨es, n, _, lO, kl, o1, _, rfl⟩
    | false => exact ⟨es, n, _, lO, kl, o2, _, rfl⟩
  · cases b with
    | true => exact ⟨es, n, _, lO, kl, o3, _, rfl⟩
    | false => exact ⟨es, n, _, lO, kl, o4, _, rfl⟩
end
end K1

set_option Elab.async false
set_option linter.all false
set_option maxRecDepth 100000
set_option maxHeartbeats 4000000
namespace K1
open PySem L2 Fo
open C8 (Cal pe_c pss_cut)
theorem all_mk {l : PySem.W.OpenLaw} {w : World} {K : PySem.W.Frag} {h : Heap} {mg : Str → Option Value} {fa f0 f1 f2 f3 f4 f5 f6 f7 f8 f9 f10 f11 f12 f13 f14 f15 f16 f17 f18 f19 f20 f21 f22 f23 : Addr} (X : K.In h) (G : h.Ns mainGlobals mg) (hfa : mg "law" = some (.ref fa))
    {od0 an0 od1 an1 od2 an2 od3 an3 od4 an4 od5 an5 od6 an6 od7 an7 od8 an8 od9 an9 od10 an10 od11 an11 od12 an12 od13 an13 od14 an14 od15 an15 od16 an16 od17 an17 od18 an18 od19 an19 od20 an20 od21 an21 od22 an22 od23 an23 : Option Addr} {sl0 sl1 sl2 sl3 sl4 sl5 sl6 sl7 sl8 sl9 sl10 sl11 sl12 sl13 sl14 sl15 sl16 sl17 sl18 sl19 sl20 sl21 sl22 sl23 : Array (Option Value)} {oc0 kV0 dc0 pm0 cd0 ct0 oc1 kV1 dc1 pm1 cd1 ct1 oc2 kV2 dc2 pm2 cd2 ct2 oc3 kV3 dc3 pm3 cd3 ct3 oc4 kV4 dc4 pm4 cd4 ct4 oc5 kV5 dc5 pm5 cd5 ct5 oc6 kV6 dc6 pm6 cd6 ct6 oc7 kV7 dc7 pm7 cd7 ct7 oc8 kV8 dc8 pm8 cd8 ct8 oc9 kV9 dc9 pm9 cd9 ct9 oc10 kV10 dc10 pm10 cd10 ct10 oc11 kV11 dc11 pm11 cd11 ct11 oc12 kV12 dc12 pm12 cd12 ct12 oc13 kV13 dc13 pm13 cd13 ct13 oc14 kV14 dc14 pm14 cd14 ct14 oc15 kV15 dc15 pm15 cd15 ct15 oc16 kV16 dc16 pm16 cd16 ct16 oc17 kV17 dc17 pm17 cd17 ct17 oc18 kV18 dc18 pm18 cd18 ct18 oc19 kV19 dc19 pm19 cd19 ct19 oc20 kV20 dc20 pm20 cd20 ct20 oc21 kV21 dc21 pm21 cd21 ct21 oc22 kV22 dc22 pm22 cd22 ct22 oc23 kV23 dc23 pm23 cd23 ct23 : Value}
    (a0 : PySem.W.nsIn K mainGlobals "inner" = some (some (.ref f0))) (l0 : K.lookup f0 = some ⟨oc0, od0, .func (PySem.W.fnOf "inner" "inner" (defArgs sInner) (defBody sInner) (defScope sInner) .none kV0 dc0 pm0 an0 cd0 ct0), sl0⟩) (c0 : PySem.W.codeIn K cd0 "inner" = true) (k0 : PySem.W.keepIn K (.ref f0) = true)
    (a1 : PySem.W.nsIn K mainGlobals "handed_down" = some (some (.ref f1))) (l1 : K.lookup f1 = some ⟨oc1, od1, .func (PySem.W.fnOf "handed_down" "handed_down" (defArgs sHanded) (defBody sHanded) (defScope sHanded) .none kV1 dc1 pm1 an1 cd1 ct1), sl1⟩) (c1 : PySem.W.codeIn K cd1 "handed_down" = true) (k1 : PySem.W.keepIn K (.ref f1) = true)
    (a2 : PySem.W.nsIn K mainGlobals "denied_within" = some (some (.ref f2))) (l2 : K.lookup f2 = some ⟨oc2, od2, .func (PySem.W.fnOf "denied_within" "denied_within" (defArgs sDeniedW) (defBody sDeniedW) (defScope sDeniedW) .none kV2 dc2 pm2 an2 cd2 ct2), sl2⟩) (c2 : PySem.W.codeIn K cd2 "denied_within" = true) (k2 : PySem.W.keepIn K (.ref f2) = true)
    (a3 : PySem.W.nsIn K mainGlobals "turned" = some (some (.ref f3))) (l3 : K.lookup f3 = some ⟨oc3, od3, .func (PySem.W.fnOf "turned" "turned" (defArgs sTurned) (defBody sTurned) (defScope sTurned) .none kV3 dc3 pm3 an3 cd3 ct3), sl3⟩) (c3 : PySem.W.codeIn K cd3 "turned" = true) (k3 : PySem.W.keepIn K (.ref f3) = true)
    (a4 : PySem.W.nsIn K mainGlobals "turned_one" = some (some (.ref f4))) (l4 : K.lookup f4 = some ⟨oc4, od4, .func (PySem.W.fnOf "turned_one" "turned_one" (defArgs sOne) (defBody sOne) (defScope sOne) .none kV4 dc4 pm4 an4 cd4 ct4), sl4⟩) (c4 : PySem.W.codeIn K cd4 "turned_one" = true) (k4 : PySem.W.keepIn K (.ref f4) = true)
    (a5 : PySem.W.nsIn K mainGlobals "_law_inner" = some (some (.ref f5))) (l5 : K.lookup f5 = some ⟨oc5, od5, .func (PySem.W.fnOf "_law_inner" "_law_inner" (defArgs sLInner) (defBody sLInner) (defScope sLInner) .none kV5 dc5 pm5 an5 cd5 ct5), sl5⟩) (c5 : PySem.W.codeIn K cd5 "_law_inner" = true) (k5 : PySem.W.keepIn K (.ref f5) = true)
    (a6 : PySem.W.nsIn K mainGlobals "_law_cell" = some (some (.ref f6))) (l6 : K.lookup f6 = some ⟨oc6, od6, .func (PySem.W.fnOf "_law_cell" "_law_cell" (defArgs sCell) (defBody sCell) (defScope sCell) .none kV6 dc6 pm6 an6 cd6 ct6), sl6⟩) (c6 : PySem.W.codeIn K cd6 "_law_cell" = true) (k6 : PySem.W.keepIn K (.ref f6) = true)
    (a7 : PySem.W.nsIn K mainGlobals "_law_digits" = some (some (.ref f7))) (l7 : K.lookup f7 = some ⟨oc7, od7, .func (PySem.W.fnOf "_law_digits" "_law_digits" (defArgs sDigits) (defBody sDigits) (defScope sDigits) .none kV7 dc7 pm7 an7 cd7 ct7), sl7⟩) (c7 : PySem.W.codeIn K cd7 "_law_digits" = true) (k7 : PySem.W.keepIn K (.ref f7) = true)
    (a8 : PySem.W.nsIn K mainGlobals "_law_box" = some (some (.ref f8))) (l8 : K.lookup f8 = some ⟨oc8, od8, .func (PySem.W.fnOf "_law_box" "_law_box" (defArgs sBox) (defBody sBox) (defScope sBox) .none kV8 dc8 pm8 an8 cd8 ct8), sl8⟩) (c8 : PySem.W.codeIn K cd8 "_law_box" = true) (k8 : PySem.W.keepIn K (.ref f8) = true)
    (a9 : PySem.W.nsIn K mainGlobals "_law_draw" = some (some (.ref f9))) (l9 : K.lookup f9 = some ⟨oc9, od9, .func (PySem.W.fnOf "_law_draw" "_law_draw" (defArgs sDraw) (defBody sDraw) (defScope sDraw) .none kV9 dc9 pm9 an9 cd9 ct9), sl9⟩) (c9 : PySem.W.codeIn K cd9 "_law_draw" = true) (k9 : PySem.W.keepIn K (.ref f9) = true)
    (a10 : PySem.W.nsIn K mainGlobals "_law_kinds" = some (some (.ref f10))) (l10 : K.lookup f10 = some ⟨oc10, od10, .func (PySem.W.fnOf "_law_kinds" "_law_kinds" (defArgs sKinds) (defBody sKinds) (defScope sKinds) .none kV10 dc10 pm10 an10 cd10 ct10), sl10⟩) (c10 : PySem.W.codeIn K cd10 "_law_kinds" = true) (k10 : PySem.W.keepIn K (.ref f10) = true)
    (a11 : PySem.W.nsIn K mainGlobals "_law_name" = some (some (.ref f11))) (l11 : K.lookup f11 = some ⟨oc11, od11, .func (PySem.W.fnOf "_law_name" "_law_name" (defArgs sName) (defBody sName) (defScope sName) .none kV11 dc11 pm11 an11 cd11 ct11), sl11⟩) (c11 : PySem.W.codeIn K cd11 "_law_name" = true) (k11 : PySem.W.keepIn K (.ref f11) = true)
    (a12 : PySem.W.nsIn K mainGlobals "_law_formula" = some (some (.ref f12))) (l12 : K.lookup f12 = some ⟨oc12, od12, .func (PySem.W.fnOf "_law_formula" "_law_formula" (defArgs sFormula) (defBody sFormula) (defScope sFormula) .none kV12 dc12 pm12 an12 cd12 ct12), sl12⟩) (c12 : PySem.W.codeIn K cd12 "_law_formula" = true) (k12 : PySem.W.keepIn K (.ref f12) = true)
    (a13 : PySem.W.nsIn K mainGlobals "_law_below" = some (some (.ref f13))) (l13 : K.lookup f13 = some ⟨oc13, od13, .func (PySem.W.fnOf "_law_below" "_law_below" (defArgs sBelow) (defBody sBelow) (defScope sBelow) .none kV13 dc13 pm13 an13 cd13 ct13), sl13⟩) (c13 : PySem.W.codeIn K cd13 "_law_below" = true) (k13 : PySem.W.keepIn K (.ref f13) = true)
    (a14 : PySem.W.nsIn K mainGlobals "_law_free" = some (some (.ref f14))) (l14 : K.lookup f14 = some ⟨oc14, od14, .func (PySem.W.fnOf "_law_free" "_law_free" (defArgs sLFree) (defBody sLFree) (defScope sLFree) .none kV14 dc14 pm14 an14 cd14 ct14), sl14⟩) (c14 : PySem.W.codeIn K cd14 "_law_free" = true) (k14 : PySem.W.keepIn K (.ref f14) = true)
    (a15 : PySem.W.nsIn K mainGlobals "_law_tuples" = some (some (.ref f15))) (l15 : K.lookup f15 = some ⟨oc15, od15, .func (PySem.W.fnOf "_law_tuples" "_law_tuples" (defArgs sTuples) (defBody sTuples) (defScope sTuples) .none kV15 dc15 pm15 an15 cd15 ct15), sl15⟩) (c15 : PySem.W.codeIn K cd15 "_law_tuples" = true) (k15 : PySem.W.keepIn K (.ref f15) = true)
    (a16 : PySem.W.nsIn K mainGlobals "_law_structure" = some (some (.ref f16))) (l16 : K.lookup f16 = some ⟨oc16, od16, .func (PySem.W.fnOf "_law_structure" "_law_structure" (defArgs sStruct) (defBody sStruct) (defScope sStruct) .none kV16 dc16 pm16 an16 cd16 ct16), sl16⟩) (c16 : PySem.W.codeIn K cd16 "_law_structure" = true) (k16 : PySem.W.keepIn K (.ref f16) = true)
    (a17 : PySem.W.nsIn K mainGlobals "_law_values" = some (some (.ref f17))) (l17 : K.lookup f17 = some ⟨oc17, od17, .func (PySem.W.fnOf "_law_values" "_law_values" (defArgs sValues) (defBody sValues) (defScope sValues) .none kV17 dc17 pm17 an17 cd17 ct17), sl17⟩) (c17 : PySem.W.codeIn K cd17 "_law_values" = true) (k17 : PySem.W.keepIn K (.ref f17) = true)
    (a18 : PySem.W.nsIn K mainGlobals "_law_rank" = some (some (.ref f18))) (l18 : K.lookup f18 = some ⟨oc18, od18, .func (PySem.W.fnOf "_law_rank" "_law_rank" (defArgs sLRank) (defBody sLRank) (defScope sLRank) .none kV18 dc18 pm18 an18 cd18 ct18), sl18⟩) (c18 : PySem.W.codeIn K cd18 "_law_rank" = true) (k18 : PySem.W.keepIn K (.ref f18) = true)
    (a19 : PySem.W.nsIn K mainGlobals "_law_true" = some (some (.ref f19))) (l19 : K.lookup f19 = some ⟨oc19, od19, .func (PySem.W.fnOf "_law_true" "_law_true" (defArgs sTrue) (defBody sTrue) (defScope sTrue) .none kV19 dc19 pm19 an19 cd19 ct19), sl19⟩) (c19 : PySem.W.codeIn K cd19 "_law_true" = true) (k19 : PySem.W.keepIn K (.ref f19) = true)
    (a20 : PySem.W.nsIn K mainGlobals "_law_inward" = some (some (.ref f20))) (l20 : K.lookup f20 = some ⟨oc20, od20, .func (PySem.W.fnOf "_law_inward" "_law_inward" (defArgs sInward) (defBody sInward) (defScope sInward) .none kV20 dc20 pm20 an20 cd20 ct20), sl20⟩) (c20 : PySem.W.codeIn K cd20 "_law_inward" = true) (k20 : PySem.W.keepIn K (.ref f20) = true)
    (a21 : PySem.W.nsIn K mainGlobals "_law_bound" = some (some (.ref f21))) (l21 : K.lookup f21 = some ⟨oc21, od21, .func (PySem.W.fnOf "_law_bound" "_law_bound" (defArgs sBound) (defBody sBound) (defScope sBound) .none kV21 dc21 pm21 an21 cd21 ct21), sl21⟩) (c21 : PySem.W.codeIn K cd21 "_law_bound" = true) (k21 : PySem.W.keepIn K (.ref f21) = true)
    (a22 : PySem.W.nsIn K mainGlobals "_law_shaped" = some (some (.ref f22))) (l22 : K.lookup f22 = some ⟨oc22, od22, .func (PySem.W.fnOf "_law_shaped" "_law_shaped" (defArgs sShaped) (defBody sShaped) (defScope sShaped) .none kV22 dc22 pm22 an22 cd22 ct22), sl22⟩) (c22 : PySem.W.codeIn K cd22 "_law_shaped" = true) (k22 : PySem.W.keepIn K (.ref f22) = true)
    (a23 : PySem.W.nsIn K mainGlobals "law" = some (some (.ref f23))) (l23 : K.lookup f23 = some ⟨oc23, od23, .func (PySem.W.fnOf "law" "law" (defArgs sLaw) (defBody sLaw) (defScope sLaw) .none kV23 dc23 pm23 an23 cd23 ct23), sl23⟩) (c23 : PySem.W.codeIn K cd23 "law" = true) (k23 : PySem.W.keepIn K (.ref f23) = true)
    {dO : Addr} {esO : Array DictEntry} {nO : Nat} {t1 t2 t3 t4 : Tok}
    (aO : PySem.W.nsIn K mainGlobals "OPPOSITES" = some (some (.ref dO)))
    (lO : K.lookup dO = some { cls := .type "dict", data := .dict esO nO })
    (kl : PySem.W.KeysLit w.params esO.toList)
    (o1 : PySem.W.nsIn K dO "and" = some (some (.str "or" t1)))
    (o2 : PySem.W.nsIn K dO "or" = some (some (.str "and" t2)))
    (o3 : PySem.W.nsIn K dO "some" = some (some (.str "all" t3)))
    (o4 : PySem.W.nsIn K dO "all" = some (some (.str "some" t4)))
    (z_len : PySem.W.nsIn K mainGlobals "len" = some none)
    (z_max : PySem.W.nsIn K mainGlobals "max" = some none)
    (z_int : PySem.W.nsIn K mainGlobals "int" = some none)
    (z_tuple : PySem.W.nsIn K mainGlobals "tuple" = some none)
    (z_list : PySem.W.nsIn K mainGlobals "list" = some none)
    (z_set : PySem.W.nsIn K mainGlobals "set" = some none)
    (z_sorted : PySem.W.nsIn K mainGlobals "sorted" = some none)
    (z_range : PySem.W.nsIn K mainGlobals "range" = some none)
    (z_isinstance : PySem.W.nsIn K mainGlobals "isinstance" = some none)
    (z_dict : PySem.W.nsIn K mainGlobals "dict" = some none)
    (z_str : PySem.W.nsIn K mainGlobals "str" = some none)
    : ∃ fd : FuncData, (∀ (s : Shared) (v : Value), BindsTo s fd ⟨[v], []⟩ [("script", v)]) ∧ ∀ base : Heap, K.In base → base.Ns mainGlobals mg → FnOk l.prog w K mg base CX0 21 fa fd ["script"] (spLaw K) := by
  have e := hfa.symm.trans (PySem.W.mg_of X G a23)
  cases e
  have B : Bt mg := ⟨PySem.W.mg_none_of X G z_len, PySem.W.mg_none_of X G z_max, PySem.W.mg_none_of X G z_int, PySem.W.mg_none_of X G z_tuple, PySem.W.mg_none_of X G z_list, PySem.W.mg_none_of X G z_set, PySem.W.mg_none_of X G z_sorted, PySem.W.mg_none_of X G z_range, PySem.W.mg_none_of X G z_isinstance, PySem.W.mg_none_of X G z_dict, PySem.W.mg_none_of X G z_str⟩
  have F0 := fun_mk (st := sInner) l0 c0 k0
  have b0 := F0.binds (ps := ["formula"]) fun _ _ _ _ _ _ us hl => match us, hl with | [_], _ => rfl
  have m0 := PySem.W.mg_of X G a0
  have F1 := fun_mk (st := sHanded) l1 c1 k1
  have b1 := F1.binds (ps := ["formula", "first", "below"]) fun _ _ _ _ _ _ us hl => match us, hl with | [_, _, _], _ => rfl
  have m1 := PySem.W.mg_of X G a1
  have F2 := fun_mk (st := sDeniedW) l2 c2 k2
  have b2 := F2.binds (ps := ["formula", "denied"]) fun _ _ _ _ _ _ us hl => match us, hl with | [_, _], _ => rfl
  have m2 := PySem.W.mg_of X G a2
  have F3 := fun_mk (st := sTurned) l3 c3 k3
  have b3 := F3.binds (ps := ["formula"]) fun _ _ _ _ _ _ us hl => match us, hl with | [_], _ => rfl
  have m3 := PySem.W.mg_of X G a3
  have F4 := fun_mk (st := sOne) l4 c4 k4
  have b4 := F4.binds (ps := ["formula", "denied", "rows"]) fun _ _ _ _ _ _ us hl => match us, hl with | [_, _, _], _ => rfl
  have m4 := PySem.W.mg_of X G a4
  have F5 := fun_mk (st := sLInner) l5 c5 k5
  have b5 := F5.binds (ps := ["formula"]) fun _ _ _ _ _ _ us hl => match us, hl with | [_], _ => rfl
  have m5 := PySem.W.mg_of X G a5
  have F6 := fun_mk (st := sCell) l6 c6 k6
  have b6 := F6.binds (ps := ["script", "k"]) fun _ _ _ _ _ _ us hl => match us, hl with | [_, _], _ => rfl
  have m6 := PySem.W.mg_of X G a6
  have F7 := fun_mk (st := sDigits) l7 c7 k7
  have b7 := F7.binds (ps := ["script", "first", "last"]) fun _ _ _ _ _ _ us hl => match us, hl with | [_, _, _], _ => rfl
  have m7 := PySem.W.mg_of X G a7
  have F8 := fun_mk (st := sBox) l8 c8 k8
  have b8 := F8.binds (ps := ["script", "first", "last"]) fun _ _ _ _ _ _ us hl => match us, hl with | [_, _, _], _ => rfl
  have m8 := PySem.W.mg_of X G a8
  have F9 := fun_mk (st := sDraw) l9 c9 k9
  have b9 := F9.binds (ps := ["box", "many"]) fun _ _ _ _ _ _ us hl => match us, hl with | [_, _], _ => rfl
  have m9 := PySem.W.mg_of X G a9
  have F10 := fun_mk (st := sKinds) l10 c10 k10
  have b10 := F10.binds (ps := ["box"]) fun _ _ _ _ _ _ us hl => match us, hl with | [_], _ => rfl
  have m10 := PySem.W.mg_of X G a10
  have F11 := fun_mk (st := sName) l11 c11 k11
  have b11 := F11.binds (ps := ["box"]) fun _ _ _ _ _ _ us hl => match us, hl with | [_], _ => rfl
  have m11 := PySem.W.mg_of X G a11
  have F12 := fun_mk (st := sFormula) l12 c12 k12
  have b12 := F12.binds (ps := ["box", "kinds", "room"]) fun _ _ _ _ _ _ us hl => match us, hl with | [_, _, _], _ => rfl
  have m12 := PySem.W.mg_of X G a12
  have F13 := fun_mk (st := sBelow) l13 c13 k13
  have b13 := F13.binds (ps := ["box", "kinds", "room", "left"]) fun _ _ _ _ _ _ us hl => match us, hl with | [_, _, _, _], _ => rfl
  have m13 := PySem.W.mg_of X G a13
  have F14 := fun_mk (st := sLFree) l14 c14 k14
  have b14 := F14.binds (ps := ["formula"]) fun _ _ _ _ _ _ us hl => match us, hl with | [_], _ => rfl
  have m14 := PySem.W.mg_of X G a14
  have F15 := fun_mk (st := sTuples) l15 c15 k15
  have b15 := F15.binds (ps := ["many", "places"]) fun _ _ _ _ _ _ us hl => match us, hl with | [_, _], _ => rfl
  have m15 := PySem.W.mg_of X G a15
  have F16 := fun_mk (st := sStruct) l16 c16 k16
  have b16 := F16.binds (ps := ["box", "kinds", "many"]) fun _ _ _ _ _ _ us hl => match us, hl with | [_, _, _], _ => rfl
  have m16 := PySem.W.mg_of X G a16
  have F17 := fun_mk (st := sValues) l17 c17 k17
  have b17 := F17.binds (ps := ["box", "many"]) fun _ _ _ _ _ _ us hl => match us, hl with | [_, _], _ => rfl
  have m17 := PySem.W.mg_of X G a17
  have F18 := fun_mk (st := sLRank) l18 c18 k18
  have b18 := F18.binds (ps := ["formula"]) fun _ _ _ _ _ _ us hl => match us, hl with | [_], _ => rfl
  have m18 := PySem.W.mg_of X G a18
  have F19 := fun_mk (st := sTrue) l19 c19 k19
  have b19 := F19.binds (ps := ["structure", "formula", "values"]) fun _ _ _ _ _ _ us hl => match us, hl with | [_, _, _], _ => rfl
  have m19 := PySem.W.mg_of X G a19
  have F20 := fun_mk (st := sInward) l20 c20 k20
  have b20 := F20.binds (ps := ["formula"]) fun _ _ _ _ _ _ us hl => match us, hl with | [_], _ => rfl
  have m20 := PySem.W.mg_of X G a20
  have F21 := fun_mk (st := sBound) l21 c21 k21
  have b21 := F21.binds (ps := ["formula"]) fun _ _ _ _ _ _ us hl => match us, hl with | [_], _ => rfl
  have m21 := PySem.W.mg_of X G a21
  have F22 := fun_mk (st := sShaped) l22 c22 k22
  have b22 := F22.binds (ps := ["formula"]) fun _ _ _ _ _ _ us hl => match us, hl with | [_], _ => rfl
  have m22 := PySem.W.mg_of X G a22
  have F23 := fun_mk (st := sLaw) l23 c23 k23
  refine ⟨PySem.W.fnOf "law" "law" (defArgs sLaw) (defBody sLaw) (defScope sLaw) .none kV23 dc23 pm23 an23 cd23 ct23, fun s v => .of_eq rfl, fun base _ _ => ?_⟩
  have hO := PySem.W.mg_of X G aO
  have op := opp_of (w := w) lO kl ⟨_, o1⟩ ⟨_, o2⟩ ⟨_, o3⟩ ⟨_, o4⟩
  have cCell := cal_of (ok_cell (P := l.prog) (w := w) (base := base) B F6) m6 F6.kp b6
  have cDigits := cal_of (ok_digits B cCell F7) m7 F7.kp b7
  have cBox := cal_of (ok_box cDigits F8) m8 F8.kp b8
  have cDraw := cal_of (ok_draw (P := l.prog) (w := w) (base := base) B F9) m9 F9.kp b9
  have cName := cal_of (ok_name cDraw F11) m11 F11.kp b11
  have cKinds := cal_of (ok_kinds cDraw F10) m10 F10.kp b10
  have cBelow := cal_below B cDraw cName F13 m13 b13 17
  have cFormula := cal_of (ok_formula cBelow F12) m12 F12.kp b12
  have cInner := cal_of (ok_inner (P := l.prog) (w := w) (base := base) B F0) m0 F0.kp b0
  have cOne := cal_of (ok_one (P := l.prog) (w := w) (base := base) B hO op F4) m4 F4.kp b4
  have hBN : C8.CalAt l.prog w K mg base 1 _ (spDeniedW K) := ⟨⟨_, _, ok_deniedw (P := l.prog) (w := w) (base := base) B F2, F2.kp, b2⟩⟩
  have cH := cal_of (ok_handed stB (fun _ _ _ _ _ => trivial) hBN B cInner F1) m1 F1.kp b1
  have cTurned := cal_of (ok_turned B cInner cOne m2 cH F3) m3 F3.kp b3
  have cLInner := cal_of (ok_linner (P := l.prog) (w := w) (base := base) B F5) m5 F5.kp b5
  have cLRank := cal_lrank (P := l.prog) (w := w) (base := base) B F18 m18 b18 19
  have cLFree := cal_lfree (P := l.prog) (w := w) (base := base) B F14 m14 b14 19
  have cShaped := cal_shaped (P := l.prog) (w := w) (base := base) B F22 m22 b22 19
  have cInward := cal_inward B cLInner F20 m20 b20 19
  have cBound := cal_bound B cLInner F21 m21 b21 19
  have cTrue := cal_true (P := l.prog) (w := w) (base := base) B F19 m19 b19 19
  have cTuples := cal_of (ok_tuples (P := l.prog) (w := w) (base := base) B F15) m15 F15.kp b15
  have cStruct := cal_of (ok_struct B cDraw cTuples F16) m16 F16.kp b16
  have cValues := cal_of (ok_values B cDraw F17) m17 F17.kp b17
  exact ok_law B cBox cKinds cFormula cDraw cTurned cShaped cInward cBound cLFree cStruct cValues cLRank cTrue F23
theorem walk {l : PySem.W.OpenLaw} {q : Program} {loose : List Str} {XP : (Str → Option Value) → Heap → Prop} {YP : World → Heap → Prop} {d : DefRec} {K : Params → PySem.W.Frag} (hn : l.most = some 63) (hdf : d.params.defaults = [])
    (hY : ∀ (w : World) (h : Heap), YP w h → (K w.params).In h)
    (F : ∀ (w : World) (mg : Str → Option Value) (fa : Addr) (h : Heap), (K w.params).In h → h.Ns mainGlobals mg → mg d.name = some (.ref fa) →
      ∃ fd : FuncData, (∀ (s : Shared) (u : Value), BindsTo s fd ⟨[u], []⟩ [("script", u)]) ∧ ∀ base : Heap, (K w.params).In base → base.Ns mainGlobals mg → FnOk l.prog w (K w.params) mg base CX0 21 fa fd ["script"] (spLaw (K w.params))) :
    PySem.W.WalkO q loose XP YP l.row.toRowW d [] (fun f vs => PySem.call f vs) :=
  L2.walk_of (n := 63) (k := 21) (x := "script") (CX := fun _ => CX0) (sp := fun w => spLaw (K w.params)) hn (by decide) hdf ⟨rfl, by decide, by decide⟩ hY F (fun _ _ a ns hl _ hS => ⟨a, ns, rfl, hS, hl, fun _ => rfl⟩) fun _ _ _ _ _ z => z
end K1

open PySem PySem.W PyProof.Rows in
set_option maxRecDepth 100000 in
set_option maxHeartbeats 0 in
theorem PySem.Challenge.cw_finitestructures_k01_negations_go_inward_holds : PySem.Challenge.rw_finitestructures_k01_negations_go_inward.Holds := by
  w_on; o_law; k_head; (case hw => w_witness2)
  k_fill
  refine K1.walk (l := PySem.Challenge.rw_finitestructures_k01_negations_go_inward) rfl rfl (fun w h Y => PySem.W.kIn_of Y) ?F
  case F =>
    intro w mg fa h KX G hmg
    refine' K1.all_mk (w := w) KX G hmg ?a0 ?l0 ?c0 ?k0 ?a1 ?l1 ?c1 ?k1 ?a2 ?l2 ?c2 ?k2 ?a3 ?l3 ?c3 ?k3 ?a4 ?l4 ?c4 ?k4 ?a5 ?l5 ?c5 ?k5 ?a6 ?l6 ?c6 ?k6 ?a7 ?l7 ?c7 ?k7 ?a8 ?l8 ?c8 ?k8 ?a9 ?l9 ?c9 ?k9 ?a10 ?l10 ?c10 ?k10 ?a11 ?l11 ?c11 ?k11 ?a12 ?l12 ?c12 ?k12 ?a13 ?l13 ?c13 ?k13 ?a14 ?l14 ?c14 ?k14 ?a15 ?l15 ?c15 ?k15 ?a16 ?l16 ?c16 ?k16 ?a17 ?l17 ?c17 ?k17 ?a18 ?l18 ?c18 ?k18 ?a19 ?l19 ?c19 ?k19 ?a20 ?l20 ?c20 ?k20 ?a21 ?l21 ?c21 ?k21 ?a22 ?l22 ?c22 ?k22 ?a23 ?l23 ?c23 ?k23 ?aO ?lO ?kl ?o1 ?o2 ?o3 ?o4 ?z_len ?z_max ?z_int ?z_tuple ?z_list ?z_set ?z_sorted ?z_range ?z_isinstance ?z_dict ?z_str
    (case a0 => k_is)
    (case l0 => k_is)
    (case c0 => k_is)
    (case k0 => k_is)
    (case a1 => k_is)
    (case l1 => k_is)
    (case c1 => k_is)
    (case k1 => k_is)
    (case a2 => k_is)
    (case l2 => k_is)
    (case c2 => k_is)
    (case k2 => k_is)
    (case a3 => k_is)
    (case l3 => k_is)
    (case c3 => k_is)
    (case k3 => k_is)
    (case a4 => k_is)
    (case l4 => k_is)
    (case c4 => k_is)
    (case k4 => k_is)
    (case a5 => k_is)
    (case l5 => k_is)
    (case c5 => k_is)
    (case k5 => k_is)
    (case a6 => k_is)
    (case l6 => k_is)
    (case c6 => k_is)
    (case k6 => k_is)
    (case a7 => k_is)
    (case l7 => k_is)
    (case c7 => k_is)
    (case k7 => k_is)
    (case a8 => k_is)
    (case l8 => k_is)
    (case c8 => k_is)
    (case k8 => k_is)
    (case a9 => k_is)
    (case l9 => k_is)
    (case c9 => k_is)
    (case k9 => k_is)
    (case a10 => k_is)
    (case l10 => k_is)
    (case c10 => k_is)
    (case k10 => k_is)
    (case a11 => k_is)
    (case l11 => k_is)
    (case c11 => k_is)
    (case k11 => k_is)
    (case a12 => k_is)
    (case l12 => k_is)
    (case c12 => k_is)
    (case k12 => k_is)
    (case a13 => k_is)
    (case l13 => k_is)
    (case c13 => k_is)
    (case k13 => k_is)
    (case a14 => k_is)
    (case l14 => k_is)
    (case c14 => k_is)
    (case k14 => k_is)
    (case a15 => k_is)
    (case l15 => k_is)
    (case c15 => k_is)
    (case k15 => k_is)
    (case a16 => k_is)
    (case l16 => k_is)
    (case c16 => k_is)
    (case k16 => k_is)
    (case a17 => k_is)
    (case l17 => k_is)
    (case c17 => k_is)
    (case k17 => k_is)
    (case a18 => k_is)
    (case l18 => k_is)
    (case c18 => k_is)
    (case k18 => k_is)
    (case a19 => k_is)
    (case l19 => k_is)
    (case c19 => k_is)
    (case k19 => k_is)
    (case a20 => k_is)
    (case l20 => k_is)
    (case c20 => k_is)
    (case k20 => k_is)
    (case a21 => k_is)
    (case l21 => k_is)
    (case c21 => k_is)
    (case k21 => k_is)
    (case a22 => k_is)
    (case l22 => k_is)
    (case c22 => k_is)
    (case k22 => k_is)
    (case a23 => k_is)
    (case l23 => k_is)
    (case c23 => k_is)
    (case k23 => k_is)
    (case aO => k_is)
    (case lO => k_is)
    (case kl => exact ⟨⟨_, _, rfl, rfl⟩, ⟨_, _, rfl, rfl⟩, ⟨_, _, rfl, rfl⟩, ⟨_, _, rfl, rfl⟩, trivial⟩)
    (case o1 => k_is)
    (case o2 => k_is)
    (case o3 => k_is)
    (case o4 => k_is)
    (case z_len => k_is)
    (case z_max => k_is)
    (case z_int => k_is)
    (case z_tuple => k_is)
    (case z_list => k_is)
    (case z_set => k_is)
    (case z_sorted => k_is)
    (case z_range => k_is)
    (case z_isinstance => k_is)
    (case z_dict => k_is)
    (case z_str => k_is)
